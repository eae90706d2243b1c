import Derived.Lib.BufferOwn
import Derived.Test.YtdpnpcjbjjjceaaGreatDoorBOPOpen
set_option linter.unusedSimpArgs false
set_option linter.unusedVariables false
namespace Go.Proofs.YtdpnpcjbjjjceaaGreatDoor.O
open Go.RowKit Go.Builtin
set_option maxRecDepth 20000

def OpenOk (w : World) (conns : Nat) (e : Ending) (w' : World) : Prop := ∃ p g h r, e = .returned (.tuple #[.pointer (some ⟨p, 0, none⟩), .bool true]) ∧ w.heap.size ≤ p ∧ w.heap.size ≤ g ∧ w.heap.size ≤ h ∧ w.heap.size ≤ r ∧ Both w' p g h r conns 0 ∧ Below w.heap.size w w'

set_option maxRecDepth 100000 in
set_option maxHeartbeats 2000000 in
theorem open_err (w : World) (b off n c : Nat) (sp : Option Nat) (conns : Int) (ts : List Ten) (hl : ts.length = n) (hT : TensAt w b off ts) (hsp : n = 0 ∨ sp = none) (hn : n ≤ 3518437208780)
    (x : Int) (hx : x = 1 ∨ x = 2) (cP : ∀ W : World, TensAt W w.heap.size 0 ts → w.heap.size < W.heap.size → Calls Tryz.prog 18 #[.slice (some ⟨w.heap.size, 0, none⟩) n (n + 8), .int .i64 conns] W fun e w' => e = .returned (.tuple #[.pointer none, .int .i64 x]) ∧ Below W.heap.size W w')
    (cR : ∀ W : World, TensAt W b off ts → Calls Tryz.prog 37 #[.slice (some ⟨b, off, sp⟩) n c, .int .i64 conns] W fun e w' => e = .returned (.tuple #[.pointer none, .int .i64 x]) ∧ Below W.heap.size W w') :
    Calls Tryz.prog 13 #[.slice (some ⟨b, off, sp⟩) n c, .int .i64 conns] w fun e w' => e = .returned (.tuple #[.pointer none, .bool true]) ∧ Below w.heap.size w w' := by
  have cH := handed_c w b off n c sp ts hl hT hsp hn
  have HL : Hid (ts.length = n) := hl
  have HT : Hid (TensAt w b off ts) := hT
  clear hl hT
  have kx : (x == 0) = false := beq_eq_false_iff_ne.2 (by omega)
  have kx2 : ¬ x = 0 := by omega
  have kx3 : (x != 0) = true := bne_iff_ne.2 kx2
  go_enter Tryz.func13, Tryz.ntmps13
  go_wp2_with (go_at_call 36; refine cH.mono ?_; rintro e w1 ⟨rfl, hg1, hb1⟩)
  have hs1 : w.heap.size < w1.heap.size := (Array.getElem?_eq_some_iff.1 hg1).1
  have hT1 : TensAt w1 w.heap.size 0 ts := by
    intro j v hj
    refine heap_cell hg1 _ ?_
    have hlt : j < (flatT ts).length := (List.getElem?_eq_some_iff.1 hj).1
    rw [List.getElem?_toArray, Nat.zero_add]
    unfold rowT
    rw [flatT_append, flatT_append, List.append_assoc, List.getElem?_append_left hlt]
    exact hj
  refine (cP w1 hT1 hs1).mono ?_
  rintro e w2 ⟨rfl, hb2⟩
  go_wp2_with fail
  have hb12 : Below w.heap.size w w2 := hb1.trans (hb2.mono hb1.size)
  refine (cR w2 (HT.out.belowAny hb12)).mono ?_
  rintro e w3 ⟨rfl, hb3⟩
  go_wp2_with fail
  have hb13 : Below w.heap.size w w3 := hb12.trans (hb3.mono hb12.size)
  have hg3 : w3.heap[w.heap.size]? = some (.cells (flatT (rowT ts 8)).toArray 32 (0, 0)) := (hb3.block _ (Nat.lt_of_lt_of_le hs1 hb2.size)).trans ((hb2.block _ hs1).trans hg1)
  refine (still_c w3 w.heap.size b off n c sp ts HL.out (HT.out.belowAny hb13) hsp hn hg3).mono ?_
  rintro e w4 ⟨rfl, hb4⟩
  have hb14 : Below w.heap.size w w4 := hb13.trans (hb4.mono hb13.size)
  have hs3 : w.heap.size < w3.heap.size := Nat.lt_of_lt_of_le (Nat.lt_of_lt_of_le hs1 hb2.size) hb3.size
  have hs4 : w.heap.size < w4.heap.size := Nat.lt_of_lt_of_le hs3 hb4.size
  have hg4 : w4.heap[w.heap.size]? = some (.cells (flatT (rowT ts 8)).toArray 32 (0, 0)) := (hb4.block _ hs3).trans hg3
  have HB : Hid (Below w.heap.size w w4) := hb14
  have HG4 : Hid (w4.heap[w.heap.size]? = some (.cells (flatT (rowT ts 8)).toArray 32 (0, 0))) := hg4
  clear hg1 hT1 hg3 hg4 hb14 hb13 hb12 hb1 hb2 hb3 hb4
  go_wp2_with fail
  go_loopw [12] (fun i wx => ∃ k : Nat, k ≤ n ∧ i = .int .i64 k ∧ Hid (∃ R : List Ten, R.length = n + 8 ∧ wx.heap[w.heap.size]? = some (.cells (flatT R).toArray 32 (0, 0))) ∧ Hid (w4.grownBy wx (some w.heap.size))) (fun i _ => n - (intOf i).toNat)
  case atStart => exact ⟨0, by omega, rfl, ⟨rowT ts 8, rowT_len ts n 8 HL.out (by omega), HG4.out⟩, World.grownBy.refl _ _⟩
  case round =>
    obtain ⟨k, hk, rfl, hR, hgr⟩ := hrel
    obtain ⟨R, hRl, hRg⟩ := hR.out
    have hgx : w.heap.size < wr.heap.size := Nat.lt_of_lt_of_le hs4 hgr.out.size
    by_cases hlt : k < n
    · have klt : (k : Int) < n := by omega
      obtain ⟨y, hy⟩ : ∃ y, R[k]? = some y := ⟨_, List.getElem?_eq_getElem (by rw [hRl]; omega)⟩
      obtain ⟨z0, z1, z2⟩ := flatT_get R k y hy
      have c0 : wr.cell? ⟨w.heap.size, k * 3, none⟩ = some (.string y.n) := heap_cell hRg _ (by rw [List.getElem?_toArray]; exact z0)
      have c1 : wr.cell? ⟨w.heap.size, k * 3 + 1, none⟩ = some (.string y.k) := heap_cell hRg _ (by rw [List.getElem?_toArray]; exact z1)
      have c2 : wr.cell? ⟨w.heap.size, k * 3 + 2, none⟩ = some (.int .i64 y.q) := heap_cell hRg _ (by rw [List.getElem?_toArray]; exact z2)
      have f0 := heap_frozen hRg (k * 3)
      have f1 := heap_frozen hRg (k * 3 + 1)
      have f2 := heap_frozen hRg (k * 3 + 2)
      have HRl : Hid (R.length = n + 8) := hRl
      have HRg : Hid (wr.heap[w.heap.size]? = some (.cells (flatT R).toArray 32 (0, 0))) := hRg
      clear z0 z1 z2 hy hRl hRg hR
      go_wp2_with (go_at_call 39; refine (mark_b _).mono ?_; rintro e w5 ⟨rfl, hs5, hb5⟩; have d0 := (hb5.cell (p := ⟨w.heap.size, k * 3, none⟩) hgx).trans c0; have d1 := (hb5.cell (p := ⟨w.heap.size, k * 3 + 1, none⟩) hgx).trans c1; have d2 := (hb5.cell (p := ⟨w.heap.size, k * 3 + 2, none⟩) hgx).trans c2; have g0 := (hb5.frozen (p := ⟨w.heap.size, k * 3, none⟩) hgx).trans f0; have g1 := (hb5.frozen (p := ⟨w.heap.size, k * 3 + 1, none⟩) hgx).trans f1; have g2 := (hb5.frozen (p := ⟨w.heap.size, k * 3 + 2, none⟩) hgx).trans f2; have HB5 : Hid (Below wr.heap.size wr w5) := hb5; clear hb5 c0 c1 c2 f0 f1 f2)
      go_roundw
      case rel =>
        refine ⟨k + 1, by omega, by go_num, ⟨R.set k markT, by rw [List.length_set]; exact HRl.out, ?_⟩, ?_⟩
        · exact store3 w5 w.heap.size R k markT ((HB5.out.block _ hgx).trans HRg.out) (by rw [HRl.out]; omega)
        · exact Lib.grownBy_setB (Lib.grownBy_setB (Lib.grownBy_setB (Lib.grownBy_below hgr.out HB5.out) _ _) _ _) _ _
      case measure => simp [intOf] <;> omega
    · have klt : ¬ (k : Int) < n := by omega
      clear hR
      go_wp2
      go_ret2
      exact ⟨rfl, HB.out.grown hgr.out HB.out.size (fun j hj => by cases hj; exact Nat.le_refl _)⟩

set_option maxRecDepth 100000 in
set_option maxHeartbeats 2000000 in
theorem open_ok (w : World) (b off n c : Nat) (sp : Option Nat) (conns : Nat) (ts : List Ten) (hl : ts.length = n) (hT : TensAt w b off ts) (hsp : n = 0 ∨ sp = none) (hn : n ≤ 3518437208780)
    (cP : ∀ W : World, TensAt W w.heap.size 0 ts → w.heap.size < W.heap.size → Calls Tryz.prog 18 #[.slice (some ⟨w.heap.size, 0, none⟩) n (n + 8), .int .i64 conns] W fun e w' => ∃ g h, e = .returned (.tuple #[.pointer (some ⟨g, 0, none⟩), .int .i64 0]) ∧ W.heap.size ≤ g ∧ W.heap.size ≤ h ∧ psrv w' g h conns 0 ∧ Below W.heap.size W w')
    (cR : ∀ W : World, TensAt W b off ts → Calls Tryz.prog 37 #[.slice (some ⟨b, off, sp⟩) n c, .int .i64 conns] W fun e w' => ∃ r tv, e = .returned (.tuple #[.pointer (some ⟨r, 0, none⟩), .int .i64 0]) ∧ W.heap.size ≤ r ∧ w'.heap[r]? = some (.cells (srvL tv conns 0).toArray 102 (0, 0)) ∧ Below W.heap.size W w') :
    Calls Tryz.prog 13 #[.slice (some ⟨b, off, sp⟩) n c, .int .i64 conns] w fun e w' => OpenOk w conns e w' := by
  have cH := handed_c w b off n c sp ts hl hT hsp hn
  have HL : Hid (ts.length = n) := hl
  have HT : Hid (TensAt w b off ts) := hT
  clear hl hT
  go_enter Tryz.func13, Tryz.ntmps13
  go_wp2_with (go_at_call 36; refine cH.mono ?_; rintro e w1 ⟨rfl, hg1, hb1⟩)
  have hs1 : w.heap.size < w1.heap.size := (Array.getElem?_eq_some_iff.1 hg1).1
  have hT1 : TensAt w1 w.heap.size 0 ts := by
    intro j v hj
    refine heap_cell hg1 _ ?_
    have hlt : j < (flatT ts).length := (List.getElem?_eq_some_iff.1 hj).1
    rw [List.getElem?_toArray, Nat.zero_add]
    unfold rowT
    rw [flatT_append, flatT_append, List.append_assoc, List.getElem?_append_left hlt]
    exact hj
  refine (cP w1 hT1 hs1).mono ?_
  rintro e w2 ⟨g, h, rfl, hg, hh, hps, hb2⟩
  go_wp2_with fail
  have hb12 : Below w.heap.size w w2 := hb1.trans (hb2.mono hb1.size)
  refine (cR w2 (HT.out.belowAny hb12)).mono ?_
  rintro e w3 ⟨r, tv, rfl, hr, hrs, hb3⟩
  go_wp2_with fail
  have hb13 : Below w.heap.size w w3 := hb12.trans (hb3.mono hb12.size)
  have hg3 : w3.heap[w.heap.size]? = some (.cells (flatT (rowT ts 8)).toArray 32 (0, 0)) := (hb3.block _ (Nat.lt_of_lt_of_le hs1 hb2.size)).trans ((hb2.block _ hs1).trans hg1)
  refine (still_c w3 w.heap.size b off n c sp ts HL.out (HT.out.belowAny hb13) hsp hn hg3).mono ?_
  rintro e w4 ⟨rfl, hb4⟩
  have hb14 : Below w.heap.size w w4 := hb13.trans (hb4.mono hb13.size)
  have hs3 : w.heap.size < w3.heap.size := Nat.lt_of_lt_of_le (Nat.lt_of_lt_of_le hs1 hb2.size) hb3.size
  have hs4 : w.heap.size < w4.heap.size := Nat.lt_of_lt_of_le hs3 hb4.size
  have hg4 : w4.heap[w.heap.size]? = some (.cells (flatT (rowT ts 8)).toArray 32 (0, 0)) := (hb4.block _ hs3).trans hg3
  have HB : Hid (Below w.heap.size w w4) := hb14
  have HG4 : Hid (w4.heap[w.heap.size]? = some (.cells (flatT (rowT ts 8)).toArray 32 (0, 0))) := hg4
  have s12 := hb1.size
  have s23 := hb2.size
  have s34 := hb3.size
  have s45 := hb4.size
  have hpl := psrv_lt hps
  have HP : Hid (psrv w4 g h conns 0) := psrv_old hps ((hb4.block _ (by omega)).trans (hb3.block _ hpl.1)) ((hb4.block _ (by omega)).trans (hb3.block _ hpl.2))
  have hrl : r < w3.heap.size := (Array.getElem?_eq_some_iff.1 hrs).1
  have HR : Hid (rsrv w4 r conns 0) := ⟨tv, (hb4.block _ hrl).trans hrs⟩
  clear hps hrs
  clear hg1 hT1 hg3 hg4 hb14 hb13 hb12 hb1 hb2 hb3 hb4
  go_wp2_with fail
  go_loopw [12] (fun i wx => ∃ k : Nat, k ≤ n ∧ i = .int .i64 k ∧ Hid (∃ R : List Ten, R.length = n + 8 ∧ wx.heap[w.heap.size]? = some (.cells (flatT R).toArray 32 (0, 0))) ∧ Hid (w4.grownBy wx (some w.heap.size))) (fun i _ => n - (intOf i).toNat)
  case atStart => exact ⟨0, by omega, rfl, ⟨rowT ts 8, rowT_len ts n 8 HL.out (by omega), HG4.out⟩, World.grownBy.refl _ _⟩
  case round =>
    obtain ⟨k, hk, rfl, hR, hgr⟩ := hrel
    obtain ⟨R, hRl, hRg⟩ := hR.out
    have hgx : w.heap.size < wr.heap.size := Nat.lt_of_lt_of_le hs4 hgr.out.size
    by_cases hlt : k < n
    · have klt : (k : Int) < n := by omega
      obtain ⟨y, hy⟩ : ∃ y, R[k]? = some y := ⟨_, List.getElem?_eq_getElem (by rw [hRl]; omega)⟩
      obtain ⟨z0, z1, z2⟩ := flatT_get R k y hy
      have c0 : wr.cell? ⟨w.heap.size, k * 3, none⟩ = some (.string y.n) := heap_cell hRg _ (by rw [List.getElem?_toArray]; exact z0)
      have c1 : wr.cell? ⟨w.heap.size, k * 3 + 1, none⟩ = some (.string y.k) := heap_cell hRg _ (by rw [List.getElem?_toArray]; exact z1)
      have c2 : wr.cell? ⟨w.heap.size, k * 3 + 2, none⟩ = some (.int .i64 y.q) := heap_cell hRg _ (by rw [List.getElem?_toArray]; exact z2)
      have f0 := heap_frozen hRg (k * 3)
      have f1 := heap_frozen hRg (k * 3 + 1)
      have f2 := heap_frozen hRg (k * 3 + 2)
      have HRl : Hid (R.length = n + 8) := hRl
      have HRg : Hid (wr.heap[w.heap.size]? = some (.cells (flatT R).toArray 32 (0, 0))) := hRg
      clear z0 z1 z2 hy hRl hRg hR
      go_wp2_with (go_at_call 39; refine (mark_b _).mono ?_; rintro e w5 ⟨rfl, hs5, hb5⟩; have d0 := (hb5.cell (p := ⟨w.heap.size, k * 3, none⟩) hgx).trans c0; have d1 := (hb5.cell (p := ⟨w.heap.size, k * 3 + 1, none⟩) hgx).trans c1; have d2 := (hb5.cell (p := ⟨w.heap.size, k * 3 + 2, none⟩) hgx).trans c2; have g0 := (hb5.frozen (p := ⟨w.heap.size, k * 3, none⟩) hgx).trans f0; have g1 := (hb5.frozen (p := ⟨w.heap.size, k * 3 + 1, none⟩) hgx).trans f1; have g2 := (hb5.frozen (p := ⟨w.heap.size, k * 3 + 2, none⟩) hgx).trans f2; have HB5 : Hid (Below wr.heap.size wr w5) := hb5; clear hb5 c0 c1 c2 f0 f1 f2)
      go_roundw
      case rel =>
        refine ⟨k + 1, by omega, by go_num, ⟨R.set k markT, by rw [List.length_set]; exact HRl.out, ?_⟩, ?_⟩
        · exact store3 w5 w.heap.size R k markT ((HB5.out.block _ hgx).trans HRg.out) (by rw [HRl.out]; omega)
        · exact Lib.grownBy_setB (Lib.grownBy_setB (Lib.grownBy_setB (Lib.grownBy_below hgr.out HB5.out) _ _) _ _) _ _
      case measure => simp [intOf] <;> omega
    · have klt : ¬ (k : Int) < n := by omega
      clear hR
      have hgw := hgr.out.size
      have hbw : Below w.heap.size w wr := HB.out.grown hgr.out HB.out.size (fun j hj => by cases hj; exact Nat.le_refl _)
      have gk : ∀ j, j < w4.heap.size → j ≠ w.heap.size → wr.heap[j]? = w4.heap[j]? := fun j h1 h2 => hgr.out.block j h1 (fun e => h2 (by cases e; rfl))
      have HPw : Hid (psrv wr g h conns 0) := psrv_old HP.out (gk g (by omega) (by omega)) (gk h (by omega) (by omega))
      have HRw : Hid (rsrv wr r conns 0) := rsrv_old HR.out (gk r (by omega) (by omega))
      clear hRg gk
      go_wp2
      refine bodyPost_ret (v := .tuple #[.pointer (some ⟨wr.heap.size, 0, none⟩), .bool true]) (by simp [results, Tryz.results13, go_sem]) rfl ⟨wr.heap.size, g, h, r, rfl, by omega, by omega, by omega, by omega, ⟨alloc_at _ _ _ rfl, ?_, ?_, by omega, by omega, by omega, by omega⟩, hbw.alloc hbw.size _⟩
      · exact psrv_old HPw.out (alloc_same _ _ _ (by omega)) (alloc_same _ _ _ (by omega))
      · exact rsrv_old HRw.out (alloc_same _ _ _ (by omega))

theorem open_nil (w : World) (conns : Int) : Calls Tryz.prog 13 #[.slice none 0 0, .int .i64 conns] w fun e w' => e = .returned (.tuple #[.pointer none, .bool true]) ∧ w' = w := by
  have cH := handed_nil w
  have cP := pOpen_err none 0 0 conns w (fun w' => w' = w) (byName_len none 0 0 w (Or.inl rfl) (by decide))
  have cR := rOpen_len none 0 0 conns w (Or.inl rfl) (by decide)
  have cS := still_nil w
  go_enter Tryz.func13, Tryz.ntmps13
  go_wp2_with (first
    | (go_at_call 36; refine cH.mono ?_; rintro e w1 ⟨rfl, hw⟩; replace hw := hw.symm; subst hw)
    | (go_at_call 18; refine cP.mono ?_; rintro e w1 ⟨rfl, hw⟩; replace hw := hw.symm; subst hw)
    | (go_at_call 37; refine cR.mono ?_; rintro e w1 ⟨rfl, hw⟩; replace hw := hw.symm; subst hw)
    | (go_at_call 38; refine cS.mono ?_; rintro e w1 ⟨rfl, hw⟩; replace hw := hw.symm; subst hw))
  refine wp_loop_rounds 1 ?_
  rw [rounds_succ]
  go_wp2
  go_ret2
  exact ⟨rfl, rfl⟩
end Go.Proofs.YtdpnpcjbjjjceaaGreatDoor.O
namespace Go.Proofs.YtdpnpcjbjjjceaaGreatDoor.O
open Go.RowKit Go.Builtin
set_option maxRecDepth 20000

theorem opened_quiet (w : World) (v : Value) (conns : Int) (P : World → Prop) (cO : Calls Tryz.prog 13 #[v, .int .i64 conns] w fun e w' => e = .returned (.tuple #[.pointer none, .bool true]) ∧ P w') :
    Calls Tryz.prog 3 #[v, .int .i64 conns] w fun e w' => e = .returned (.bool true) ∧ P w' := by
  go_enter Tryz.func3, Tryz.ntmps3
  go_wp2_with (go_at_call 13; refine cO.mono ?_; rintro e w1 ⟨rfl, hp⟩)
  go_ret
  exact ⟨rfl, hp⟩

set_option maxRecDepth 100000 in
set_option maxHeartbeats 2000000 in
theorem opened_dials (w : World) (v : Value) (conns : Nat) (h1 : 1 ≤ conns) (h8 : conns ≤ 8) (cO : Calls Tryz.prog 13 #[v, .int .i64 conns] w fun e w' => OpenOk w conns e w') :
    Calls Tryz.prog 3 #[v, .int .i64 conns] w fun e w' => e = .returned (.bool true) ∧ Below w.heap.size w w' := by
  go_enter Tryz.func3, Tryz.ntmps3
  go_wp2_with (go_at_call 13; refine cO.mono ?_; rintro e w1 ⟨p, g, h, r, rfl, hp, hg, hh, hr, B1, hb1⟩)
  refine (doesTake_c w1 p g h r conns h1 B1).mono ?_
  rintro e w2 ⟨rfl, B2, hb2⟩
  have HB2 : Hid (Below w.heap.size w w2) := hb1.trans (hb2.mono hb1.size)
  have HO2 : Hid (Both w2 p g h r conns 0) := B2
  clear hb1 hb2 B1 B2
  go_wp2_with fail
  go_loopw [8] (fun i wx => ∃ k d : Nat, k ≤ 9 ∧ d ≤ conns ∧ i = .int .i64 k ∧ Hid (Both wx p g h r conns d) ∧ Hid (Below w.heap.size w wx)) (fun i _ => 9 - (intOf i).toNat)
  case atStart => exact ⟨0, 0, by omega, by omega, rfl, HO2.out, HB2.out⟩
  case round =>
    obtain ⟨k, d, hk, hd, rfl, hB, hbx⟩ := hrel
    by_cases hlt : k < 9
    · have klt : (k : Int) < 9 := by omega
      go_wp2_with (go_at_call 14; refine (doesDial_c _ p g h r conns d hd h8 hB.out).mono ?_; rintro e w3 ⟨rfl, B3, hf3, hs3, ho3⟩)
      go_roundw
      case rel =>
        refine ⟨k + 1, if (d : Int) < conns then d + 1 else d, by omega, by split <;> omega, by go_num, B3, ?_⟩
        exact hbx.out.trans ⟨ho3.1, ho3.2.1, ho3.2.2, hs3, fun j hj => hf3 j (by omega) (by omega) (Nat.lt_of_lt_of_le hj hbx.out.size)⟩
      case measure => simp [intOf] <;> omega
    · have klt : ¬ (k : Int) < 9 := by omega
      go_wp2
      go_ret
      exact ⟨rfl, hbx.out⟩

/-- the whole, of a slice that is there -/
theorem opened_c (w : World) (b off n c : Nat) (sp : Option Nat) (conns : Int) (ts : List Ten) (hl : ts.length = n) (hT : TensAt w b off ts) (hsp : n = 0 ∨ sp = none) (hn : n ≤ 3518437208780)
    (hsz : ∀ x ∈ ts, x.n.size ≤ 281474976710656 ∧ x.k.size ≤ 281474976710656) :
    Calls Tryz.prog 3 #[.slice (some ⟨b, off, sp⟩) n c, .int .i64 conns] w fun e w' => e = .returned (.bool true) ∧ Below w.heap.size w w' := by
  have hsz2 : ∀ x ∈ ts, x.n.size ≤ 9223372036854775806 ∧ x.k.size ≤ 9223372036854775806 := fun x hx => ⟨Nat.le_trans (hsz x hx).1 (by decide), Nat.le_trans (hsz x hx).2 (by decide)⟩
  by_cases hlen : n = 0 ∨ 5 < n
  · refine opened_quiet w _ conns (fun w' => Below w.heap.size w w') ?_
    refine open_err w b off n c sp conns ts hl hT hsp hn 1 (Or.inl rfl) ?_ ?_
    · intro W _ _
      exact pOpen_err _ n (n + 8) conns W _ ((byName_len _ n (n + 8) W hlen (by omega)).mono (by rintro e w' ⟨rfl, rfl⟩; exact ⟨rfl, Below.refl _ _⟩))
    · intro W _
      exact (rOpen_len _ n c conns W hlen (by omega)).mono (by rintro e w' ⟨rfl, rfl⟩; exact ⟨rfl, Below.refl _ _⟩)
  · have h1 : 1 ≤ n := by omega
    obtain rfl : sp = none := hsp.resolve_left (by omega)
    have tl : ∀ W : World, TensAt W b off ts → b < W.heap.size := fun W h => tens_lt h (by omega)
    have h5 : n ≤ 5 := by omega
    cases hok : okUpto ts n with
    | false =>
      refine opened_quiet w _ conns (fun w' => Below w.heap.size w w') ?_
      refine open_err w b off n c none conns ts hl hT hsp hn 1 (Or.inl rfl) ?_ ?_
      · intro W hTW hbW
        exact pOpen_err _ n (n + 8) conns W _ (byName_bad _ 0 n (n + 8) ts W hl hTW hbW h1 h5 hsz hok)
      · intro W hTW
        exact rOpen_loop b off n c conns ts W hl hTW (tl W hTW) h1 h5 hsz2 hok
    | true =>
      by_cases hc : conns ≤ 0 ∨ 8 < conns
      · refine opened_quiet w _ conns (fun w' => Below w.heap.size w w') ?_
        refine open_err w b off n c none conns ts hl hT hsp hn 2 (Or.inr rfl) ?_ ?_
        · intro W hTW hbW
          exact pOpen_arg _ n (n + 8) conns W (byName_ok _ 0 n (n + 8) ts W hl hTW hbW h1 h5 hsz hok) hc
        · intro W hTW
          exact rOpen_arg b off n c conns ts W hl hTW (tl W hTW) h1 h5 hsz2 hok hc
      · obtain ⟨m, rfl⟩ : ∃ m : Nat, conns = (m : Int) := ⟨conns.toNat, by omega⟩
        refine opened_dials w _ m (by omega) (by omega) ?_
        refine open_ok w b off n c none m ts hl hT hsp hn ?_ ?_
        · intro W hTW hbW
          exact pOpen_ok _ n (n + 8) m W (byName_ok _ 0 n (n + 8) ts W hl hTW hbW h1 h5 hsz hok) (by omega) (by omega)
        · intro W hTW
          exact rOpen_ok b off n c m ts W hl hTW (tl W hTW) h1 h5 hsz2 hok (by omega) (by omega)
end Go.Proofs.YtdpnpcjbjjjceaaGreatDoor.O
