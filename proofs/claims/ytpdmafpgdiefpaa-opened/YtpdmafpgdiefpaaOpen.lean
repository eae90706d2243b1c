import Derived.Test.YtpdmafpgdiefpaaDoes
import Derived.Lib.BufferOwn
namespace Go.Proofs.Ytpdmafpgdiefpaa
open Go.RowKit Go.Builtin

def OpenOk (w : World) (conns : Nat) (e : Ending) (w' : World) : Prop := ∃ p g h r, e = .returned (.tuple #[.pointer (some ⟨p, 0, none⟩), .bool true]) ∧ w.heap.size ≤ p ∧ w.heap.size ≤ g ∧ w.heap.size ≤ h ∧ w.heap.size ≤ r ∧ Both w' p g h r conns 0 ∧ Below w.heap.size w w'

set_option maxRecDepth 100000 in
set_option maxHeartbeats 2000000 in
theorem open_err (w : World) (b off n c : Nat) (sp : Option Nat) (conns : Int) (ts : List Ten) (hl : ts.length = n) (hT : TensAt w b off ts) (hsp : n = 0 ∨ sp = none) (hn : n ≤ 3518437208780)
    (x : Int) (hx : x = 1 ∨ x = 2) (cP : ∀ W : World, TensAt W w.heap.size 0 ts → w.heap.size < W.heap.size → Calls Try.prog 7 #[.slice (some ⟨w.heap.size, 0, none⟩) n (n + 8), .int .i64 conns] W fun e w' => e = .returned (.tuple #[.pointer none, .int .i64 x]) ∧ Below W.heap.size W w')
    (cR : ∀ W : World, TensAt W b off ts → Calls Try.prog 8 #[.slice (some ⟨b, off, sp⟩) n c, .int .i64 conns] W fun e w' => e = .returned (.tuple #[.pointer none, .int .i64 x]) ∧ Below W.heap.size W w') :
    Calls Try.prog 4 #[.slice (some ⟨b, off, sp⟩) n c, .int .i64 conns] w fun e w' => e = .returned (.tuple #[.pointer none, .bool true]) ∧ Below w.heap.size w w' := by
  have cH := handed_c w b off n c sp ts hl hT hsp hn
  have HL : Hid (ts.length = n) := hl
  have HT : Hid (TensAt w b off ts) := hT
  clear hl hT
  have kx : (x == 0) = false := beq_eq_false_iff_ne.2 (by omega)
  have kx2 : ¬ x = 0 := by omega
  have kx3 : (x != 0) = true := bne_iff_ne.2 kx2
  go_enter Try.func4, Try.ntmps4
  go_wp2_with (go_at_call 6; refine cH.mono ?_; rintro e w1 ⟨rfl, hg1, hb1⟩)
  have hs1 : w.heap.size < w1.heap.size := (Array.getElem?_eq_some_iff.1 hg1).1
  have hT1 : TensAt w1 w.heap.size 0 ts := by
    intro j v hj
    refine heap_cell hg1 _ ?_
    have hlt : j < (flatT ts).length := (List.getElem?_eq_some_iff.1 hj).1
    rw [List.getElem?_toArray, Nat.zero_add]
    unfold rowT
    rw [flatT_append, flatT_append, List.append_assoc, List.getElem?_append_left hlt]
    exact hj
  refine (cP w1 hT1 hs1).mono ?_
  rintro e w2 ⟨rfl, hb2⟩
  go_wp2_with fail
  have hb12 : Below w.heap.size w w2 := hb1.trans (hb2.mono hb1.size)
  refine (cR w2 (HT.out.belowAny hb12)).mono ?_
  rintro e w3 ⟨rfl, hb3⟩
  go_wp2_with fail
  have hb13 : Below w.heap.size w w3 := hb12.trans (hb3.mono hb12.size)
  have hg3 : w3.heap[w.heap.size]? = some (.cells (flatT (rowT ts 8)).toArray 40 (0, 0)) := (hb3.block _ (Nat.lt_of_lt_of_le hs1 hb2.size)).trans ((hb2.block _ hs1).trans hg1)
  refine (still_c w3 w.heap.size b off n c sp ts HL.out (HT.out.belowAny hb13) hsp hn hg3).mono ?_
  rintro e w4 ⟨rfl, hb4⟩
  have hb14 : Below w.heap.size w w4 := hb13.trans (hb4.mono hb13.size)
  have hs3 : w.heap.size < w3.heap.size := Nat.lt_of_lt_of_le (Nat.lt_of_lt_of_le hs1 hb2.size) hb3.size
  have hs4 : w.heap.size < w4.heap.size := Nat.lt_of_lt_of_le hs3 hb4.size
  have hg4 : w4.heap[w.heap.size]? = some (.cells (flatT (rowT ts 8)).toArray 40 (0, 0)) := (hb4.block _ hs3).trans hg3
  have HB : Hid (Below w.heap.size w w4) := hb14
  have HG4 : Hid (w4.heap[w.heap.size]? = some (.cells (flatT (rowT ts 8)).toArray 40 (0, 0))) := hg4
  clear hg1 hT1 hg3 hg4 hb14 hb13 hb12 hb1 hb2 hb3 hb4
  go_wp2_with fail
  go_loopw [12] (fun i wx => ∃ k : Nat, k ≤ n ∧ i = .int .i64 k ∧ Hid (∃ R : List Ten, R.length = n + 8 ∧ wx.heap[w.heap.size]? = some (.cells (flatT R).toArray 40 (0, 0))) ∧ Hid (w4.grownBy wx (some w.heap.size))) (fun i _ => n - (intOf i).toNat)
  case atStart => exact ⟨0, by omega, rfl, ⟨rowT ts 8, rowT_len ts n 8 HL.out (by omega), HG4.out⟩, World.grownBy.refl _ _⟩
  case round =>
    obtain ⟨k, hk, rfl, hR, hgr⟩ := hrel
    obtain ⟨R, hRl, hRg⟩ := hR.out
    have hgx : w.heap.size < wr.heap.size := Nat.lt_of_lt_of_le hs4 hgr.out.size
    by_cases hlt : k < n
    · have klt : (k : Int) < n := by omega
      obtain ⟨y, hy⟩ : ∃ y, R[k]? = some y := ⟨_, List.getElem?_eq_getElem (by rw [hRl]; omega)⟩
      obtain ⟨z0, z1, z2⟩ := flatT_get R k y hy
      have c0 : wr.cell? ⟨w.heap.size, k * 3, none⟩ = some (.string y.n) := heap_cell hRg _ (by rw [List.getElem?_toArray]; exact z0)
      have c1 : wr.cell? ⟨w.heap.size, k * 3 + 1, none⟩ = some (.string y.k) := heap_cell hRg _ (by rw [List.getElem?_toArray]; exact z1)
      have c2 : wr.cell? ⟨w.heap.size, k * 3 + 2, none⟩ = some (.int .i64 y.q) := heap_cell hRg _ (by rw [List.getElem?_toArray]; exact z2)
      have f0 := heap_frozen hRg (k * 3)
      have f1 := heap_frozen hRg (k * 3 + 1)
      have f2 := heap_frozen hRg (k * 3 + 2)
      have HRl : Hid (R.length = n + 8) := hRl
      have HRg : Hid (wr.heap[w.heap.size]? = some (.cells (flatT R).toArray 40 (0, 0))) := hRg
      clear z0 z1 z2 hy hRl hRg hR
      go_wp2_with (go_at_call 10; refine (mark_b _).mono ?_; rintro e w5 ⟨rfl, hs5, hb5⟩; have d0 := (hb5.cell (p := ⟨w.heap.size, k * 3, none⟩) hgx).trans c0; have d1 := (hb5.cell (p := ⟨w.heap.size, k * 3 + 1, none⟩) hgx).trans c1; have d2 := (hb5.cell (p := ⟨w.heap.size, k * 3 + 2, none⟩) hgx).trans c2; have g0 := (hb5.frozen (p := ⟨w.heap.size, k * 3, none⟩) hgx).trans f0; have g1 := (hb5.frozen (p := ⟨w.heap.size, k * 3 + 1, none⟩) hgx).trans f1; have g2 := (hb5.frozen (p := ⟨w.heap.size, k * 3 + 2, none⟩) hgx).trans f2; have HB5 : Hid (Below wr.heap.size wr w5) := hb5; clear hb5 c0 c1 c2 f0 f1 f2)
      go_roundw
      case rel =>
        refine ⟨k + 1, by omega, by go_num, ⟨R.set k markT, by rw [List.length_set]; exact HRl.out, ?_⟩, ?_⟩
        · exact store3 w5 w.heap.size R k markT ((HB5.out.block _ hgx).trans HRg.out) (by rw [HRl.out]; omega)
        · exact Lib.grownBy_setB (Lib.grownBy_setB (Lib.grownBy_setB (Lib.grownBy_below hgr.out HB5.out) _ _) _ _) _ _
      case measure => simp [intOf] <;> omega
    · have klt : ¬ (k : Int) < n := by omega
      clear hR
      go_wp2
      go_ret2
      exact ⟨rfl, HB.out.grown hgr.out HB.out.size (fun j hj => by cases hj; exact Nat.le_refl _)⟩

set_option maxRecDepth 100000 in
set_option maxHeartbeats 2000000 in
theorem open_ok (w : World) (b off n c : Nat) (sp : Option Nat) (conns : Nat) (ts : List Ten) (hl : ts.length = n) (hT : TensAt w b off ts) (hsp : n = 0 ∨ sp = none) (hn : n ≤ 3518437208780)
    (cP : ∀ W : World, TensAt W w.heap.size 0 ts → w.heap.size < W.heap.size → Calls Try.prog 7 #[.slice (some ⟨w.heap.size, 0, none⟩) n (n + 8), .int .i64 conns] W fun e w' => ∃ g h, e = .returned (.tuple #[.pointer (some ⟨g, 0, none⟩), .int .i64 0]) ∧ W.heap.size ≤ g ∧ W.heap.size ≤ h ∧ psrv w' g h conns 0 ∧ Below W.heap.size W w')
    (cR : ∀ W : World, TensAt W b off ts → Calls Try.prog 8 #[.slice (some ⟨b, off, sp⟩) n c, .int .i64 conns] W fun e w' => ∃ r tv, e = .returned (.tuple #[.pointer (some ⟨r, 0, none⟩), .int .i64 0]) ∧ W.heap.size ≤ r ∧ w'.heap[r]? = some (.cells (srvL tv conns 0).toArray 66 (0, 0)) ∧ Below W.heap.size W w') :
    Calls Try.prog 4 #[.slice (some ⟨b, off, sp⟩) n c, .int .i64 conns] w fun e w' => OpenOk w conns e w' := by
  have cH := handed_c w b off n c sp ts hl hT hsp hn
  have HL : Hid (ts.length = n) := hl
  have HT : Hid (TensAt w b off ts) := hT
  clear hl hT
  go_enter Try.func4, Try.ntmps4
  go_wp2_with (go_at_call 6; refine cH.mono ?_; rintro e w1 ⟨rfl, hg1, hb1⟩)
  have hs1 : w.heap.size < w1.heap.size := (Array.getElem?_eq_some_iff.1 hg1).1
  have hT1 : TensAt w1 w.heap.size 0 ts := by
    intro j v hj
    refine heap_cell hg1 _ ?_
    have hlt : j < (flatT ts).length := (List.getElem?_eq_some_iff.1 hj).1
    rw [List.getElem?_toArray, Nat.zero_add]
    unfold rowT
    rw [flatT_append, flatT_append, List.append_assoc, List.getElem?_append_left hlt]
    exact hj
  refine (cP w1 hT1 hs1).mono ?_
  rintro e w2 ⟨g, h, rfl, hg, hh, hps, hb2⟩
  go_wp2_with fail
  have hb12 : Below w.heap.size w w2 := hb1.trans (hb2.mono hb1.size)
  refine (cR w2 (HT.out.belowAny hb12)).mono ?_
  rintro e w3 ⟨r, tv, rfl, hr, hrs, hb3⟩
  go_wp2_with fail
  have hb13 : Below w.heap.size w w3 := hb12.trans (hb3.mono hb12.size)
  have hg3 : w3.heap[w.heap.size]? = some (.cells (flatT (rowT ts 8)).toArray 40 (0, 0)) := (hb3.block _ (Nat.lt_of_lt_of_le hs1 hb2.size)).trans ((hb2.block _ hs1).trans hg1)
  refine (still_c w3 w.heap.size b off n c sp ts HL.out (HT.out.belowAny hb13) hsp hn hg3).mono ?_
  rintro e w4 ⟨rfl, hb4⟩
  have hb14 : Below w.heap.size w w4 := hb13.trans (hb4.mono hb13.size)
  have hs3 : w.heap.size < w3.heap.size := Nat.lt_of_lt_of_le (Nat.lt_of_lt_of_le hs1 hb2.size) hb3.size
  have hs4 : w.heap.size < w4.heap.size := Nat.lt_of_lt_of_le hs3 hb4.size
  have hg4 : w4.heap[w.heap.size]? = some (.cells (flatT (rowT ts 8)).toArray 40 (0, 0)) := (hb4.block _ hs3).trans hg3
  have HB : Hid (Below w.heap.size w w4) := hb14
  have HG4 : Hid (w4.heap[w.heap.size]? = some (.cells (flatT (rowT ts 8)).toArray 40 (0, 0))) := hg4
  have s12 := hb1.size
  have s23 := hb2.size
  have s34 := hb3.size
  have s45 := hb4.size
  have hpl := psrv_lt hps
  have HP : Hid (psrv w4 g h conns 0) := psrv_old hps ((hb4.block _ (by omega)).trans (hb3.block _ hpl.1)) ((hb4.block _ (by omega)).trans (hb3.block _ hpl.2))
  have hrl : r < w3.heap.size := (Array.getElem?_eq_some_iff.1 hrs).1
  have HR : Hid (rsrv w4 r conns 0) := ⟨tv, (hb4.block _ hrl).trans hrs⟩
  clear hps hrs
  clear hg1 hT1 hg3 hg4 hb14 hb13 hb12 hb1 hb2 hb3 hb4
  go_wp2_with fail
  go_loopw [12] (fun i wx => ∃ k : Nat, k ≤ n ∧ i = .int .i64 k ∧ Hid (∃ R : List Ten, R.length = n + 8 ∧ wx.heap[w.heap.size]? = some (.cells (flatT R).toArray 40 (0, 0))) ∧ Hid (w4.grownBy wx (some w.heap.size))) (fun i _ => n - (intOf i).toNat)
  case atStart => exact ⟨0, by omega, rfl, ⟨rowT ts 8, rowT_len ts n 8 HL.out (by omega), HG4.out⟩, World.grownBy.refl _ _⟩
  case round =>
    obtain ⟨k, hk, rfl, hR, hgr⟩ := hrel
    obtain ⟨R, hRl, hRg⟩ := hR.out
    have hgx : w.heap.size < wr.heap.size := Nat.lt_of_lt_of_le hs4 hgr.out.size
    by_cases hlt : k < n
    · have klt : (k : Int) < n := by omega
      obtain ⟨y, hy⟩ : ∃ y, R[k]? = some y := ⟨_, List.getElem?_eq_getElem (by rw [hRl]; omega)⟩
      obtain ⟨z0, z1, z2⟩ := flatT_get R k y hy
      have c0 : wr.cell? ⟨w.heap.size, k * 3, none⟩ = some (.string y.n) := heap_cell hRg _ (by rw [List.getElem?_toArray]; exact z0)
      have c1 : wr.cell? ⟨w.heap.size, k * 3 + 1, none⟩ = some (.string y.k) := heap_cell hRg _ (by rw [List.getElem?_toArray]; exact z1)
      have c2 : wr.cell? ⟨w.heap.size, k * 3 + 2, none⟩ = some (.int .i64 y.q) := heap_cell hRg _ (by rw [List.getElem?_toArray]; exact z2)
      have f0 := heap_frozen hRg (k * 3)
      have f1 := heap_frozen hRg (k * 3 + 1)
      have f2 := heap_frozen hRg (k * 3 + 2)
      have HRl : Hid (R.length = n + 8) := hRl
      have HRg : Hid (wr.heap[w.heap.size]? = some (.cells (flatT R).toArray 40 (0, 0))) := hRg
      clear z0 z1 z2 hy hRl hRg hR
      go_wp2_with (go_at_call 10; refine (mark_b _).mono ?_; rintro e w5 ⟨rfl, hs5, hb5⟩; have d0 := (hb5.cell (p := ⟨w.heap.size, k * 3, none⟩) hgx).trans c0; have d1 := (hb5.cell (p := ⟨w.heap.size, k * 3 + 1, none⟩) hgx).trans c1; have d2 := (hb5.cell (p := ⟨w.heap.size, k * 3 + 2, none⟩) hgx).trans c2; have g0 := (hb5.frozen (p := ⟨w.heap.size, k * 3, none⟩) hgx).trans f0; have g1 := (hb5.frozen (p := ⟨w.heap.size, k * 3 + 1, none⟩) hgx).trans f1; have g2 := (hb5.frozen (p := ⟨w.heap.size, k * 3 + 2, none⟩) hgx).trans f2; have HB5 : Hid (Below wr.heap.size wr w5) := hb5; clear hb5 c0 c1 c2 f0 f1 f2)
      go_roundw
      case rel =>
        refine ⟨k + 1, by omega, by go_num, ⟨R.set k markT, by rw [List.length_set]; exact HRl.out, ?_⟩, ?_⟩
        · exact store3 w5 w.heap.size R k markT ((HB5.out.block _ hgx).trans HRg.out) (by rw [HRl.out]; omega)
        · exact Lib.grownBy_setB (Lib.grownBy_setB (Lib.grownBy_setB (Lib.grownBy_below hgr.out HB5.out) _ _) _ _) _ _
      case measure => simp [intOf] <;> omega
    · have klt : ¬ (k : Int) < n := by omega
      clear hR
      have hgw := hgr.out.size
      have hbw : Below w.heap.size w wr := HB.out.grown hgr.out HB.out.size (fun j hj => by cases hj; exact Nat.le_refl _)
      have gk : ∀ j, j < w4.heap.size → j ≠ w.heap.size → wr.heap[j]? = w4.heap[j]? := fun j h1 h2 => hgr.out.block j h1 (fun e => h2 (by cases e; rfl))
      have HPw : Hid (psrv wr g h conns 0) := psrv_old HP.out (gk g (by omega) (by omega)) (gk h (by omega) (by omega))
      have HRw : Hid (rsrv wr r conns 0) := rsrv_old HR.out (gk r (by omega) (by omega))
      clear hRg gk
      go_wp2
      refine bodyPost_ret (v := .tuple #[.pointer (some ⟨wr.heap.size, 0, none⟩), .bool true]) (by simp [results, Try.results4, go_sem]) rfl ⟨wr.heap.size, g, h, r, rfl, by omega, by omega, by omega, by omega, ⟨alloc_at _ _ _ rfl, ?_, ?_, by omega, by omega, by omega, by omega⟩, hbw.alloc hbw.size _⟩
      · exact psrv_old HPw.out (alloc_same _ _ _ (by omega)) (alloc_same _ _ _ (by omega))
      · exact rsrv_old HRw.out (alloc_same _ _ _ (by omega))

theorem open_nil (w : World) (conns : Int) : Calls Try.prog 4 #[.slice none 0 0, .int .i64 conns] w fun e w' => e = .returned (.tuple #[.pointer none, .bool true]) ∧ w' = w := by
  have cH := handed_nil w
  have cP := pOpen_err none 0 0 conns w (fun w' => w' = w) (byName_len none 0 0 w (Or.inl rfl) (by decide))
  have cR := rOpen_len none 0 0 conns w (Or.inl rfl) (by decide)
  have cS := still_nil w
  go_enter Try.func4, Try.ntmps4
  go_wp2_with (first
    | (go_at_call 6; refine cH.mono ?_; rintro e w1 ⟨rfl, hw⟩; replace hw := hw.symm; subst hw)
    | (go_at_call 7; refine cP.mono ?_; rintro e w1 ⟨rfl, hw⟩; replace hw := hw.symm; subst hw)
    | (go_at_call 8; refine cR.mono ?_; rintro e w1 ⟨rfl, hw⟩; replace hw := hw.symm; subst hw)
    | (go_at_call 9; refine cS.mono ?_; rintro e w1 ⟨rfl, hw⟩; replace hw := hw.symm; subst hw))
  refine wp_loop_rounds 1 ?_
  rw [rounds_succ]
  go_wp2
  go_ret2
  exact ⟨rfl, rfl⟩
end Go.Proofs.Ytpdmafpgdiefpaa
