import Derived.ProofKit
import Derived.Test.YtdpnpcjbjjjceaaGreatDoorBZ1
import Derived.Test.YtdpnpcjbjjjceaaGreatDoorBOPBase
set_option linter.unusedSimpArgs false
set_option linter.unusedVariables false
namespace Go.Proofs.YtdpnpcjbjjjceaaGreatDoor.O
open Go.RowKit Go.Builtin
set_option maxRecDepth 20000

theorem infoConnP : (Tryz.prog.info? 89).map (fun i => (i.zero, i.size, i.bytes)) = some (some (.pointer none), 1, 8) := by kernel_rfl
theorem info_parts {o : Option TypeInfo} {x : Option Value × Nat × Nat} (h : o.map (fun i => (i.zero, i.size, i.bytes)) = some x) : ∃ i, o = some i ∧ i.zero = x.1 ∧ i.size = x.2.1 ∧ i.bytes = x.2.2 := by
  cases o with
  | none => cases h
  | some i => cases h; exact ⟨i, rfl, rfl, rfl, rfl⟩
theorem made_nils (n : Nat) : (madeCells (Value.pointer none).cells (n * 1)) = Array.replicate n (Value.pointer none) := by
  apply Array.ext'
  apply List.ext_getElem?
  intro j
  by_cases hj : j < n
  · have h0 : j % 1 = 0 := Nat.mod_one j
    simp [madeCells, hj, Value.cells, h0]
  · simp [madeCells, hj]
/-- the program's server in block g: d of its connections are there -/
def psrv (w : World) (g h conns d : Nat) : Prop := g ≠ h ∧ ∃ m, w.heap[g]? = some (.cells #[.map (some m), .slice (some ⟨h, 0, none⟩) conns conns, .int .i64 0] 87 (0, 0)) ∧ ∃ cur : Array Value, w.heap[h]? = some (.cells cur 89 (0, 0)) ∧ cur.size = conns ∧ (∀ j, j < d → ∃ a : Nat, cur[j]? = some (.pointer (some ⟨a, 0, none⟩))) ∧ ∀ j, d ≤ j → j < conns → cur[j]? = some (.pointer none)

theorem pOpen_err (a : Option Addr) (n c : Nat) (conns : Int) (w : World) (P : World → Prop) (hB : Calls Tryz.prog 48 #[.slice a n c] w fun e w' => e = .returned (.tuple #[.map none, .bool false]) ∧ P w') :
    Calls Tryz.prog 18 #[.slice a n c, .int .i64 conns] w fun e w' => e = .returned (.tuple #[.pointer none, .int .i64 1]) ∧ P w' := by
  go_enter Tryz.func18, Tryz.ntmps18
  go_wp2_with (go_at_call 48; refine hB.mono ?_; rintro e w1 ⟨rfl, hp⟩)
  go_ret2
  exact ⟨rfl, hp⟩

theorem pOpen_arg (a : Option Addr) (n c : Nat) (conns : Int) (w : World) (hB : Calls Tryz.prog 48 #[.slice a n c] w fun e w' => ∃ m, e = .returned (.tuple #[.map (some m), .bool true]) ∧ Below w.heap.size w w') (hc : conns ≤ 0 ∨ 8 < conns) :
    Calls Tryz.prog 18 #[.slice a n c, .int .i64 conns] w fun e w' => e = .returned (.tuple #[.pointer none, .int .i64 2]) ∧ Below w.heap.size w w' := by
  by_cases h0 : conns < 1
  · go_enter Tryz.func18, Tryz.ntmps18
    go_wp2_with (go_at_call 48; refine hB.mono ?_; rintro e w1 ⟨m, rfl, hp⟩)
    go_ret2
    exact ⟨rfl, hp⟩
  · have h8 : 8 < conns := by omega
    go_enter Tryz.func18, Tryz.ntmps18
    go_wp2_with (go_at_call 48; refine hB.mono ?_; rintro e w1 ⟨m, rfl, hp⟩)
    go_ret2
    exact ⟨rfl, hp⟩

set_option maxRecDepth 100000 in
theorem pOpen_ok (a : Option Addr) (n c conns : Nat) (w : World) (hB : Calls Tryz.prog 48 #[.slice a n c] w fun e w' => ∃ m, e = .returned (.tuple #[.map (some m), .bool true]) ∧ Below w.heap.size w w') (h1 : 1 ≤ conns) (h8 : conns ≤ 8) :
    Calls Tryz.prog 18 #[.slice a n c, .int .i64 conns] w fun e w' => ∃ g h, e = .returned (.tuple #[.pointer (some ⟨g, 0, none⟩), .int .i64 0]) ∧ w.heap.size ≤ g ∧ w.heap.size ≤ h ∧ psrv w' g h conns 0 ∧ Below w.heap.size w w' := by
  obtain ⟨i0, hi, hz0, hz1, hz2⟩ := info_parts infoConnP
  simp only at hz0 hz1 hz2
  have k1 : ¬ (conns : Int) < 1 := by omega
  have k8 : ¬ (8 : Int) < conns := by omega
  have hm : ∀ W : World, (Instr.makeSlice 85 (.int .i64 (conns : Int)) (.int .i64 (conns : Int))).run Tryz.prog W = .ok (.slice (some ⟨W.heap.size, 0, none⟩) conns conns) (W.alloc (.cells (Array.replicate conns (Value.pointer none)) 89)) := by
    intro W
    have hm := run_make (P := Tryz.prog) W 85 89 i0 _ Tryz.underlying85 hi hz0 .i64 .i64 (conns : Int) (conns : Int) (by omega) (by omega) (by rw [hz2]; omega) (by omega)
    have e1 : ((conns : Int)).toNat = conns := by omega
    rw [e1, hz1, made_nils] at hm
    exact hm
  go_enter Tryz.func18, Tryz.ntmps18
  go_wp2_with (go_at_call 48; refine hB.mono ?_; rintro e w1 ⟨m, rfl, hp⟩)
  refine bodyPost_ret (v := .tuple #[.pointer (some ⟨w1.heap.size + 1, 0, none⟩), .int .i64 0]) (by simp [results, Tryz.results18, go_sem]) rfl ⟨w1.heap.size + 1, w1.heap.size, rfl, Nat.le_succ_of_le hp.size, hp.size, ⟨by omega, m, alloc_at _ _ _ (by simp), _, alloc_old _ _ _ _ (alloc_at _ _ _ rfl), by simp, (fun j hj => by omega), fun j _ hj => by simp [Array.getElem?_replicate, hj]⟩, (hp.alloc hp.size _).alloc (by simp; exact Nat.le_succ_of_le hp.size) _⟩
theorem index_none (w : World) (C N : Nat) (hN : N ≤ 8) (hlow : ∀ j, j < N → ∃ a : Nat, w.cell? ⟨C, j, none⟩ = some (.pointer (some ⟨a, 0, none⟩))) :
    Calls Tryz.prog 49 #[.slice (some ⟨C, 0, none⟩) N N, .pointer none] w fun e w' => e = .returned (.int .i64 (-1)) ∧ w' = w := by
  have HL := S.Hid.of hlow
  clear hlow
  go_enter Tryz.func49, Tryz.ntmps49
  go_wp2
  go_loop [8] (fun v => ∃ j : Nat, j ≤ N ∧ v = .int .i64 j) (fun v => N - (intOf v).toNat)
  case atStart => exact ⟨0, by omega, rfl⟩
  case round =>
    obtain ⟨j, hj, rfl⟩ := hrel
    by_cases hlt : j < N
    · have hjN : (j : Int) < N := by omega
      obtain ⟨a, ha⟩ := HL.out j hlt
      have he : (binOp BinOp.eql 89 (.pointer none) (.pointer (some ⟨a, 0, none⟩))).run Tryz.prog w = .ok (.bool false) w := by rfl
      go_wp2
      go_round
      case rel => exact ⟨j + 1, by omega, by go_num⟩
      case measure => simp [intOf] <;> omega
    · have hjN : ¬ (j : Int) < N := by omega
      go_wp2
      go_ret
      exact ⟨rfl, rfl⟩
theorem dial_full (w : World) (g C N : Nat) (hN : N ≤ 8) (hlow : ∀ j, j < N → ∃ a : Nat, w.cell? ⟨C, j, none⟩ = some (.pointer (some ⟨a, 0, none⟩))) (g1 : w.cell? ⟨g, 1, none⟩ = some (.slice (some ⟨C, 0, none⟩) N N)) :
    Calls Tryz.prog 19 #[.pointer (some ⟨g, 0, none⟩)] w fun e w' => e = .returned (.tuple #[.int .i64 0, .int .i64 3]) ∧ w' = w := by
  have CI := S.Hid.of (index_none w C N hN hlow)
  clear hlow
  go_enter Tryz.func19, Tryz.ntmps19
  go_wp2_with (go_at_call 49; refine CI.out.mono ?_; rintro e w1 ⟨rfl, rfl⟩)
  go_ret2
  exact ⟨rfl, rfl⟩
theorem psrv_lt {w : World} {g h conns d : Nat} (hP : psrv w g h conns d) : g < w.heap.size ∧ h < w.heap.size := by
  obtain ⟨_, m, hg, cur, hh, _⟩ := hP
  exact ⟨(Array.getElem?_eq_some_iff.1 hg).1, (Array.getElem?_eq_some_iff.1 hh).1⟩
theorem pDial_c (w : World) (g h conns d : Nat) (hd : d ≤ conns) (h8 : conns ≤ 8) (hP : psrv w g h conns d) :
    Calls Tryz.prog 19 #[.pointer (some ⟨g, 0, none⟩)] w fun e w' => e = .returned (if (d : Int) < conns then .tuple #[.int .i64 d, .int .i64 0] else .tuple #[.int .i64 0, .int .i64 3]) ∧
      psrv w' g h conns (if (d : Int) < conns then d + 1 else d) ∧ (∀ k, k ≠ h → k < w.heap.size → w'.heap[k]? = w.heap[k]?) ∧ w.heap.size ≤ w'.heap.size ∧ SameOs w w' := by
  obtain ⟨lg, lh⟩ := psrv_lt hP
  obtain ⟨hgh, m, hg, cur, hh, hs, hlo, hup⟩ := hP
  by_cases hf : d < conns
  · have k0 : (d : Int) < conns := by omega
    rw [if_pos k0, if_pos k0]
    refine (S.dialS (l := ⟨g, 0, h, 0, fun _ => 0, fun _ => 0, fun _ => 0, fun _ => 0, []⟩) h8 hf (fun j hj => ?_) (heap_cell hh d (hup d (Nat.le_refl _) hf)) (heap_frozen hh d) (heap_cell hg 1 rfl) lg lh).mono ?_
    · obtain ⟨a, ha⟩ := hlo j hj
      exact ⟨a, heap_cell hh j ha⟩
    · rintro e w' ⟨rfl, rfl⟩
      refine ⟨rfl, ⟨hgh, m, (S.dialW_old w g h d lg hgh).trans hg, _, S.dialW_C w g h d hh, by rw [Array.size_setIfInBounds]; exact hs, fun j hj => ?_, fun j hj hj2 => ?_⟩, fun k hk hl => S.dialW_old w g h d hl hk, ?_, ⟨rfl, rfl, rfl⟩⟩
      · by_cases hjd : d = j
        · subst hjd
          exact ⟨_, by rw [Array.getElem?_setIfInBounds, if_pos rfl, if_pos (by omega)]⟩
        · obtain ⟨a, ha⟩ := hlo j (by omega)
          exact ⟨a, by rw [Array.getElem?_setIfInBounds, if_neg hjd]; exact ha⟩
      · rw [Array.getElem?_setIfInBounds, if_neg (by omega)]
        exact hup j (by omega) hj2
      · have := S.dialW_size w g h d
        exact Nat.le_of_lt (Nat.lt_of_lt_of_eq (Nat.lt_succ_self _) this.symm)
  · have k0 : ¬ (d : Int) < conns := by omega
    rw [if_neg k0, if_neg k0]
    refine (dial_full w g h conns h8 (fun j hj => ?_) (heap_cell hg 1 rfl)).mono ?_
    · obtain ⟨a, ha⟩ := hlo j (by omega)
      exact ⟨a, heap_cell hh j ha⟩
    · rintro e w' ⟨rfl, rfl⟩
      exact ⟨rfl, ⟨hgh, m, hg, cur, hh, hs, hlo, hup⟩, fun _ _ _ => rfl, Nat.le_refl _, ⟨rfl, rfl, rfl⟩⟩
theorem has0_c (w : World) (g h conns : Nat) (h1 : 1 ≤ conns) (hP : psrv w g h conns 0) : Calls Tryz.prog 52 #[.pointer (some ⟨g, 0, none⟩), .int .i64 0] w fun e w' => e = .returned (.bool false) ∧ w' = w := by
  obtain ⟨hgh, m, hg, cur, hh, hs, hlo, hup⟩ := hP
  have c1 : w.cell? ⟨g, 1, none⟩ = some (.slice (some ⟨h, 0, none⟩) conns conns) := heap_cell hg 1 rfl
  have k1 : (0 : Int) < conns := by omega
  have k2 : 0 < conns := h1
  have ct : w.cell? ⟨h, 0, none⟩ = some (.pointer none) := heap_cell hh _ (hup 0 (Nat.le_refl _) k2)
  clear hg hh hlo hup
  go_enter Tryz.func52, Tryz.ntmps52
  go_wp2
  go_ret
  exact ⟨rfl, rfl⟩
theorem pTake0_c (w : World) (g h conns : Nat) (n : Int) (h1 : 1 ≤ conns) (hP : psrv w g h conns 0) : Calls Tryz.prog 21 #[.pointer (some ⟨g, 0, none⟩), .int .i64 0, .int .i64 n] w fun e w' => e = .returned (.tuple #[.string ByteArray.empty, .int .i64 4]) ∧ w' = w := by
  have c1 := has0_c w g h conns h1 hP
  clear hP
  go_enter Tryz.func21, Tryz.ntmps21
  go_wp2_with (go_at_call 52; refine c1.mono ?_; rintro e w1 ⟨rfl, hw⟩; replace hw := hw.symm; subst hw)
  go_ret2
  exact ⟨rfl, rfl⟩
end Go.Proofs.YtdpnpcjbjjjceaaGreatDoor.O
namespace Go.Proofs.YtdpnpcjbjjjceaaGreatDoor.O
open Go.RowKit Go.Builtin
set_option maxRecDepth 20000

/-- the pair in block p: the program's server in g, the reference's in r -/
def pairAt (w : World) (p g r : Nat) : Prop := w.heap[p]? = some (.cells #[.pointer (some ⟨g, 0, none⟩), .pointer (some ⟨r, 0, none⟩)] 77 (0, 0))
theorem pairAt_old {w w' : World} {p g r : Nat} (h : pairAt w p g r) (hk : w'.heap[p]? = w.heap[p]?) : pairAt w' p g r := hk.trans h
theorem psrv_old {w w' : World} {g h conns d : Nat} (hP : psrv w g h conns d) (h1 : w'.heap[g]? = w.heap[g]?) (h2 : w'.heap[h]? = w.heap[h]?) : psrv w' g h conns d := by
  obtain ⟨hgh, m, hg, cur, hh, r⟩ := hP
  exact ⟨hgh, m, h1.trans hg, cur, h2.trans hh, r⟩
theorem rsrv_old {w w' : World} {r : Nat} {conns : Int} {d : Nat} (hR : rsrv w r conns d) (h1 : w'.heap[r]? = w.heap[r]?) : rsrv w' r conns d := by
  obtain ⟨tv, hr⟩ := hR
  exact ⟨tv, h1.trans hr⟩
theorem alloc_same (w : World) (o : Obj) (k : Nat) (h : k < w.heap.size) : (w.alloc o).heap[k]? = w.heap[k]? := by
  show (w.heap.push o)[k]? = _
  rw [Array.getElem?_push, if_neg (by omega)]
theorem lt_al {w : World} {o : Obj} {k : Nat} (h : k < w.heap.size) : k < (w.alloc o).heap.size := by simp; omega
theorem rsrv_lt {w : World} {r : Nat} {conns : Int} {d : Nat} (hR : rsrv w r conns d) : r < w.heap.size := by
  obtain ⟨tv, hr⟩ := hR
  exact (Array.getElem?_eq_some_iff.1 hr).1
theorem pairAt_lt {w : World} {p g r : Nat} (h : pairAt w p g r) : p < w.heap.size := (Array.getElem?_eq_some_iff.1 h).1

/-- the pair and both servers, with d connections -/
structure Both (w : World) (p g h r conns d : Nat) : Prop where
  pair : pairAt w p g r
  prog : psrv w g h conns d
  ref : rsrv w r conns d
  ph : p ≠ h
  pr : p ≠ r
  gr : g ≠ r
  hr : h ≠ r
theorem Both.alloc {w : World} {p g h r conns d : Nat} (B : Both w p g h r conns d) (o : Obj) : Both (w.alloc o) p g h r conns d :=
  ⟨pairAt_old B.pair (alloc_same _ _ _ (pairAt_lt B.pair)), psrv_old B.prog (alloc_same _ _ _ (psrv_lt B.prog).1) (alloc_same _ _ _ (psrv_lt B.prog).2), rsrv_old B.ref (alloc_same _ _ _ (rsrv_lt B.ref)), B.ph, B.pr, B.gr, B.hr⟩

set_option maxRecDepth 100000 in
theorem doesDial_c (w : World) (p g h r conns d : Nat) (hd : d ≤ conns) (h8 : conns ≤ 8) (B0 : Both w p g h r conns d) :
    Calls Tryz.prog 14 #[.pointer (some ⟨p, 0, none⟩), .agg #[.int .i64 2, .int .i64 0, .int .i64 0, .int .i64 0, .string ByteArray.empty, .slice none 0 0]] w fun e w' => e = .returned (.bool true) ∧
      Both w' p g h r conns (if (d : Int) < conns then d + 1 else d) ∧ (∀ k, k ≠ h → k ≠ r → k < w.heap.size → w'.heap[k]? = w.heap[k]?) ∧ w.heap.size ≤ w'.heap.size ∧ SameOs w w' := by
  have c0 : w.cell? ⟨p, 0, none⟩ = some (.pointer (some ⟨g, 0, none⟩)) := heap_cell B0.pair 0 rfl
  have hpl := pairAt_lt B0.pair
  by_cases hf : (d : Int) < conns
  · go_enter Tryz.func14, Tryz.ntmps14
    go_wp2_with (go_at_call 19; refine (pDial_c _ g h conns d hd h8 (B0.alloc _).prog).mono ?_; intro e w1 hh; rw [if_pos hf, if_pos hf] at hh; obtain ⟨rfl, hP1, hf1, hs1, ho1⟩ := hh; have d1 : w1.cell? ⟨p, 1, none⟩ = some (.pointer (some ⟨r, 0, none⟩)) := heap_cell ((hf1 _ B0.ph (lt_al hpl)).trans ((alloc_same _ _ _ hpl).trans B0.pair)) 1 rfl)
    have hR1 : rsrv w1 r conns d := rsrv_old (B0.alloc _).ref (hf1 _ (Ne.symm B0.hr) (lt_al (rsrv_lt B0.ref)))
    have HP1 : Hid (psrv w1 g h conns (d + 1)) := hP1
    have HF1 : Hid (∀ k, k ≠ h → k < w.heap.size → w1.heap[k]? = w.heap[k]?) := fun k hk hl => (hf1 k hk (lt_al hl)).trans (alloc_same _ _ _ hl)
    have HS1 : Hid (w.heap.size ≤ w1.heap.size) := Nat.le_trans (by simp) hs1
    have HO1 : Hid (SameOs w w1) := SameOs.trans ⟨rfl, rfl, rfl⟩ ho1
    clear hP1 hf1 hs1 c0 d1 ho1
    refine (rDial_c _ r conns d (by omega) (by omega) (by omega) hR1).mono ?_
    intro e w2 hh
    rw [if_pos hf, if_pos hf] at hh
    obtain ⟨rfl, hR2, hf2, hs2, ho2⟩ := hh
    clear hR1
    go_wp2
    go_ret
    refine ⟨rfl, ?_, ?_, ?_, SameOs.trans HO1.out ho2⟩
    · try rw [if_pos hf]
      exact ⟨pairAt_old B0.pair ((hf2 _ B0.pr).trans (HF1.out _ B0.ph hpl)), psrv_old HP1.out (hf2 _ B0.gr) (hf2 _ B0.hr), hR2, B0.ph, B0.pr, B0.gr, B0.hr⟩
    · intro k h1 h2 h3
      exact (hf2 _ h2).trans (HF1.out _ h1 h3)
    · have := HS1.out; omega
  · go_enter Tryz.func14, Tryz.ntmps14
    go_wp2_with (go_at_call 19; refine (pDial_c _ g h conns d hd h8 (B0.alloc _).prog).mono ?_; intro e w1 hh; rw [if_neg (show ¬ (d : Int) < conns by omega), if_neg (show ¬ (d : Int) < conns by omega)] at hh; obtain ⟨rfl, hP1, hf1, hs1, ho1⟩ := hh; have d1 : w1.cell? ⟨p, 1, none⟩ = some (.pointer (some ⟨r, 0, none⟩)) := heap_cell ((hf1 _ B0.ph (lt_al hpl)).trans ((alloc_same _ _ _ hpl).trans B0.pair)) 1 rfl)
    have hR1 : rsrv w1 r conns d := rsrv_old (B0.alloc _).ref (hf1 _ (Ne.symm B0.hr) (lt_al (rsrv_lt B0.ref)))
    have HP1 : Hid (psrv w1 g h conns d) := hP1
    have HF1 : Hid (∀ k, k ≠ h → k < w.heap.size → w1.heap[k]? = w.heap[k]?) := fun k hk hl => (hf1 k hk (lt_al hl)).trans (alloc_same _ _ _ hl)
    have HS1 : Hid (w.heap.size ≤ w1.heap.size) := Nat.le_trans (by simp) hs1
    have HO1 : Hid (SameOs w w1) := SameOs.trans ⟨rfl, rfl, rfl⟩ ho1
    clear hP1 hf1 hs1 c0 d1 ho1
    refine (rDial_c _ r conns d (by omega) (by omega) (by omega) hR1).mono ?_
    intro e w2 hh
    rw [if_neg (show ¬ (d : Int) < conns by omega), if_neg (show ¬ (d : Int) < conns by omega)] at hh
    obtain ⟨rfl, hR2, hf2, hs2, ho2⟩ := hh
    clear hR1
    go_wp2
    go_ret
    refine ⟨rfl, ?_, ?_, ?_, SameOs.trans HO1.out ho2⟩
    · try rw [if_neg (show ¬ (d : Int) < conns by omega)]
      exact ⟨pairAt_old B0.pair ((hf2 _ B0.pr).trans (HF1.out _ B0.ph hpl)), psrv_old HP1.out (hf2 _ B0.gr) (hf2 _ B0.hr), hR2, B0.ph, B0.pr, B0.gr, B0.hr⟩
    · intro k h1 h2 h3
      exact (hf2 _ h2).trans (HF1.out _ h1 h3)
    · have := HS1.out; omega

set_option maxRecDepth 100000 in
theorem doesTake_c (w : World) (p g h r conns : Nat) (h1 : 1 ≤ conns) (B0 : Both w p g h r conns 0) :
    Calls Tryz.prog 14 #[.pointer (some ⟨p, 0, none⟩), .agg #[.int .i64 5, .int .i64 0, .int .i64 0, .int .i64 1, .string ByteArray.empty, .slice none 0 0]] w fun e w' => e = .returned (.bool true) ∧ Both w' p g h r conns 0 ∧ Below w.heap.size w w' := by
  have c0 : w.cell? ⟨p, 0, none⟩ = some (.pointer (some ⟨g, 0, none⟩)) := heap_cell B0.pair 0 rfl
  have c1 : w.cell? ⟨p, 1, none⟩ = some (.pointer (some ⟨r, 0, none⟩)) := heap_cell B0.pair 1 rfl
  have hpl := pairAt_lt B0.pair
  go_enter Tryz.func14, Tryz.ntmps14
  go_wp2_with fail
  have B1 := B0.alloc (.cells #[.int .i64 5, .int .i64 0, .int .i64 0, .int .i64 1, .string ByteArray.empty, .slice none 0 0] 28)
  have hW : (w.alloc (.cells #[.int .i64 5, .int .i64 0, .int .i64 0, .int .i64 1, .string ByteArray.empty, .slice none 0 0] 28)).heap[w.heap.size]? = some (.cells #[.int .i64 5, .int .i64 0, .int .i64 0, .int .i64 1, .string ByteArray.empty, .slice none 0 0] 28 (0, 0)) := alloc_at _ _ _ rfl
  have hB : Below w.heap.size w (w.alloc (.cells #[.int .i64 5, .int .i64 0, .int .i64 0, .int .i64 1, .string ByteArray.empty, .slice none 0 0] 28)) := (Below.refl _ _).alloc (Nat.le_refl _) _
  clear c0 c1
  generalize (w.alloc (.cells #[.int .i64 5, .int .i64 0, .int .i64 0, .int .i64 1, .string ByteArray.empty, .slice none 0 0] 28)) = W at B1 hW hB ⊢
  have c0 : W.cell? ⟨p, 0, none⟩ = some (.pointer (some ⟨g, 0, none⟩)) := heap_cell B1.pair 0 rfl
  have c1 : W.cell? ⟨p, 1, none⟩ = some (.pointer (some ⟨r, 0, none⟩)) := heap_cell B1.pair 1 rfl
  have d2 : W.cell? ⟨w.heap.size, 2, none⟩ = some (.int .i64 0) := heap_cell hW 2 rfl
  have d3 : W.cell? ⟨w.heap.size, 3, none⟩ = some (.int .i64 1) := heap_cell hW 3 rfl
  have H0 : Hid (W.cell? ⟨p, 0, none⟩ = some (.pointer (some ⟨g, 0, none⟩))) := c0
  have H1 : Hid (W.cell? ⟨p, 1, none⟩ = some (.pointer (some ⟨r, 0, none⟩))) := c1
  have H2 : Hid (W.cell? ⟨w.heap.size, 2, none⟩ = some (.int .i64 0)) := d2
  have H3 : Hid (W.cell? ⟨w.heap.size, 3, none⟩ = some (.int .i64 1)) := d3
  have HB : Hid (Below w.heap.size w W) := hB
  have HBo : Hid (Both W p g h r conns 0) := B1
  clear hW hB B1 B0
  go_region_held3 (fun w' => w'.cell? ⟨p, 0, none⟩ = some (.pointer (some ⟨g, 0, none⟩)) ∧ w'.cell? ⟨w.heap.size, 2, none⟩ = some (.int .i64 0) ∧ w'.cell? ⟨w.heap.size, 3, none⟩ = some (.int .i64 1))
    (first | ((refine ⟨?_, ?_, ?_⟩ <;> (repeat (with_reducible (first | exact H0.out | exact H2.out | exact H3.out | refine cell_drew_keep ?_)))); done) | (go_keep; done))
    (first | (go_at_call 21; refine (pTake0_c _ g h conns 1 h1 ?_).mono ?_; exact psrv_old HBo.out.prog rfl rfl; rintro e w1 ⟨rfl, hw⟩; replace hw := hw.symm; subst hw))
  rename_i hHeld
  clear hHeld
  go_wp2_with fail
  go_region_held3 (fun w' => w'.cell? ⟨p, 1, none⟩ = some (.pointer (some ⟨r, 0, none⟩)) ∧ w'.cell? ⟨w.heap.size, 2, none⟩ = some (.int .i64 0) ∧ w'.cell? ⟨w.heap.size, 3, none⟩ = some (.int .i64 1))
    (first | ((refine ⟨?_, ?_, ?_⟩ <;> (repeat (with_reducible (first | exact H1.out | exact H2.out | exact H3.out | refine cell_drew_keep ?_)))); done) | (go_keep; done))
    (first | (go_at_call 44; refine (rTake0_c _ r conns 1 ?_).mono ?_; exact rsrv_old HBo.out.ref rfl; rintro e w1 ⟨rfl, hw⟩; replace hw := hw.symm; subst hw))
  rename_i hHeld
  clear hHeld
  go_wp2
  go_ret
  exact ⟨rfl, ⟨HBo.out.pair, psrv_old HBo.out.prog rfl rfl, rsrv_old HBo.out.ref rfl, HBo.out.ph, HBo.out.pr, HBo.out.gr, HBo.out.hr⟩, HB.out.drew.drew⟩
end Go.Proofs.YtdpnpcjbjjjceaaGreatDoor.O
