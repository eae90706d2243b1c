import Derived.Test.YtpdmafpgdiefpaaByName
namespace Go.Proofs.Ytpdmafpgdiefpaa
open Go.RowKit Go.Builtin

theorem infoBool : (Try.prog.info? 4).map (fun i => (i.zero, i.size, i.bytes)) = some (some (.bool false), 1, 1) := by kernel_rfl
/-- the first d connections are there -/
def boolsL (conns d : Nat) : List Value := List.replicate d (.bool true) ++ List.replicate (conns - d) (.bool false)
/-- the program's server in block g: d of its connections are there -/
def psrv (w : World) (g h conns d : Nat) : Prop := g ≠ h ∧ ∃ m, w.heap[g]? = some (.cells #[.map (some m), .slice (some ⟨h, 0, none⟩) conns conns] 55 (0, 0)) ∧ w.heap[h]? = some (.cells (boolsL conns d).toArray 4 (0, 0))

theorem made_bools (n : Nat) : (madeCells (Value.bool false).cells (n * 1)) = (boolsL n 0).toArray := by
  apply Array.ext'
  apply List.ext_getElem?
  intro j
  by_cases hj : j < n
  · have h0 : j % 1 = 0 := Nat.mod_one j
    simp [madeCells, boolsL, hj, Value.cells, h0]
  · simp [madeCells, boolsL, hj]

theorem pOpen_err (a : Option Addr) (n c : Nat) (conns : Int) (w : World) (P : World → Prop) (hB : Calls Try.prog 21 #[.slice a n c] w fun e w' => e = .returned (.tuple #[.map none, .bool false]) ∧ P w') :
    Calls Try.prog 7 #[.slice a n c, .int .i64 conns] w fun e w' => e = .returned (.tuple #[.pointer none, .int .i64 1]) ∧ P w' := by
  go_enter Try.func7, Try.ntmps7
  go_wp2_with (go_at_call 21; refine hB.mono ?_; rintro e w1 ⟨rfl, hp⟩)
  go_ret2
  exact ⟨rfl, hp⟩

theorem pOpen_arg (a : Option Addr) (n c : Nat) (conns : Int) (w : World) (hB : Calls Try.prog 21 #[.slice a n c] w fun e w' => ∃ m, e = .returned (.tuple #[.map (some m), .bool true]) ∧ Below w.heap.size w w') (hc : conns ≤ 0 ∨ 8 < conns) :
    Calls Try.prog 7 #[.slice a n c, .int .i64 conns] w fun e w' => e = .returned (.tuple #[.pointer none, .int .i64 2]) ∧ Below w.heap.size w w' := by
  by_cases h0 : conns < 1
  · go_enter Try.func7, Try.ntmps7
    go_wp2_with (go_at_call 21; refine hB.mono ?_; rintro e w1 ⟨m, rfl, hp⟩)
    go_ret2
    exact ⟨rfl, hp⟩
  · have h8 : 8 < conns := by omega
    go_enter Try.func7, Try.ntmps7
    go_wp2_with (go_at_call 21; refine hB.mono ?_; rintro e w1 ⟨m, rfl, hp⟩)
    go_ret2
    exact ⟨rfl, hp⟩

set_option maxRecDepth 100000 in
theorem pOpen_ok (a : Option Addr) (n c conns : Nat) (w : World) (hB : Calls Try.prog 21 #[.slice a n c] w fun e w' => ∃ m, e = .returned (.tuple #[.map (some m), .bool true]) ∧ Below w.heap.size w w') (h1 : 1 ≤ conns) (h8 : conns ≤ 8) :
    Calls Try.prog 7 #[.slice a n c, .int .i64 conns] w fun e w' => ∃ g h, e = .returned (.tuple #[.pointer (some ⟨g, 0, none⟩), .int .i64 0]) ∧ w.heap.size ≤ g ∧ w.heap.size ≤ h ∧ psrv w' g h conns 0 ∧ Below w.heap.size w w' := by
  obtain ⟨i0, hi, hz0, hz1, hz2⟩ := info_parts infoBool
  have k1 : ¬ (conns : Int) < 1 := by omega
  have k8 : ¬ (8 : Int) < conns := by omega
  have hm : ∀ W : World, (Instr.makeSlice 53 (.int .i64 (conns : Int)) (.int .i64 (conns : Int))).run Try.prog W = .ok (.slice (some ⟨W.heap.size, 0, none⟩) conns conns) (W.alloc (.cells (boolsL conns 0).toArray 4)) := by
    intro W
    have hm := run_make (P := Try.prog) W 53 4 i0 _ Try.underlying53 hi hz0 .i64 .i64 (conns : Int) (conns : Int) (by omega) (by omega) (by rw [hz2]; omega) (by omega)
    have e1 : ((conns : Int)).toNat = conns := by omega
    rw [e1, hz1, made_bools] at hm
    exact hm
  go_enter Try.func7, Try.ntmps7
  go_wp2_with (go_at_call 21; refine hB.mono ?_; rintro e w1 ⟨m, rfl, hp⟩)
  refine bodyPost_ret (v := .tuple #[.pointer (some ⟨w1.heap.size + 1, 0, none⟩), .int .i64 0]) (by simp [results, Try.results7, go_sem]) rfl ⟨w1.heap.size + 1, w1.heap.size, rfl, Nat.le_succ_of_le hp.size, hp.size, ⟨by omega, m, alloc_at _ _ _ (by simp), alloc_old _ _ _ _ (alloc_at _ _ _ rfl)⟩, (hp.alloc hp.size _).alloc (by simp; exact Nat.le_succ_of_le hp.size) _⟩

theorem bools_len (conns d : Nat) (h : d ≤ conns) : (boolsL conns d).length = conns := by simp [boolsL]; omega
theorem bools_at (conns d i : Nat) (hd : d ≤ conns) (hi : i < conns) : (boolsL conns d)[i]? = some (.bool (decide (i < d))) := by
  unfold boolsL
  by_cases h : i < d
  · rw [List.getElem?_append_left (by simp; exact h), List.getElem?_replicate, if_pos h]; simp [h]
  · rw [List.getElem?_append_right (by simp; omega), List.getElem?_replicate, if_pos (by simp; omega)]; simp [h]
theorem bools_set (conns d : Nat) (h : d < conns) : (boolsL conns d).toArray.setIfInBounds d (.bool true) = (boolsL conns (d + 1)).toArray := by
  apply Array.ext'
  rw [Array.toList_setIfInBounds]
  apply List.ext_getElem?
  intro i
  rw [List.getElem?_set]
  by_cases hi : i < conns
  · rw [bools_at conns (d + 1) i (by omega) hi, bools_at conns d i (by omega) hi]
    by_cases hd : d = i
    · subst hd; simp [bools_len conns d (by omega), h]
    · rw [if_neg hd]
      congr 2
      exact decide_eq_decide.2 (by omega)
  · rw [if_neg (by omega), List.getElem?_eq_none (by rw [bools_len conns d (by omega)]; omega), List.getElem?_eq_none (by rw [bools_len conns (d + 1) (by omega)]; omega)]

theorem index_c (w : World) (h conns d : Nat) (hd : d ≤ conns) (h8 : conns ≤ 8) (hh : w.heap[h]? = some (.cells (boolsL conns d).toArray 4 (0, 0))) :
    Calls Try.prog 23 #[.slice (some ⟨h, 0, none⟩) conns conns, .bool false] w fun e w' => e = .returned (.int .i64 (if d < conns then (d : Int) else -1)) ∧ w' = w := by
  have HH : Hid (w.heap[h]? = some (.cells (boolsL conns d).toArray 4 (0, 0))) := hh
  clear hh
  go_enter Try.func23, Try.ntmps23
  go_wp2_with fail
  go_loop [8] (fun i => ∃ c : Nat, c ≤ d ∧ i = .int .i64 c) (fun i => d + 1 - (intOf i).toNat)
  case atStart => exact ⟨0, by omega, rfl⟩
  case round =>
    obtain ⟨c, hc, rfl⟩ := hrel
    by_cases hcd : c < d
    · have k1 : (c : Int) < conns := by omega
      have ct : w.cell? ⟨h, c, none⟩ = some (.bool true) := heap_cell HH.out _ (by rw [List.getElem?_toArray, bools_at conns d c hd (by omega)]; simp [hcd])
      go_wp2
      go_round
      case rel => exact ⟨c + 1, by omega, by go_num⟩
      case measure => simp [intOf] <;> omega
    · obtain rfl : c = d := by omega
      by_cases hf : c < conns
      · have k1 : (c : Int) < conns := by omega
        have ct : w.cell? ⟨h, c, none⟩ = some (.bool false) := heap_cell HH.out _ (by rw [List.getElem?_toArray, bools_at conns c c hd hf]; simp)
        go_wp2
        go_ret
        exact ⟨by first | rfl | (rw [if_pos hf]; rfl), rfl⟩
      · have k1 : ¬ (c : Int) < conns := by omega
        go_wp2
        go_ret
        exact ⟨by first | rfl | (rw [if_neg hf]; rfl), rfl⟩

theorem pDial_c (w : World) (g h conns d : Nat) (hd : d ≤ conns) (h8 : conns ≤ 8) (hP : psrv w g h conns d) :
    Calls Try.prog 11 #[.pointer (some ⟨g, 0, none⟩)] w fun e w' => e = .returned (if (d : Int) < conns then .tuple #[.int .i64 d, .int .i64 0] else .tuple #[.int .i64 0, .int .i64 3]) ∧
      psrv w' g h conns (if (d : Int) < conns then d + 1 else d) ∧ (∀ k, k ≠ h → w'.heap[k]? = w.heap[k]?) ∧ w'.heap.size = w.heap.size ∧ SameOs w w' := by
  obtain ⟨hgh, m, hg, hh⟩ := hP
  have c1 : w.cell? ⟨g, 1, none⟩ = some (.slice (some ⟨h, 0, none⟩) conns conns) := heap_cell hg 1 rfl
  have cI := index_c w h conns d hd h8 hh
  have HG : Hid (w.heap[g]? = some (.cells #[.map (some m), .slice (some ⟨h, 0, none⟩) conns conns] 55 (0, 0))) := hg
  have HH : Hid (w.heap[h]? = some (.cells (boolsL conns d).toArray 4 (0, 0))) := hh
  clear hg hh
  by_cases hf : d < conns
  · rw [if_pos hf] at cI
    have k0 : (d : Int) < conns := by omega
    rw [if_pos k0, if_pos k0]
    have ct : w.cell? ⟨h, d, none⟩ = some (.bool false) := heap_cell HH.out _ (by rw [List.getElem?_toArray, bools_at conns d d hd hf]; simp)
    have f0 := heap_frozen HH.out d
    have kd : ¬ (d : Int) < 0 := by omega
    go_enter Try.func11, Try.ntmps11
    go_wp2_with (go_at_call 23; refine cI.mono ?_; rintro e w1 ⟨rfl, hw⟩; replace hw := hw.symm; subst hw)
    go_ret2
    refine ⟨rfl, ⟨hgh, m, ?_, ?_⟩, ?_, ?_, ⟨rfl, rfl, rfl⟩⟩
    · rw [Below.heap_setCell _ _ _ g (show g ≠ _ from hgh)]; exact HG.out
    · rw [set_heap _ _ _ _ _ _ _ HH.out, bools_set conns d hf]
    · intro k hk
      rw [Below.heap_setCell _ _ _ k (show k ≠ _ from hk)]
    · simp [World.setCell]
  · rw [if_neg hf] at cI
    have k0 : ¬ (d : Int) < conns := by omega
    rw [if_neg k0, if_neg k0]
    go_enter Try.func11, Try.ntmps11
    go_wp2_with (go_at_call 23; refine cI.mono ?_; rintro e w1 ⟨rfl, hw⟩; replace hw := hw.symm; subst hw)
    go_ret2
    exact ⟨rfl, ⟨hgh, m, HG.out, HH.out⟩, fun _ _ => rfl, rfl, ⟨rfl, rfl, rfl⟩⟩

theorem has0_c (w : World) (g h conns : Nat) (h1 : 1 ≤ conns) (hP : psrv w g h conns 0) : Calls Try.prog 24 #[.pointer (some ⟨g, 0, none⟩), .int .i64 0] w fun e w' => e = .returned (.bool false) ∧ w' = w := by
  obtain ⟨hgh, m, hg, hh⟩ := hP
  have c1 : w.cell? ⟨g, 1, none⟩ = some (.slice (some ⟨h, 0, none⟩) conns conns) := heap_cell hg 1 rfl
  have k1 : (0 : Int) < conns := by omega
  have k2 : 0 < conns := h1
  have ct : w.cell? ⟨h, 0, none⟩ = some (.bool false) := heap_cell hh _ (by rw [List.getElem?_toArray, bools_at conns 0 0 (by omega) (by omega)]; simp)
  clear hg hh
  go_enter Try.func24, Try.ntmps24
  go_wp2
  go_ret
  exact ⟨rfl, rfl⟩
theorem pTake0_c (w : World) (g h conns : Nat) (n : Int) (h1 : 1 ≤ conns) (hP : psrv w g h conns 0) : Calls Try.prog 17 #[.pointer (some ⟨g, 0, none⟩), .int .i64 0, .int .i64 n] w fun e w' => e = .returned (.tuple #[.string ByteArray.empty, .int .i64 4]) ∧ w' = w := by
  have c1 := has0_c w g h conns h1 hP
  clear hP
  go_enter Try.func17, Try.ntmps17
  go_wp2_with (go_at_call 24; refine c1.mono ?_; rintro e w1 ⟨rfl, hw⟩; replace hw := hw.symm; subst hw)
  go_ret2
  exact ⟨rfl, rfl⟩
end Go.Proofs.Ytpdmafpgdiefpaa
