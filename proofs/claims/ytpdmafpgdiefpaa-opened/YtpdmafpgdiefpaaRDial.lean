import Derived.Test.YtpdmafpgdiefpaaROpen2
namespace Go.Proofs.Ytpdmafpgdiefpaa
open Go.RowKit Go.Builtin

/-- what the world outside the heap is -/
def SameOs (w w' : World) : Prop := w'.os = w.os ∧ w'.tape = w.tape ∧ w'.output = w.output
theorem SameOs.trans {a b c : World} (h : SameOs a b) (k : SameOs b c) : SameOs a c := ⟨k.1.trans h.1, k.2.1.trans h.2.1, k.2.2.trans h.2.2⟩
theorem SameOs.refl (a : World) : SameOs a a := ⟨rfl, rfl, rfl⟩
theorem SameOs.setCell {a b : World} (h : SameOs a b) (p : Addr) (v : Value) : SameOs a (b.setCell p v) := h
theorem conn_len : ∀ d, d ≤ 8 → (connsL d).length = 56 := by decide
def rsrv (w : World) (g : Nat) (conns : Int) (d : Nat) : Prop := ∃ tv, w.heap[g]? = some (.cells (srvL tv conns d).toArray 66 (0, 0))

theorem there_at (tv : Value) (conns : Int) : ∀ d, d ≤ 8 → ∀ c, c < 8 → (srvL tv conns d)[2 + c * 7]? = some (.bool (decide (c < d))) := by
  intro d hd c hc
  have h : ∀ d, d ≤ 8 → ∀ c, c < 8 → (connsL d)[c * 7]? = some (.bool (decide (c < d))) := by
    intro d hd c hc
    rcases d with _ | _ | _ | _ | _ | _ | _ | _ | _ | d
    all_goals first | omega | skip
    all_goals
      rcases c with _ | _ | _ | _ | _ | _ | _ | _ | c
      all_goals first | omega | rfl
  have e : 2 + c * 7 = c * 7 + 1 + 1 := by omega
  rw [e]
  show (connsL d ++ _)[c * 7]? = _
  rw [List.getElem?_append_left (by rw [conn_len d hd]; omega)]
  exact h d hd c hc

theorem free_at (tv : Value) (conns : Int) : ∀ d, d < 8 → ∀ j, j < 7 → (srvL tv conns d)[2 + d * 7 + j]? = zconn[j]? := by
  intro d hd j hj
  have h : ∀ d, d < 8 → ∀ j, j < 7 → (connsL d)[d * 7 + j]? = zconn[j]? := by
    intro d hd j hj
    rcases d with _ | _ | _ | _ | _ | _ | _ | _ | d
    all_goals first | omega | skip
    all_goals
      rcases j with _ | _ | _ | _ | _ | _ | _ | j
      all_goals first | omega | rfl
  have e : 2 + d * 7 + j = d * 7 + j + 1 + 1 := by omega
  rw [e]
  show (connsL d ++ _)[d * 7 + j]? = _
  rw [List.getElem?_append_left (by rw [conn_len d (by omega)]; omega)]
  exact h d hd j hj
theorem dialed (tv : Value) (conns : Int) : ∀ d, d < 8 → ((((((((srvL tv conns d).toArray.setIfInBounds (2 + d * 7) (.bool true)).setIfInBounds (2 + d * 7 + 1) (.bool false)).setIfInBounds (2 + d * 7 + 2) (.string ByteArray.empty)).setIfInBounds (2 + d * 7 + 3) (.string ByteArray.empty)).setIfInBounds (2 + d * 7 + 4) (.int .i64 (-1))).setIfInBounds (2 + d * 7 + 5) (.bool false)).setIfInBounds (2 + d * 7 + 6) (.slice none 0 0)) = (srvL tv conns (d + 1)).toArray := by
  intro d hd
  rcases d with _ | _ | _ | _ | _ | _ | _ | _ | d
  all_goals first | omega | kernel_rfl

set_option maxRecDepth 100000 in
set_option maxHeartbeats 4000000 in
theorem rDial_c (w : World) (g : Nat) (conns : Int) (d : Nat) (hd8 : d ≤ 8) (hdc : (d : Int) ≤ conns) (hc8 : conns ≤ 8) (hR : rsrv w g conns d) :
    Calls Try.prog 12 #[.pointer (some ⟨g, 0, none⟩)] w fun e w' => e = .returned (if (d : Int) < conns then .tuple #[.int .i64 d, .int .i64 0] else .tuple #[.int .i64 0, .int .i64 3]) ∧
      rsrv w' g conns (if (d : Int) < conns then d + 1 else d) ∧ (∀ k, k ≠ g → w'.heap[k]? = w.heap[k]?) ∧ w'.heap.size = w.heap.size ∧ SameOs w w' := by
  obtain ⟨tv, hg⟩ := hR
  have HG : Hid (w.heap[g]? = some (.cells (srvL tv conns d).toArray 66 (0, 0))) := hg
  have cm : w.cell? ⟨g, 1, none⟩ = some (.int .i64 conns) := heap_cell hg 1 rfl
  clear hg
  go_enter Try.func12, Try.ntmps12
  go_wp2_with fail
  go_loop [4] (fun i => ∃ c : Nat, c ≤ d ∧ i = .int .i64 c) (fun i => d + 1 - (intOf i).toNat)
  case atStart => exact ⟨0, by omega, rfl⟩
  case round =>
    obtain ⟨c, hc, rfl⟩ := hrel
    by_cases hcd : c < d
    · have k1 : (c : Int) < conns := by omega
      have k8 : (c : Int) < 8 := by omega
      have ct : w.cell? ⟨g, 2 + c * 7, none⟩ = some (.bool true) := heap_cell HG.out _ (by rw [List.getElem?_toArray, there_at tv conns d hd8 c (by omega)]; simp [hcd])
      go_wp2
      go_round
      case rel => exact ⟨c + 1, by omega, by go_num⟩
      case measure => simp [intOf] <;> omega
    · obtain rfl : c = d := by omega
      by_cases hfull : (c : Int) < conns
      · have k8 : (c : Int) < 8 := by omega
        have ct : w.cell? ⟨g, 2 + c * 7, none⟩ = some (.bool false) := heap_cell HG.out _ (by rw [List.getElem?_toArray, there_at tv conns c hd8 c (by omega)]; simp)
        have f0 := heap_frozen HG.out (2 + c * 7)
        have b1 : w.cell? ⟨g, 2 + c * 7 + 1, none⟩ = some (.bool false) := heap_cell HG.out _ (by rw [List.getElem?_toArray]; exact free_at tv conns c (by omega) 1 (by omega))
        have f1 := heap_frozen HG.out (2 + c * 7 + 1)
        have b2 : w.cell? ⟨g, 2 + c * 7 + 2, none⟩ = some (.string ByteArray.empty) := heap_cell HG.out _ (by rw [List.getElem?_toArray]; exact free_at tv conns c (by omega) 2 (by omega))
        have f2 := heap_frozen HG.out (2 + c * 7 + 2)
        have b3 : w.cell? ⟨g, 2 + c * 7 + 3, none⟩ = some (.string ByteArray.empty) := heap_cell HG.out _ (by rw [List.getElem?_toArray]; exact free_at tv conns c (by omega) 3 (by omega))
        have f3 := heap_frozen HG.out (2 + c * 7 + 3)
        have b4 : w.cell? ⟨g, 2 + c * 7 + 4, none⟩ = some (.int .i64 0) := heap_cell HG.out _ (by rw [List.getElem?_toArray]; exact free_at tv conns c (by omega) 4 (by omega))
        have f4 := heap_frozen HG.out (2 + c * 7 + 4)
        have b5 : w.cell? ⟨g, 2 + c * 7 + 5, none⟩ = some (.bool false) := heap_cell HG.out _ (by rw [List.getElem?_toArray]; exact free_at tv conns c (by omega) 5 (by omega))
        have f5 := heap_frozen HG.out (2 + c * 7 + 5)
        have b6 : w.cell? ⟨g, 2 + c * 7 + 6, none⟩ = some (.slice none 0 0) := heap_cell HG.out _ (by rw [List.getElem?_toArray]; exact free_at tv conns c (by omega) 6 (by omega))
        have f6 := heap_frozen HG.out (2 + c * 7 + 6)
        go_wp2
        go_ret2
        refine ⟨?_, ?_, ?_, ?_, ?_⟩
        · first | rfl | (rw [if_pos hfull]; rfl)
        · try rw [if_pos hfull]
          refine ⟨tv, ?_⟩
          rw [set_heap _ _ _ _ _ _ _ (set_heap _ _ _ _ _ _ _ (set_heap _ _ _ _ _ _ _ (set_heap _ _ _ _ _ _ _ (set_heap _ _ _ _ _ _ _ (set_heap _ _ _ _ _ _ _ (set_heap _ _ _ _ _ _ _ HG.out))))))]
          exact congrArg (fun x => some (Obj.cells x 66 (0, 0))) (dialed tv conns c (by omega))
        · intro k hk
          repeat rw [Below.heap_setCell _ _ _ k (show k ≠ _ from hk)]
        · simp [World.setCell]
        · exact SameOs.setCell (SameOs.setCell (SameOs.setCell (SameOs.setCell (SameOs.setCell (SameOs.setCell (SameOs.setCell (SameOs.refl _) _ _) _ _) _ _) _ _) _ _) _ _) _ _
      · go_wp2
        go_ret2
        refine ⟨?_, ?_, ?_, rfl, SameOs.refl _⟩
        · first | rfl | (rw [if_neg (by omega)]; rfl)
        · try rw [if_neg (by omega)]
          exact ⟨tv, HG.out⟩
        · exact fun k _ => rfl

theorem rThere0_c (w : World) (g : Nat) (conns : Int) (hR : rsrv w g conns 0) : Calls Try.prog 25 #[.pointer (some ⟨g, 0, none⟩), .int .i64 0] w fun e w' => e = .returned (.bool false) ∧ w' = w := by
  obtain ⟨tv, hg⟩ := hR
  have ct : w.cell? ⟨g, 2, none⟩ = some (.bool false) := heap_cell hg 2 rfl
  clear hg
  go_enter Try.func25, Try.ntmps25
  go_wp2
  go_ret
  exact ⟨rfl, rfl⟩
theorem rTake0_c (w : World) (g : Nat) (conns n : Int) (hR : rsrv w g conns 0) : Calls Try.prog 18 #[.pointer (some ⟨g, 0, none⟩), .int .i64 0, .int .i64 n] w fun e w' => e = .returned (.tuple #[.string ByteArray.empty, .int .i64 4]) ∧ w' = w := by
  have c1 := rThere0_c w g conns hR
  clear hR
  go_enter Try.func18, Try.ntmps18
  go_wp2_with (go_at_call 25; refine c1.mono ?_; rintro e w1 ⟨rfl, hw⟩; replace hw := hw.symm; subst hw)
  go_ret2
  exact ⟨rfl, rfl⟩
end Go.Proofs.Ytpdmafpgdiefpaa
