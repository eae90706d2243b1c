import Derived.Test.YtdpnpcjbjjjceaaDoorFitsWalks
import Derived.Test.YtdpnpcjbjjjceaaDoorRepeatWalks
set_option linter.unusedSimpArgs false
set_option linter.unusedVariables false
namespace Go.Proofs.YtdpnpcjbjjjceaaDoor
open Go.RowKit

theorem flat_K10 : (flat (List.replicate 10 (false, 20))).toArray = (cellsK 10).toArray := rfl

set_option maxHeartbeats 2000000 in
theorem shapeOf_get (w : World) : Calls Tryd.prog 10 #[.string ⟨#[103, 101, 116]⟩] w (ShapePost w 1 (List.replicate 10 (false, 20))) := by
  go_enter Tryd.func10, Tryd.ntmps10
  go_wp2_with (first
    | (go_at_call 18; refine (text_c _ _).mono ?_; rintro e w1 ⟨rfl, hw⟩; rw [hw]; clear hw)
    | (go_at_call 19; refine (number_c _ _).mono ?_; rintro e w1 ⟨rfl, hw⟩; rw [hw]; clear hw)
    | (go_at_call 21; refine (repeat_c _ _ (alloc_at _ _ _ (by simp))).mono ?_; rintro e w2 ⟨rfl, hg, hb⟩; have c0 := hb.cell (p := ⟨w.heap.size, 0, none⟩) (by simp; omega); have c1 := hb.cell (p := ⟨w.heap.size, 1, none⟩) (by simp; omega); have f0 := hb.frozen (p := ⟨w.heap.size, 0, none⟩) (by simp; omega); have f1 := hb.frozen (p := ⟨w.heap.size, 1, none⟩) (by simp; omega); have hsz : w.heap.size + 10 ≤ w2.heap.size := (by have := hb.size; simp at this; omega)))
  have hg' : w2.heap[w.heap.size + 10]? = some (.cells (cellsK 10).toArray 39 (0, 0)) := by simpa using hg
  have c0' : w2.cell? ⟨w.heap.size, 0, none⟩ = some (.int .i64 0) := c0.trans (cell_alloc_keep (cell_alloc_keep (cell_alloc_keep (cell_alloc_keep (cell_alloc_keep (cell_alloc_keep (cell_alloc_keep (cell_alloc_keep (cell_alloc_keep (cell_alloc_at rfl rfl))))))))))
  have c1' : w2.cell? ⟨w.heap.size, 1, none⟩ = some (.slice none 0 0) := c1.trans (cell_alloc_keep (cell_alloc_keep (cell_alloc_keep (cell_alloc_keep (cell_alloc_keep (cell_alloc_keep (cell_alloc_keep (cell_alloc_keep (cell_alloc_keep (cell_alloc_at rfl rfl))))))))))
  clear c0 c1 f0 f1 hg
  refine bodyPost_ret (v := .tuple #[.agg #[.int .i64 1, .slice (some ⟨w.heap.size + 10, 0, none⟩) 10 10], .bool true]) (by simp [results, Tryd.results10, go_sem, c0', c1']) rfl ⟨⟨_, rfl, Or.inr ⟨w.heap.size + 10, rfl, by omega, ?_⟩⟩, ?_⟩
  · rw [Below.heap_setCell _ _ _ _ (by simp), Below.heap_setCell _ _ _ _ (by simp)]
    exact hg'
  · refine Below.setCell (p := ⟨w.heap.size, 1, none⟩) (Below.setCell (p := ⟨w.heap.size, 0, none⟩) (Below.trans ?_ (hb.mono ?_)) (Nat.le_refl _) _) (Nat.le_refl _) _
    · repeat (first | exact Below.refl _ _ | refine Below.alloc ?_ (by simp; omega) _ | refine Below.alloc ?_ (by simp) _)
    · simp <;> omega

set_option maxHeartbeats 2000000 in
theorem shapeOf_none (v : ByteArray) (w : World) (h : v = ⟨#[113, 117, 105, 116]⟩ ∨ v = ⟨#[115, 116, 97, 116, 115]⟩) : Calls Tryd.prog 10 #[.string v] w (ShapePost w 0 []) := by
  rcases h with rfl | rfl
  all_goals
    go_enter Tryd.func10, Tryd.ntmps10
    go_wp2_with (first
      | (go_at_call 18; refine (text_c _ _).mono ?_; rintro e w1 ⟨rfl, hw⟩; rw [hw]; clear hw)
      | (go_at_call 19; refine (number_c _ _).mono ?_; rintro e w1 ⟨rfl, hw⟩; rw [hw]; clear hw)
      | (go_at_call 20; refine (allOf_c _ _ _ _).mono ?_; rintro e w1 ⟨rfl, hw⟩; rw [hw]; clear hw))
    refine bodyPost_ret (v := .tuple #[.agg #[.int .i64 0, .slice none 0 0], .bool true]) (by simp [results, Tryd.results10, go_sem]) rfl ⟨⟨none, rfl, Or.inl rfl⟩, ?_⟩
    repeat (first | exact Below.refl _ _ | refine Below.alloc ?_ (by simp; omega) _ | refine Below.alloc ?_ (by simp) _)
end Go.Proofs.YtdpnpcjbjjjceaaDoor
