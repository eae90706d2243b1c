import Derived.Test.YtdpnpcjbjjjceaaDoorCasWalks
set_option linter.unusedSimpArgs false
set_option linter.unusedVariables false
namespace Go.Proofs.YtdpnpcjbjjjceaaDoor
open Go.RowKit
set_option maxHeartbeats 1000000 in
theorem shapeOf_cas (w : World) : Calls Tryd.prog 10 #[.string ⟨#[99, 97, 115]⟩] w (ShapePost w 5 [(false, 20), (true, 65535), (true, 1000000), (true, 100), (true, 999999999)]) := by
  go_enter Tryd.func10, Tryd.ntmps10
  go_upto_region 2 with (first
    | (go_at_call 18; refine (text_c _ _).mono ?_; rintro e w1 ⟨rfl, hw⟩; rw [hw]; clear hw)
    | (go_at_call 19; refine (number_c _ _).mono ?_; rintro e w1 ⟨rfl, hw⟩; rw [hw]; clear hw)
    | (go_at_call 20; refine (allOf_c _ _ _ _).mono ?_; rintro e w1 ⟨rfl, hw⟩; rw [hw]; clear hw))
  go_cut [4, 5, 6, 7] (fun v4 v5 v6 v7 W => v4 = .pointer (some ⟨w.heap.size + 3, 0, none⟩) ∧ v5 = .pointer (some ⟨w.heap.size + 4, 0, none⟩) ∧ v6 = .pointer (some ⟨w.heap.size + 7, 0, none⟩) ∧ v7 = .pointer (some ⟨w.heap.size + 8, 0, none⟩) ∧
    W.heap.size = w.heap.size + 9 ∧ Below w.heap.size w W ∧ W.heap[w.heap.size]? = some (.cells #[.int .i64 0, .slice none 0 0] 34 (0, 0)) ∧ W.heap[w.heap.size + 3]? = some (.cells #[.bool false, .int .i64 20] 39 (0, 0)) ∧
    W.heap[w.heap.size + 4]? = some (.cells #[.bool true, .int .i64 1000000] 39 (0, 0)) ∧ W.heap[w.heap.size + 7]? = some (.cells #[.bool true, .int .i64 65535] 39 (0, 0)) ∧ W.heap[w.heap.size + 8]? = some (.cells #[.bool true, .int .i64 100] 39 (0, 0)))
  case first =>
    go_wp2_with (first
    | (go_at_call 18; refine (text_c _ _).mono ?_; rintro e w1 ⟨rfl, hw⟩; rw [hw]; clear hw)
    | (go_at_call 19; refine (number_c _ _).mono ?_; rintro e w1 ⟨rfl, hw⟩; rw [hw]; clear hw)
    | (go_at_call 20; refine (allOf_c _ _ _ _).mono ?_; rintro e w1 ⟨rfl, hw⟩; rw [hw]; clear hw))
    go_meet
    case rel =>
      refine ⟨rfl, rfl, rfl, rfl, by simp, ?_, ?_, ?_, ?_, ?_, ?_⟩
      · repeat (first | exact Below.refl _ _ | refine Below.alloc ?_ (by simp; omega) _ | refine Below.alloc ?_ (by simp) _)
      all_goals repeat (first | exact alloc_at _ _ _ (by simp) | refine alloc_old _ _ _ _ ?_)
  case rest =>
    obtain ⟨rfl, rfl, rfl, rfl, hsz, hbel, h0, h3, h4, h7, h8⟩ := hcut
    have c00 := heap_cell h0 0 rfl
    have c01 := heap_cell h0 1 rfl
    have f00 := heap_frozen h0 0
    have f01 := heap_frozen h0 1
    have c30 := heap_cell h3 0 rfl
    have c31 := heap_cell h3 1 rfl
    have c40 := heap_cell h4 0 rfl
    have c41 := heap_cell h4 1 rfl
    have c70 := heap_cell h7 0 rfl
    have c71 := heap_cell h7 1 rfl
    have c80 := heap_cell h8 0 rfl
    have c81 := heap_cell h8 1 rfl
    have HB : Hid (Below w.heap.size w wc) := hbel
    have H30 : Hid (wc.cell? ⟨w.heap.size + 3, 0, none⟩ = some (.bool false)) := c30
    have H31 : Hid (wc.cell? ⟨w.heap.size + 3, 1, none⟩ = some (.int .i64 20)) := c31
    have H40 : Hid (wc.cell? ⟨w.heap.size + 4, 0, none⟩ = some (.bool true)) := c40
    have H41 : Hid (wc.cell? ⟨w.heap.size + 4, 1, none⟩ = some (.int .i64 1000000)) := c41
    have H70 : Hid (wc.cell? ⟨w.heap.size + 7, 0, none⟩ = some (.bool true)) := c70
    have H71 : Hid (wc.cell? ⟨w.heap.size + 7, 1, none⟩ = some (.int .i64 65535)) := c71
    have H80 : Hid (wc.cell? ⟨w.heap.size + 8, 0, none⟩ = some (.bool true)) := c80
    have H81 : Hid (wc.cell? ⟨w.heap.size + 8, 1, none⟩ = some (.int .i64 100)) := c81
    clear hbel h0 h3 h4 h7 h8
    go_wp2_with (first
    | (go_at_call 18; refine (text_c _ _).mono ?_; rintro e w1 ⟨rfl, hw⟩; rw [hw]; clear hw)
    | (go_at_call 19; refine (number_c _ _).mono ?_; rintro e w1 ⟨rfl, hw⟩; rw [hw]; clear hw)
    | (go_at_call 20; refine (allOf_c _ _ _ _).mono ?_; rintro e w1 ⟨rfl, hw⟩; rw [hw]; clear hw))
    go_region_held3 (fun w' => w'.cell? ⟨w.heap.size + 3, 0, none⟩ = some (.bool false) ∧ w'.cell? ⟨w.heap.size + 3, 1, none⟩ = some (.int .i64 20) ∧ w'.cell? ⟨w.heap.size + 7, 0, none⟩ = some (.bool true) ∧ w'.cell? ⟨w.heap.size + 7, 1, none⟩ = some (.int .i64 65535) ∧ w'.cell? ⟨w.heap.size + 4, 0, none⟩ = some (.bool true) ∧ w'.cell? ⟨w.heap.size + 4, 1, none⟩ = some (.int .i64 1000000) ∧ w'.cell? ⟨w.heap.size + 8, 0, none⟩ = some (.bool true) ∧ w'.cell? ⟨w.heap.size + 8, 1, none⟩ = some (.int .i64 100)) (first | ((refine ⟨?_, ?_, ?_, ?_, ?_, ?_, ?_, ?_⟩ <;> (repeat (with_reducible (first | assumption | exact H30.out | exact H31.out | exact H40.out | exact H41.out | exact H70.out | exact H71.out | exact H80.out | exact H81.out | refine cell_set_keep (by simp) ?_ | refine cell_drew_keep ?_ | refine cell_alloc_keep ?_)))); done) | (go_keep; done)) (first
    | (go_at_call 18; refine (text_c _ _).mono ?_; rintro e w1 ⟨rfl, hw⟩; rw [hw]; clear hw)
    | (go_at_call 19; refine (number_c _ _).mono ?_; rintro e w1 ⟨rfl, hw⟩; rw [hw]; clear hw)
    | (go_at_call 20; refine (allOf_c _ _ _ _).mono ?_; rintro e w1 ⟨rfl, hw⟩; rw [hw]; clear hw))
    all_goals go_wp2
    all_goals
      refine bodyPost_ret (v := .tuple #[.agg #[.int .i64 5, .slice (some ⟨w.heap.size + 9 + 1, 0, none⟩) 5 5], .bool true]) (by simp [results, Tryd.results10, go_sem, hsz, c00, c01]) rfl ⟨⟨_, rfl, Or.inr ⟨w.heap.size + 9 + 1, rfl, by omega, ?_⟩⟩, ?_⟩
      · exact heap_at_drew _ _ _ _ (by simp [hsz])
      · refine Below.drew ?_
        refine Below.alloc (Below.alloc (Below.alloc (Below.setCell (Below.setCell HB.out ?_ _) ?_ _) ?_ _) ?_ _) ?_ _
        all_goals first | exact Nat.le_refl _ | (simp [hsz]; done) | (simp [hsz]; omega)
end Go.Proofs.YtdpnpcjbjjjceaaDoor
