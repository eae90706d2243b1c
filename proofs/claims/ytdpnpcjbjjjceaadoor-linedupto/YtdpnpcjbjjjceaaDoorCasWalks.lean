import Derived.Test.YtdpnpcjbjjjceaaDoorShapeWalks
import Derived.Deep.RegionHeld3
import Derived.Deep.DeepCutAuto
set_option linter.unusedSimpArgs false
set_option linter.unusedVariables false
namespace Go.Proofs.YtdpnpcjbjjjceaaDoor
open Go.RowKit

theorem heap_cell {w : World} {g : Nat} {c : Array Value} {t : TypeId} {fz : Nat × Nat} {v : Value} (h : w.heap[g]? = some (.cells c t fz)) (j : Nat) (hj : c[j]? = some v) : w.cell? ⟨g, j, none⟩ = some v := by
  simp only [World.cell?, h]; simpa using hj
theorem heap_frozen {w : World} {g : Nat} {c : Array Value} {t : TypeId} (h : w.heap[g]? = some (.cells c t (0, 0))) (j : Nat) : w.frozen? ⟨g, j, none⟩ = false := by
  simp [World.frozen?, h]
theorem cell_alloc_keep {W : World} {o : Obj} {a : Addr} {v : Value} (h : W.cell? a = some v) : (W.alloc o).cell? a = some v := by
  rw [World.cell?_alloc_old _ _ _ (Nat.ne_of_lt (World.block_lt_of_cell? _ _ h))]; exact h
theorem cell_drew_keep {W : World} {a : Addr} {v : Value} (h : W.cell? a = some v) : W.drew.cell? a = some v := h
theorem frozen_alloc_keep {W : World} {o : Obj} {a : Addr} (hl : a.block < W.heap.size) (h : W.frozen? a = false) : (W.alloc o).frozen? a = false := by
  rw [World.frozen?_of_block (w := W) (Below.heap_alloc W o a.block hl)]; exact h
theorem cell_alloc_at {W : World} {c : Array Value} {t : TypeId} {g j : Nat} {v : Value} (hg : g = W.heap.size) (hj : c[j]? = some v) : (W.alloc (.cells c t)).cell? ⟨g, j, none⟩ = some v := by
  subst hg
  refine heap_cell (c := c) (t := t) (fz := (0, 0)) ?_ j hj
  show (W.heap.push _)[W.heap.size]? = _
  rw [Array.getElem?_push, if_pos rfl]
theorem cell_set_keep {W : World} {p a : Addr} {u v : Value} (hn : a.block ≠ p.block) (h : W.cell? a = some v) : (W.setCell p u).cell? a = some v := by
  rw [World.cell?_of_block (w := W) (Below.heap_setCell W p u a.block hn)]; exact h
theorem alloc_at (W : World) (o : Obj) (g : Nat) (h : g = W.heap.size) : (W.alloc o).heap[g]? = some o := by
  subst h
  show (W.heap.push o)[W.heap.size]? = some o
  rw [Array.getElem?_push, if_pos rfl]
theorem alloc_old (W : World) (o o' : Obj) (g : Nat) (h : W.heap[g]? = some o') : (W.alloc o).heap[g]? = some o' := by
  have hg : g < W.heap.size := (Array.getElem?_eq_some_iff.1 h).1
  show (W.heap.push o)[g]? = some o'
  rw [Array.getElem?_push, if_neg (by omega)]; exact h
theorem heap_at_drew (W : World) (o1 o2 : Obj) (g : Nat) (h : g = W.heap.size) : ((W.alloc o1).alloc o2).drew.heap[g]? = some o1 := heap_at W o1 o2 g h

set_option maxHeartbeats 1000000 in
theorem shapeOf_incr (w : World) : Calls Tryd.prog 10 #[.string ⟨#[105, 110, 99, 114]⟩] w (ShapePost w 2 [(false, 20), (true, 999999999)]) := by
  go_enter Tryd.func10, Tryd.ntmps10
  go_upto_region 2 with (first
    | (go_at_call 18; refine (text_c _ _).mono ?_; rintro e w1 ⟨rfl, hw⟩; rw [hw]; clear hw)
    | (go_at_call 19; refine (number_c _ _).mono ?_; rintro e w1 ⟨rfl, hw⟩; rw [hw]; clear hw)
    | (go_at_call 20; refine (allOf_c _ _ _ _).mono ?_; rintro e w1 ⟨rfl, hw⟩; rw [hw]; clear hw))
  go_cut [4, 5, 6, 7] (fun v4 v5 v6 v7 W => v4 = .pointer (some ⟨w.heap.size + 3, 0, none⟩) ∧ v5 = .pointer (some ⟨w.heap.size + 4, 0, none⟩) ∧ v6 = .pointer (some ⟨w.heap.size + 7, 0, none⟩) ∧ v7 = .pointer (some ⟨w.heap.size + 8, 0, none⟩) ∧
    W.heap.size = w.heap.size + 9 ∧ Below w.heap.size w W ∧ W.heap[w.heap.size]? = some (.cells #[.int .i64 0, .slice none 0 0] 34 (0, 0)) ∧ W.heap[w.heap.size + 3]? = some (.cells #[.bool false, .int .i64 20] 39 (0, 0)) ∧
    W.heap[w.heap.size + 4]? = some (.cells #[.bool true, .int .i64 1000000] 39 (0, 0)) ∧ W.heap[w.heap.size + 7]? = some (.cells #[.bool true, .int .i64 65535] 39 (0, 0)) ∧ W.heap[w.heap.size + 8]? = some (.cells #[.bool true, .int .i64 100] 39 (0, 0)))
  case first =>
    go_wp2_with (first
    | (go_at_call 18; refine (text_c _ _).mono ?_; rintro e w1 ⟨rfl, hw⟩; rw [hw]; clear hw)
    | (go_at_call 19; refine (number_c _ _).mono ?_; rintro e w1 ⟨rfl, hw⟩; rw [hw]; clear hw)
    | (go_at_call 20; refine (allOf_c _ _ _ _).mono ?_; rintro e w1 ⟨rfl, hw⟩; rw [hw]; clear hw))
    go_meet
    case rel =>
      refine ⟨rfl, rfl, rfl, rfl, by simp, ?_, ?_, ?_, ?_, ?_, ?_⟩
      · repeat (first | exact Below.refl _ _ | refine Below.alloc ?_ (by simp; omega) _ | refine Below.alloc ?_ (by simp) _)
      all_goals repeat (first | exact alloc_at _ _ _ (by simp) | refine alloc_old _ _ _ _ ?_)
  case rest =>
    obtain ⟨rfl, rfl, rfl, rfl, hsz, hbel, h0, h3, h4, h7, h8⟩ := hcut
    have c00 := heap_cell h0 0 rfl
    have c01 := heap_cell h0 1 rfl
    have f00 := heap_frozen h0 0
    have f01 := heap_frozen h0 1
    have c30 := heap_cell h3 0 rfl
    have c31 := heap_cell h3 1 rfl
    have c40 := heap_cell h4 0 rfl
    have c41 := heap_cell h4 1 rfl
    have c70 := heap_cell h7 0 rfl
    have c71 := heap_cell h7 1 rfl
    have c80 := heap_cell h8 0 rfl
    have c81 := heap_cell h8 1 rfl
    have HB : Hid (Below w.heap.size w wc) := hbel
    clear hbel h0 h3 h4 h7 h8
    go_wp2_with (first
    | (go_at_call 18; refine (text_c _ _).mono ?_; rintro e w1 ⟨rfl, hw⟩; rw [hw]; clear hw)
    | (go_at_call 19; refine (number_c _ _).mono ?_; rintro e w1 ⟨rfl, hw⟩; rw [hw]; clear hw)
    | (go_at_call 20; refine (allOf_c _ _ _ _).mono ?_; rintro e w1 ⟨rfl, hw⟩; rw [hw]; clear hw))
    go_region_with (first
    | (go_at_call 18; refine (text_c _ _).mono ?_; rintro e w1 ⟨rfl, hw⟩; rw [hw]; clear hw)
    | (go_at_call 19; refine (number_c _ _).mono ?_; rintro e w1 ⟨rfl, hw⟩; rw [hw]; clear hw)
    | (go_at_call 20; refine (allOf_c _ _ _ _).mono ?_; rintro e w1 ⟨rfl, hw⟩; rw [hw]; clear hw))
    all_goals go_wp2
    all_goals
      refine bodyPost_ret (v := .tuple #[.agg #[.int .i64 2, .slice (some ⟨w.heap.size + 9 + 1, 0, none⟩) 2 2], .bool true]) (by simp [results, Tryd.results10, go_sem, hsz, c00, c01]) rfl ⟨⟨_, rfl, Or.inr ⟨w.heap.size + 9 + 1, rfl, by omega, ?_⟩⟩, ?_⟩
      · exact heap_at_drew _ _ _ _ (by simp [hsz])
      · refine Below.drew ?_
        refine Below.alloc (Below.alloc (Below.alloc (Below.setCell (Below.setCell HB.out ?_ _) ?_ _) ?_ _) ?_ _) ?_ _
        all_goals first | exact Nat.le_refl _ | (simp [hsz]; done) | (simp [hsz]; omega)
end Go.Proofs.YtdpnpcjbjjjceaaDoor
