import Derived.Test.YtdpnpcjbjjjceaaDoorLineWalks
import Derived.Test.YtdpnpcjbjjjceaaDoorCasWalks2
import Derived.Deep.RegionWith
set_option linter.unusedSimpArgs false
set_option linter.unusedVariables false
namespace Go.Proofs.YtdpnpcjbjjjceaaDoor
open Go.RowKit

def pShape (l : List UInt8) : Option (Nat × List (Bool × Int)) :=
  if l = [97, 117, 116, 104] then some (2, [(false, 8), (false, 16)]) else
  if l = [113, 117, 105, 116] then some (0, []) else
  if l = [115, 116, 97, 116, 115] then some (0, []) else
  if l = [103, 101, 116] then some (1, List.replicate 10 (false, 20)) else
  if l = [115, 101, 116] then some (4, [(false, 20), (true, 65535), (true, 1000000), (true, 100)]) else
  if l = [97, 100, 100] then some (4, [(false, 20), (true, 65535), (true, 1000000), (true, 100)]) else
  if l = [114, 101, 112, 108, 97, 99, 101] then some (4, [(false, 20), (true, 65535), (true, 1000000), (true, 100)]) else
  if l = [99, 97, 115] then some (5, [(false, 20), (true, 65535), (true, 1000000), (true, 100), (true, 999999999)]) else
  if l = [100, 101, 108, 101, 116, 101] then some (1, [(false, 20)]) else
  if l = [105, 110, 99, 114] then some (2, [(false, 20), (true, 999999999)]) else
  if l = [116, 111, 117, 99, 104] then some (2, [(false, 20), (true, 1000000)]) else
  none
def pShapeS (s : ByteArray) : Option (Nat × List (Bool × Int)) := pShape s.data.toList
theorem pShape_small {l : List UInt8} {least : Nat} {rules : List (Bool × Int)} (h : pShape l = some (least, rules)) : least ≤ 10 ∧ rules.length ≤ 10 := by
  unfold pShape at h
  by_cases e0 : l = [97, 117, 116, 104]
  · rw [if_pos e0] at h; cases h; decide
  rw [if_neg e0] at h
  by_cases e1 : l = [113, 117, 105, 116]
  · rw [if_pos e1] at h; cases h; decide
  rw [if_neg e1] at h
  by_cases e2 : l = [115, 116, 97, 116, 115]
  · rw [if_pos e2] at h; cases h; decide
  rw [if_neg e2] at h
  by_cases e3 : l = [103, 101, 116]
  · rw [if_pos e3] at h; cases h; decide
  rw [if_neg e3] at h
  by_cases e4 : l = [115, 101, 116]
  · rw [if_pos e4] at h; cases h; decide
  rw [if_neg e4] at h
  by_cases e5 : l = [97, 100, 100]
  · rw [if_pos e5] at h; cases h; decide
  rw [if_neg e5] at h
  by_cases e6 : l = [114, 101, 112, 108, 97, 99, 101]
  · rw [if_pos e6] at h; cases h; decide
  rw [if_neg e6] at h
  by_cases e7 : l = [99, 97, 115]
  · rw [if_pos e7] at h; cases h; decide
  rw [if_neg e7] at h
  by_cases e8 : l = [100, 101, 108, 101, 116, 101]
  · rw [if_pos e8] at h; cases h; decide
  rw [if_neg e8] at h
  by_cases e9 : l = [105, 110, 99, 114]
  · rw [if_pos e9] at h; cases h; decide
  rw [if_neg e9] at h
  by_cases e10 : l = [116, 111, 117, 99, 104]
  · rw [if_pos e10] at h; cases h; decide
  rw [if_neg e10] at h
  cases h

set_option maxHeartbeats 2000000 in
theorem shapeOf_unknown (s : ByteArray) (w : World) (h : pShapeS s = none) : Calls Tryd.prog 10 #[.string s] w fun e w' => e = .returned (.tuple #[.agg #[.int .i64 0, .slice none 0 0], .bool false]) ∧ Below w.heap.size w w' := by
  unfold pShapeS pShape at h
  by_cases e0 : s.data.toList = [97, 117, 116, 104]
  · simp [e0] at h
  have n0 := ne_list e0
  by_cases e1 : s.data.toList = [113, 117, 105, 116]
  · simp [e1] at h
  have n1 := ne_list e1
  by_cases e2 : s.data.toList = [115, 116, 97, 116, 115]
  · simp [e2] at h
  have n2 := ne_list e2
  by_cases e3 : s.data.toList = [103, 101, 116]
  · simp [e3] at h
  have n3 := ne_list e3
  by_cases e4 : s.data.toList = [115, 101, 116]
  · simp [e4] at h
  have n4 := ne_list e4
  by_cases e5 : s.data.toList = [97, 100, 100]
  · simp [e5] at h
  have n5 := ne_list e5
  by_cases e6 : s.data.toList = [114, 101, 112, 108, 97, 99, 101]
  · simp [e6] at h
  have n6 := ne_list e6
  by_cases e7 : s.data.toList = [99, 97, 115]
  · simp [e7] at h
  have n7 := ne_list e7
  by_cases e8 : s.data.toList = [100, 101, 108, 101, 116, 101]
  · simp [e8] at h
  have n8 := ne_list e8
  by_cases e9 : s.data.toList = [105, 110, 99, 114]
  · simp [e9] at h
  have n9 := ne_list e9
  by_cases e10 : s.data.toList = [116, 111, 117, 99, 104]
  · simp [e10] at h
  have n10 := ne_list e10
  clear h e0 e1 e2 e3 e4 e5 e6 e7 e8 e9 e10
  go_enter Tryd.func10, Tryd.ntmps10
  go_wp2_with (first
    | (go_at_call 18; refine (text_c _ _).mono ?_; rintro e w1 ⟨rfl, hw⟩; rw [hw]; clear hw)
    | (go_at_call 19; refine (number_c _ _).mono ?_; rintro e w1 ⟨rfl, hw⟩; rw [hw]; clear hw))
  refine bodyPost_ret (v := .tuple #[.agg #[.int .i64 0, .slice none 0 0], .bool false]) (by simp [results, Tryd.results10, go_sem]) rfl ⟨rfl, ?_⟩
  repeat (first | exact Below.refl _ _ | refine Below.alloc ?_ (by simp; omega) _ | refine Below.alloc ?_ (by simp) _)

theorem shapeOf_known (s : ByteArray) (w : World) (least : Nat) (rules : List (Bool × Int)) (h : pShapeS s = some (least, rules)) : Calls Tryd.prog 10 #[.string s] w (ShapePost w least rules) := by
  unfold pShapeS pShape at h
  by_cases e0 : s.data.toList = [97, 117, 116, 104]
  · obtain rfl := eq_of_list e0
    simp at h
    obtain ⟨rfl, rfl⟩ := h
    exact shapeOf_auth w
  rw [if_neg e0] at h
  by_cases e1 : s.data.toList = [113, 117, 105, 116]
  · obtain rfl := eq_of_list e1
    simp at h
    obtain ⟨rfl, rfl⟩ := h
    exact shapeOf_none _ w (Or.inl rfl)
  rw [if_neg e1] at h
  by_cases e2 : s.data.toList = [115, 116, 97, 116, 115]
  · obtain rfl := eq_of_list e2
    simp at h
    obtain ⟨rfl, rfl⟩ := h
    exact shapeOf_none _ w (Or.inr rfl)
  rw [if_neg e2] at h
  by_cases e3 : s.data.toList = [103, 101, 116]
  · obtain rfl := eq_of_list e3
    simp at h
    obtain ⟨rfl, rfl⟩ := h
    exact shapeOf_get w
  rw [if_neg e3] at h
  by_cases e4 : s.data.toList = [115, 101, 116]
  · obtain rfl := eq_of_list e4
    simp at h
    obtain ⟨rfl, rfl⟩ := h
    exact shapeOf_set w
  rw [if_neg e4] at h
  by_cases e5 : s.data.toList = [97, 100, 100]
  · obtain rfl := eq_of_list e5
    simp at h
    obtain ⟨rfl, rfl⟩ := h
    exact shapeOf_add w
  rw [if_neg e5] at h
  by_cases e6 : s.data.toList = [114, 101, 112, 108, 97, 99, 101]
  · obtain rfl := eq_of_list e6
    simp at h
    obtain ⟨rfl, rfl⟩ := h
    exact shapeOf_replace w
  rw [if_neg e6] at h
  by_cases e7 : s.data.toList = [99, 97, 115]
  · obtain rfl := eq_of_list e7
    simp at h
    obtain ⟨rfl, rfl⟩ := h
    exact shapeOf_cas w
  rw [if_neg e7] at h
  by_cases e8 : s.data.toList = [100, 101, 108, 101, 116, 101]
  · obtain rfl := eq_of_list e8
    simp at h
    obtain ⟨rfl, rfl⟩ := h
    exact shapeOf_delete w
  rw [if_neg e8] at h
  by_cases e9 : s.data.toList = [105, 110, 99, 114]
  · obtain rfl := eq_of_list e9
    simp at h
    obtain ⟨rfl, rfl⟩ := h
    exact shapeOf_incr w
  rw [if_neg e9] at h
  by_cases e10 : s.data.toList = [116, 111, 117, 99, 104]
  · obtain rfl := eq_of_list e10
    simp at h
    obtain ⟨rfl, rfl⟩ := h
    exact shapeOf_touch w
  rw [if_neg e10] at h
  cases h

theorem split_c (s : ByteArray) (w : World) (hs : s.size ≤ 1048576) (N : Nat) (hN : N = min 12 (s.size + 1)) :
    Calls Tryd.prog 9 #[.string s, .string ⟨#[32]⟩, .int .i64 12] w fun e w' => e = .returned (.slice (some ⟨w.heap.size, 0, none⟩) (Lib.splitB ⟨#[32]⟩ 0 (N - 1) s).length N) ∧ w' = w.alloc (.cells (Lib.cellsOf (Lib.splitB ⟨#[32]⟩ 0 (N - 1) s) N) 9) := by
  have c := Tryd.genSplit_core s ⟨#[32]⟩ 0 12 N w (by omega) (by decide) (by decide) (fun x c hx => (Tryd.strings_Index_one x 32 _).mono fun e w' ⟨he, hw⟩ => ⟨by rw [he]; show _ = Ending.returned (Value.int .i64 (Lib.index x.data.toList [32])); rw [Lib.index_one], hw⟩)
    ((Tryd.strings_Count_one s 32 w).mono fun e w' ⟨he, hw⟩ => ⟨by rw [he]; show _ = Ending.returned (Value.int .i64 ((Lib.count s.data.toList [32] : Nat) : Int)); rw [Lib.count_one]; rfl, hw⟩) (by decide) (by decide) (by rw [if_neg (by decide)]; omega)
  clear hN
  go_enter Tryd.func9, Tryd.ntmps9
  go_wp2_with (go_at_call 17; refine c.mono ?_; rintro e w' ⟨rfl, hw⟩; rw [hw])
  go_ret
  exact ⟨rfl, rfl⟩
end Go.Proofs.YtdpnpcjbjjjceaaDoor
