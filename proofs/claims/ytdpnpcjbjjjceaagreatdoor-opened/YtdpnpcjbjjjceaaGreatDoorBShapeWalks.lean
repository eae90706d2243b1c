import Derived.Deep.RegionWith
import Derived.Test.YtdpnpcjbjjjceaaGreatDoorBProgWalks
set_option linter.unusedSimpArgs false
set_option linter.unusedVariables false
namespace Go.Proofs.YtdpnpcjbjjjceaaGreatDoor
open Go.RowKit

theorem text_c (m : Int) (w : World) : Calls Tryz.prog 75 #[.int .i64 m] w fun e w' => e = .returned (.agg #[.bool false, .int .i64 m]) ∧ w' = w.alloc (.cells #[.bool false, .int .i64 m] 115) := by
  go_enter Tryz.func75, Tryz.ntmps75
  go_wp2
  exact bodyPost_ret (v := .agg #[.bool false, .int .i64 m]) (by simp [results, Tryz.results75, go_sem]) rfl ⟨rfl, rfl⟩
theorem number_c (m : Int) (w : World) : Calls Tryz.prog 76 #[.int .i64 m] w fun e w' => e = .returned (.agg #[.bool true, .int .i64 m]) ∧ w' = w.alloc (.cells #[.bool true, .int .i64 m] 115) := by
  go_enter Tryz.func76, Tryz.ntmps76
  go_wp2
  exact bodyPost_ret (v := .agg #[.bool true, .int .i64 m]) (by simp [results, Tryz.results76, go_sem]) rfl ⟨rfl, rfl⟩
theorem allOf_c (a : Option Addr) (n c : Nat) (w : World) : Calls Tryz.prog 77 #[.slice a n c] w fun e w' => e = .returned (.agg #[.int .i64 n, .slice a n c]) ∧ w' = w.alloc (.cells #[.int .i64 n, .slice a n c] 110) := by
  go_enter Tryz.func77, Tryz.ntmps77
  go_wp2
  exact bodyPost_ret (v := .agg #[.int .i64 n, .slice a n c]) (by simp [results, Tryz.results77, go_sem]) rfl ⟨rfl, rfl⟩

def flat : List (Bool × Int) → List Value
  | [] => []
  | (b, m) :: r => .bool b :: .int .i64 m :: flat r
def ShapePost (w : World) (least : Nat) (rules : List (Bool × Int)) (e : Ending) (w' : World) : Prop :=
  (∃ a : Option Addr, e = .returned (.tuple #[.agg #[.int .i64 least, .slice a rules.length rules.length], .bool true]) ∧
    (rules = [] ∨ ∃ g, a = some ⟨g, 0, none⟩ ∧ w.heap.size ≤ g ∧ w'.heap[g]? = some (.cells (flat rules).toArray 115 (0, 0)))) ∧ Below w.heap.size w w'
theorem heap_at (W : World) (o1 o2 : Obj) (g : Nat) (h : g = W.heap.size) : ((W.alloc o1).alloc o2).heap[g]? = some o1 := by
  subst h
  show ((W.heap.push o1).push o2)[W.heap.size]? = some o1
  rw [Array.getElem?_push, if_neg (by simp), Array.getElem?_push, if_pos rfl]

set_option maxHeartbeats 8000000 in
theorem shapeOf_auth (w : World) : Calls Tryz.prog 60 #[.string ⟨#[97, 117, 116, 104]⟩] w (ShapePost w 2 [(false, 8), (false, 16)]) := by
  go_enter Tryz.func60, Tryz.ntmps60
  go_wp2_with (first
    | (go_at_call 75; refine (text_c _ _).mono ?_; rintro e w1 ⟨rfl, hw⟩; rw [hw]; clear hw)
    | (go_at_call 76; refine (number_c _ _).mono ?_; rintro e w1 ⟨rfl, hw⟩; rw [hw]; clear hw)
    | (go_at_call 77; refine (allOf_c _ _ _ _).mono ?_; rintro e w1 ⟨rfl, hw⟩; rw [hw]; clear hw))
  refine bodyPost_ret (v := .tuple #[.agg #[.int .i64 2, .slice (some ⟨w.heap.size + 11, 0, none⟩) 2 2], .bool true]) (by simp [results, Tryz.results60, go_sem]) rfl ⟨⟨_, rfl, Or.inr ⟨w.heap.size + 11, rfl, by omega, ?_⟩⟩, ?_⟩
  · exact heap_at _ _ _ _ (by simp)
  · repeat (first | exact Below.refl _ _ | refine Below.alloc ?_ (by simp; omega) _ | refine Below.alloc ?_ (by simp) _)

set_option maxHeartbeats 8000000 in
theorem shapeOf_set (w : World) : Calls Tryz.prog 60 #[.string ⟨#[115, 101, 116]⟩] w (ShapePost w 4 [(false, 20), (true, 65535), (true, 1000000), (true, 100)]) := by
  go_enter Tryz.func60, Tryz.ntmps60
  go_wp2_with (first
    | (go_at_call 75; refine (text_c _ _).mono ?_; rintro e w1 ⟨rfl, hw⟩; rw [hw]; clear hw)
    | (go_at_call 76; refine (number_c _ _).mono ?_; rintro e w1 ⟨rfl, hw⟩; rw [hw]; clear hw)
    | (go_at_call 77; refine (allOf_c _ _ _ _).mono ?_; rintro e w1 ⟨rfl, hw⟩; rw [hw]; clear hw))
  refine bodyPost_ret (v := .tuple #[.agg #[.int .i64 4, .slice (some ⟨w.heap.size + 9, 0, none⟩) 4 4], .bool true]) (by simp [results, Tryz.results60, go_sem]) rfl ⟨⟨_, rfl, Or.inr ⟨w.heap.size + 9, rfl, by omega, ?_⟩⟩, ?_⟩
  · exact heap_at _ _ _ _ (by simp)
  · repeat (first | exact Below.refl _ _ | refine Below.alloc ?_ (by simp; omega) _ | refine Below.alloc ?_ (by simp) _)

set_option maxHeartbeats 8000000 in
theorem shapeOf_add (w : World) : Calls Tryz.prog 60 #[.string ⟨#[97, 100, 100]⟩] w (ShapePost w 4 [(false, 20), (true, 65535), (true, 1000000), (true, 100)]) := by
  go_enter Tryz.func60, Tryz.ntmps60
  go_wp2_with (first
    | (go_at_call 75; refine (text_c _ _).mono ?_; rintro e w1 ⟨rfl, hw⟩; rw [hw]; clear hw)
    | (go_at_call 76; refine (number_c _ _).mono ?_; rintro e w1 ⟨rfl, hw⟩; rw [hw]; clear hw)
    | (go_at_call 77; refine (allOf_c _ _ _ _).mono ?_; rintro e w1 ⟨rfl, hw⟩; rw [hw]; clear hw))
  refine bodyPost_ret (v := .tuple #[.agg #[.int .i64 4, .slice (some ⟨w.heap.size + 9, 0, none⟩) 4 4], .bool true]) (by simp [results, Tryz.results60, go_sem]) rfl ⟨⟨_, rfl, Or.inr ⟨w.heap.size + 9, rfl, by omega, ?_⟩⟩, ?_⟩
  · exact heap_at _ _ _ _ (by simp)
  · repeat (first | exact Below.refl _ _ | refine Below.alloc ?_ (by simp; omega) _ | refine Below.alloc ?_ (by simp) _)

set_option maxHeartbeats 8000000 in
theorem shapeOf_replace (w : World) : Calls Tryz.prog 60 #[.string ⟨#[114, 101, 112, 108, 97, 99, 101]⟩] w (ShapePost w 4 [(false, 20), (true, 65535), (true, 1000000), (true, 100)]) := by
  go_enter Tryz.func60, Tryz.ntmps60
  go_wp2_with (first
    | (go_at_call 75; refine (text_c _ _).mono ?_; rintro e w1 ⟨rfl, hw⟩; rw [hw]; clear hw)
    | (go_at_call 76; refine (number_c _ _).mono ?_; rintro e w1 ⟨rfl, hw⟩; rw [hw]; clear hw)
    | (go_at_call 77; refine (allOf_c _ _ _ _).mono ?_; rintro e w1 ⟨rfl, hw⟩; rw [hw]; clear hw))
  refine bodyPost_ret (v := .tuple #[.agg #[.int .i64 4, .slice (some ⟨w.heap.size + 9, 0, none⟩) 4 4], .bool true]) (by simp [results, Tryz.results60, go_sem]) rfl ⟨⟨_, rfl, Or.inr ⟨w.heap.size + 9, rfl, by omega, ?_⟩⟩, ?_⟩
  · exact heap_at _ _ _ _ (by simp)
  · repeat (first | exact Below.refl _ _ | refine Below.alloc ?_ (by simp; omega) _ | refine Below.alloc ?_ (by simp) _)

set_option maxHeartbeats 8000000 in
theorem shapeOf_delete (w : World) : Calls Tryz.prog 60 #[.string ⟨#[100, 101, 108, 101, 116, 101]⟩] w (ShapePost w 1 [(false, 20)]) := by
  go_enter Tryz.func60, Tryz.ntmps60
  go_wp2_with (first
    | (go_at_call 75; refine (text_c _ _).mono ?_; rintro e w1 ⟨rfl, hw⟩; rw [hw]; clear hw)
    | (go_at_call 76; refine (number_c _ _).mono ?_; rintro e w1 ⟨rfl, hw⟩; rw [hw]; clear hw)
    | (go_at_call 77; refine (allOf_c _ _ _ _).mono ?_; rintro e w1 ⟨rfl, hw⟩; rw [hw]; clear hw))
  refine bodyPost_ret (v := .tuple #[.agg #[.int .i64 1, .slice (some ⟨w.heap.size + 9, 0, none⟩) 1 1], .bool true]) (by simp [results, Tryz.results60, go_sem]) rfl ⟨⟨_, rfl, Or.inr ⟨w.heap.size + 9, rfl, by omega, ?_⟩⟩, ?_⟩
  · exact heap_at _ _ _ _ (by simp)
  · repeat (first | exact Below.refl _ _ | refine Below.alloc ?_ (by simp; omega) _ | refine Below.alloc ?_ (by simp) _)

set_option maxHeartbeats 8000000 in
theorem shapeOf_touch (w : World) : Calls Tryz.prog 60 #[.string ⟨#[116, 111, 117, 99, 104]⟩] w (ShapePost w 2 [(false, 20), (true, 1000000)]) := by
  go_enter Tryz.func60, Tryz.ntmps60
  go_wp2_with (first
    | (go_at_call 75; refine (text_c _ _).mono ?_; rintro e w1 ⟨rfl, hw⟩; rw [hw]; clear hw)
    | (go_at_call 76; refine (number_c _ _).mono ?_; rintro e w1 ⟨rfl, hw⟩; rw [hw]; clear hw)
    | (go_at_call 77; refine (allOf_c _ _ _ _).mono ?_; rintro e w1 ⟨rfl, hw⟩; rw [hw]; clear hw))
  refine bodyPost_ret (v := .tuple #[.agg #[.int .i64 2, .slice (some ⟨w.heap.size + 9, 0, none⟩) 2 2], .bool true]) (by simp [results, Tryz.results60, go_sem]) rfl ⟨⟨_, rfl, Or.inr ⟨w.heap.size + 9, rfl, by omega, ?_⟩⟩, ?_⟩
  · exact heap_at _ _ _ _ (by simp)
  · repeat (first | exact Below.refl _ _ | refine Below.alloc ?_ (by simp; omega) _ | refine Below.alloc ?_ (by simp) _)
end Go.Proofs.YtdpnpcjbjjjceaaGreatDoor
