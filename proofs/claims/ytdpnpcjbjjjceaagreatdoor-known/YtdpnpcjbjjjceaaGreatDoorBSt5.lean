import Derived.Deep.RegionHeld3
import Derived.Test.YtdpnpcjbjjjceaaGreatDoorBSt1
set_option linter.unusedSimpArgs false
set_option linter.unusedVariables false
namespace Go.Proofs.YtdpnpcjbjjjceaaGreatDoor.S
open Go.RowKit Go.Maps Go.MuLone Go.Proofs.YtdpnpcjbjjjceaaGreatDoor

/-- in the midst of put: the store, the item's own block, what has turned -/
structure Mi (w0 : World) (sb eb ib : Nat) (l : Lk) (x : Num) (r : List Row) (K V : ByteArray) (f : Int) (w : World) : Prop where
  box : Box w sb eb l x r
  item : w.heap[ib]? = some (.cells #[.string K, .string V, .int .i64 f] 162 (0, 0))
  turn : Turn (ofStore sb eb) w0 w
  new : w0.heap.size ≤ ib
  old : sb < w0.heap.size ∧ eb < w0.heap.size
section
variable {w0 w w' : World} {sb eb ib : Nat} {l : Lk} {x x' : Num} {r r' : List Row} {K V : ByteArray} {f : Int}
theorem Mi.drew (h : Mi w0 sb eb ib l x r K V f w) : Mi w0 sb eb ib l x r K V f w.drew := ⟨h.box.same rfl rfl, h.item, h.turn.drew, h.new, h.old⟩
theorem Mi.below (h : Mi w0 sb eb ib l x r K V f w) (hb : Below w.heap.size w w') : Mi w0 sb eb ib l x r K V f w' :=
  ⟨h.box.below hb, (hb.block _ (Array.getElem?_eq_some_iff.1 h.item).1).trans h.item, h.turn.trans (Turn.ofBelow hb), h.new, h.old⟩
theorem Mi.lt (h : Mi w0 sb eb ib l x r K V f w) : ib < w.heap.size := (Array.getElem?_eq_some_iff.1 h.item).1
theorem Mi.step (h : Mi w0 sb eb ib l x r K V f w) (hb : Box w' sb eb l x' r') (ht : Turn (ofStore sb eb) w w') : Mi w0 sb eb ib l x' r' K V f w' := by
  refine ⟨hb, (ht.block ib h.lt ?_).trans h.item, h.turn.trans ht, h.new, h.old⟩
  have h1 := h.new
  have h2 := h.old
  rintro (e | e) <;> omega
theorem Mi.set (h : Mi w0 sb eb ib l x r K V f w) (j : Nat) (v : Value) (hv : (cellsS l x eb).setIfInBounds j v = cellsS l x' eb) : Mi w0 sb eb ib l x' r K V f (w.setCell ⟨sb, j, none⟩ v) :=
  h.step (h.box.set j v hv) ((Turn.refl _ _).setCell (p := ⟨sb, j, none⟩) (Or.inl (Or.inl rfl)) v)
theorem Mi.set0 (h : Mi w0 sb eb ib l x r K V f w) : Mi w0 sb eb ib l x r K V f (w.setCell ⟨ib, 0, none⟩ (.string K)) := by
  have h1 := h.new
  have h2 := h.old
  exact ⟨h.box.same (heap_set_other _ _ _ _ (by show sb ≠ ib; omega)) (heap_set_other _ _ _ _ (by show eb ≠ ib; omega)), (set_here h.item).trans rfl, h.turn.setCell (p := ⟨ib, 0, none⟩) (Or.inr h1) _, h1, h2⟩
theorem Mi.set1 (h : Mi w0 sb eb ib l x r K V f w) : Mi w0 sb eb ib l x r K V f (w.setCell ⟨ib, 1, none⟩ (.string V)) := by
  have h1 := h.new
  have h2 := h.old
  exact ⟨h.box.same (heap_set_other _ _ _ _ (by show sb ≠ ib; omega)) (heap_set_other _ _ _ _ (by show eb ≠ ib; omega)), (set_here h.item).trans rfl, h.turn.setCell (p := ⟨ib, 1, none⟩) (Or.inr h1) _, h1, h2⟩
theorem Mi.cost (h : Mi w0 sb eb ib l x r K V f w) (hk : K.size ≤ 1000000) (hv : V.size ≤ 1000000) (c : Nat) (hc : K.size + V.size + 16 = c) :
    Calls Tryz.prog 134 #[.agg #[.string K, .string V, .int .i64 f]] w fun e w' => e = .returned (.int .i64 c) ∧ Mi w0 sb eb ib l x r K V f w' :=
  (cost_c K V f w hk hv c hc).mono fun _ _ ⟨he, hb⟩ => ⟨he, h.below hb⟩
def SMi (w0 : World) (sb eb ib : Nat) (l : Lk) (x : Num) (r : List Row) (K V : ByteArray) (f : Int) (w : World) : Prop :=
  w.cell? ⟨sb, 2, none⟩ = some (.int .i64 x.quota) ∧ w.cell? ⟨sb, 5, none⟩ = some (.int .i64 x.cost) ∧ w.cell? ⟨ib, 0, none⟩ = some (.string K) ∧ w.cell? ⟨ib, 1, none⟩ = some (.string V) ∧ w.cell? ⟨ib, 2, none⟩ = some (.int .i64 f) ∧ Mi w0 sb eb ib l x r K V f w
theorem Mi.s (h : Mi w0 sb eb ib l x r K V f w) : SMi w0 sb eb ib l x r K V f w := ⟨h.box.c2, h.box.c4, heap_cell h.item 0 rfl, heap_cell h.item 1 rfl, heap_cell h.item 2 rfl, h⟩
theorem Mi.start (h : Box w sb eb l x r) : Mi w sb eb w.heap.size l x r K V f (w.alloc (.cells #[.string K, .string V, .int .i64 f] 162)) :=
  ⟨h.alloc _, alloc_here _ _, (Turn.refl _ _).alloc _, Nat.le_refl _, h.lt⟩
end

set_option maxRecDepth 20000 in
theorem put_large (w : World) (sb eb : Nat) (l : Lk) (x : Num) (rs : List Row) (h : Box w sb eb l x rs) (hq : x.quota ≤ 2000) (K V : ByteArray) (f en : Int) (hk : K.size ≤ 1000000) (hv : V.size ≤ 1000000) (hc : x.quota < K.size + V.size + 16) :
    Calls Tryz.prog 200 #[.pointer (some ⟨sb, 0, none⟩), .agg #[.string K, .string V, .int .i64 f], .int .i64 en] w fun e w' => e = .returned (.string ⟨#[84, 79, 79, 32, 76, 65, 82, 71, 69]⟩) ∧ Box w' sb eb l x rs ∧ Turn (ofStore sb eb) w w' := by
  have hsb := h.lt.1
  obtain ⟨c, hcc⟩ : ∃ c, c = K.size + V.size + 16 := ⟨_, rfl⟩
  have cC : Hid (∀ W, Mi w sb eb w.heap.size l x rs K V f W → Calls Tryz.prog 134 #[.agg #[.string K, .string V, .int .i64 f]] W fun e w' => e = .returned (.int .i64 c) ∧ Mi w sb eb w.heap.size l x rs K V f w') := fun W hW => hW.cost hk hv c hcc.symm
  have klt : (x.quota : Int) < c := by omega
  have HM : Mi w sb eb w.heap.size l x rs K V f (w.alloc (.cells #[.string K, .string V, .int .i64 f] 162)) := Mi.start h
  clear h hc hcc
  go_enter Tryz.func200, Tryz.ntmps200
  go_wp2_with fail
  generalize w.alloc (.cells #[.string K, .string V, .int .i64 f] 162) = W at HM ⊢
  go_region_held3 (fun w' => w'.cell? ⟨sb, 2, none⟩ = some (.int .i64 x.quota) ∧ w'.cell? ⟨sb, 5, none⟩ = some (.int .i64 x.cost) ∧ w'.cell? ⟨w.heap.size, 0, none⟩ = some (.string K) ∧ w'.cell? ⟨w.heap.size, 1, none⟩ = some (.string V) ∧ w'.cell? ⟨w.heap.size, 2, none⟩ = some (.int .i64 f) ∧ Mi w sb eb w.heap.size l x rs K V f w')
    ((refine Mi.s ?_; repeat (first | assumption | refine Mi.drew ?_)))
    (first
      | (go_at_call 134; refine (cC.out _ (by first | assumption | exact Mi.drew (by assumption))).mono ?_; rintro e w2 ⟨rfl, hM2⟩))
  rename_i hHeld; clear hHeld
  go_wp2
  go_ret
  exact ⟨rfl, hM2.box, hM2.turn⟩
end Go.Proofs.YtdpnpcjbjjjceaaGreatDoor.S
