import Derived.BigRegion
import Derived.Test.YtdpnpcjbjjjceaaGreatDoorBG
set_option linter.unusedSimpArgs false
set_option linter.unusedVariables false
namespace Go.Proofs.YtdpnpcjbjjjceaaGreatDoor.S
open Go.RowKit Go.Maps Go.MuLone Go.Proofs.YtdpnpcjbjjjceaaGreatDoor
variable {cl : Nat}

def statC (g h s e ex i c : Nat) : Array Value := #[.int .i64 g, .int .i64 h, .int .i64 s, .int .i64 e, .int .i64 ex, .int .i64 i, .int .i64 c]
/-- in the midst of Stats: the store, the result's own block -/
structure Ti (w0 : World) (sb eb g : Nat) (l : Lk) (x : Num) (rs : List Row) (w : World) : Prop where
  box : Box w sb eb l x rs
  turn : Turn (ofStore sb eb) w0 w
  new : w0.heap.size ≤ g
  old : sb < w0.heap.size ∧ eb < w0.heap.size
  res : ∃ a, w.heap[g]? = some (.cells a 257 (0, 0)) ∧ a.size = 7
def cellS (w : World) (g j : Nat) : Value := (w.cell? ⟨g, j, none⟩).getD (.bool false)
section
variable {w0 w w' : World} {sb eb g : Nat} {l : Lk} {x : Num} {rs : List Row}
theorem Ti.drew (h : Ti w0 sb eb g l x rs w) : Ti w0 sb eb g l x rs w.drew := ⟨h.box.same rfl rfl, h.turn.drew, h.new, h.old, h.res⟩
theorem Ti.alloc (h : Ti w0 sb eb g l x rs w) (o : Obj) : Ti w0 sb eb g l x rs (w.alloc o) := ⟨h.box.alloc o, h.turn.alloc o, h.new, h.old, let ⟨a, h1, h2⟩ := h.res; ⟨a, alloc_old h1, h2⟩⟩
theorem Ti.set (h : Ti w0 sb eb g l x rs w) (j : Nat) (v : Value) : Ti w0 sb eb g l x rs (w.setCell ⟨g, j, none⟩ v) := by
  have h1 := h.new
  have h2 := h.old
  exact ⟨h.box.same (heap_set_other _ _ _ _ (by show sb ≠ g; omega)) (heap_set_other _ _ _ _ (by show eb ≠ g; omega)), h.turn.setCell (p := ⟨g, j, none⟩) (Or.inr h1) v, h1, h2, let ⟨a, h3, h4⟩ := h.res; ⟨_, set_here h3, by simpa using h4⟩⟩
theorem Ti.len (h : Ti w0 sb eb g l x rs w) (ty : TypeId) : (Builtin.len_ #[153] ty #[.map (some eb)]).run Tryz.prog w = .ok (.int .i64 rs.length) w := by
  obtain ⟨D, hD, hH⟩ := h.box.map
  rw [hD.len Tryz.underlying153 ty, hH.size]
theorem Ti.at (h : Ti w0 sb eb g l x rs w) (j : Nat) (hj : j < 7) : w.cell? ⟨g, j, none⟩ = some (cellS w g j) := by
  obtain ⟨a, h1, h2⟩ := h.res
  unfold cellS
  rw [heap_cell h1 j (Array.getElem?_eq_getElem (by omega))]; rfl
theorem Ti.fz (h : Ti w0 sb eb g l x rs w) (j : Nat) : w.frozen? ⟨g, j, none⟩ = false := by
  obtain ⟨a, h1, h2⟩ := h.res
  exact heap_thawed h1 j
theorem Ti.sx (h : Ti w0 sb eb g l x rs w) : w.cell? ⟨sb, 8, none⟩ = some (.int .i64 x.gets) ∧ w.cell? ⟨sb, 9, none⟩ = some (.int .i64 x.hits) ∧ w.cell? ⟨sb, 6, none⟩ = some (.int .i64 x.mark) ∧ w.cell? ⟨sb, 10, none⟩ = some (.int .i64 x.evicted) ∧ w.cell? ⟨sb, 11, none⟩ = some (.int .i64 x.expired) ∧ w.cell? ⟨sb, 5, none⟩ = some (.int .i64 x.cost) ∧ w.cell? ⟨sb, 3, none⟩ = some (.map (some eb)) ∧ (∀ ty, (Builtin.len_ #[153] ty #[.map (some eb)]).run Tryz.prog w = .ok (.int .i64 rs.length) w) ∧ Ti w0 sb eb g l x rs w :=
  ⟨h.box.c7, h.box.c8, h.box.c5, h.box.c9, h.box.ce, h.box.c4, h.box.c3, h.len, h⟩
end

theorem drew_at {w : World} {g : Nat} {o : Option Obj} (h : w.heap[g]? = o) : w.drew.heap[g]? = o := h
theorem put_at {w : World} {g : Nat} {a : Array Value} {ty : TypeId} (h : w.heap[g]? = some (.cells a ty (0, 0))) (j : Nat) (v : Value) (b : Array Value) (hb : a.setIfInBounds j v = b) : (w.setCell ⟨g, j, none⟩ v).heap[g]? = some (.cells b ty (0, 0)) := by rw [← hb]; exact set_here h
set_option maxRecDepth 20000 in
set_option maxHeartbeats 8000000 in
theorem stats_c (w : World) (sb eb : Nat) (x : Num) (rs : List Row) (h : Box w sb eb (0, cl) x rs) :
    Calls Tryz.prog 214 #[.pointer (some ⟨sb, 0, none⟩)] w fun e w' => e = .returned (.agg (statC x.gets x.hits x.mark x.evicted x.expired rs.length x.cost)) ∧ Box w' sb eb (0, cl) x rs ∧ Turn (ofStore sb eb) w w' := by
  have HB := Hid.of h
  have hsb := h.lt.1
  clear h
  go_enter_defers Tryz.func214, Tryz.ntmps214
  go_wp2_with (go_at_call 90; refine (lock_c (HB.out.alloc _)).mono ?_; rintro e w1 ⟨rfl, hB1, hT1⟩; have HB1 := Hid.of hB1; have HT1 := Hid.of hT1; clear hB1 hT1)
  have hI : Ti w sb eb w.heap.size (1, cl) x rs w1 := ⟨HB1.out, ((Turn.refl _ _).alloc _).trans HT1.out, Nat.le_refl _, HB.out.lt, _, (HT1.out.block w.heap.size (by simp) (by rintro (e | e); exact absurd e (Nat.ne_of_gt hsb); exact absurd e (Nat.ne_of_gt HB.out.lt.2))).trans (alloc_here _ _), rfl⟩
  have b7 := HB1.out.c7
  have b8 := HB1.out.c8
  have b5 := HB1.out.c5
  have b9 := HB1.out.c9
  have be := HB1.out.ce
  have b4 := HB1.out.c4
  have b3 := HB1.out.c3
  have r0 := hI.at 0 (by decide)
  have z0 := hI.fz 0
  have r1 := hI.at 1 (by decide)
  have z1 := hI.fz 1
  have r2 := hI.at 2 (by decide)
  have z2 := hI.fz 2
  have r3 := hI.at 3 (by decide)
  have z3 := hI.fz 3
  have r4 := hI.at 4 (by decide)
  have z4 := hI.fz 4
  have r5 := hI.at 5 (by decide)
  have z5 := hI.fz 5
  have r6 := hI.at 6 (by decide)
  have z6 := hI.fz 6
  go_region_held3 (fun w' => w'.cell? ⟨sb, 8, none⟩ = some (.int .i64 x.gets) ∧ w'.cell? ⟨sb, 9, none⟩ = some (.int .i64 x.hits) ∧ w'.cell? ⟨sb, 6, none⟩ = some (.int .i64 x.mark) ∧ w'.cell? ⟨sb, 10, none⟩ = some (.int .i64 x.evicted) ∧ w'.cell? ⟨sb, 11, none⟩ = some (.int .i64 x.expired) ∧ w'.cell? ⟨sb, 5, none⟩ = some (.int .i64 x.cost) ∧ w'.cell? ⟨sb, 3, none⟩ = some (.map (some eb)) ∧ (∀ ty, (Builtin.len_ #[153] ty #[.map (some eb)]).run Tryz.prog w' = .ok (.int .i64 rs.length) w') ∧ Ti w sb eb w.heap.size (1, cl) x rs w')
    ((refine Ti.sx ?_; repeat (first | with_reducible exact hI | with_reducible refine Ti.set ?_ _ _ | with_reducible refine Ti.drew ?_ | with_reducible refine Ti.alloc ?_ _)))
    (fail)
  rename_i hHeld
  have hT2 := hHeld.2.2.2.2.2.2.2.2
  clear hHeld
  have hres1 : w1.heap[w.heap.size]? = some (.cells #[.int .i64 0, .int .i64 0, .int .i64 0, .int .i64 0, .int .i64 0, .int .i64 0, .int .i64 0] 257 (0, 0)) := (HT1.out.block w.heap.size (by simp) (by rintro (e | e); exact absurd e (Nat.ne_of_gt hsb); exact absurd e (Nat.ne_of_gt HB.out.lt.2))).trans (alloc_here _ _)
  have p0 := put_at hres1 0 (.int .i64 0) #[.int .i64 0, .int .i64 0, .int .i64 0, .int .i64 0, .int .i64 0, .int .i64 0, .int .i64 0] rfl
  have p1 := put_at p0 1 (.int .i64 0) #[.int .i64 0, .int .i64 0, .int .i64 0, .int .i64 0, .int .i64 0, .int .i64 0, .int .i64 0] rfl
  clear p0
  have p2 := put_at p1 2 (.int .i64 0) #[.int .i64 0, .int .i64 0, .int .i64 0, .int .i64 0, .int .i64 0, .int .i64 0, .int .i64 0] rfl
  clear p1
  have p3 := put_at p2 3 (.int .i64 0) #[.int .i64 0, .int .i64 0, .int .i64 0, .int .i64 0, .int .i64 0, .int .i64 0, .int .i64 0] rfl
  clear p2
  have p4 := put_at p3 4 (.int .i64 0) #[.int .i64 0, .int .i64 0, .int .i64 0, .int .i64 0, .int .i64 0, .int .i64 0, .int .i64 0] rfl
  clear p3
  have p5 := put_at p4 5 (.int .i64 0) #[.int .i64 0, .int .i64 0, .int .i64 0, .int .i64 0, .int .i64 0, .int .i64 0, .int .i64 0] rfl
  clear p4
  have p6 := put_at p5 6 (.int .i64 0) #[.int .i64 0, .int .i64 0, .int .i64 0, .int .i64 0, .int .i64 0, .int .i64 0, .int .i64 0] rfl
  clear p5
  have p7 := put_at p6 0 (.int .i64 x.gets) #[.int .i64 x.gets, .int .i64 0, .int .i64 0, .int .i64 0, .int .i64 0, .int .i64 0, .int .i64 0] rfl
  clear p6
  have p8 := put_at p7 1 (.int .i64 x.hits) #[.int .i64 x.gets, .int .i64 x.hits, .int .i64 0, .int .i64 0, .int .i64 0, .int .i64 0, .int .i64 0] rfl
  clear p7
  have p9 := put_at p8 2 (.int .i64 x.mark) #[.int .i64 x.gets, .int .i64 x.hits, .int .i64 x.mark, .int .i64 0, .int .i64 0, .int .i64 0, .int .i64 0] rfl
  clear p8
  have p10 := put_at p9 3 (.int .i64 x.evicted) #[.int .i64 x.gets, .int .i64 x.hits, .int .i64 x.mark, .int .i64 x.evicted, .int .i64 0, .int .i64 0, .int .i64 0] rfl
  clear p9
  have p10e := put_at p10 4 (.int .i64 x.expired) #[.int .i64 x.gets, .int .i64 x.hits, .int .i64 x.mark, .int .i64 x.evicted, .int .i64 x.expired, .int .i64 0, .int .i64 0] rfl
  clear p10
  have p11 := put_at p10e 5 (.int .i64 rs.length) #[.int .i64 x.gets, .int .i64 x.hits, .int .i64 x.mark, .int .i64 x.evicted, .int .i64 x.expired, .int .i64 rs.length, .int .i64 0] rfl
  clear p10e
  have hres2 := put_at p11 6 (.int .i64 x.cost) #[.int .i64 x.gets, .int .i64 x.hits, .int .i64 x.mark, .int .i64 x.evicted, .int .i64 x.expired, .int .i64 rs.length, .int .i64 x.cost] rfl
  clear p11
  replace hres2 := drew_at hres2
  clear hI HB1 HT1 b7 b8 b5 b9 be b4 b3 r0 r1 r2 r3 r4 r5 r6 z0 z1 z2 z3 z4 z5 z6 hres1
  generalize World.drew _ = w2 at hT2 hres2 ⊢
  go_wp2
  refine leaves_cons (f := 91) (args := #[.pointer (some ⟨sb, 0, none⟩)]) (by simp) (by simp [go_sem]) ?_
  refine (unlock_c hT2.box .returning).mono ?_
  rintro e u' w3 ⟨rfl, rfl, hB3, hT3⟩
  have hres3 := (hT3.block w.heap.size (Array.getElem?_eq_some_iff.1 hres2).1 (by rintro (e | e); exact absurd e (Nat.ne_of_gt hsb); exact absurd e (Nat.ne_of_gt HB.out.lt.2))).trans hres2
  have d0 : w3.cell? ⟨w.heap.size, 0, none⟩ = some (.int .i64 x.gets) := heap_cell hres3 0 rfl
  have d1 : w3.cell? ⟨w.heap.size, 1, none⟩ = some (.int .i64 x.hits) := heap_cell hres3 1 rfl
  have d2 : w3.cell? ⟨w.heap.size, 2, none⟩ = some (.int .i64 x.mark) := heap_cell hres3 2 rfl
  have d3 : w3.cell? ⟨w.heap.size, 3, none⟩ = some (.int .i64 x.evicted) := heap_cell hres3 3 rfl
  have d4 : w3.cell? ⟨w.heap.size, 4, none⟩ = some (.int .i64 x.expired) := heap_cell hres3 4 rfl
  have d5 : w3.cell? ⟨w.heap.size, 5, none⟩ = some (.int .i64 rs.length) := heap_cell hres3 5 rfl
  have d6 : w3.cell? ⟨w.heap.size, 6, none⟩ = some (.int .i64 x.cost) := heap_cell hres3 6 rfl
  exact ⟨_, by simp [results, Tryz.results214, go_sem, d0, d1, d2, d3, d4, d5, d6]; rfl, rfl, hB3, hT2.turn.trans hT3⟩
end Go.Proofs.YtdpnpcjbjjjceaaGreatDoor.S
