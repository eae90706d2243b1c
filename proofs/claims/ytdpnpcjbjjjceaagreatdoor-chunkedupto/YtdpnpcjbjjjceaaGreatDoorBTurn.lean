import Derived.Conc.MuLone
import Derived.WalkKit
import Derived.WalkLawsBesides
import Derived.WalkSpells
import Derived.Below
import Derived.Maps.OwnSet
import Derived.Maps.RangeWalk
import Derived.Test.YtdpnpcjbjjjceaaGreatDoorProg
import Derived.Test.YtdpnpcjbjjjceaaGreatDoorBLocks
import Derived.Test.YtdpnpcjbjjjceaaGreatDoorBStoreP
set_option linter.unusedSimpArgs false
set_option linter.unusedVariables false
namespace Go.Proofs.YtdpnpcjbjjjceaaGreatDoor.S
open Go.RowKit Go.Maps Go.MuLone Go.Proofs.YtdpnpcjbjjjceaaGreatDoor

/-- from w to w' no block that was there has turned but those of S -/
structure Turn (S : Nat → Prop) (w w' : World) : Prop where
  os : w'.os = w.os
  tape : w'.tape = w.tape
  output : w'.output = w.output
  size : w.heap.size ≤ w'.heap.size
  block : ∀ k, k < w.heap.size → ¬ S k → w'.heap[k]? = w.heap[k]?
theorem Turn.refl (S : Nat → Prop) (w : World) : Turn S w w := ⟨rfl, rfl, rfl, Nat.le_refl _, fun _ _ _ => rfl⟩
theorem Turn.trans {S : Nat → Prop} {a b c : World} (h : Turn S a b) (k : Turn S b c) : Turn S a c :=
  ⟨k.os.trans h.os, k.tape.trans h.tape, k.output.trans h.output, Nat.le_trans h.size k.size, fun i hi hn => (k.block i (Nat.lt_of_lt_of_le hi h.size) hn).trans (h.block i hi hn)⟩
theorem Turn.mono {S S' : Nat → Prop} {a b : World} (h : Turn S a b) (hs : ∀ k, k < a.heap.size → S k → S' k) : Turn S' a b :=
  ⟨h.os, h.tape, h.output, h.size, fun i hi hn => h.block i hi (fun hk => hn (hs i hi hk))⟩
theorem Turn.ofBelow {S : Nat → Prop} {a b : World} (h : Below a.heap.size a b) : Turn S a b := ⟨h.os, h.tape, h.output, h.size, fun i hi _ => h.block i hi⟩
theorem Turn.alloc {S : Nat → Prop} {a b : World} (h : Turn S a b) (o : Obj) : Turn S a (b.alloc o) := h.trans (Turn.ofBelow ((Below.refl _ _).alloc (Nat.le_refl _) o))
theorem Turn.drew {S : Nat → Prop} {a b : World} (h : Turn S a b) : Turn S a b.drew := ⟨h.os, h.tape, h.output, h.size, h.block⟩
theorem Turn.drewN {S : Nat → Prop} {a b : World} (h : Turn S a b) (n : Nat) : Turn S a (b.drewN n) := ⟨h.os, h.tape, h.output, h.size, h.block⟩
theorem heap_set_other (w : World) (p : Addr) (v : Value) (i : Nat) (h : i ≠ p.block) : (w.setCell p v).heap[i]? = w.heap[i]? := Below.heap_setCell w p v i h
theorem Turn.setCell {S : Nat → Prop} {a b : World} (h : Turn S a b) {p : Addr} (hp : S p.block ∨ a.heap.size ≤ p.block) (v : Value) : Turn S a (b.setCell p v) := by
  have hB : Below 0 b (b.setCell p v) := (Below.refl 0 b).setCell (Nat.zero_le _) v
  refine ⟨hB.os.trans h.os, hB.tape.trans h.tape, hB.output.trans h.output, Nat.le_trans h.size hB.size, fun i hi hn => ?_⟩
  refine (heap_set_other b p v i ?_).trans (h.block i hi hn)
  intro e
  rcases hp with hp | hp
  · exact hn (e ▸ hp)
  · omega
theorem Turn.grown {S : Nat → Prop} {a b c : World} {row : Option Nat} (h : Turn S a b) (hg : b.grownBy c row) (hr : ∀ k, row = some k → S k ∨ a.heap.size ≤ k) : Turn S a c :=
  ⟨hg.os.trans h.os, hg.tape.trans h.tape, hg.output.trans h.output, Nat.le_trans h.size hg.size, fun i hi hn => (hg.block i (Nat.lt_of_lt_of_le hi h.size) (fun e => by
    rcases hr i e.symm with h1 | h1
    · exact hn h1
    · omega)).trans (h.block i hi hn)⟩

theorem heap_cell {w : World} {g : Nat} {c : Array Value} {t : TypeId} {fz : Nat × Nat} {v : Value} (h : w.heap[g]? = some (.cells c t fz)) (j : Nat) (hj : c[j]? = some v) : w.cell? ⟨g, j, none⟩ = some v := by
  simp only [World.cell?, h]; simpa using hj
theorem heap_thawed {w : World} {g : Nat} {c : Array Value} {t : TypeId} (h : w.heap[g]? = some (.cells c t (0, 0))) (j : Nat) : w.frozen? ⟨g, j, none⟩ = false := by
  simp [World.frozen?, h]
theorem set_here {w : World} {g j : Nat} {c : Array Value} {t : TypeId} {u : Value} (h : w.heap[g]? = some (.cells c t (0, 0))) : (w.setCell ⟨g, j, none⟩ u).heap[g]? = some (.cells (c.setIfInBounds j u) t (0, 0)) := by
  simp only [World.setCell, Array.getElem?_modify, if_pos, h]
  rfl
theorem alloc_here (w : World) (o : Obj) : (w.alloc o).heap[w.heap.size]? = some o := by
  show (w.heap.push o)[w.heap.size]? = some o
  rw [Array.getElem?_push, if_pos rfl]
theorem alloc_old {w : World} {o o' : Obj} {g : Nat} (h : w.heap[g]? = some o) : (w.alloc o').heap[g]? = some o := by
  have hg : g < w.heap.size := (Array.getElem?_eq_some_iff.1 h).1
  exact (((Below.refl _ _).alloc (Nat.le_refl _) o').block g hg).trans h
theorem own_tight {w : World} {P : Program} {k : TypeId} {R : Value → Option (DataW Unit × List MemPlace)} {b n : Nat} {D : DataW Unit} (h : w.ownsMap P k R b n D) : w.ownsMap P k R b (Maps.size D) D := by
  obtain ⟨es, clock, h1, h2, h3, rfl⟩ := h
  exact ⟨es, clock, h1, h2, by rw [Maps.size_eq, length_sorted]; simp, rfl⟩
theorem own_len {w : World} {P : Program} {k : TypeId} {R : Value → Option (DataW Unit × List MemPlace)} {b n : Nat} {D : DataW Unit} {rs : List Row} (h : w.ownsMap P k R b n D) (hH : Holds D rs) : w.ownsMap P k R b rs.length D := hH.size ▸ own_tight h
theorem own_same {w w' : World} {P : Program} {k : TypeId} {R : Value → Option (DataW Unit × List MemPlace)} {b n : Nat} {D : DataW Unit} (h : w.ownsMap P k R b n D) (hb : w'.heap[b]? = w.heap[b]?) : w'.ownsMap P k R b n D := by
  obtain ⟨es, clock, h1, r⟩ := h
  exact ⟨es, clock, hb.trans h1, r⟩

theorem keyed : Keyed Tryz.prog 9 := string_keyed Tryz.underlying9
theorem zeroEnt (w : World) : (zeroValue 164).run Tryz.prog w = .ok (entV (⟨[], [], 0, 0, 0⟩, 0)) w := by kernel_rfl
theorem keyLit (l : M.Bytes) (h : l.length ≤ 1000000) : keyOf Tryz.prog 9 (str l) = some (.string l) :=
  WideMaps.keyOf_string_mk Tryz.underlying9 (show (⟨l.toArray⟩ : ByteArray).size ≤ maxLen from Nat.le_trans (show l.toArray.size ≤ 1000000 by simpa using h) (by decide))

/-- the store's own cells -/
def cellsS (l : Lk) (x : Num) (eb : Nat) : Array Value := #[.int .i32 l.1, .int .u32 0, int x.quota, .map (some eb), int l.2, int x.cost, int x.mark, int x.uses, int x.gets, int x.hits, int x.evicted, int x.expired]
/-- at sb lies a store, its entries at eb; l: its lock -/
structure Box (w : World) (sb eb : Nat) (l : Lk) (x : Num) (rs : List Row) : Prop where
  cells : w.heap[sb]? = some (.cells (cellsS l x eb) 159 (0, 0))
  map : ∃ D, w.ownsMap Tryz.prog 9 entElem eb rs.length D ∧ Holds D rs
theorem Box.ne {w : World} {sb eb : Nat} {l : Lk} {x : Num} {rs : List Row} (h : Box w sb eb l x rs) : sb ≠ eb := by
  rintro rfl
  obtain ⟨D, ⟨es, clock, h1, _⟩, _⟩ := h.map
  rw [h.cells] at h1; cases h1
theorem Box.lt {w : World} {sb eb : Nat} {l : Lk} {x : Num} {rs : List Row} (h : Box w sb eb l x rs) : sb < w.heap.size ∧ eb < w.heap.size := by
  obtain ⟨D, h1, _⟩ := h.map
  exact ⟨(Array.getElem?_eq_some_iff.1 h.cells).1, h1.lt⟩
theorem Box.same {w w' : World} {sb eb : Nat} {l : Lk} {x : Num} {rs : List Row} (h : Box w sb eb l x rs) (h1 : w'.heap[sb]? = w.heap[sb]?) (h2 : w'.heap[eb]? = w.heap[eb]?) : Box w' sb eb l x rs := by
  obtain ⟨D, h3, h4⟩ := h.map
  exact ⟨h1.trans h.cells, D, own_same h3 h2, h4⟩
theorem Box.below {w w' : World} {sb eb : Nat} {l : Lk} {x : Num} {rs : List Row} (h : Box w sb eb l x rs) (hb : Below w.heap.size w w') : Box w' sb eb l x rs :=
  h.same (hb.block _ h.lt.1) (hb.block _ h.lt.2)
theorem Box.alloc {w : World} {sb eb : Nat} {l : Lk} {x : Num} {rs : List Row} (h : Box w sb eb l x rs) (o : Obj) : Box (w.alloc o) sb eb l x rs := h.below ((Below.refl _ _).alloc (Nat.le_refl _) o)
theorem Box.set {w : World} {sb eb : Nat} {l l' : Lk} {x x' : Num} {rs : List Row} (h : Box w sb eb l x rs) (j : Nat) (v : Value) (hv : (cellsS l x eb).setIfInBounds j v = cellsS l' x' eb) : Box (w.setCell ⟨sb, j, none⟩ v) sb eb l' x' rs := by
  obtain ⟨D, h3, h4⟩ := h.map
  refine ⟨(set_here h.cells).trans (by rw [hv]), D, h3.setCell (fun e => h.ne e.symm) _, h4⟩
theorem Box.fz {w : World} {sb eb : Nat} {l : Lk} {x : Num} {rs : List Row} (h : Box w sb eb l x rs) (k : Nat) : w.frozen? ⟨sb, k, none⟩ = false := heap_thawed h.cells k
theorem Box.c0 {w : World} {sb eb : Nat} {l : Lk} {x : Num} {rs : List Row} (h : Box w sb eb l x rs) : w.cell? ⟨sb, 0, none⟩ = some (.int .i32 l.1) := heap_cell h.cells 0 rfl
theorem Box.c2 {w : World} {sb eb : Nat} {l : Lk} {x : Num} {rs : List Row} (h : Box w sb eb l x rs) : w.cell? ⟨sb, 2, none⟩ = some (.int .i64 x.quota) := heap_cell h.cells 2 rfl
theorem Box.c3 {w : World} {sb eb : Nat} {l : Lk} {x : Num} {rs : List Row} (h : Box w sb eb l x rs) : w.cell? ⟨sb, 3, none⟩ = some (.map (some eb)) := heap_cell h.cells 3 rfl
theorem Box.c4 {w : World} {sb eb : Nat} {l : Lk} {x : Num} {rs : List Row} (h : Box w sb eb l x rs) : w.cell? ⟨sb, 5, none⟩ = some (.int .i64 x.cost) := heap_cell h.cells 5 rfl
theorem Box.c5 {w : World} {sb eb : Nat} {l : Lk} {x : Num} {rs : List Row} (h : Box w sb eb l x rs) : w.cell? ⟨sb, 6, none⟩ = some (.int .i64 x.mark) := heap_cell h.cells 6 rfl
theorem Box.c6 {w : World} {sb eb : Nat} {l : Lk} {x : Num} {rs : List Row} (h : Box w sb eb l x rs) : w.cell? ⟨sb, 7, none⟩ = some (.int .i64 x.uses) := heap_cell h.cells 7 rfl
theorem Box.c7 {w : World} {sb eb : Nat} {l : Lk} {x : Num} {rs : List Row} (h : Box w sb eb l x rs) : w.cell? ⟨sb, 8, none⟩ = some (.int .i64 x.gets) := heap_cell h.cells 8 rfl
theorem Box.c8 {w : World} {sb eb : Nat} {l : Lk} {x : Num} {rs : List Row} (h : Box w sb eb l x rs) : w.cell? ⟨sb, 9, none⟩ = some (.int .i64 x.hits) := heap_cell h.cells 9 rfl
theorem Box.c9 {w : World} {sb eb : Nat} {l : Lk} {x : Num} {rs : List Row} (h : Box w sb eb l x rs) : w.cell? ⟨sb, 10, none⟩ = some (.int .i64 x.evicted) := heap_cell h.cells 10 rfl
theorem Box.cn {w : World} {sb eb : Nat} {l : Lk} {x : Num} {rs : List Row} (h : Box w sb eb l x rs) : w.cell? ⟨sb, 4, none⟩ = some (.int .i64 l.2) := heap_cell h.cells 4 rfl
theorem Box.ce {w : World} {sb eb : Nat} {l : Lk} {x : Num} {rs : List Row} (h : Box w sb eb l x rs) : w.cell? ⟨sb, 11, none⟩ = some (.int .i64 x.expired) := heap_cell h.cells 11 rfl
def ofStore (sb eb : Nat) (k : Nat) : Prop := k = sb ∨ k = eb
end Go.Proofs.YtdpnpcjbjjjceaaGreatDoor.S
