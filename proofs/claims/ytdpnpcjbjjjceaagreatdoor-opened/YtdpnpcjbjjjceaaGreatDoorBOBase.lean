import Derived.WalkKit
import Derived.WalkLawsBesides
import Derived.WalkSpells
import Derived.Outline
import Derived.Laws.MakeOwn
import Derived.Laws.CopyOwn
import Derived.Lib.SliceRun
import Derived.Test.YtdpnpcjbjjjceaaGreatDoorProg
set_option linter.unusedSimpArgs false
set_option linter.unusedVariables false
namespace Go.Proofs.YtdpnpcjbjjjceaaGreatDoor.O
open Go.RowKit Go.Builtin
set_option maxRecDepth 20000

structure Ten where
  n : ByteArray
  k : ByteArray
  q : Int
def Ten.cells (t : Ten) : List Value := [.string t.n, .string t.k, .int .i64 t.q]
def Ten.agg (t : Ten) : Value := .agg #[.string t.n, .string t.k, .int .i64 t.q]
def flatT (ts : List Ten) : List Value := ts.flatMap Ten.cells
def markS : ByteArray := ⟨#[109, 97, 114, 107]⟩
def markT : Ten := ⟨markS, markS, 77⟩
def zeroT : Ten := ⟨ByteArray.empty, ByteArray.empty, 0⟩

theorem flatT_length (ts : List Ten) : (flatT ts).length = ts.length * 3 := by
  induction ts with
  | nil => rfl
  | cons t r ih => simp only [flatT, List.flatMap_cons, List.length_append, List.length_cons] at *; rw [ih]; simp [Ten.cells]; omega
theorem flatT_append (a b : List Ten) : flatT (a ++ b) = flatT a ++ flatT b := by simp [flatT]
theorem flatT_get (ts : List Ten) (i : Nat) (t : Ten) (h : ts[i]? = some t) : (flatT ts)[i * 3]? = some (.string t.n) ∧ (flatT ts)[i * 3 + 1]? = some (.string t.k) ∧ (flatT ts)[i * 3 + 2]? = some (.int .i64 t.q) := by
  induction ts generalizing i with
  | nil => simp at h
  | cons x r ih =>
    cases i with
    | zero => simp at h; subst h; exact ⟨rfl, rfl, rfl⟩
    | succ i =>
      have := ih i (by simpa using h)
      have e : (i + 1) * 3 = i * 3 + 1 + 1 + 1 := by omega
      rw [e]
      exact this
theorem flatT_one (ts : List Ten) : ∀ v ∈ flatT ts, v.oneCell' = true := by
  intro v hv
  simp only [flatT, List.mem_flatMap] at hv
  obtain ⟨t, _, hv⟩ := hv
  simp [Ten.cells] at hv
  rcases hv with rfl | rfl | rfl <;> rfl

theorem heap_cell {w : World} {g : Nat} {c : Array Value} {t : TypeId} {fz : Nat × Nat} {v : Value} (h : w.heap[g]? = some (.cells c t fz)) (j : Nat) (hj : c[j]? = some v) : w.cell? ⟨g, j, none⟩ = some v := by
  simp only [World.cell?, h]; simpa using hj
theorem heap_frozen {w : World} {g : Nat} {c : Array Value} {t : TypeId} (h : w.heap[g]? = some (.cells c t (0, 0))) (j : Nat) : w.frozen? ⟨g, j, none⟩ = false := by
  simp [World.frozen?, h]
theorem alloc_at (W : World) (o : Obj) (g : Nat) (h : g = W.heap.size) : (W.alloc o).heap[g]? = some o := by
  subst h
  show (W.heap.push o)[W.heap.size]? = some o
  rw [Array.getElem?_push, if_pos rfl]
theorem alloc_old (W : World) (o o' : Obj) (g : Nat) (h : W.heap[g]? = some o') : (W.alloc o).heap[g]? = some o' := by
  have hg : g < W.heap.size := (Array.getElem?_eq_some_iff.1 h).1
  show (W.heap.push o)[g]? = some o'
  rw [Array.getElem?_push, if_neg (by omega)]; exact h
theorem set_heap (W : World) (g o : Nat) (v : Value) (c : Array Value) (t : TypeId) (fz : Nat × Nat) (h : W.heap[g]? = some (.cells c t fz)) : (W.setCell ⟨g, o, none⟩ v).heap[g]? = some (.cells (c.setIfInBounds o v) t fz) := by
  simp only [World.setCell, Array.getElem?_modify, if_true, h, Option.map_some]
  rfl

theorem run_copy_wide {P : Program} (sz : Nat) (w : World) (dT sT ty elem : TypeId) (g o dLen dCap : Nat) (a : Addr) (sLen sCap : Nat) (cur : Array Value) (t : TypeId) (cs : List Value)
    (hu : P.underlying dT = some (.slice elem)) (hs : (P.info? elem).map (·.size) = some sz)
    (hg : w.heap[g]? = some (.cells cur t (0, 0))) (hn : cs.length = Nat.min sLen dLen * sz)
    (hsrc : ∀ j v, cs[j]? = some v → w.cell? (a.add j) = some v) (hfit : o + cs.length ≤ cur.size) (h1 : ∀ v ∈ cs, v.oneCell' = true) :
    (Builtin.copy_ #[dT, sT] ty #[.slice (some ⟨g, o, none⟩) dLen dCap, .slice (some a) sLen sCap]).run P w =
      .ok (goInt (Nat.min sLen dLen : Nat)) (w.setRow g (cur.toList.take o ++ cs ++ cur.toList.drop (o + cs.length)).toArray) := by
  have hl := run_loadCells_list (P := P) w a cs hsrc
  have hst := run_storeCells_at P g o t cs 0 cur w hg (by simpa using hfit) h1
  cases hq : P.info? elem with
  | none => simp [hq] at hs
  | some i =>
    have hi : i.size = sz := by simpa [hq] using hs
    simp [Builtin.copy_, run_underlying hu, Builtin.lenOf, Builtin.firstCells, sizeOf, typeInfo, hq, hi, ← hn, hl, hst]

theorem infoTen : (Tryz.prog.info? 32).map (fun i => (i.zero, i.size, i.bytes)) = some (some (.agg #[.string ByteArray.empty, .string ByteArray.empty, .int .i64 0]), 3, 40) := by kernel_rfl

theorem mark_c (w : World) : Calls Tryz.prog 39 #[] w fun e w' => e = .returned (.agg #[.string ⟨#[109, 97, 114, 107]⟩, .string ⟨#[109, 97, 114, 107]⟩, .int .i64 77]) ∧ w' = w.alloc (.cells #[.string ⟨#[109, 97, 114, 107]⟩, .string ⟨#[109, 97, 114, 107]⟩, .int .i64 77] 32) := by
  go_enter Tryz.func39, Tryz.ntmps39
  go_wp2
  exact bodyPost_ret (v := .agg #[.string ⟨#[109, 97, 114, 107]⟩, .string ⟨#[109, 97, 114, 107]⟩, .int .i64 77]) (by simp [results, Tryz.results39, go_sem]) rfl ⟨rfl, rfl⟩

/-- the cells of a slice of tenants, from a place on -/
def TensAt (w : World) (b off : Nat) (ts : List Ten) : Prop := ∀ j v, (flatT ts)[j]? = some v → w.cell? ⟨b, off + j, none⟩ = some v
/-- what lies in the block that handed made -/
def rowT (ts : List Ten) (k : Nat) : List Ten := ts ++ List.replicate k markT ++ List.replicate (8 - k) zeroT

theorem made_zero (n : Nat) : (madeCells #[.string ByteArray.empty, .string ByteArray.empty, .int .i64 0] (n * 3)).toList = flatT (List.replicate n zeroT) := by
  apply List.ext_getElem?
  intro j
  by_cases hj : j < n * 3
  · obtain ⟨h0, h1, h2⟩ := flatT_get (List.replicate n zeroT) (j / 3) zeroT (by rw [List.getElem?_replicate, if_pos (by omega)])
    have hL : (madeCells #[Value.string ByteArray.empty, .string ByteArray.empty, .int .i64 0] (n * 3)).toList[j]? = some ((#[Value.string ByteArray.empty, .string ByteArray.empty, .int .i64 0] : Array Value)[j % 3]!) := by
      simp [madeCells, hj]
    rw [hL]
    have hr : j % 3 = 0 ∨ j % 3 = 1 ∨ j % 3 = 2 := by omega
    rcases hr with hr | hr | hr
    · have e : j / 3 * 3 = j := by omega
      rw [e] at h0
      rw [hr, h0]; rfl
    · have e : j / 3 * 3 + 1 = j := by omega
      rw [e] at h1
      rw [hr, h1]; rfl
    · have e : j / 3 * 3 + 2 = j := by omega
      rw [e] at h2
      rw [hr, h2]; rfl
  · rw [List.getElem?_eq_none (by simp [madeCells]; omega), List.getElem?_eq_none (by rw [flatT_length]; simp; omega)]

theorem tens_add (b off j : Nat) : (⟨b, off, none⟩ : Addr).add j = ⟨b, off + j, none⟩ := by
  by_cases h : j = 0
  · subst h; rfl
  · simp [Addr.add, h]

theorem cell_alloc_keep {W : World} {o : Obj} {a : Addr} {v : Value} (h : W.cell? a = some v) : (W.alloc o).cell? a = some v := by
  rw [World.cell?_alloc_old _ _ _ (Nat.ne_of_lt (World.block_lt_of_cell? _ _ h))]; exact h
/-- make, then copy -/
theorem handed_start (w : World) (b off n c : Nat) (sp : Option Nat) (ts : List Ten) (hl : ts.length = n) (hT : TensAt w b off ts) (hsp : n = 0 ∨ sp = none) (hn : n ≤ 3518437208780) :
    ∃ W1 W2, (Instr.makeSlice 22 (.int .i64 ((n : Int) + 8)) (.int .i64 ((n : Int) + 8))).run Tryz.prog w = .ok (.slice (some ⟨w.heap.size, 0, none⟩) (n + 8) (n + 8)) W1 ∧
      (Builtin.copy_ #[22, 22] 3 #[.slice (some ⟨w.heap.size, 0, none⟩) (n + 8) (n + 8), .slice (some ⟨b, off, sp⟩) n c]).run Tryz.prog W1 = .ok (.int .i64 n) W2 ∧
      W2.heap[w.heap.size]? = some (.cells (flatT (rowT ts 0)).toArray 32 (0, 0)) ∧ W2.heap.size = w.heap.size + 1 ∧ Below w.heap.size w W2 := by
  obtain ⟨i0, hi, hz0, hz1, hz2⟩ := info_parts infoTen
  have hm := run_make (P := Tryz.prog) w 22 32 i0 _ Tryz.underlying22 hi hz0 .i64 .i64 ((n : Int) + 8) ((n : Int) + 8) (by omega) (by omega) (by rw [hz2]; omega) (by omega)
  have e1 : ((n : Int) + 8).toNat = n + 8 := by omega
  rw [e1, hz1] at hm
  have hz : (madeCells (Value.agg #[.string ByteArray.empty, .string ByteArray.empty, .int .i64 0]).cells ((n + 8) * 3)) = (flatT (List.replicate (n + 8) zeroT)).toArray := by
    apply Array.ext'
    rw [List.toList_toArray]
    exact made_zero (n + 8)
  rw [hz] at hm
  have h0 : (w.alloc (.cells (flatT (List.replicate (n + 8) zeroT)).toArray 32)).heap[w.heap.size]? = some (.cells (flatT (List.replicate (n + 8) zeroT)).toArray 32 (0, 0)) := alloc_at _ _ _ rfl
  have hmin : Nat.min n (n + 8) = n := Nat.min_eq_left (by omega)
  have hc := run_copy_wide (P := Tryz.prog) 3 (w.alloc (.cells (flatT (List.replicate (n + 8) zeroT)).toArray 32)) 22 22 3 32 w.heap.size 0 (n + 8) (n + 8) ⟨b, off, sp⟩ n c (flatT (List.replicate (n + 8) zeroT)).toArray 32 (flatT ts)
    Tryz.underlying22 (by rw [hi]; simp [hz1]) h0 (by rw [hmin, flatT_length, hl]) (fun j v hj => by
      rcases hsp with h0 | rfl
      · obtain rfl : ts = [] := List.eq_nil_of_length_eq_zero (hl.trans h0)
        simp [flatT] at hj
      · rw [tens_add]; exact cell_alloc_keep (hT j v hj)) (by rw [flatT_length, hl]; simp [flatT_length]; omega) (flatT_one ts)
  rw [hmin] at hc
  refine ⟨_, _, hm, hc, ?_, by simp [World.setRow], below_setRow ((Below.refl _ _).alloc (Nat.le_refl _) _) (Nat.le_refl _) _⟩
  rw [setRow_heap _ _ _ _ _ _ h0]
  congr 2
  simp only [List.take_zero, List.nil_append, Nat.zero_add]
  congr 1
  rw [flatT_length, hl, ← List.replicate_append_replicate, flatT_append, List.drop_append_of_le_length (by rw [flatT_length]; simp), List.drop_eq_nil_of_le (by rw [flatT_length]; simp)]
  simp [rowT, flatT]
end Go.Proofs.YtdpnpcjbjjjceaaGreatDoor.O
namespace Go.Proofs.YtdpnpcjbjjjceaaGreatDoor.O
open Go.RowKit Go.Builtin
set_option maxRecDepth 20000

theorem mark_b (w : World) : Calls Tryz.prog 39 #[] w fun e w' => e = .returned (.agg #[.string ⟨#[109, 97, 114, 107]⟩, .string ⟨#[109, 97, 114, 107]⟩, .int .i64 77]) ∧ Hid (w'.heap.size = w.heap.size + 1) ∧ Below w.heap.size w w' :=
  (mark_c w).mono fun e w' ⟨he, hw⟩ => ⟨he, by rw [hw]; show _ = _; simp, by rw [hw]; exact (Below.refl _ _).alloc (Nat.le_refl _) _⟩
theorem rowT_at (ts : List Ten) (n k : Nat) (hl : ts.length = n) (hk : k < 8) : (rowT ts k)[n + k]? = some zeroT := by
  unfold rowT
  rw [List.getElem?_append_right (by simp; omega)]
  simp [hl]
  rw [List.getElem?_replicate, if_pos (by omega)]
theorem rowT_len (ts : List Ten) (n k : Nat) (hl : ts.length = n) (hk : k ≤ 8) : (rowT ts k).length = n + 8 := by
  unfold rowT; simp; omega

theorem set3 : ∀ (ts : List Ten) (i : Nat) (t : Ten), i < ts.length →
    (((flatT ts).set (i * 3) (.string t.n)).set (i * 3 + 1) (.string t.k)).set (i * 3 + 2) (.int .i64 t.q) = flatT (ts.set i t)
  | [], i, t, h => by simp at h
  | x :: r, 0, t, _ => by simp [flatT, Ten.cells]
  | x :: r, i + 1, t, h => by
    have ih := set3 r i t (by simpa using h)
    have e : (i + 1) * 3 = i * 3 + 1 + 1 + 1 := by omega
    rw [e]
    show ((((Ten.cells x ++ flatT r).set (i * 3 + 1 + 1 + 1) _).set (i * 3 + 1 + 1 + 1 + 1) _).set (i * 3 + 1 + 1 + 1 + 2) _) = _
    simp only [Ten.cells, List.cons_append, List.nil_append, List.set_cons_succ]
    rw [ih]
    rfl
theorem rowT_set (ts : List Ten) (n k : Nat) (hl : ts.length = n) (hk : k < 8) : (rowT ts k).set (n + k) markT = rowT ts (k + 1) := by
  unfold rowT
  rw [List.set_append_right _ _ (by simp; omega)]
  have e : n + k - (ts ++ List.replicate k markT).length = 0 := by simp; omega
  rw [e]
  obtain ⟨m, hm⟩ : ∃ m, 8 - k = m + 1 := ⟨7 - k, by omega⟩
  rw [hm, show 8 - (k + 1) = m by omega, List.replicate_succ, List.set_cons_zero, List.replicate_succ']
  simp

theorem store3 (W : World) (g : Nat) (R : List Ten) (i : Nat) (t : Ten) (h : W.heap[g]? = some (.cells (flatT R).toArray 32 (0, 0))) (hi : i < R.length) :
    (((W.setCell ⟨g, i * 3, none⟩ (.string t.n)).setCell ⟨g, i * 3 + 1, none⟩ (.string t.k)).setCell ⟨g, i * 3 + 2, none⟩ (.int .i64 t.q)).heap[g]? = some (.cells (flatT (R.set i t)).toArray 32 (0, 0)) := by
  rw [set_heap _ _ _ _ _ _ _ (set_heap _ _ _ _ _ _ _ (set_heap _ _ _ _ _ _ _ h)), ← set3 R i t hi]
  simp only [List.setIfInBounds_toArray]

theorem handed_nil (w : World) : Calls Tryz.prog 36 #[.slice none 0 0] w fun e w' => e = .returned (.slice none 0 0) ∧ w' = w := by
  have q1 : ∀ (w : World) (a : Option Addr) (n c n' c' : Nat), (binOp .eql 22 (.slice a n c) (.slice none n' c')).run Tryz.prog w = .ok (.bool a.isNone) w := fun w a n c n' c' => Lib.run_eql_slice_nil w _ _ a n c n' c' Tryz.underlying22
  go_enter Tryz.func36, Tryz.ntmps36
  go_wp2
  go_ret
  exact ⟨rfl, rfl⟩

set_option maxRecDepth 100000 in
set_option maxHeartbeats 1000000 in
theorem handed_c (w : World) (b off n c : Nat) (sp : Option Nat) (ts : List Ten) (hl : ts.length = n) (hT : TensAt w b off ts) (hsp : n = 0 ∨ sp = none) (hn : n ≤ 3518437208780) :
    Calls Tryz.prog 36 #[.slice (some ⟨b, off, sp⟩) n c] w fun e w' => e = .returned (.slice (some ⟨w.heap.size, 0, none⟩) n (n + 8)) ∧ w'.heap[w.heap.size]? = some (.cells (flatT (rowT ts 8)).toArray 32 (0, 0)) ∧ Below w.heap.size w w' := by
  have q1 : ∀ (w : World) (a : Option Addr) (n c n' c' : Nat), (binOp .eql 22 (.slice a n c) (.slice none n' c')).run Tryz.prog w = .ok (.bool a.isNone) w := fun w a n c n' c' => Lib.run_eql_slice_nil w _ _ a n c n' c' Tryz.underlying22
  obtain ⟨W1, W2, hmk, hcp, hg2, hs2, hb2⟩ := handed_start w b off n c sp ts hl hT hsp hn
  have HL : Hid (ts.length = n) := hl
  have HG2 : Hid (W2.heap[w.heap.size]? = some (.cells (flatT (rowT ts 0)).toArray 32 (0, 0))) := hg2
  clear hT hl hg2
  go_enter Tryz.func36, Tryz.ntmps36
  go_wp2_with fail
  go_loopw [5] (fun i wx => ∃ k : Nat, k ≤ 8 ∧ i = .int .i64 k ∧ wx.heap.size = w.heap.size + 1 + k ∧ Hid (wx.heap[w.heap.size]? = some (.cells (flatT (rowT ts k)).toArray 32 (0, 0))) ∧ Below w.heap.size w wx) (fun i _ => 8 - (intOf i).toNat)
  case atStart => exact ⟨0, by omega, rfl, hs2, HG2, hb2⟩
  case round =>
    obtain ⟨k, hk, rfl, hsz, hg, hbx⟩ := hrel
    by_cases hlt : k < 8
    · have klt : (k : Int) < 8 := by omega
      obtain ⟨z0, z1, z2⟩ := flatT_get (rowT ts k) (n + k) zeroT (rowT_at ts n k HL.out hlt)
      have c0 : wr.cell? ⟨w.heap.size, (n + k) * 3, none⟩ = some (.string ByteArray.empty) := heap_cell hg.out _ (by rw [List.getElem?_toArray]; exact z0)
      have c1 : wr.cell? ⟨w.heap.size, (n + k) * 3 + 1, none⟩ = some (.string ByteArray.empty) := heap_cell hg.out _ (by rw [List.getElem?_toArray]; exact z1)
      have c2 : wr.cell? ⟨w.heap.size, (n + k) * 3 + 2, none⟩ = some (.int .i64 0) := heap_cell hg.out _ (by rw [List.getElem?_toArray]; exact z2)
      have f0 := heap_frozen hg.out ((n + k) * 3)
      have f1 := heap_frozen hg.out ((n + k) * 3 + 1)
      have f2 := heap_frozen hg.out ((n + k) * 3 + 2)
      clear z0 z1 z2 hmk hcp q1
      have hgx : w.heap.size < wr.heap.size := by omega
      have HG : Hid (wr.heap[w.heap.size]? = some (.cells (flatT (rowT ts k)).toArray 32 (0, 0))) := hg
      have HS : Hid (wr.heap.size = w.heap.size + 1 + k) := hsz
      clear hsz hg
      go_wp2_with (go_at_call 39; refine (mark_b _).mono ?_; rintro e w1 ⟨rfl, hs1, hb1⟩; have d0 := (hb1.cell (p := ⟨w.heap.size, (n + k) * 3, none⟩) hgx).trans c0; have d1 := (hb1.cell (p := ⟨w.heap.size, (n + k) * 3 + 1, none⟩) hgx).trans c1; have d2 := (hb1.cell (p := ⟨w.heap.size, (n + k) * 3 + 2, none⟩) hgx).trans c2; have g0 := (hb1.frozen (p := ⟨w.heap.size, (n + k) * 3, none⟩) hgx).trans f0; have g1 := (hb1.frozen (p := ⟨w.heap.size, (n + k) * 3 + 1, none⟩) hgx).trans f1; have g2 := (hb1.frozen (p := ⟨w.heap.size, (n + k) * 3 + 2, none⟩) hgx).trans f2; have HB1 : Hid (Below wr.heap.size wr w1) := hb1; clear hb1 c0 c1 c2 f0 f1 f2)
      go_roundw
      case rel =>
        refine ⟨k + 1, by omega, by go_num, ?_, ?_, ?_⟩
        · have := hs1.out; have := HS.out; simp [World.setCell]; omega
        · show _ = _
          have h1 : w1.heap[w.heap.size]? = some (.cells (flatT (rowT ts k)).toArray 32 (0, 0)) := (HB1.out.block _ hgx).trans HG.out
          rw [← rowT_set ts n k HL.out hlt]
          exact store3 w1 w.heap.size (rowT ts k) (n + k) markT h1 (by rw [rowT_len ts n k HL.out hk]; omega)
        · exact (((hbx.trans (HB1.out.mono hbx.size)).setCell (p := ⟨w.heap.size, (n + k) * 3, none⟩) (Nat.le_refl _) _).setCell (p := ⟨w.heap.size, (n + k) * 3 + 1, none⟩) (Nat.le_refl _) _).setCell (p := ⟨w.heap.size, (n + k) * 3 + 2, none⟩) (Nat.le_refl _) _
      case measure => simp [intOf] <;> omega
    · have klt : ¬ (k : Int) < 8 := by omega
      obtain rfl : k = 8 := by omega
      clear hmk hcp q1
      go_wp2
      go_ret
      exact ⟨rfl, hg.out, hbx⟩
end Go.Proofs.YtdpnpcjbjjjceaaGreatDoor.O
