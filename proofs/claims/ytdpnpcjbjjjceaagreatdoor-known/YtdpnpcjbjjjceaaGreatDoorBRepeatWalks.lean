import Derived.Laws.CopyOwn
import Derived.Deep.RegionLaw
import Derived.Deep.DeepMust
import Derived.Test.YtdpnpcjbjjjceaaGreatDoorBCasWalks
set_option linter.unusedSimpArgs false
set_option linter.unusedVariables false
namespace Go.Proofs.YtdpnpcjbjjjceaaGreatDoor
open Go.RowKit Go.Builtin

theorem run_copy_wide {P : Program} (sz : Nat) (w : World) (dT sT ty elem : TypeId) (g o dLen dCap : Nat) (a : Addr) (sLen sCap : Nat) (cur : Array Value) (t : TypeId) (cs : List Value)
    (hu : P.underlying dT = some (.slice elem)) (hs : (P.info? elem).map (·.size) = some sz)
    (hg : w.heap[g]? = some (.cells cur t (0, 0))) (hn : cs.length = Nat.min sLen dLen * sz)
    (hsrc : ∀ j v, cs[j]? = some v → w.cell? (a.add j) = some v) (hfit : o + cs.length ≤ cur.size) (h1 : ∀ v ∈ cs, v.oneCell' = true) :
    (Builtin.copy_ #[dT, sT] ty #[.slice (some ⟨g, o, none⟩) dLen dCap, .slice (some a) sLen sCap]).run P w =
      .ok (goInt (Nat.min sLen dLen : Nat)) (w.setRow g (cur.toList.take o ++ cs ++ cur.toList.drop (o + cs.length)).toArray) := by
  have hl := run_loadCells_list (P := P) w a cs hsrc
  have hst := run_storeCells_at P g o t cs 0 cur w hg (by simpa using hfit) h1
  cases hq : P.info? elem with
  | none => simp [hq] at hs
  | some i =>
    have hi : i.size = sz := by simpa [hq] using hs
    simp [Builtin.copy_, run_underlying hu, Builtin.lenOf, Builtin.firstCells, sizeOf, typeInfo, hq, hi, ← hn, hl, hst]

theorem wpList_copy_wide {P : Program} (sz : Nat) {w : World} {ops : Array Oper} {rest : List Oper} {o : Oper} {a : Act} {Q : Exit → Act → World → Prop} (hgd : o.guard = none) (d s : Operand) (dT sT : TypeId)
    (ho : o.op = .call { callee := .builtin .copy, args := #[d, s], argTypes := #[dT, sT] }) (elem : TypeId) (hu : P.underlying dT = some (.slice elem)) (hsz : (P.info? elem).map (·.size) = some sz)
    (g off dLen dCap : Nat) (ad : Addr) (sLen sCap : Nat) (hd : a.eval d = .slice (some ⟨g, off, none⟩) dLen dCap) (hs : a.eval s = .slice (some ad) sLen sCap)
    (cur : List Value) (t : TypeId) (hg : w.heap[g]? = some (.cells cur.toArray t (0, 0))) (cs : List Value) (hn : cs.length = Nat.min sLen dLen * sz)
    (hsrc : ∀ j v, cs[j]? = some v → w.cell? (ad.add j) = some v) (hfit : off + cs.length ≤ cur.length) (h1 : ∀ v ∈ cs, v.oneCell' = true) (B : Nat) (w0 : World) (hb : Below B w0 w) (hBg : B ≤ g)
    (h : ∀ w', Hid (w'.heap[g]? = some (.cells (splice cur off cs).toArray t (0, 0))) → Below B w0 w' → wpList P ops Q rest (a.put o.dst (goInt (Nat.min sLen dLen : Nat))) w') :
    wpList P ops Q (o :: rest) a w := by
  refine wpList_plain hgd fun K hK => ?_
  have hrun := run_copy_wide (P := P) sz w dT sT o.type elem g off dLen dCap ad sLen sCap cur.toArray t cs hu hsz hg hn hsrc (by simpa using hfit) h1
  unfold Oper.wp
  simp [execOp, ho, resolve, invoke, builtin, hd, hs, hrun, Result.andThen]
  refine hK _ _ (h _ (show _ = _ by simpa [splice] using setRow_heap w g _ _ t _ hg) (below_setRow hb hBg _))
theorem step_copy_wide {P : Program} (sz : Nat) {ops : Array Oper} {o : Oper} {a : Act} {w : World} {K : Act → World → Prop} {Q : Exit → Act → World → Prop} {E : Prop} (hgd : o.guard = none) (d s : Operand) (dT sT : TypeId)
    (ho : o.op = .call { callee := .builtin .copy, args := #[d, s], argTypes := #[dT, sT] }) (elem : TypeId) (hu : P.underlying dT = some (.slice elem)) (hsz : (P.info? elem).map (·.size) = some sz)
    (g off dLen dCap : Nat) (ad : Addr) (sLen sCap : Nat) (hd : a.eval d = .slice (some ⟨g, off, none⟩) dLen dCap) (hs : a.eval s = .slice (some ad) sLen sCap)
    (cur : List Value) (t : TypeId) (hg : w.heap[g]? = some (.cells cur.toArray t (0, 0))) (cs : List Value) (hn : cs.length = Nat.min sLen dLen * sz)
    (hsrc : ∀ j v, cs[j]? = some v → w.cell? (ad.add j) = some v) (hfit : off + cs.length ≤ cur.length) (h1 : ∀ v ∈ cs, v.oneCell' = true) (B : Nat) (w0 : World) (hb : RowKit.Below B w0 w) (hBg : B ≤ g)
    (h : ∀ w', RowKit.Hid (w'.heap[g]? = some (.cells (splice cur off cs).toArray t (0, 0))) → RowKit.Below B w0 w' → K (a.put o.dst (goInt (Nat.min sLen dLen : Nat))) w') :
    if Region.wanted o (yielded ops a.tmps) = true then Oper.wp P o a w K Q else E := by
  have hw : Region.wanted o (yielded ops a.tmps) = true := by simp [Region.wanted, hgd]
  rw [if_pos hw]
  have hrun := run_copy_wide (P := P) sz w dT sT o.type elem g off dLen dCap ad sLen sCap cur.toArray t cs hu hsz hg hn hsrc (by simpa using hfit) h1
  unfold Oper.wp
  simp [execOp, ho, resolve, invoke, builtin, hd, hs, hrun, Result.andThen]
  exact h _ (show _ = _ by simpa [splice] using setRow_heap w g _ _ t _ hg) (below_setRow hb hBg _)

def K2 : List Value := [.bool false, .int .i64 20]
def Z2 : List Value := [.bool false, .int .i64 0]
def cellsK (k : Nat) : List Value := (List.replicate k K2).flatten ++ (List.replicate (10 - k) Z2).flatten
theorem infoRule : (Tryz.prog.info? 115).map (·.size) = some 2 := by kernel_rfl
theorem cellsK_src {w : World} {g k : Nat} (h : w.heap[g]? = some (.cells (cellsK k).toArray 115 (0, 0))) (n : Nat) (hn : (cellsK k).take n = (List.replicate (n / 2) K2).flatten) :
    ∀ j v, ((List.replicate (n / 2) K2).flatten)[j]? = some v → w.cell? ((⟨g, 0, none⟩ : Addr).add j) = some v := by
  intro j v hj
  rw [← hn, List.getElem?_take] at hj
  split at hj
  · have := heap_cell h j (by simpa using hj)
    have e : (⟨g, 0, none⟩ : Addr).add j = ⟨g, j, none⟩ := by
      by_cases h0 : j = 0
      · subst h0; rfl
      · simp [Addr.add, h0]
    rw [e]; exact this
  · cases hj
theorem one_K (n : Nat) : ∀ v ∈ (List.replicate n K2).flatten, v.oneCell' = true := by
  intro v hv
  rw [List.mem_flatten] at hv
  obtain ⟨l, hl, hv⟩ := hv
  rw [List.eq_of_mem_replicate hl] at hv
  simp [K2] at hv
  rcases hv with rfl | rfl <;> rfl

theorem src_x {w : World} {bx : Nat} (h : w.heap[bx]? = some (.cells #[.bool false, .int .i64 20] 115 (0, 0))) {o : Obj} : ∀ j v, K2[j]? = some v → (w.alloc o).cell? ((⟨bx, 0, none⟩ : Addr).add j) = some v := by
  intro j v hj
  refine cell_alloc_keep ?_
  match j, hj with
  | 0, hj => exact heap_cell h 0 (by simpa [K2] using hj)
  | 1, hj => exact heap_cell h 1 (by simpa [K2] using hj)
  | (j + 2), hj => simp [K2] at hj
theorem below_drewish {B : Nat} {a w : World} (h : Below B a w) : Below B a w.drew := h.drew
theorem copy_round {w wr : World} (k m nx : Nat) (hg : wr.heap[w.heap.size]? = some (.cells (cellsK k).toArray 115 (0, 0))) (hb : Below w.heap.size w wr)
    (h1 : ((List.replicate m K2).flatten).length = Nat.min k (10 - k) * 2) (h2 : k * 2 + ((List.replicate m K2).flatten).length ≤ (cellsK k).length)
    (h3 : (cellsK k).take (2 * m) = (List.replicate (2 * m / 2) K2).flatten) (h4 : splice (cellsK k) (k * 2) ((List.replicate m K2).flatten) = cellsK nx) :
    ∃ W2, (Builtin.copy_ #[108, 108] 3 #[.slice (some ⟨w.heap.size, k * 2, none⟩) (10 - k) (10 - k), .slice (some ⟨w.heap.size, 0, none⟩) k 10]).run Tryz.prog wr.drew = .ok (goInt (Nat.min k (10 - k) : Nat)) W2 ∧
      Hid (W2.heap[w.heap.size]? = some (.cells (cellsK nx).toArray 115 (0, 0))) ∧ Below w.heap.size w W2 := by
  have e : 2 * m / 2 = m := by omega
  have hsrc := cellsK_src (w := wr.drew) hg (2 * m) h3
  rw [e] at hsrc
  refine ⟨_, run_copy_wide (P := Tryz.prog) 2 wr.drew 108 108 3 115 w.heap.size (k * 2) (10 - k) (10 - k) ⟨w.heap.size, 0, none⟩ k 10 (cellsK k).toArray 115 ((List.replicate m K2).flatten) Tryz.underlying108 infoRule hg h1 hsrc (by simpa using h2) (one_K m), ?_, below_setRow hb.drew (Nat.le_refl _) _⟩
  have := setRow_heap wr.drew w.heap.size (cellsK k).toArray ((cellsK k).toArray.toList.take (k * 2) ++ (List.replicate m K2).flatten ++ (cellsK k).toArray.toList.drop (k * 2 + ((List.replicate m K2).flatten).length)).toArray 115 (0, 0) hg
  show _ = _
  rw [this, ← h4]
  simp [splice]
theorem mul_c (W : World) : Calls Tryz.prog 113 #[.int .u64 1, .int .u64 10] W fun e w' => e = .returned (.tuple #[.int .u64 0, .int .u64 10]) ∧ w' = W :=
  (Tryz.bits_Mul 1 10 (by decide) (by decide) W).mono fun e w' ⟨he, hw⟩ => ⟨he, hw⟩

set_option maxRecDepth 100000 in
set_option maxHeartbeats 400000 in
theorem repeat_c (bx : Nat) (w : World) (hx : w.heap[bx]? = some (.cells #[.bool false, .int .i64 20] 115 (0, 0))) :
    Calls Tryz.prog 78 #[.slice (some ⟨bx, 0, none⟩) 1 1, .int .i64 10] w fun e w' => e = .returned (.slice (some ⟨w.heap.size, 0, none⟩) 10 10) ∧ w'.heap[w.heap.size]? = some (.cells (cellsK 10).toArray 115 (0, 0)) ∧ Below w.heap.size w w' := by
  have hbx : bx < w.heap.size := (Array.getElem?_eq_some_iff.1 hx).1
  have hmk : ∀ w : World, (Instr.makeSlice 108 (.int .i64 10) (.int .i64 10)).run Tryz.prog w = .ok (.slice (some ⟨w.heap.size, 0, none⟩) 10 10) (w.alloc (.cells (cellsK 0).toArray 115)) := fun _ => by kernel_rfl
  obtain ⟨W2, hcp, hg2, hb2⟩ : ∃ W2, (Builtin.copy_ #[108, 108] 3 #[.slice (some ⟨w.heap.size, 0, none⟩) 10 10, .slice (some ⟨bx, 0, none⟩) 1 1]).run Tryz.prog (w.alloc (.cells (cellsK 0).toArray 115)) = .ok (.int .i64 1) W2 ∧
      Hid (W2.heap[w.heap.size]? = some (.cells (cellsK 1).toArray 115 (0, 0))) ∧ Below w.heap.size w W2 := by
    have h0 : (w.alloc (.cells (cellsK 0).toArray 115)).heap[w.heap.size]? = some (.cells (cellsK 0).toArray 115 (0, 0)) := alloc_at _ _ _ rfl
    exact ⟨_, run_copy_wide (P := Tryz.prog) 2 (w.alloc (.cells (cellsK 0).toArray 115)) 108 108 3 115 w.heap.size 0 10 10 ⟨bx, 0, none⟩ 1 1 (cellsK 0).toArray 115 K2 Tryz.underlying108 infoRule h0 rfl (src_x hx) (by decide) (one_K 1),
      setRow_heap _ _ _ _ _ _ h0, below_setRow ((Below.refl _ _).alloc (Nat.le_refl _) _) (Nat.le_refl _) _⟩
  have HX : Hid (w.heap[bx]? = some (.cells #[.bool false, .int .i64 20] 115 (0, 0))) := hx
  clear hx
  go_enter Tryz.func78, Tryz.ntmps78
  go_wp2_with (go_at_call 113; refine (mul_c _).mono ?_; rintro e w1 ⟨rfl, hw⟩; rw [hw]; clear hw)
  go_loopw [8] (fun n wx => ∃ k : Nat, (k = 1 ∨ k = 2 ∨ k = 4 ∨ k = 8 ∨ k = 10) ∧ n = .int .i64 k ∧ Hid (wx.heap[w.heap.size]? = some (.cells (cellsK k).toArray 115 (0, 0))) ∧ Below w.heap.size w wx) (fun n _ => 10 - (intOf n).toNat)
  case atStart => exact ⟨1, Or.inl rfl, rfl, hg2, hb2⟩
  case round =>
    obtain ⟨k, hk, rfl, hg, hbx⟩ := hrel
    rcases hk with rfl | rfl | rfl | rfl | rfl
    · obtain ⟨W4, hcq, hg4, hb4⟩ := copy_round (w := w) (wr := wr) 1 1 2 hg.out hbx rfl (by decide) rfl rfl
      go_wp2_with fail
      go_region
      go_wp2
      go_roundw
      case rel => exact ⟨2, by decide, rfl, hg4, hb4⟩
      case measure => simp [intOf]
    · obtain ⟨W4, hcq, hg4, hb4⟩ := copy_round (w := w) (wr := wr) 2 2 4 hg.out hbx rfl (by decide) rfl rfl
      go_wp2_with fail
      go_region
      go_wp2
      go_roundw
      case rel => exact ⟨4, by decide, rfl, hg4, hb4⟩
      case measure => simp [intOf]
    · obtain ⟨W4, hcq, hg4, hb4⟩ := copy_round (w := w) (wr := wr) 4 4 8 hg.out hbx rfl (by decide) rfl rfl
      go_wp2_with fail
      go_region
      go_wp2
      go_roundw
      case rel => exact ⟨8, by decide, rfl, hg4, hb4⟩
      case measure => simp [intOf]
    · obtain ⟨W4, hcq, hg4, hb4⟩ := copy_round (w := w) (wr := wr) 8 2 10 hg.out hbx rfl (by decide) rfl rfl
      go_wp2_with fail
      go_region
      go_wp2
      go_roundw
      case rel => exact ⟨10, by decide, rfl, hg4, hb4⟩
      case measure => simp [intOf]
    · go_wp2
      go_ret
      exact ⟨rfl, hg.out, hbx⟩
end Go.Proofs.YtdpnpcjbjjjceaaGreatDoor
namespace Go.Proofs.YtdpnpcjbjjjceaaGreatDoor
open Go.RowKit

theorem flat_K10 : (flat (List.replicate 10 (false, 20))).toArray = (cellsK 10).toArray := rfl

set_option maxHeartbeats 2000000 in
theorem shapeOf_get (w : World) : Calls Tryz.prog 60 #[.string ⟨#[103, 101, 116]⟩] w (ShapePost w 1 (List.replicate 10 (false, 20))) := by
  go_enter Tryz.func60, Tryz.ntmps60
  go_wp2_with (first
    | (go_at_call 75; refine (text_c _ _).mono ?_; rintro e w1 ⟨rfl, hw⟩; rw [hw]; clear hw)
    | (go_at_call 76; refine (number_c _ _).mono ?_; rintro e w1 ⟨rfl, hw⟩; rw [hw]; clear hw)
    | (go_at_call 78; refine (repeat_c _ _ (alloc_at _ _ _ (by simp))).mono ?_; rintro e w2 ⟨rfl, hg, hb⟩; have c0 := hb.cell (p := ⟨w.heap.size, 0, none⟩) (by simp; omega); have c1 := hb.cell (p := ⟨w.heap.size, 1, none⟩) (by simp; omega); have f0 := hb.frozen (p := ⟨w.heap.size, 0, none⟩) (by simp; omega); have f1 := hb.frozen (p := ⟨w.heap.size, 1, none⟩) (by simp; omega); have hsz : w.heap.size + 10 ≤ w2.heap.size := (by have := hb.size; simp at this; omega)))
  have hg' : w2.heap[w.heap.size + 10]? = some (.cells (cellsK 10).toArray 115 (0, 0)) := by simpa using hg
  have c0' : w2.cell? ⟨w.heap.size, 0, none⟩ = some (.int .i64 0) := c0.trans (cell_alloc_keep (cell_alloc_keep (cell_alloc_keep (cell_alloc_keep (cell_alloc_keep (cell_alloc_keep (cell_alloc_keep (cell_alloc_keep (cell_alloc_keep (cell_alloc_at rfl rfl))))))))))
  have c1' : w2.cell? ⟨w.heap.size, 1, none⟩ = some (.slice none 0 0) := c1.trans (cell_alloc_keep (cell_alloc_keep (cell_alloc_keep (cell_alloc_keep (cell_alloc_keep (cell_alloc_keep (cell_alloc_keep (cell_alloc_keep (cell_alloc_keep (cell_alloc_at rfl rfl))))))))))
  clear c0 c1 f0 f1 hg
  refine bodyPost_ret (v := .tuple #[.agg #[.int .i64 1, .slice (some ⟨w.heap.size + 10, 0, none⟩) 10 10], .bool true]) (by simp [results, Tryz.results60, go_sem, c0', c1']) rfl ⟨⟨_, rfl, Or.inr ⟨w.heap.size + 10, rfl, by omega, ?_⟩⟩, ?_⟩
  · rw [Below.heap_setCell _ _ _ _ (by simp), Below.heap_setCell _ _ _ _ (by simp)]
    exact hg'
  · refine Below.setCell (p := ⟨w.heap.size, 1, none⟩) (Below.setCell (p := ⟨w.heap.size, 0, none⟩) (Below.trans ?_ (hb.mono ?_)) (Nat.le_refl _) _) (Nat.le_refl _) _
    · repeat (first | exact Below.refl _ _ | refine Below.alloc ?_ (by simp; omega) _ | refine Below.alloc ?_ (by simp) _)
    · simp <;> omega

set_option maxHeartbeats 2000000 in
theorem shapeOf_none (v : ByteArray) (w : World) (h : v = ⟨#[113, 117, 105, 116]⟩ ∨ v = ⟨#[115, 116, 97, 116, 115]⟩) : Calls Tryz.prog 60 #[.string v] w (ShapePost w 0 []) := by
  rcases h with rfl | rfl
  all_goals
    go_enter Tryz.func60, Tryz.ntmps60
    go_wp2_with (first
      | (go_at_call 75; refine (text_c _ _).mono ?_; rintro e w1 ⟨rfl, hw⟩; rw [hw]; clear hw)
      | (go_at_call 76; refine (number_c _ _).mono ?_; rintro e w1 ⟨rfl, hw⟩; rw [hw]; clear hw)
      | (go_at_call 77; refine (allOf_c _ _ _ _).mono ?_; rintro e w1 ⟨rfl, hw⟩; rw [hw]; clear hw))
    refine bodyPost_ret (v := .tuple #[.agg #[.int .i64 0, .slice none 0 0], .bool true]) (by simp [results, Tryz.results60, go_sem]) rfl ⟨⟨none, rfl, Or.inl rfl⟩, ?_⟩
    repeat (first | exact Below.refl _ _ | refine Below.alloc ?_ (by simp; omega) _ | refine Below.alloc ?_ (by simp) _)
end Go.Proofs.YtdpnpcjbjjjceaaGreatDoor
namespace Go.Proofs.YtdpnpcjbjjjceaaGreatDoor
open Go.RowKit

def pShape (l : List UInt8) : Option (Nat × List (Bool × Int)) :=
  if l = [97, 117, 116, 104] then some (2, [(false, 8), (false, 16)]) else
  if l = [113, 117, 105, 116] then some (0, []) else
  if l = [115, 116, 97, 116, 115] then some (0, []) else
  if l = [103, 101, 116] then some (1, List.replicate 10 (false, 20)) else
  if l = [115, 101, 116] then some (4, [(false, 20), (true, 65535), (true, 1000000), (true, 100)]) else
  if l = [97, 100, 100] then some (4, [(false, 20), (true, 65535), (true, 1000000), (true, 100)]) else
  if l = [114, 101, 112, 108, 97, 99, 101] then some (4, [(false, 20), (true, 65535), (true, 1000000), (true, 100)]) else
  if l = [99, 97, 115] then some (5, [(false, 20), (true, 65535), (true, 1000000), (true, 100), (true, 999999999)]) else
  if l = [100, 101, 108, 101, 116, 101] then some (1, [(false, 20)]) else
  if l = [105, 110, 99, 114] then some (2, [(false, 20), (true, 999999999)]) else
  if l = [116, 111, 117, 99, 104] then some (2, [(false, 20), (true, 1000000)]) else
  none
def pShapeS (s : ByteArray) : Option (Nat × List (Bool × Int)) := pShape s.data.toList
theorem pShape_small {l : List UInt8} {least : Nat} {rules : List (Bool × Int)} (h : pShape l = some (least, rules)) : least ≤ 10 ∧ rules.length ≤ 10 := by
  unfold pShape at h
  by_cases e0 : l = [97, 117, 116, 104]
  · rw [if_pos e0] at h; cases h; decide
  rw [if_neg e0] at h
  by_cases e1 : l = [113, 117, 105, 116]
  · rw [if_pos e1] at h; cases h; decide
  rw [if_neg e1] at h
  by_cases e2 : l = [115, 116, 97, 116, 115]
  · rw [if_pos e2] at h; cases h; decide
  rw [if_neg e2] at h
  by_cases e3 : l = [103, 101, 116]
  · rw [if_pos e3] at h; cases h; decide
  rw [if_neg e3] at h
  by_cases e4 : l = [115, 101, 116]
  · rw [if_pos e4] at h; cases h; decide
  rw [if_neg e4] at h
  by_cases e5 : l = [97, 100, 100]
  · rw [if_pos e5] at h; cases h; decide
  rw [if_neg e5] at h
  by_cases e6 : l = [114, 101, 112, 108, 97, 99, 101]
  · rw [if_pos e6] at h; cases h; decide
  rw [if_neg e6] at h
  by_cases e7 : l = [99, 97, 115]
  · rw [if_pos e7] at h; cases h; decide
  rw [if_neg e7] at h
  by_cases e8 : l = [100, 101, 108, 101, 116, 101]
  · rw [if_pos e8] at h; cases h; decide
  rw [if_neg e8] at h
  by_cases e9 : l = [105, 110, 99, 114]
  · rw [if_pos e9] at h; cases h; decide
  rw [if_neg e9] at h
  by_cases e10 : l = [116, 111, 117, 99, 104]
  · rw [if_pos e10] at h; cases h; decide
  rw [if_neg e10] at h
  cases h

set_option maxHeartbeats 2000000 in
theorem shapeOf_unknown (s : ByteArray) (w : World) (h : pShapeS s = none) : Calls Tryz.prog 60 #[.string s] w fun e w' => e = .returned (.tuple #[.agg #[.int .i64 0, .slice none 0 0], .bool false]) ∧ Below w.heap.size w w' := by
  unfold pShapeS pShape at h
  by_cases e0 : s.data.toList = [97, 117, 116, 104]
  · simp [e0] at h
  have n0 := ne_list e0
  by_cases e1 : s.data.toList = [113, 117, 105, 116]
  · simp [e1] at h
  have n1 := ne_list e1
  by_cases e2 : s.data.toList = [115, 116, 97, 116, 115]
  · simp [e2] at h
  have n2 := ne_list e2
  by_cases e3 : s.data.toList = [103, 101, 116]
  · simp [e3] at h
  have n3 := ne_list e3
  by_cases e4 : s.data.toList = [115, 101, 116]
  · simp [e4] at h
  have n4 := ne_list e4
  by_cases e5 : s.data.toList = [97, 100, 100]
  · simp [e5] at h
  have n5 := ne_list e5
  by_cases e6 : s.data.toList = [114, 101, 112, 108, 97, 99, 101]
  · simp [e6] at h
  have n6 := ne_list e6
  by_cases e7 : s.data.toList = [99, 97, 115]
  · simp [e7] at h
  have n7 := ne_list e7
  by_cases e8 : s.data.toList = [100, 101, 108, 101, 116, 101]
  · simp [e8] at h
  have n8 := ne_list e8
  by_cases e9 : s.data.toList = [105, 110, 99, 114]
  · simp [e9] at h
  have n9 := ne_list e9
  by_cases e10 : s.data.toList = [116, 111, 117, 99, 104]
  · simp [e10] at h
  have n10 := ne_list e10
  clear h e0 e1 e2 e3 e4 e5 e6 e7 e8 e9 e10
  go_enter Tryz.func60, Tryz.ntmps60
  go_wp2_with (first
    | (go_at_call 75; refine (text_c _ _).mono ?_; rintro e w1 ⟨rfl, hw⟩; rw [hw]; clear hw)
    | (go_at_call 76; refine (number_c _ _).mono ?_; rintro e w1 ⟨rfl, hw⟩; rw [hw]; clear hw))
  refine bodyPost_ret (v := .tuple #[.agg #[.int .i64 0, .slice none 0 0], .bool false]) (by simp [results, Tryz.results60, go_sem]) rfl ⟨rfl, ?_⟩
  repeat (first | exact Below.refl _ _ | refine Below.alloc ?_ (by simp; omega) _ | refine Below.alloc ?_ (by simp) _)

theorem shapeOf_known (s : ByteArray) (w : World) (least : Nat) (rules : List (Bool × Int)) (h : pShapeS s = some (least, rules)) : Calls Tryz.prog 60 #[.string s] w (ShapePost w least rules) := by
  unfold pShapeS pShape at h
  by_cases e0 : s.data.toList = [97, 117, 116, 104]
  · obtain rfl := eq_of_list e0
    simp at h
    obtain ⟨rfl, rfl⟩ := h
    exact shapeOf_auth w
  rw [if_neg e0] at h
  by_cases e1 : s.data.toList = [113, 117, 105, 116]
  · obtain rfl := eq_of_list e1
    simp at h
    obtain ⟨rfl, rfl⟩ := h
    exact shapeOf_none _ w (Or.inl rfl)
  rw [if_neg e1] at h
  by_cases e2 : s.data.toList = [115, 116, 97, 116, 115]
  · obtain rfl := eq_of_list e2
    simp at h
    obtain ⟨rfl, rfl⟩ := h
    exact shapeOf_none _ w (Or.inr rfl)
  rw [if_neg e2] at h
  by_cases e3 : s.data.toList = [103, 101, 116]
  · obtain rfl := eq_of_list e3
    simp at h
    obtain ⟨rfl, rfl⟩ := h
    exact shapeOf_get w
  rw [if_neg e3] at h
  by_cases e4 : s.data.toList = [115, 101, 116]
  · obtain rfl := eq_of_list e4
    simp at h
    obtain ⟨rfl, rfl⟩ := h
    exact shapeOf_set w
  rw [if_neg e4] at h
  by_cases e5 : s.data.toList = [97, 100, 100]
  · obtain rfl := eq_of_list e5
    simp at h
    obtain ⟨rfl, rfl⟩ := h
    exact shapeOf_add w
  rw [if_neg e5] at h
  by_cases e6 : s.data.toList = [114, 101, 112, 108, 97, 99, 101]
  · obtain rfl := eq_of_list e6
    simp at h
    obtain ⟨rfl, rfl⟩ := h
    exact shapeOf_replace w
  rw [if_neg e6] at h
  by_cases e7 : s.data.toList = [99, 97, 115]
  · obtain rfl := eq_of_list e7
    simp at h
    obtain ⟨rfl, rfl⟩ := h
    exact shapeOf_cas w
  rw [if_neg e7] at h
  by_cases e8 : s.data.toList = [100, 101, 108, 101, 116, 101]
  · obtain rfl := eq_of_list e8
    simp at h
    obtain ⟨rfl, rfl⟩ := h
    exact shapeOf_delete w
  rw [if_neg e8] at h
  by_cases e9 : s.data.toList = [105, 110, 99, 114]
  · obtain rfl := eq_of_list e9
    simp at h
    obtain ⟨rfl, rfl⟩ := h
    exact shapeOf_incr w
  rw [if_neg e9] at h
  by_cases e10 : s.data.toList = [116, 111, 117, 99, 104]
  · obtain rfl := eq_of_list e10
    simp at h
    obtain ⟨rfl, rfl⟩ := h
    exact shapeOf_touch w
  rw [if_neg e10] at h
  cases h

theorem split_c (s : ByteArray) (w : World) (hs : s.size ≤ 1048576) (N : Nat) (hN : N = min 12 (s.size + 1)) :
    Calls Tryz.prog 59 #[.string s, .string ⟨#[32]⟩, .int .i64 12] w fun e w' => e = .returned (.slice (some ⟨w.heap.size, 0, none⟩) (Lib.splitB ⟨#[32]⟩ 0 (N - 1) s).length N) ∧ w' = w.alloc (.cells (Lib.cellsOf (Lib.splitB ⟨#[32]⟩ 0 (N - 1) s) N) 9) := by
  have c := Tryz.genSplit_core s ⟨#[32]⟩ 0 12 N w (by omega) (by decide) (by decide) (fun x c hx => (Tryz.strings_Index_one x 32 _).mono fun e w' ⟨he, hw⟩ => ⟨by rw [he]; show _ = Ending.returned (Value.int .i64 (Lib.index x.data.toList [32])); rw [Lib.index_one], hw⟩)
    ((Tryz.strings_Count_one s 32 w).mono fun e w' ⟨he, hw⟩ => ⟨by rw [he]; show _ = Ending.returned (Value.int .i64 ((Lib.count s.data.toList [32] : Nat) : Int)); rw [Lib.count_one]; rfl, hw⟩) (by decide) (by decide) (by rw [if_neg (by decide)]; omega)
  clear hN
  go_enter Tryz.func59, Tryz.ntmps59
  go_wp2_with (go_at_call 74; refine c.mono ?_; rintro e w' ⟨rfl, hw⟩; rw [hw])
  go_ret
  exact ⟨rfl, rfl⟩
end Go.Proofs.YtdpnpcjbjjjceaaGreatDoor
namespace Go.Proofs.YtdpnpcjbjjjceaaGreatDoor
open Go.RowKit

theorem splitB_sizes (sep : ByteArray) : ∀ (k : Nat) (s x : ByteArray), x ∈ Lib.splitB sep 0 k s → x.size ≤ s.size
  | 0, s, x, h => by simp [Lib.splitB] at h; rw [h]; exact Nat.le_refl _
  | k + 1, s, x, h => by
    unfold Lib.splitB at h
    split at h
    · simp at h; rw [h]; exact Nat.le_refl _
    · rcases List.mem_cons.1 h with h | h
      · rw [h, ByteArray.size_extract]; omega
      · have := splitB_sizes sep k _ x h
        rw [ByteArray.size_extract] at this; omega
theorem cellsOf_get (L : List ByteArray) (N j : Nat) (x : ByteArray) (h : L[j]? = some x) : (Lib.cellsOf L N)[j]? = some (.string x) := by
  have hj : j < L.length := (List.getElem?_eq_some_iff.1 h).1
  unfold Lib.cellsOf
  rw [List.getElem?_toArray, List.getElem?_append_left (by simpa using hj), List.getElem?_map, h]; rfl

/-- the slice that SplitN gave, in a later world -/
structure Pieces (w0 w : World) (L : List ByteArray) : Prop where
  below : Below w0.heap.size w0 w
  here : w0.heap.size < w.heap.size
  cells : ∀ j x, L[j]? = some x → w.cell? ⟨w0.heap.size, j, none⟩ = some (.string x)
theorem Pieces.later {w0 w w' : World} {L : List ByteArray} (h : Pieces w0 w L) (hb : Below w.heap.size w w') : Pieces w0 w' L :=
  ⟨h.below.trans (hb.mono h.below.size), Nat.lt_of_lt_of_le h.here hb.size, fun j x hj => (hb.cell (p := ⟨w0.heap.size, j, none⟩) h.here).trans (h.cells j x hj)⟩
theorem pieces_new (w : World) (L : List ByteArray) (N : Nat) : Pieces w (w.alloc (.cells (Lib.cellsOf L N) 9)) L :=
  ⟨(Below.refl _ _).alloc (Nat.le_refl _) _, by simp, fun j x hj => cell_alloc_at rfl (cellsOf_get L N j x hj)⟩

/-- the world behind the making of the command's own block -/
abbrev cw (w : World) : World := w.alloc (.cells #[.string ⟨#[]⟩, .slice none 0 0, .slice none 0 0] 79)
theorem cw_below (w : World) : Below w.heap.size w (cw w) := (Below.refl _ _).alloc (Nat.le_refl _) _
theorem cw_size (w : World) : (cw w).heap.size = w.heap.size + 1 := by simp
theorem fr_new (w : World) (c : Array Value) (t : TypeId) (j : Nat) : (w.alloc (.cells c t)).frozen? ⟨w.heap.size, j, none⟩ = false := by
  exact heap_frozen (alloc_at w _ _ rfl) j
structure CwAt (w W : World) : Prop where
  c0 : W.cell? ⟨w.heap.size, 0, none⟩ = some (.string ⟨#[]⟩)
  c1 : W.cell? ⟨w.heap.size, 1, none⟩ = some (.slice none 0 0)
  c2 : W.cell? ⟨w.heap.size, 2, none⟩ = some (.slice none 0 0)
  f0 : W.frozen? ⟨w.heap.size, 0, none⟩ = false
  f1 : W.frozen? ⟨w.heap.size, 1, none⟩ = false
  f2 : W.frozen? ⟨w.heap.size, 2, none⟩ = false
  here : w.heap.size < W.heap.size
theorem cw_at {w W : World} (h : Below (cw w).heap.size (cw w) W) : CwAt w W := by
  have hl : w.heap.size < (cw w).heap.size := by rw [cw_size]; omega
  exact ⟨(h.cell (p := ⟨w.heap.size, 0, none⟩) hl).trans (cell_alloc_at rfl rfl), (h.cell (p := ⟨w.heap.size, 1, none⟩) hl).trans (cell_alloc_at rfl rfl), (h.cell (p := ⟨w.heap.size, 2, none⟩) hl).trans (cell_alloc_at rfl rfl),
    (h.frozen (p := ⟨w.heap.size, 0, none⟩) hl).trans (fr_new w _ _ _), (h.frozen (p := ⟨w.heap.size, 1, none⟩) hl).trans (fr_new w _ _ _), (h.frozen (p := ⟨w.heap.size, 2, none⟩) hl).trans (fr_new w _ _ _), Nat.lt_of_lt_of_le hl h.size⟩

set_option maxHeartbeats 2000000 in
theorem read_unknown (s : ByteArray) (w : World) (hs : s.size ≤ 1048576) (N : Nat) (hN : N = min 12 (s.size + 1)) (x0 : ByteArray) (xs : List ByteArray) (hL : Lib.splitB ⟨#[32]⟩ 0 (N - 1) s = x0 :: xs)
    (hk : pShapeS x0 = none) : Calls Tryz.prog 46 #[.string s] w fun e w' => e = .returned (.tuple #[.agg #[.string ⟨#[]⟩, .slice none 0 0, .slice none 0 0], .bool false]) ∧ Below w.heap.size w w' := by
  have cS := split_c s (cw w) hs N hN
  rw [hL] at cS
  have cH := fun (W : World) => shapeOf_unknown x0 W hk
  have hN12 : N ≤ 12 := by omega
  clear hL hk hN
  obtain ⟨n, hn⟩ : ∃ n, n = (x0 :: xs).length := ⟨_, rfl⟩
  have hn1 : 1 ≤ n := by rw [hn]; simp
  rw [← hn] at cS
  clear hn
  go_enter Tryz.func46, Tryz.ntmps46
  go_wp2_with (first
    | (go_at_call 59; refine cS.mono ?_; rintro e w1 ⟨rfl, hw⟩; have hP := pieces_new (cw w) (x0 :: xs) N; rw [← hw] at hP; clear hw; have hc0 := hP.cells 0 x0 rfl; rw [cw_size] at hc0)
    | (go_at_call 60; refine (cH _).mono ?_; rintro e w2 ⟨rfl, hb2⟩; obtain ⟨c0, c1, c2, f0, f1, f2, hh⟩ := cw_at (hP.later hb2).below))
  go_quiet (fail)
  have hB : Below (cw w).heap.size (cw w) ((w2.alloc (.cells #[.int .i64 0, .slice none 0 0] 110)).drewN nq) := below_drewN ((hP.later hb2).below.alloc (hP.later hb2).below.size _) _
  clear c0 c1 c2 f0 f1 f2 hh hc0
  generalize (w2.alloc (.cells #[.int .i64 0, .slice none 0 0] 110)).drewN nq = W3 at hB ⊢
  obtain ⟨c0, c1, c2, f0, f1, f2, hh⟩ := cw_at hB
  go_wp2
  refine bodyPost_ret (v := .tuple #[.agg #[.string ⟨#[]⟩, .slice none 0 0, .slice none 0 0], .bool false]) (by simp [results, Tryz.results46, go_sem, c0, c1, c2]) rfl ⟨rfl, ?_⟩
  exact (((cw_below w).trans (hB.mono (cw_below w).size)).setCell (p := ⟨w.heap.size, 0, none⟩) (Nat.le_refl _) _).setCell (p := ⟨w.heap.size, 1, none⟩) (Nat.le_refl _) _ |>.setCell (p := ⟨w.heap.size, 2, none⟩) (Nat.le_refl _) _

theorem fits_nil (least n : Nat) (rules : List (Bool × Int)) (a a' : Option Addr) (cap : Nat) (w : World) (hl : least ≤ 10) (hn10 : n ≤ 10) :
    Calls Tryz.prog 61 #[.agg #[.int .i64 least, .slice a n n], .slice a' 0 cap] w fun e w' => e = .returned (.bool (fitsV least rules [])) ∧ Below w.heap.size w w' := by
  by_cases h1 : 0 < least
  · have k1 : (0 : Int) < least := by omega
    have HF : Hid (fitsV least rules [] = false) := by
      show _ = _
      unfold fitsV; rw [show decide (least ≤ ([] : List ByteArray).length) = false from decide_eq_false (by simp; omega)]; rfl
    go_enter Tryz.func61, Tryz.ntmps61
    go_wp2
    go_ret
    exact ⟨by rw [HF.out]; rfl, (Below.refl _ _).alloc (Nat.le_refl _) _⟩
  · obtain rfl : least = 0 := by omega
    have HF : Hid (fitsV 0 rules [] = true) := by
      show _ = _
      unfold fitsV; cases rules <;> simp [pFits]
    have k2 : ¬ (n : Int) < 0 := by omega
    go_enter Tryz.func61, Tryz.ntmps61
    go_wp2_with fail
    refine wp_loop_rounds 1 ?_
    rw [rounds_succ]
    go_wp2
    go_ret
    exact ⟨by rw [HF.out]; rfl, (Below.refl _ _).alloc (Nat.le_refl _) _⟩

end Go.Proofs.YtdpnpcjbjjjceaaGreatDoor
namespace Go.Proofs.YtdpnpcjbjjjceaaGreatDoor
open Go.RowKit

/-- the words behind the name that are no numbers, and those that are -/
def pTexts : List (Bool × Int) → List ByteArray → List ByteArray
  | (b, _) :: r, x :: xs => if b then pTexts r xs else x :: pTexts r xs
  | _, _ => []
def pNums : List (Bool × Int) → List ByteArray → List Nat
  | (b, _) :: r, x :: xs => if b then (P.pNumS x).getD 0 :: pNums r xs else pNums r xs
  | _, _ => []
theorem drops_step {α : Type} (l : List α) (k : Nat) (x : α) (h : l[k]? = some x) : l.drop k = x :: l.drop (k + 1) := by
  obtain ⟨l1, e1⟩ := List.getElem?_eq_some_iff.1 h
  rw [List.drop_eq_getElem_cons l1, e1]
theorem pTexts_step (rules : List (Bool × Int)) (xs : List ByteArray) (k : Nat) (b : Bool) (m : Int) (x : ByteArray) (h1 : rules[k]? = some (b, m)) (h2 : xs[k]? = some x) :
    pTexts (rules.drop k) (xs.drop k) = if b then pTexts (rules.drop (k + 1)) (xs.drop (k + 1)) else x :: pTexts (rules.drop (k + 1)) (xs.drop (k + 1)) := by
  rw [drops_step rules k _ h1, drops_step xs k _ h2]; rfl
theorem pNums_step (rules : List (Bool × Int)) (xs : List ByteArray) (k : Nat) (b : Bool) (m : Int) (x : ByteArray) (h1 : rules[k]? = some (b, m)) (h2 : xs[k]? = some x) :
    pNums (rules.drop k) (xs.drop k) = if b then (P.pNumS x).getD 0 :: pNums (rules.drop (k + 1)) (xs.drop (k + 1)) else pNums (rules.drop (k + 1)) (xs.drop (k + 1)) := by
  rw [drops_step rules k _ h1, drops_step xs k _ h2]; rfl
theorem pFits_at : ∀ (rules : List (Bool × Int)) (xs : List ByteArray) (k : Nat) (b : Bool) (m : Int) (x : ByteArray), pFits rules xs = true → rules[k]? = some (b, m) → xs[k]? = some x → P.pAllowsS b m x = true
  | [], _, _, _, _, _, _, h1, _ => by simp at h1
  | _ :: _, [], _, _, _, _, _, _, h2 => by simp at h2
  | (b', m') :: r, x' :: xs, 0, b, m, x, h, h1, h2 => by
    simp at h1 h2
    obtain ⟨rfl, rfl⟩ := h1
    subst h2
    simp only [pFits, Bool.and_eq_true] at h
    exact h.1
  | (b', m') :: r, x' :: xs, k + 1, b, m, x, h, h1, h2 => by
    simp only [pFits, Bool.and_eq_true] at h
    exact pFits_at r xs k b m x h.2 (by simpa using h1) (by simpa using h2)
theorem allows_number {m : Int} {x : ByteArray} (h : P.pAllowsS true m x = true) : ∃ n, P.pNumS x = some n := by
  unfold P.pAllowsS P.pAllows at h
  unfold P.pNumS
  cases hn : P.pNum x.data.toList with
  | none => simp [hn] at h
  | some n => exact ⟨n, rfl⟩
theorem own_apart {w : World} {b1 b2 e1 e2 s1 s2 n1 n2 : Nat} {v1 v2 : Value} {l1 l2 : List Value} (h1 : w.ownsRow b1 e1 s1 v1 n1 l1) (h2 : w.ownsRow b2 e2 s2 v2 n2 l2) (hne : e1 ≠ e2) : v1.ownBlock = none ∨ v1.ownBlock ≠ v2.ownBlock := by
  rcases h1.2 with ⟨rfl, _⟩ | ⟨g, cap, cur, rfl, _, hg, _⟩
  · exact Or.inl rfl
  · rcases h2.2 with ⟨rfl, _⟩ | ⟨g', cap', cur', rfl, _, hg', _⟩
    · exact Or.inr (by simp [Value.ownBlock])
    · refine Or.inr fun e => ?_
      simp [Value.ownBlock] at e
      subst e
      rw [hg] at hg'
      cases hg'
      exact hne rfl
theorem own_mono {w : World} {b b' e s n : Nat} {v : Value} {l : List Value} (h : w.ownsRow b e s v n l) (hb : b' ≤ b) : w.ownsRow b' e s v n l := by
  refine ⟨h.1, ?_⟩
  rcases h.2 with h | ⟨g, cap, cur, h1, h2, h3⟩
  · exact Or.inl h
  · exact Or.inr ⟨g, cap, cur, h1, Nat.le_trans hb h2, h3⟩
def natV (n : Nat) : Value := .int .i64 n
/-- a command in memory -/
def CmdAt (base : Nat) (W : World) (x0 : ByteArray) (T : List ByteArray) (Ns : List Nat) (v : Value) : Prop :=
  ∃ tv nv, v = .agg #[.string x0, tv, nv] ∧ W.ownsRow base 9 1 tv T.length (T.map Value.string) ∧ W.ownsRow base 3 1 nv Ns.length (Ns.map natV)
/-- Read's loop, ahead of word k -/
def RL (w3 : World) (x0 : ByteArray) (rules : List (Bool × Int)) (xs : List ByteArray) (k : Nat) (wr : World) : Prop :=
  ∃ (T : List ByteArray) (Ns : List Nat) (tv nv : Value), Below w3.heap.size w3 wr ∧ wr.heap[w3.heap.size]? = some (.cells #[.string x0, tv, nv] 79 (0, 0)) ∧
    wr.ownsRow (w3.heap.size + 1) 9 1 tv T.length (T.map Value.string) ∧ wr.ownsRow (w3.heap.size + 1) 3 1 nv Ns.length (Ns.map natV) ∧ T.length ≤ k ∧ Ns.length ≤ k ∧
    T ++ pTexts (rules.drop k) (xs.drop k) = pTexts rules xs ∧ Ns ++ pNums (rules.drop k) (xs.drop k) = pNums rules xs
theorem RL.below {w3 wr : World} {x0 : ByteArray} {rules : List (Bool × Int)} {xs : List ByteArray} {k : Nat} (h : RL w3 x0 rules xs k wr) : Below w3.heap.size w3 wr := by
  obtain ⟨_, _, _, _, h, _⟩ := h
  exact h
theorem rl_start (w3 : World) (x0 : ByteArray) (rules : List (Bool × Int)) (xs : List ByteArray) : RL w3 x0 rules xs 0 (w3.alloc (.cells #[.string x0, .slice none 0 0, .slice none 0 0] 79)) :=
  ⟨[], [], .slice none 0 0, .slice none 0 0, (Below.refl _ _).alloc (Nat.le_refl _) _, alloc_at _ _ _ rfl, World.ownsRow_nil _ _ _ _, World.ownsRow_nil _ _ _ _, Nat.le_refl _, Nat.le_refl _, rfl, rfl⟩
theorem grown_trans {a b c : World} {row : Option Nat} (h : a.grownBy b row) (k : b.grownBy c row) : a.grownBy c row :=
  ⟨k.os.trans h.os, k.tape.trans h.tape, k.output.trans h.output, Nat.le_trans h.size k.size, fun i hi hr => (k.block i (Nat.lt_of_lt_of_le hi h.size) hr).trans (h.block i hi hr)⟩
theorem grown_cmd {w w' : World} {gc e n : Nat} {v : Value} {l : List Value} {o : Obj} (hgc : w.heap[gc]? = some o) (hv : w.ownsRow (gc + 1) e 1 v n l) (hg : w.grownBy w' v.ownBlock) : w'.heap[gc]? = some o := by
  rw [hg.block gc (Array.getElem?_eq_some_iff.1 hgc).1 (fun h => by have := own_block_ge hv gc h.symm; omega)]
  exact hgc
theorem own_slice {w : World} {b e s n : Nat} {v : Value} {l : List Value} (h : w.ownsRow b e s v n l) (hn : n ≠ 0) : ∃ g cap, v = .slice (some ⟨g, 0, none⟩) n cap := by
  rcases h.2 with ⟨_, h0⟩ | ⟨g, cap, cur, h1, _⟩
  · exact absurd h0 hn
  · exact ⟨g, cap, h1⟩
theorem infoInt : (Tryz.prog.info? 3).map (fun i => (i.zero, i.size, i.bytes)) = some (some (.int .i64 0), 1, 8) := by kernel_rfl
theorem own_below {w w' : World} {b e s n : Nat} {v : Value} {l : List Value} (h : w.ownsRow b e s v n l) (hb : Below w.heap.size w w') : w'.ownsRow b e s v n l := by
  refine ⟨h.1, ?_⟩
  rcases h.2 with h | ⟨g, cap, cur, h1, h2, h3, h4⟩
  · exact Or.inl h
  · exact Or.inr ⟨g, cap, cur, h1, h2, (hb.block g (Array.getElem?_eq_some_iff.1 h3).1).trans h3, h4⟩
theorem heap_set {w : World} {g j : Nat} {c : Array Value} {t : TypeId} {u : Value} (h : w.heap[g]? = some (.cells c t (0, 0))) : (w.setCell ⟨g, j, none⟩ u).heap[g]? = some (.cells (c.setIfInBounds j u) t (0, 0)) := by
  simp only [World.setCell, Array.getElem?_modify, if_pos, h]
  rfl
theorem rl_text {w3 w5 : World} {x0 : ByteArray} {rules : List (Bool × Int)} {xs T : List ByteArray} {Ns : List Nat} {k : Nat} {tv nv v : Value} (hb : Below w3.heap.size w3 w5)
    (hg : w5.heap[w3.heap.size]? = some (.cells #[.string x0, tv, nv] 79 (0, 0))) (h1 : w5.ownsRow (w3.heap.size + 1) 9 1 v T.length (T.map Value.string)) (h2 : w5.ownsRow (w3.heap.size + 1) 3 1 nv Ns.length (Ns.map natV))
    (hT : T.length ≤ k) (hN : Ns.length ≤ k) (eT : T ++ pTexts (rules.drop k) (xs.drop k) = pTexts rules xs) (eN : Ns ++ pNums (rules.drop k) (xs.drop k) = pNums rules xs) : RL w3 x0 rules xs k (w5.setCell ⟨w3.heap.size, 1, none⟩ v) :=
  ⟨T, Ns, v, nv, hb.setCell (p := ⟨w3.heap.size, 1, none⟩) (Nat.le_refl _) _, heap_set hg, ownsRow_setCell_below h1 (by simp) _, ownsRow_setCell_below h2 (by simp) _, hT, hN, eT, eN⟩
theorem rl_num {w3 w5 : World} {x0 : ByteArray} {rules : List (Bool × Int)} {xs T : List ByteArray} {Ns : List Nat} {k : Nat} {tv nv v : Value} (hb : Below w3.heap.size w3 w5)
    (hg : w5.heap[w3.heap.size]? = some (.cells #[.string x0, tv, nv] 79 (0, 0))) (h1 : w5.ownsRow (w3.heap.size + 1) 9 1 tv T.length (T.map Value.string)) (h2 : w5.ownsRow (w3.heap.size + 1) 3 1 v Ns.length (Ns.map natV))
    (hT : T.length ≤ k) (hN : Ns.length ≤ k) (eT : T ++ pTexts (rules.drop k) (xs.drop k) = pTexts rules xs) (eN : Ns ++ pNums (rules.drop k) (xs.drop k) = pNums rules xs) : RL w3 x0 rules xs k (w5.setCell ⟨w3.heap.size, 2, none⟩ v) :=
  ⟨T, Ns, tv, v, hb.setCell (p := ⟨w3.heap.size, 2, none⟩) (Nat.le_refl _) _, heap_set hg, ownsRow_setCell_below h1 (by simp) _, ownsRow_setCell_below h2 (by simp) _, hT, hN, eT, eN⟩
structure Num4 (w3 wr w4 : World) (x0 : ByteArray) (T : List ByteArray) (Ns : List Nat) (tv nv : Value) : Prop where
  below : Below w3.heap.size w3 w4
  blk : w4.heap[w3.heap.size]? = some (.cells #[.string x0, tv, nv] 79 (0, 0))
  ownT : w4.ownsRow (w3.heap.size + 1) 9 1 tv T.length (T.map Value.string)
  own : w4.ownsRow (w3.heap.size + 1) 3 1 nv Ns.length (Ns.map natV)
  m2 : w4.cell? ⟨w3.heap.size, 2, none⟩ = some nv
  here : w3.heap.size < w4.heap.size
theorem num4 {w3 wr w4 : World} {x0 : ByteArray} {T : List ByteArray} {Ns : List Nat} {tv nv : Value} (hB : Below w3.heap.size w3 wr) (hs : w3.heap.size < wr.heap.size) (hgc : wr.heap[w3.heap.size]? = some (.cells #[.string x0, tv, nv] 79 (0, 0)))
    (hot : wr.ownsRow (w3.heap.size + 1) 9 1 tv T.length (T.map Value.string)) (hon : wr.ownsRow (w3.heap.size + 1) 3 1 nv Ns.length (Ns.map natV)) (hb : Below wr.heap.size wr w4) : Num4 w3 wr w4 x0 T Ns tv nv :=
  ⟨hB.trans (hb.mono (Nat.le_of_lt hs)), (hb.block _ hs).trans hgc, own_below hot hb, own_below hon hb, heap_cell ((hb.block _ hs).trans hgc) 2 rfl, Nat.lt_of_lt_of_le hs hb.size⟩
def noCommand : Value := .tuple #[.agg #[.string ⟨#[]⟩, .slice none 0 0, .slice none 0 0], .bool false]

/-- what Read answers -/
def ReadEnd (w : World) (x0 : ByteArray) (rules : List (Bool × Int)) (xs : List ByteArray) (ok : Bool) (e : Ending) (w' : World) : Prop :=
  (if ok then ∃ v, e = .returned (.tuple #[v, .bool true]) ∧ CmdAt w.heap.size w' x0 (pTexts rules xs) (pNums rules xs) v else e = .returned noCommand) ∧ Below w.heap.size w w'
theorem own_is_slice {w : World} {b e s n : Nat} {v : Value} {l : List Value} (h : w.ownsRow b e s v n l) : ∃ a n cap, v = .slice a n cap := by
  rcases h.2 with ⟨h0, _⟩ | ⟨g, cap, cur, h1, _⟩
  · exact ⟨_, _, _, h0⟩
  · exact ⟨_, _, _, h1⟩
/-- the world behind the storing of the results -/
abbrev ow (w W : World) (v0 v1 v2 : Value) : World := ((W.setCell ⟨w.heap.size, 0, none⟩ v0).setCell ⟨w.heap.size, 1, none⟩ v1).setCell ⟨w.heap.size, 2, none⟩ v2
theorem ow_below {w W : World} (h : Below w.heap.size w W) (v0 v1 v2 : Value) : Below w.heap.size w (ow w W v0 v1 v2) :=
  ((h.setCell (p := ⟨w.heap.size, 0, none⟩) (Nat.le_refl _) _).setCell (p := ⟨w.heap.size, 1, none⟩) (Nat.le_refl _) _).setCell (p := ⟨w.heap.size, 2, none⟩) (Nat.le_refl _) _
theorem ow_own {w W : World} {b e s n : Nat} {v v0 v1 v2 : Value} {l : List Value} (hb : w.heap.size < b) (h : W.ownsRow b e s v n l) : (ow w W v0 v1 v2).ownsRow w.heap.size e s v n l :=
  own_mono (ownsRow_setCell_below (ownsRow_setCell_below (ownsRow_setCell_below h (a := ⟨w.heap.size, 0, none⟩) hb _) (a := ⟨w.heap.size, 1, none⟩) hb _) (a := ⟨w.heap.size, 2, none⟩) hb _) (Nat.le_of_lt hb)
/-- what Read has in memory when its line fits -/
structure RdAt (w : World) (g2 : Nat) (least r : Nat) (a : Option Addr) (rules : List (Bool × Int)) (L : List ByteArray) (W : World) : Prop where
  below : Below w.heap.size w W
  cw : CwAt w W
  pieces : ∀ j x, L[j]? = some x → W.cell? ⟨w.heap.size + 1, j, none⟩ = some (.string x)
  here : w.heap.size + 1 < W.heap.size
  s0 : W.cell? ⟨g2, 0, none⟩ = some (.int .i64 least)
  s1 : W.cell? ⟨g2, 1, none⟩ = some (.slice a r r)
  hereS : g2 < W.heap.size
  rule : rules = [] ∨ ∃ g, a = some ⟨g, 0, none⟩ ∧ W.heap[g]? = some (.cells (flat rules).toArray 115 (0, 0))
theorem RdAt.later {w : World} {g2 least r : Nat} {a : Option Addr} {rules : List (Bool × Int)} {L : List ByteArray} {W W' : World} (h : RdAt w g2 least r a rules L W) (hb : Below W.heap.size W W') : RdAt w g2 least r a rules L W' := by
  have hl := h.cw.here
  refine ⟨h.below.trans (hb.mono h.below.size), ⟨?_, ?_, ?_, ?_, ?_, ?_, Nat.lt_of_lt_of_le hl hb.size⟩, ?_, Nat.lt_of_lt_of_le h.here hb.size, ?_, ?_, Nat.lt_of_lt_of_le h.hereS hb.size, ?_⟩
  · exact (hb.cell (p := ⟨w.heap.size, 0, none⟩) hl).trans h.cw.c0
  · exact (hb.cell (p := ⟨w.heap.size, 1, none⟩) hl).trans h.cw.c1
  · exact (hb.cell (p := ⟨w.heap.size, 2, none⟩) hl).trans h.cw.c2
  · exact (hb.frozen (p := ⟨w.heap.size, 0, none⟩) hl).trans h.cw.f0
  · exact (hb.frozen (p := ⟨w.heap.size, 1, none⟩) hl).trans h.cw.f1
  · exact (hb.frozen (p := ⟨w.heap.size, 2, none⟩) hl).trans h.cw.f2
  · intro j x hj
    exact (hb.cell (p := ⟨w.heap.size + 1, j, none⟩) h.here).trans (h.pieces j x hj)
  · exact (hb.cell (p := ⟨g2, 0, none⟩) h.hereS).trans h.s0
  · exact (hb.cell (p := ⟨g2, 1, none⟩) h.hereS).trans h.s1
  · rcases h.rule with h | ⟨g, h1, h2⟩
    · exact Or.inl h
    · exact Or.inr ⟨g, h1, (hb.block g (Array.getElem?_eq_some_iff.1 h2).1).trans h2⟩
theorem rdAt {w w2 w3 : World} {least r : Nat} {a : Option Addr} {rules : List (Bool × Int)} {L : List ByteArray} (hP : Pieces (cw w) w2 L)
    (ha : rules = [] ∨ ∃ g, a = some ⟨g, 0, none⟩ ∧ w2.heap[g]? = some (.cells (flat rules).toArray 115 (0, 0)))
    (hb : Below (w2.alloc (.cells #[.int .i64 least, .slice a r r] 110)).heap.size (w2.alloc (.cells #[.int .i64 least, .slice a r r] 110)) w3) : RdAt w w2.heap.size least r a rules L w3 := by
  have h0 : Below w2.heap.size w2 (w2.alloc (.cells #[.int .i64 least, .slice a r r] 110)) := (Below.refl _ _).alloc (Nat.le_refl _) _
  have hP1 := hP.later h0
  have hs : w2.heap.size < (w2.alloc (.cells #[.int .i64 least, .slice a r r] 110)).heap.size := by simp
  have hh := hP1.here
  rw [cw_size] at hh
  refine RdAt.later (W := w2.alloc (.cells #[.int .i64 least, .slice a r r] 110)) ⟨(cw_below w).trans (hP1.below.mono (cw_below w).size), cw_at hP1.below, ?_, hh, cell_alloc_at rfl rfl, cell_alloc_at rfl rfl, hs, ?_⟩ hb
  · intro j x hj
    have := hP1.cells j x hj
    rw [cw_size] at this
    exact this
  · rcases ha with h | ⟨g, h1, h2⟩
    · exact Or.inl h
    · exact Or.inr ⟨g, h1, (h0.block g (Array.getElem?_eq_some_iff.1 h2).1).trans h2⟩

set_option maxRecDepth 20000 in
set_option maxHeartbeats 4000000 in
theorem read_known (s : ByteArray) (w : World) (hs : s.size ≤ 1048576) (hE : Errs w) (N : Nat) (hN : N = min 12 (s.size + 1)) (x0 : ByteArray) (xs : List ByteArray) (hL : Lib.splitB ⟨#[32]⟩ 0 (N - 1) s = x0 :: xs)
    (least : Nat) (rules : List (Bool × Int)) (hk : pShapeS x0 = some (least, rules)) (ok : Bool) (hok : fitsV least rules xs = ok) : Calls Tryz.prog 46 #[.string s] w (ReadEnd w x0 rules xs ok) := by
  have cS := split_c s (cw w) hs N hN
  have hsz : ∀ x ∈ x0 :: xs, x.size ≤ 281474976710656 := fun x hx => by
    have := splitB_sizes ⟨#[32]⟩ (N - 1) s x (by rw [hL]; exact hx)
    omega
  have HSZ : Hid (∀ x ∈ x0 :: xs, x.size ≤ 281474976710656) := hsz
  have hlen := Lib.splitB_length_le ⟨#[32]⟩ 0 (N - 1) s
  rw [hL] at cS hlen
  have cH := fun (W : World) => shapeOf_known x0 W least rules hk
  obtain ⟨hl10, hr10⟩ := pShape_small hk
  have hN12 : N ≤ 12 := by omega
  have hN1 : 1 ≤ N := by omega
  have HE : Hid (Errs w) := hE
  have HOK : Hid (fitsV least rules xs = ok) := hok
  clear hL hk hN hsz hE hok
  obtain ⟨n, hn⟩ : ∃ n, n = (x0 :: xs).length := ⟨_, rfl⟩
  have hn1 : 1 ≤ n := by rw [hn]; simp
  rw [← hn] at cS hlen
  have HN : Hid (n = (x0 :: xs).length) := hn
  obtain ⟨r, hr⟩ : ∃ r, r = rules.length := ⟨_, rfl⟩
  have HR : Hid (r = rules.length) := hr
  have hr10' : r ≤ 10 := by omega
  have hnN : n ≤ N := by omega
  clear hn hlen hr10
  have cH' : ∀ W, Calls Tryz.prog 60 #[.string x0] W fun e w' => ∃ a : Option Addr, e = .returned (.tuple #[.agg #[.int .i64 least, .slice a r r], .bool true]) ∧
      (rules = [] ∨ ∃ g, a = some ⟨g, 0, none⟩ ∧ w'.heap[g]? = some (.cells (flat rules).toArray 115 (0, 0))) ∧ Below W.heap.size W w' := fun W =>
    (cH W).mono fun e w' ⟨⟨a, he, ha⟩, hb⟩ => ⟨a, by rw [he, hr], ha.imp id (fun ⟨g, h1, _, h3⟩ => ⟨g, h1, h3⟩), hb⟩
  clear cH hr
  go_enter Tryz.func46, Tryz.ntmps46
  go_wp2_with (first
    | (go_at_call 59; refine cS.mono ?_; rintro e w1 ⟨rfl, hw⟩; have hP := pieces_new (cw w) (x0 :: xs) N; rw [← hw] at hP; clear hw; have hc0 := hP.cells 0 x0 rfl; rw [cw_size] at hc0)
    | (go_at_call 60; refine (cH' _).mono ?_; rintro e w2 ⟨a, rfl, ha, hb2⟩))
  have hP2 := hP.later hb2
  have cF : ∀ (W : World) (a' : Option Addr) (c : Nat), Below (w2.heap.size) w2 W → (n - 1 = 0 ∨ a' = some ⟨w.heap.size + 1, 1, none⟩) → Calls Tryz.prog 61 #[.agg #[.int .i64 least, .slice a r r], .slice a' (n - 1) c] W fun e w' => e = .returned (.bool ok) ∧ Below W.heap.size W w' := by
    intro W a' c hbW ha'
    rw [← HOK.out]
    by_cases h0 : n - 1 = 0
    · have hx : xs = [] := List.eq_nil_of_length_eq_zero (by have := HN.out; simp at this; omega)
      rw [h0, hx]
      exact fits_nil least r rules a a' c W hl10 hr10'
    · obtain rfl : a' = some ⟨w.heap.size + 1, 1, none⟩ := ha'.resolve_left h0
      have hh := (hP2.later hbW).here
      rw [cw_size] at hh
      have hE' : Errs W := HE.out.below ((cw_below w).trans ((hP2.later hbW).below.mono (cw_below w).size))
      refine fits_c least r rules xs a (w.heap.size + 1) 1 c W HR.out.symm hr10' ?_ hh ?_ hl10 hE' (n - 1) (by have := HN.out; simp at this; omega) (by omega)
      · rcases ha with h | ⟨g, h1, h2⟩
        · exact Or.inl h
        · exact Or.inr ⟨g, h1, (hbW.block g (Array.getElem?_eq_some_iff.1 h2).1).trans h2⟩
      · intro j x hj
        refine ⟨?_, HSZ.out x (List.mem_cons_of_mem _ (List.mem_of_getElem? hj))⟩
        have := (hP2.later hbW).cells (j + 1) x (by simpa using hj)
        rw [cw_size, Nat.add_comm j 1] at this
        exact this
  clear hP hb2 hc0 cS cH'
  have HA : Hid (rules = [] ∨ ∃ g, a = some ⟨g, 0, none⟩ ∧ w2.heap[g]? = some (.cells (flat rules).toArray 115 (0, 0))) := ha
  clear ha
  have HP2 : Hid (Pieces (cw w) w2 (x0 :: xs)) := hP2
  clear hP2
  by_cases hNone : N = 1
  · obtain rfl : n = 1 := by omega
    subst hNone
    have cF1 : ∀ W : World, Below w2.heap.size w2 W → Calls Tryz.prog 61 #[.agg #[.int .i64 least, .slice a r r], .slice (some ⟨w.heap.size + 1, 0, none⟩) 0 0] W fun e w' => e = .returned (.bool ok) ∧ Below W.heap.size W w' := fun W hb => cF W _ 0 hb (Or.inl rfl)
    clear cF
    cases ok
    · go_region_with (go_at_call 61; refine (cF1 _ (by exact ((Below.refl _ _).alloc (Nat.le_refl _) _).drew)).mono ?_; rintro e w3 ⟨rfl, hb3⟩)
      have hR := rdAt HP2.out HA.out (((Below.refl _ _).drew).trans hb3)
      clear cF1 hb3 HP2 HA
      generalize w2.heap.size = g2 at hR ⊢
      have HR3 : Hid (RdAt w g2 least r a rules (x0 :: xs) w3) := hR
      obtain ⟨c0, c1, c2, f0, f1, f2, hh⟩ := hR.cw
      clear hR
      go_wp2
      refine bodyPost_ret (v := noCommand) (by simp [noCommand, results, Tryz.results46, go_sem, c0, c1, c2]) rfl ⟨rfl, ow_below HR3.out.below _ _ _⟩
    · go_region_with (go_at_call 61; refine (cF1 _ (by exact ((Below.refl _ _).alloc (Nat.le_refl _) _).drew)).mono ?_; rintro e w3 ⟨rfl, hb3⟩)
      have hR := rdAt HP2.out HA.out (((Below.refl _ _).drew).trans hb3)
      clear cF1 hb3 HP2 HA
      generalize w2.heap.size = g2 at hR ⊢
      have HR3 : Hid (RdAt w g2 least r a rules (x0 :: xs) w3) := hR
      have k0 := hR.pieces 0 x0 rfl
      have hh := hR.here
      clear hR
      go_wp2_with fail
      have hR4 := HR3.out.later ((Below.refl _ _).alloc (Nat.le_refl _) (.cells #[.string x0, .slice none 0 0, .slice none 0 0] 79))
      have hgc := alloc_at w3 (.cells #[.string x0, .slice none 0 0, .slice none 0 0] 79) _ rfl
      generalize w3.alloc (.cells #[.string x0, .slice none 0 0, .slice none 0 0] 79) = W4 at hR4 hgc ⊢
      have d0 : W4.cell? ⟨w3.heap.size, 0, none⟩ = some (.string x0) := heap_cell hgc 0 rfl
      have d1 : W4.cell? ⟨w3.heap.size, 1, none⟩ = some (.slice none 0 0) := heap_cell hgc 1 rfl
      have d2 : W4.cell? ⟨w3.heap.size, 2, none⟩ = some (.slice none 0 0) := heap_cell hgc 2 rfl
      obtain ⟨c0, c1, c2, f0, f1, f2, _⟩ := hR4.cw
      have HR4 : Hid (Below w.heap.size w W4) := hR4.below
      clear hgc hR4 k0 HR3
      refine wp_loop_rounds 1 ?_
      rw [rounds_succ]
      go_wp2
      have hx : xs = [] := List.eq_nil_of_length_eq_zero (by have := HN.out; simp at this; simpa using this)
      subst hx
      refine bodyPost_ret (v := .tuple #[.agg #[.string x0, .slice none 0 0, .slice none 0 0], .bool true]) (by simp [results, Tryz.results46, go_sem, c0, c1, c2]) rfl ?_
      refine ⟨⟨_, rfl, _, _, rfl, ?_, ?_⟩, ow_below HR4.out _ _ _⟩
      · cases rules <;> exact World.ownsRow_nil _ _ _ _
      · cases rules <;> exact World.ownsRow_nil _ _ _ _
  have kN : (1 : Int) < N := by omega
  have kN' : 1 < N := by omega
  have kn : (1 : Int) ≤ n := by omega
  have cF1 : ∀ W : World, Below w2.heap.size w2 W → Calls Tryz.prog 61 #[.agg #[.int .i64 least, .slice a r r], .slice (some ⟨w.heap.size + 1, 1, none⟩) (n - 1) (N - 1)] W fun e w' => e = .returned (.bool ok) ∧ Below W.heap.size W w' := fun W hb => cF W _ _ hb (Or.inr rfl)
  clear cF
  cases ok
  · go_region_with (go_at_call 61; refine (cF1 _ (by exact ((Below.refl _ _).alloc (Nat.le_refl _) _).drew)).mono ?_; rintro e w3 ⟨rfl, hb3⟩)
    have hR := rdAt HP2.out HA.out (((Below.refl _ _).drew).trans hb3)
    clear cF1 hb3 HP2 HA
    generalize w2.heap.size = g2 at hR ⊢
    have HR3 : Hid (RdAt w g2 least r a rules (x0 :: xs) w3) := hR
    obtain ⟨c0, c1, c2, f0, f1, f2, hh⟩ := hR.cw
    clear hR
    go_wp2
    refine bodyPost_ret (v := noCommand) (by simp [noCommand, results, Tryz.results46, go_sem, c0, c1, c2]) rfl ⟨rfl, ow_below HR3.out.below _ _ _⟩
  · go_region_with (go_at_call 61; refine (cF1 _ (by exact ((Below.refl _ _).alloc (Nat.le_refl _) _).drew)).mono ?_; rintro e w3 ⟨rfl, hb3⟩)
    have hR := rdAt HP2.out HA.out (((Below.refl _ _).drew).trans hb3)
    clear cF1 hb3 HP2 HA
    generalize w2.heap.size = g2 at hR ⊢
    have HR3 : Hid (RdAt w g2 least r a rules (x0 :: xs) w3) := hR
    have k0 := hR.pieces 0 x0 rfl
    have hh := hR.here
    clear hR
    go_wp2_with fail
    go_loopw [38] (fun i wr => ∃ k : Nat, k ≤ n - 1 ∧ i = .int .i64 k ∧ RL w3 x0 rules xs k wr) (fun i _ => n - 1 - (intOf i).toNat)
    case atStart => exact ⟨0, by omega, rfl, rl_start _ _ _ _⟩
    case round =>
      obtain ⟨k, hk, rfl, hrl⟩ := hrel
      have hrd := HR3.out.later hrl.below
      have hE' : Errs wr := HE.out.below hrd.below
      obtain ⟨T, Ns, tv, nv, hbx, hgc, hot, hon, hT, hNs, eT, eN⟩ := hrl
      have HT : Hid (T ++ pTexts (rules.drop k) (xs.drop k) = pTexts rules xs) := eT
      have HNs : Hid (Ns ++ pNums (rules.drop k) (xs.drop k) = pNums rules xs) := eN
      have HBX : Hid (Below w3.heap.size w3 wr) := hbx
      have d0 : wr.cell? ⟨w3.heap.size, 0, none⟩ = some (.string x0) := heap_cell hgc 0 rfl
      have d1 : wr.cell? ⟨w3.heap.size, 1, none⟩ = some tv := heap_cell hgc 1 rfl
      have d2 : wr.cell? ⟨w3.heap.size, 2, none⟩ = some nv := heap_cell hgc 2 rfl
      have hszc : w3.heap.size < wr.heap.size := (Array.getElem?_eq_some_iff.1 hgc).1
      have s1 := hrd.s1
      clear eT eN hbx
      by_cases hlt : k < n - 1
      · have klt : (k : Int) < (n - 1 : Nat) := by omega
        obtain ⟨x, hx⟩ : ∃ x, xs[k]? = some x := ⟨_, List.getElem?_eq_getElem (by have := HN.out; simp at this; omega)⟩
        have hfit := HOK.out
        unfold fitsV at hfit
        simp only [Bool.and_eq_true, decide_eq_true_eq] at hfit
        obtain ⟨⟨_, hxr⟩, hpf⟩ := hfit
        have hkr : k < rules.length := by have := HN.out; simp at this; omega
        obtain ⟨⟨b, mo⟩, hr⟩ : ∃ q, rules[k]? = some q := ⟨_, List.getElem?_eq_getElem hkr⟩
        have hal := pFits_at rules xs k b mo x hpf hr hx
        have px : wr.cell? ⟨w.heap.size + 1, 1 + k, none⟩ = some (.string x) := by
          rw [Nat.add_comm 1 k]; exact hrd.pieces (k + 1) x (by simpa using hx)
        have hne : rules ≠ [] := by intro h; rw [h] at hr; simp at hr
        obtain ⟨g, rfl, hg⟩ := hrd.rule.resolve_left hne
        obtain ⟨q1, _⟩ := flat_get rules k b mo hr
        have r1 : wr.cell? ⟨g, k * 2, none⟩ = some (.bool b) := heap_cell hg (k * 2) (by simpa using q1)
        have kln : (k : Int) < r := by have := HR.out; omega
        have hxs : x.size ≤ 281474976710656 := HSZ.out x (List.mem_cons_of_mem _ (List.mem_of_getElem? hx))
        have ST : Hid _ := pTexts_step rules xs k b mo x hr hx
        have SN : Hid _ := pNums_step rules xs k b mo x hr hx
        have HRD : Hid (RdAt w g2 least r (some ⟨g, 0, none⟩) rules (x0 :: xs) wr) := hrd
        clear hrd hpf hxr hkr hne q1 hg hr hx
        cases b
        · clear hal
          obtain ⟨i0, hi, hz0, hz1, hz2⟩ := info_parts infoStr
          go_wp2_with (at_builtin; refine wpList_append_own _ rfl _ _ 37 rfl (w3.heap.size + 1) 9 i0 (.string ByteArray.empty) 1 16 Tryz.underlying37 hi hz0 hz1 hz2 rfl (by decide) _ _ _ rfl (hot.alloc _) ⟨wr.heap.size, 0, none⟩ 1 1 [.string x] rfl rfl (cell_one_new _ _ _) ?c2 ?c3 ?c4 ?c5 ?_)
          case c2 => intro u hu; simp at hu; subst hu; rfl
          case c3 => unfold maxLen; omega
          case c4 => omega
          case c5 => simp <;> omega
          intro v' w5 hown' hgrow _
          have hA : wr.grownBy w5 tv.ownBlock := grown_trans (World.grownBy_alloc wr _ _) hgrow
          clear hgrow
          have hblk := grown_cmd hgc hot hA
          have e1 : w5.cell? ⟨w3.heap.size, 1, none⟩ = some tv := heap_cell hblk 1 rfl
          have f1 := heap_frozen hblk 1
          have HD : Hid (RL w3 x0 rules xs (k + 1) (w5.setCell ⟨w3.heap.size, 1, none⟩ v')) := by
            refine rl_text (T := T ++ [x]) (HBX.out.grown hA (by omega) (fun q hq => by have := own_block_ge hot q hq; omega)) hblk (by simpa using hown') (hon.kept hA (own_apart hon hot (by decide))) (by simp; omega) (by omega) ?_ ?_
            · rw [List.append_assoc, ← HT.out, ST.out]; rfl
            · rw [← HNs.out, SN.out]; rfl
          obtain ⟨g', cap', rfl⟩ := own_slice hown' (by omega)
          clear hblk hA hown' hgc hot hon hE' d0 d1 d2 px s1 r1
          go_wp2
          go_roundw
          case rel => exact ⟨k + 1, by omega, by go_num, HD.out⟩
          case measure => simp [intOf] <;> omega
        · obtain ⟨nn, hnn⟩ := allows_number hal
          obtain ⟨i0, hi, hz0, hz1, hz2⟩ := info_parts infoInt
          have cN := numberOf_c x wr hxs hE'
          rw [hnn] at cN
          have HNN : Hid (P.pNumS x = some nn) := hnn
          clear hal hnn
          have cN' : Calls Tryz.prog 62 #[.string x] wr fun e w4 => e = .returned (.tuple #[.int .i64 nn, .bool true]) ∧ Num4 w3 wr w4 x0 T Ns tv nv := cN.mono fun e w4 ⟨he, hb4⟩ => ⟨he, num4 HBX.out hszc hgc hot hon hb4⟩
          clear hgc hot hon cN hszc d0 d1 d2 hE' HRD HR3 k0
          go_wp2_with (first
            | (go_at_call 62; refine cN'.mono ?_; rintro e w4 ⟨rfl, h4⟩; have m2 := h4.m2; have hszc4 := h4.here)
            | (at_builtin; refine wpList_append_own _ rfl _ _ 49 rfl (w3.heap.size + 1) 3 i0 (.int .i64 0) 1 8 Tryz.underlying49 hi hz0 hz1 hz2 rfl (by decide) _ _ _ rfl (h4.own.alloc _) ⟨w4.heap.size, 0, none⟩ 1 1 [.int .i64 nn] rfl rfl (cell_one_new _ _ _) ?c2 ?c3 ?c4 ?c5 ?_))
          case c2 => intro u hu; simp at hu; subst hu; rfl
          case c3 => unfold maxLen; omega
          case c4 => omega
          case c5 => simp <;> omega
          intro v' w5 hown' hgrow _
          have hA : w4.grownBy w5 nv.ownBlock := grown_trans (World.grownBy_alloc w4 _ _) hgrow
          clear hgrow
          obtain ⟨hB4, hgc4, hot4, hon4, _, _⟩ := h4
          have hblk := grown_cmd hgc4 hon4 hA
          have e2 : w5.cell? ⟨w3.heap.size, 2, none⟩ = some nv := heap_cell hblk 2 rfl
          have f2 := heap_frozen hblk 2
          have HD : Hid (RL w3 x0 rules xs (k + 1) (w5.setCell ⟨w3.heap.size, 2, none⟩ v')) := by
            refine rl_num (Ns := Ns ++ [nn]) (hB4.grown hA (by omega) (fun q hq => by have := own_block_ge hon4 q hq; omega)) hblk (hot4.kept hA (own_apart hot4 hon4 (by decide))) (by simpa [natV] using hown') (by omega) (by simp; omega) ?_ ?_
            · rw [← HT.out, ST.out]; rfl
            · rw [List.append_assoc, ← HNs.out, SN.out, HNN.out]; rfl
          obtain ⟨g', cap', rfl⟩ := own_slice hown' (by omega)
          clear hblk hA hown' hgc4 hot4 hon4 hB4
          go_wp2
          go_roundw
          case rel => exact ⟨k + 1, by omega, by go_num, HD.out⟩
          case measure => simp [intOf] <;> omega
      · obtain rfl : k = n - 1 := by omega
        have c0 := hrd.cw.c0
        have c1 := hrd.cw.c1
        have c2 := hrd.cw.c2
        have f0 := hrd.cw.f0
        have f1 := hrd.cw.f1
        have f2 := hrd.cw.f2
        have HRD : Hid (RdAt w g2 least r a rules (x0 :: xs) wr) := hrd
        clear hrd hE' s1
        have hx0 : xs.drop (n - 1) = [] := List.drop_eq_nil_of_le (by have := HN.out; simp at this; omega)
        have HT' : Hid (T = pTexts rules xs) := by
          show _ = _
          rw [← HT.out, hx0]; cases rules.drop (n - 1) <;> simp [pTexts]
        have HN' : Hid (Ns = pNums rules xs) := by
          show _ = _
          rw [← HNs.out, hx0]; cases rules.drop (n - 1) <;> simp [pNums]
        clear hx0
        obtain ⟨ta, tn, tc, rfl⟩ := own_is_slice hot
        obtain ⟨na, nn, nc, rfl⟩ := own_is_slice hon
        go_wp2
        refine bodyPost_ret (v := .tuple #[.agg #[.string x0, .slice ta tn tc, .slice na nn nc], .bool true]) (by simp [results, Tryz.results46, go_sem, c0, c1, c2]) rfl ?_
        unfold ReadEnd
        rw [← HT'.out, ← HN'.out]
        exact ⟨⟨_, rfl, _, _, rfl, ow_own (by omega) hot, ow_own (by omega) hon⟩, ow_below HRD.out.below _ _ _⟩
end Go.Proofs.YtdpnpcjbjjjceaaGreatDoor
