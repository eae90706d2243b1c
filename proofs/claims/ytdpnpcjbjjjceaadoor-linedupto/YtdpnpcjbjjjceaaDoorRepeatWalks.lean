import Derived.Test.YtdpnpcjbjjjceaaDoorCasWalks
import Derived.Laws.CopyOwn
import Derived.Deep.RegionLaw
import Derived.Deep.DeepMust
set_option linter.unusedSimpArgs false
set_option linter.unusedVariables false
namespace Go.Proofs.YtdpnpcjbjjjceaaDoor
open Go.RowKit Go.Builtin

theorem run_copy_wide {P : Program} (sz : Nat) (w : World) (dT sT ty elem : TypeId) (g o dLen dCap : Nat) (a : Addr) (sLen sCap : Nat) (cur : Array Value) (t : TypeId) (cs : List Value)
    (hu : P.underlying dT = some (.slice elem)) (hs : (P.info? elem).map (·.size) = some sz)
    (hg : w.heap[g]? = some (.cells cur t (0, 0))) (hn : cs.length = Nat.min sLen dLen * sz)
    (hsrc : ∀ j v, cs[j]? = some v → w.cell? (a.add j) = some v) (hfit : o + cs.length ≤ cur.size) (h1 : ∀ v ∈ cs, v.oneCell' = true) :
    (Builtin.copy_ #[dT, sT] ty #[.slice (some ⟨g, o, none⟩) dLen dCap, .slice (some a) sLen sCap]).run P w =
      .ok (goInt (Nat.min sLen dLen : Nat)) (w.setRow g (cur.toList.take o ++ cs ++ cur.toList.drop (o + cs.length)).toArray) := by
  have hl := run_loadCells_list (P := P) w a cs hsrc
  have hst := run_storeCells_at P g o t cs 0 cur w hg (by simpa using hfit) h1
  cases hq : P.info? elem with
  | none => simp [hq] at hs
  | some i =>
    have hi : i.size = sz := by simpa [hq] using hs
    simp [Builtin.copy_, run_underlying hu, Builtin.lenOf, Builtin.firstCells, sizeOf, typeInfo, hq, hi, ← hn, hl, hst]

theorem wpList_copy_wide {P : Program} (sz : Nat) {w : World} {ops : Array Oper} {rest : List Oper} {o : Oper} {a : Act} {Q : Exit → Act → World → Prop} (hgd : o.guard = none) (d s : Operand) (dT sT : TypeId)
    (ho : o.op = .call { callee := .builtin .copy, args := #[d, s], argTypes := #[dT, sT] }) (elem : TypeId) (hu : P.underlying dT = some (.slice elem)) (hsz : (P.info? elem).map (·.size) = some sz)
    (g off dLen dCap : Nat) (ad : Addr) (sLen sCap : Nat) (hd : a.eval d = .slice (some ⟨g, off, none⟩) dLen dCap) (hs : a.eval s = .slice (some ad) sLen sCap)
    (cur : List Value) (t : TypeId) (hg : w.heap[g]? = some (.cells cur.toArray t (0, 0))) (cs : List Value) (hn : cs.length = Nat.min sLen dLen * sz)
    (hsrc : ∀ j v, cs[j]? = some v → w.cell? (ad.add j) = some v) (hfit : off + cs.length ≤ cur.length) (h1 : ∀ v ∈ cs, v.oneCell' = true) (B : Nat) (w0 : World) (hb : Below B w0 w) (hBg : B ≤ g)
    (h : ∀ w', Hid (w'.heap[g]? = some (.cells (splice cur off cs).toArray t (0, 0))) → Below B w0 w' → wpList P ops Q rest (a.put o.dst (goInt (Nat.min sLen dLen : Nat))) w') :
    wpList P ops Q (o :: rest) a w := by
  refine wpList_plain hgd fun K hK => ?_
  have hrun := run_copy_wide (P := P) sz w dT sT o.type elem g off dLen dCap ad sLen sCap cur.toArray t cs hu hsz hg hn hsrc (by simpa using hfit) h1
  unfold Oper.wp
  simp [execOp, ho, resolve, invoke, builtin, hd, hs, hrun, Result.andThen]
  refine hK _ _ (h _ (show _ = _ by simpa [splice] using setRow_heap w g _ _ t _ hg) (below_setRow hb hBg _))
theorem step_copy_wide {P : Program} (sz : Nat) {ops : Array Oper} {o : Oper} {a : Act} {w : World} {K : Act → World → Prop} {Q : Exit → Act → World → Prop} {E : Prop} (hgd : o.guard = none) (d s : Operand) (dT sT : TypeId)
    (ho : o.op = .call { callee := .builtin .copy, args := #[d, s], argTypes := #[dT, sT] }) (elem : TypeId) (hu : P.underlying dT = some (.slice elem)) (hsz : (P.info? elem).map (·.size) = some sz)
    (g off dLen dCap : Nat) (ad : Addr) (sLen sCap : Nat) (hd : a.eval d = .slice (some ⟨g, off, none⟩) dLen dCap) (hs : a.eval s = .slice (some ad) sLen sCap)
    (cur : List Value) (t : TypeId) (hg : w.heap[g]? = some (.cells cur.toArray t (0, 0))) (cs : List Value) (hn : cs.length = Nat.min sLen dLen * sz)
    (hsrc : ∀ j v, cs[j]? = some v → w.cell? (ad.add j) = some v) (hfit : off + cs.length ≤ cur.length) (h1 : ∀ v ∈ cs, v.oneCell' = true) (B : Nat) (w0 : World) (hb : RowKit.Below B w0 w) (hBg : B ≤ g)
    (h : ∀ w', RowKit.Hid (w'.heap[g]? = some (.cells (splice cur off cs).toArray t (0, 0))) → RowKit.Below B w0 w' → K (a.put o.dst (goInt (Nat.min sLen dLen : Nat))) w') :
    if Region.wanted o (yielded ops a.tmps) = true then Oper.wp P o a w K Q else E := by
  have hw : Region.wanted o (yielded ops a.tmps) = true := by simp [Region.wanted, hgd]
  rw [if_pos hw]
  have hrun := run_copy_wide (P := P) sz w dT sT o.type elem g off dLen dCap ad sLen sCap cur.toArray t cs hu hsz hg hn hsrc (by simpa using hfit) h1
  unfold Oper.wp
  simp [execOp, ho, resolve, invoke, builtin, hd, hs, hrun, Result.andThen]
  exact h _ (show _ = _ by simpa [splice] using setRow_heap w g _ _ t _ hg) (below_setRow hb hBg _)

def K2 : List Value := [.bool false, .int .i64 20]
def Z2 : List Value := [.bool false, .int .i64 0]
def cellsK (k : Nat) : List Value := (List.replicate k K2).flatten ++ (List.replicate (10 - k) Z2).flatten
theorem infoRule : (Tryd.prog.info? 39).map (·.size) = some 2 := by kernel_rfl
theorem cellsK_src {w : World} {g k : Nat} (h : w.heap[g]? = some (.cells (cellsK k).toArray 39 (0, 0))) (n : Nat) (hn : (cellsK k).take n = (List.replicate (n / 2) K2).flatten) :
    ∀ j v, ((List.replicate (n / 2) K2).flatten)[j]? = some v → w.cell? ((⟨g, 0, none⟩ : Addr).add j) = some v := by
  intro j v hj
  rw [← hn, List.getElem?_take] at hj
  split at hj
  · have := heap_cell h j (by simpa using hj)
    have e : (⟨g, 0, none⟩ : Addr).add j = ⟨g, j, none⟩ := by
      by_cases h0 : j = 0
      · subst h0; rfl
      · simp [Addr.add, h0]
    rw [e]; exact this
  · cases hj
theorem one_K (n : Nat) : ∀ v ∈ (List.replicate n K2).flatten, v.oneCell' = true := by
  intro v hv
  rw [List.mem_flatten] at hv
  obtain ⟨l, hl, hv⟩ := hv
  rw [List.eq_of_mem_replicate hl] at hv
  simp [K2] at hv
  rcases hv with rfl | rfl <;> rfl

theorem src_x {w : World} {bx : Nat} (h : w.heap[bx]? = some (.cells #[.bool false, .int .i64 20] 39 (0, 0))) {o : Obj} : ∀ j v, K2[j]? = some v → (w.alloc o).cell? ((⟨bx, 0, none⟩ : Addr).add j) = some v := by
  intro j v hj
  refine cell_alloc_keep ?_
  match j, hj with
  | 0, hj => exact heap_cell h 0 (by simpa [K2] using hj)
  | 1, hj => exact heap_cell h 1 (by simpa [K2] using hj)
  | (j + 2), hj => simp [K2] at hj
theorem below_drewish {B : Nat} {a w : World} (h : Below B a w) : Below B a w.drew := h.drew
theorem copy_round {w wr : World} (k m nx : Nat) (hg : wr.heap[w.heap.size]? = some (.cells (cellsK k).toArray 39 (0, 0))) (hb : Below w.heap.size w wr)
    (h1 : ((List.replicate m K2).flatten).length = Nat.min k (10 - k) * 2) (h2 : k * 2 + ((List.replicate m K2).flatten).length ≤ (cellsK k).length)
    (h3 : (cellsK k).take (2 * m) = (List.replicate (2 * m / 2) K2).flatten) (h4 : splice (cellsK k) (k * 2) ((List.replicate m K2).flatten) = cellsK nx) :
    ∃ W2, (Builtin.copy_ #[32, 32] 3 #[.slice (some ⟨w.heap.size, k * 2, none⟩) (10 - k) (10 - k), .slice (some ⟨w.heap.size, 0, none⟩) k 10]).run Tryd.prog wr.drew = .ok (goInt (Nat.min k (10 - k) : Nat)) W2 ∧
      Hid (W2.heap[w.heap.size]? = some (.cells (cellsK nx).toArray 39 (0, 0))) ∧ Below w.heap.size w W2 := by
  have e : 2 * m / 2 = m := by omega
  have hsrc := cellsK_src (w := wr.drew) hg (2 * m) h3
  rw [e] at hsrc
  refine ⟨_, run_copy_wide (P := Tryd.prog) 2 wr.drew 32 32 3 39 w.heap.size (k * 2) (10 - k) (10 - k) ⟨w.heap.size, 0, none⟩ k 10 (cellsK k).toArray 39 ((List.replicate m K2).flatten) Tryd.underlying32 infoRule hg h1 hsrc (by simpa using h2) (one_K m), ?_, below_setRow hb.drew (Nat.le_refl _) _⟩
  have := setRow_heap wr.drew w.heap.size (cellsK k).toArray ((cellsK k).toArray.toList.take (k * 2) ++ (List.replicate m K2).flatten ++ (cellsK k).toArray.toList.drop (k * 2 + ((List.replicate m K2).flatten).length)).toArray 39 (0, 0) hg
  show _ = _
  rw [this, ← h4]
  simp [splice]
theorem mul_c (W : World) : Calls Tryd.prog 28 #[.int .u64 1, .int .u64 10] W fun e w' => e = .returned (.tuple #[.int .u64 0, .int .u64 10]) ∧ w' = W :=
  (Tryd.bits_Mul 1 10 (by decide) (by decide) W).mono fun e w' ⟨he, hw⟩ => ⟨he, hw⟩

set_option maxRecDepth 100000 in
set_option maxHeartbeats 400000 in
theorem repeat_c (bx : Nat) (w : World) (hx : w.heap[bx]? = some (.cells #[.bool false, .int .i64 20] 39 (0, 0))) :
    Calls Tryd.prog 21 #[.slice (some ⟨bx, 0, none⟩) 1 1, .int .i64 10] w fun e w' => e = .returned (.slice (some ⟨w.heap.size, 0, none⟩) 10 10) ∧ w'.heap[w.heap.size]? = some (.cells (cellsK 10).toArray 39 (0, 0)) ∧ Below w.heap.size w w' := by
  have hbx : bx < w.heap.size := (Array.getElem?_eq_some_iff.1 hx).1
  have hmk : ∀ w : World, (Instr.makeSlice 32 (.int .i64 10) (.int .i64 10)).run Tryd.prog w = .ok (.slice (some ⟨w.heap.size, 0, none⟩) 10 10) (w.alloc (.cells (cellsK 0).toArray 39)) := fun _ => by kernel_rfl
  obtain ⟨W2, hcp, hg2, hb2⟩ : ∃ W2, (Builtin.copy_ #[32, 32] 3 #[.slice (some ⟨w.heap.size, 0, none⟩) 10 10, .slice (some ⟨bx, 0, none⟩) 1 1]).run Tryd.prog (w.alloc (.cells (cellsK 0).toArray 39)) = .ok (.int .i64 1) W2 ∧
      Hid (W2.heap[w.heap.size]? = some (.cells (cellsK 1).toArray 39 (0, 0))) ∧ Below w.heap.size w W2 := by
    have h0 : (w.alloc (.cells (cellsK 0).toArray 39)).heap[w.heap.size]? = some (.cells (cellsK 0).toArray 39 (0, 0)) := alloc_at _ _ _ rfl
    exact ⟨_, run_copy_wide (P := Tryd.prog) 2 (w.alloc (.cells (cellsK 0).toArray 39)) 32 32 3 39 w.heap.size 0 10 10 ⟨bx, 0, none⟩ 1 1 (cellsK 0).toArray 39 K2 Tryd.underlying32 infoRule h0 rfl (src_x hx) (by decide) (one_K 1),
      setRow_heap _ _ _ _ _ _ h0, below_setRow ((Below.refl _ _).alloc (Nat.le_refl _) _) (Nat.le_refl _) _⟩
  have HX : Hid (w.heap[bx]? = some (.cells #[.bool false, .int .i64 20] 39 (0, 0))) := hx
  clear hx
  go_enter Tryd.func21, Tryd.ntmps21
  go_wp2_with (go_at_call 28; refine (mul_c _).mono ?_; rintro e w1 ⟨rfl, hw⟩; rw [hw]; clear hw)
  go_loopw [8] (fun n wx => ∃ k : Nat, (k = 1 ∨ k = 2 ∨ k = 4 ∨ k = 8 ∨ k = 10) ∧ n = .int .i64 k ∧ Hid (wx.heap[w.heap.size]? = some (.cells (cellsK k).toArray 39 (0, 0))) ∧ Below w.heap.size w wx) (fun n _ => 10 - (intOf n).toNat)
  case atStart => exact ⟨1, Or.inl rfl, rfl, hg2, hb2⟩
  case round =>
    obtain ⟨k, hk, rfl, hg, hbx⟩ := hrel
    rcases hk with rfl | rfl | rfl | rfl | rfl
    · obtain ⟨W4, hcq, hg4, hb4⟩ := copy_round (w := w) (wr := wr) 1 1 2 hg.out hbx rfl (by decide) rfl rfl
      go_wp2_with fail
      go_region
      go_wp2
      go_roundw
      case rel => exact ⟨2, by decide, rfl, hg4, hb4⟩
      case measure => simp [intOf]
    · obtain ⟨W4, hcq, hg4, hb4⟩ := copy_round (w := w) (wr := wr) 2 2 4 hg.out hbx rfl (by decide) rfl rfl
      go_wp2_with fail
      go_region
      go_wp2
      go_roundw
      case rel => exact ⟨4, by decide, rfl, hg4, hb4⟩
      case measure => simp [intOf]
    · obtain ⟨W4, hcq, hg4, hb4⟩ := copy_round (w := w) (wr := wr) 4 4 8 hg.out hbx rfl (by decide) rfl rfl
      go_wp2_with fail
      go_region
      go_wp2
      go_roundw
      case rel => exact ⟨8, by decide, rfl, hg4, hb4⟩
      case measure => simp [intOf]
    · obtain ⟨W4, hcq, hg4, hb4⟩ := copy_round (w := w) (wr := wr) 8 2 10 hg.out hbx rfl (by decide) rfl rfl
      go_wp2_with fail
      go_region
      go_wp2
      go_roundw
      case rel => exact ⟨10, by decide, rfl, hg4, hb4⟩
      case measure => simp [intOf]
    · go_wp2
      go_ret
      exact ⟨rfl, hg.out, hbx⟩
end Go.Proofs.YtdpnpcjbjjjceaaDoor
