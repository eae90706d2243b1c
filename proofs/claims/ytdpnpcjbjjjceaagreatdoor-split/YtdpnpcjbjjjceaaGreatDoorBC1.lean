import Derived.Deep.RegionLaw
import Derived.Deep.RegionHeldLaw
import Derived.Test.YtdpnpcjbjjjceaaGreatDoorBG
import Derived.Test.YtdpnpcjbjjjceaaGreatDoorBAns
set_option linter.unusedSimpArgs false
set_option linter.unusedVariables false
namespace Go.Proofs.YtdpnpcjbjjjceaaGreatDoor.S
open Go.RowKit Go.Maps Go.MuLone Go.Proofs.YtdpnpcjbjjjceaaGreatDoor

theorem step_append_ans {P : Program} {ops : Array Oper} {o : Oper} {a : Act} {w : World} {K : Act → World → Prop} {Q : Exit → Act → World → Prop} {E : Prop} (hg : o.guard = none) (s x : Operand) (t tx : TypeId)
    (hop : o.op = Op.call { callee := Callee.builtin Builtin.append, args := #[s, x], argTypes := #[t, tx] })
    (O : Nat → Prop) (e : TypeId) (ht : P.underlying t = some (.slice e)) (hinfo : (P.info? e).map (fun i => (i.zero, i.size, i.bytes)) = some (some (.int .u8 0), 1, 1))
    (v : Value) (hs : a.eval s = v) (l : M.Bytes) (h : AnsAt e O w v l) (xv : Value) (hx : a.eval x = xv) (m : M.Bytes) (hsrc : Src P 1 tx xv m.length (m.map u8) w) (hlen : l.length + m.length ≤ 140737488355328) (hO : O w.heap.size)
    (hK : ∀ (q : Option Addr) (n c : Nat) (w' : World), AnsAt e O w' (.slice q n c) (l ++ m) → Turn O w w' → K (a.put o.dst (.slice q n c)) w') : if Region.wanted o (yielded ops a.tmps) = true then Oper.wp P o a w K Q else E := by
  have hw : Region.wanted o (yielded ops a.tmps) = true := by simp [Region.wanted, hg]
  rw [if_pos hw]
  obtain ⟨i, hi, hzz⟩ := Option.map_eq_some_iff.1 hinfo
  simp only [Prod.mk.injEq] at hzz
  obtain ⟨hz, hs1, hb1⟩ := hzz
  obtain ⟨v', w', hrun, r1, r2⟩ := run_append_ans (P := P) w O t tx o.type e i ht hi hz hs1 hb1 v l h xv m hsrc hlen hO
  unfold Oper.wp
  simp [execOp, hop, resolve, invoke, builtin, hs, hx, hrun, Result.andThen]
  obtain ⟨q, n, c, rfl⟩ := r1.shape
  exact hK q n c w' r1 r2
theorem step_call {P : Program} {ops : Array Oper} {o : Oper} {a : Act} {w : World} {K : Act → World → Prop} {Q : Exit → Act → World → Prop} {E : Prop} (hg : o.guard = none) (f : FuncId) (x1 x2 : Operand) (ts : Array TypeId)
    (hop : o.op = Op.call { callee := Callee.value (Operand.func f), args := #[x1, x2], argTypes := ts }) (v1 v2 : Value) (h1 : a.eval x1 = v1) (h2 : a.eval x2 = v2) (he : (callFunc f #[v1, v2]).run P w = .ok (.enter f #[v1, v2]) w)
    (R : World → Prop) (v : Value) (h : Calls P f #[v1, v2] w fun e w' => e = .returned v ∧ R w') (hK : ∀ w', R w' → K (a.put o.dst v) w') : if Region.wanted o (yielded ops a.tmps) = true then Oper.wp P o a w K Q else E := by
  have hw : Region.wanted o (yielded ops a.tmps) = true := by simp [Region.wanted, hg]
  rw [if_pos hw]
  have hf : a.eval (Operand.func f) = .func (.func f) #[] #[] := rfl
  have hr : (execOp a.eval o).run P w = .ok (.enter f #[v1, v2]) w := by
    unfold execOp
    simp only [hop, resolve, Sem.run_bind, hf, Deferred.ofValue, Sem.run_pure, Result.andThen_ok, List.map_toArray, List.map_cons, List.map_nil, h1, h2, invoke]
    simpa using he
  unfold Oper.wp
  rw [hr, Oper.upon_enter]
  refine h.mono ?_
  rintro e w' ⟨rfl, hr⟩
  exact hK w' hr
theorem infoByte : (Tryz.prog.info? 5).map (fun i => (i.zero, i.size, i.bytes)) = some (some (.int .u8 0), 1, 1) := by kernel_rfl

/-- a connection's cells -/
def cellsC (fv sv : Value) (wt : Int) (nv tv iv rv av : Value) : Array Value := #[fv, sv, .int .i64 wt, nv, tv, iv, rv, av]
/-- at cb lies a connection; O: the blocks of its own -/
structure CB (w : World) (cb : Nat) (O : Nat → Prop) (fv sv : Value) (wt : Int) (nv tv iv rv av : Value) (out : M.Bytes) : Prop where
  cells : w.heap[cb]? = some (.cells (cellsC fv sv wt nv tv iv rv av) 126 (0, 0))
  ans : AnsAt 5 O w av out
  apart : ¬ O cb
  new : ∀ k, w.heap.size ≤ k → O k
def ofConn (cb : Nat) (O : Nat → Prop) (k : Nat) : Prop := k = cb ∨ O k
section
variable {w w' : World} {cb : Nat} {O : Nat → Prop} {fv sv nv tv iv rv av : Value} {wt : Int} {out : M.Bytes}
theorem CB.lt (h : CB w cb O fv sv wt nv tv iv rv av out) : cb < w.heap.size := (Array.getElem?_eq_some_iff.1 h.cells).1
theorem CB.same (h : CB w cb O fv sv wt nv tv iv rv av out) (h1 : w'.heap[cb]? = w.heap[cb]?) (h2 : ∀ k, k < w.heap.size → O k → w'.heap[k]? = w.heap[k]?) (h3 : w.heap.size ≤ w'.heap.size) : CB w' cb O fv sv wt nv tv iv rv av out :=
  ⟨h1.trans h.cells, h.ans.same h2, h.apart, fun k hk => h.new k (Nat.le_trans h3 hk)⟩
theorem CB.below (h : CB w cb O fv sv wt nv tv iv rv av out) (hb : Below w.heap.size w w') : CB w' cb O fv sv wt nv tv iv rv av out :=
  h.same (hb.block _ h.lt) (fun k hk _ => hb.block k hk) hb.size
theorem CB.drew (h : CB w cb O fv sv wt nv tv iv rv av out) : CB w.drew cb O fv sv wt nv tv iv rv av out := h.same rfl (fun _ _ _ => rfl) (Nat.le_refl _)
theorem CB.alloc (h : CB w cb O fv sv wt nv tv iv rv av out) (o : Obj) : CB (w.alloc o) cb O fv sv wt nv tv iv rv av out := h.below ((Below.refl _ _).alloc (Nat.le_refl _) o)
theorem CB.turn {S : Nat → Prop} (h : CB w cb O fv sv wt nv tv iv rv av out) (ht : Turn S w w') (hS : ∀ k, S k → k ≠ cb ∧ ¬ O k) : CB w' cb O fv sv wt nv tv iv rv av out :=
  h.same (ht.block cb h.lt (fun hs => (hS cb hs).1 rfl)) (fun k hk ho => ht.block k hk (fun hs => (hS k hs).2 ho)) ht.size
theorem CB.fz (h : CB w cb O fv sv wt nv tv iv rv av out) (j : Nat) : w.frozen? ⟨cb, j, none⟩ = false := heap_thawed h.cells j
theorem CB.c0 (h : CB w cb O fv sv wt nv tv iv rv av out) : w.cell? ⟨cb, 0, none⟩ = some fv := heap_cell h.cells 0 rfl
theorem CB.c1 (h : CB w cb O fv sv wt nv tv iv rv av out) : w.cell? ⟨cb, 1, none⟩ = some sv := heap_cell h.cells 1 rfl
theorem CB.c2 (h : CB w cb O fv sv wt nv tv iv rv av out) : w.cell? ⟨cb, 2, none⟩ = some (.int .i64 wt) := heap_cell h.cells 2 rfl
theorem CB.c3 (h : CB w cb O fv sv wt nv tv iv rv av out) : w.cell? ⟨cb, 3, none⟩ = some nv := heap_cell h.cells 3 rfl
theorem CB.c4 (h : CB w cb O fv sv wt nv tv iv rv av out) : w.cell? ⟨cb, 4, none⟩ = some tv := heap_cell h.cells 4 rfl
theorem CB.c5 (h : CB w cb O fv sv wt nv tv iv rv av out) : w.cell? ⟨cb, 5, none⟩ = some iv := heap_cell h.cells 5 rfl
theorem CB.c6 (h : CB w cb O fv sv wt nv tv iv rv av out) : w.cell? ⟨cb, 6, none⟩ = some rv := heap_cell h.cells 6 rfl
theorem CB.c7 (h : CB w cb O fv sv wt nv tv iv rv av out) : w.cell? ⟨cb, 7, none⟩ = some av := heap_cell h.cells 7 rfl
/-- a cell of it is written that is not that of the answers -/
theorem CB.set {fv' sv' nv' tv' iv' rv' : Value} {wt' : Int} (h : CB w cb O fv sv wt nv tv iv rv av out) (j : Nat) (v : Value) (hv : (cellsC fv sv wt nv tv iv rv av).setIfInBounds j v = cellsC fv' sv' wt' nv' tv' iv' rv' av) : CB (w.setCell ⟨cb, j, none⟩ v) cb O fv' sv' wt' nv' tv' iv' rv' av out :=
  ⟨(set_here h.cells).trans (by rw [hv]), h.ans.same (fun k _ ho => heap_set_other _ _ _ _ (fun e => h.apart (by rw [← show k = cb from e]; exact ho))), h.apart, fun k hk => h.new k (Nat.le_trans ((Below.refl 0 w).setCell (p := ⟨cb, j, none⟩) (Nat.zero_le _) v).size hk)⟩
/-- the answers have become others -/
theorem CB.answer {av' : Value} {out' : M.Bytes} (h : CB w cb O fv sv wt nv tv iv rv av out) (ht : Turn O w w') (ha : AnsAt 5 O w' av' out') : CB (w'.setCell ⟨cb, 7, none⟩ av') cb O fv sv wt nv tv iv rv av' out' :=
  ⟨(set_here ((ht.block cb h.lt h.apart).trans h.cells)).trans rfl, ha.same (fun k _ ho => heap_set_other _ _ _ _ (fun e => h.apart (by rw [← show k = cb from e]; exact ho))), h.apart, fun k hk => h.new k (Nat.le_trans (Nat.le_trans ht.size ((Below.refl 0 w').setCell (p := ⟨cb, 7, none⟩) (Nat.zero_le _) av').size) hk)⟩
theorem Turn.pre {S : Nat → Prop} {a b : World} (h : Turn S a.drew b) : Turn S a b := ⟨h.os, h.tape, h.output, h.size, h.block⟩
theorem turnC {w0 : World} (h : Turn (ofConn cb O) w0 w) (j : Nat) (v : Value) : Turn (ofConn cb O) w0 (w.setCell ⟨cb, j, none⟩ v) := h.setCell (p := ⟨cb, j, none⟩) (Or.inl (Or.inl rfl)) v
end

def cellAt (w : World) (g j : Nat) : Value := (w.cell? ⟨g, j, none⟩).getD (.bool false)
/-- the connection's block, whatever it holds -/
structure CK (w0 : World) (cb : Nat) (w : World) : Prop where
  blk : ∃ a, w.heap[cb]? = some (.cells a 126 (0, 0)) ∧ a.size = 8
  old : cb < w0.heap.size
section
variable {w0 w w' : World} {cb : Nat} {O : Nat → Prop} {fv sv nv tv iv rv av : Value} {wt : Int} {out : M.Bytes}
theorem CB.k (h : CB w cb O fv sv wt nv tv iv rv av out) : CK w cb w := ⟨⟨_, h.cells, rfl⟩, h.lt⟩
theorem CK.drew (h : CK w0 cb w) : CK w0 cb w.drew := ⟨h.blk, h.old⟩
theorem CK.lt (h : CK w0 cb w) : cb < w.heap.size := by
  obtain ⟨a, h1, _⟩ := h.blk
  exact (Array.getElem?_eq_some_iff.1 h1).1
theorem CK.turn {S : Nat → Prop} (h : CK w0 cb w) (ht : Turn S w w') (hS : ¬ S cb) : CK w0 cb w' := by
  obtain ⟨a, h1, h2⟩ := h.blk
  exact ⟨⟨a, (ht.block cb h.lt hS).trans h1, h2⟩, h.old⟩
theorem CK.below (h : CK w0 cb w) (hb : Below w.heap.size w w') : CK w0 cb w' := h.turn (S := fun _ => False) (Turn.ofBelow hb) (fun h => h)
theorem CK.alloc (h : CK w0 cb w) (o : Obj) : CK w0 cb (w.alloc o) := h.below ((Below.refl _ _).alloc (Nat.le_refl _) o)
theorem CK.set (h : CK w0 cb w) (j : Nat) (v : Value) : CK w0 cb (w.setCell ⟨cb, j, none⟩ v) := by
  obtain ⟨a, h1, h2⟩ := h.blk
  exact ⟨⟨_, set_here h1, by simpa using h2⟩, h.old⟩
theorem CK.s (h : CK w0 cb w) : w.cell? ⟨cb, 7, none⟩ = some (cellAt w cb 7) ∧ w.frozen? ⟨cb, 7, none⟩ = false ∧ CK w0 cb w := by
  obtain ⟨a, h1, h2⟩ := h.blk
  refine ⟨?_, heap_thawed h1 7, h⟩
  unfold cellAt
  rw [heap_cell h1 7 (Array.getElem?_eq_getElem (by omega))]; rfl
theorem CB.at7 (h : CB w cb O fv sv wt nv tv iv rv av out) : cellAt w cb 7 = av := by unfold cellAt; rw [h.c7]; rfl
end

def sayOut (out : M.Bytes) (xs : List ByteArray) : M.Bytes := out ++ (Lib.join (xs.map (·.data.toList)) [32] ++ [10])
set_option maxRecDepth 20000 in
theorem say_c (w : World) (cb : Nat) (O : Nat → Prop) (fv sv nv tv iv rv av : Value) (wt : Int) (out : M.Bytes) (h : CB w cb O fv sv wt nv tv iv rv av out) (g n : Nat) (xs : List ByteArray) (hn : xs.length = n) (hg : g < w.heap.size)
    (hcells : ∀ (j : Nat) x, xs[j]? = some x → w.cell? ⟨g, 0 + j, none⟩ = some (.string x)) (hlen : (sayOut out xs).length ≤ 140737488355328) (hn2 : n ≤ 1000) :
    Calls Tryz.prog 120 #[.pointer (some ⟨cb, 0, none⟩), .slice (some ⟨g, 0, none⟩) n n] w fun e w' => e = .returned (.tuple #[]) ∧ ∃ av', CB w' cb O fv sv wt nv tv iv rv av' (sayOut out xs) ∧ Turn (ofConn cb O) w w' := by
  have hcb := h.lt
  have c7 := h.c7
  have f7 := h.fz 7
  have HCB := Hid.of h
  obtain ⟨J, hJ⟩ : ∃ J, J = Lib.join (xs.map (·.data.toList)) [32] := ⟨_, rfl⟩
  have hl : out.length + J.length + 1 ≤ 140737488355328 := by
    unfold sayOut at hlen
    rw [← hJ] at hlen
    simp only [List.length_append, List.length_cons, List.length_nil] at hlen
    omega
  have cJ : Hid (Calls Tryz.prog 165 #[.slice (some ⟨g, 0, none⟩) n n, .string ⟨#[32]⟩] w.drew fun e w' => e = .returned (.string ⟨J.toArray⟩) ∧ Below w.drew.heap.size w.drew w') := by
    have := Tryz.strings_Join g 0 n xs ⟨#[32]⟩ w.drew (by simpa using hcells) hg (by omega) (by omega) (by show (Lib.join (xs.map (·.data.toList)) [32]).length ≤ _; rw [← hJ]; omega)
    rw [hn] at this
    rw [hJ]
    exact this
  obtain ⟨R, hR⟩ : ∃ R, R = sayOut out xs := ⟨_, rfl⟩
  have HR : Hid (R = (out ++ J) ++ [10]) := by show _ = _; rw [hR, hJ]; unfold sayOut; rw [List.append_assoc]
  rw [← hR]
  clear h hcells hlen hn hJ hR
  go_enter Tryz.func120, Tryz.ntmps120
  go_wp2_with fail
  go_region_law (first
    | (refine step_call rfl 165 _ _ _ rfl (.slice (some ⟨g, 0, none⟩) n n) (.string ⟨#[32]⟩) (by simp [Act.eval, Act.put]) (by simp [Act.eval, Act.put]) (enters_of Tryz.func165 (by kernel_rfl) rfl _ _) _ _ cJ.out ?_; intro w2 hb2; have hC2 := HCB.out.drew.below hb2; have c72 := hC2.c7; have f72 := hC2.fz 7; have HC2 := Hid.of hC2; have HB2 := Hid.of hb2; clear hC2 hb2)
    | (refine step_append_ans rfl _ _ 63 9 rfl O 5 Tryz.underlying63 infoByte av (by simp [Act.eval, Act.put]) out HC2.out.ans (.string ⟨J.toArray⟩) (by simp [Act.eval, Act.put]) J (src_text _ Tryz.underlying9 J) (by omega) (HC2.out.new _ (Nat.le_refl _)) ?_; intro q3 n3 m3 w3 hA3 hT3; have c73 : w3.cell? ⟨cb, 7, none⟩ = some av := (World.cell?_of_block (a := ⟨cb, 7, none⟩) (hT3.block cb HC2.out.lt HC2.out.apart)).trans HC2.out.c7; have f73 : w3.frozen? ⟨cb, 7, none⟩ = false := (World.frozen?_of_block (a := ⟨cb, 7, none⟩) (hT3.block cb HC2.out.lt HC2.out.apart)).trans (HC2.out.fz 7)))
  all_goals
    have hC3 : CB (w3.setCell ⟨cb, 7, none⟩ (.slice q3 n3 m3)) cb O fv sv wt nv tv iv rv (.slice q3 n3 m3) (out ++ J) := HC2.out.answer hT3 hA3
    have HT3 : Hid (Turn (ofConn cb O) w (w3.setCell ⟨cb, 7, none⟩ (.slice q3 n3 m3))) := turnC (((Turn.ofBelow HB2.out : Turn (ofConn cb O) w.drew w2).trans (hT3.mono (fun k _ ho => Or.inr ho))).pre) 7 _
    clear c7 f7 c72 f72 c73 f73
    generalize World.setCell w3 _ _ = w4 at hC3 HT3 ⊢
    have c74 := hC3.c7
    have f74 := hC3.fz 7
    have HC3 := Hid.of hC3
    clear hC3
    go_wp2_with (at_builtin; refine wpList_append_ans _ rfl _ _ 63 63 rfl O 5 Tryz.underlying63 infoByte (.slice q3 n3 m3) rfl (out ++ J) (HC3.out.alloc _).ans _ rfl [10] (src_byte _ Tryz.underlying63 ⟨w4.heap.size, 0, none⟩ 1 10 (heap_cell (alloc_here _ _) 0 rfl)) (by simp; omega) ((HC3.out.alloc _).new _ (Nat.le_refl _)) ?_; intro q5 n5 m5 w5 hA5 hT5; have c75 : w5.cell? ⟨cb, 7, none⟩ = some (.slice q3 n3 m3) := (World.cell?_of_block (a := ⟨cb, 7, none⟩) (hT5.block cb (HC3.out.alloc _).lt HC3.out.apart)).trans (HC3.out.alloc _).c7; have f75 : w5.frozen? ⟨cb, 7, none⟩ = false := (World.frozen?_of_block (a := ⟨cb, 7, none⟩) (hT5.block cb (HC3.out.alloc _).lt HC3.out.apart)).trans ((HC3.out.alloc _).fz 7))
    go_end0
    refine ⟨rfl, .slice q5 n5 m5, ?_, turnC ((HT3.out.alloc _).trans (hT5.mono (fun k _ ho => Or.inr ho))) 7 _⟩
    rw [HR.out]
    exact (HC3.out.alloc _).answer hT5 hA5
end Go.Proofs.YtdpnpcjbjjjceaaGreatDoor.S
