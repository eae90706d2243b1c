import Derived.Deep.AppendSrc
import Derived.Deep.Upon
import Derived.Test.YtdpnpcjbjjjceaaGreatDoorBTurn
set_option linter.unusedSimpArgs false
set_option linter.unusedVariables false
namespace Go.Proofs.YtdpnpcjbjjjceaaGreatDoor.S
open Go.RowKit Go.Maps Go.MuLone Go.Proofs.YtdpnpcjbjjjceaaGreatDoor

def u8 (b : UInt8) : Value := .int .u8 b.toNat
/-- v: a slice of just these bytes, nil or in a block of which O holds -/
def AnsAt (e : TypeId) (O : Nat → Prop) (w : World) (v : Value) (l : M.Bytes) : Prop :=
  (v = .slice none 0 0 ∧ l = []) ∨ ∃ g off cap cur, v = .slice (some ⟨g, off, none⟩) l.length cap ∧ O g ∧ w.heap[g]? = some (.cells cur e (0, 0)) ∧ l.length ≤ cap ∧ off + cap ≤ cur.size ∧ cap ≤ maxLen ∧ ∀ j b, l[j]? = some b → cur[off + j]? = some (u8 b)
theorem AnsAt.same {e : TypeId} {O : Nat → Prop} {w w' : World} {v : Value} {l : M.Bytes} (h : AnsAt e O w v l) (hk : ∀ k, k < w.heap.size → O k → w'.heap[k]? = w.heap[k]?) : AnsAt e O w' v l := by
  rcases h with h | ⟨g, off, cap, cur, h1, h2, h3, r⟩
  · exact Or.inl h
  · exact Or.inr ⟨g, off, cap, cur, h1, h2, (hk g (Array.getElem?_eq_some_iff.1 h3).1 h2).trans h3, r⟩
theorem AnsAt.shape {e : TypeId} {O : Nat → Prop} {w : World} {v : Value} {l : M.Bytes} (h : AnsAt e O w v l) : ∃ q n c, v = .slice q n c := by
  rcases h with ⟨rfl, _⟩ | ⟨g, off, cap, cur, rfl, _⟩
  · exact ⟨_, _, _, rfl⟩
  · exact ⟨_, _, _, rfl⟩
theorem setCells_here {e : TypeId} (g : Nat) : ∀ (vs : List Value) (o : Nat) (w : World) (cur : Array Value), w.heap[g]? = some (.cells cur e (0, 0)) →
    ∃ cur', (w.setCells g o vs).heap[g]? = some (.cells cur' e (0, 0)) ∧ cur'.size = cur.size ∧ ∀ j, cur'[j]? = if o ≤ j ∧ j < o + vs.length ∧ j < cur.size then vs[j - o]? else cur[j]?
  | [], o, w, cur, h => ⟨cur, h, rfl, fun j => by
      rw [if_neg]
      simp only [List.length_nil]; omega⟩
  | v :: r, o, w, cur, h => by
    obtain ⟨cur', h1, h2, h3⟩ := setCells_here g r (o + 1) (w.setCell ⟨g, o, none⟩ v) (cur.setIfInBounds o v) (set_here h)
    refine ⟨cur', h1, h2.trans (by simp), fun j => ?_⟩
    rw [h3 j, Array.size_setIfInBounds, List.length_cons]
    by_cases hj : o = j
    · subst hj
      rw [if_neg (by omega), Array.getElem?_setIfInBounds, if_pos rfl]
      by_cases hb : o < cur.size
      · rw [if_pos hb, if_pos ⟨by omega, by omega, hb⟩, Nat.sub_self]; rfl
      · rw [if_neg hb, if_neg (by omega), Array.getElem?_eq_none (by omega)]
    · rw [Array.getElem?_setIfInBounds, if_neg hj]
      by_cases hc : o + 1 ≤ j ∧ j < o + 1 + r.length ∧ j < cur.size
      · rw [if_pos hc, if_pos ⟨by omega, by omega, hc.2.2⟩, show j - o = (j - (o + 1)) + 1 by omega, List.getElem?_cons_succ]
      · rw [if_neg hc, if_neg (by omega)]
theorem setCells_turn {O : Nat → Prop} (g : Nat) (hO : O g) : ∀ (vs : List Value) (o : Nat) (w : World), Turn O w (w.setCells g o vs)
  | [], _, w => Turn.refl _ _
  | v :: r, o, w => ((Turn.refl O w).setCell (p := ⟨g, o, none⟩) (Or.inl hO) v).trans (setCells_turn g hO r (o + 1) _)

theorem run_append_ans {P : Program} (w : World) (O : Nat → Prop) (t tx ty e : TypeId) (i : TypeInfo) (ht : P.underlying t = some (.slice e)) (hi : P.info? e = some i) (hz : i.zero = some (.int .u8 0)) (hsize : i.size = 1) (hby : i.bytes = 1)
    (v : Value) (l : M.Bytes) (h : AnsAt e O w v l) (x : Value) (m : M.Bytes) (hs : Src P 1 tx x m.length (m.map u8) w) (hlen : l.length + m.length ≤ 140737488355328) (hO : O w.heap.size) :
    ∃ v' w', (Builtin.append_ #[t, tx] ty #[v, x]).run P w = .ok v' w' ∧ AnsAt e O w' v' (l ++ m) ∧ Turn O w w' := by
  have hs' : Src P i.size tx x m.length (m.map u8) w := by rw [hsize]; exact hs
  by_cases hm : m = []
  · subst hm
    rw [List.append_nil]
    rcases h with ⟨rfl, rfl⟩ | ⟨g, off, cap, cur, rfl, h2, h3, h4, r⟩
    · exact ⟨_, w, run_append_nothing w t tx ty e i ht hi none 0 0 (Nat.le_refl _) x hs', Or.inl ⟨rfl, rfl⟩, Turn.refl _ _⟩
    · exact ⟨_, w, run_append_nothing w t tx ty e i ht hi _ _ _ h4 x hs', Or.inr ⟨g, off, cap, cur, rfl, h2, h3, h4, r⟩, Turn.refl _ _⟩
  have hm1 : 0 < m.length := List.length_pos_iff.2 hm
  have grow : ∀ (base : Option Addr) (sCap : Nat), sCap < l.length + m.length → (Builtin.firstCells i.size l.length (.slice base l.length sCap)).run P w.drew = .ok (l.map u8).toArray w.drew →
      ∃ v' w', (Builtin.append_ #[t, tx] ty #[.slice base l.length sCap, x]).run P w = .ok v' w' ∧ AnsAt e O w' v' (l ++ m) ∧ Turn O w w' := by
    intro base sCap hg hold
    refine ⟨_, _, run_append_grow_src w t tx ty e i _ ht hi hz base l.length sCap (l.map u8) hold x m.length (m.map u8) hs' hg (by omega) (growslice_fits hg (by rw [hby]; omega)), ?_, ((Turn.refl O w).drew).alloc _⟩
    obtain ⟨C, hC⟩ : ∃ C, C = grownCap w (l.length + m.length) sCap e := ⟨_, rfl⟩
    have hge : l.length + m.length ≤ C := hC ▸ grownCap_ge w _ _ e
    have hle : C ≤ maxLen := hC ▸ grownCap_le_maxLen w _ _ e (by unfold maxLen; omega)
    rw [← hC]
    refine Or.inr ⟨w.heap.size, 0, C, _, by rw [List.length_append], hO, alloc_here w.drew _, by rw [List.length_append]; exact hge, ?_, hle, ?_⟩
    · rw [Array.size_append, size_zeroCells]
      simp only [List.size_toArray, List.length_append, List.length_map, Value.cells]
      simp only [Array.size_singleton, List.size_toArray, List.length_singleton]
      omega
    · intro j b hj
      have hjl : j < (l ++ m).length := (List.getElem?_eq_some_iff.1 hj).1
      rw [Nat.zero_add, Array.getElem?_append_left (by simp only [List.size_toArray, List.length_append, List.length_map]; simpa using hjl), List.getElem?_toArray, ← List.map_append, List.getElem?_map, hj]
      rfl
  rcases h with ⟨rfl, rfl⟩ | ⟨g, off, cap, cur, rfl, h2, h3, h4, h5, h6, h7⟩
  · exact grow none 0 (by simpa using hm1) (by simpa using run_firstCells_none w.drew i.size 0 0 0)
  · have hcell : ∀ j, off + j < cur.size → (w.cell? ⟨g, off + j, none⟩).isSome = true := by
      intro j hj
      rw [heap_cell h3 (off + j) (Array.getElem?_eq_getElem hj)]; rfl
    by_cases hroom : l.length + m.length ≤ cap
    · refine ⟨_, _, run_append_room_src w t tx ty e i ht hi g off l.length cap x m.length (m.map u8) hs' hroom ?_ ?_, ?_, setCells_turn g h2 _ _ _⟩
      · intro j hj
        rw [List.length_map] at hj
        rw [hsize, Nat.mul_one, Nat.add_assoc]
        exact hcell _ (by omega)
      · intro j _
        exact heap_thawed h3 _
      · obtain ⟨cur', k1, k2, k3⟩ := setCells_here g (m.map u8) (off + l.length * i.size) w cur h3
        refine Or.inr ⟨g, off, cap, cur', by rw [List.length_append], h2, k1, by rw [List.length_append]; exact hroom, by rw [k2]; exact h5, h6, ?_⟩
        intro j b hj
        rw [k3, hsize, Nat.mul_one, List.length_map]
        have hjl : j < (l ++ m).length := (List.getElem?_eq_some_iff.1 hj).1
        rw [List.length_append] at hjl
        by_cases hjl2 : j < l.length
        · rw [if_neg (by omega)]
          rw [List.getElem?_append_left hjl2] at hj
          exact h7 j b hj
        · rw [if_pos ⟨by omega, by omega, by omega⟩, show off + j - (off + l.length) = j - l.length by omega, List.getElem?_map]
          rw [List.getElem?_append_right (by omega)] at hj
          rw [hj]; rfl
    · refine grow _ cap (by omega) ?_
      refine run_firstCells_some w.drew i.size l.length ⟨g, off, none⟩ l.length cap (l.map u8) (by rw [hsize, List.length_map, Nat.mul_one]) ?_
      intro j u hj
      rw [List.getElem?_map] at hj
      obtain ⟨b, hb, rfl⟩ := Option.map_eq_some_iff.1 hj
      have hc := heap_cell (w := w.drew) (g := g) h3 (off + j) (h7 j b hb)
      rw [Addr.add_lit]
      exact hc

theorem wpList_append_ans {P : Program} (w : World) {ops : Array Oper} {rest : List Oper} {o : Oper} {a : Act} {Q : Exit → Act → World → Prop} (hg : o.guard = none) (s x : Operand) (t tx : TypeId)
    (hop : o.op = Op.call { callee := Callee.builtin Builtin.append, args := #[s, x], argTypes := #[t, tx] })
    (O : Nat → Prop) (e : TypeId) (ht : P.underlying t = some (.slice e)) (hinfo : (P.info? e).map (fun i => (i.zero, i.size, i.bytes)) = some (some (.int .u8 0), 1, 1))
    (v : Value) (hs : a.eval s = v) (l : M.Bytes) (h : AnsAt e O w v l) (xv : Value) (hx : a.eval x = xv) (m : M.Bytes) (hsrc : Src P 1 tx xv m.length (m.map u8) w) (hlen : l.length + m.length ≤ 140737488355328) (hO : O w.heap.size)
    (hK : ∀ (q : Option Addr) (n c : Nat) (w' : World), AnsAt e O w' (.slice q n c) (l ++ m) → Turn O w w' → wpList P ops Q rest (a.put o.dst (.slice q n c)) w') : wpList P ops Q (o :: rest) a w := by
  refine wpList_plain hg fun K hK' => ?_
  obtain ⟨i, hi, hzz⟩ := Option.map_eq_some_iff.1 hinfo
  simp only [Prod.mk.injEq] at hzz
  obtain ⟨hz, hs1, hb1⟩ := hzz
  obtain ⟨v', w', hrun, r1, r2⟩ := run_append_ans (P := P) w O t tx o.type e i ht hi hz hs1 hb1 v l h xv m hsrc hlen hO
  unfold Oper.wp
  simp [execOp, hop, resolve, invoke, builtin, hs, hx, hrun, Result.andThen]
  obtain ⟨q, n, c, rfl⟩ := r1.shape
  exact hK' _ _ (hK q n c w' r1 r2)
theorem src_text {P : Program} (w : World) {tx : TypeId} (hk : P.underlying tx = some .string) (m : M.Bytes) : Src P 1 tx (.string ⟨m.toArray⟩) m.length (m.map u8) w := by
  have := Src.ofString (P := P) w hk ⟨m.toArray⟩
  exact this
theorem src_byte {P : Program} (w : World) {tx e' : TypeId} (hk : P.underlying tx = some (.slice e')) (a : Addr) (c : Nat) (b : UInt8) (h : w.cell? a = some (u8 b)) : Src P 1 tx (.slice (some a) 1 c) [b].length ([b].map u8) w :=
  Src.ofSlice w hk a 1 c [u8 b] rfl (fun j u hj => by
    match j, hj with
    | 0, hj => cases hj; exact h
    | j + 1, hj => cases hj) (fun u hu => by rw [List.mem_singleton.1 hu]; rfl)
end Go.Proofs.YtdpnpcjbjjjceaaGreatDoor.S
