import Derived.Test.YtdpnpcjbjjjceaaGreatDoorBPlain
import Derived.Test.YtdpnpcjbjjjceaaGreatDoorBK0
import Derived.Test.YtdpnpcjbjjjceaaGreatDoorBC2
set_option linter.unusedSimpArgs false
set_option linter.unusedVariables false
namespace Go.Proofs.YtdpnpcjbjjjceaaGreatDoor.S
open Go.RowKit Go.Maps Go.MuLone Go.Proofs.YtdpnpcjbjjjceaaGreatDoor

/-- where a server's blocks lie; τ: what each block is for: 0 none of its -/
structure Lay where
  g : Nat
  T : Nat
  C : Nat
  N : Nat
  sb : Nat → Nat
  eb : Nat → Nat
  cb : Nat → Nat
  τ : Nat → Nat
  names : List (M.Bytes × M.Bytes)
/-- what a block is for, as the connection i sees it -/
def tagOf (i x : Nat) : Nat := if x = 101 + 2 * i then 0 else if x = 100 + 2 * i then 1 else if x = 2 then 2 else if x = 3 then 3 else if 10 ≤ x ∧ x < 20 then x - 6 else 1000000
def Lay.cx (l : Lay) (H i : Nat) : Cx := { g := l.g, T := l.T, cb := l.cb i, N := l.N, sb := l.sb, eb := l.eb, ρ := fun k => if H ≤ k then 0 else tagOf i (l.τ k), names := l.names }
theorem tag_g (i : Nat) : tagOf i 2 = 2 := by unfold tagOf; (repeat' split) <;> omega
theorem tag_T (i : Nat) : tagOf i 3 = 3 := by unfold tagOf; (repeat' split) <;> omega
theorem tag_C (i : Nat) : tagOf i 4 = 1000000 := by unfold tagOf; (repeat' split) <;> omega
theorem tag_0 (i : Nat) : tagOf i 0 = 1000000 := by unfold tagOf; (repeat' split) <;> omega
theorem tag_sb (i t : Nat) (h : t < 5) : tagOf i (10 + 2 * t) = 4 + 2 * t := by unfold tagOf; (repeat' split) <;> omega
theorem tag_eb (i t : Nat) (h : t < 5) : tagOf i (11 + 2 * t) = 5 + 2 * t := by unfold tagOf; (repeat' split) <;> omega
theorem tag_cb (i : Nat) : tagOf i (100 + 2 * i) = 1 := by unfold tagOf; (repeat' split) <;> omega
theorem tag_O (i : Nat) : tagOf i (101 + 2 * i) = 0 := by unfold tagOf; (repeat' split) <;> omega
theorem tag_cb' (i j : Nat) (h : i ≠ j) : tagOf i (100 + 2 * j) = 1000000 := by unfold tagOf; (repeat' split) <;> omega
theorem tag_O' (i j : Nat) (h : i ≠ j) : tagOf i (101 + 2 * j) = 1000000 := by unfold tagOf; (repeat' split) <;> omega
theorem tag_zero {i x : Nat} (h : tagOf i x = 0) : x = 101 + 2 * i := by
  unfold tagOf at h
  repeat' split at h
  all_goals omega

def innSum (l : List (Option M.Conn)) : Nat := (l.map fun o => match o with | some x => x.inn.length | none => 0).sum
structure SrvAt (l : Lay) (w : World) (m : M.Server) (b n : Nat) : Prop where
  tg : l.τ l.g = 2
  tT : l.τ l.T = 3
  tC : l.τ l.C = 4
  tsb : ∀ t, t < l.N → l.τ (l.sb t) = 10 + 2 * t
  teb : ∀ t, t < l.N → l.τ (l.eb t) = 11 + 2 * t
  few : l.N ≤ 5
  eight : ∀ k, k < 8 → l.τ k = 0
  room : 8 ≤ w.heap.size
  inn : ∀ k, l.τ k ≠ 0 → k < w.heap.size
  sys : SysAt (l.cx 0 0) w n m.sys
  srv : w.heap[l.g]? = some (.cells #[.map (some l.T), .slice (some ⟨l.C, 0, none⟩) m.conns.length m.conns.length, .int .i64 m.sys.clock] 87 (0, 0))
  conns : ∃ cur : Array Value, w.heap[l.C]? = some (.cells cur 89 (0, 0)) ∧ cur.size = m.conns.length ∧ (∀ i : Nat, m.conns[i]? = some none → cur[i]? = some (Value.pointer none)) ∧
    ∀ (i : Nat) x, m.conns[i]? = some (some x) → cur[i]? = some (Value.pointer (some ⟨l.cb i, 0, none⟩))
  live : ∀ (i : Nat) x, m.conns[i]? = some (some x) → l.τ (l.cb i) = 100 + 2 * i ∧ ∃ sv wt nv tv iv av, ConnAt (l.cx w.heap.size i) w x (.string ⟨x.inn.toArray⟩) sv wt nv tv iv av
  yfit : M.YFit m.sys
  wfit : ∀ (i : Nat) x, m.conns[i]? = some (some x) → M.WFit x
  phi : ∀ (i : Nat) x, m.conns[i]? = some (some x) → M.phi x ≤ 160 * b + 20
  num : n + innSum m.conns ≤ b
  many : m.conns.length ≤ 8
def Srv (w : World) (a : Addr) (F : Nat → Prop) (m : M.Server) (b : Nat) : Prop := ∃ l n, a = ⟨l.g, 0, none⟩ ∧ (∀ k, F k ↔ l.τ k ≠ 0) ∧ SrvAt l w m b n

section
variable {l : Lay} {w w' : World} {m : M.Server} {b n : Nat}
theorem rho_of {H i k : Nat} (h : k < H) : (l.cx H i).ρ k = tagOf i (l.τ k) := by
  show (if H ≤ k then 0 else tagOf i (l.τ k)) = _
  rw [if_neg (by omega)]
theorem rho_new {H i k : Nat} (h : H ≤ k) : (l.cx H i).ρ k = 0 := by
  show (if H ≤ k then 0 else tagOf i (l.τ k)) = _
  rw [if_pos h]
theorem SrvAt.ok (h : SrvAt l w m b n) (i : Nat) (hc : l.τ (l.cb i) = 100 + 2 * i) : (l.cx w.heap.size i).Ok := by
  refine ⟨?_, ?_, ?_, fun t ht => ?_, fun t ht => ?_, fun k hk => ?_, h.few⟩
  · show (l.cx w.heap.size i).ρ l.g = 2
    rw [rho_of (h.inn _ (by rw [h.tg]; decide)), h.tg, tag_g]
  · show (l.cx w.heap.size i).ρ l.T = 3
    rw [rho_of (h.inn _ (by rw [h.tT]; decide)), h.tT, tag_T]
  · show (l.cx w.heap.size i).ρ (l.cb i) = 1
    rw [rho_of (h.inn _ (by rw [hc]; omega)), hc, tag_cb]
  · show (l.cx w.heap.size i).ρ (l.sb t) = _
    have ht' : t < l.N := ht
    have := h.few
    rw [rho_of (h.inn _ (by rw [h.tsb t ht']; omega)), h.tsb t ht', tag_sb _ _ (by omega)]
  · show (l.cx w.heap.size i).ρ (l.eb t) = _
    have ht' : t < l.N := ht
    have := h.few
    rw [rho_of (h.inn _ (by rw [h.teb t ht']; omega)), h.teb t ht', tag_eb _ _ (by omega)]
  · rw [rho_of (by have := h.room; omega), h.eight k hk, tag_0]
theorem sys_cx {H i H' i' : Nat} {y : M.Sys} (h : SysAt (l.cx H i) w n y) : SysAt (l.cx H' i') w n y := ⟨h.names, h.len, h.lenN, h.clock, h.stores, h.srv, h.tens⟩
theorem sys_τ {H i H' i' : Nat} {y : M.Sys} {f : Nat → Nat} {cb : Nat → Nat} (h : SysAt (l.cx H i) w n y) : SysAt ({ l with τ := f, cb := cb }.cx H' i') w n y := ⟨h.names, h.len, h.lenN, h.clock, h.stores, h.srv, h.tens⟩
theorem SrvAt.kat (h : SrvAt l w m b n) {i : Nat} {x : M.Conn} (hx : m.conns[i]? = some (some x)) : KAt (l.cx w.heap.size i) w n m.sys x (.string ⟨x.inn.toArray⟩) :=
  ⟨h.ok i (h.live i x hx).1, sys_cx h.sys, (h.live i x hx).2⟩
/-- what a connection's work leaves alone -/
theorem notSK {X : Cx} (hX : X.Ok) {k : Nat} (h : X.ρ k = 1000000 ∨ X.ρ k = 2 ∨ X.ρ k = 3) : ¬ SK X w k := by
  rintro (rfl | ⟨ho, _⟩ | ⟨t, ht, rfl | rfl⟩)
  · have := hX.cb; omega
  · unfold Cx.O at ho; omega
  · have := hX.sb t ht; have := hX.few; omega
  · have := hX.eb t ht; have := hX.few; omega
/-- a connection that is not worked on -/
theorem conn_move {l : Lay} {H H' i : Nat} {f : Nat → Nat} {cb : Nat → Nat} {x : M.Conn} {rv sv nv tv iv av : Value} {wt : Int} (h : ConnAt (l.cx H i) w x rv sv wt nv tv iv av) (hH : H = w.heap.size) (hH' : H' = w'.heap.size) (hs : w.heap.size ≤ w'.heap.size) (hcb : cb i = l.cb i) (hblk : w'.heap[l.cb i]? = w.heap[l.cb i]?) (htag : f (l.cb i) ≠ 101 + 2 * i)
    (hO : ∀ k, k < w.heap.size → l.τ k = 101 + 2 * i → f k = 101 + 2 * i ∧ w'.heap[k]? = w.heap[k]?) : ConnAt ({ l with τ := f, cb := cb }.cx H' i) w' x rv sv wt nv tv iv av := by
  subst hH hH'
  have hO' : ∀ k, k < w.heap.size → (l.cx w.heap.size i).O k → ({ l with τ := f, cb := cb }.cx w'.heap.size i).O k ∧ w'.heap[k]? = w.heap[k]? := by
    intro k hk ho
    unfold Cx.O at ho ⊢
    rw [rho_of hk] at ho
    obtain ⟨h1, h2⟩ := hO k hk (tag_zero ho)
    refine ⟨?_, h2⟩
    rw [rho_of (Nat.lt_of_lt_of_le hk hs)]
    show tagOf i (f k) = 0
    rw [h1, tag_O]
  have hlt : l.cb i < w.heap.size := h.cb.lt
  refine ⟨⟨?_, ?_, ?_, fun k hk => rho_new hk⟩, h.owner, ?_, h.nv, h.tv, h.iv⟩
  · show w'.heap[cb i]? = _
    rw [hcb, hblk]; exact h.cb.cells
  · rcases h.cb.ans with h1 | ⟨g, off, cap, cur, h1, h2, h3, r⟩
    · exact Or.inl h1
    · obtain ⟨k1, k2⟩ := hO' g (Array.getElem?_eq_some_iff.1 h3).1 h2
      exact Or.inr ⟨g, off, cap, cur, h1, k1, k2.trans h3, r⟩
  · show ¬ ({ l with τ := f, cb := cb }.cx w'.heap.size i).ρ (cb i) = 0
    rw [hcb, rho_of (Nat.lt_of_lt_of_le hlt hs)]
    exact fun he => htag (tag_zero he)
  · have hw := h.want
    cases hq : x.want using M.Want.cases with
    | line => rw [hq] at hw; exact hw
    | skip => rw [hq] at hw; exact hw
    | quit => rw [hq] at hw; exact hw
    | value ws =>
      rw [hq] at hw
      obtain ⟨h1, base, h2, h3, h4⟩ := hw
      refine ⟨h1, base, h2.same2 (fun p a b cur e hv _ hc => ?_), fun q a b hv => ?_, fun q a b hv => ?_⟩
      · refine (hO' p.block (Array.getElem?_eq_some_iff.1 hc).1 ?_).2
        rcases hv with hv | hv
        · exact h3 p a b hv
        · exact h4 p a b hv
      · exact (hO' q.block (h2.own.1 q a b hv).2 (h3 q a b hv)).1
      · exact (hO' q.block (h2.own.2 q a b hv).2 (h4 q a b hv)).1
theorem SrvAt.move (h : SrvAt l w m b n) (hs : w.heap.size ≤ w'.heap.size) (hF : ∀ k, l.τ k ≠ 0 → w'.heap[k]? = w.heap[k]?) : SrvAt l w' m b n := by
  have hb : ∀ k x, l.τ k = x → x ≠ 0 → w'.heap[k]? = w.heap[k]? := fun k x hk hx => hF k (by rw [hk]; exact hx)
  refine ⟨h.tg, h.tT, h.tC, h.tsb, h.teb, h.few, h.eight, Nat.le_trans h.room hs, fun k hk => Nat.lt_of_lt_of_le (h.inn k hk) hs, ?_, ?_, ?_, fun i x hx => ?_, h.yfit, h.wfit, h.phi, h.num, h.many⟩
  · refine h.sys.same (Nat.le_refl _) (hb l.g 2 h.tg (by decide)) (hb l.T 3 h.tT (by decide)) (fun t ht => ⟨hb _ _ (h.tsb t ht) (by omega), hb _ _ (h.teb t ht) (by omega)⟩)
  · rw [hb l.g 2 h.tg (by decide)]; exact h.srv
  · obtain ⟨cur, h1, r⟩ := h.conns
    exact ⟨cur, (hb l.C 4 h.tC (by decide)).trans h1, r⟩
  · obtain ⟨h1, sv, wt, nv, tv, iv, av, h2⟩ := h.live i x hx
    exact ⟨h1, sv, wt, nv, tv, iv, av, conn_move (f := l.τ) (cb := l.cb) h2 rfl rfl hs rfl (hb _ _ h1 (by omega)) (by rw [h1]; omega) (fun k _ hk => ⟨hk, hb _ _ hk (by omega)⟩)⟩
end
theorem inn_set (l : List (Option M.Conn)) (i : Nat) (x x' : M.Conn) (h : l[i]? = some (some x)) : innSum (l.set i (some x')) + x.inn.length = innSum l + x'.inn.length := by
  induction l generalizing i with
  | nil => simp at h
  | cons a r ih =>
    cases i with
    | zero =>
      simp only [List.getElem?_cons_zero, Option.some.injEq] at h
      subst h
      unfold innSum
      simp only [List.set_cons_zero, List.map_cons, List.sum_cons]
      omega
    | succ i =>
      have := ih i (by simpa using h)
      unfold innSum at this ⊢
      simp only [List.set_cons_succ, List.map_cons, List.sum_cons]
      omega
theorem inn_new (l : List (Option M.Conn)) (i : Nat) (x' : M.Conn) (h : l[i]? = some none) (hx : x'.inn = []) : innSum (l.set i (some x')) = innSum l := by
  induction l generalizing i with
  | nil => simp at h
  | cons a r ih =>
    cases i with
    | zero =>
      simp only [List.getElem?_cons_zero, Option.some.injEq] at h
      subst h
      unfold innSum
      simp only [List.set_cons_zero, List.map_cons, List.sum_cons, hx, List.length_nil]
    | succ i =>
      have := ih i (by simpa using h)
      unfold innSum at this ⊢
      simp only [List.set_cons_succ, List.map_cons, List.sum_cons]
      omega
/-- the blocks when a connection has been worked on -/
def Lay.after (l : Lay) (H H' i : Nat) : Lay := { l with τ := fun k => if k < H then l.τ k else if k < H' then 101 + 2 * i else 0, cb := l.cb }
theorem cx_after {l : Lay} {H H' i : Nat} (h : H ≤ H') : (l.after H H' i).cx H' i = l.cx H i := by
  unfold Lay.cx Lay.after
  simp only
  congr 1
  funext k
  by_cases h1 : k < H
  · simp only [h1, if_true, show ¬ H' ≤ k by omega, show ¬ H ≤ k by omega, if_false]
  · by_cases h2 : H' ≤ k
    · simp only [h2, if_true, show H ≤ k by omega]
    · simp only [h2, h1, if_false, show k < H' by omega, if_true, show H ≤ k by omega, tag_O]
theorem SrvAt.go {l : Lay} {w w' : World} {m : M.Server} {b b' n n' : Nat} (h : SrvAt l w m b n) {i : Nat} {x x' : M.Conn} (hx : m.conns[i]? = some (some x)) {y' : M.Sys} (hk : KAt (l.cx w.heap.size i) w' n' y' x' (.string ⟨x'.inn.toArray⟩)) (hT : TurnK (l.cx w.heap.size i) w w')
    (hy : M.YFit y') (hw : M.WFit x') (hp : M.phi x' ≤ 160 * b' + 20) (hb : b ≤ b') (hn : n' + innSum (m.conns.set i (some x')) ≤ b') : SrvAt (l.after w.heap.size w'.heap.size i) w' ⟨y', m.conns.set i (some x')⟩ b' n' := by
  have hs := hT.size
  have hok := h.ok i (h.live i x hx).1
  have hlow : ∀ k, k < w.heap.size → (l.after w.heap.size w'.heap.size i).τ k = l.τ k := fun k hk => if_pos hk
  have low : ∀ k z, l.τ k = z → z ≠ 0 → (l.after w.heap.size w'.heap.size i).τ k = z := fun k z hk hz => (hlow k (h.inn k (by rw [hk]; exact hz))).trans hk
  have keep : ∀ k z, l.τ k = z → z ≠ 0 → (tagOf i z = 1000000 ∨ tagOf i z = 2 ∨ tagOf i z = 3) → w'.heap[k]? = w.heap[k]? := by
    intro k z hk hz ht
    have hlt := h.inn k (by rw [hk]; exact hz)
    exact hT.block k hlt (notSK hok (by rw [rho_of hlt, hk]; exact ht))
  have hset : ∀ j z, (m.conns.set i (some x'))[j]? = some (some z) → (j = i ∧ z = x') ∨ (j ≠ i ∧ m.conns[j]? = some (some z)) := by
    intro j z hj
    by_cases hji : j = i
    · subst hji
      rw [List.getElem?_set_self (List.getElem?_eq_some_iff.1 hx).1] at hj
      cases hj
      exact Or.inl ⟨rfl, rfl⟩
    · rw [List.getElem?_set_ne (Ne.symm hji)] at hj
      exact Or.inr ⟨hji, hj⟩
  refine ⟨low _ _ h.tg (by decide), low _ _ h.tT (by decide), low _ _ h.tC (by decide), fun t ht => low _ _ (h.tsb t ht) (by omega), fun t ht => low _ _ (h.teb t ht) (by omega), h.few, fun k hk => (hlow k (by have := h.room; omega)).trans (h.eight k hk), Nat.le_trans h.room hs, ?_, ?_, ?_, ?_, ?_, hy, ?_, ?_, hn, by simpa using h.many⟩
  · intro k hk
    by_cases h1 : k < w.heap.size
    · omega
    · by_cases h2 : k < w'.heap.size
      · exact h2
      · exact absurd (show (l.after w.heap.size w'.heap.size i).τ k = 0 by show (if k < w.heap.size then _ else _) = 0; rw [if_neg h1, if_neg h2]) hk
  · exact sys_τ (l := l) (cb := l.cb) hk.sys
  · show w'.heap[l.g]? = some (.cells #[.map (some l.T), .slice (some ⟨l.C, 0, none⟩) (m.conns.set i (some x')).length (m.conns.set i (some x')).length, .int .i64 y'.clock] 87 (0, 0))
    have h1 := (keep l.g 2 h.tg (by decide) (Or.inr (Or.inl (tag_g i)))).trans h.srv
    obtain ⟨cv, h2⟩ := hk.sys.srv
    have h2' : some _ = some _ := h1.symm.trans h2
    have e9 : (m.sys.clock : Int) = (y'.clock : Int) := by
      simp at h2'
      omega
    rw [List.length_set, ← e9]
    exact h1
  · obtain ⟨cur, h1, h2, h3, h4⟩ := h.conns
    refine ⟨cur, (keep l.C 4 h.tC (by decide) (Or.inl (tag_C i))).trans h1, by rw [h2, List.length_set], fun j hj => ?_, fun j z hj => ?_⟩
    · by_cases hji : j = i
      · subst hji
        rw [List.getElem?_set_self (List.getElem?_eq_some_iff.1 hx).1] at hj
        cases hj
      · rw [List.getElem?_set_ne (Ne.symm hji)] at hj
        exact h3 j hj
    · rcases hset j z hj with ⟨rfl, _⟩ | ⟨_, h5⟩
      · exact h4 j x hx
      · exact h4 j z h5
  · intro j z hj
    rcases hset j z hj with ⟨rfl, rfl⟩ | ⟨hji, h5⟩
    · refine ⟨low _ _ (h.live j x hx).1 (by omega), ?_⟩
      rw [cx_after hs]
      exact hk.conn
    · obtain ⟨h6, sv, wt, nv, tv, iv, av, h7⟩ := h.live j z h5
      refine ⟨low _ _ h6 (by omega), sv, wt, nv, tv, iv, av, conn_move h7 rfl rfl hs rfl (keep _ _ h6 (by omega) (Or.inl (tag_cb' i j (Ne.symm hji)))) ?_ (fun k hkk ht => ⟨low k _ ht (by omega), keep k _ ht (by omega) (Or.inl (tag_O' i j (Ne.symm hji)))⟩)⟩
      have := low _ _ h6 (by omega)
      intro he
      have he' := this.symm.trans he
      omega
  · intro j z hj
    rcases hset j z hj with ⟨_, rfl⟩ | ⟨_, h5⟩
    · exact hw
    · exact h.wfit j z h5
  · intro j z hj
    rcases hset j z hj with ⟨_, rfl⟩ | ⟨_, h5⟩
    · exact hp
    · have := h.phi j z h5; omega
theorem after_foot {l : Lay} {w w' : World} {i : Nat} (hs : w.heap.size ≤ w'.heap.size) : ∀ k, (l.after w.heap.size w'.heap.size i).τ k ≠ 0 → l.τ k ≠ 0 ∨ w.heap.size ≤ k := by
  intro k hk
  by_cases h1 : k < w.heap.size
  · left
    have : (l.after w.heap.size w'.heap.size i).τ k = l.τ k := if_pos h1
    rw [this] at hk; exact hk
  · right; omega
theorem touch_of {l : Lay} {w w' : World} {m : M.Server} {b n i : Nat} (h : SrvAt l w m b n) (hc : l.τ (l.cb i) = 100 + 2 * i) (hT : TurnK (l.cx w.heap.size i) w w') {F : Nat → Prop} (hF : ∀ k, F k ↔ l.τ k ≠ 0) : K.Touch F w (fun k => (l.after w.heap.size w'.heap.size i).τ k ≠ 0) w' := by
  refine ⟨hT.os, hT.tape, hT.output, hT.size, fun k hk hn => ?_, fun k hk => ?_⟩
  · have h0 : l.τ k = 0 := by
      rcases Nat.eq_zero_or_pos (l.τ k) with h0 | h0
      · exact h0
      · exact absurd ((hF k).2 (by omega)) hn
    exact hT.block k hk (notSK (h.ok i hc) (by rw [rho_of hk, h0, tag_0]; exact Or.inl rfl))
  · rcases after_foot hT.size k hk with h1 | h1
    · exact Or.inl ((hF k).2 h1)
    · exact Or.inr h1
end Go.Proofs.YtdpnpcjbjjjceaaGreatDoor.S
namespace Go.Proofs.YtdpnpcjbjjjceaaGreatDoor.S
open Go.RowKit Go.Maps Go.MuLone Go.Proofs.YtdpnpcjbjjjceaaGreatDoor

/-- the cells that lead to a connection -/
structure Leads (l : Lay) (w : World) (M i : Nat) : Prop where
  g0 : w.cell? ⟨l.g, 0, none⟩ = some (.map (some l.T))
  g1 : w.cell? ⟨l.g, 1, none⟩ = some (.slice (some ⟨l.C, 0, none⟩) M M)
  ci : w.cell? ⟨l.C, i, none⟩ = some (.pointer (some ⟨l.cb i, 0, none⟩))
  lt : i < M
  many : M ≤ 8
  gl : l.g < w.heap.size
  cl : l.C < w.heap.size
theorem SrvAt.leads {l : Lay} {w : World} {m : M.Server} {b n : Nat} (h : SrvAt l w m b n) {i : Nat} {x : M.Conn} (hx : m.conns[i]? = some (some x)) : Leads l w m.conns.length i := by
  obtain ⟨cur, h1, h2, _, h4⟩ := h.conns
  exact ⟨heap_cell h.srv 0 rfl, heap_cell h.srv 1 rfl, heap_cell h1 i (h4 i x hx), (List.getElem?_eq_some_iff.1 hx).1, h.many, (Array.getElem?_eq_some_iff.1 h.srv).1, (Array.getElem?_eq_some_iff.1 h1).1⟩
set_option maxRecDepth 20000 in
theorem has_c {l : Lay} {w : World} {N i : Nat} (h : Leads l w N i) : Calls Tryz.prog 52 #[.pointer (some ⟨l.g, 0, none⟩), .int .i64 i] w fun e w' => e = .returned (.bool true) ∧ Below w.heap.size w w' := by
  obtain ⟨g0, g1, ci, lt, many, gl, cl⟩ := h
  have hi : (i : Int) < N := by omega
  have hi0 : (0 : Int) ≤ i := by omega
  generalize l.cb i = cb at ci
  generalize l.C = C at *
  generalize l.g = g at *
  generalize l.T = T at *
  go_enter Tryz.func52, Tryz.ntmps52
  go_wp2_with fail
  trace_state
  go_ret
  exact ⟨rfl, Below.refl _ _⟩
end Go.Proofs.YtdpnpcjbjjjceaaGreatDoor.S
namespace Go.Proofs.YtdpnpcjbjjjceaaGreatDoor.S
open Go.RowKit Go.Maps Go.MuLone Go.Proofs.YtdpnpcjbjjjceaaGreatDoor

set_option maxRecDepth 20000 in
theorem feedS {l : Lay} {w : World} {N i : Nat} (h : Leads l w N i) (s : ByteArray) (Post : World → Prop) (CF : ∀ w1, Below w.heap.size w w1 → Calls Tryz.prog 53 #[.pointer (some ⟨l.cb i, 0, none⟩), .string s] w1 fun e w' => e = .returned (.tuple #[]) ∧ Post w') :
    Calls Tryz.prog 20 #[.pointer (some ⟨l.g, 0, none⟩), .int .i64 i, .string s] w fun e w' => e = .returned (.int .i64 0) ∧ Post w' := by
  have CH := Hid.of (has_c h)
  obtain ⟨g0, g1, ci, lt, many, gl, cl⟩ := h
  have hi : (i : Int) < N := by omega
  have hi0 : (0 : Int) ≤ i := by omega
  have HF := Hid.of CF
  clear CF
  generalize l.cb i = cb at ci HF
  generalize l.C = C at *
  generalize l.g = g at *
  generalize l.T = T at *
  go_enter Tryz.func20, Tryz.ntmps20
  go_wp2_with (first
    | (go_at_call 52; refine CH.out.mono ?_; rintro e w1 ⟨rfl, hb1⟩; have c1 := (hb1.cell (p := ⟨g, 1, none⟩) gl).trans g1; have c2 := (hb1.cell (p := ⟨C, i, none⟩) cl).trans ci; have HB1 := Hid.of hb1; clear hb1)
    | (go_at_call 53; refine (HF.out _ HB1.out).mono ?_; rintro e w2 ⟨rfl, hP⟩))
  go_ret
  exact ⟨rfl, hP⟩
set_option maxRecDepth 20000 in
theorem takeS {l : Lay} {w : World} {N i : Nat} (h : Leads l w N i) (k : Nat) (r : ByteArray) (Post : World → Prop) (CF : ∀ w1, Below w.heap.size w w1 → Calls Tryz.prog 54 #[.pointer (some ⟨l.cb i, 0, none⟩), .int .i64 k] w1 fun e w' => e = .returned (.string r) ∧ Post w') :
    Calls Tryz.prog 21 #[.pointer (some ⟨l.g, 0, none⟩), .int .i64 i, .int .i64 k] w fun e w' => e = .returned (.tuple #[.string r, .int .i64 0]) ∧ Post w' := by
  have CH := Hid.of (has_c h)
  obtain ⟨g0, g1, ci, lt, many, gl, cl⟩ := h
  have hi : (i : Int) < N := by omega
  have hi0 : (0 : Int) ≤ i := by omega
  have HF := Hid.of CF
  clear CF
  generalize l.cb i = cb at ci HF
  generalize l.C = C at *
  generalize l.g = g at *
  generalize l.T = T at *
  go_enter Tryz.func21, Tryz.ntmps21
  go_wp2_with (first
    | (go_at_call 52; refine CH.out.mono ?_; rintro e w1 ⟨rfl, hb1⟩; have c1 := (hb1.cell (p := ⟨g, 1, none⟩) gl).trans g1; have c2 := (hb1.cell (p := ⟨C, i, none⟩) cl).trans ci; have HB1 := Hid.of hb1; clear hb1)
    | (go_at_call 54; refine (HF.out _ HB1.out).mono ?_; rintro e w2 ⟨rfl, hP⟩))
  go_ret2
  exact ⟨rfl, hP⟩
end Go.Proofs.YtdpnpcjbjjjceaaGreatDoor.S
namespace Go.Proofs.YtdpnpcjbjjjceaaGreatDoor.S
open Go.RowKit Go.Maps Go.MuLone Go.Proofs.YtdpnpcjbjjjceaaGreatDoor

set_option maxRecDepth 20000 in
theorem index_c (w : World) (C N i : Nat) (hN : N ≤ 8) (hi : i < N) (hlow : ∀ j, j < i → ∃ a : Nat, w.cell? ⟨C, j, none⟩ = some (.pointer (some ⟨a, 0, none⟩))) (hat : w.cell? ⟨C, i, none⟩ = some (.pointer none)) :
    Calls Tryz.prog 49 #[.slice (some ⟨C, 0, none⟩) N N, .pointer none] w fun e w' => e = .returned (.int .i64 i) ∧ w' = w := by
  have HL := Hid.of hlow
  clear hlow
  go_enter Tryz.func49, Tryz.ntmps49
  go_wp2
  go_loop [8] (fun v => ∃ j : Nat, j ≤ i ∧ v = .int .i64 j) (fun v => N - (intOf v).toNat)
  case atStart => exact ⟨0, by omega, rfl⟩
  case round =>
    obtain ⟨j, hj, rfl⟩ := hrel
    have hjN : (j : Int) < N := by omega
    by_cases hlt : j < i
    · obtain ⟨a, ha⟩ := HL.out j hlt
      have he : (binOp BinOp.eql 89 (.pointer none) (.pointer (some ⟨a, 0, none⟩))).run Tryz.prog w = .ok (.bool false) w := by rfl
      go_wp2
      go_round
      case rel => exact ⟨j + 1, by omega, by go_num⟩
      case measure => simp [intOf] <;> omega
    · obtain rfl : j = i := by omega
      go_wp2
      go_ret
      exact ⟨rfl, rfl⟩
set_option maxRecDepth 20000 in
theorem new_c (fv : Value) (hfv : ∃ f a, fv = .func f a #[]) (w : World) : Calls Tryz.prog 50 #[fv] w fun e w' => e = .returned (.pointer (some ⟨w.heap.size, 0, none⟩)) ∧ w' = w.alloc (.cells (cellsC fv (.pointer none) 0 (.string ⟨#[]⟩) (.slice none 0 0) (.slice none 0 0) (.string ⟨#[]⟩) (.slice none 0 0)) 126) := by
  obtain ⟨f, a, rfl⟩ := hfv
  unfold cellsC
  go_enter Tryz.func50, Tryz.ntmps50
  go_wp2
  go_ret
  exact ⟨rfl, rfl⟩
set_option maxRecDepth 20000 in
theorem dialS {l : Lay} {w : World} {N i : Nat} (hN : N ≤ 8) (hi : i < N) (hlow : ∀ j, j < i → ∃ a : Nat, w.cell? ⟨l.C, j, none⟩ = some (.pointer (some ⟨a, 0, none⟩))) (hat : w.cell? ⟨l.C, i, none⟩ = some (.pointer none)) (hfz : w.frozen? ⟨l.C, i, none⟩ = false) (g1 : w.cell? ⟨l.g, 1, none⟩ = some (.slice (some ⟨l.C, 0, none⟩) N N)) (gl : l.g < w.heap.size) (cl : l.C < w.heap.size) :
    Calls Tryz.prog 19 #[.pointer (some ⟨l.g, 0, none⟩)] w fun e w' => e = .returned (.tuple #[.int .i64 i, .int .i64 0]) ∧ w' = ((w.setCell ⟨l.C, i, none⟩ (.pointer (some ⟨w.heap.size, 0, none⟩))).alloc (.cells (cellsC (.func (.func 51) #[.pointer (some ⟨l.g, 0, none⟩)] #[]) (.pointer none) 0 (.string ⟨#[]⟩) (.slice none 0 0) (.slice none 0 0) (.string ⟨#[]⟩) (.slice none 0 0)) 126)).drew := by
  have CI := Hid.of (index_c w l.C N i hN hi hlow hat)
  clear hlow
  generalize l.C = C at *
  generalize l.g = g at *
  have hi' : (i : Int) < N := by omega
  have CN := Hid.of (fun W => new_c (.func (.func 51) #[.pointer (some ⟨g, 0, none⟩)] #[]) ⟨_, _, rfl⟩ W)
  go_enter Tryz.func19, Tryz.ntmps19
  go_wp2_with (go_at_call 49; refine CI.out.mono ?_; rintro e w1 ⟨rfl, rfl⟩)
  go_region_with (go_at_call 50; refine (CN.out _).mono ?_; rintro e w2 ⟨rfl, rfl⟩)
  all_goals
    go_wp2
    go_ret2
    exact ⟨rfl, rfl⟩
end Go.Proofs.YtdpnpcjbjjjceaaGreatDoor.S
namespace Go.Proofs.YtdpnpcjbjjjceaaGreatDoor.S
open Go.RowKit Go.Maps Go.MuLone Go.Proofs.YtdpnpcjbjjjceaaGreatDoor

def Lay.dial (l : Lay) (H i : Nat) : Lay := { l with τ := fun k => if k < H then l.τ k else if k = H then 100 + 2 * i else 0, cb := fun j => if j = i then H else l.cb j }
def dialW (w : World) (g C i : Nat) : World := ((w.setCell ⟨C, i, none⟩ (.pointer (some ⟨w.heap.size, 0, none⟩))).alloc (.cells (cellsC (.func (.func 51) #[.pointer (some ⟨g, 0, none⟩)] #[]) (.pointer none) 0 (.string ⟨#[]⟩) (.slice none 0 0) (.slice none 0 0) (.string ⟨#[]⟩) (.slice none 0 0)) 126)).drew
theorem set_size (w : World) (p : Addr) (v : Value) : (w.setCell p v).heap.size = w.heap.size := by simp
theorem dialW_size (w : World) (g C i : Nat) : (dialW w g C i).heap.size = w.heap.size + 1 := by
  unfold dialW
  show ((w.setCell ⟨C, i, none⟩ _).alloc _).heap.size = _
  simp
theorem dialW_old (w : World) (g C i : Nat) {k : Nat} (hk : k < w.heap.size) (hC : k ≠ C) : (dialW w g C i).heap[k]? = w.heap[k]? := by
  unfold dialW
  show ((w.setCell ⟨C, i, none⟩ _).alloc _).heap[k]? = _
  have h1 : (w.setCell ⟨C, i, none⟩ (.pointer (some ⟨w.heap.size, 0, none⟩))).heap[k]? = w.heap[k]? := heap_set_other _ _ _ _ hC
  rw [← h1]
  exact (((Below.refl _ _).alloc (Nat.le_refl _) _ : Below (w.setCell ⟨C, i, none⟩ (.pointer (some ⟨w.heap.size, 0, none⟩))).heap.size _ _).block k (by rw [set_size]; exact hk))
theorem dialW_C (w : World) (g C i : Nat) {cur : Array Value} {t : TypeId} (h : w.heap[C]? = some (.cells cur t (0, 0))) : (dialW w g C i).heap[C]? = some (.cells (cur.setIfInBounds i (.pointer (some ⟨w.heap.size, 0, none⟩))) t (0, 0)) := by
  unfold dialW
  exact alloc_old (set_here h)
theorem dialW_new (w : World) (g C i : Nat) : (dialW w g C i).heap[w.heap.size]? = some (.cells (cellsC (.func (.func 51) #[.pointer (some ⟨g, 0, none⟩)] #[]) (.pointer none) 0 (.string ⟨#[]⟩) (.slice none 0 0) (.slice none 0 0) (.string ⟨#[]⟩) (.slice none 0 0)) 126 (0, 0)) := by
  unfold dialW
  have := alloc_here (w.setCell ⟨C, i, none⟩ (.pointer (some ⟨w.heap.size, 0, none⟩))) (.cells (cellsC (.func (.func 51) #[.pointer (some ⟨g, 0, none⟩)] #[]) (.pointer none) 0 (.string ⟨#[]⟩) (.slice none 0 0) (.slice none 0 0) (.string ⟨#[]⟩) (.slice none 0 0)) 126 (0, 0))
  rw [set_size] at this
  exact this
theorem free_at {m : M.Server} {i : Nat} (h : M.free m = some i) : m.conns[i]? = some none ∧ ∀ j, j < i → ∃ x, m.conns[j]? = some (some x) := by
  unfold M.free at h
  obtain ⟨h1, h2, h3⟩ := List.findIdx?_eq_some_iff_getElem.1 h
  refine ⟨?_, fun j hj => ?_⟩
  · rw [List.getElem?_eq_getElem h1]
    cases hc : m.conns[i] with
    | none => rfl
    | some x => rw [hc] at h2; cases h2
  · have h4 := h3 j hj
    rw [List.getElem?_eq_getElem (by omega)]
    cases hc : m.conns[j] with
    | none => rw [hc] at h4; exact absurd rfl h4
    | some x => exact ⟨x, rfl⟩
theorem SrvAt.dial {l : Lay} {w : World} {m : M.Server} {b n : Nat} (h : SrvAt l w m b n) {i : Nat} (hf : M.free m = some i) : SrvAt (l.dial w.heap.size i) (dialW w l.g l.C i) (M.dialled m i) b n := by
  obtain ⟨hn, _⟩ := free_at hf
  have hlt := (List.getElem?_eq_some_iff.1 hn).1
  have hlow : ∀ k, k < w.heap.size → (l.dial w.heap.size i).τ k = l.τ k := fun k hk => if_pos hk
  have low : ∀ k z, l.τ k = z → z ≠ 0 → (l.dial w.heap.size i).τ k = z := fun k z hk hz => (hlow k (h.inn k (by rw [hk]; exact hz))).trans hk
  have hnew : (l.dial w.heap.size i).τ w.heap.size = 100 + 2 * i := by
    show (if w.heap.size < w.heap.size then _ else if w.heap.size = w.heap.size then _ else _) = _
    rw [if_neg (Nat.lt_irrefl _), if_pos rfl]
  have hsz := dialW_size w l.g l.C i
  have keep : ∀ k z, l.τ k = z → z ≠ 0 → z ≠ 4 → (dialW w l.g l.C i).heap[k]? = w.heap[k]? := by
    intro k z hk hz h4
    refine dialW_old _ _ _ _ (h.inn k (by rw [hk]; exact hz)) (fun e => ?_)
    have := h.tC
    rw [← e, hk] at this
    exact h4 this
  have hset : ∀ j z, (m.conns.set i (some M.fresh))[j]? = some (some z) → (j = i ∧ z = M.fresh) ∨ (j ≠ i ∧ m.conns[j]? = some (some z)) := by
    intro j z hj
    by_cases hji : j = i
    · subst hji
      rw [List.getElem?_set_self hlt] at hj
      cases hj
      exact Or.inl ⟨rfl, rfl⟩
    · rw [List.getElem?_set_ne (Ne.symm hji)] at hj
      exact Or.inr ⟨hji, hj⟩
  have hcb : ∀ j, j ≠ i → (l.dial w.heap.size i).cb j = l.cb j := fun j hj => if_neg hj
  have hcbi : (l.dial w.heap.size i).cb i = w.heap.size := if_pos rfl
  refine ⟨low _ _ h.tg (by decide), low _ _ h.tT (by decide), low _ _ h.tC (by decide), fun t ht => low _ _ (h.tsb t ht) (by omega), fun t ht => low _ _ (h.teb t ht) (by omega), h.few, fun k hk => (hlow k (by have := h.room; omega)).trans (h.eight k hk), by rw [hsz]; have := h.room; omega, ?_, ?_, ?_, ?_, ?_, h.yfit, ?_, ?_, ?_, ?_⟩
  · intro k hk
    rw [hsz]
    by_cases h1 : k < w.heap.size
    · omega
    · by_cases h2 : k = w.heap.size
      · omega
      · exact absurd (show (l.dial w.heap.size i).τ k = 0 by show (if k < w.heap.size then _ else if k = w.heap.size then _ else _) = 0; rw [if_neg h1, if_neg h2]) hk
  · have hs := h.sys.same (w' := dialW w l.g l.C i) (Nat.le_refl _) (keep l.g 2 h.tg (by decide) (by decide)) (keep l.T 3 h.tT (by decide) (by decide)) (fun t ht => ⟨keep _ _ (h.tsb t ht) (by omega) (by omega), keep _ _ (h.teb t ht) (by omega) (by omega)⟩)
    exact ⟨hs.names, hs.len, hs.lenN, hs.clock, hs.stores, hs.srv, hs.tens⟩
  · show (dialW w l.g l.C i).heap[l.g]? = some (.cells #[.map (some l.T), .slice (some ⟨l.C, 0, none⟩) (m.conns.set i (some M.fresh)).length (m.conns.set i (some M.fresh)).length, .int .i64 m.sys.clock] 87 (0, 0))
    rw [keep l.g 2 h.tg (by decide) (by decide), List.length_set]
    exact h.srv
  · obtain ⟨cur, h1, h2, h3, h4⟩ := h.conns
    refine ⟨_, dialW_C w l.g l.C i h1, by rw [Array.size_setIfInBounds, h2]; exact (List.length_set ..).symm, fun j hj => ?_, fun j z hj => ?_⟩
    · have hj' : (m.conns.set i (some M.fresh))[j]? = some none := hj
      by_cases hji : j = i
      · subst hji
        rw [List.getElem?_set_self hlt] at hj'
        cases hj'
      · rw [List.getElem?_set_ne (Ne.symm hji)] at hj'
        rw [Array.getElem?_setIfInBounds, if_neg (Ne.symm hji)]
        exact h3 j hj'
    · rcases hset j z hj with ⟨rfl, _⟩ | ⟨hji, h5⟩
      · rw [Array.getElem?_setIfInBounds, if_pos rfl, if_pos (by omega), hcbi]
      · rw [Array.getElem?_setIfInBounds, if_neg (Ne.symm hji), hcb j hji]
        exact h4 j z h5
  · intro j z hj
    rcases hset j z hj with ⟨rfl, rfl⟩ | ⟨hji, h5⟩
    · refine ⟨by rw [hcbi]; exact hnew, .pointer none, 0, .string ⟨#[]⟩, .slice none 0 0, .slice none 0 0, .slice none 0 0, ⟨?_, Or.inl ⟨rfl, rfl⟩, ?_, fun k hk => rho_new hk⟩, Or.inl ⟨rfl, rfl⟩, rfl, ⟨_, rfl⟩, ⟨_, _, _, rfl⟩, ⟨_, _, _, rfl⟩⟩
      · show (dialW w l.g l.C j).heap[(l.dial w.heap.size j).cb j]? = _
        rw [hcbi]
        exact dialW_new w l.g l.C j
      · show ¬ ((l.dial w.heap.size j).cx (dialW w l.g l.C j).heap.size j).ρ ((l.dial w.heap.size j).cb j) = 0
        rw [hcbi, rho_of (by rw [hsz]; omega), hnew, tag_cb]
        decide
    · obtain ⟨h6, sv, wt, nv, tv, iv, av, h7⟩ := h.live j z h5
      refine ⟨by rw [hcb j hji]; exact low _ _ h6 (by omega), sv, wt, nv, tv, iv, av, conn_move (f := (l.dial w.heap.size i).τ) (cb := (l.dial w.heap.size i).cb) h7 rfl rfl (by rw [hsz]; omega) (hcb j hji) (keep _ _ h6 (by omega) (by omega)) ?_ (fun k _ ht => ⟨low k _ ht (by omega), keep k _ ht (by omega) (by omega)⟩)⟩
      rw [low _ _ h6 (by omega)]
      omega
  · intro j z hj
    rcases hset j z hj with ⟨_, rfl⟩ | ⟨_, h5⟩
    · exact M.fresh_fit.1
    · exact h.wfit j z h5
  · intro j z hj
    rcases hset j z hj with ⟨_, rfl⟩ | ⟨_, h5⟩
    · rw [M.fresh_fit.2]; omega
    · exact h.phi j z h5
  · have := inn_new m.conns i M.fresh hn rfl
    show n + innSum (m.conns.set i (some M.fresh)) ≤ b
    rw [this]; exact h.num
  · show (m.conns.set i (some M.fresh)).length ≤ 8
    rw [List.length_set]; exact h.many
theorem srv_dial {w : World} {a : Addr} {F : Nat → Prop} {m : M.Server} {b : Nat} (i : Nat) (h : Srv w a F m b) (hf : M.free m = some i) :
    Calls Tryz.prog 19 #[.pointer (some a)] w fun e w' => e = .returned (.tuple #[.int .i64 i, .int .i64 0]) ∧ ∃ F', Srv w' a F' (M.dialled m i) b ∧ K.Touch F w F' w' := by
  obtain ⟨l, n, rfl, hF, hS⟩ := h
  obtain ⟨h1, h2⟩ := free_at hf
  obtain ⟨cur, k1, k2, k3, k4⟩ := hS.conns
  refine (dialS (l := l) hS.many (List.getElem?_eq_some_iff.1 h1).1 (fun j hj => ?_) (heap_cell k1 i (k3 i h1)) (heap_thawed k1 i) (heap_cell hS.srv 1 rfl) (Array.getElem?_eq_some_iff.1 hS.srv).1 (Array.getElem?_eq_some_iff.1 k1).1).mono ?_
  · obtain ⟨x, hx⟩ := h2 j hj
    exact ⟨_, heap_cell k1 j (k4 j x hx)⟩
  · rintro e w' ⟨rfl, rfl⟩
    have hd := hS.dial hf
    refine ⟨rfl, fun k => (l.dial w.heap.size i).τ k ≠ 0, ⟨l.dial w.heap.size i, n, rfl, fun k => Iff.rfl, hd⟩, ?_⟩
    have hT : Turn (fun _ => True) w (dialW w l.g l.C i) := (((Turn.refl _ w).setCell (p := ⟨l.C, i, none⟩) (Or.inl trivial) _).alloc _).drew
    refine ⟨hT.os, hT.tape, hT.output, ?_, fun k hk hn => ?_, fun k hk => ?_⟩
    · show w.heap.size ≤ (dialW w l.g l.C i).heap.size
      rw [dialW_size]; omega
    · refine dialW_old w l.g l.C i hk (fun e => hn ((hF k).2 ?_))
      rw [e, hS.tC]; decide
    · by_cases h5 : k < w.heap.size
      · left
        refine (hF k).2 ?_
        have h6 : (l.dial w.heap.size i).τ k = l.τ k := if_pos h5
        rw [h6] at hk; exact hk
      · right; omega
end Go.Proofs.YtdpnpcjbjjjceaaGreatDoor.S
namespace Go.Proofs.YtdpnpcjbjjjceaaGreatDoor.S
open Go.RowKit Go.Maps Go.MuLone Go.Proofs.YtdpnpcjbjjjceaaGreatDoor

def num0 (q : Nat) : Num := ⟨q, 0, 0, 0, 0, 0, 0, 0⟩
def nameOf (t : K.Ten) : M.Bytes × M.Bytes := (t.n.data.toList, t.k.data.toList)
theorem getD_of {bs : List Nat} {j b : Nat} (h : bs[j]? = some b) : bs.getD j 0 = b := by simp [List.getD, h]
theorem TenHold.push {D : DataW Unit} {names : List (M.Bytes × M.Bytes)} {sb sb' : Nat → Nat} (h : TenHold D names sb) (ht : Tidy D) (p : M.Bytes × M.Bytes) (b : Nat) (hp : ∀ q ∈ names, q.1 ≠ p.1) (hs : ∀ t, t < names.length → sb' t = sb t) (hb : sb' names.length = b) :
    TenHold (D.put (.string p.1) (tenD p.2 b)) (names ++ [p]) sb' := by
  refine ⟨fun k => ?_, fun t q hq z => ?_, ?_⟩
  · rw [List.any_append]
    by_cases hk : k = p.1
    · subst hk
      rw [has_put_same ht.isMap (isKey _)]
      simp
    · rw [has_put_other (key_ne hk), h.has]
      simp [Ne.symm hk]
  · rcases Nat.lt_or_ge t names.length with hl | hl
    · rw [List.getElem?_append_left hl] at hq
      rw [atKey_put_other (key_ne (hp q (List.mem_of_getElem? hq))), hs t hl]
      exact h.at_ t q hq z
    · rw [List.getElem?_append_right hl] at hq
      have h0 : t - names.length = 0 := by
        have := (List.getElem?_eq_some_iff.1 hq).1
        simp only [List.length_cons, List.length_nil] at this
        omega
      rw [h0] at hq
      have hq' : p = q := by simpa using hq
      subst hq'
      have ht' : t = names.length := by omega
      rw [ht', hb]
      exact atKey_put_same ht.isMap (isKey _) _ _
  · rw [List.map_append, List.nodup_append]
    refine ⟨h.nodup, by simp, ?_⟩
    intro a ha c hc he
    simp only [List.map_cons, List.map_nil, List.mem_singleton] at hc
    obtain ⟨q, hq, rfl⟩ := List.mem_map.1 ha
    exact hp q hq (he.trans hc)

/-- the tenants' map as byName has made it so far; bs: the blocks of each store and of its entries -/
structure Tens (w : World) (B m : Nat) (ts : List K.Ten) (bs : List Nat) : Prop where
  len : bs.length = 2 * ts.length
  own : ∃ D, w.ownsMap Tryz.prog 9 tenE m ts.length D ∧ Tidy D ∧ TenHold D (ts.map nameOf) (fun t => bs.getD (2 * t) 0)
  box : ∀ (t : Nat) x, ts[t]? = some x → Box w (bs.getD (2 * t) 0) (bs.getD (2 * t + 1) 0) (0, 0) (num0 x.q) []
  new : ∀ b ∈ bs, B ≤ b ∧ b ≠ m
  nodup : bs.Nodup
  ge : B ≤ m
section
variable {w w' : World} {B m : Nat} {ts : List K.Ten} {bs : List Nat}
theorem Tens.lt (h : Tens w B m ts bs) : m < w.heap.size := by
  obtain ⟨D, h1, _⟩ := h.own
  exact h1.lt
theorem Tens.inn (h : Tens w B m ts bs) : ∀ b ∈ bs, b < w.heap.size := by
  intro b hb
  obtain ⟨j, hj⟩ := List.getElem?_of_mem hb
  have hl := (List.getElem?_eq_some_iff.1 hj).1
  have hlen := h.len
  have ht : j / 2 < ts.length := by omega
  have hbx := (h.box (j / 2) _ (List.getElem?_eq_getElem ht)).lt
  by_cases he : j % 2 = 0
  · have e : 2 * (j / 2) = j := by omega
    have := hbx.1
    rw [e, getD_of hj] at this
    exact this
  · have e : 2 * (j / 2) + 1 = j := by omega
    have := hbx.2
    rw [e, getD_of hj] at this
    exact this
theorem Tens.below (h : Tens w B m ts bs) (hb : Below w.heap.size w w') : Tens w' B m ts bs := by
  obtain ⟨D, h1, h2⟩ := h.own
  exact ⟨h.len, ⟨D, own_same h1 (hb.block _ h1.lt), h2⟩, fun t x ht => (h.box t x ht).below hb, h.new, h.nodup, h.ge⟩
theorem Tens.start (w : World) : Tens (w.alloc (.map #[] 0)) w.heap.size w.heap.size [] [] :=
  ⟨rfl, ⟨_, World.ownsMap_made _ _ _ _, tidy_empty, ⟨fun _ => rfl, (fun t p h => by simp at h), List.nodup_nil⟩⟩, (fun t x h => by simp at h), (fun b h => by simp at h), List.nodup_nil, Nat.le_refl _⟩
theorem Tens.push (h : Tens w B m ts bs) (x : K.Ten) {sb eb : Nat} (hb : Box w sb eb (0, 0) (num0 x.q) []) (hn : ∀ b ∈ bs, b < sb ∧ b < eb) (hs : B ≤ sb ∧ B ≤ eb) (hm : m < sb ∧ m < eb) (hf : ∀ y ∈ ts, y.n.data.toList ≠ x.n.data.toList) {D : DataW Unit} (hT : Tidy D) (hH : TenHold D (ts.map nameOf) (fun t => bs.getD (2 * t) 0))
    (hown : w'.ownsMap Tryz.prog 9 tenE m (ts.length + 1) (D.put (.string x.n.data.toList) (tenD x.k.data.toList sb))) (hg : w.grownBy w' (some m)) : Tens w' B m (ts ++ [x]) (bs ++ [sb, eb]) := by
  have hlen := h.len
  have g0 : ∀ j, j < bs.length → (bs ++ [sb, eb]).getD j 0 = bs.getD j 0 := fun j hj => by simp [List.getD, List.getElem?_append_left hj]
  have g1 : (bs ++ [sb, eb]).getD (2 * ts.length) 0 = sb := by
    rw [← hlen]; simp [List.getD]
  have g2 : (bs ++ [sb, eb]).getD (2 * ts.length + 1) 0 = eb := by
    rw [← hlen]; simp [List.getD]
  have blk : ∀ k, k < w.heap.size → k ≠ m → w'.heap[k]? = w.heap[k]? := fun k hk hne => hg.block k hk (fun e => hne (Option.some.inj e))
  refine ⟨?_, ⟨D.put (.string x.n.data.toList) (tenD x.k.data.toList sb), ?_, hT.put (isKey _) _, ?_⟩, fun t y hy => ?_, fun b hb' => ?_, ?_, h.ge⟩
  · simp only [List.length_append, List.length_cons, List.length_nil]; omega
  · rw [show (ts ++ [x]).length = ts.length + 1 by simp]
    exact hown
  · rw [List.map_append]
    refine hH.push hT (nameOf x) sb (fun q hq => ?_) (fun t ht => g0 _ (by rw [List.length_map] at ht; omega)) (by rw [List.length_map]; exact g1)
    obtain ⟨y, hy, rfl⟩ := List.mem_map.1 hq
    exact hf y hy
  · rcases Nat.lt_or_ge t ts.length with hl | hl
    · rw [List.getElem?_append_left hl] at hy
      rw [g0 _ (by omega), g0 _ (by omega)]
      have hbx := h.box t y hy
      have m1 : bs.getD (2 * t) 0 ∈ bs := by
        have : 2 * t < bs.length := by omega
        simp [List.getD, List.getElem?_eq_getElem this]
      have m2 : bs.getD (2 * t + 1) 0 ∈ bs := by
        have : 2 * t + 1 < bs.length := by omega
        simp [List.getD, List.getElem?_eq_getElem this]
      exact hbx.same (blk _ hbx.lt.1 (h.new _ m1).2) (blk _ hbx.lt.2 (h.new _ m2).2)
    · rw [List.getElem?_append_right hl] at hy
      have h0 : t - ts.length = 0 := by
        have := (List.getElem?_eq_some_iff.1 hy).1
        simp only [List.length_cons, List.length_nil] at this
        omega
      rw [h0] at hy
      have hy' : x = y := by simpa using hy
      subst hy'
      have ht' : t = ts.length := by omega
      rw [ht', g1, g2]
      exact hb.same (blk _ hb.lt.1 (by omega)) (blk _ hb.lt.2 (by omega))
  · rcases List.mem_append.1 hb' with h1 | h1
    · exact h.new b h1
    · simp only [List.mem_cons, List.not_mem_nil, or_false] at h1
      rcases h1 with rfl | rfl
      · exact ⟨hs.1, by omega⟩
      · exact ⟨hs.2, by omega⟩
  · rw [List.nodup_append]
    refine ⟨h.nodup, ?_, ?_⟩
    · have := hb.ne
      simp [this]
    · intro a ha c hc he
      subst he
      have := hn a ha
      simp only [List.mem_cons, List.not_mem_nil, or_false] at hc
      omega
end

/-- what a block is for: its place in the list -/
def tagB : List Nat → Nat → Nat → Nat
  | [], _, _ => 0
  | b :: r, i, k => if k = b then i else tagB r (i + 1) k
theorem tagB_at : ∀ (bs : List Nat) (i j b : Nat), bs.Nodup → bs[j]? = some b → tagB bs i b = i + j
  | [], _, _, _, _, h => by simp at h
  | c :: r, i, j, b, hn, h => by
    obtain ⟨h1, h2⟩ := List.nodup_cons.1 hn
    unfold tagB
    cases j with
    | zero =>
      have : c = b := by simpa using h
      rw [if_pos this.symm]; rfl
    | succ j =>
      have h' : r[j]? = some b := by simpa using h
      have : b ≠ c := fun e => h1 (e ▸ List.mem_of_getElem? h')
      rw [if_neg this, tagB_at r (i + 1) j b h2 h']; omega
theorem tagB_none : ∀ (bs : List Nat) (i k : Nat), k ∉ bs → tagB bs i k = 0
  | [], _, _, _ => rfl
  | c :: r, i, k, h => by
    unfold tagB
    have hne : k ≠ c := fun e => h (by rw [e]; exact List.mem_cons_self)
    rw [if_neg hne, tagB_none r (i + 1) k (fun hm => h (List.mem_cons_of_mem _ hm))]

def Lay.made (H m : Nat) (ts : List K.Ten) (bs : List Nat) : Lay :=
  { g := H + 1, T := m, C := H, N := ts.length, sb := fun t => bs.getD (2 * t) 0, eb := fun t => bs.getD (2 * t + 1) 0, cb := fun _ => 0, τ := fun k => if k = H + 1 then 2 else if k = m then 3 else if k = H then 4 else tagB bs 10 k, names := ts.map nameOf }
def madeW (w : World) (m n : Nat) : World := (w.alloc (.cells (Array.replicate n (Value.pointer none)) 89)).alloc (.cells #[.map (some m), .slice (some ⟨w.heap.size, 0, none⟩) n n, .int .i64 0] 87)
theorem inn_none : ∀ n, innSum (List.replicate n none) = 0
  | 0 => rfl
  | n + 1 => by
    have := inn_none n
    unfold innSum at this ⊢
    rw [List.replicate_succ, List.map_cons, List.sum_cons, this]
theorem srv_made {w : World} {B m n : Nat} {ts : List K.Ten} {bs : List Nat} (h : Tens w B m ts bs) (hB : 8 ≤ B) (h5 : ts.length ≤ 5) (hq : ∀ t ∈ ts, t.q ≤ 2000) (hn : n ≤ 8) : SrvAt (Lay.made w.heap.size m ts bs) (madeW w m n) (M.opened (ts.map K.Ten.plain) n) 0 0 := by
  have hm := h.lt
  have hbl : Below w.heap.size w (madeW w m n) := ((Below.refl _ _).alloc (Nat.le_refl _) _).alloc (by simp) _
  have hT := h.below hbl
  have hsz : (madeW w m n).heap.size = w.heap.size + 2 := by unfold madeW; simp
  have hg : (madeW w m n).heap[w.heap.size + 1]? = some (.cells #[.map (some m), .slice (some ⟨w.heap.size, 0, none⟩) n n, .int .i64 0] 87 (0, 0)) := by
    unfold madeW
    exact K.alloc_at _ _ _ (by simp)
  have hC : (madeW w m n).heap[w.heap.size]? = some (.cells (Array.replicate n (Value.pointer none)) 89 (0, 0)) := by
    unfold madeW
    exact alloc_old (alloc_here _ _)
  have tb : ∀ j b, bs[j]? = some b → (Lay.made w.heap.size m ts bs).τ b = 10 + j := by
    intro j b hj
    have h1 := List.mem_of_getElem? hj
    have h2 := h.inn b h1
    have h3 := (h.new b h1).2
    show (if b = w.heap.size + 1 then 2 else if b = m then 3 else if b = w.heap.size then 4 else tagB bs 10 b) = _
    rw [if_neg (by omega), if_neg h3, if_neg (by omega), tagB_at bs 10 j b h.nodup hj]
  have hlen := h.len
  refine ⟨?_, ?_, ?_, fun t ht => ?_, fun t ht => ?_, h5, fun k hk => ?_, ?_, fun k hk => ?_, ⟨?_, ?_, ?_, Nat.zero_le _, ?_, ?_, ?_⟩, ?_, ?_, ?_, ?_, ?_, ?_, ?_, ?_⟩
  · exact if_pos rfl
  · show (if m = w.heap.size + 1 then 2 else if m = m then 3 else if m = w.heap.size then 4 else tagB bs 10 m) = 3
    rw [if_neg (by omega), if_pos rfl]
  · show (if w.heap.size = w.heap.size + 1 then 2 else if w.heap.size = m then 3 else if w.heap.size = w.heap.size then 4 else tagB bs 10 w.heap.size) = 4
    rw [if_neg (by omega), if_neg (by omega), if_pos rfl]
  · have ht' : t < ts.length := ht
    have hj : 2 * t < bs.length := by omega
    exact tb (2 * t) _ (by show bs[2 * t]? = some (bs.getD (2 * t) 0); simp [List.getD, List.getElem?_eq_getElem hj])
  · have ht' : t < ts.length := ht
    have hj : 2 * t + 1 < bs.length := by omega
    rw [tb (2 * t + 1) _ (by show bs[2 * t + 1]? = some (bs.getD (2 * t + 1) 0); simp [List.getD, List.getElem?_eq_getElem hj])]
    omega
  · have h1 := h.ge
    show (if k = w.heap.size + 1 then 2 else if k = m then 3 else if k = w.heap.size then 4 else tagB bs 10 k) = 0
    rw [if_neg (by omega), if_neg (by omega), if_neg (by omega)]
    exact tagB_none bs 10 k (fun hk' => by have := (h.new k hk').1; omega)
  · have := h.ge
    rw [hsz]; omega
  · rw [hsz]
    rcases Nat.lt_or_ge k (w.heap.size + 2) with h1 | h1
    · exact h1
    · exfalso
      apply hk
      show (if k = w.heap.size + 1 then 2 else if k = m then 3 else if k = w.heap.size then 4 else tagB bs 10 k) = 0
      rw [if_neg (by omega), if_neg (by omega), if_neg (by omega)]
      exact tagB_none bs 10 k (fun hk' => by have := h.inn k hk'; omega)
  · show ((ts.map K.Ten.plain).map (fun t => (t.1, t.2.1))) = ts.map nameOf
    rw [List.map_map]; rfl
  · show ((ts.map K.Ten.plain).map (fun t => M.emptyStore t.2.2)).length = ts.length
    simp
  · show (ts.map nameOf).length = ts.length
    simp
  · intro t s hs
    have hs' : ((ts.map K.Ten.plain).map (fun t => M.emptyStore t.2.2))[t]? = some s := hs
    rw [List.map_map, List.getElem?_map] at hs'
    cases hx : ts[t]? with
    | none => rw [hx] at hs'; cases hs'
    | some x =>
      rw [hx] at hs'
      cases hs'
      refine ⟨num0 x.q, [], hT.box t x hx, ?_, rfl⟩
      have hqx := hq x (List.mem_of_getElem? hx)
      exact ⟨List.Pairwise.nil, (fun p hp => by simp at hp), rfl, Nat.zero_le _, hqx, Nat.le_refl _, Nat.le_refl _, Nat.le_refl _, Nat.le_refl _, Nat.le_refl _, (fun p hp => by simp at hp)⟩
  · exact ⟨_, hg⟩
  · obtain ⟨D, h1, h2, h3⟩ := hT.own
    exact ⟨D, _, h1, h3⟩
  · show (madeW w m n).heap[w.heap.size + 1]? = some (.cells #[.map (some m), .slice (some ⟨w.heap.size, 0, none⟩) (List.replicate n (none : Option M.Conn)).length (List.replicate n (none : Option M.Conn)).length, .int .i64 0] 87 (0, 0))
    rw [List.length_replicate]; exact hg
  · refine ⟨_, hC, ?_, fun i hi => ?_, fun i x hi => ?_⟩
    · show _ = (List.replicate n (none : Option M.Conn)).length
      simp
    · have hi' : (List.replicate n (none : Option M.Conn))[i]? = some none := hi
      have hl := (List.getElem?_eq_some_iff.1 hi').1
      rw [List.length_replicate] at hl
      simp [Array.getElem?_replicate, hl]
    · have hi' : (List.replicate n (none : Option M.Conn))[i]? = some (some x) := hi
      rw [List.getElem?_replicate] at hi'
      split at hi' <;> simp at hi'
  all_goals first
    | (intro i x hi
       have hi' : (List.replicate n (none : Option M.Conn))[i]? = some (some x) := hi
       rw [List.getElem?_replicate] at hi'
       exfalso
       split at hi' <;> simp at hi'
       done)
    | skip
  · intro S hS
    have hS' : S ∈ (ts.map K.Ten.plain).map (fun t => M.emptyStore t.2.2) := hS
    obtain ⟨t, _, rfl⟩ := List.mem_map.1 hS'
    intro e he
    cases he
  · show 0 + innSum (List.replicate n none) ≤ 0
    rw [inn_none]; exact Nat.le_refl _
  · show (List.replicate n (none : Option M.Conn)).length ≤ 8
    rw [List.length_replicate]; exact hn
end Go.Proofs.YtdpnpcjbjjjceaaGreatDoor.S
namespace Go.Proofs.YtdpnpcjbjjjceaaGreatDoor.S
open Go.RowKit Go.Maps Go.MuLone Go.Proofs.YtdpnpcjbjjjceaaGreatDoor

theorem letters_c (s : ByteArray) (w : World) (hs : s.size ≤ 9223372036854775806) : Calls Tryz.prog 81 #[.string s, .int .i64 8] w fun e w' => e = .returned (.bool (P.withinS s 8 97 122)) ∧ w' = w := by
  go_enter Tryz.func81, Tryz.ntmps81
  go_wp2_with (go_at_call 116; refine (within_c s 8 97 122 _ hs).mono ?_; rintro e w' ⟨rfl, rfl⟩)
  go_ret
  exact ⟨rfl, rfl⟩
theorem flat_at : ∀ (ts : List K.Ten) (i : Nat) (x : K.Ten), ts[i]? = some x → (K.flatT ts)[i * 3]? = some (.string x.n) ∧ (K.flatT ts)[i * 3 + 1]? = some (.string x.k) ∧ (K.flatT ts)[i * 3 + 2]? = some (.int .i64 x.q)
  | [], _, _, h => by simp at h
  | y :: r, 0, x, h => by
    have : y = x := by simpa using h
    subst this
    exact ⟨rfl, rfl, rfl⟩
  | y :: r, i + 1, x, h => by
    obtain ⟨h1, h2, h3⟩ := flat_at r i x (by simpa using h)
    have e : K.flatT (y :: r) = .string y.n :: .string y.k :: .int .i64 y.q :: K.flatT r := rfl
    rw [e]
    refine ⟨?_, ?_, ?_⟩
    · rw [show (i + 1) * 3 = i * 3 + 1 + 1 + 1 by omega]; simpa using h1
    · rw [show (i + 1) * 3 + 1 = i * 3 + 1 + 1 + 1 + 1 by omega]; simpa using h2
    · rw [show (i + 1) * 3 + 2 = i * 3 + 2 + 1 + 1 + 1 by omega]; simpa using h3
theorem ok_within {x : K.Ten} (h : K.tenOk x = true) : P.withinS x.n 8 97 122 = true ∧ P.withinS x.k 16 33 126 = true ∧ 1 ≤ x.q ∧ x.q ≤ 2000 ∧ x.n.size ≤ 8 ∧ x.k.size ≤ 16 := by
  unfold K.tenOk at h
  simp only [Bool.and_eq_true, decide_eq_true_eq, List.all_eq_true] at h
  obtain ⟨⟨⟨⟨⟨⟨⟨h1, h2⟩, h3⟩, h4⟩, h5⟩, h6⟩, h7⟩, h8⟩ := h
  have e1 : x.n.data.toList.length = x.n.size := Array.length_toList
  have e2 : x.k.data.toList.length = x.k.size := Array.length_toList
  refine ⟨?_, ?_, h7, h8, h2, h5⟩
  · unfold P.withinS P.within P.okByte
    simp only [Bool.and_eq_true, decide_eq_true_eq, List.all_eq_true, e1]
    refine ⟨⟨h1, by omega⟩, fun b hb => ?_⟩
    have := h3 b hb
    omega
  · unfold P.withinS P.within P.okByte
    simp only [Bool.and_eq_true, decide_eq_true_eq, List.all_eq_true, e2]
    refine ⟨⟨h4, by omega⟩, fun b hb => ?_⟩
    have := h6 b hb
    omega
set_option maxRecDepth 20000 in
theorem mayBe_t (x : K.Ten) (w : World) (h : K.tenOk x = true) : Calls Tryz.prog 64 #[.agg #[.string x.n, .string x.k, .int .i64 x.q]] w fun e w' => e = .returned (.bool true) ∧ Below w.heap.size w w' := by
  obtain ⟨h1, h2, h3, h4, h5, h6⟩ := ok_within h
  have c1 := fun W => letters_c x.n W (Nat.le_trans h5 (by decide))
  have c2 := fun W => word_c x.k 16 W (Nat.le_trans h6 (by decide))
  rw [h1] at c1
  rw [h2] at c2
  have k1 : (1 : Int) ≤ x.q := by omega
  have k2 : (x.q : Int) ≤ 2000 := by omega
  clear h1 h2 h h3 h4 h5 h6
  go_enter Tryz.func64, Tryz.ntmps64
  go_wp2_with (first
    | (go_at_call 81; refine (c1 _).mono ?_; rintro e w1 ⟨rfl, hw⟩; rw [hw]; clear hw)
    | (go_at_call 82; refine (c2 _).mono ?_; rintro e w1 ⟨rfl, hw⟩; rw [hw]; clear hw))
  go_ret
  exact ⟨by first | rfl | (simp <;> omega), (Below.refl _ _).alloc (Nat.le_refl _) _⟩
theorem run_makeMap0 {P : Program} {t k e : TypeId} (ht : P.underlying t = some (.map k e)) (w : World) : (Instr.makeMap t none).run P w = .ok (.map (some w.heap.size)) (w.alloc (.map #[] 0)) := by
  simp [Instr.makeMap, run_underlying ht]
theorem run_makeMapN {P : Program} {t k e : TypeId} (ht : P.underlying t = some (.map k e)) (w : World) (n : Int) : (Instr.makeMap t (some (.int .i64 n))).run P w = .ok (.map (some w.heap.size)) (w.alloc (.map #[] 0)) := by
  simp [Instr.makeMap, run_underlying ht]
  rfl
set_option maxRecDepth 20000 in
theorem snew_c (q : Nat) (w : World) : Calls Tryz.prog 65 #[.int .i64 q] w fun e w' => ∃ sb eb, e = .returned (.pointer (some ⟨sb, 0, none⟩)) ∧ Box w' sb eb (0, 0) (num0 q) [] ∧ w.heap.size ≤ sb ∧ w.heap.size ≤ eb ∧ Below w.heap.size w w' := by
  have hmm := fun w => run_makeMap0 Tryz.underlying153 w
  go_enter Tryz.func65, Tryz.ntmps65
  go_wp2
  go_ret
  refine ⟨w.heap.size + 1, w.heap.size, rfl, ⟨?_, .map [], ?_, holds_nil⟩, by omega, Nat.le_refl _, ?_⟩
  · exact K.alloc_at _ _ _ (by simp)
  · exact (World.ownsMap_made _ _ _ _).alloc _
  · exact ((Below.refl _ _).alloc (Nat.le_refl _) _).alloc (by simp) _
end Go.Proofs.YtdpnpcjbjjjceaaGreatDoor.S
namespace Go.Proofs.YtdpnpcjbjjjceaaGreatDoor.S
open Go.RowKit Go.Maps Go.MuLone Go.Proofs.YtdpnpcjbjjjceaaGreatDoor

structure Mb (w0 : World) (m g : Nat) (ts : List K.Ten) (bs : List Nat) (x : K.Ten) (W : World) : Prop where
  blk : W.heap[g]? = some (.cells #[.string x.n, .string x.k, .int .i64 x.q] 32 (0, 0))
  tens : Tens W w0.heap.size m ts bs
  bel : Below w0.heap.size w0 W
section
variable {w0 : World} {m g : Nat} {ts : List K.Ten} {bs : List Nat} {x : K.Ten} {W W' : World}
theorem Mb.below (h : Mb w0 m g ts bs x W) (hb : Below W.heap.size W W') : Mb w0 m g ts bs x W' :=
  ⟨(hb.block _ (Array.getElem?_eq_some_iff.1 h.blk).1).trans h.blk, h.tens.below hb, h.bel.trans (hb.mono h.bel.size)⟩
theorem Mb.drew (h : Mb w0 m g ts bs x W) : Mb w0 m g ts bs x W.drew := h.below (Below.refl _ _).drew
theorem Mb.al (h : Mb w0 m g ts bs x W) (o : Obj) : Mb w0 m g ts bs x (W.alloc o) := h.below ((Below.refl _ _).alloc (Nat.le_refl _) o)
theorem Mb.s (h : Mb w0 m g ts bs x W) : W.cell? ⟨g, 0, none⟩ = some (.string x.n) ∧ W.cell? ⟨g, 0 + 1, none⟩ = some (.string x.k) ∧ W.cell? ⟨g, 0 + 2, none⟩ = some (.int .i64 x.q) :=
  ⟨heap_cell h.blk 0 rfl, heap_cell h.blk 1 rfl, heap_cell h.blk 2 rfl⟩
theorem Mb.grown (h : Mb w0 m g ts bs x W) (hg : W.grownBy W' (some m)) : W'.cell? ⟨g, 0, none⟩ = some (.string x.n) ∧ W'.cell? ⟨g, 0 + 1, none⟩ = some (.string x.k) ∧ W'.cell? ⟨g, 0 + 2, none⟩ = some (.int .i64 x.q) := by
  have hne : g ≠ m := by
    rintro rfl
    obtain ⟨D, ⟨es, clock, h1, _⟩, _⟩ := h.tens.own
    rw [h.blk] at h1; cases h1
  have hb : W'.heap[g]? = _ := (hg.block g (Array.getElem?_eq_some_iff.1 h.blk).1 (fun e => hne (Option.some.inj e))).trans h.blk
  exact ⟨heap_cell hb 0 rfl, heap_cell hb 1 rfl, heap_cell hb 2 rfl⟩
theorem Mb.up (h : Mb w0 m g ts bs x W) (hk : keyOf Tryz.prog 9 (.string x.n) = some (.string x.n.data.toList)) (hl : ts.length ≤ 5) {sb eb : Nat} (hb : Box W sb eb (0, 0) (num0 x.q) []) (hn : ∀ b ∈ bs, b < sb ∧ b < eb) (hs : w0.heap.size ≤ sb ∧ w0.heap.size ≤ eb) (hm : m < sb ∧ m < eb) (hf : ∀ y ∈ ts, y.n.data.toList ≠ x.n.data.toList) :
    ∃ w5, (Instr.mapUpdate 82 (.map (some m)) (.string x.n) (.agg #[.string x.k, .pointer (some ⟨sb, 0, none⟩)])).run Tryz.prog W = .ok () w5 ∧ (w5.cell? ⟨g, 0, none⟩ = some (.string x.n) ∧ w5.cell? ⟨g, 0 + 1, none⟩ = some (.string x.k) ∧ w5.cell? ⟨g, 0 + 2, none⟩ = some (.int .i64 x.q)) ∧ Hid (Tens w5 w0.heap.size m (ts ++ [x]) (bs ++ [sb, eb])) ∧ Hid (Below w0.heap.size w0 w5) := by
  obtain ⟨D, hD, hT, hH⟩ := h.tens.own
  obtain ⟨w5, hrun, hown5, hgrow5⟩ := hD.update keyed Tryz.underlying82 (by unfold maxLen; omega) hk (val := .agg #[.string x.k, .pointer (some ⟨sb, 0, none⟩)]) (d := tenD x.k.data.toList sb) (ps := []) rfl
  exact ⟨w5, hrun, h.grown hgrow5, h.tens.push x hb hn hs hm hf hT hH hown5 hgrow5, h.bel.grown hgrow5 h.bel.size (fun j hj => by cases hj; exact h.tens.ge)⟩
theorem clone_mb (h : Mb w0 m g ts bs x W) (s : ByteArray) (hs : s.size ≤ 16) :
    Calls Tryz.prog 47 #[.string s] W fun e w' => e = .returned (.string s) ∧ Mb w0 m g ts bs x w' :=
  (clone_s s W (Nat.le_trans hs (by decide))).mono (by rintro e w' ⟨rfl, hb⟩; exact ⟨rfl, h.below hb⟩)
theorem new_mb (h : Mb w0 m g ts bs x W) :
    Calls Tryz.prog 65 #[.int .i64 x.q] W fun e w' => ∃ sb eb, e = .returned (.pointer (some ⟨sb, 0, none⟩)) ∧ Mb w0 m g ts bs x w' ∧ Box w' sb eb (0, 0) (num0 x.q) [] ∧ W.heap.size ≤ sb ∧ W.heap.size ≤ eb ∧ Hid (∀ b ∈ bs, b < sb ∧ b < eb) ∧ m < sb ∧ m < eb ∧ w0.heap.size ≤ sb ∧ w0.heap.size ≤ eb :=
  (snew_c x.q W).mono (by
    rintro e w' ⟨sb, eb, rfl, hB, h1, h2, hb⟩
    have h3 := h.tens.lt
    have h4 := h.bel.size
    refine ⟨sb, eb, rfl, h.below hb, hB, h1, h2, fun b hb' => ?_, by omega, by omega, by omega, by omega⟩
    have := h.tens.inn b hb'
    exact ⟨by omega, by omega⟩)
end
theorem take_step {ts : List K.Ten} {i : Nat} {x : K.Ten} (h : ts[i]? = some x) : ts.take (i + 1) = ts.take i ++ [x] := by
  rw [List.take_add_one, h]; rfl
theorem fresh_name {ts : List K.Ten} (hn : (ts.map (·.n)).Nodup) {i : Nat} {x : K.Ten} (h : ts[i]? = some x) : ∀ y ∈ ts.take i, y.n.data.toList ≠ x.n.data.toList := by
  intro y hy he
  obtain ⟨j, hj⟩ := List.getElem?_of_mem hy
  have hl := (List.getElem?_eq_some_iff.1 hj).1
  rw [List.length_take] at hl
  have hj2 : ts[j]? = some y := by rw [List.getElem?_take] at hj; split at hj; exact hj; cases hj
  have hn' : y.n = x.n := by rw [bytes_eq he]
  have h1 : (ts.map (·.n))[j]? = some x.n := by rw [List.getElem?_map, hj2]; simp [hn']
  have h2 : (ts.map (·.n))[i]? = some x.n := by rw [List.getElem?_map, h]; rfl
  obtain ⟨l1, e1⟩ := List.getElem?_eq_some_iff.1 h1
  obtain ⟨l2, e2⟩ := List.getElem?_eq_some_iff.1 h2
  exact (List.pairwise_iff_getElem.1 hn) j i l1 l2 (by omega) (e1.trans e2.symm)

set_option maxRecDepth 100000 in
set_option maxHeartbeats 4000000 in
theorem byName_t (b off n c : Nat) (ts : List K.Ten) (w : World) (hl : ts.length = n) (hT : ∀ j v, (K.flatT ts)[j]? = some v → w.cell? ⟨b, off + j, none⟩ = some v) (h1 : 1 ≤ n) (h5 : n ≤ 5) (hok : ∀ t ∈ ts, K.tenOk t = true) (hnd : (ts.map (·.n)).Nodup) :
    Calls Tryz.prog 48 #[.slice (some ⟨b, off, none⟩) n c] w fun e w' => ∃ m bs, e = .returned (.tuple #[.map (some m), .bool true]) ∧ Tens w' w.heap.size m ts bs ∧ Below w.heap.size w w' := by
  have k1 : ¬ (n : Int) < 1 := by omega
  have k5 : ¬ (5 : Int) < n := by omega
  have hmm := fun w n => run_makeMapN Tryz.underlying82 w n
  have hb : b < w.heap.size := by
    obtain ⟨x, hx⟩ : ∃ x, ts[0]? = some x := ⟨_, List.getElem?_eq_getElem (by omega)⟩
    exact World.block_lt_of_cell? _ _ (hT _ _ (flat_at ts 0 x hx).1)
  have HL := Hid.of hl
  have HT := Hid.of hT
  have HOK := Hid.of hok
  have HND := Hid.of hnd
  clear hl hT hok hnd
  go_enter Tryz.func48, Tryz.ntmps48
  go_wp2_with fail
  go_loopw [22] (fun i wx => ∃ j : Nat, j ≤ n ∧ i = .int .i64 j ∧ Hid (Below w.heap.size w wx) ∧ Hid (∃ bs, Tens wx w.heap.size w.heap.size (ts.take j) bs)) (fun i _ => n - (intOf i).toNat)
  case atStart => exact ⟨0, by omega, rfl, (Below.refl _ _).alloc (Nat.le_refl _) _, ⟨[], Tens.start w⟩⟩
  case round =>
    obtain ⟨i, hii, rfl, hbx, hown⟩ := hrel
    by_cases hlt : i < n
    · have klt : (i : Int) < n := by omega
      obtain ⟨x, hx⟩ : ∃ x, ts[i]? = some x := ⟨_, List.getElem?_eq_getElem (by rw [HL.out]; exact hlt)⟩
      have HX := Hid.of hx
      obtain ⟨z0, z1, z2⟩ := flat_at ts i x hx
      have hcell : ∀ j v, (K.flatT ts)[j]? = some v → wr.cell? ⟨b, off + j, none⟩ = some v := fun j v hj => (hbx.out.cell (p := ⟨b, off + j, none⟩) hb).trans (HT.out j v hj)
      have c0 : wr.cell? ⟨b, off + i * 3, none⟩ = some (.string x.n) := hcell _ _ z0
      have c1 : wr.cell? ⟨b, off + i * 3 + 1, none⟩ = some (.string x.k) := by have := hcell _ _ z1; rwa [← Nat.add_assoc] at this
      have c2 : wr.cell? ⟨b, off + i * 3 + 2, none⟩ = some (.int .i64 x.q) := by have := hcell _ _ z2; rwa [← Nat.add_assoc] at this
      clear z0 z1 z2 hcell
      have hxok := HOK.out x (List.mem_of_getElem? hx)
      obtain ⟨_, _, _, _, s1, s2⟩ := ok_within hxok
      have HF := Hid.of (fresh_name HND.out hx)
      have cG := Hid.of (fun W => mayBe_t x W hxok)
      obtain ⟨bs, hTens⟩ := hown.out
      obtain ⟨D, hD, hTidy, hHold⟩ := hTens.own
      have hh : Maps.has D (.string x.n.data.toList) = false := by
        rw [hHold.has, List.any_eq_false]
        intro p hp
        obtain ⟨y, hy, rfl⟩ := List.mem_map.1 hp
        have := HF.out y hy
        simpa [nameOf] using this
      have hat := atKey_of_not_has hh
      have HV : Hid (∀ u ps, tenE u = some (D.atKey (.string x.n.data.toList) (.agg [.lit (.string []), .nil]), ps) → u = .agg #[.string ⟨#[]⟩, .pointer none]) := fun u ps hu => by rw [hat] at hu; exact tenE_zero hu
      have HD := Hid.of hD
      have HTi := Hid.of hTidy
      have HHo := Hid.of hHold
      have HTe := Hid.of hTens
      have hbr : b < wr.heap.size := Nat.lt_of_lt_of_le hb hbx.out.size
      have hkey : keyOf Tryz.prog 9 (.string x.n) = some (.string x.n.data.toList) := WideMaps.keyOf_string_mk Tryz.underlying9 (Nat.le_trans s1 (by decide))
      clear hx hxok hown hat hTens hD hTidy hHold
      go_wp2_with (first
        | (at_lookup; refine lookup_ten _ rfl _ _ 82 rfl 9 120 keyed Tryz.underlying82 (zeroTen2 _) w.heap.size (ts.take i).length D rfl (HD.out.alloc _) _ _ rfl hkey _ false hh HV.out ?_)
        | (go_at_call 64; refine (cG.out _).mono ?_; rintro e w1 ⟨rfl, hb1⟩))
      have HB : Mb w w.heap.size wr.heap.size (ts.take i) bs x w1 := by
        have h0 : Mb w w.heap.size wr.heap.size (ts.take i) bs x ((wr.alloc (.cells #[.string x.n, .string x.k, .int .i64 x.q] 32)).alloc (.cells #[.string ⟨#[]⟩, .pointer none] 120)) :=
          ⟨alloc_old (alloc_here _ _), (HTe.out.below ((Below.refl _ _).alloc (Nat.le_refl _) _)).below ((Below.refl _ _).alloc (Nat.le_refl _) _), (hbx.out.alloc hbx.out.size _).alloc (by simp; exact Nat.le_succ_of_le hbx.out.size) _⟩
        exact h0.below hb1
      clear hb1 c0 c1 c2 cG hh hmm HV HTe HD
      go_region_held3 (fun w' => w'.cell? ⟨wr.heap.size, 0, none⟩ = some (.string x.n) ∧ w'.cell? ⟨wr.heap.size, 0 + 1, none⟩ = some (.string x.k) ∧ w'.cell? ⟨wr.heap.size, 0 + 2, none⟩ = some (.int .i64 x.q))
        ((first | exact hC5 | (refine Mb.s (w0 := w) (m := w.heap.size) (ts := ts.take i) (bs := bs) ?_; repeat (first | with_reducible assumption | with_reducible refine Mb.drew ?_ | with_reducible refine Mb.al ?_ _))))
        (first
          | (go_at_call 47; refine (clone_mb (by first | with_reducible assumption | exact Mb.drew (by with_reducible assumption)) x.n (Nat.le_trans s1 (by decide))).mono ?_; rintro e w2 ⟨rfl, hB2⟩)
          | (go_at_call 47; refine (clone_mb (by first | with_reducible assumption | exact Mb.drew (by with_reducible assumption)) x.k s2).mono ?_; rintro e w3 ⟨rfl, hB3⟩)
          | (go_at_call 65; refine (new_mb (by first | with_reducible assumption | exact Mb.drew (by with_reducible assumption))).mono ?_; rintro e w4 ⟨sb, eb, rfl, hB4, hBox, n1, n2, n3, n4, n5, n6, n7⟩; obtain ⟨w5, hrun, hC5, hT5, hb5⟩ := hB4.up hkey (by rw [List.length_take]; omega) hBox n3.out ⟨n6, n7⟩ ⟨n4, n5⟩ HF.out))
      rename_i hHeld; clear hHeld hB2 hB3 hB4 HB hBox n1 n2 n3 n4 n5 n6 n7 hrun hC5 HTi HHo
      go_wp2
      go_roundw
      case rel => exact ⟨i + 1, by omega, by go_num, hb5, ⟨_, by rw [take_step HX.out]; exact hT5.out⟩⟩
      case measure => simp [intOf] <;> omega
    · have klt : ¬ (i : Int) < n := by omega
      have e1 : i = n := by omega
      subst e1
      have HE : Hid (∃ bs, Tens wr w.heap.size w.heap.size ts bs) := by
        obtain ⟨bs, hb⟩ := hown.out
        rw [← HL.out, List.take_length] at hb
        exact ⟨bs, hb⟩
      clear hown
      go_wp2
      go_ret2
      obtain ⟨bs, hb⟩ := HE.out
      exact ⟨_, rfl, ⟨bs, hb⟩, hbx.out⟩
end Go.Proofs.YtdpnpcjbjjjceaaGreatDoor.S
