import Derived.Maps.OwnSet
import Derived.Maps.RangeWalk
import Derived.Test.YtdpnpcjbjjjceaaGreatDoorBPlain
set_option linter.unusedSimpArgs false
set_option linter.unusedVariables false
namespace Go.Proofs.YtdpnpcjbjjjceaaGreatDoor.S
open Go Go.Maps Go.Proofs.YtdpnpcjbjjjceaaGreatDoor

/-
A tenant's store as the program keeps it, in plain words: the entries in the order in which they were used, each with the number of its last use.
-/
abbrev Row := M.Entry × Nat
def str (l : M.Bytes) : Value := .string ⟨l.toArray⟩
def int (n : Nat) : Value := .int .i64 n
def entD (p : Row) : DataW Unit := .agg [.lit (.string p.1.key), .lit (.string p.1.value), .lit (.int .i64 p.1.flags), .lit (.int .i64 p.1.mark), .lit (.int .i64 p.1.stop), .lit (.int .i64 p.2)]
def entV (p : Row) : Value := .agg #[str p.1.key, str p.1.value, int p.1.flags, int p.1.mark, int p.1.stop, int p.2]
def entElem (v : Value) : Option (DataW Unit × List MemPlace) :=
  match v with
  | .agg a => match a.toList with
    | [.string k, .string v, .int .i64 f, .int .i64 m, .int .i64 e, .int .i64 u] => some (.agg [.lit (.string k.data.toList), .lit (.string v.data.toList), .lit (.int .i64 f), .lit (.int .i64 m), .lit (.int .i64 e), .lit (.int .i64 u)], [])
    | _ => none
  | _ => none
theorem entElem_mk (p : Row) : entElem (entV p) = some (entD p, []) := rfl
theorem bytes_eq {b : ByteArray} {l : List UInt8} (h : b.data.toList = l) : b = ⟨l.toArray⟩ := by
  subst h; rfl
theorem entElem_inv {v : Value} {p : Row} {ps : List MemPlace} (h : entElem v = some (entD p, ps)) : v = entV p := by
  unfold entElem at h
  split at h
  · rename_i a
    split at h
    · rename_i k v f m e u he
      simp only [entD, Option.some.injEq, Prod.mk.injEq, DataW.agg.injEq, List.cons.injEq, DataW.lit.injEq, Lit.string.injEq, Lit.int.injEq, true_and, and_true] at h
      obtain ⟨⟨h1, h2, h3, h4, h5, h6⟩, _⟩ := h
      unfold entV str int
      congr 1
      apply Array.ext'
      rw [he, bytes_eq h1, bytes_eq h2, h3, h4, h5, h6]
    · cases h
  · cases h
theorem entElem_shape {v : Value} {y : DataW Unit × List MemPlace} (h : entElem v = some y) : ∃ c : ByteArray × ByteArray × Int × Int × Int × Int, v = .agg #[.string c.1, .string c.2.1, .int .i64 c.2.2.1, .int .i64 c.2.2.2.1, .int .i64 c.2.2.2.2.1, .int .i64 c.2.2.2.2.2] := by
  unfold entElem at h
  split at h
  · rename_i a
    split at h
    · rename_i k v f m e u he
      refine ⟨(k, v, f, m, e, u), ?_⟩
      congr 1
      apply Array.ext'
      rw [he]
    · cases h
  · cases h

def hasK (k : M.Bytes) (p : Row) : Bool := M.has k p.1
def findR (rs : List Row) (k : M.Bytes) : Option Row := rs.find? (hasK k)
def goneR (rs : List Row) (k : M.Bytes) : List Row := rs.eraseP (hasK k)
theorem find_fst (rs : List Row) (k : M.Bytes) : M.find (rs.map (·.1)) k = (findR rs k).map (·.1) := by
  unfold M.find findR
  rw [List.find?_map]; rfl
theorem gone_fst (rs : List Row) (k : M.Bytes) : M.gone (rs.map (·.1)) k = (goneR rs k).map (·.1) := by
  unfold M.gone goneR
  induction rs with
  | nil => rfl
  | cons p r ih =>
    simp only [List.map_cons, List.eraseP_cons]
    show (bif M.has k p.1 then _ else _) = List.map _ (bif M.has k p.1 then _ else _)
    cases M.has k p.1
    · simp only [cond_false, List.map_cons, ih]
    · simp only [cond_true]
theorem hasK_iff (k : M.Bytes) (p : Row) : hasK k p = true ↔ p.1.key = k := by simp [hasK, M.has]

/-- the map reads as these rows, in whatever order -/
structure Holds (D : DataW Unit) (rs : List Row) : Prop where
  tidy : Tidy D
  has : ∀ k : M.Bytes, Maps.has D (.string k) = rs.any (hasK k)
  at_ : ∀ p ∈ rs, ∀ z, D.atKey (.string p.1.key) z = entD p
  nodup : (rs.map (fun p => p.1.key)).Nodup
  size : Maps.size D = rs.length
theorem holds_nil : Holds (.map []) [] := ⟨tidy_empty, fun _ => rfl, (fun _ h => by cases h), List.nodup_nil, rfl⟩
theorem key_ne {a b : M.Bytes} (h : a ≠ b) : (Lit.string a : Lit) ≠ .string b := fun e => h (by injection e)
theorem isKey (k : M.Bytes) : WideAt.IsKeyLit (.string k) := trivial
theorem any_find (rs : List Row) (k : M.Bytes) : rs.any (hasK k) = (findR rs k).isSome := by
  unfold findR
  induction rs with
  | nil => rfl
  | cons p r ih =>
    rw [List.any_cons, List.find?_cons]
    cases hasK k p
    · simpa using ih
    · rfl
theorem find_mem {rs : List Row} {k : M.Bytes} {p : Row} (h : findR rs k = some p) : p ∈ rs ∧ p.1.key = k :=
  ⟨List.mem_of_find?_eq_some h, (hasK_iff k p).1 (List.find?_some h)⟩
theorem find_none {rs : List Row} {k : M.Bytes} (h : findR rs k = none) : ∀ p ∈ rs, p.1.key ≠ k := by
  intro p hp he
  have := List.find?_eq_none.1 h p hp
  exact this ((hasK_iff k p).2 he)
theorem gone_none {rs : List Row} {k : M.Bytes} (h : ∀ p ∈ rs, p.1.key ≠ k) : goneR rs k = rs :=
  List.eraseP_of_forall_not (fun p hp he => h p hp ((hasK_iff k p).1 he))
theorem gone_sub (rs : List Row) (k : M.Bytes) : List.Sublist (goneR rs k) rs := List.eraseP_sublist
theorem gone_filter : ∀ (rs : List Row) (k : M.Bytes), (rs.map (fun p => p.1.key)).Nodup → goneR rs k = rs.filter (fun p => !hasK k p)
  | [], _, _ => rfl
  | p :: r, k, h => by
    obtain ⟨h1, h2⟩ := List.nodup_cons.1 h
    unfold goneR
    rw [List.eraseP_cons, List.filter_cons]
    cases hp : hasK k p
    · simp only [cond_false, Bool.not_false, if_true]
      exact congrArg (p :: ·) (gone_filter r k h2)
    · simp only [cond_true, Bool.not_true, Bool.false_eq_true, if_false]
      symm
      rw [List.filter_eq_self]
      intro q hq
      cases hk : hasK k q
      · rfl
      · exfalso
        exact h1 (List.mem_map.2 ⟨q, hq, ((hasK_iff k q).1 hk).trans ((hasK_iff k p).1 hp).symm⟩)
theorem any_gone {rs : List Row} {k j : M.Bytes} (hn : (rs.map (fun p => p.1.key)).Nodup) (h : j ≠ k) : (goneR rs k).any (hasK j) = rs.any (hasK j) := by
  rw [gone_filter rs k hn]
  induction rs with
  | nil => rfl
  | cons p r ih =>
    have hn2 := (List.nodup_cons.1 hn).2
    rw [List.filter_cons]
    cases hp : hasK k p
    · simp only [Bool.not_false, if_true, List.any_cons, ih hn2]
    · simp only [Bool.not_true, Bool.false_eq_true, if_false, List.any_cons, ih hn2]
      have : hasK j p = false := by
        cases hj : hasK j p
        · rfl
        · exact absurd (((hasK_iff j p).1 hj).symm.trans ((hasK_iff k p).1 hp)) h
      rw [this]; rfl
theorem any_gone_same {rs : List Row} {k : M.Bytes} (hn : (rs.map (fun p => p.1.key)).Nodup) : (goneR rs k).any (hasK k) = false := by
  rw [gone_filter rs k hn]
  rw [List.any_eq_false]
  intro p hp
  have := (List.mem_filter.1 hp).2
  intro h
  rw [h] at this; cases this
theorem gone_key_ne {rs : List Row} {k : M.Bytes} (hn : (rs.map (fun p => p.1.key)).Nodup) : ∀ p ∈ goneR rs k, p.1.key ≠ k := by
  intro p hp he
  have := List.any_eq_false.1 (any_gone_same (k := k) hn) p hp
  exact this ((hasK_iff k p).2 he)
theorem gone_len {rs : List Row} {k : M.Bytes} : (goneR rs k).length + (if rs.any (hasK k) then 1 else 0) = rs.length := by
  unfold goneR
  rw [List.length_eraseP]
  split
  · rename_i h
    have : 0 < rs.length := by
      cases rs with
      | nil => cases h
      | cons _ _ => simp
    omega
  · rfl
theorem nodup_gone {rs : List Row} (k : M.Bytes) (hn : (rs.map (fun p => p.1.key)).Nodup) : ((goneR rs k).map (fun p => p.1.key)).Nodup := hn.sublist ((gone_sub rs k).map _)

theorem Holds.del {D : DataW Unit} {rs : List Row} (h : Holds D rs) (k : M.Bytes) : Holds (D.del (.string k)) (goneR rs k) := by
  refine ⟨h.tidy.del _, fun j => ?_, fun p hp z => ?_, nodup_gone k h.nodup, ?_⟩
  · by_cases hj : j = k
    · subst hj; rw [has_del_same, any_gone_same h.nodup]
    · rw [has_del_other (key_ne hj), h.has, any_gone h.nodup hj]
  · rw [atKey_del_other (key_ne (gone_key_ne h.nodup p hp))]
    exact h.at_ p ((gone_sub rs k).subset hp) z
  · have h1 := size_del h.tidy (k := .string k)
    have h2 := gone_len (rs := rs) (k := k)
    rw [h.has, h.size] at h1
    omega
theorem Holds.put {D : DataW Unit} {rs : List Row} (h : Holds D rs) (p : Row) : Holds (D.put (.string p.1.key) (entD p)) (goneR rs p.1.key ++ [p]) := by
  refine ⟨h.tidy.put (isKey _) _, fun j => ?_, fun q hq z => ?_, ?_, ?_⟩
  · rw [List.any_append]
    by_cases hj : j = p.1.key
    · subst hj
      rw [has_put_same h.tidy.isMap (isKey _), any_gone_same h.nodup]
      simp [hasK, M.has]
    · rw [has_put_other (key_ne hj), h.has, any_gone h.nodup hj]
      simp [hasK, M.has, Ne.symm hj]
  · rcases List.mem_append.1 hq with hq | hq
    · rw [atKey_put_other (key_ne (gone_key_ne h.nodup q hq))]
      exact h.at_ q ((gone_sub rs _).subset hq) z
    · obtain rfl := List.mem_singleton.1 hq
      exact atKey_put_same h.tidy.isMap (isKey _) _ _
  · rw [List.map_append, List.nodup_append]
    refine ⟨nodup_gone _ h.nodup, by simp, ?_⟩
    intro a ha b hb he
    simp only [List.map_cons, List.map_nil, List.mem_singleton] at hb
    obtain ⟨q, hq, rfl⟩ := List.mem_map.1 ha
    exact gone_key_ne h.nodup q hq (he.trans hb)
  · have h1 := size_put h.tidy (k := .string p.1.key) (entD p)
    have h2 := gone_len (rs := rs) (k := p.1.key)
    rw [h.has, h.size] at h1
    rw [h1, List.length_append]
    cases hb : rs.any (hasK p.1.key) <;> simp [hb] at h2 ⊢ <;> omega
theorem Holds.find_some {D : DataW Unit} {rs : List Row} (h : Holds D rs) {k : M.Bytes} {p : Row} (hf : findR rs k = some p) : Maps.has D (.string k) = true ∧ ∀ z, D.atKey (.string k) z = entD p := by
  obtain ⟨h1, h2⟩ := find_mem hf
  refine ⟨by rw [h.has, any_find, hf]; rfl, fun z => ?_⟩
  rw [← h2]; exact h.at_ p h1 z
theorem Holds.find_none {D : DataW Unit} {rs : List Row} (h : Holds D rs) {k : M.Bytes} (hf : findR rs k = none) : Maps.has D (.string k) = false ∧ ∀ z, D.atKey (.string k) z = z := by
  have : Maps.has D (.string k) = false := by rw [h.has, any_find, hf]; rfl
  exact ⟨this, atKey_of_not_has this⟩

/-- the store's numbers -/
structure Num where
  quota : Nat
  cost : Nat
  mark : Nat
  uses : Nat
  gets : Nat
  hits : Nat
  evicted : Nat
  expired : Nat
/-- the lock's word, and the time -/
abbrev Lk := Int × Nat
/-- what always stands between the numbers and the rows; n bounds what only grows -/
structure Sound (n : Nat) (x : Num) (rs : List Row) : Prop where
  rising : (rs.map (·.2)).Pairwise (· < ·)
  used : ∀ p ∈ rs, p.2 ≤ x.uses
  cost : x.cost = M.total (rs.map (·.1))
  fits : x.cost ≤ x.quota
  quota : x.quota ≤ 2000
  marked : x.mark ≤ x.uses
  evicted : x.evicted + x.expired + rs.length ≤ x.mark
  hits : x.hits ≤ x.gets
  uses : x.uses ≤ n
  gets : x.gets ≤ n
  small : ∀ p ∈ rs, p.1.key.length ≤ 20 ∧ p.1.value.length ≤ 100 ∧ p.1.flags ≤ 65535 ∧ p.1.mark ≤ n ∧ p.1.stop ≤ 1001000000
/-- the document's store that they are -/
def toStore (x : Num) (rs : List Row) : M.Store := ⟨x.quota, rs.map (·.1), x.mark, x.gets, x.hits, x.mark, x.evicted, x.expired⟩
end Go.Proofs.YtdpnpcjbjjjceaaGreatDoor.S
namespace Go.Proofs.YtdpnpcjbjjjceaaGreatDoor.S
open Go Go.Maps Go.Proofs.YtdpnpcjbjjjceaaGreatDoor

theorem total_app (a b : List M.Entry) : M.total (a ++ b) = M.total a + M.total b := by simp [M.total]
theorem total_cons (e : M.Entry) (l : List M.Entry) : M.total (e :: l) = M.cost e + M.total l := by simp [M.total]
theorem cost_pos (e : M.Entry) : 16 ≤ M.cost e := Nat.le_add_left _ _
theorem len_total : ∀ l : List M.Entry, 16 * l.length ≤ M.total l
  | [] => Nat.zero_le _
  | e :: r => by
    have := len_total r
    have := cost_pos e
    rw [total_cons, List.length_cons]; omega
def rowsT (rs : List Row) : Nat := M.total (rs.map (·.1))
theorem rowsT_cons (p : Row) (r : List Row) : rowsT (p :: r) = M.cost p.1 + rowsT r := total_cons _ _
theorem rowsT_app (a b : List Row) : rowsT (a ++ b) = rowsT a + rowsT b := by unfold rowsT; rw [List.map_append, total_app]
theorem rowsT_gone : ∀ (rs : List Row) (k : M.Bytes) (p : Row), findR rs k = some p → rowsT (goneR rs k) + M.cost p.1 = rowsT rs
  | [], _, _, h => by cases h
  | q :: r, k, p, h => by
    unfold findR at h
    unfold goneR
    rw [List.find?_cons] at h
    rw [List.eraseP_cons]
    cases hq : hasK k q
    · rw [hq] at h
      have := rowsT_gone r k p h
      simp only [cond_false, rowsT_cons]
      unfold goneR at this
      omega
    · rw [hq] at h
      simp only [Option.some.injEq] at h
      subst h
      simp only [cond_true, rowsT_cons]; omega

/-- those that are left when room is made -/
def evR (quota need : Nat) : List Row → List Row
  | [] => []
  | p :: r => if rowsT (p :: r) + need ≤ quota then p :: r else evR quota need r
theorem evR_fst (quota need : Nat) : ∀ rs : List Row, (evR quota need rs).map (·.1) = M.evict quota need (rs.map (·.1))
  | [] => rfl
  | p :: r => by
    unfold evR
    rw [List.map_cons]
    unfold M.evict
    rw [show M.total (p.1 :: r.map (·.1)) = rowsT (p :: r) from rfl]
    by_cases h : rowsT (p :: r) + need ≤ quota
    · rw [if_pos h, if_pos h]; rfl
    · rw [if_neg h, if_neg h]; exact evR_fst quota need r
theorem evR_sub (quota need : Nat) : ∀ rs : List Row, List.Sublist (evR quota need rs) rs
  | [] => List.Sublist.refl _
  | p :: r => by
    unfold evR
    split
    · exact List.Sublist.refl _
    · exact (evR_sub quota need r).cons _
theorem evR_fits (quota need : Nat) (hn : need ≤ quota) : ∀ rs : List Row, rowsT (evR quota need rs) + need ≤ quota
  | [] => by simpa [evR, rowsT, M.total] using hn
  | p :: r => by
    unfold evR
    split
    · rename_i h; exact h
    · exact evR_fits quota need hn r
theorem evR_done {quota need : Nat} {rs : List Row} (h : rowsT rs + need ≤ quota) : evR quota need rs = rs := by
  cases rs with
  | nil => rfl
  | cons p r => unfold evR; rw [if_pos h]
theorem evR_next {quota need : Nat} {p : Row} {r : List Row} (h : ¬ rowsT (p :: r) + need ≤ quota) : evR quota need (p :: r) = evR quota need r := by
  rw [evR, if_neg h]

theorem Sound.total {n : Nat} {x : Num} {rs : List Row} (h : Sound n x rs) : x.cost = rowsT rs := h.cost
theorem Sound.len {n : Nat} {x : Num} {rs : List Row} (h : Sound n x rs) : rs.length ≤ 125 := by
  have h1 := len_total (rs.map (·.1))
  rw [List.length_map] at h1
  have h2 := h.cost
  have h3 := h.fits
  have h4 := h.quota
  omega
theorem Sound.mono {n m : Nat} {x : Num} {rs : List Row} (h : Sound n x rs) (hm : n ≤ m) : Sound m x rs :=
  { h with uses := Nat.le_trans h.uses hm, gets := Nat.le_trans h.gets hm, small := fun p hp => ⟨(h.small p hp).1, (h.small p hp).2.1, (h.small p hp).2.2.1, Nat.le_trans (h.small p hp).2.2.2.1 hm, (h.small p hp).2.2.2.2⟩ }
theorem rising_sub {a b : List Row} (hs : List.Sublist a b) (h : (b.map (·.2)).Pairwise (· < ·)) : (a.map (·.2)).Pairwise (· < ·) := h.sublist (hs.map _)
theorem rising_snoc {a : List Row} (h : (a.map (·.2)).Pairwise (· < ·)) {u : Nat} (hu : ∀ p ∈ a, p.2 ≤ u) (e : M.Entry) : ((a ++ [(e, u + 1)]).map (·.2)).Pairwise (· < ·) := by
  rw [List.map_append, List.pairwise_append]
  refine ⟨h, by simp, ?_⟩
  intro x hx y hy
  obtain ⟨p, hp, rfl⟩ := List.mem_map.1 hx
  simp only [List.map_cons, List.map_nil, List.mem_singleton] at hy
  have := hu p hp
  omega

structure Fits (e : M.Entry) : Prop where
  key : e.key.length ≤ 20
  value : e.value.length ≤ 100
  flags : e.flags ≤ 65535
  stop : e.stop ≤ 1001000000
/-- an entry is used, its end perhaps another -/
theorem Sound.used_ {n : Nat} {x : Num} {rs : List Row} (h : Sound n x rs) {k : M.Bytes} {p : Row} (hf : findR rs k = some p) (stop : Nat) (hs : stop ≤ 1001000000) (g t : Nat) (ht : t ≤ g) (hg : x.gets + g ≤ n + 1) :
    Sound (n + 1) { x with uses := x.uses + 1, gets := x.gets + g, hits := x.hits + t } (goneR rs k ++ [({ p.1 with stop := stop }, x.uses + 1)]) := by
  obtain ⟨hm, hk⟩ := find_mem hf
  have hsub := gone_sub rs k
  have hT := rowsT_gone rs k p hf
  refine ⟨rising_snoc (rising_sub hsub h.rising) (fun q hq => h.used q (hsub.subset hq)) _, ?_, ?_, h.fits, h.quota, Nat.le_succ_of_le h.marked, ?_, Nat.add_le_add h.hits ht, Nat.succ_le_succ h.uses, hg, ?_⟩
  · intro q hq
    rcases List.mem_append.1 hq with hq | hq
    · exact Nat.le_succ_of_le (h.used q (hsub.subset hq))
    · rw [List.mem_singleton.1 hq]; exact Nat.le_refl _
  · show x.cost = M.total _
    rw [h.cost]
    show rowsT rs = rowsT (goneR rs k ++ [({ p.1 with stop := stop }, x.uses + 1)])
    rw [rowsT_app, rowsT_cons]
    show rowsT rs = rowsT (goneR rs k) + (M.cost p.1 + 0)
    omega
  · have := h.evicted
    have h2 := gone_len (rs := rs) (k := k)
    rw [any_find, hf] at h2
    simp only [Option.isSome_some, if_true] at h2
    show x.evicted + x.expired + _ ≤ x.mark
    rw [List.length_append, List.length_singleton]
    omega
  · intro q hq
    rcases List.mem_append.1 hq with hq | hq
    · exact (h.mono (Nat.le_succ n)).small q (hsub.subset hq)
    · rw [List.mem_singleton.1 hq]
      obtain ⟨h1, h2, h3, h4, _⟩ := h.small p hm
      exact ⟨h1, h2, h3, Nat.le_succ_of_le h4, hs⟩
theorem Sound.missed {n : Nat} {x : Num} {rs : List Row} (h : Sound n x rs) : Sound (n + 1) { x with gets := x.gets + 1 } rs :=
  { h.mono (Nat.le_succ n) with gets := Nat.succ_le_succ h.gets, hits := Nat.le_succ_of_le h.hits }
theorem Sound.removed {n : Nat} {x : Num} {rs : List Row} (h : Sound n x rs) {k : M.Bytes} {p : Row} (hf : findR rs k = some p) : Sound n { x with cost := x.cost - M.cost p.1 } (goneR rs k) := by
  have hsub := gone_sub rs k
  have hT := rowsT_gone rs k p hf
  have h1 := h.total
  refine ⟨rising_sub hsub h.rising, fun q hq => h.used q (hsub.subset hq), ?_, ?_, h.quota, h.marked, ?_, h.hits, h.uses, h.gets, fun q hq => h.small q (hsub.subset hq)⟩
  · show x.cost - M.cost p.1 = rowsT (goneR rs k)
    omega
  · have := h.fits
    show x.cost - M.cost p.1 ≤ x.quota
    omega
  · have := h.evicted
    have := hsub.length_le
    show x.evicted + x.expired + _ ≤ x.mark
    omega
theorem Sound.dropped {n : Nat} {x : Num} {p : Row} {r : List Row} (h : Sound n x (p :: r)) : Sound n { x with cost := x.cost - M.cost p.1, evicted := x.evicted + 1 } r := by
  have hsub : List.Sublist r (p :: r) := List.sublist_cons_self _ _
  have h1 := h.total
  rw [rowsT_cons] at h1
  refine ⟨rising_sub hsub h.rising, fun q hq => h.used q (hsub.subset hq), ?_, ?_, h.quota, h.marked, ?_, h.hits, h.uses, h.gets, fun q hq => h.small q (hsub.subset hq)⟩
  · show x.cost - M.cost p.1 = rowsT r
    omega
  · have := h.fits
    show x.cost - M.cost p.1 ≤ x.quota
    omega
  · have := h.evicted
    rw [List.length_cons] at this
    show x.evicted + 1 + x.expired + _ ≤ x.mark
    omega
theorem Sound.stored_ {n : Nat} {x : Num} {rs : List Row} (h : Sound n x rs) {e : M.Entry} (he : Fits e) (hq : rowsT rs + M.cost e ≤ x.quota) :
    Sound (n + 1) { x with mark := x.mark + 1, cost := x.cost + M.cost e, uses := x.uses + 1 } (rs ++ [({ e with mark := x.mark + 1 }, x.uses + 1)]) := by
  have h1 := h.total
  refine ⟨rising_snoc h.rising h.used _, ?_, ?_, ?_, h.quota, Nat.succ_le_succ h.marked, ?_, h.hits, Nat.succ_le_succ h.uses, Nat.le_succ_of_le h.gets, ?_⟩
  · intro q hq
    rcases List.mem_append.1 hq with hq | hq
    · exact Nat.le_succ_of_le (h.used q hq)
    · rw [List.mem_singleton.1 hq]; exact Nat.le_refl _
  · show x.cost + M.cost e = rowsT (rs ++ [({ e with mark := x.mark + 1 }, x.uses + 1)])
    rw [rowsT_app, rowsT_cons, h1]; rfl
  · show x.cost + M.cost e ≤ x.quota
    omega
  · have := h.evicted
    show x.evicted + x.expired + _ ≤ x.mark + 1
    rw [List.length_append, List.length_singleton]; omega
  · intro q hq
    rcases List.mem_append.1 hq with hq | hq
    · exact (h.mono (Nat.le_succ n)).small q hq
    · rw [List.mem_singleton.1 hq]
      exact ⟨he.key, he.value, he.flags, Nat.succ_le_succ (Nat.le_trans h.marked h.uses), he.stop⟩
/-- what a store is when an entry has been put into it -/
def putX (x : Num) (rs : List Row) (e : M.Entry) : Num :=
  let l := evR x.quota (M.cost e) (goneR rs e.key)
  { x with mark := x.mark + 1, cost := rowsT l + M.cost e, uses := x.uses + 1, evicted := x.evicted + ((goneR rs e.key).length - l.length) }
def putR (x : Num) (rs : List Row) (e : M.Entry) : List Row := evR x.quota (M.cost e) (goneR rs e.key) ++ [({ e with mark := x.mark + 1 }, x.uses + 1)]
theorem put_store (x : Num) (rs : List Row) (e : M.Entry) : toStore (putX x rs e) (putR x rs e) = M.put (toStore x rs) e := by
  unfold toStore M.put putR putX
  simp only [gone_fst, ← evR_fst, List.map_append, List.map_cons, List.map_nil, List.length_map]
end Go.Proofs.YtdpnpcjbjjjceaaGreatDoor.S
