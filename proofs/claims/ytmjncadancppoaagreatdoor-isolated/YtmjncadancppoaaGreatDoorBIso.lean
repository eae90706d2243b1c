import Derived.Test.YtmjncadancppoaaGreatDoorBPlain
set_option linter.unusedSimpArgs false
set_option linter.unusedVariables false
namespace Go.Proofs.YtmjncadancppoaaGreatDoor.M
open Go.Proofs.YtmjncadancppoaaGreatDoor

/-- these two bytes stand nowhere side by side -/
def NoAdj (x y : UInt8) (l : Bytes) : Prop := ∀ p r, l ≠ p ++ x :: y :: r
theorem NoAdj.drop {x y : UInt8} {l : Bytes} (h : NoAdj x y l) (n : Nat) : NoAdj x y (l.drop n) := by
  intro p r e
  refine h (l.take n ++ p) r ?_
  rw [List.append_assoc, ← e, List.take_append_drop]
theorem NoAdj.take {x y : UInt8} {l : Bytes} (h : NoAdj x y l) (n : Nat) : NoAdj x y (l.take n) := by
  intro p r e
  refine h p (r ++ l.drop n) ?_
  calc l = l.take n ++ l.drop n := (List.take_append_drop n l).symm
    _ = _ := by rw [e]; simp
theorem NoAdj.trim {x y : UInt8} {l : Bytes} (h : NoAdj x y l) : NoAdj x y (trim l) := by
  unfold M.trim
  split
  · rw [List.dropLast_eq_take]; exact h.take _
  · exact h
theorem NoAdj.nil (x y : UInt8) : NoAdj x y [] := by
  intro p r e
  have := congrArg List.length e
  simp at this
theorem join_word0 (ws : List Bytes) (h : ws ≠ []) : ∃ r, joinW ws = word ws 0 ++ r := by
  match ws, h with
  | [w], _ => exact ⟨[], by simp [joinW, word]⟩
  | w :: x :: r, _ => exact ⟨32 :: joinW (x :: r), rfl⟩
theorem join_word1 (ws : List Bytes) (h : word ws 1 ≠ []) : ∃ p r, joinW ws = p ++ (word ws 1 ++ r) := by
  match ws with
  | [] => exact absurd rfl h
  | [w] => exact absurd rfl h
  | [w, x] => exact ⟨w ++ [32], [], by simp [joinW, word]⟩
  | w :: x :: z :: r => exact ⟨w ++ [32], 32 :: joinW (z :: r), by simp [joinW, word]⟩
theorem no_auth {line : Bytes} {ws : List Bytes} (h : P.rRead line = some ws) (hn : NoAdj 97 117 line) : word ws 0 ≠ [97, 117, 116, 104] := by
  intro e
  obtain ⟨hj, hne, _, _⟩ := rRead_inv h
  obtain ⟨r, hr⟩ := join_word0 ws hne
  rw [e, hj] at hr
  exact hn [] ([116, 104] ++ r) (by rw [hr]; simp)
theorem no_ann {line : Bytes} {ws : List Bytes} (h : P.rRead line = some ws) (hn : NoAdj 97 110 line) : word ws 1 ≠ [97, 110, 110] := by
  intro e
  obtain ⟨hj, hne, _, _⟩ := rRead_inv h
  obtain ⟨p, r, hr⟩ := join_word1 ws (by rw [e]; simp)
  rw [e, hj] at hr
  exact hn p (110 :: r) (by rw [hr]; simp)
theorem setAt_other (y : Sys) (t u : Nat) (S : Store) (h : t ≠ u) : storeAt (setAt y t S) u = storeAt y u := by
  unfold storeAt setAt
  simp only [List.getD_eq_getElem?_getD]
  rw [List.getElem?_set_ne h]
theorem setAt_same (y : Sys) (S : Store) (h : y.stores ≠ []) : storeAt (setAt y 0 S) 0 = S := by
  unfold storeAt setAt
  cases hs : y.stores with
  | nil => exact absurd hs h
  | cons a r => rfl
/-- the names of the laws: the first is ann's -/
def AnnFirst (names : List (Bytes × Bytes)) : Prop := ∀ n t, who names n t = some 0 → n = [97, 110, 110]
/-- what stays as it was while another speaks -/
structure Apart (y y' : Sys) (c' : Conn) : Prop where
  store : storeAt y' 0 = storeAt y 0
  names : y'.names = y.names
  clock : y'.clock = y.clock
  full : y.stores ≠ [] → y'.stores ≠ []
  owner : c'.owner ≠ some 0
  inn : NoAdj 97 110 c'.inn
theorem setAt_ne (y : Sys) (t : Nat) (S : Store) (h : y.stores ≠ []) : (setAt y t S).stores ≠ [] := by
  unfold setAt
  intro e
  have := congrArg List.length e
  simp at this
  exact h this
theorem doLine_apart (y : Sys) (c : Conn) (line : Bytes) (hy : AnnFirst y.names) (ho : c.owner ≠ some 0) (hi : NoAdj 97 110 c.inn) (hl : NoAdj 97 110 line) : Apart y (doLine y c line).1 (doLine y c line).2 := by
  have hsay : ∀ (d : Conn) (a : Bytes), d.owner ≠ some 0 → d.inn = c.inn → Apart y y (say d a) := fun d a h1 h2 => ⟨rfl, rfl, rfl, id, h1, by show NoAdj 97 110 d.inn; rw [h2]; exact hi⟩
  cases hp : P.rRead line with
  | none => cases hown : c.owner <;> (simp only [doLine, hp, hown]; exact hsay c _ ho rfl)
  | some ws =>
    by_cases c1 : word ws 0 = [97, 117, 116, 104]
    · cases hq : who y.names (word ws 1) (word ws 2) with
      | none => simp only [doLine, hp, c1, if_true, hq]; exact hsay c _ ho rfl
      | some t =>
        simp only [doLine, hp, c1, if_true, hq]
        refine hsay { c with owner := some t } _ ?_ rfl
        intro e
        have e' : t = 0 := Option.some.inj e
        subst e'
        exact no_ann hp hl (hy _ _ hq)
    · by_cases c2 : word ws 0 = [113, 117, 105, 116]
      · have hd : doLine y c line = (y, { c with want := .quit }) := by simp only [doLine, hp, if_neg c1, if_pos c2]
        rw [hd]
        exact ⟨rfl, rfl, rfl, id, ho, hi⟩
      · cases hown : c.owner with
        | none => simp only [doLine, hp, c1, c2, if_false, hown]; exact hsay c _ ho rfl
        | some t =>
          cases hv : wantsValue ws with
          | true =>
            rw [doLine_value hp hown c1 c2 hv]
            exact ⟨rfl, rfl, rfl, id, ho, hi⟩
          | false =>
            rw [doLine_other hp hown c1 c2 hv]
            have ht : t ≠ 0 := fun e => ho (by rw [hown, e])
            exact ⟨setAt_other _ _ _ _ ht, rfl, rfl, setAt_ne _ _ _, ho, hi⟩
theorem step_apart (y : Sys) (c : Conn) (hy : AnnFirst y.names) (ho : c.owner ≠ some 0) (hw : WFit c) (hi : NoAdj 97 110 c.inn) : Apart y (step y c).2.1 (step y c).2.2 := by
  cases hwant : c.want using Want.cases with
  | quit => simp only [step, hwant]; exact ⟨rfl, rfl, rfl, id, ho, NoAdj.nil _ _⟩
  | skip =>
    cases hn : nl c.inn with
    | none => simp only [step, hwant, hn]; exact ⟨rfl, rfl, rfl, id, ho, NoAdj.nil _ _⟩
    | some i => simp only [step, hwant, hn]; exact ⟨rfl, rfl, rfl, id, ho, hi.drop _⟩
  | value ws =>
    by_cases h1 : c.inn.length < num (word ws 4) + 1
    · have e : step y c = (false, y, c) := by simp only [step, hwant, h1, if_true]
      rw [e]; exact ⟨rfl, rfl, rfl, id, ho, hi⟩
    · by_cases h2 : c.inn.getD (num (word ws 4)) 0 = 10
      · rw [step_value (ws := ws) (n := num (word ws 4)) hwant rfl (by omega) h2]
        have ht : ownerOf c ≠ 0 := by
          obtain ⟨_, _, hn⟩ := hw ws hwant
          unfold ownerOf
          cases hown : c.owner with
          | none => exact absurd hown hn
          | some t => exact fun e => ho (by rw [hown]; exact congrArg some e)
        exact ⟨setAt_other _ _ _ _ ht, rfl, rfl, setAt_ne _ _ _, ho, hi.drop _⟩
      · have e : step y c = (true, y, say { c with want := .skip, inn := c.inn.drop (num (word ws 4)) } [69, 82, 82, 79, 82, 32, 100, 97, 116, 97]) := by simp only [step, hwant, h1, h2, if_false]
        rw [e]; exact ⟨rfl, rfl, rfl, id, ho, hi.drop _⟩
  | line =>
    cases hn : nl c.inn with
    | none =>
      by_cases h1 : 120 < c.inn.length
      · have e : step y c = (true, y, say { c with want := .skip } [69, 82, 82, 79, 82, 32, 108, 111, 110, 103]) := by simp only [step, hwant, hn, h1, if_true]
        rw [e]; exact ⟨rfl, rfl, rfl, id, ho, hi⟩
      · have e : step y c = (false, y, c) := by simp only [step, hwant, hn, h1, if_false]
        rw [e]; exact ⟨rfl, rfl, rfl, id, ho, hi⟩
    | some i =>
      by_cases h1 : 120 < i
      · have e : step y c = (true, y, say { c with want := .skip } [69, 82, 82, 79, 82, 32, 108, 111, 110, 103]) := by simp only [step, hwant, hn, h1, if_true]
        rw [e]; exact ⟨rfl, rfl, rfl, id, ho, hi⟩
      · rw [step_line hwant hn (by omega)]
        exact doLine_apart y { c with inn := c.inn.drop (i + 1) } _ hy ho (hi.drop _) (hi.take i).trim
/-- WHAT ANOTHER SAYS LEAVES ANN's STORE ALONE -/
theorem run_apart : ∀ (k : Nat) (y : Sys) (c : Conn), size c ≤ k → AnnFirst y.names → YFit y → WFit c → c.owner ≠ some 0 → NoAdj 97 110 c.inn → Apart y (run y c).1 (run y c).2
  | k, y, c, hk, hy, hyf, hw, ho, hi => by
    have ha := step_apart y c hy ho hw hi
    have hf := step_fit y c hyf hw
    cases hs : step y c with
    | mk on r =>
      obtain ⟨y', c'⟩ := r
      rw [hs] at ha hf
      cases on with
      | true =>
        have hz := step_size y c (by rw [hs])
        rw [hs] at hz
        cases k with
        | zero => omega
        | succ k =>
          rw [run_go hs]
          have hr := run_apart k y' c' (by simp at hz; omega) (by rw [ha.names]; exact hy) hf.1 hf.2.1 ha.owner ha.inn
          exact ⟨hr.store.trans ha.store, hr.names.trans ha.names, hr.clock.trans ha.clock, fun h => hr.full (ha.full h), hr.owner, hr.inn⟩
      | false =>
        rw [run_stop hs]
        exact ha
end Go.Proofs.YtmjncadancppoaaGreatDoor.M
namespace Go.Proofs.YtmjncadancppoaaGreatDoor.M
open Go.Proofs.YtmjncadancppoaaGreatDoor

/-- two servers in which ann's store stands alike -/
structure Alike (y z : Sys) : Prop where
  names : y.names = z.names
  clock : y.clock = z.clock
  store : storeAt y 0 = storeAt z 0
  fullY : y.stores ≠ []
  fullZ : z.stores ≠ []
theorem Alike.set {y z : Sys} (h : Alike y z) (S : Store) : Alike (setAt y 0 S) (setAt z 0 S) :=
  ⟨h.names, h.clock, by rw [setAt_same y S h.fullY, setAt_same z S h.fullZ], setAt_ne _ _ _ h.fullY, setAt_ne _ _ _ h.fullZ⟩
/-- what ann's connection does is the same in both -/
structure Twin (yc zc : Sys × Conn) : Prop where
  conn : yc.2 = zc.2
  alike : Alike yc.1 zc.1
  owner : yc.2.owner = some 0
  inn : NoAdj 97 117 yc.2.inn
theorem doLine_twin {y z : Sys} (h : Alike y z) (c : Conn) (line : Bytes) (ho : c.owner = some 0) (hi : NoAdj 97 117 c.inn) (hl : NoAdj 97 117 line) : Twin (doLine y c line) (doLine z c line) := by
  cases hp : P.rRead line with
  | none => simp only [doLine, hp, ho]; exact ⟨rfl, h, ho, hi⟩
  | some ws =>
    have c1 := no_auth hp hl
    by_cases c2 : word ws 0 = [113, 117, 105, 116]
    · have hd : ∀ x : Sys, doLine x c line = (x, { c with want := .quit }) := fun x => by simp only [doLine, hp, if_neg c1, if_pos c2]
      rw [hd, hd]
      exact ⟨rfl, h, ho, hi⟩
    · cases hv : wantsValue ws with
      | true =>
        rw [doLine_value hp ho c1 c2 hv, doLine_value hp ho c1 c2 hv]
        exact ⟨rfl, h, ho, hi⟩
      | false =>
        rw [doLine_other hp ho c1 c2 hv, doLine_other hp ho c1 c2 hv, h.clock, h.store]
        exact ⟨rfl, h.set _, ho, hi⟩
theorem step_twin {y z : Sys} (h : Alike y z) (c : Conn) (ho : c.owner = some 0) (hi : NoAdj 97 117 c.inn) : (step y c).1 = (step z c).1 ∧ Twin (step y c).2 (step z c).2 := by
  have how : ownerOf c = 0 := by unfold ownerOf; rw [ho]; rfl
  cases hwant : c.want using Want.cases with
  | quit => simp only [step, hwant]; exact ⟨trivial, rfl, h, ho, NoAdj.nil _ _⟩
  | skip =>
    cases hn : nl c.inn with
    | none => simp only [step, hwant, hn]; exact ⟨trivial, rfl, h, ho, NoAdj.nil _ _⟩
    | some i => simp only [step, hwant, hn]; exact ⟨trivial, rfl, h, ho, hi.drop _⟩
  | value ws =>
    by_cases h1 : c.inn.length < num (word ws 4) + 1
    · have e : ∀ x : Sys, step x c = (false, x, c) := fun x => by simp only [step, hwant, h1, if_true]
      rw [e, e]; exact ⟨rfl, rfl, h, ho, hi⟩
    · by_cases h2 : c.inn.getD (num (word ws 4)) 0 = 10
      · rw [step_value (y := y) (ws := ws) (n := num (word ws 4)) hwant rfl (by omega) h2, step_value (y := z) (ws := ws) (n := num (word ws 4)) hwant rfl (by omega) h2, how, h.clock, h.store]
        exact ⟨rfl, rfl, h.set _, ho, hi.drop _⟩
      · have e : ∀ x : Sys, step x c = (true, x, say { c with want := .skip, inn := c.inn.drop (num (word ws 4)) } [69, 82, 82, 79, 82, 32, 100, 97, 116, 97]) := fun x => by simp only [step, hwant, h1, h2, if_false]
        rw [e, e]; exact ⟨rfl, rfl, h, ho, hi.drop _⟩
  | line =>
    cases hn : nl c.inn with
    | none =>
      by_cases h1 : 120 < c.inn.length
      · have e : ∀ x : Sys, step x c = (true, x, say { c with want := .skip } [69, 82, 82, 79, 82, 32, 108, 111, 110, 103]) := fun x => by simp only [step, hwant, hn, h1, if_true]
        rw [e, e]; exact ⟨rfl, rfl, h, ho, hi⟩
      · have e : ∀ x : Sys, step x c = (false, x, c) := fun x => by simp only [step, hwant, hn, h1, if_false]
        rw [e, e]; exact ⟨rfl, rfl, h, ho, hi⟩
    | some i =>
      by_cases h1 : 120 < i
      · have e : ∀ x : Sys, step x c = (true, x, say { c with want := .skip } [69, 82, 82, 79, 82, 32, 108, 111, 110, 103]) := fun x => by simp only [step, hwant, hn, h1, if_true]
        rw [e, e]; exact ⟨rfl, rfl, h, ho, hi⟩
      · rw [step_line (y := y) hwant hn (by omega), step_line (y := z) hwant hn (by omega)]
        exact ⟨rfl, doLine_twin h { c with inn := c.inn.drop (i + 1) } _ ho (hi.drop _) (hi.take i).trim⟩
/-- WHAT IS ANSWERED TO ANN HANGS ON HER OWN STORE ALONE -/
theorem run_twin : ∀ (k : Nat) (y z : Sys) (c : Conn), size c ≤ k → Alike y z → c.owner = some 0 → NoAdj 97 117 c.inn → Twin (run y c) (run z c)
  | k, y, z, c, hk, h, ho, hi => by
    obtain ⟨h1, h2⟩ := step_twin h c ho hi
    cases hs : step y c with
    | mk on r =>
      cases hs' : step z c with
      | mk on' r' =>
        obtain ⟨y', c'⟩ := r
        obtain ⟨z', d'⟩ := r'
        rw [hs, hs'] at h1 h2
        obtain rfl : on = on' := h1
        obtain rfl : c' = d' := h2.conn
        cases on with
        | true =>
          have hz := step_size y c (by rw [hs])
          rw [hs] at hz
          cases k with
          | zero => omega
          | succ k =>
            rw [run_go hs, run_go hs']
            exact run_twin k y' z' c' (by simp at hz; omega) h2.alike h2.owner h2.inn
        | false =>
          rw [run_stop hs, run_stop hs']
          exact h2
end Go.Proofs.YtmjncadancppoaaGreatDoor.M
namespace Go.Proofs.YtmjncadancppoaaGreatDoor.M
open Go.Proofs.YtmjncadancppoaaGreatDoor

/-- nothing, or it ends with a newline -/
def Ends (l : Bytes) : Prop := l = [] ∨ ∃ p, l = p ++ [10]
theorem NoAdj.append {x y : UInt8} {a b : Bytes} (ha : NoAdj x y a) (hb : NoAdj x y b) (he : Ends a) (hx : x ≠ 10) : NoAdj x y (a ++ b) := by
  intro p r h
  rcases List.append_eq_append_iff.1 h with ⟨q, h1, h2⟩ | ⟨q, h1, h2⟩
  · cases q with
    | nil => exact hb [] r h2
    | cons z q =>
      exact hb (z :: q) r h2
  · cases q with
    | nil => exact hb [] r h2.symm
    | cons z q =>
      have hz : z = x := by simpa using (List.cons.inj h2).1.symm
      cases q with
      | nil =>
        rcases he with he | ⟨p', he⟩
        · rw [he] at h1; simp at h1
        · rw [h1] at he
          have := List.append_inj_right' he rfl
          have h10 : z = 10 := by simpa using this
          exact hx (hz.symm.trans h10)
      | cons z2 q =>
        have h3 : z2 = y := by
          have := (List.cons.inj h2).2
          simpa using (List.cons.inj this).1.symm
        exact ha p q (by rw [h1, hz, h3])
theorem noAdj_of_notin {x y : UInt8} {l : Bytes} (h : x ∉ l) : NoAdj x y l := by
  intro p r e
  exact h (by rw [e]; simp)
theorem noAdj_of_notin2 {x y : UInt8} {l : Bytes} (h : y ∉ l) : NoAdj x y l := by
  intro p r e
  exact h (by rw [e]; simp)
/-- a beginning that ends otherwise, and a rest without the first byte -/
theorem noAdj_pre {x y : UInt8} {a b : Bytes} (ha : NoAdj x y a) (hl : a.getLast? ≠ some x) (hb : x ∉ b) : NoAdj x y (a ++ b) := by
  intro p r h
  rcases List.append_eq_append_iff.1 h with ⟨q, h1, h2⟩ | ⟨q, h1, h2⟩
  · exact hb (by rw [h2]; simp)
  · cases q with
    | nil =>
      have h3 : x :: y :: r = b := h2
      exact hb (by rw [← h3]; simp)
    | cons z q =>
      have hz : z = x := by simpa using (List.cons.inj h2).1.symm
      cases q with
      | nil => exact hl (by rw [h1, hz]; simp)
      | cons z2 q =>
        have h3 : z2 = y := by
          have := (List.cons.inj h2).2
          simpa using (List.cons.inj this).1.symm
        exact ha p q (by rw [h1, hz, h3])
theorem Ends.suffix {l p s : Bytes} (h : Ends l) (e : l = p ++ s) : Ends s := by
  rcases h with h | ⟨q, h⟩
  · left
    rw [h] at e
    have := List.append_eq_nil_iff.1 e.symm
    exact this.2
  · rcases List.eq_nil_or_concat s with h1 | ⟨s', z, h1⟩
    · exact Or.inl h1
    · right
      refine ⟨s', ?_⟩
      rw [List.concat_eq_append] at h1
      rw [h1, ← List.append_assoc] at e
      rw [h] at e
      have := List.append_inj_right' e rfl
      have hz : z = 10 := by simpa using this.symm
      rw [h1, hz]
theorem Ends.append {a b : Bytes} (hb : Ends b) (ha : Ends a) : Ends (a ++ b) := by
  rcases hb with h | ⟨p, h⟩
  · rw [h, List.append_nil]; exact ha
  · right; exact ⟨a ++ p, by rw [h, List.append_assoc]⟩

/-- what a step leaves of the bytes, and what it adds to the answers -/
structure Goes (c c' : Conn) : Prop where
  inn : ∃ p, c.inn = p ++ c'.inn
  out : ∃ s, c'.out = c.out ++ s
theorem Goes.refl (c : Conn) : Goes c c := ⟨⟨[], rfl⟩, ⟨[], by simp⟩⟩
theorem Goes.trans {a b c : Conn} (h : Goes a b) (k : Goes b c) : Goes a c := by
  obtain ⟨⟨p, hp⟩, ⟨s, hs⟩⟩ := h
  obtain ⟨⟨q, hq⟩, ⟨t, ht⟩⟩ := k
  exact ⟨⟨p ++ q, by rw [hp, hq, List.append_assoc]⟩, ⟨s ++ t, by rw [ht, hs, List.append_assoc]⟩⟩
theorem Goes.said (c : Conn) (t : Bytes) (w : Want) (i : Bytes) (hi : ∃ p, c.inn = p ++ i) : Goes c (say { c with want := w, inn := i } t) := ⟨hi, ⟨t ++ [10], by simp [say]⟩⟩
theorem doLine_goes (y : Sys) (c : Conn) (line : Bytes) : Goes c (doLine y c line).2 := by
  unfold doLine
  cases P.rRead line with
  | none =>
    cases c.owner with
    | none => exact ⟨⟨[], rfl⟩, ⟨_, rfl⟩⟩
    | some t => exact ⟨⟨[], rfl⟩, ⟨_, rfl⟩⟩
  | some ws =>
    simp only
    split
    · split
      · exact ⟨⟨[], rfl⟩, ⟨_, rfl⟩⟩
      · exact ⟨⟨[], rfl⟩, ⟨_, rfl⟩⟩
    · split
      · exact ⟨⟨[], rfl⟩, ⟨[], by simp⟩⟩
      · split
        · exact ⟨⟨[], rfl⟩, ⟨_, rfl⟩⟩
        · split
          · exact ⟨⟨[], rfl⟩, ⟨[], by simp⟩⟩
          · exact ⟨⟨[], rfl⟩, ⟨_, rfl⟩⟩
theorem drop_pre (l : Bytes) (n : Nat) : ∃ p, l = p ++ l.drop n := ⟨l.take n, (List.take_append_drop n l).symm⟩
theorem step_goes (y : Sys) (c : Conn) : Goes c (step y c).2.2 := by
  cases hw : c.want using Want.cases with
  | quit => simp only [step, hw]; exact ⟨⟨c.inn, by simp⟩, ⟨[], by simp⟩⟩
  | skip =>
    cases hn : nl c.inn with
    | none => simp only [step, hw, hn]; exact ⟨⟨c.inn, by simp⟩, ⟨[], by simp⟩⟩
    | some i => simp only [step, hw, hn]; exact ⟨drop_pre _ _, ⟨[], by simp⟩⟩
  | value ws =>
    simp only [step, hw]
    split
    · exact Goes.refl c
    · split
      · exact ⟨drop_pre _ _, ⟨_, rfl⟩⟩
      · exact ⟨drop_pre _ _, ⟨_, rfl⟩⟩
  | line =>
    cases hn : nl c.inn with
    | none =>
      simp only [step, hw, hn]
      split
      · exact ⟨⟨[], rfl⟩, ⟨_, rfl⟩⟩
      · exact Goes.refl c
    | some i =>
      simp only [step, hw, hn]
      split
      · exact ⟨⟨[], rfl⟩, ⟨_, rfl⟩⟩
      · have h := doLine_goes y ⟨.line, c.owner, c.inn.drop (i + 1), c.out⟩ (trim (c.inn.take i))
        have h0 : Goes c ⟨.line, c.owner, c.inn.drop (i + 1), c.out⟩ := ⟨drop_pre _ _, ⟨[], by simp⟩⟩
        exact h0.trans h
theorem run_goes : ∀ (k : Nat) (y : Sys) (c : Conn), size c ≤ k → Goes c (run y c).2
  | k, y, c, hk => by
    have hg := step_goes y c
    cases hs : step y c with
    | mk on r =>
      obtain ⟨y', c'⟩ := r
      rw [hs] at hg
      cases on with
      | true =>
        have hz := step_size y c (by rw [hs])
        rw [hs] at hz
        cases k with
        | zero => omega
        | succ k =>
          rw [run_go hs]
          exact hg.trans (run_goes k y' c' (by simp at hz; omega))
      | false =>
        rw [run_stop hs]
        exact hg
theorem feed_goes (y : Sys) (c : Conn) (b : Bytes) : Goes (more c b) (feed y c b).2 := run_goes _ y (more c b) (Nat.le_refl _)
end Go.Proofs.YtmjncadancppoaaGreatDoor.M
namespace Go.Proofs.YtmjncadancppoaaGreatDoor.M
open Go.Proofs.YtmjncadancppoaaGreatDoor

theorem doLine_names (y : Sys) (c : Conn) (line : Bytes) : (doLine y c line).1.names = y.names := by
  unfold doLine
  cases P.rRead line with
  | none => cases c.owner <;> rfl
  | some ws =>
    simp only
    split
    · split <;> rfl
    · split
      · rfl
      · split
        · rfl
        · split <;> rfl
theorem step_names (y : Sys) (c : Conn) : (step y c).2.1.names = y.names := by
  cases hw : c.want using Want.cases with
  | quit => simp only [step, hw]
  | skip => cases hn : nl c.inn <;> simp only [step, hw, hn]
  | value ws =>
    simp only [step, hw]
    split
    · rfl
    · split <;> rfl
  | line =>
    cases hn : nl c.inn with
    | none =>
      simp only [step, hw, hn]
      split <;> rfl
    | some i =>
      simp only [step, hw, hn]
      split
      · rfl
      · exact doLine_names _ _ _
theorem run_names : ∀ (k : Nat) (y : Sys) (c : Conn), size c ≤ k → (run y c).1.names = y.names
  | k, y, c, hk => by
    have hg := step_names y c
    cases hs : step y c with
    | mk on r =>
      obtain ⟨y', c'⟩ := r
      rw [hs] at hg
      cases on with
      | true =>
        have hz := step_size y c (by rw [hs])
        rw [hs] at hz
        cases k with
        | zero => omega
        | succ k =>
          rw [run_go hs]
          exact (run_names k y' c' (by simp at hz; omega)).trans hg
      | false =>
        rw [run_stop hs]
        exact hg
theorem feed_names (y : Sys) (c : Conn) (b : Bytes) : (feed y c b).1.names = y.names := run_names _ y (more c b) (Nat.le_refl _)

def okB3 : Bytes := [79, 75, 10]
def must (k : Nat) : Bytes := if k = 0 then headOut else if k = 1 then okB3 else []
/-- how the connection k of the law stands -/
structure Here (k : Nat) (x : Conn) : Prop where
  fit : WFit x
  ann : k < 2 → x.owner = some 0 ∧ NoAdj 97 117 x.inn
  oth : 2 ≤ k → x.owner ≠ some 0 ∧ NoAdj 97 110 x.inn
  ends : k < 4 → Ends x.inn
  four : k = 4 → (110 : UInt8) ∉ x.inn
  out : ∃ s, x.out = must k ++ s
/-- what is fed to it -/
structure Bys (k : Nat) (s : Bytes) : Prop where
  ann : k < 2 → NoAdj 97 117 s
  oth : 2 ≤ k → NoAdj 97 110 s
  ends : k < 4 → Ends s
  four : k = 4 → (110 : UInt8) ∉ s
/-- two servers: on the second nobody speaks but ann -/
structure Isl (a b : Server) : Prop where
  conn : ∀ k, k < 5 → ∃ x, a.conns[k]? = some (some x) ∧ Here k x
  same : ∀ k, k < 2 → b.conns[k]? = a.conns[k]?
  alike : Alike a.sys b.sys
  names : AnnFirst a.sys.names
  fit : YFit a.sys
theorem Here.next {k : Nat} {x x' : Conn} {s : Bytes} (h : Here k x) (hb : Bys k s) (hg : Goes (more x s) x') (hf : WFit x') (ha : k < 2 → x'.owner = some 0 ∧ NoAdj 97 117 x'.inn) (ho : 2 ≤ k → x'.owner ≠ some 0 ∧ NoAdj 97 110 x'.inn) : Here k x' := by
  obtain ⟨⟨p, hp⟩, ⟨t, ht⟩⟩ := hg
  have hp' : x.inn ++ s = p ++ x'.inn := hp
  have ht' : x'.out = x.out ++ t := ht
  refine ⟨hf, ha, ho, fun hk => ((hb.ends hk).append (h.ends hk)).suffix hp', fun hk hm => ?_, ?_⟩
  · have : (110 : UInt8) ∈ x.inn ++ s := by rw [hp']; exact List.mem_append_right _ hm
    rcases List.mem_append.1 this with h1 | h1
    · exact h.four hk h1
    · exact hb.four hk h1
  · obtain ⟨u, hu⟩ := h.out
    exact ⟨u ++ t, by rw [ht', hu, List.append_assoc]⟩
theorem set_at {l : List (Option Conn)} {k : Nat} {x x' : Conn} (h : l[k]? = some (some x)) (j : Nat) : (l.set k (some x'))[j]? = if j = k then some (some x') else l[j]? := by
  by_cases hj : j = k
  · subst hj
    rw [if_pos rfl, List.getElem?_set_self (List.getElem?_eq_some_iff.1 h).1]
  · rw [if_neg hj, List.getElem?_set_ne (Ne.symm hj)]
theorem Isl.ann {a b : Server} (h : Isl a b) {k : Nat} {x : Conn} (hk : k < 2) (hx : a.conns[k]? = some (some x)) {s : Bytes} (hb : Bys k s) : Isl (fed a k x s) (fed b k x s) := by
  obtain ⟨x0, hx0, hh⟩ := h.conn k (by omega)
  obtain rfl : x = x0 := by rw [hx] at hx0; cases hx0; rfl
  have hxb : b.conns[k]? = some (some x) := (h.same k hk).trans hx
  have tw : Twin (feed a.sys x s) (feed b.sys x s) := run_twin _ a.sys b.sys (more x s) (Nat.le_refl _) h.alike (hh.ann hk).1 ((hh.ann hk).2.append (hb.ann hk) (hh.ends (by omega)) (by decide))
  have hg := feed_goes a.sys x s
  obtain ⟨f1, f2, _⟩ := feed_fit a.sys x s h.fit hh.fit
  refine ⟨fun j hj => ?_, fun j hj => ?_, tw.alike, ?_, f1⟩
  · show ∃ z, (a.conns.set k (some (feed a.sys x s).2))[j]? = some (some z) ∧ Here j z
    rw [set_at hx]
    by_cases hjk : j = k
    · rw [if_pos hjk]
      subst hjk
      exact ⟨_, rfl, hh.next hb hg f2 (fun _ => ⟨tw.owner, tw.inn⟩) (fun h2 => by omega)⟩
    · rw [if_neg hjk]
      exact h.conn j hj
  · show (b.conns.set k (some (feed b.sys x s).2))[j]? = (a.conns.set k (some (feed a.sys x s).2))[j]?
    rw [set_at hx, set_at hxb, tw.conn, h.same j hj]
  · show AnnFirst (feed a.sys x s).1.names
    rw [feed_names]; exact h.names
theorem Isl.oth {a b : Server} (h : Isl a b) {k : Nat} {x : Conn} (h2 : 2 ≤ k) (hk : k < 5) (hx : a.conns[k]? = some (some x)) {s : Bytes} (hb : Bys k s) : Isl (fed a k x s) b := by
  obtain ⟨x0, hx0, hh⟩ := h.conn k hk
  obtain rfl : x = x0 := by rw [hx] at hx0; cases hx0; rfl
  have hadj : NoAdj 97 110 (x.inn ++ s) := by
    by_cases h4 : k = 4
    · exact noAdj_of_notin2 (fun hm => by
        rcases List.mem_append.1 hm with h1 | h1
        · exact hh.four h4 h1
        · exact hb.four h4 h1)
    · exact (hh.oth h2).2.append (hb.oth h2) (hh.ends (by omega)) (by decide)
  have ap : Apart a.sys (feed a.sys x s).1 (feed a.sys x s).2 := run_apart _ a.sys (more x s) (Nat.le_refl _) h.names h.fit hh.fit (hh.oth h2).1 hadj
  have hg := feed_goes a.sys x s
  obtain ⟨f1, f2, _⟩ := feed_fit a.sys x s h.fit hh.fit
  refine ⟨fun j hj => ?_, fun j hj => ?_, ⟨ap.names.trans h.alike.names, ap.clock.trans h.alike.clock, ap.store.trans h.alike.store, ap.full h.alike.fullY, h.alike.fullZ⟩, ?_, f1⟩
  · show ∃ z, (a.conns.set k (some (feed a.sys x s).2))[j]? = some (some z) ∧ Here j z
    rw [set_at hx]
    by_cases hjk : j = k
    · rw [if_pos hjk]
      subst hjk
      exact ⟨_, rfl, hh.next hb hg f2 (fun h9 => by omega) (fun _ => ⟨ap.owner, ap.inn⟩)⟩
    · rw [if_neg hjk]
      exact h.conn j hj
  · show b.conns[j]? = (a.conns.set k (some (feed a.sys x s).2))[j]?
    rw [set_at hx, if_neg (by omega)]
    exact h.same j hj
  · show AnnFirst (feed a.sys x s).1.names
    rw [feed_names]; exact h.names

/-- a line by which a connection comes to belong to a tenant -/
theorem auth_run (y : Sys) (t : Nat) (b : Bytes) (ws : List Bytes) (i : Nat) (hn : nl b = some i) (hi : i ≤ 120) (hd : b.drop (i + 1) = []) (hr : P.rRead (trim (b.take i)) = some ws) (h0 : word ws 0 = [97, 117, 116, 104]) (hw : who y.names (word ws 1) (word ws 2) = some t) :
    feed y fresh b = (y, ⟨.line, some t, [], okB3⟩) := by
  show run y (more fresh b) = _
  have e : more fresh b = ⟨.line, none, b, []⟩ := rfl
  have s1 : step y ⟨.line, none, b, []⟩ = (true, y, ⟨.line, some t, [], okB3⟩) := by
    refine (step_line (i := i) rfl hn hi).trans ?_
    have : doLine y { (⟨.line, none, b, []⟩ : Conn) with inn := b.drop (i + 1) } (trim (b.take i)) = (y, ⟨.line, some t, [], okB3⟩) := by
      rw [doLine_auth hr h0 hw, hd]
      rfl
    exact congrArg _ this
  rw [e, run_go s1, run_stop (y' := y) (c' := ⟨.line, some t, [], okB3⟩) rfl]
end Go.Proofs.YtmjncadancppoaaGreatDoor.M
