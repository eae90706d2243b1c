import Derived.Test.YtdpnpcjbjjjceaaDoorPlain
set_option linter.unusedSimpArgs false
set_option linter.unusedVariables false
namespace Go.Proofs.YtdpnpcjbjjjceaaDoor.P

def rSig (ws : List (List UInt8)) : List UInt8 :=
  if rShape (ws.headD []) = [75] then List.replicate (min 10 (ws.length - 1)) 107 else rShape (ws.headD [])
def fitAll : List UInt8 → List (List UInt8) → Bool
  | c :: cs, x :: xs => rFit c.toNat x && fitAll cs xs
  | _, _ => true
def rGood (ws : List (List UInt8)) : Bool :=
  !(rShape (ws.headD []) == [63]) && !(rShape (ws.headD []) == [75] && decide (ws.length ≤ 1)) && decide ((rSig ws).length + 1 = ws.length) && fitAll (rSig ws) ws.tail
def rRead (l : List UInt8) : Option (List (List UInt8)) :=
  match rWords l with
  | none => none
  | some ws => if rGood ws then some ws else none
def rLine (l : List UInt8) : List UInt8 :=
  match rRead l with
  | none => [98, 97, 100]
  | some ws => ws.headD []

theorem goW_ne : ∀ (l : List UInt8) (acc : List (List UInt8)) (w : List UInt8) (ws : List (List UInt8)), goW acc w l = some ws → ws ≠ []
  | [], acc, w, ws, h => by
    simp only [goW] at h
    split at h
    · cases h
    · cases h; simp
  | c :: r, acc, w, ws, h => by
    simp only [goW] at h
    split at h
    · split at h
      · cases h
      · exact goW_ne r _ _ ws h
    · split at h
      · cases h
      · exact goW_ne r _ _ ws h
theorem rWords_ne {l : List UInt8} {ws : List (List UInt8)} (h : rWords l = some ws) : ws ≠ [] := goW_ne l [] [] ws h

theorem fitAll_step (cs : List UInt8) (xs : List (List UInt8)) (k : Nat) (c : UInt8) (x : List UInt8) (h1 : cs[k]? = some c) (h2 : xs[k]? = some x) :
    fitAll (cs.drop k) (xs.drop k) = (rFit c.toNat x && fitAll (cs.drop (k + 1)) (xs.drop (k + 1))) := by
  obtain ⟨l1, e1⟩ := List.getElem?_eq_some_iff.1 h1
  obtain ⟨l2, e2⟩ := List.getElem?_eq_some_iff.1 h2
  rw [List.drop_eq_getElem_cons l1, List.drop_eq_getElem_cons l2, e1, e2]
  rfl
theorem fitAll_end (cs : List UInt8) (xs : List (List UInt8)) (k : Nat) (h : cs.length ≤ k) : fitAll (cs.drop k) (xs.drop k) = true := by
  rw [List.drop_eq_nil_of_le h]; simp [fitAll]
theorem mk_list (l : List UInt8) : (⟨l.toArray⟩ : ByteArray).data.toList = l := by simp
theorem mk_size (l : List UInt8) : (⟨l.toArray⟩ : ByteArray).size = l.length := by simp [ByteArray.size]
theorem mk_toL (b : ByteArray) : (⟨(toL b).toArray⟩ : ByteArray) = b := by simp [toL]
theorem getElem?_list (s : ByteArray) (k : Nat) (h : k < s.size) : s.data.toList[k]? = some s[k] := by
  rw [getElem_list s k h]; exact List.getElem?_eq_getElem _
theorem replicate_snoc (k : Nat) (cb : ByteArray) (h : toL cb = List.replicate k 107) : toL (cb ++ ⟨#[107]⟩) = List.replicate (k + 1) 107 := by
  rw [toL, ByteArray.data_append, Array.toList_append]
  show toL cb ++ [107] = _
  rw [h, List.replicate_succ']
theorem goW_len : ∀ (l : List UInt8) (acc : List (List UInt8)) (w : List UInt8) (ws : List (List UInt8)), goW acc w l = some ws → ws.length ≤ acc.length + l.length + 1
  | [], acc, w, ws, h => by
    simp only [goW] at h
    split at h
    · cases h
    · cases h; simp
  | c :: r, acc, w, ws, h => by
    simp only [goW] at h
    split at h
    · split at h
      · cases h
      · have := goW_len r _ _ ws h; simp at this ⊢; omega
    · split at h
      · cases h
      · have := goW_len r _ _ ws h; simp at this ⊢; omega
theorem rWords_len {s : ByteArray} {ws : List (List UInt8)} (h : rWords s.data.toList = some ws) : ws.length ≤ s.size + 1 := by
  have := goW_len _ _ _ _ h; rw [length_list] at this; simpa using this
theorem good_q (x0 : List UInt8) (xs : List (List UInt8)) (h : rShape x0 = [63]) : rGood (x0 :: xs) = false := by simp [rGood, h]
theorem good_K (x0 : List UInt8) (xs : List (List UInt8)) (h : rShape x0 = [75]) (h1 : xs.length = 0) : rGood (x0 :: xs) = false := by simp [rGood, h, h1]
theorem good_len (x0 : List UInt8) (xs : List (List UInt8)) (h : ¬ (rSig (x0 :: xs)).length + 1 = xs.length + 1) : rGood (x0 :: xs) = false := by
  unfold rGood
  rw [show decide ((rSig (x0 :: xs)).length + 1 = (x0 :: xs).length) = false from decide_eq_false h]
  simp
theorem good_fit (x0 : List UInt8) (xs : List (List UInt8)) (h1 : ¬ rShape x0 = [63]) (h2 : rShape x0 = [75] → 1 ≤ xs.length) (h : (rSig (x0 :: xs)).length = xs.length) : rGood (x0 :: xs) = fitAll (rSig (x0 :: xs)) xs := by
  have e1 : (rShape x0 == [63]) = false := by simpa using h1
  have e2 : (rShape x0 == [75] && decide (xs.length + 1 ≤ 1)) = false := by
    cases hq : (rShape x0 == [75]) with
    | false => rfl
    | true => have := h2 (by simpa using hq); rw [Bool.true_and]; exact decide_eq_false (by omega)
  unfold rGood
  simp only [List.headD_cons, List.length_cons, List.tail_cons, e1, e2, h]
  simp
theorem sig_K (x0 : List UInt8) (xs : List (List UInt8)) (h : rShape x0 = [75]) : rSig (x0 :: xs) = List.replicate (min 10 xs.length) 107 := by simp [rSig, h]
theorem sig_other (x0 : List UInt8) (xs : List (List UInt8)) (h : ¬ rShape x0 = [75]) : rSig (x0 :: xs) = rShape x0 := by simp [rSig, h]
end Go.Proofs.YtdpnpcjbjjjceaaDoor.P
