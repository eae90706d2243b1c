import Derived.Test.YtdpnpcjbjjjceaaDoorPure
set_option linter.unusedSimpArgs false
set_option linter.unusedVariables false
namespace Go.Proofs.YtdpnpcjbjjjceaaDoor.P
open Go.Proofs.YtdpnpcjbjjjceaaDoor

def pFitsL : List (Bool × Int) → List (List UInt8) → Bool
  | (b, m) :: r, x :: xs => pAllows b m x && pFitsL r xs
  | _, _ => true
theorem pFits_list : ∀ (rules : List (Bool × Int)) (ws : List ByteArray), pFits rules ws = pFitsL rules (ws.map toL)
  | [], ws => by cases ws <;> rfl
  | (b, m) :: r, [] => rfl
  | (b, m) :: r, x :: xs => by
    unfold pFits pFitsL
    rw [pFits_list r xs]; rfl

/-- a rule and a letter of a shape say the same of a clean word -/
def corr1 (r : Bool × Int) (c : UInt8) : Prop := (∀ w, clean w = true → pAllows r.1 r.2 w = rFit c.toNat w)
def Corr : List (Bool × Int) → List UInt8 → Prop
  | _, [] => True
  | [], _ :: _ => False
  | r :: rs, c :: cs => corr1 r c ∧ Corr rs cs
theorem Corr.nil (rs : List (Bool × Int)) : Corr rs [] := by unfold Corr; trivial
theorem Corr.cons {r : Bool × Int} {c : UInt8} {rs : List (Bool × Int)} {cs : List UInt8} (h : corr1 r c) (t : Corr rs cs) : Corr (r :: rs) (c :: cs) := ⟨h, t⟩

theorem allows_clean (b : Bool) (m : Int) (w : List UInt8) (h : pAllows b m w = true) : clean w = true := by
  cases b with
  | true =>
    unfold pAllows at h
    cases hp : pNum w with
    | none => rw [hp] at h; simp at h
    | some n => exact num_clean w n hp
  | false =>
    simp [pAllows, within] at h
    unfold clean
    have hne : (w == []) = false := by
      cases w with
      | nil => simp at h
      | cons a b => rfl
    rw [hne]
    simp only [Bool.not_false, Bool.true_and]
    rw [List.all_eq_true]
    exact fun x hx => by have := h.2 x hx; simpa [okB] using this
theorem fit_eq : ∀ (xs : List (List UInt8)) (rules : List (Bool × Int)) (sg : List UInt8), sg.length = xs.length → Corr rules sg → pFitsL rules xs = (xs.all clean && fitAll sg xs)
  | [], rules, sg, hl, hc => by
    cases sg with
    | nil => cases rules <;> simp [pFitsL, fitAll]
    | cons a b => simp at hl
  | x :: xs, rules, sg, hl, hc => by
    cases sg with
    | nil => simp at hl
    | cons c cs =>
    cases rules with
    | nil => exact hc.elim
    | cons r rs =>
      obtain ⟨h, t⟩ := hc
      obtain ⟨b, m⟩ := r
      unfold pFitsL fitAll
      rw [fit_eq xs rs cs (by simpa using hl) t, List.all_cons]
      cases hx : clean x with
      | true => rw [h x hx]; cases rFit c.toNat x <;> cases xs.all clean <;> simp
      | false =>
        have : pAllows b m x = false := by
          cases ha : pAllows b m x with
          | false => rfl
          | true => rw [allows_clean b m x ha] at hx; cases hx
        simp [this]

theorem clean_within (w : List UInt8) (h : clean w = true) (mi : Int) (m : Nat) (e : mi = m) : within w mi 33 126 = decide (w.length ≤ m) := by
  subst e
  simp [clean] at h
  have h1 : 1 ≤ w.length := by
    cases w with
    | nil => simp at h
    | cons a b => simp
  have h2 : w.all (okByte 33 126) = true := by
    rw [List.all_eq_true]; exact fun x hx => by have := h.2 x hx; simpa [okB] using this
  unfold within
  rw [h2, decide_eq_true h1]
  simp
theorem allows_num_eq (w : List UInt8) (m : Int) (h0 : 0 ≤ m) : pAllows true m w = decide (0 ≤ rNum w m) := by
  have := num_eq w m h0
  unfold pAllows
  cases hp : pNum w with
  | none => rw [hp] at this; exact this
  | some n => rw [hp] at this; exact this
theorem corr_k : corr1 (false, 20) 107 := fun w h => by
  show within w 20 33 126 = _
  rw [clean_within w h 20 20 rfl]; simp [rFit]
theorem corr_n : corr1 (false, 8) 110 := fun w h => by
  show within w 8 33 126 = _
  rw [clean_within w h 8 8 rfl]; simp [rFit]
theorem corr_t : corr1 (false, 16) 116 := fun w h => by
  show within w 16 33 126 = _
  rw [clean_within w h 16 16 rfl]; simp [rFit]
theorem corr_f : corr1 (true, 65535) 102 := fun w _ => by
  show pAllows true 65535 w = _
  rw [allows_num_eq w 65535 (by decide)]; rfl
theorem corr_l : corr1 (true, 1000000) 108 := fun w _ => by
  show pAllows true 1000000 w = _
  rw [allows_num_eq w 1000000 (by decide)]; rfl
theorem corr_s : corr1 (true, 100) 115 := fun w _ => by
  show pAllows true 100 w = _
  rw [allows_num_eq w 100 (by decide)]; rfl
theorem corr_c : corr1 (true, 999999999) 99 := fun w _ => by
  show pAllows true 999999999 w = _
  rw [allows_num_eq w 999999999 (by decide)]; rfl
theorem corr_K : ∀ n m, n ≤ m → Corr (List.replicate m (false, 20)) (List.replicate n 107)
  | 0, m, _ => Corr.nil _
  | n + 1, m, h => by
    obtain ⟨k, rfl⟩ : ∃ k, m = k + 1 := ⟨m - 1, by omega⟩
    rw [List.replicate_succ, List.replicate_succ]
    exact Corr.cons corr_k (corr_K n k (by omega))

def fitsL (least : Nat) (rules : List (Bool × Int)) (xs : List (List UInt8)) : Bool := decide (least ≤ xs.length) && decide (xs.length ≤ rules.length) && pFitsL rules xs

/-- a command whose words are all there, letter by letter -/
theorem same_of (x0 : List UInt8) (sg : List UInt8) (rules : List (Bool × Int)) (xs : List (List UInt8)) (hc : clean x0 = true) (hs : rShape x0 = sg) (h63 : sg ≠ [63]) (h75 : sg ≠ [75]) (hr : Corr rules sg) (hl : rules.length = sg.length) :
    fitsL rules.length rules xs = ((x0 :: xs).all clean && rGood (x0 :: xs)) := by
  have e1 : rSig (x0 :: xs) = sg := by rw [sig_other x0 xs (by rw [hs]; exact h75), hs]
  by_cases hn : xs.length = sg.length
  · rw [good_fit x0 xs (by rw [hs]; exact h63) (fun h => absurd (hs ▸ h) h75) (by rw [e1]; exact hn.symm), e1]
    unfold fitsL
    rw [decide_eq_true (show rules.length ≤ xs.length by omega), decide_eq_true (show xs.length ≤ rules.length by omega), fit_eq xs rules sg hn.symm hr, List.all_cons, hc]
    simp
  · rw [good_len x0 xs (by rw [e1]; omega)]
    unfold fitsL
    by_cases h1 : rules.length ≤ xs.length
    · rw [decide_eq_false (show ¬ xs.length ≤ rules.length by omega)]; simp
    · rw [decide_eq_false h1]; simp
theorem same_get (x0 : List UInt8) (xs : List (List UInt8)) (hc : clean x0 = true) (hs : rShape x0 = [75]) :
    fitsL 1 (List.replicate 10 (false, 20)) xs = ((x0 :: xs).all clean && rGood (x0 :: xs)) := by
  have e1 : rSig (x0 :: xs) = List.replicate (min 10 xs.length) 107 := sig_K x0 xs hs
  by_cases h0 : xs.length = 0
  · rw [good_K x0 xs hs h0]
    unfold fitsL
    rw [decide_eq_false (show ¬ 1 ≤ xs.length by omega)]; simp
  by_cases h10 : xs.length ≤ 10
  · have hm : min 10 xs.length = xs.length := by omega
    rw [good_fit x0 xs (by rw [hs]; decide) (fun _ => by omega) (by rw [e1, hm]; simp), e1, hm]
    unfold fitsL
    rw [decide_eq_true (show 1 ≤ xs.length by omega), decide_eq_true (show xs.length ≤ (List.replicate 10 ((false, 20) : Bool × Int)).length by simpa using h10),
      fit_eq xs _ (List.replicate xs.length 107) (by simp) (corr_K _ _ h10), List.all_cons, hc]
    simp
  · rw [good_len x0 xs (by rw [e1]; simp; omega)]
    unfold fitsL
    rw [decide_eq_false (show ¬ xs.length ≤ (List.replicate 10 ((false, 20) : Bool × Int)).length by simpa using h10)]; simp

/-- the program's Line, over lists -/
def pLineL (l : List UInt8) : List UInt8 :=
  match Lib.splitK [32] 0 (min 12 (l.length + 1) - 1) l with
  | x0 :: xs => (match pShape x0 with
    | some (least, rules) => if fitsL least rules xs then x0 else [98, 97, 100]
    | none => [98, 97, 100])
  | [] => [98, 97, 100]

theorem shape_same (x0 : List UInt8) (xs : List (List UInt8)) (least : Nat) (rules : List (Bool × Int)) (h : pShape x0 = some (least, rules)) : fitsL least rules xs = ((x0 :: xs).all clean && rGood (x0 :: xs)) := by
  unfold pShape at h
  by_cases e0 : x0 = [97, 117, 116, 104]
  · rw [if_pos e0] at h
    subst e0
    cases h
    exact same_of [97, 117, 116, 104] [110, 116] _ xs (by decide) (by decide) (by decide) (by decide) (Corr.cons corr_n (Corr.cons corr_t (Corr.nil []))) rfl
  rw [if_neg e0] at h
  by_cases e1 : x0 = [113, 117, 105, 116]
  · rw [if_pos e1] at h
    subst e1
    cases h
    exact same_of [113, 117, 105, 116] [] _ xs (by decide) (by decide) (by decide) (by decide) (Corr.nil []) rfl
  rw [if_neg e1] at h
  by_cases e2 : x0 = [115, 116, 97, 116, 115]
  · rw [if_pos e2] at h
    subst e2
    cases h
    exact same_of [115, 116, 97, 116, 115] [] _ xs (by decide) (by decide) (by decide) (by decide) (Corr.nil []) rfl
  rw [if_neg e2] at h
  by_cases e3 : x0 = [103, 101, 116]
  · rw [if_pos e3] at h
    subst e3
    cases h
    exact same_get [103, 101, 116] xs (by decide) (by decide)
  rw [if_neg e3] at h
  by_cases e4 : x0 = [115, 101, 116]
  · rw [if_pos e4] at h
    subst e4
    cases h
    exact same_of [115, 101, 116] [107, 102, 108, 115] _ xs (by decide) (by decide) (by decide) (by decide) (Corr.cons corr_k (Corr.cons corr_f (Corr.cons corr_l (Corr.cons corr_s (Corr.nil []))))) rfl
  rw [if_neg e4] at h
  by_cases e5 : x0 = [97, 100, 100]
  · rw [if_pos e5] at h
    subst e5
    cases h
    exact same_of [97, 100, 100] [107, 102, 108, 115] _ xs (by decide) (by decide) (by decide) (by decide) (Corr.cons corr_k (Corr.cons corr_f (Corr.cons corr_l (Corr.cons corr_s (Corr.nil []))))) rfl
  rw [if_neg e5] at h
  by_cases e6 : x0 = [114, 101, 112, 108, 97, 99, 101]
  · rw [if_pos e6] at h
    subst e6
    cases h
    exact same_of [114, 101, 112, 108, 97, 99, 101] [107, 102, 108, 115] _ xs (by decide) (by decide) (by decide) (by decide) (Corr.cons corr_k (Corr.cons corr_f (Corr.cons corr_l (Corr.cons corr_s (Corr.nil []))))) rfl
  rw [if_neg e6] at h
  by_cases e7 : x0 = [99, 97, 115]
  · rw [if_pos e7] at h
    subst e7
    cases h
    exact same_of [99, 97, 115] [107, 102, 108, 115, 99] _ xs (by decide) (by decide) (by decide) (by decide) (Corr.cons corr_k (Corr.cons corr_f (Corr.cons corr_l (Corr.cons corr_s (Corr.cons corr_c (Corr.nil [])))))) rfl
  rw [if_neg e7] at h
  by_cases e8 : x0 = [100, 101, 108, 101, 116, 101]
  · rw [if_pos e8] at h
    subst e8
    cases h
    exact same_of [100, 101, 108, 101, 116, 101] [107] _ xs (by decide) (by decide) (by decide) (by decide) (Corr.cons corr_k (Corr.nil [])) rfl
  rw [if_neg e8] at h
  by_cases e9 : x0 = [105, 110, 99, 114]
  · rw [if_pos e9] at h
    subst e9
    cases h
    exact same_of [105, 110, 99, 114] [107, 99] _ xs (by decide) (by decide) (by decide) (by decide) (Corr.cons corr_k (Corr.cons corr_c (Corr.nil []))) rfl
  rw [if_neg e9] at h
  by_cases e10 : x0 = [116, 111, 117, 99, 104]
  · rw [if_pos e10] at h
    subst e10
    cases h
    exact same_of [116, 111, 117, 99, 104] [107, 108] _ xs (by decide) (by decide) (by decide) (by decide) (Corr.cons corr_k (Corr.cons corr_l (Corr.nil []))) rfl
  rw [if_neg e10] at h
  cases h
theorem shape_none (x0 : List UInt8) (h : pShape x0 = none) : rShape x0 = [63] := by
  unfold pShape at h
  by_cases e0 : x0 = [97, 117, 116, 104]
  · rw [if_pos e0] at h; cases h
  rw [if_neg e0] at h
  by_cases e1 : x0 = [113, 117, 105, 116]
  · rw [if_pos e1] at h; cases h
  rw [if_neg e1] at h
  by_cases e2 : x0 = [115, 116, 97, 116, 115]
  · rw [if_pos e2] at h; cases h
  rw [if_neg e2] at h
  by_cases e3 : x0 = [103, 101, 116]
  · rw [if_pos e3] at h; cases h
  rw [if_neg e3] at h
  by_cases e4 : x0 = [115, 101, 116]
  · rw [if_pos e4] at h; cases h
  rw [if_neg e4] at h
  by_cases e5 : x0 = [97, 100, 100]
  · rw [if_pos e5] at h; cases h
  rw [if_neg e5] at h
  by_cases e6 : x0 = [114, 101, 112, 108, 97, 99, 101]
  · rw [if_pos e6] at h; cases h
  rw [if_neg e6] at h
  by_cases e7 : x0 = [99, 97, 115]
  · rw [if_pos e7] at h; cases h
  rw [if_neg e7] at h
  by_cases e8 : x0 = [100, 101, 108, 101, 116, 101]
  · rw [if_pos e8] at h; cases h
  rw [if_neg e8] at h
  by_cases e9 : x0 = [105, 110, 99, 114]
  · rw [if_pos e9] at h; cases h
  rw [if_neg e9] at h
  by_cases e10 : x0 = [116, 111, 117, 99, 104]
  · rw [if_pos e10] at h; cases h
  rw [if_neg e10] at h
  simp [rShape, e0, e1, e2, e3, e4, e5, e6, e7, e8, e9, e10]

theorem sig_le (x0 : List UInt8) (xs : List (List UInt8)) : (rSig (x0 :: xs)).length ≤ 10 := by
  unfold rSig
  split
  · simp; omega
  · show (rShape x0).length ≤ 10
    unfold rShape
    repeat' split
    all_goals decide

theorem line_same (l : List UInt8) : pLineL l = rLine l := by
  have hbad : ∀ ws, rGood ws = false → (rWords l = none ∨ rWords l = some ws) → rLine l = [98, 97, 100] := by
    intro ws hg hw
    unfold rLine rRead
    rcases hw with h | h
    · rw [h]
    · rw [h]; simp [hg]
  have hw := rWords_fs l
  have hlen := fs_len l []
  by_cases hM : (fs [] l).length ≤ 12
  · have hk : (fs [] l).length ≤ (min 12 (l.length + 1) - 1) + 1 := by omega
    unfold pLineL
    rw [split_fs _ l hk]
    obtain ⟨x0, xs, hF⟩ : ∃ x0 xs, fs [] l = x0 :: xs := by
      obtain ⟨t, rest, h⟩ := fs_head l []
      exact ⟨_, _, h⟩
    rw [hF] at hw ⊢
    simp only
    cases hs : pShape x0 with
    | none =>
      simp only
      refine (hbad (x0 :: xs) (good_q x0 xs (shape_none x0 hs)) ?_).symm
      rw [hw]; split
      · exact Or.inr rfl
      · exact Or.inl rfl
    | some q =>
      obtain ⟨least, rules⟩ := q
      simp only
      rw [shape_same x0 xs least rules hs]
      unfold rLine rRead
      rw [hw]
      cases hc : (x0 :: xs).all clean with
      | false => simp
      | true => cases hg : rGood (x0 :: xs) <;> simp [hg]
  · have hk : (min 12 (l.length + 1) - 1) + 1 < (fs [] l).length := by omega
    have h12 : min 12 (l.length + 1) - 1 = 11 := by omega
    have hL := split_long _ l hk
    rw [h12] at hL
    unfold pLineL
    rw [h12]
    have hr : rLine l = [98, 97, 100] := by
      obtain ⟨x0, xs, hF⟩ : ∃ x0 xs, fs [] l = x0 :: xs := by
        obtain ⟨t, rest, h⟩ := fs_head l []
        exact ⟨_, _, h⟩
      refine hbad (x0 :: xs) (good_len x0 xs ?_) ?_
      · have := sig_le x0 xs
        rw [hF] at hM
        simp only [List.length_cons] at hM
        omega
      · rw [hw, hF]; split
        · exact Or.inr rfl
        · exact Or.inl rfl
    rw [hr]
    split
    · rename_i x0 xs hx
      rw [hx] at hL
      simp only [List.length_cons] at hL
      cases hs : pShape x0 with
      | none => rfl
      | some q =>
        obtain ⟨least, rules⟩ := q
        have := (pShape_small hs).2
        simp only
        unfold fitsL
        rw [decide_eq_false (show ¬ xs.length ≤ rules.length by omega)]
        simp
    · rfl
end Go.Proofs.YtdpnpcjbjjjceaaDoor.P
