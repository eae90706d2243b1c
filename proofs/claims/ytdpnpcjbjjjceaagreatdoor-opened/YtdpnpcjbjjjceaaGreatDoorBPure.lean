import Derived.Lib.IndexBytes
import Derived.Test.YtdpnpcjbjjjceaaGreatDoorBRepeatWalks
set_option linter.unusedSimpArgs false
set_option linter.unusedVariables false
namespace Go.Proofs.YtdpnpcjbjjjceaaGreatDoor.P
open Go.Proofs.YtdpnpcjbjjjceaaGreatDoor

def okB (c : UInt8) : Bool := okByte 33 126 c
def clean (w : List UInt8) : Bool := !(w == []) && w.all okB
def fs (cur : List UInt8) : List UInt8 → List (List UInt8)
  | [] => [cur]
  | c :: r => if c.toNat = 32 then cur :: fs [] r else fs (cur ++ [c]) r

theorem fs_head : ∀ (l cur : List UInt8), ∃ t rest, fs cur l = (cur ++ t) :: rest
  | [], cur => ⟨[], [], by simp [fs]⟩
  | c :: r, cur => by
    unfold fs
    split
    · exact ⟨[], fs [] r, by simp⟩
    · obtain ⟨t, rest, h⟩ := fs_head r (cur ++ [c])
      exact ⟨c :: t, rest, by rw [h]; simp⟩

theorem okB_iff (c : UInt8) : okB c = true ↔ ¬ (c.toNat < 33 ∨ 126 < c.toNat) := by
  simp [okB, okByte]; omega

theorem goW_fs : ∀ (l : List UInt8) (acc : List (List UInt8)) (cur : List UInt8), cur.all okB = true → goW acc cur l = if (fs cur l).all clean then some (acc ++ fs cur l) else none
  | [], acc, cur, h => by
    by_cases hc : cur = []
    · simp [goW, fs, hc, clean]
    · have : clean cur = true := by simp [clean, hc, h]
      simp [goW, fs, hc, this]
  | c :: r, acc, cur, h => by
    unfold goW fs
    by_cases h32 : c.toNat = 32
    · simp only [h32, if_true]
      by_cases hc : cur = []
      · simp [hc, clean]
      · have hcl : clean cur = true := by simp [clean, hc, h]
        simp only [hc, if_false]
        rw [goW_fs r (acc ++ [cur]) [] (by simp)]
        simp [hcl]
    · simp only [h32, if_false]
      by_cases hb : c.toNat < 33 ∨ 126 < c.toNat
      · simp only [hb, if_true]
        obtain ⟨t, rest, hh⟩ := fs_head r (cur ++ [c])
        have hn : okB c = false := by
          cases hk : okB c with
          | false => rfl
          | true => exact absurd hb ((okB_iff c).1 hk)
        have : clean (cur ++ [c] ++ t) = false := by simp [clean, hn]
        rw [hh]
        simp only [List.all_cons, this, Bool.false_and]
        simp
      · simp only [hb, if_false]
        exact goW_fs r acc (cur ++ [c]) (by simp [List.all_append, h, (okB_iff c).2 hb])
theorem rWords_fs (l : List UInt8) : rWords l = if (fs [] l).all clean then some (fs [] l) else none := by
  have := goW_fs l [] [] (by simp)
  simpa [rWords] using this

theorem idx_split : ∀ (l : List UInt8), (Lib.indexByte l 32 = -1 ∧ ∀ cur, fs cur l = [cur ++ l]) ∨ (∃ p q, l = p ++ 32 :: q ∧ Lib.indexByte l 32 = p.length ∧ ∀ cur, fs cur l = (cur ++ p) :: fs [] q)
  | [] => Or.inl ⟨rfl, fun cur => by simp [fs]⟩
  | c :: r => by
    by_cases h : c = 32
    · subst h
      exact Or.inr ⟨[], r, rfl, by simp [Lib.indexByte], fun cur => by simp [fs]⟩
    · have hn : c.toNat ≠ 32 := fun e => h (UInt8.toNat_inj.1 e)
      rcases idx_split r with ⟨h1, h2⟩ | ⟨p, q, rfl, h1, h2⟩
      · refine Or.inl ⟨?_, fun cur => ?_⟩
        · simp [Lib.indexByte, h, h1]
        · simp only [fs, hn, if_false]; rw [h2]; simp
      · refine Or.inr ⟨c :: p, q, rfl, ?_, fun cur => ?_⟩
        · simp [Lib.indexByte, h, h1]
        · simp only [fs, hn, if_false]; rw [h2]; simp

theorem fs_pos (cur l : List UInt8) : 1 ≤ (fs cur l).length := by
  obtain ⟨t, rest, h⟩ := fs_head l cur
  rw [h]; simp
theorem fs_len : ∀ (l cur : List UInt8), (fs cur l).length ≤ l.length + 1
  | [], cur => by simp [fs]
  | c :: r, cur => by
    unfold fs
    split
    · have := fs_len r []; simp; omega
    · have := fs_len r (cur ++ [c]); simp; omega

theorem splitK_hit (k : Nat) (p q : List UInt8) (h : Lib.indexByte (p ++ 32 :: q) 32 = p.length) : Lib.splitK [32] 0 (k + 1) (p ++ 32 :: q) = p :: Lib.splitK [32] 0 k q := by
  have e : Lib.index (p ++ 32 :: q) [32] = p.length := by rw [Lib.index_one]; exact h
  rw [Lib.splitK, e, if_neg (by intro h; have := beq_iff_eq.1 h; omega)]
  simp
theorem splitK_miss (k : Nat) (l : List UInt8) (h : Lib.indexByte l 32 = -1) : Lib.splitK [32] 0 k l = [l] := by
  cases k with
  | zero => rfl
  | succ k =>
    have e : Lib.index l [32] = -1 := by rw [Lib.index_one]; exact h
    unfold Lib.splitK
    rw [e]; rfl

theorem split_fs : ∀ (k : Nat) (l : List UInt8), (fs [] l).length ≤ k + 1 → Lib.splitK [32] 0 k l = fs [] l
  | k, l, h => by
    rcases idx_split l with ⟨h1, h2⟩ | ⟨p, q, rfl, h1, h2⟩
    · rw [splitK_miss k l h1, h2]; rfl
    · cases k with
      | zero =>
        rw [h2] at h
        have := fs_pos [] q
        simp only [List.length_cons] at h; omega
      | succ k =>
        rw [h2] at h
        rw [splitK_hit k p q h1, h2, split_fs k q (by simp at h; omega)]
        rfl
theorem split_long : ∀ (k : Nat) (l : List UInt8), k + 1 < (fs [] l).length → (Lib.splitK [32] 0 k l).length = k + 1
  | k, l, h => by
    rcases idx_split l with ⟨h1, h2⟩ | ⟨p, q, rfl, h1, h2⟩
    · rw [h2] at h; simp at h
    · cases k with
      | zero => rfl
      | succ k =>
        rw [h2] at h
        rw [splitK_hit k p q h1, List.length_cons, split_long k q (by simp at h; omega)]

theorem digits_grow : ∀ (l : List UInt8) (a n : Nat), digits a l = some n → a ≤ n
  | [], a, n, h => by simp [digits] at h; omega
  | c :: r, a, n, h => by
    unfold digits at h
    split at h
    · rename_i hd
      have hc : 48 ≤ c.toNat ∧ c.toNat ≤ 57 := by simpa [isDig] using hd
      have := digits_grow r _ n h
      omega
    · cases h
/-- what ParseUint reads of digits, as long as nothing passes 64 bits -/
theorem parse_digits : ∀ (l : List UInt8) (a : Nat), a < 10 ^ (10 - l.length) → l.length ≤ 10 → Lib.parseUintM (2 ^ 64 - 1) a l = match digits a l with | some n => .ok n | none => Lib.parseUintB 64 []
  | [], a, _, _ => by simp [Lib.parseUintM, digits]
  | c :: r, a, ha, hl => by
    have hb : a < 1000000000 := by
      have : (10 : Nat) ^ (10 - (c :: r).length) ≤ 10 ^ 9 := Nat.pow_le_pow_right (by decide) (by rw [List.length_cons]; omega)
      exact Nat.lt_of_lt_of_le ha this
    unfold Lib.parseUintM digits
    by_cases hd : 48 ≤ c.toNat ∧ c.toNat ≤ 57
    · have hdb : isDig c = true := by simpa [isDig] using hd
      have ih := parse_digits r (a * 10 + (c.toNat - 48)) (by
        have e : 10 - r.length = (10 - (c :: r).length) + 1 := by rw [List.length_cons] at hl ⊢; omega
        rw [e, Nat.pow_succ]; omega) (by rw [List.length_cons] at hl; omega)
      rw [if_pos hd, if_neg (by omega), if_neg (by omega), ih, hdb]
      have e : a * 10 + (c.toNat - 48) = a * 10 + c.toNat - 48 := by omega
      rw [e]; rfl
    · have hdb : isDig c = false := by
        cases h : isDig c with
        | false => rfl
        | true => exact absurd (by simpa [isDig] using h) hd
      rw [if_neg hd, hdb]; rfl
/-- ten digits or more, the first no 0: none below 10^9 -/
theorem parse_big : ∀ (l : List UInt8) (a u : Nat), 1 ≤ a → Lib.parseUintM (2 ^ 64 - 1) a l = .ok u → a * 10 ^ l.length ≤ u
  | [], a, u, _, h => by simp [Lib.parseUintM] at h; simp; omega
  | c :: r, a, u, ha, h => by
    unfold Lib.parseUintM at h
    split at h
    · split at h
      · cases h
      · split at h
        · cases h
        · have := parse_big r _ u (by omega) h
          rw [List.length_cons, Nat.pow_succ]
          refine Nat.le_trans ?_ this
          rw [Nat.mul_comm (10 ^ r.length) 10, ← Nat.mul_assoc]
          exact Nat.mul_le_mul_right _ (by omega)
    · cases h

theorem parse_all : ∀ (l : List UInt8) (M a u : Nat), Lib.parseUintM M a l = .ok u → l.all isDig = true
  | [], _, _, _, _ => rfl
  | c :: r, M, a, u, h => by
    unfold Lib.parseUintM at h
    split at h
    · rename_i hd
      split at h
      · cases h
      · split at h
        · cases h
        · have := parse_all r M _ u h
          simp [List.all_cons, this, isDig, hd]
    · cases h
theorem digits_lt : ∀ (l : List UInt8) (a n : Nat), digits a l = some n → n < (a + 1) * 10 ^ l.length
  | [], a, n, h => by simp [digits] at h; simp; omega
  | c :: r, a, n, h => by
    unfold digits at h
    split at h
    · rename_i hd
      have hc : 48 ≤ c.toNat ∧ c.toNat ≤ 57 := by simpa [isDig] using hd
      have := digits_lt r _ n h
      rw [List.length_cons, Nat.pow_succ, Nat.mul_comm (10 ^ r.length) 10, ← Nat.mul_assoc]
      exact Nat.lt_of_lt_of_le this (Nat.mul_le_mul_right _ (by omega))
    · cases h

theorem pNum_none_lead (w : List UInt8) (h : 1 < w.length ∧ w.head? = some 48) : pNum w = none := by unfold pNum; rw [if_pos h]
theorem pNum_long (w : List UInt8) (hl : 10 ≤ w.length) : pNum w = none := by
  unfold pNum
  split
  · rfl
  · rename_i hn
    cases w with
    | nil => simp at hl
    | cons c r =>
      have hc : c ≠ 48 := fun e => hn ⟨by omega, by rw [e]; rfl⟩
      have hr : 9 ≤ r.length := by rw [List.length_cons] at hl; omega
      have hp : ∀ u, Lib.parseUintB 64 (c :: r) = .ok u → 999999999 < u := by
        intro u hu
        unfold Lib.parseUintB at hu
        rw [if_neg (by simp)] at hu
        unfold Lib.parseUintM at hu
        split at hu
        · rename_i hd
          have hne : c.toNat ≠ 48 := fun e => hc (UInt8.toNat_inj.1 e)
          split at hu
          · cases hu
          · split at hu
            · cases hu
            · have h1 := parse_big r _ u (by omega) hu
              have h2 : (10 : Nat) ^ 9 ≤ 10 ^ r.length := Nat.pow_le_pow_right (by decide) hr
              have h3 : 1 * 10 ^ r.length ≤ (0 * 10 + (c.toNat - 48)) * 10 ^ r.length := Nat.mul_le_mul_right _ (by omega)
              have h4 : (10 : Nat) ^ 9 = 1000000000 := by decide
              omega
        · cases hu
      cases hq : Lib.parseUintB 64 (c :: r) with
      | ok u => simp [hp u hq]
      | _ => rfl
theorem pNum_short (w : List UInt8) (h0 : w ≠ []) (hl : w.length ≤ 9) (hz : ¬ (1 < w.length ∧ w.head? = some 48)) : pNum w = digits 0 w := by
  unfold pNum
  rw [if_neg hz]
  have e := parse_digits w 0 (Nat.pow_pos (by decide)) (by omega)
  unfold Lib.parseUintB
  rw [if_neg h0, e]
  cases hd : digits 0 w with
  | none => rfl
  | some n =>
    have h1 := digits_lt w 0 n hd
    have h2 : (10 : Nat) ^ w.length ≤ 10 ^ 9 := Nat.pow_le_pow_right (by decide) hl
    have h3 : (10 : Nat) ^ 9 = 1000000000 := by decide
    simp; omega

theorem num_eq (w : List UInt8) (most : Int) (_h0 : 0 ≤ most) : (match pNum w with | some n => decide ((n : Int) ≤ most) | none => false) = decide (0 ≤ rNum w most) := by
  by_cases he : w = []
  · subst he; rfl
  by_cases hl : 10 ≤ w.length
  · rw [pNum_long w hl]
    unfold rNum
    rw [if_pos (Or.inr (Or.inl (by omega)))]; rfl
  by_cases hz : 1 < w.length ∧ w.head? = some 48
  · rw [pNum_none_lead w hz]
    unfold rNum
    rw [if_pos (Or.inr (Or.inr ⟨hz.2, fun e => by rw [e] at hz; simp at hz⟩))]; rfl
  · rw [pNum_short w he (by omega) hz]
    unfold rNum
    rw [if_neg]
    · cases hd : digits 0 w with
      | none => rfl
      | some n =>
        by_cases hm : most < (n : Int)
        · simp [hm] <;> omega
        · simp [hm] <;> omega
    · rintro (h | h | ⟨h, h'⟩)
      · exact he h
      · omega
      · cases w with
        | nil => exact he rfl
        | cons c r =>
          cases r with
          | nil => simp at h; rw [h] at h'; exact h' rfl
          | cons d r => exact hz ⟨by simp, h⟩
theorem num_clean (w : List UInt8) (n : Nat) (h : pNum w = some n) : clean w = true := by
  unfold pNum at h
  split at h
  · cases h
  · cases hq : Lib.parseUintB 64 w with
    | ok u =>
      unfold Lib.parseUintB at hq
      split at hq
      · cases hq
      · rename_i hne
        have := parse_all w _ _ u hq
        unfold clean
        rw [show (w == []) = false by simpa using hne]
        simp only [Bool.not_false, Bool.true_and]
        rw [List.all_eq_true] at this ⊢
        intro c hc
        have := this c hc
        simp [isDig] at this
        rw [okB_iff]; omega
    | _ => rw [hq] at h; cases h
end Go.Proofs.YtdpnpcjbjjjceaaGreatDoor.P
namespace Go.Proofs.YtdpnpcjbjjjceaaGreatDoor.P
open Go.Proofs.YtdpnpcjbjjjceaaGreatDoor

def pFitsL : List (Bool × Int) → List (List UInt8) → Bool
  | (b, m) :: r, x :: xs => pAllows b m x && pFitsL r xs
  | _, _ => true
theorem pFits_list : ∀ (rules : List (Bool × Int)) (ws : List ByteArray), pFits rules ws = pFitsL rules (ws.map toL)
  | [], ws => by cases ws <;> rfl
  | (b, m) :: r, [] => rfl
  | (b, m) :: r, x :: xs => by
    unfold pFits pFitsL
    rw [pFits_list r xs]; rfl

/-- a rule and a letter of a shape say the same of a clean word -/
def corr1 (r : Bool × Int) (c : UInt8) : Prop := (∀ w, clean w = true → pAllows r.1 r.2 w = rFit c.toNat w)
def Corr : List (Bool × Int) → List UInt8 → Prop
  | _, [] => True
  | [], _ :: _ => False
  | r :: rs, c :: cs => corr1 r c ∧ Corr rs cs
theorem Corr.nil (rs : List (Bool × Int)) : Corr rs [] := by unfold Corr; trivial
theorem Corr.cons {r : Bool × Int} {c : UInt8} {rs : List (Bool × Int)} {cs : List UInt8} (h : corr1 r c) (t : Corr rs cs) : Corr (r :: rs) (c :: cs) := ⟨h, t⟩

theorem allows_clean (b : Bool) (m : Int) (w : List UInt8) (h : pAllows b m w = true) : clean w = true := by
  cases b with
  | true =>
    unfold pAllows at h
    cases hp : pNum w with
    | none => rw [hp] at h; simp at h
    | some n => exact num_clean w n hp
  | false =>
    simp [pAllows, within] at h
    unfold clean
    have hne : (w == []) = false := by
      cases w with
      | nil => simp at h
      | cons a b => rfl
    rw [hne]
    simp only [Bool.not_false, Bool.true_and]
    rw [List.all_eq_true]
    exact fun x hx => by have := h.2 x hx; simpa [okB] using this
theorem fit_eq : ∀ (xs : List (List UInt8)) (rules : List (Bool × Int)) (sg : List UInt8), sg.length = xs.length → Corr rules sg → pFitsL rules xs = (xs.all clean && fitAll sg xs)
  | [], rules, sg, hl, hc => by
    cases sg with
    | nil => cases rules <;> simp [pFitsL, fitAll]
    | cons a b => simp at hl
  | x :: xs, rules, sg, hl, hc => by
    cases sg with
    | nil => simp at hl
    | cons c cs =>
    cases rules with
    | nil => exact hc.elim
    | cons r rs =>
      obtain ⟨h, t⟩ := hc
      obtain ⟨b, m⟩ := r
      unfold pFitsL fitAll
      rw [fit_eq xs rs cs (by simpa using hl) t, List.all_cons]
      cases hx : clean x with
      | true => rw [h x hx]; cases rFit c.toNat x <;> cases xs.all clean <;> simp
      | false =>
        have : pAllows b m x = false := by
          cases ha : pAllows b m x with
          | false => rfl
          | true => rw [allows_clean b m x ha] at hx; cases hx
        simp [this]

theorem clean_within (w : List UInt8) (h : clean w = true) (mi : Int) (m : Nat) (e : mi = m) : within w mi 33 126 = decide (w.length ≤ m) := by
  subst e
  simp [clean] at h
  have h1 : 1 ≤ w.length := by
    cases w with
    | nil => simp at h
    | cons a b => simp
  have h2 : w.all (okByte 33 126) = true := by
    rw [List.all_eq_true]; exact fun x hx => by have := h.2 x hx; simpa [okB] using this
  unfold within
  rw [h2, decide_eq_true h1]
  simp
theorem allows_num_eq (w : List UInt8) (m : Int) (h0 : 0 ≤ m) : pAllows true m w = decide (0 ≤ rNum w m) := by
  have := num_eq w m h0
  unfold pAllows
  cases hp : pNum w with
  | none => rw [hp] at this; exact this
  | some n => rw [hp] at this; exact this
theorem corr_k : corr1 (false, 20) 107 := fun w h => by
  show within w 20 33 126 = _
  rw [clean_within w h 20 20 rfl]; simp [rFit]
theorem corr_n : corr1 (false, 8) 110 := fun w h => by
  show within w 8 33 126 = _
  rw [clean_within w h 8 8 rfl]; simp [rFit]
theorem corr_t : corr1 (false, 16) 116 := fun w h => by
  show within w 16 33 126 = _
  rw [clean_within w h 16 16 rfl]; simp [rFit]
theorem corr_f : corr1 (true, 65535) 102 := fun w _ => by
  show pAllows true 65535 w = _
  rw [allows_num_eq w 65535 (by decide)]; rfl
theorem corr_l : corr1 (true, 1000000) 108 := fun w _ => by
  show pAllows true 1000000 w = _
  rw [allows_num_eq w 1000000 (by decide)]; rfl
theorem corr_s : corr1 (true, 100) 115 := fun w _ => by
  show pAllows true 100 w = _
  rw [allows_num_eq w 100 (by decide)]; rfl
theorem corr_c : corr1 (true, 999999999) 99 := fun w _ => by
  show pAllows true 999999999 w = _
  rw [allows_num_eq w 999999999 (by decide)]; rfl
theorem corr_K : ∀ n m, n ≤ m → Corr (List.replicate m (false, 20)) (List.replicate n 107)
  | 0, m, _ => Corr.nil _
  | n + 1, m, h => by
    obtain ⟨k, rfl⟩ : ∃ k, m = k + 1 := ⟨m - 1, by omega⟩
    rw [List.replicate_succ, List.replicate_succ]
    exact Corr.cons corr_k (corr_K n k (by omega))

def fitsL (least : Nat) (rules : List (Bool × Int)) (xs : List (List UInt8)) : Bool := decide (least ≤ xs.length) && decide (xs.length ≤ rules.length) && pFitsL rules xs

/-- a command whose words are all there, letter by letter -/
theorem same_of (x0 : List UInt8) (sg : List UInt8) (rules : List (Bool × Int)) (xs : List (List UInt8)) (hc : clean x0 = true) (hs : rShape x0 = sg) (h63 : sg ≠ [63]) (h75 : sg ≠ [75]) (hr : Corr rules sg) (hl : rules.length = sg.length) :
    fitsL rules.length rules xs = ((x0 :: xs).all clean && rGood (x0 :: xs)) := by
  have e1 : rSig (x0 :: xs) = sg := by rw [sig_other x0 xs (by rw [hs]; exact h75), hs]
  by_cases hn : xs.length = sg.length
  · rw [good_fit x0 xs (by rw [hs]; exact h63) (fun h => absurd (hs ▸ h) h75) (by rw [e1]; exact hn.symm), e1]
    unfold fitsL
    rw [decide_eq_true (show rules.length ≤ xs.length by omega), decide_eq_true (show xs.length ≤ rules.length by omega), fit_eq xs rules sg hn.symm hr, List.all_cons, hc]
    simp
  · rw [good_len x0 xs (by rw [e1]; omega)]
    unfold fitsL
    by_cases h1 : rules.length ≤ xs.length
    · rw [decide_eq_false (show ¬ xs.length ≤ rules.length by omega)]; simp
    · rw [decide_eq_false h1]; simp
theorem same_get (x0 : List UInt8) (xs : List (List UInt8)) (hc : clean x0 = true) (hs : rShape x0 = [75]) :
    fitsL 1 (List.replicate 10 (false, 20)) xs = ((x0 :: xs).all clean && rGood (x0 :: xs)) := by
  have e1 : rSig (x0 :: xs) = List.replicate (min 10 xs.length) 107 := sig_K x0 xs hs
  by_cases h0 : xs.length = 0
  · rw [good_K x0 xs hs h0]
    unfold fitsL
    rw [decide_eq_false (show ¬ 1 ≤ xs.length by omega)]; simp
  by_cases h10 : xs.length ≤ 10
  · have hm : min 10 xs.length = xs.length := by omega
    rw [good_fit x0 xs (by rw [hs]; decide) (fun _ => by omega) (by rw [e1, hm]; simp), e1, hm]
    unfold fitsL
    rw [decide_eq_true (show 1 ≤ xs.length by omega), decide_eq_true (show xs.length ≤ (List.replicate 10 ((false, 20) : Bool × Int)).length by simpa using h10),
      fit_eq xs _ (List.replicate xs.length 107) (by simp) (corr_K _ _ h10), List.all_cons, hc]
    simp
  · rw [good_len x0 xs (by rw [e1]; simp; omega)]
    unfold fitsL
    rw [decide_eq_false (show ¬ xs.length ≤ (List.replicate 10 ((false, 20) : Bool × Int)).length by simpa using h10)]; simp

/-- the program's Line, over lists -/
def pLineL (l : List UInt8) : List UInt8 :=
  match Lib.splitK [32] 0 (min 12 (l.length + 1) - 1) l with
  | x0 :: xs => (match pShape x0 with
    | some (least, rules) => if fitsL least rules xs then x0 else [98, 97, 100]
    | none => [98, 97, 100])
  | [] => [98, 97, 100]

theorem shape_same (x0 : List UInt8) (xs : List (List UInt8)) (least : Nat) (rules : List (Bool × Int)) (h : pShape x0 = some (least, rules)) : fitsL least rules xs = ((x0 :: xs).all clean && rGood (x0 :: xs)) := by
  unfold pShape at h
  by_cases e0 : x0 = [97, 117, 116, 104]
  · rw [if_pos e0] at h
    subst e0
    cases h
    exact same_of [97, 117, 116, 104] [110, 116] _ xs (by decide) (by decide) (by decide) (by decide) (Corr.cons corr_n (Corr.cons corr_t (Corr.nil []))) rfl
  rw [if_neg e0] at h
  by_cases e1 : x0 = [113, 117, 105, 116]
  · rw [if_pos e1] at h
    subst e1
    cases h
    exact same_of [113, 117, 105, 116] [] _ xs (by decide) (by decide) (by decide) (by decide) (Corr.nil []) rfl
  rw [if_neg e1] at h
  by_cases e2 : x0 = [115, 116, 97, 116, 115]
  · rw [if_pos e2] at h
    subst e2
    cases h
    exact same_of [115, 116, 97, 116, 115] [] _ xs (by decide) (by decide) (by decide) (by decide) (Corr.nil []) rfl
  rw [if_neg e2] at h
  by_cases e3 : x0 = [103, 101, 116]
  · rw [if_pos e3] at h
    subst e3
    cases h
    exact same_get [103, 101, 116] xs (by decide) (by decide)
  rw [if_neg e3] at h
  by_cases e4 : x0 = [115, 101, 116]
  · rw [if_pos e4] at h
    subst e4
    cases h
    exact same_of [115, 101, 116] [107, 102, 108, 115] _ xs (by decide) (by decide) (by decide) (by decide) (Corr.cons corr_k (Corr.cons corr_f (Corr.cons corr_l (Corr.cons corr_s (Corr.nil []))))) rfl
  rw [if_neg e4] at h
  by_cases e5 : x0 = [97, 100, 100]
  · rw [if_pos e5] at h
    subst e5
    cases h
    exact same_of [97, 100, 100] [107, 102, 108, 115] _ xs (by decide) (by decide) (by decide) (by decide) (Corr.cons corr_k (Corr.cons corr_f (Corr.cons corr_l (Corr.cons corr_s (Corr.nil []))))) rfl
  rw [if_neg e5] at h
  by_cases e6 : x0 = [114, 101, 112, 108, 97, 99, 101]
  · rw [if_pos e6] at h
    subst e6
    cases h
    exact same_of [114, 101, 112, 108, 97, 99, 101] [107, 102, 108, 115] _ xs (by decide) (by decide) (by decide) (by decide) (Corr.cons corr_k (Corr.cons corr_f (Corr.cons corr_l (Corr.cons corr_s (Corr.nil []))))) rfl
  rw [if_neg e6] at h
  by_cases e7 : x0 = [99, 97, 115]
  · rw [if_pos e7] at h
    subst e7
    cases h
    exact same_of [99, 97, 115] [107, 102, 108, 115, 99] _ xs (by decide) (by decide) (by decide) (by decide) (Corr.cons corr_k (Corr.cons corr_f (Corr.cons corr_l (Corr.cons corr_s (Corr.cons corr_c (Corr.nil [])))))) rfl
  rw [if_neg e7] at h
  by_cases e8 : x0 = [100, 101, 108, 101, 116, 101]
  · rw [if_pos e8] at h
    subst e8
    cases h
    exact same_of [100, 101, 108, 101, 116, 101] [107] _ xs (by decide) (by decide) (by decide) (by decide) (Corr.cons corr_k (Corr.nil [])) rfl
  rw [if_neg e8] at h
  by_cases e9 : x0 = [105, 110, 99, 114]
  · rw [if_pos e9] at h
    subst e9
    cases h
    exact same_of [105, 110, 99, 114] [107, 99] _ xs (by decide) (by decide) (by decide) (by decide) (Corr.cons corr_k (Corr.cons corr_c (Corr.nil []))) rfl
  rw [if_neg e9] at h
  by_cases e10 : x0 = [116, 111, 117, 99, 104]
  · rw [if_pos e10] at h
    subst e10
    cases h
    exact same_of [116, 111, 117, 99, 104] [107, 108] _ xs (by decide) (by decide) (by decide) (by decide) (Corr.cons corr_k (Corr.cons corr_l (Corr.nil []))) rfl
  rw [if_neg e10] at h
  cases h
theorem shape_none (x0 : List UInt8) (h : pShape x0 = none) : rShape x0 = [63] := by
  unfold pShape at h
  by_cases e0 : x0 = [97, 117, 116, 104]
  · rw [if_pos e0] at h; cases h
  rw [if_neg e0] at h
  by_cases e1 : x0 = [113, 117, 105, 116]
  · rw [if_pos e1] at h; cases h
  rw [if_neg e1] at h
  by_cases e2 : x0 = [115, 116, 97, 116, 115]
  · rw [if_pos e2] at h; cases h
  rw [if_neg e2] at h
  by_cases e3 : x0 = [103, 101, 116]
  · rw [if_pos e3] at h; cases h
  rw [if_neg e3] at h
  by_cases e4 : x0 = [115, 101, 116]
  · rw [if_pos e4] at h; cases h
  rw [if_neg e4] at h
  by_cases e5 : x0 = [97, 100, 100]
  · rw [if_pos e5] at h; cases h
  rw [if_neg e5] at h
  by_cases e6 : x0 = [114, 101, 112, 108, 97, 99, 101]
  · rw [if_pos e6] at h; cases h
  rw [if_neg e6] at h
  by_cases e7 : x0 = [99, 97, 115]
  · rw [if_pos e7] at h; cases h
  rw [if_neg e7] at h
  by_cases e8 : x0 = [100, 101, 108, 101, 116, 101]
  · rw [if_pos e8] at h; cases h
  rw [if_neg e8] at h
  by_cases e9 : x0 = [105, 110, 99, 114]
  · rw [if_pos e9] at h; cases h
  rw [if_neg e9] at h
  by_cases e10 : x0 = [116, 111, 117, 99, 104]
  · rw [if_pos e10] at h; cases h
  rw [if_neg e10] at h
  simp [rShape, e0, e1, e2, e3, e4, e5, e6, e7, e8, e9, e10]

theorem sig_le (x0 : List UInt8) (xs : List (List UInt8)) : (rSig (x0 :: xs)).length ≤ 10 := by
  unfold rSig
  split
  · simp; omega
  · show (rShape x0).length ≤ 10
    unfold rShape
    repeat' split
    all_goals decide

theorem line_same (l : List UInt8) : pLineL l = rLine l := by
  have hbad : ∀ ws, rGood ws = false → (rWords l = none ∨ rWords l = some ws) → rLine l = [98, 97, 100] := by
    intro ws hg hw
    unfold rLine rRead
    rcases hw with h | h
    · rw [h]
    · rw [h]; simp [hg]
  have hw := rWords_fs l
  have hlen := fs_len l []
  by_cases hM : (fs [] l).length ≤ 12
  · have hk : (fs [] l).length ≤ (min 12 (l.length + 1) - 1) + 1 := by omega
    unfold pLineL
    rw [split_fs _ l hk]
    obtain ⟨x0, xs, hF⟩ : ∃ x0 xs, fs [] l = x0 :: xs := by
      obtain ⟨t, rest, h⟩ := fs_head l []
      exact ⟨_, _, h⟩
    rw [hF] at hw ⊢
    simp only
    cases hs : pShape x0 with
    | none =>
      simp only
      refine (hbad (x0 :: xs) (good_q x0 xs (shape_none x0 hs)) ?_).symm
      rw [hw]; split
      · exact Or.inr rfl
      · exact Or.inl rfl
    | some q =>
      obtain ⟨least, rules⟩ := q
      simp only
      rw [shape_same x0 xs least rules hs]
      unfold rLine rRead
      rw [hw]
      cases hc : (x0 :: xs).all clean with
      | false => simp
      | true => cases hg : rGood (x0 :: xs) <;> simp [hg]
  · have hk : (min 12 (l.length + 1) - 1) + 1 < (fs [] l).length := by omega
    have h12 : min 12 (l.length + 1) - 1 = 11 := by omega
    have hL := split_long _ l hk
    rw [h12] at hL
    unfold pLineL
    rw [h12]
    have hr : rLine l = [98, 97, 100] := by
      obtain ⟨x0, xs, hF⟩ : ∃ x0 xs, fs [] l = x0 :: xs := by
        obtain ⟨t, rest, h⟩ := fs_head l []
        exact ⟨_, _, h⟩
      refine hbad (x0 :: xs) (good_len x0 xs ?_) ?_
      · have := sig_le x0 xs
        rw [hF] at hM
        simp only [List.length_cons] at hM
        omega
      · rw [hw, hF]; split
        · exact Or.inr rfl
        · exact Or.inl rfl
    rw [hr]
    split
    · rename_i x0 xs hx
      rw [hx] at hL
      simp only [List.length_cons] at hL
      cases hs : pShape x0 with
      | none => rfl
      | some q =>
        obtain ⟨least, rules⟩ := q
        have := (pShape_small hs).2
        simp only
        unfold fitsL
        rw [decide_eq_false (show ¬ xs.length ≤ rules.length by omega)]
        simp
    · rfl
end Go.Proofs.YtdpnpcjbjjjceaaGreatDoor.P
namespace Go.Proofs.YtdpnpcjbjjjceaaGreatDoor
open Go.RowKit

def badS : ByteArray := ⟨#[98, 97, 100]⟩
def piecesOf (s : ByteArray) : List ByteArray := Lib.splitB ⟨#[32]⟩ 0 (min 12 (s.size + 1) - 1) s
def pLineS (s : ByteArray) : ByteArray := ⟨(P.pLineL s.data.toList).toArray⟩

theorem pieces_list (s : ByteArray) : (piecesOf s).map P.toL = Lib.splitK [32] 0 (min 12 (s.data.toList.length + 1) - 1) s.data.toList := by
  unfold piecesOf
  have := Lib.splitB_data ⟨#[32]⟩ 0 (min 12 (s.size + 1) - 1) s
  rw [P.length_list]
  exact this
theorem pieces_cons (s : ByteArray) : ∃ x0 xs, piecesOf s = x0 :: xs := by
  unfold piecesOf Lib.splitB
  split
  · exact ⟨_, _, rfl⟩
  · split <;> exact ⟨_, _, rfl⟩
theorem fitsV_list (least : Nat) (rules : List (Bool × Int)) (xs : List ByteArray) : fitsV least rules xs = P.fitsL least rules (xs.map P.toL) := by
  unfold fitsV P.fitsL
  rw [P.pFits_list, List.length_map]
theorem pLine_none (s x0 : ByteArray) (xs : List ByteArray) (h : piecesOf s = x0 :: xs) (hk : pShapeS x0 = none) : pLineS s = badS := by
  have e := pieces_list s
  rw [h, List.map_cons] at e
  unfold pLineS P.pLineL
  rw [← e]
  simp only [show pShape (P.toL x0) = none from hk]
  rfl
theorem pLine_bad (s x0 : ByteArray) (xs : List ByteArray) (h : piecesOf s = x0 :: xs) (least : Nat) (rules : List (Bool × Int)) (hk : pShapeS x0 = some (least, rules)) (hf : fitsV least rules xs = false) : pLineS s = badS := by
  have e := pieces_list s
  rw [h, List.map_cons] at e
  unfold pLineS P.pLineL
  rw [← e]
  simp only [show pShape (P.toL x0) = some (least, rules) from hk]
  rw [← fitsV_list, hf]
  rfl
theorem pLine_good (s x0 : ByteArray) (xs : List ByteArray) (h : piecesOf s = x0 :: xs) (least : Nat) (rules : List (Bool × Int)) (hk : pShapeS x0 = some (least, rules)) (hf : fitsV least rules xs = true) : pLineS s = x0 := by
  have e := pieces_list s
  rw [h, List.map_cons] at e
  unfold pLineS P.pLineL
  rw [← e]
  simp only [show pShape (P.toL x0) = some (least, rules) from hk]
  rw [← fitsV_list, hf]
  exact P.mk_toL x0

theorem clone_c (s : ByteArray) (w : World) (hs : s.size ≤ 281474976710656) : Calls Tryz.prog 47 #[.string s] w fun e w' => e = .returned (.string s) ∧ Below w.heap.size w w' := by
  go_enter Tryz.func47, Tryz.ntmps47
  go_wp2_with (go_at_call 63; refine (Tryz.stringslite_Clone s _ hs).mono ?_; rintro e w1 ⟨rfl, hb⟩)
  go_ret
  exact ⟨rfl, hb⟩

theorem line_bad (s : ByteArray) (w : World) (hp : pLineS s = badS) (hc : Calls Tryz.prog 46 #[.string s] w fun e w' => e = .returned noCommand ∧ Below w.heap.size w w') :
    Calls Tryz.prog 17 #[.string s] w fun e w' => e = .returned (.string (pLineS s)) ∧ Below w.heap.size w w' := by
  rw [hp]
  clear hp
  unfold noCommand at hc
  go_enter Tryz.func17, Tryz.ntmps17
  go_wp2_with (go_at_call 46; refine hc.mono ?_; rintro e w1 ⟨rfl, hb⟩)
  go_ret
  exact ⟨rfl, hb.alloc hb.size _⟩
theorem line_good (s x0 : ByteArray) (w : World) (hx : x0.size ≤ 281474976710656) (hp : pLineS s = x0) (hc : Calls Tryz.prog 46 #[.string s] w fun e w' => ∃ ta tn tc na nn nc, e = .returned (.tuple #[.agg #[.string x0, .slice ta tn tc, .slice na nn nc], .bool true]) ∧ Below w.heap.size w w') :
    Calls Tryz.prog 17 #[.string s] w fun e w' => e = .returned (.string (pLineS s)) ∧ Below w.heap.size w w' := by
  rw [hp]
  clear hp
  go_enter Tryz.func17, Tryz.ntmps17
  go_wp2_with (first
    | (go_at_call 46; refine hc.mono ?_; rintro e w1 ⟨ta, tn, tc, na, nn, nc, rfl, hb⟩)
    | (go_at_call 47; refine (clone_c x0 _ hx).mono ?_; rintro e w2 ⟨rfl, hb2⟩))
  go_ret
  exact ⟨rfl, (hb.alloc hb.size _).trans (hb2.mono (hb.alloc hb.size _).size)⟩

theorem line_c (s : ByteArray) (w : World) (hs : s.size ≤ 1048576) (hE : Errs w) : Calls Tryz.prog 17 #[.string s] w fun e w' => e = .returned (.string (pLineS s)) ∧ Below w.heap.size w w' := by
  obtain ⟨x0, xs, hL⟩ := pieces_cons s
  have hx0 : x0.size ≤ s.size := splitB_sizes ⟨#[32]⟩ _ s x0 (by have := hL; unfold piecesOf at this; rw [this]; exact List.mem_cons_self)
  cases hk : pShapeS x0 with
  | none => exact line_bad s w (pLine_none s x0 xs hL hk) (read_unknown s w hs _ rfl x0 xs hL hk)
  | some q =>
    obtain ⟨least, rules⟩ := q
    cases hf : fitsV least rules xs with
    | false =>
      refine line_bad s w (pLine_bad s x0 xs hL least rules hk hf) ?_
      exact (read_known s w hs hE _ rfl x0 xs hL least rules hk false hf).mono fun e w' h => h
    | true =>
      exact line_good s x0 w (by omega) (pLine_good s x0 xs hL least rules hk hf) ((read_known s w hs hE _ rfl x0 xs hL least rules hk true hf).mono fun e w' ⟨⟨v, he, tv, nv, hv, h1, h2⟩, hb⟩ => by
        obtain ⟨ta, tn, tc, rfl⟩ := own_is_slice h1
        obtain ⟨na, nn, nc, rfl⟩ := own_is_slice h2
        exact ⟨ta, tn, tc, na, nn, nc, by rw [he, hv], hb⟩)

end Go.Proofs.YtdpnpcjbjjjceaaGreatDoor
