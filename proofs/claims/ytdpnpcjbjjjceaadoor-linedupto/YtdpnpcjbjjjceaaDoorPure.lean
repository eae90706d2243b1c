import Derived.Test.YtdpnpcjbjjjceaaDoorReadB
import Derived.Lib.IndexBytes
set_option linter.unusedSimpArgs false
set_option linter.unusedVariables false
namespace Go.Proofs.YtdpnpcjbjjjceaaDoor.P
open Go.Proofs.YtdpnpcjbjjjceaaDoor

def okB (c : UInt8) : Bool := okByte 33 126 c
def clean (w : List UInt8) : Bool := !(w == []) && w.all okB
def fs (cur : List UInt8) : List UInt8 → List (List UInt8)
  | [] => [cur]
  | c :: r => if c.toNat = 32 then cur :: fs [] r else fs (cur ++ [c]) r

theorem fs_head : ∀ (l cur : List UInt8), ∃ t rest, fs cur l = (cur ++ t) :: rest
  | [], cur => ⟨[], [], by simp [fs]⟩
  | c :: r, cur => by
    unfold fs
    split
    · exact ⟨[], fs [] r, by simp⟩
    · obtain ⟨t, rest, h⟩ := fs_head r (cur ++ [c])
      exact ⟨c :: t, rest, by rw [h]; simp⟩

theorem okB_iff (c : UInt8) : okB c = true ↔ ¬ (c.toNat < 33 ∨ 126 < c.toNat) := by
  simp [okB, okByte]; omega

theorem goW_fs : ∀ (l : List UInt8) (acc : List (List UInt8)) (cur : List UInt8), cur.all okB = true → goW acc cur l = if (fs cur l).all clean then some (acc ++ fs cur l) else none
  | [], acc, cur, h => by
    by_cases hc : cur = []
    · simp [goW, fs, hc, clean]
    · have : clean cur = true := by simp [clean, hc, h]
      simp [goW, fs, hc, this]
  | c :: r, acc, cur, h => by
    unfold goW fs
    by_cases h32 : c.toNat = 32
    · simp only [h32, if_true]
      by_cases hc : cur = []
      · simp [hc, clean]
      · have hcl : clean cur = true := by simp [clean, hc, h]
        simp only [hc, if_false]
        rw [goW_fs r (acc ++ [cur]) [] (by simp)]
        simp [hcl]
    · simp only [h32, if_false]
      by_cases hb : c.toNat < 33 ∨ 126 < c.toNat
      · simp only [hb, if_true]
        obtain ⟨t, rest, hh⟩ := fs_head r (cur ++ [c])
        have hn : okB c = false := by
          cases hk : okB c with
          | false => rfl
          | true => exact absurd hb ((okB_iff c).1 hk)
        have : clean (cur ++ [c] ++ t) = false := by simp [clean, hn]
        rw [hh]
        simp only [List.all_cons, this, Bool.false_and]
        simp
      · simp only [hb, if_false]
        exact goW_fs r acc (cur ++ [c]) (by simp [List.all_append, h, (okB_iff c).2 hb])
theorem rWords_fs (l : List UInt8) : rWords l = if (fs [] l).all clean then some (fs [] l) else none := by
  have := goW_fs l [] [] (by simp)
  simpa [rWords] using this

theorem idx_split : ∀ (l : List UInt8), (Lib.indexByte l 32 = -1 ∧ ∀ cur, fs cur l = [cur ++ l]) ∨ (∃ p q, l = p ++ 32 :: q ∧ Lib.indexByte l 32 = p.length ∧ ∀ cur, fs cur l = (cur ++ p) :: fs [] q)
  | [] => Or.inl ⟨rfl, fun cur => by simp [fs]⟩
  | c :: r => by
    by_cases h : c = 32
    · subst h
      exact Or.inr ⟨[], r, rfl, by simp [Lib.indexByte], fun cur => by simp [fs]⟩
    · have hn : c.toNat ≠ 32 := fun e => h (UInt8.toNat_inj.1 e)
      rcases idx_split r with ⟨h1, h2⟩ | ⟨p, q, rfl, h1, h2⟩
      · refine Or.inl ⟨?_, fun cur => ?_⟩
        · simp [Lib.indexByte, h, h1]
        · simp only [fs, hn, if_false]; rw [h2]; simp
      · refine Or.inr ⟨c :: p, q, rfl, ?_, fun cur => ?_⟩
        · simp [Lib.indexByte, h, h1]
        · simp only [fs, hn, if_false]; rw [h2]; simp

theorem fs_pos (cur l : List UInt8) : 1 ≤ (fs cur l).length := by
  obtain ⟨t, rest, h⟩ := fs_head l cur
  rw [h]; simp
theorem fs_len : ∀ (l cur : List UInt8), (fs cur l).length ≤ l.length + 1
  | [], cur => by simp [fs]
  | c :: r, cur => by
    unfold fs
    split
    · have := fs_len r []; simp; omega
    · have := fs_len r (cur ++ [c]); simp; omega

theorem splitK_hit (k : Nat) (p q : List UInt8) (h : Lib.indexByte (p ++ 32 :: q) 32 = p.length) : Lib.splitK [32] 0 (k + 1) (p ++ 32 :: q) = p :: Lib.splitK [32] 0 k q := by
  have e : Lib.index (p ++ 32 :: q) [32] = p.length := by rw [Lib.index_one]; exact h
  rw [Lib.splitK, e, if_neg (by intro h; have := beq_iff_eq.1 h; omega)]
  simp
theorem splitK_miss (k : Nat) (l : List UInt8) (h : Lib.indexByte l 32 = -1) : Lib.splitK [32] 0 k l = [l] := by
  cases k with
  | zero => rfl
  | succ k =>
    have e : Lib.index l [32] = -1 := by rw [Lib.index_one]; exact h
    unfold Lib.splitK
    rw [e]; rfl

theorem split_fs : ∀ (k : Nat) (l : List UInt8), (fs [] l).length ≤ k + 1 → Lib.splitK [32] 0 k l = fs [] l
  | k, l, h => by
    rcases idx_split l with ⟨h1, h2⟩ | ⟨p, q, rfl, h1, h2⟩
    · rw [splitK_miss k l h1, h2]; rfl
    · cases k with
      | zero =>
        rw [h2] at h
        have := fs_pos [] q
        simp only [List.length_cons] at h; omega
      | succ k =>
        rw [h2] at h
        rw [splitK_hit k p q h1, h2, split_fs k q (by simp at h; omega)]
        rfl
theorem split_long : ∀ (k : Nat) (l : List UInt8), k + 1 < (fs [] l).length → (Lib.splitK [32] 0 k l).length = k + 1
  | k, l, h => by
    rcases idx_split l with ⟨h1, h2⟩ | ⟨p, q, rfl, h1, h2⟩
    · rw [h2] at h; simp at h
    · cases k with
      | zero => rfl
      | succ k =>
        rw [h2] at h
        rw [splitK_hit k p q h1, List.length_cons, split_long k q (by simp at h; omega)]

theorem digits_grow : ∀ (l : List UInt8) (a n : Nat), digits a l = some n → a ≤ n
  | [], a, n, h => by simp [digits] at h; omega
  | c :: r, a, n, h => by
    unfold digits at h
    split at h
    · rename_i hd
      have hc : 48 ≤ c.toNat ∧ c.toNat ≤ 57 := by simpa [isDig] using hd
      have := digits_grow r _ n h
      omega
    · cases h
/-- what ParseUint reads of digits, as long as nothing passes 64 bits -/
theorem parse_digits : ∀ (l : List UInt8) (a : Nat), a < 10 ^ (10 - l.length) → l.length ≤ 10 → Lib.parseUintM (2 ^ 64 - 1) a l = match digits a l with | some n => .ok n | none => Lib.parseUintB 64 []
  | [], a, _, _ => by simp [Lib.parseUintM, digits]
  | c :: r, a, ha, hl => by
    have hb : a < 1000000000 := by
      have : (10 : Nat) ^ (10 - (c :: r).length) ≤ 10 ^ 9 := Nat.pow_le_pow_right (by decide) (by rw [List.length_cons]; omega)
      exact Nat.lt_of_lt_of_le ha this
    unfold Lib.parseUintM digits
    by_cases hd : 48 ≤ c.toNat ∧ c.toNat ≤ 57
    · have hdb : isDig c = true := by simpa [isDig] using hd
      have ih := parse_digits r (a * 10 + (c.toNat - 48)) (by
        have e : 10 - r.length = (10 - (c :: r).length) + 1 := by rw [List.length_cons] at hl ⊢; omega
        rw [e, Nat.pow_succ]; omega) (by rw [List.length_cons] at hl; omega)
      rw [if_pos hd, if_neg (by omega), if_neg (by omega), ih, hdb]
      have e : a * 10 + (c.toNat - 48) = a * 10 + c.toNat - 48 := by omega
      rw [e]; rfl
    · have hdb : isDig c = false := by
        cases h : isDig c with
        | false => rfl
        | true => exact absurd (by simpa [isDig] using h) hd
      rw [if_neg hd, hdb]; rfl
/-- ten digits or more, the first no 0: none below 10^9 -/
theorem parse_big : ∀ (l : List UInt8) (a u : Nat), 1 ≤ a → Lib.parseUintM (2 ^ 64 - 1) a l = .ok u → a * 10 ^ l.length ≤ u
  | [], a, u, _, h => by simp [Lib.parseUintM] at h; simp; omega
  | c :: r, a, u, ha, h => by
    unfold Lib.parseUintM at h
    split at h
    · split at h
      · cases h
      · split at h
        · cases h
        · have := parse_big r _ u (by omega) h
          rw [List.length_cons, Nat.pow_succ]
          refine Nat.le_trans ?_ this
          rw [Nat.mul_comm (10 ^ r.length) 10, ← Nat.mul_assoc]
          exact Nat.mul_le_mul_right _ (by omega)
    · cases h

theorem parse_all : ∀ (l : List UInt8) (M a u : Nat), Lib.parseUintM M a l = .ok u → l.all isDig = true
  | [], _, _, _, _ => rfl
  | c :: r, M, a, u, h => by
    unfold Lib.parseUintM at h
    split at h
    · rename_i hd
      split at h
      · cases h
      · split at h
        · cases h
        · have := parse_all r M _ u h
          simp [List.all_cons, this, isDig, hd]
    · cases h
theorem digits_lt : ∀ (l : List UInt8) (a n : Nat), digits a l = some n → n < (a + 1) * 10 ^ l.length
  | [], a, n, h => by simp [digits] at h; simp; omega
  | c :: r, a, n, h => by
    unfold digits at h
    split at h
    · rename_i hd
      have hc : 48 ≤ c.toNat ∧ c.toNat ≤ 57 := by simpa [isDig] using hd
      have := digits_lt r _ n h
      rw [List.length_cons, Nat.pow_succ, Nat.mul_comm (10 ^ r.length) 10, ← Nat.mul_assoc]
      exact Nat.lt_of_lt_of_le this (Nat.mul_le_mul_right _ (by omega))
    · cases h

theorem pNum_none_lead (w : List UInt8) (h : 1 < w.length ∧ w.head? = some 48) : pNum w = none := by unfold pNum; rw [if_pos h]
theorem pNum_long (w : List UInt8) (hl : 10 ≤ w.length) : pNum w = none := by
  unfold pNum
  split
  · rfl
  · rename_i hn
    cases w with
    | nil => simp at hl
    | cons c r =>
      have hc : c ≠ 48 := fun e => hn ⟨by omega, by rw [e]; rfl⟩
      have hr : 9 ≤ r.length := by rw [List.length_cons] at hl; omega
      have hp : ∀ u, Lib.parseUintB 64 (c :: r) = .ok u → 999999999 < u := by
        intro u hu
        unfold Lib.parseUintB at hu
        rw [if_neg (by simp)] at hu
        unfold Lib.parseUintM at hu
        split at hu
        · rename_i hd
          have hne : c.toNat ≠ 48 := fun e => hc (UInt8.toNat_inj.1 e)
          split at hu
          · cases hu
          · split at hu
            · cases hu
            · have h1 := parse_big r _ u (by omega) hu
              have h2 : (10 : Nat) ^ 9 ≤ 10 ^ r.length := Nat.pow_le_pow_right (by decide) hr
              have h3 : 1 * 10 ^ r.length ≤ (0 * 10 + (c.toNat - 48)) * 10 ^ r.length := Nat.mul_le_mul_right _ (by omega)
              have h4 : (10 : Nat) ^ 9 = 1000000000 := by decide
              omega
        · cases hu
      cases hq : Lib.parseUintB 64 (c :: r) with
      | ok u => simp [hp u hq]
      | _ => rfl
theorem pNum_short (w : List UInt8) (h0 : w ≠ []) (hl : w.length ≤ 9) (hz : ¬ (1 < w.length ∧ w.head? = some 48)) : pNum w = digits 0 w := by
  unfold pNum
  rw [if_neg hz]
  have e := parse_digits w 0 (Nat.pow_pos (by decide)) (by omega)
  unfold Lib.parseUintB
  rw [if_neg h0, e]
  cases hd : digits 0 w with
  | none => rfl
  | some n =>
    have h1 := digits_lt w 0 n hd
    have h2 : (10 : Nat) ^ w.length ≤ 10 ^ 9 := Nat.pow_le_pow_right (by decide) hl
    have h3 : (10 : Nat) ^ 9 = 1000000000 := by decide
    simp; omega

theorem num_eq (w : List UInt8) (most : Int) (_h0 : 0 ≤ most) : (match pNum w with | some n => decide ((n : Int) ≤ most) | none => false) = decide (0 ≤ rNum w most) := by
  by_cases he : w = []
  · subst he; rfl
  by_cases hl : 10 ≤ w.length
  · rw [pNum_long w hl]
    unfold rNum
    rw [if_pos (Or.inr (Or.inl (by omega)))]; rfl
  by_cases hz : 1 < w.length ∧ w.head? = some 48
  · rw [pNum_none_lead w hz]
    unfold rNum
    rw [if_pos (Or.inr (Or.inr ⟨hz.2, fun e => by rw [e] at hz; simp at hz⟩))]; rfl
  · rw [pNum_short w he (by omega) hz]
    unfold rNum
    rw [if_neg]
    · cases hd : digits 0 w with
      | none => rfl
      | some n =>
        by_cases hm : most < (n : Int)
        · simp [hm] <;> omega
        · simp [hm] <;> omega
    · rintro (h | h | ⟨h, h'⟩)
      · exact he h
      · omega
      · cases w with
        | nil => exact he rfl
        | cons c r =>
          cases r with
          | nil => simp at h; rw [h] at h'; exact h' rfl
          | cons d r => exact hz ⟨by simp, h⟩
theorem num_clean (w : List UInt8) (n : Nat) (h : pNum w = some n) : clean w = true := by
  unfold pNum at h
  split at h
  · cases h
  · cases hq : Lib.parseUintB 64 w with
    | ok u =>
      unfold Lib.parseUintB at hq
      split at hq
      · cases hq
      · rename_i hne
        have := parse_all w _ _ u hq
        unfold clean
        rw [show (w == []) = false by simpa using hne]
        simp only [Bool.not_false, Bool.true_and]
        rw [List.all_eq_true] at this ⊢
        intro c hc
        have := this c hc
        simp [isDig] at this
        rw [okB_iff]; omega
    | _ => rw [hq] at h; cases h
end Go.Proofs.YtdpnpcjbjjjceaaDoor.P
