import Derived.Laws.IdiomStrings
import Derived.Test.YtdpnpcjbjjjceaaGreatDoorBK0
set_option linter.unusedSimpArgs false
set_option linter.unusedVariables false
namespace Go.Proofs.YtdpnpcjbjjjceaaGreatDoor.K
open Go.RowKit Go.Proofs.YtdpnpcjbjjjceaaGreatDoor

theorem digF_more : ∀ (f n : Nat), n < 10 ^ f → 0 < f → M.digF (f + 1) n = M.digF f n
  | 0, _, _, h => by omega
  | f + 1, n, h, _ => by
    unfold M.digF
    split
    · rfl
    · rename_i h10
      have hf : 0 < f := by
        rcases Nat.eq_zero_or_pos f with h0 | h0
        · subst h0; simp at h; omega
        · exact h0
      rw [digF_more f (n / 10) (by rw [Nat.pow_succ] at h; omega) hf]
theorem dig_small (n : Nat) (h : n < 10) : M.dig n = [UInt8.ofNat (48 + n)] := by
  show M.digF 20 n = _
  unfold M.digF
  rw [if_pos h]
theorem dig_step (n : Nat) (h : 10 ≤ n) (hn : n < 10 ^ 19) : M.dig n = M.dig (n / 10) ++ [UInt8.ofNat (48 + n % 10)] := by
  show M.digF 20 n = M.digF 20 (n / 10) ++ _
  rw [digF_more 19 (n / 10) (by omega) (by omega)]
  show M.digF (19 + 1) n = _
  conv => lhs; unfold M.digF
  rw [if_neg (by omega)]
/-- the loop of digits: k is left, s is there -/
def DigL (n : Nat) (k : Nat) (s : ByteArray) : Prop :=
  k ≤ n ∧ ((s.size = 0 ∧ k = n) ∨ (s.size ≠ 0 ∧ (if k = 0 then [] else M.dig k) ++ s.data.toList = M.dig n))
theorem digL_step {n k : Nat} {s : ByteArray} (h : DigL n k s) (hgo : 0 < k ∨ s.size = 0) (hn : n < 10 ^ 19) : DigL n (k / 10) (⟨#[UInt8.ofNat (48 + k % 10)]⟩ ++ s) := by
  obtain ⟨hkn, h⟩ := h
  refine ⟨by omega, Or.inr ⟨?_, ?_⟩⟩
  · rw [ByteArray.size_append]
    show 1 + s.size ≠ 0
    omega
  · have e : (⟨#[UInt8.ofNat (48 + k % 10)]⟩ ++ s : ByteArray).data.toList = [UInt8.ofNat (48 + k % 10)] ++ s.data.toList := by
      rw [ByteArray.data_append, Array.toList_append]
    rw [e, ← List.append_assoc]
    have key : (k < 10 ^ 19) → (if k / 10 = 0 then [] else M.dig (k / 10)) ++ [UInt8.ofNat (48 + k % 10)] = M.dig k := by
      intro hk
      by_cases h10 : k < 10
      · rw [if_pos (by omega), dig_small k h10, Nat.mod_eq_of_lt h10]; rfl
      · rw [if_neg (by omega), dig_step k (by omega) hk]
    rcases h with ⟨h1, rfl⟩ | ⟨h1, h2⟩
    · rw [key hn]
      have : s.data.toList = [] := List.eq_nil_of_length_eq_zero (by rw [P.length_list]; exact h1)
      rw [this, List.append_nil]
    · have hk0 : k ≠ 0 := by omega
      rw [if_neg hk0] at h2
      rw [key (by omega)]
      exact h2
theorem digL_end {n : Nat} {s : ByteArray} (h : DigL n 0 s) (hs : s.size ≠ 0) : s = ⟨(M.dig n).toArray⟩ := by
  rcases h.2 with ⟨h1, _⟩ | ⟨_, h2⟩
  · exact absurd h1 hs
  · rw [if_pos rfl] at h2
    rw [← h2]
    simp
theorem dig_len (n : Nat) : (M.dig n).length ≤ 20 := by
  have : ∀ f n, (M.digF f n).length ≤ f := by
    intro f
    induction f with
    | zero => intro n; simp [M.digF]
    | succ f ih =>
      intro n
      unfold M.digF
      split
      · simp
      · have := ih (n / 10); simp; omega
  exact this 20 n

theorem one_byte (W : World) (m : Nat) (hm : m < 256) : (convert 63 9 (.slice (some ⟨W.heap.size, 0, none⟩) 1 1)).run Tryz.prog (W.alloc (.cells #[.int .u8 (m : Int)] 5)) = .ok (.string ⟨#[UInt8.ofNat m]⟩) (W.alloc (.cells #[.int .u8 (m : Int)] 5)) := by
  refine run_convert_bytes_back _ 63 9 5 ⟨W.heap.size, 0, none⟩ 1 [UInt8.ofNat m] Tryz.underlying63 Tryz.underlying5 Tryz.underlying9 ?_
  intro j hj
  obtain rfl : j = 0 := by simpa using hj
  rw [show (⟨W.heap.size, 0, none⟩ : Addr).add 0 = ⟨W.heap.size, 0, none⟩ from rfl]
  refine (heap_cell (alloc_at W _ _ rfl) 0 rfl).trans ?_
  show some (Value.int .u8 (m : Int)) = some (Value.int .u8 ((UInt8.ofNat m).toNat : Int))
  rw [UInt8.toNat_ofNat_of_lt' (by simpa using hm)]
def emptyOf : Value → Nat
  | .string s => if s.size = 0 then 1 else 0
  | _ => 0
theorem digL_size {n k : Nat} {s : ByteArray} (h : DigL n k s) : s.size ≤ 20 := by
  rcases h.2 with ⟨h1, _⟩ | ⟨_, h2⟩
  · omega
  · have h3 := congrArg List.length h2
    rw [List.length_append, P.length_list] at h3
    have := dig_len n
    omega
set_option maxRecDepth 20000 in
set_option maxHeartbeats 1000000 in
theorem digits_c (n : Nat) (w : World) (hn : n < 9223372036854775808) : Calls Tryz.prog 31 #[.int .i64 n] w fun e w' => e = .returned (.string ⟨(M.dig n).toArray⟩) ∧ Below w.heap.size w w' := by
  have hn19 : n < 10 ^ 19 := by omega
  have HN : Hid (n < 10 ^ 19) := hn19
  clear hn19
  go_enter Tryz.func31, Tryz.ntmps31
  go_wp2_with fail
  go_loopw [0, 3] (fun q g wr => ∃ (k : Nat) (s : ByteArray), q = .int .i64 k ∧ g = .string s ∧ s.size ≤ 20 ∧ DigL n k s ∧ Below w.heap.size w wr) (fun q g _ => (intOf q).toNat * 2 + emptyOf g)
  case atStart => exact ⟨n, ⟨#[]⟩, rfl, rfl, by decide, ⟨Nat.le_refl _, Or.inl ⟨rfl, rfl⟩⟩, Below.refl _ _⟩
  case round =>
    obtain ⟨k, s, rfl, rfl, hs20, hD, hb⟩ := hrel
    have hkn := hD.1
    by_cases hgo : 0 < k ∨ s.size = 0
    · have hD2 := digL_step hD hgo HN.out
      have hq : (convert 63 9 (.slice (some ⟨wr.heap.size, 0, none⟩) 1 1)).run Tryz.prog (wr.alloc (.cells #[.int .u8 (48 + (k : Int) % 10)] 5)) = .ok (.string ⟨#[UInt8.ofNat (48 + k % 10)]⟩) (wr.alloc (.cells #[.int .u8 (48 + (k : Int) % 10)] 5)) := one_byte wr (48 + k % 10) (by omega)
      obtain ⟨d, hd⟩ : ∃ d : ByteArray, d = ⟨#[UInt8.ofNat (48 + k % 10)]⟩ := ⟨_, rfl⟩
      have hsz : d.size = 1 := by rw [hd]; rfl
      rw [← hd] at hq hD2
      have HD : Hid (DigL n (k / 10) (d ++ s)) := hD2
      clear hd hD2
      clear hD
      by_cases hk : 0 < k
      · have kk : (0 : Int) < k := by omega
        clear hgo
        go_wp2
        go_roundw
        case rel => exact ⟨k / 10, _, by go_num, rfl, digL_size HD.out, HD.out, hb.alloc hb.size _⟩
        case measure =>
          have e1 : emptyOf (.string (d ++ s)) = 0 := by simp [emptyOf, hsz]
          rw [e1]; simp [intOf] <;> omega
      · have kk : ¬ (0 : Int) < k := by omega
        have hs0 : s.size = 0 := by omega
        have ks : s.toList.isEmpty = true := by rw [isEmpty_iff]; simpa using hs0
        clear hgo
        go_wp2
        go_roundw
        case rel => exact ⟨k / 10, _, by go_num, rfl, digL_size HD.out, HD.out, hb.alloc hb.size _⟩
        case measure =>
          have e1 : emptyOf (.string (d ++ s)) = 0 := by simp [emptyOf, hsz]
          have e2 : emptyOf (.string s) = 1 := by simp [emptyOf, hs0]
          rw [e1, e2]; simp [intOf] <;> omega
    · have kk : ¬ (0 : Int) < k := by omega
      have hs0 : s.size ≠ 0 := by omega
      have ks : s.toList.isEmpty = false := by rw [isEmpty_iff]; simpa using hs0
      have hk0 : k = 0 := by omega
      subst hk0
      have HE : Hid (s = ⟨(M.dig n).toArray⟩) := digL_end hD hs0
      clear hD hgo
      go_wp2
      go_ret
      exact ⟨by rw [← HE.out]; rfl, hb⟩
end Go.Proofs.YtdpnpcjbjjjceaaGreatDoor.K
