import Derived.Deep.Light
import Derived.Test.YtdpnpcjbjjjceaaGreatDoorBK6
set_option linter.unusedSimpArgs false
set_option linter.unusedVariables false
namespace Go.Proofs.YtdpnpcjbjjjceaaGreatDoor.K
open Go.RowKit Go.Proofs.YtdpnpcjbjjjceaaGreatDoor

def ds (n : Nat) : ByteArray := ⟨(M.dig n).toArray⟩
def oneB (n : Nat) : ByteArray := ⟨#[UInt8.ofNat n]⟩
def lKey (v : Nat) : ByteArray := oneB (107 + v / 20 % 5)
def lVal (v : Nat) : Nat → ByteArray
  | 0 => ⟨#[]⟩
  | n + 1 => lVal v n ++ oneB (48 + (v / 2800 + n * n) % 12)
def lStore (v : Nat) : ByteArray := ⟨#[32]⟩ ++ lKey v ++ ⟨#[32]⟩ ++ ds (v / 33 % 9) ++ ⟨#[32]⟩ ++ ds (v / 100 % 4 * 3) ++ ⟨#[32]⟩ ++ ds (v / 400 % 7)
def lineS (v : Nat) : ByteArray :=
  if v % 20 < 5 then ⟨#[115, 101, 116]⟩ ++ lStore v ++ ⟨#[10]⟩ ++ lVal v (v / 400 % 7) ++ ⟨#[10]⟩
  else if v % 20 = 5 then ⟨#[97, 100, 100]⟩ ++ lStore v ++ ⟨#[10]⟩ ++ lVal v (v / 400 % 7) ++ ⟨#[10]⟩
  else if v % 20 = 6 then ⟨#[114, 101, 112, 108, 97, 99, 101]⟩ ++ lStore v ++ ⟨#[10]⟩ ++ lVal v (v / 400 % 7) ++ ⟨#[10]⟩
  else if v % 20 = 7 then ⟨#[99, 97, 115]⟩ ++ lStore v ++ ⟨#[32]⟩ ++ ds (v / 2800 % 6) ++ ⟨#[10]⟩ ++ lVal v (v / 400 % 7) ++ ⟨#[10]⟩
  else if v % 20 < 12 then ⟨#[103, 101, 116, 32]⟩ ++ lKey v ++ ⟨#[32, 107, 32, 108, 10]⟩
  else if v % 20 = 12 then ⟨#[100, 101, 108, 101, 116, 101, 32]⟩ ++ lKey v ++ ⟨#[10]⟩
  else if v % 20 < 15 then ⟨#[105, 110, 99, 114, 32]⟩ ++ lKey v ++ ⟨#[32]⟩ ++ ds (v / 2800 % 200) ++ ⟨#[10]⟩
  else if v % 20 = 15 then ⟨#[116, 111, 117, 99, 104, 32]⟩ ++ lKey v ++ ⟨#[32]⟩ ++ ds (v / 100 % 4 * 3) ++ ⟨#[10]⟩
  else if v % 20 = 16 then ⟨#[115, 116, 97, 116, 115, 10]⟩
  else if v % 20 = 17 then ⟨#[110, 111, 116, 104, 105, 110, 103, 10]⟩
  else if v % 20 = 18 then ⟨#[115, 101, 116]⟩ ++ lStore v ++ ⟨#[10]⟩ ++ lVal v (v / 400 % 7) ++ ⟨#[120, 10]⟩
  else ⟨#[32, 10]⟩

theorem lineS_0 (v : Nat) (h : v % 20 < 5) : lineS v = ⟨#[115, 101, 116]⟩ ++ lStore v ++ ⟨#[10]⟩ ++ lVal v (v / 400 % 7) ++ ⟨#[10]⟩ := by
  unfold lineS
  repeat (first | rw [if_pos (by omega)] | rw [if_neg (by omega)])
theorem lineS_5 (v : Nat) (h : v % 20 = 5) : lineS v = ⟨#[97, 100, 100]⟩ ++ lStore v ++ ⟨#[10]⟩ ++ lVal v (v / 400 % 7) ++ ⟨#[10]⟩ := by
  unfold lineS
  repeat (first | rw [if_pos (by omega)] | rw [if_neg (by omega)])
theorem lineS_6 (v : Nat) (h : v % 20 = 6) : lineS v = ⟨#[114, 101, 112, 108, 97, 99, 101]⟩ ++ lStore v ++ ⟨#[10]⟩ ++ lVal v (v / 400 % 7) ++ ⟨#[10]⟩ := by
  unfold lineS
  repeat (first | rw [if_pos (by omega)] | rw [if_neg (by omega)])
theorem lineS_7 (v : Nat) (h : v % 20 = 7) : lineS v = ⟨#[99, 97, 115]⟩ ++ lStore v ++ ⟨#[32]⟩ ++ ds (v / 2800 % 6) ++ ⟨#[10]⟩ ++ lVal v (v / 400 % 7) ++ ⟨#[10]⟩ := by
  unfold lineS
  repeat (first | rw [if_pos (by omega)] | rw [if_neg (by omega)])
theorem lineS_8 (v : Nat) (h : 7 < v % 20 ∧ v % 20 < 12) : lineS v = ⟨#[103, 101, 116, 32]⟩ ++ lKey v ++ ⟨#[32, 107, 32, 108, 10]⟩ := by
  unfold lineS
  repeat (first | rw [if_pos (by omega)] | rw [if_neg (by omega)])
theorem lineS_12 (v : Nat) (h : v % 20 = 12) : lineS v = ⟨#[100, 101, 108, 101, 116, 101, 32]⟩ ++ lKey v ++ ⟨#[10]⟩ := by
  unfold lineS
  repeat (first | rw [if_pos (by omega)] | rw [if_neg (by omega)])
theorem lineS_13 (v : Nat) (h : 12 < v % 20 ∧ v % 20 < 15) : lineS v = ⟨#[105, 110, 99, 114, 32]⟩ ++ lKey v ++ ⟨#[32]⟩ ++ ds (v / 2800 % 200) ++ ⟨#[10]⟩ := by
  unfold lineS
  repeat (first | rw [if_pos (by omega)] | rw [if_neg (by omega)])
theorem lineS_15 (v : Nat) (h : v % 20 = 15) : lineS v = ⟨#[116, 111, 117, 99, 104, 32]⟩ ++ lKey v ++ ⟨#[32]⟩ ++ ds (v / 100 % 4 * 3) ++ ⟨#[10]⟩ := by
  unfold lineS
  repeat (first | rw [if_pos (by omega)] | rw [if_neg (by omega)])
theorem lineS_16 (v : Nat) (h : v % 20 = 16) : lineS v = ⟨#[115, 116, 97, 116, 115, 10]⟩ := by
  unfold lineS
  repeat (first | rw [if_pos (by omega)] | rw [if_neg (by omega)])
theorem lineS_17 (v : Nat) (h : v % 20 = 17) : lineS v = ⟨#[110, 111, 116, 104, 105, 110, 103, 10]⟩ := by
  unfold lineS
  repeat (first | rw [if_pos (by omega)] | rw [if_neg (by omega)])
theorem lineS_18 (v : Nat) (h : v % 20 = 18) : lineS v = ⟨#[115, 101, 116]⟩ ++ lStore v ++ ⟨#[10]⟩ ++ lVal v (v / 400 % 7) ++ ⟨#[120, 10]⟩ := by
  unfold lineS
  repeat (first | rw [if_pos (by omega)] | rw [if_neg (by omega)])
theorem lineS_19 (v : Nat) (h : v % 20 = 19) : lineS v = ⟨#[32, 10]⟩ := by
  unfold lineS
  repeat (first | rw [if_pos (by omega)] | rw [if_neg (by omega)])
theorem lVal_size (v n : Nat) : (lVal v n).size = n := by
  induction n with
  | zero => rfl
  | succ n ih =>
    show (lVal v n ++ oneB _).size = _
    rw [ByteArray.size_append, ih]; rfl
theorem ds_size (n : Nat) : (ds n).size ≤ 20 := by
  show (M.dig n).toArray.size ≤ 20
  have := dig_len n
  simpa using this
set_option maxRecDepth 20000 in
set_option maxHeartbeats 1000000 in
theorem line_c (c : Int) (w : World) (hlo : -9223372036854775808 ≤ c) (hhi : c ≤ 9223372036854775807) :
    Calls Tryz.prog 26 #[.int .i64 c] w fun e w' => e = .returned (.string (lineS (pk c 1099511627776))) ∧ Below w.heap.size w w' := by
  have hP := fun W => pick_c c 1099511627776 W hlo hhi (by decide) (Nat.le_refl _)
  have hv := pk_lt c 1099511627776 (by decide)
  generalize pk c 1099511627776 = v at hP hv ⊢
  clear hlo hhi
  have hqK : ∀ W : World, (convert 63 9 (.slice (some ⟨W.heap.size, 0, none⟩) 1 1)).run Tryz.prog (W.alloc (.cells #[.int .u8 (107 + (v : Int) / 20 % 5)] 5)) = .ok (.string (lKey v)) (W.alloc (.cells #[.int .u8 (107 + (v : Int) / 20 % 5)] 5)) := fun W => one_byte W (107 + v / 20 % 5) (by omega)
  have hqV : ∀ (W : World) (j : Nat), (convert 63 9 (.slice (some ⟨W.heap.size, 0, none⟩) 1 1)).run Tryz.prog (W.alloc (.cells #[.int .u8 (48 + ((v : Int) / 2800 + (j : Int) * (j : Int)) % 12)] 5)) = .ok (.string (oneB (48 + (v / 2800 + j * j) % 12))) (W.alloc (.cells #[.int .u8 (48 + ((v : Int) / 2800 + (j : Int) * (j : Int)) % 12)] 5)) := fun W j => one_byte W (48 + (v / 2800 + j * j) % 12) (by omega)
  obtain ⟨nL, eL⟩ : ∃ nL, nL = v / 100 % 4 * 3 := ⟨_, rfl⟩
  obtain ⟨nF, eF⟩ : ∃ nF, nF = v / 33 % 9 := ⟨_, rfl⟩
  obtain ⟨nS, eS⟩ : ∃ nS, nS = v / 400 % 7 := ⟨_, rfl⟩
  obtain ⟨nC, eC⟩ : ∃ nC, nC = v / 2800 % 6 := ⟨_, rfl⟩
  obtain ⟨nI, eI⟩ : ∃ nI, nI = v / 2800 % 200 := ⟨_, rfl⟩
  have iL : (v : Int) / 100 % 4 * 3 = (nL : Int) := by omega
  have iF : (v : Int) / 33 % 9 = (nF : Int) := by omega
  have iS : (v : Int) / 400 % 7 = (nS : Int) := by omega
  have iC : (v : Int) / 2800 % 6 = (nC : Int) := by omega
  have iI : (v : Int) / 2800 % 200 = (nI : Int) := by omega
  have bL : nL ≤ 9 := by omega
  have bF : nF ≤ 8 := by omega
  have bS : nS ≤ 6 := by omega
  have bC : nC ≤ 5 := by omega
  have bI : nI ≤ 199 := by omega
  have HL : Hid (nL = v / 100 % 4 * 3) := eL
  have HF : Hid (nF = v / 33 % 9) := eF
  have HS : Hid (nS = v / 400 % 7) := eS
  have HC : Hid (nC = v / 2800 % 6) := eC
  have HI : Hid (nI = v / 2800 % 200) := eI
  clear eL eF eS eC eI
  go_enter Tryz.func26, Tryz.ntmps26
  go_wp2_with (first
    | (go_at_call 16; refine (hP _).mono ?_; rintro e w1 ⟨rfl, rfl⟩)
    | (go_at_call 31; refine (digits_c _ _ (by omega)).mono ?_; rintro e w2 ⟨rfl, hb2⟩)
    | fail)
  have hb0 : Below w1.heap.size w1 w2 := ((Below.refl _ _).alloc (Nat.le_refl _) _).trans (hb2.mono (by simp))
  clear hb2
  go_loopw [7, 8] (fun g i wr => ∃ j : Nat, j ≤ nS ∧ g = .string (lVal v j) ∧ i = .int .i64 j ∧ Below w1.heap.size w1 wr) (fun _ i _ => nS - (intOf i).toNat)
  case atStart => exact ⟨0, by omega, rfl, rfl, hb0⟩
  case round =>
    obtain ⟨j, hj, rfl, rfl, hb⟩ := hrel
    have hvs := lVal_size v j
    have hob : ∀ m, (oneB m).size = 1 := fun _ => rfl
    by_cases hlt : j < nS
    · have klt : (j : Int) < nS := by omega
      have hjj : (j : Int) * j ≤ 36 := by
        have h1 : j * j ≤ 6 * 6 := Nat.mul_le_mul (by omega) (by omega)
        exact_mod_cast h1
      have hj0 : (0 : Int) ≤ (j : Int) * j := Int.mul_nonneg (by omega) (by omega)
      go_wp2
      go_roundw
      case rel => exact ⟨j + 1, by omega, rfl, by go_num, hb.alloc hb.size _⟩
      case measure => simp [intOf] <;> omega
    · obtain rfl : j = nS := by omega
      have klt : ¬ (j : Int) < j := by omega
      have hks : (lKey v).size = 1 := rfl
      have HST : Hid (lStore v = ⟨#[32]⟩ ++ lKey v ++ ⟨#[32]⟩ ++ ⟨(M.dig nF).toArray⟩ ++ ⟨#[32]⟩ ++ ⟨(M.dig nL).toArray⟩ ++ ⟨#[32]⟩ ++ ⟨(M.dig j).toArray⟩) := by
        show _ = _
        unfold lStore
        rw [← HF.out, ← HL.out, ← HS.out]; rfl
      have d1 := dig_len nF
      have d2 := dig_len nL
      have d3 := dig_len j
      have d4 := dig_len nC
      have d5 := dig_len nI
      go_wp2_with (first
        | (go_at_call 31; refine (digits_c _ _ (by omega)).mono ?_; rintro e w4 ⟨rfl, hb4⟩; replace hb := hb.trans (hb4.mono hb.size); clear hb4)
        | fail)
      all_goals
        go_ret
        refine ⟨?_, hb⟩
        go_light
        first
        | (have hr : v % 20 < 5 := by (simp only [beq_iff_eq, beq_eq_false_iff_ne, ne_eq] at *; omega)
           rw [lineS_0 v hr, HST.out, ← HS.out]; rfl)
        | (have hr : v % 20 = 5 := by (simp only [beq_iff_eq, beq_eq_false_iff_ne, ne_eq] at *; omega)
           rw [lineS_5 v hr, HST.out, ← HS.out]; rfl)
        | (have hr : v % 20 = 6 := by (simp only [beq_iff_eq, beq_eq_false_iff_ne, ne_eq] at *; omega)
           rw [lineS_6 v hr, HST.out, ← HS.out]; rfl)
        | (have hr : v % 20 = 7 := by (simp only [beq_iff_eq, beq_eq_false_iff_ne, ne_eq] at *; omega)
           rw [lineS_7 v hr, HST.out, ← HS.out, ← HC.out]; rfl)
        | (have hr : 7 < v % 20 ∧ v % 20 < 12 := by (simp only [beq_iff_eq, beq_eq_false_iff_ne, ne_eq] at *; omega)
           rw [lineS_8 v hr]; rfl)
        | (have hr : v % 20 = 12 := by (simp only [beq_iff_eq, beq_eq_false_iff_ne, ne_eq] at *; omega)
           rw [lineS_12 v hr]; rfl)
        | (have hr : 12 < v % 20 ∧ v % 20 < 15 := by (simp only [beq_iff_eq, beq_eq_false_iff_ne, ne_eq] at *; omega)
           rw [lineS_13 v hr, ← HI.out]; rfl)
        | (have hr : v % 20 = 15 := by (simp only [beq_iff_eq, beq_eq_false_iff_ne, ne_eq] at *; omega)
           rw [lineS_15 v hr, ← HL.out]; rfl)
        | (have hr : v % 20 = 16 := by (simp only [beq_iff_eq, beq_eq_false_iff_ne, ne_eq] at *; omega)
           rw [lineS_16 v hr]; rfl)
        | (have hr : v % 20 = 17 := by (simp only [beq_iff_eq, beq_eq_false_iff_ne, ne_eq] at *; omega)
           rw [lineS_17 v hr]; rfl)
        | (have hr : v % 20 = 18 := by (simp only [beq_iff_eq, beq_eq_false_iff_ne, ne_eq] at *; omega)
           rw [lineS_18 v hr, HST.out, ← HS.out]; rfl)
        | (have hr : v % 20 = 19 := by (simp only [beq_eq_false_iff_ne, ne_eq] at *; omega)
           rw [lineS_19 v hr]; rfl)
end Go.Proofs.YtdpnpcjbjjjceaaGreatDoor.K
namespace Go.Proofs.YtdpnpcjbjjjceaaGreatDoor.K
open Go.RowKit Go.Proofs.YtdpnpcjbjjjceaaGreatDoor

theorem lStore_size (v : Nat) : (lStore v).size ≤ 65 := by
  unfold lStore
  have h1 := ds_size (v / 33 % 9)
  have h2 := ds_size (v / 100 % 4 * 3)
  have h3 := ds_size (v / 400 % 7)
  have h4 : (lKey v).size = 1 := rfl
  have h5 : (⟨#[32]⟩ : ByteArray).size = 1 := rfl
  simp only [ByteArray.size_append, h4, h5]
  omega
theorem lineS_size (v : Nat) : (lineS v).size ≤ 120 := by
  have h1 := lStore_size v
  have h2 := lVal_size v (v / 400 % 7)
  have h3 := ds_size (v / 2800 % 6)
  have h4 := ds_size (v / 2800 % 200)
  have h5 := ds_size (v / 100 % 4 * 3)
  have h6 : (lKey v).size = 1 := rfl
  have q0 : (⟨#[115, 101, 116]⟩ : ByteArray).size = 3 := rfl
  have q1 : (⟨#[97, 100, 100]⟩ : ByteArray).size = 3 := rfl
  have q2 : (⟨#[114, 101, 112, 108, 97, 99, 101]⟩ : ByteArray).size = 7 := rfl
  have q3 : (⟨#[99, 97, 115]⟩ : ByteArray).size = 3 := rfl
  have q4 : (⟨#[103, 101, 116, 32]⟩ : ByteArray).size = 4 := rfl
  have q5 : (⟨#[100, 101, 108, 101, 116, 101, 32]⟩ : ByteArray).size = 7 := rfl
  have q6 : (⟨#[105, 110, 99, 114, 32]⟩ : ByteArray).size = 5 := rfl
  have q7 : (⟨#[116, 111, 117, 99, 104, 32]⟩ : ByteArray).size = 6 := rfl
  have q8 : (⟨#[32, 107, 32, 108, 10]⟩ : ByteArray).size = 5 := rfl
  have q9 : (⟨#[120, 10]⟩ : ByteArray).size = 2 := rfl
  have qa : (⟨#[10]⟩ : ByteArray).size = 1 := rfl
  have qb : (⟨#[32]⟩ : ByteArray).size = 1 := rfl
  rcases (show (v % 20 < 5) ∨ (v % 20 = 5) ∨ (v % 20 = 6) ∨ (v % 20 = 7) ∨ (7 < v % 20 ∧ v % 20 < 12) ∨ (v % 20 = 12) ∨ (12 < v % 20 ∧ v % 20 < 15) ∨ (v % 20 = 15) ∨ (v % 20 = 16) ∨ (v % 20 = 17) ∨ (v % 20 = 18) ∨ (v % 20 = 19) by omega) with h | h | h | h | h | h | h | h | h | h | h | h
  · rw [lineS_0 v h]; simp only [ByteArray.size_append, q0, qa]; omega
  · rw [lineS_5 v h]; simp only [ByteArray.size_append, q1, qa]; omega
  · rw [lineS_6 v h]; simp only [ByteArray.size_append, q2, qa]; omega
  · rw [lineS_7 v h]; simp only [ByteArray.size_append, q3, qa, qb]; omega
  · rw [lineS_8 v h]; simp only [ByteArray.size_append, h6, q4, q8]; omega
  · rw [lineS_12 v h]; simp only [ByteArray.size_append, h6, q5, qa]; omega
  · rw [lineS_13 v h]; simp only [ByteArray.size_append, h6, q6, qa, qb]; omega
  · rw [lineS_15 v h]; simp only [ByteArray.size_append, h6, q7, qa, qb]; omega
  · rw [lineS_16 v h]; exact (by decide : (6 : Nat) ≤ 120)
  · rw [lineS_17 v h]; exact (by decide : (8 : Nat) ≤ 120)
  · rw [lineS_18 v h]; simp only [ByteArray.size_append, q0, q9, qa]; omega
  · rw [lineS_19 v h]; exact (by decide : (2 : Nat) ≤ 120)

section
variable {Srv : World → Addr → (Nat → Prop) → M.Server → Nat → Prop} {Glob : World → Prop}
set_option maxRecDepth 20000 in
set_option maxHeartbeats 1000000 in
theorem split_c (I : Iface Srv Glob) (c : Int) (rv cv : Value) (raw cuts : List Int) (w : World) (hlo : -9223372036854775808 ≤ c) (hhi : c ≤ 9223372036854775807) (hra : IntsAt w rv raw) (hrl : raw.length ≤ 17592186044416) (hcu : IntsAt w cv cuts) (hcl : cuts.length ≤ 17592186044416) (hg : Glob w) :
    Calls Tryz.prog 9 #[.int .i64 c, rv, cv] w fun e w' => e = .returned (.bool true) ∧ Below w.heap.size w w' := by
  have hCh : ∀ (s : ByteArray) (W : World), s.size ≤ 1048576 → Below w.heap.size w W → Calls Tryz.prog 8 #[.int .i64 c, .string s, cv, .bool true] W fun e w' => e = .returned (.bool true) ∧ Below W.heap.size W w' :=
    fun s W hs hW => chunked_c I c s cv cuts true W hlo hhi hs (ints_below hcu hW) hcl (I.glob hg hW)
  obtain ⟨ra, rcap, rfl, hra⟩ := hra
  obtain ⟨ca, ccap, rfl, _⟩ := hcu
  have HR : Hid (raw = [] ∨ ∃ b o, ra = some ⟨b, o, none⟩ ∧ b < w.heap.size ∧ ∀ j q, raw[j]? = some q → w.cell? ⟨b, o + j, none⟩ = some (.int .i64 q) ∧ -9223372036854775808 ≤ q ∧ q ≤ 9223372036854775807) := hra
  clear hra hlo hhi hg
  go_enter Tryz.func9, Tryz.ntmps9
  go_wp2_with fail
  go_loopw [7, 8] (fun g i wr => ∃ (j : Nat) (s : ByteArray), j ≤ raw.length ∧ j ≤ 40 ∧ s.size ≤ 120 * j ∧ g = .string s ∧ i = .int .i64 j ∧ Below w.heap.size w wr) (fun _ i _ => raw.length - (intOf i).toNat)
  case atStart => exact ⟨0, ⟨#[]⟩, by omega, by omega, Nat.le_refl 0, rfl, rfl, Below.refl _ _⟩
  case round =>
    obtain ⟨j, s, hj, hj40, hs, rfl, rfl, hb⟩ := hrel
    by_cases hlt : j < raw.length
    · have klt : (j : Int) < raw.length := by omega
      by_cases h40 : j < 40
      · have k40 : (j : Int) < 40 := by omega
        obtain ⟨q, hq⟩ : ∃ q, raw[j]? = some q := ⟨_, List.getElem?_eq_getElem hlt⟩
        have hne : raw ≠ [] := by intro h; rw [h] at hq; simp at hq
        obtain ⟨bb, o, rfl, hbb, hcell⟩ := HR.out.resolve_left hne
        obtain ⟨hqc, hq1, hq2⟩ := hcell j q hq
        have cq : wr.cell? ⟨bb, o + j, none⟩ = some (.int .i64 q) := (hb.cell (p := ⟨bb, o + j, none⟩) hbb).trans hqc
        have hL := line_c q wr hq1 hq2
        have hls := lineS_size (pk q 1099511627776)
        generalize lineS (pk q 1099511627776) = L at hL hls
        clear hcell hq hne hqc
        go_wp2_with (go_at_call 26; refine hL.mono ?_; rintro e w2 ⟨rfl, hb2⟩)
        go_roundw
        case rel => exact ⟨j + 1, _, by omega, by omega, by rw [ByteArray.size_append]; omega, rfl, by go_num, hb.trans (hb2.mono hb.size)⟩
        case measure => simp [intOf] <;> omega
      · have k40 : ¬ (j : Int) < 40 := by omega
        have hC := hCh s wr (by omega) hb
        go_wp2_with (go_at_call 8; refine hC.mono ?_; rintro e w2 ⟨rfl, hb2⟩)
        go_ret
        exact ⟨rfl, hb.trans (hb2.mono hb.size)⟩
    · have klt : ¬ (j : Int) < raw.length := by omega
      have hC := hCh s wr (by omega) hb
      go_wp2_with (go_at_call 8; refine hC.mono ?_; rintro e w2 ⟨rfl, hb2⟩)
      go_ret
      exact ⟨rfl, hb.trans (hb2.mono hb.size)⟩
end
end Go.Proofs.YtdpnpcjbjjjceaaGreatDoor.K
