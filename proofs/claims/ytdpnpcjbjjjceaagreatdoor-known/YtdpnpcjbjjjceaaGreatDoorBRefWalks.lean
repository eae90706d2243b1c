import Derived.WalkKit
import Derived.WalkLawsBesides
import Derived.WalkSpells
import Derived.Outline
import Derived.Test.YtdpnpcjbjjjceaaGreatDoorProg
import Derived.Test.YtdpnpcjbjjjceaaGreatDoorBPlain
set_option linter.unusedSimpArgs false
set_option linter.unusedVariables false
namespace Go.Proofs.YtdpnpcjbjjjceaaGreatDoor
open Go.RowKit

theorem rDigit_c (c : UInt8) (w : World) : Calls Tryz.prog 137 #[.int .u8 (c.toNat : Int)] w fun e w' => e = .returned (.bool (P.isDig c)) ∧ w' = w := by
  by_cases h1 : 48 ≤ c.toNat
  · have k1 : (48 : Int) ≤ c.toNat := by omega
    by_cases h2 : c.toNat ≤ 57
    · have k2 : (c.toNat : Int) ≤ 57 := by omega
      go_enter Tryz.func137, Tryz.ntmps137
      go_wp2
      go_ret
      exact ⟨by simp [P.isDig, h1, h2], rfl⟩
    · have k2 : ¬ (c.toNat : Int) ≤ 57 := by omega
      go_enter Tryz.func137, Tryz.ntmps137
      go_wp2
      go_ret
      exact ⟨by simp [P.isDig, h1, h2], rfl⟩
  · have k1 : ¬ (48 : Int) ≤ c.toNat := by omega
    go_enter Tryz.func137, Tryz.ntmps137
    go_wp2
    go_ret
    exact ⟨by simp [P.isDig, h1], rfl⟩

theorem within_c (s : ByteArray) (most lo hi : Int) (w : World) (hs : s.size ≤ 9223372036854775806) : Calls Tryz.prog 116 #[.string s, .int .i64 most, .int .u8 lo, .int .u8 hi] w fun e w' => e = .returned (.bool (P.withinS s most lo hi)) ∧ w' = w := by
  by_cases h1 : s.size < 1
  · have k1 : (s.size : Int) < 1 := by omega
    go_enter Tryz.func116, Tryz.ntmps116
    go_wp2
    go_ret
    exact ⟨by simp [P.withinS, P.within]; omega, rfl⟩
  have k1 : ¬ (s.size : Int) < 1 := by omega
  by_cases h2 : most < s.size
  · go_enter Tryz.func116, Tryz.ntmps116
    go_wp2
    go_ret
    exact ⟨by simp [P.withinS, P.within]; omega, rfl⟩
  go_enter Tryz.func116, Tryz.ntmps116
  go_wp2
  go_loop [21] (fun i => ∃ k : Nat, k ≤ s.size ∧ i = .int .i64 k ∧ ∀ j (hj : j < s.size), j < k → P.okByte lo hi s[j] = true) (fun i => s.size - (intOf i).toNat)
  case atStart => exact ⟨0, by omega, rfl, fun j _ h => by omega⟩
  case round =>
    obtain ⟨k, hk, rfl, hall⟩ := hrel
    have HA : Hid (∀ j (hj : j < s.size), j < k → P.okByte lo hi s[j] = true) := hall
    clear hall
    go_wp2
    · have hlt : k < s.size := by assumption
      have hor : (s[k].toNat : Int) < lo ∨ hi < (s[k].toNat : Int) := by assumption
      go_ret
      exact ⟨by simp [P.withinS, P.within, P.not_all_of s (P.okByte lo hi) k hlt (by simp [P.okByte]; omega)], rfl⟩
    · have hlt : k < s.size := by assumption
      have hor : lo ≤ (s[k].toNat : Int) ∧ (s[k].toNat : Int) ≤ hi := by assumption
      go_round
      case rel => exact ⟨k + 1, by omega, by go_num, fun j hj hjk => by
        by_cases hjj : j < k
        · exact HA.out j hj hjj
        · obtain rfl : j = k := by omega
          simp [P.okByte]; omega⟩
      case measure => simp [intOf]; omega
    · have hlt : k < s.size := by assumption
      have hor : (s[k].toNat : Int) < lo := by assumption
      go_ret
      exact ⟨by simp [P.withinS, P.within, P.not_all_of s (P.okByte lo hi) k hlt (by simp [P.okByte]; omega)], rfl⟩
    · have hge : ¬ k < s.size := by assumption
      go_ret
      exact ⟨by simp [P.withinS, P.within, P.all_of s (P.okByte lo hi) (fun j hj => HA.out j hj (by omega))]; omega, rfl⟩

theorem word_c (s : ByteArray) (most : Int) (w : World) (hs : s.size ≤ 9223372036854775806) : Calls Tryz.prog 82 #[.string s, .int .i64 most] w fun e w' => e = .returned (.bool (P.withinS s most 33 126)) ∧ w' = w := by
  go_enter Tryz.func82, Tryz.ntmps82
  go_wp2_with (go_at_call 116; refine (within_c s most 33 126 _ hs).mono ?_; rintro e w' ⟨rfl, rfl⟩)
  go_ret
  exact ⟨rfl, rfl⟩

theorem digit_miss (s : ByteArray) (k m : Nat) (hk : k < s.size) (hd : P.isDig s[k] = false) : P.digits m (s.data.toList.drop k) = none := by
  rw [P.drop_step s k hk]; simp [P.digits, hd]
theorem digit_hit (s : ByteArray) (k m : Nat) (hk : k < s.size) (hd : P.isDig s[k] = true) : P.digits m (s.data.toList.drop k) = P.digits (m * 10 + s[k].toNat - 48) (s.data.toList.drop (k + 1)) := by
  rw [P.drop_step s k hk]; simp [P.digits, hd]
theorem rNum_bad (s : ByteArray) (most : Int) (h : s.data.toList = [] ∨ 9 < s.data.toList.length ∨ (s.data.toList.head? = some 48 ∧ s.data.toList ≠ [48])) : P.rNumS s most = -1 := by
  unfold P.rNumS P.rNum; rw [if_pos h]
theorem rNum_none (s : ByteArray) (most : Int) (h : P.digits 0 s.data.toList = none) : P.rNumS s most = -1 := by
  unfold P.rNumS P.rNum; split
  · rfl
  · rw [h]
theorem rNum_some (s : ByteArray) (most : Int) (n : Nat) (hb : ¬ (s.data.toList = [] ∨ 9 < s.data.toList.length ∨ (s.data.toList.head? = some 48 ∧ s.data.toList ≠ [48]))) (h : P.digits 0 s.data.toList = some n) : P.rNumS s most = if most < (n : Int) then (-1 : Int) else (n : Int) := by
  unfold P.rNumS P.rNum; rw [if_neg hb, h]
theorem head_zero (s : ByteArray) (h0 : 0 < s.size) : s.data.toList.head? = some s[0] := by
  rw [P.getElem_list s 0 h0, List.head?_eq_getElem?]
  exact List.getElem?_eq_getElem _

set_option maxHeartbeats 1000000 in
theorem rNumber_c (s : ByteArray) (most : Int) (w : World) : Calls Tryz.prog 104 #[.string s, .int .i64 most] w fun e w' => e = .returned (.int .i64 (P.rNumS s most)) ∧ w' = w := by
  by_cases h0 : s.size = 0
  · obtain rfl : s = ByteArray.empty := by
      have := P.length_list s
      rw [h0] at this; simpa using this
    go_enter Tryz.func104, Tryz.ntmps104
    go_wp2
    go_ret
    exact ⟨rfl, rfl⟩
  have he : s.toList.isEmpty = false := by
    rw [Lib.toList_data]; cases h : s.data.toList with
    | nil => have := P.length_list s; rw [h] at this; simp at this; omega
    | cons a b => rfl
  have k0 : 0 < s.size := by omega
  by_cases h9 : 9 < s.size
  · have k9 : (9 : Int) < s.size := by omega
    go_enter Tryz.func104, Tryz.ntmps104
    go_wp2
    go_ret
    exact ⟨by rw [rNum_bad s most (Or.inr (Or.inl (by rw [P.length_list]; exact h9)))]; rfl, rfl⟩
  have k9 : ¬ (9 : Int) < s.size := by omega
  by_cases hz : s[0].toNat = 48 ∧ s.data.toList ≠ [48]
  · have kz : (s[0].toNat : Int) = 48 := by omega
    have kn : (s.toList == [48]) = false := by rw [Lib.toList_data]; simpa using hz.2
    have hb : s.data.toList = [] ∨ 9 < s.data.toList.length ∨ (s.data.toList.head? = some 48 ∧ s.data.toList ≠ [48]) := by
      refine Or.inr (Or.inr ⟨?_, hz.2⟩)
      rw [head_zero s k0]
      exact congrArg some (UInt8.toNat_inj.1 hz.1)
    go_enter Tryz.func104, Tryz.ntmps104
    go_wp2
    go_ret
    exact ⟨by rw [rNum_bad s most hb]; rfl, rfl⟩
  have hb : ¬ (s.data.toList = [] ∨ 9 < s.data.toList.length ∨ (s.data.toList.head? = some 48 ∧ s.data.toList ≠ [48])) := by
    rintro (h | h | ⟨h, h'⟩)
    · have := P.length_list s; rw [h] at this; simp at this; omega
    · rw [P.length_list] at h; omega
    · rw [head_zero s k0] at h
      exact hz ⟨by rw [Option.some.inj h]; rfl, h'⟩
  have HB : Hid (¬ (s.data.toList = [] ∨ 9 < s.data.toList.length ∨ (s.data.toList.head? = some 48 ∧ s.data.toList ≠ [48]))) := hb
  clear hb
  have go : Calls Tryz.prog 104 #[.string s, .int .i64 most] w fun e w' => e = .returned (.int .i64 (P.rNumS s most)) ∧ w' = w := by
    by_cases hq : s[0].toNat = 48
    · have kz : (s[0].toNat : Int) = 48 := by omega
      have kn : (s.toList == [48]) = true := by
        rw [Lib.toList_data]; simp; exact Classical.byContradiction fun h => hz ⟨hq, h⟩
      clear hz
      go_enter Tryz.func104, Tryz.ntmps104
      go_wp2_with fail
      go_loop [5, 6] (fun v i => ∃ k m : Nat, k ≤ s.size ∧ v = .int .i64 m ∧ i = .int .i64 k ∧ m < 10 ^ k ∧ P.digits 0 s.data.toList = P.digits m (s.data.toList.drop k)) (fun _ i => s.size - (intOf i).toNat)
      case atStart => exact ⟨0, 0, by omega, rfl, rfl, by decide, by simp⟩
      case round =>
        obtain ⟨k, m, hk, rfl, rfl, hm, hd⟩ := hrel
        have HD : Hid (P.digits 0 s.data.toList = P.digits m (s.data.toList.drop k)) := hd
        have hp : (10 : Nat) ^ k ≤ 10 ^ 9 := Nat.pow_le_pow_right (by decide) (by omega)
        have HM : Hid (m < 10 ^ k) := hm
        have hm9 : m < 1000000000 := Nat.lt_of_lt_of_le hm hp
        clear hd hm hp
        by_cases hlt : k < s.size
        · have klt : (k : Int) < s.size := by omega
          have hu := s[k].toNat_lt
          cases hdig : P.isDig s[k] with
          | false =>
            go_wp2_with (go_at_call 137; refine (rDigit_c _ _).mono ?_; rintro e w' ⟨rfl, rfl⟩; rw [hdig])
            go_ret
            exact ⟨by rw [rNum_none s most (HD.out.trans (digit_miss s k m hlt hdig))]; rfl, rfl⟩
          | true =>
            have hb1 : 48 ≤ s[k].toNat ∧ s[k].toNat ≤ 57 := by simpa [P.isDig] using hdig
            go_wp2_with (go_at_call 137; refine (rDigit_c _ _).mono ?_; rintro e w' ⟨rfl, rfl⟩; rw [hdig])
            go_round
            case rel => exact ⟨k + 1, m * 10 + s[k].toNat - 48, by omega, by go_num, by go_num, by have := HM.out; rw [Nat.pow_succ]; omega, HD.out.trans (digit_hit s k m hlt hdig)⟩
            case measure => simp [intOf]; omega
        · have klt : ¬ (k : Int) < s.size := by omega
          have hfin : P.digits 0 s.data.toList = some m := by
            rw [HD.out, List.drop_eq_nil_of_le (by rw [P.length_list]; omega)]; rfl
          have HF : Hid (P.rNumS s most = if most < (m : Int) then (-1 : Int) else (m : Int)) := rNum_some s most m HB.out hfin
          clear hfin
          by_cases hmo : most < (m : Int)
          · go_wp2
            go_ret
            exact ⟨by rw [HF.out, if_pos hmo]; rfl, rfl⟩
          · go_wp2
            go_ret
            exact ⟨by rw [HF.out, if_neg (by omega)]; rfl, rfl⟩
    · have kz : ((s[0].toNat : Int) == 48) = false := beq_eq_false_iff_ne.2 (by omega)
      clear hz
      go_enter Tryz.func104, Tryz.ntmps104
      go_wp2_with fail
      go_loop [5, 6] (fun v i => ∃ k m : Nat, k ≤ s.size ∧ v = .int .i64 m ∧ i = .int .i64 k ∧ m < 10 ^ k ∧ P.digits 0 s.data.toList = P.digits m (s.data.toList.drop k)) (fun _ i => s.size - (intOf i).toNat)
      case atStart => exact ⟨0, 0, by omega, rfl, rfl, by decide, by simp⟩
      case round =>
        obtain ⟨k, m, hk, rfl, rfl, hm, hd⟩ := hrel
        have HD : Hid (P.digits 0 s.data.toList = P.digits m (s.data.toList.drop k)) := hd
        have hp : (10 : Nat) ^ k ≤ 10 ^ 9 := Nat.pow_le_pow_right (by decide) (by omega)
        have HM : Hid (m < 10 ^ k) := hm
        have hm9 : m < 1000000000 := Nat.lt_of_lt_of_le hm hp
        clear hd hm hp
        by_cases hlt : k < s.size
        · have klt : (k : Int) < s.size := by omega
          have hu := s[k].toNat_lt
          cases hdig : P.isDig s[k] with
          | false =>
            go_wp2_with (go_at_call 137; refine (rDigit_c _ _).mono ?_; rintro e w' ⟨rfl, rfl⟩; rw [hdig])
            go_ret
            exact ⟨by rw [rNum_none s most (HD.out.trans (digit_miss s k m hlt hdig))]; rfl, rfl⟩
          | true =>
            have hb1 : 48 ≤ s[k].toNat ∧ s[k].toNat ≤ 57 := by simpa [P.isDig] using hdig
            go_wp2_with (go_at_call 137; refine (rDigit_c _ _).mono ?_; rintro e w' ⟨rfl, rfl⟩; rw [hdig])
            go_round
            case rel => exact ⟨k + 1, m * 10 + s[k].toNat - 48, by omega, by go_num, by go_num, by have := HM.out; rw [Nat.pow_succ]; omega, HD.out.trans (digit_hit s k m hlt hdig)⟩
            case measure => simp [intOf]; omega
        · have klt : ¬ (k : Int) < s.size := by omega
          have hfin : P.digits 0 s.data.toList = some m := by
            rw [HD.out, List.drop_eq_nil_of_le (by rw [P.length_list]; omega)]; rfl
          have HF : Hid (P.rNumS s most = if most < (m : Int) then (-1 : Int) else (m : Int)) := rNum_some s most m HB.out hfin
          clear hfin
          by_cases hmo : most < (m : Int)
          · go_wp2
            go_ret
            exact ⟨by rw [HF.out, if_pos hmo]; rfl, rfl⟩
          · go_wp2
            go_ret
            exact ⟨by rw [HF.out, if_neg (by omega)]; rfl, rfl⟩
  exact go
theorem eq_of_list {s : ByteArray} {l : List UInt8} (h : s.data.toList = l) : s = ⟨l.toArray⟩ := by
  apply ByteArray.ext; apply Array.ext'; simpa using h
theorem ne_list {s : ByteArray} {l : List UInt8} (h : ¬ s.data.toList = l) : (s.toList == l) = false := by
  rw [Lib.toList_data]; simpa using h

set_option maxHeartbeats 2000000 in
theorem rShape_c (s : ByteArray) (w : World) : Calls Tryz.prog 142 #[.string s] w fun e w' => e = .returned (.string (P.rShapeS s)) ∧ w' = w := by
  by_cases e0 : s.data.toList = [97, 117, 116, 104]
  · obtain rfl := eq_of_list e0
    go_enter Tryz.func142, Tryz.ntmps142
    go_wp2
    go_ret
    exact ⟨by simp [P.rShapeS, P.rShape], rfl⟩
  have n0 := ne_list e0
  by_cases e1 : s.data.toList = [113, 117, 105, 116]
  · obtain rfl := eq_of_list e1
    go_enter Tryz.func142, Tryz.ntmps142
    go_wp2
    go_ret
    exact ⟨by simp [P.rShapeS, P.rShape], rfl⟩
  have n1 := ne_list e1
  by_cases e2 : s.data.toList = [115, 116, 97, 116, 115]
  · obtain rfl := eq_of_list e2
    go_enter Tryz.func142, Tryz.ntmps142
    go_wp2
    go_ret
    exact ⟨by simp [P.rShapeS, P.rShape], rfl⟩
  have n2 := ne_list e2
  by_cases e3 : s.data.toList = [103, 101, 116]
  · obtain rfl := eq_of_list e3
    go_enter Tryz.func142, Tryz.ntmps142
    go_wp2
    go_ret
    exact ⟨by simp [P.rShapeS, P.rShape], rfl⟩
  have n3 := ne_list e3
  by_cases e4 : s.data.toList = [115, 101, 116]
  · obtain rfl := eq_of_list e4
    go_enter Tryz.func142, Tryz.ntmps142
    go_wp2
    go_ret
    exact ⟨by simp [P.rShapeS, P.rShape], rfl⟩
  have n4 := ne_list e4
  by_cases e5 : s.data.toList = [97, 100, 100]
  · obtain rfl := eq_of_list e5
    go_enter Tryz.func142, Tryz.ntmps142
    go_wp2
    go_ret
    exact ⟨by simp [P.rShapeS, P.rShape], rfl⟩
  have n5 := ne_list e5
  by_cases e6 : s.data.toList = [114, 101, 112, 108, 97, 99, 101]
  · obtain rfl := eq_of_list e6
    go_enter Tryz.func142, Tryz.ntmps142
    go_wp2
    go_ret
    exact ⟨by simp [P.rShapeS, P.rShape], rfl⟩
  have n6 := ne_list e6
  by_cases e7 : s.data.toList = [99, 97, 115]
  · obtain rfl := eq_of_list e7
    go_enter Tryz.func142, Tryz.ntmps142
    go_wp2
    go_ret
    exact ⟨by simp [P.rShapeS, P.rShape], rfl⟩
  have n7 := ne_list e7
  by_cases e8 : s.data.toList = [100, 101, 108, 101, 116, 101]
  · obtain rfl := eq_of_list e8
    go_enter Tryz.func142, Tryz.ntmps142
    go_wp2
    go_ret
    exact ⟨by simp [P.rShapeS, P.rShape], rfl⟩
  have n8 := ne_list e8
  by_cases e9 : s.data.toList = [105, 110, 99, 114]
  · obtain rfl := eq_of_list e9
    go_enter Tryz.func142, Tryz.ntmps142
    go_wp2
    go_ret
    exact ⟨by simp [P.rShapeS, P.rShape], rfl⟩
  have n9 := ne_list e9
  by_cases e10 : s.data.toList = [116, 111, 117, 99, 104]
  · obtain rfl := eq_of_list e10
    go_enter Tryz.func142, Tryz.ntmps142
    go_wp2
    go_ret
    exact ⟨by simp [P.rShapeS, P.rShape], rfl⟩
  have n10 := ne_list e10
  have hsh : P.rShapeS s = ⟨#[63]⟩ := by simp [P.rShapeS, P.rShape, e0, e1, e2, e3, e4, e5, e6, e7, e8, e9, e10]
  have HS : Hid (P.rShapeS s = ⟨#[63]⟩) := hsh
  clear hsh e0 e1 e2 e3 e4 e5 e6 e7 e8 e9 e10
  go_enter Tryz.func142, Tryz.ntmps142
  go_wp2
  go_ret
  exact ⟨by rw [HS.out]; rfl, rfl⟩

set_option maxHeartbeats 2000000 in
theorem rFits_c (c : Nat) (s : ByteArray) (w : World) : Calls Tryz.prog 143 #[.int .u8 (c : Int), .string s] w fun e w' => e = .returned (.bool (P.rFitS c s)) ∧ w' = w := by
  have hl := P.length_list s
  by_cases e107 : c = 107
  · subst e107
    by_cases hm : s.size ≤ 20
    · have km : (s.size : Int) ≤ 20 := by omega
      go_enter Tryz.func143, Tryz.ntmps143
      go_wp2
      go_ret
      exact ⟨by simp [P.rFitS, P.rFit, hm], rfl⟩
    · have km : ¬ (s.size : Int) ≤ 20 := by omega
      go_enter Tryz.func143, Tryz.ntmps143
      go_wp2
      go_ret
      exact ⟨by simp [P.rFitS, P.rFit, hm], rfl⟩
  have n107 : ((c : Int) == 107) = false := beq_eq_false_iff_ne.2 (by omega)
  by_cases e110 : c = 110
  · subst e110
    by_cases hm : s.size ≤ 8
    · have km : (s.size : Int) ≤ 8 := by omega
      go_enter Tryz.func143, Tryz.ntmps143
      go_wp2
      go_ret
      exact ⟨by simp [P.rFitS, P.rFit, hm], rfl⟩
    · have km : ¬ (s.size : Int) ≤ 8 := by omega
      go_enter Tryz.func143, Tryz.ntmps143
      go_wp2
      go_ret
      exact ⟨by simp [P.rFitS, P.rFit, hm], rfl⟩
  have n110 : ((c : Int) == 110) = false := beq_eq_false_iff_ne.2 (by omega)
  by_cases e116 : c = 116
  · subst e116
    by_cases hm : s.size ≤ 16
    · have km : (s.size : Int) ≤ 16 := by omega
      go_enter Tryz.func143, Tryz.ntmps143
      go_wp2
      go_ret
      exact ⟨by simp [P.rFitS, P.rFit, hm], rfl⟩
    · have km : ¬ (s.size : Int) ≤ 16 := by omega
      go_enter Tryz.func143, Tryz.ntmps143
      go_wp2
      go_ret
      exact ⟨by simp [P.rFitS, P.rFit, hm], rfl⟩
  have n116 : ((c : Int) == 116) = false := beq_eq_false_iff_ne.2 (by omega)
  by_cases e102 : c = 102
  · subst e102
    have hv : P.rFitS 102 s = decide (0 ≤ P.rNumS s 65535) := by simp [P.rFitS, P.rFit, P.rNumS]; exact decide_eq_decide.2 Iff.rfl
    have HV : Hid (P.rFitS 102 s = decide (0 ≤ P.rNumS s 65535)) := hv
    clear hv
    by_cases hm : 0 ≤ P.rNumS s 65535
    · go_enter Tryz.func143, Tryz.ntmps143
      go_wp2_with (go_at_call 104; refine (rNumber_c s 65535 _).mono ?_; rintro e w' ⟨rfl, rfl⟩)
      go_ret
      exact ⟨by rw [HV.out]; simp [hm], rfl⟩
    · go_enter Tryz.func143, Tryz.ntmps143
      go_wp2_with (go_at_call 104; refine (rNumber_c s 65535 _).mono ?_; rintro e w' ⟨rfl, rfl⟩)
      go_ret
      exact ⟨by rw [HV.out]; simp <;> omega, rfl⟩
  have n102 : ((c : Int) == 102) = false := beq_eq_false_iff_ne.2 (by omega)
  by_cases e108 : c = 108
  · subst e108
    have hv : P.rFitS 108 s = decide (0 ≤ P.rNumS s 1000000) := by simp [P.rFitS, P.rFit, P.rNumS]; exact decide_eq_decide.2 Iff.rfl
    have HV : Hid (P.rFitS 108 s = decide (0 ≤ P.rNumS s 1000000)) := hv
    clear hv
    by_cases hm : 0 ≤ P.rNumS s 1000000
    · go_enter Tryz.func143, Tryz.ntmps143
      go_wp2_with (go_at_call 104; refine (rNumber_c s 1000000 _).mono ?_; rintro e w' ⟨rfl, rfl⟩)
      go_ret
      exact ⟨by rw [HV.out]; simp [hm], rfl⟩
    · go_enter Tryz.func143, Tryz.ntmps143
      go_wp2_with (go_at_call 104; refine (rNumber_c s 1000000 _).mono ?_; rintro e w' ⟨rfl, rfl⟩)
      go_ret
      exact ⟨by rw [HV.out]; simp <;> omega, rfl⟩
  have n108 : ((c : Int) == 108) = false := beq_eq_false_iff_ne.2 (by omega)
  by_cases e115 : c = 115
  · subst e115
    have hv : P.rFitS 115 s = decide (0 ≤ P.rNumS s 100) := by simp [P.rFitS, P.rFit, P.rNumS]; exact decide_eq_decide.2 Iff.rfl
    have HV : Hid (P.rFitS 115 s = decide (0 ≤ P.rNumS s 100)) := hv
    clear hv
    by_cases hm : 0 ≤ P.rNumS s 100
    · go_enter Tryz.func143, Tryz.ntmps143
      go_wp2_with (go_at_call 104; refine (rNumber_c s 100 _).mono ?_; rintro e w' ⟨rfl, rfl⟩)
      go_ret
      exact ⟨by rw [HV.out]; simp [hm], rfl⟩
    · go_enter Tryz.func143, Tryz.ntmps143
      go_wp2_with (go_at_call 104; refine (rNumber_c s 100 _).mono ?_; rintro e w' ⟨rfl, rfl⟩)
      go_ret
      exact ⟨by rw [HV.out]; simp <;> omega, rfl⟩
  have n115 : ((c : Int) == 115) = false := beq_eq_false_iff_ne.2 (by omega)
  have hv : P.rFitS c s = decide (0 ≤ P.rNumS s 999999999) := by simp [P.rFitS, P.rFit, P.rNumS, e107, e110, e116, e102, e108, e115]; exact decide_eq_decide.2 Iff.rfl
  have HV : Hid (P.rFitS c s = decide (0 ≤ P.rNumS s 999999999)) := hv
  clear hv
  by_cases hm : 0 ≤ P.rNumS s 999999999
  · go_enter Tryz.func143, Tryz.ntmps143
    go_wp2_with (go_at_call 104; refine (rNumber_c s 999999999 _).mono ?_; rintro e w' ⟨rfl, rfl⟩)
    go_ret
    exact ⟨by rw [HV.out]; simp [hm], rfl⟩
  · go_enter Tryz.func143, Tryz.ntmps143
    go_wp2_with (go_at_call 104; refine (rNumber_c s 999999999 _).mono ?_; rintro e w' ⟨rfl, rfl⟩)
    go_ret
    exact ⟨by rw [HV.out]; simp <;> omega, rfl⟩
end Go.Proofs.YtdpnpcjbjjjceaaGreatDoor
namespace Go.Proofs.YtdpnpcjbjjjceaaGreatDoor
open Go.RowKit

theorem infoStr : (Tryz.prog.info? 9).map (fun i => (i.zero, i.size, i.bytes)) = some (some (.string ByteArray.empty), 1, 16) := by kernel_rfl

def WordsAre (w : World) (base : Nat) (v : Value) (ws : List (List UInt8)) : Prop :=
  ∃ g cap, v = .slice (some ⟨g, 0, none⟩) ws.length cap ∧ base ≤ g ∧ g < w.heap.size ∧ ws.length ≤ cap ∧ ∀ j b, ws[j]? = some b → w.cell? ⟨g, j, none⟩ = some (.string ⟨b.toArray⟩)
def WordsPost (w : World) (r : Option (List (List UInt8))) (e : Ending) (w' : World) : Prop :=
  (∃ v, e = .returned v ∧ match r with
    | none => v = .slice none 0 0
    | some ws => WordsAre w' w.heap.size v ws) ∧ Below w.heap.size w w'

theorem empty_iff (b : ByteArray) : b.toList.isEmpty = decide (b.size = 0) := by
  rw [Lib.toList_data, ← P.length_list b]
  cases b.data.toList <;> simp

theorem own_block_ge {w : World} {base e size n : Nat} {v : Value} {xs : List Value} (h : w.ownsRow base e size v n xs) : ∀ k, v.ownBlock = some k → base ≤ k := by
  intro k hk
  rcases h.2 with ⟨rfl, _⟩ | ⟨g, cap, cur, rfl, hb, _⟩
  · cases hk
  · cases hk; exact hb

theorem words_of {w : World} {base : Nat} {v : Value} {acc : List ByteArray} (h : w.ownsRow base 9 1 v acc.length (acc.map Value.string)) (hne : acc ≠ []) : WordsAre w base v (acc.map P.toL) := by
  rcases h.2 with ⟨_, h0⟩ | ⟨g, cap, cur, rfl, hb, hh, hc, _, hsz, hcur⟩
  · exact absurd (List.eq_nil_of_length_eq_zero h0) hne
  · have hg : g < w.heap.size := by
      rcases Nat.lt_or_ge g w.heap.size with h' | h'
      · exact h'
      · rw [Array.getElem?_eq_none h'] at hh; cases hh
    refine ⟨g, cap, by simp, hb, hg, by simpa using hc, fun j b hj => ?_⟩
    rw [List.getElem?_map] at hj
    cases hq : acc[j]? with
    | none => rw [hq] at hj; cases hj
    | some x =>
      rw [hq] at hj
      cases hj
      have hjl : j < acc.length := (List.getElem?_eq_some_iff.1 hq).1
      have h1 : cur.toList[j]? = some (.string x) := by
        have := congrArg (fun l => l[j]?) hcur
        simp only [List.getElem?_take, List.getElem?_map, hq] at this
        rw [if_pos (by omega)] at this
        exact this
      have e : (⟨(P.toL x).toArray⟩ : ByteArray) = x := by simp [P.toL]
      rw [e]
      simp only [World.cell?, hh]
      rw [Array.getElem?_toList] at h1
      simpa using h1

set_option maxHeartbeats 4000000 in
theorem rWords_c (s : ByteArray) (w : World) (hs : s.size ≤ 4294967280) : Calls Tryz.prog 141 #[.string s] w (WordsPost w (P.rWords s.data.toList)) := by
  obtain ⟨i0, hi, hz0, hz1, hz2⟩ := info_parts infoStr
  go_enter Tryz.func141, Tryz.ntmps141
  go_wp2_with fail
  go_loopw [3, 4, 5] (fun v c i wr => ∃ (k : Nat) (acc : List ByteArray) (cb : ByteArray), k ≤ s.size + 1 ∧ i = .int .i64 k ∧ c = .string cb ∧ acc.length ≤ k ∧ cb.size ≤ k ∧
      wr.ownsRow w.heap.size 9 1 v acc.length (acc.map Value.string) ∧ Below w.heap.size w wr ∧
      (k ≤ s.size → P.rWords s.data.toList = P.goW (acc.map P.toL) (P.toL cb) (s.data.toList.drop k)) ∧ (k = s.size + 1 → P.rWords s.data.toList = some (acc.map P.toL) ∧ acc ≠ []))
    (fun _ _ i _ => s.size + 1 - (intOf i).toNat)
  case atStart => exact ⟨0, [], ByteArray.empty, by omega, rfl, rfl, by simp, by simp, World.ownsRow_nil _ _ _ _, Below.refl _ _, fun _ => by simp [P.rWords, P.toL], fun h => by omega⟩
  case round =>
    obtain ⟨k, acc, cb, hk, rfl, rfl, hal, hcl, hown, hbel, h1, h2⟩ := hrel
    have H1 : Hid (k ≤ s.size → P.rWords s.data.toList = P.goW (acc.map P.toL) (P.toL cb) (s.data.toList.drop k)) := h1
    have H2 : Hid (k = s.size + 1 → P.rWords s.data.toList = some (acc.map P.toL) ∧ acc ≠ []) := h2
    clear h1 h2
    by_cases hex : k = s.size + 1
    · have kx : ¬ (k : Int) ≤ s.size := by omega
      have HX := H2.out hex
      have HY : Hid (P.rWords s.data.toList = some (acc.map P.toL) ∧ acc ≠ []) := HX
      clear HX hex
      go_wp2
      go_ret
      rw [HY.out.1]
      exact ⟨⟨_, rfl, words_of hown HY.out.2⟩, hbel⟩
    have kle : (k : Int) ≤ s.size := by omega
    have HR := H1.out (by omega)
    have HQ : Hid (P.rWords s.data.toList = P.goW (acc.map P.toL) (P.toL cb) (s.data.toList.drop k)) := HR
    clear HR H1 H2
    by_cases heq : k = s.size
    · subst heq
      by_cases hcb : cb.size = 0
      · have kc : cb.toList.isEmpty = true := by rw [empty_iff]; simpa using hcb
        go_wp2
        go_ret
        rw [HQ.out, P.goW_end_none _ cb s hcb]
        exact ⟨⟨_, rfl, rfl⟩, hbel⟩
      · have kc : cb.toList.isEmpty = false := by rw [empty_iff]; simpa using hcb
        go_wp2_with (at_builtin; refine wpList_append_own _ rfl _ _ 37 rfl w.heap.size 9 i0 (.string ByteArray.empty) 1 16 Tryz.underlying37 hi hz0 hz1 hz2 rfl (by decide) _ _ _ rfl (hown.alloc _) ⟨wr.heap.size, 0, none⟩ 1 1 [.string cb] rfl rfl (cell_one_new _ _ _) ?c2 ?c3 ?c4 ?c5 ?_)
        case c2 => intro u hu; simp at hu; subst hu; rfl
        case c3 => unfold maxLen; omega
        case c4 => omega
        case c5 => have := hbel.size; simp <;> omega
        intro v' w1 hown' hgrow _
        have hb1 : Below w.heap.size w w1 := (hbel.alloc hbel.size _).grown hgrow (by have := hbel.size; simp <;> omega) (own_block_ge hown)
        have HW := hown'
        clear hgrow hown hown'
        go_wp2
        go_roundw
        case rel => exact ⟨s.size + 1, acc ++ [cb], ByteArray.empty, by omega, by go_num, rfl, by simp; omega, by simp, by simpa using HW, hb1, fun h => by omega, fun _ => ⟨by rw [HQ.out]; exact P.goW_end acc cb s hcb, by simp⟩⟩
        case measure => simp [intOf] <;> omega
    have klt : k < s.size := by omega
    have kne : ((k : Int) == s.size) = false := beq_eq_false_iff_ne.2 (by omega)
    by_cases h32 : s[k].toNat = 32
    · have k32 : ((s[k].toNat : Int) == 32) = true := beq_iff_eq.2 (by omega)
      by_cases hcb : cb.size = 0
      · have kc : cb.toList.isEmpty = true := by rw [empty_iff]; simpa using hcb
        go_wp2
        go_ret
        rw [HQ.out, P.goW_blank_none _ cb s k klt h32 hcb]
        exact ⟨⟨_, rfl, rfl⟩, hbel⟩
      · have kc : cb.toList.isEmpty = false := by rw [empty_iff]; simpa using hcb
        go_wp2_with (at_builtin; refine wpList_append_own _ rfl _ _ 37 rfl w.heap.size 9 i0 (.string ByteArray.empty) 1 16 Tryz.underlying37 hi hz0 hz1 hz2 rfl (by decide) _ _ _ rfl (hown.alloc _) ⟨wr.heap.size, 0, none⟩ 1 1 [.string cb] rfl rfl (cell_one_new _ _ _) ?c2 ?c3 ?c4 ?c5 ?_)
        case c2 => intro u hu; simp at hu; subst hu; rfl
        case c3 => unfold maxLen; omega
        case c4 => omega
        case c5 => have := hbel.size; simp <;> omega
        intro v' w1 hown' hgrow _
        have hb1 : Below w.heap.size w w1 := (hbel.alloc hbel.size _).grown hgrow (by have := hbel.size; simp <;> omega) (own_block_ge hown)
        have HW := hown'
        clear hgrow hown hown'
        go_wp2
        go_roundw
        case rel => exact ⟨k + 1, acc ++ [cb], ByteArray.empty, by omega, by go_num, rfl, by simp; omega, by simp, by simpa using HW, hb1, fun _ => by rw [HQ.out]; exact P.goW_blank acc cb s k klt h32 hcb, fun h => by omega⟩
        case measure => simp [intOf] <;> omega
    · have k32 : ((s[k].toNat : Int) == 32) = false := beq_eq_false_iff_ne.2 (by omega)
      by_cases hlo : s[k].toNat < 33
      · have klo : (s[k].toNat : Int) < 33 := by omega
        go_wp2
        go_ret
        rw [HQ.out, P.goW_bad _ cb s k klt h32 (Or.inl hlo)]
        exact ⟨⟨_, rfl, rfl⟩, hbel⟩
      · have klo : ¬ (s[k].toNat : Int) < 33 := by omega
        by_cases hhi : 126 < s[k].toNat
        · have khi : (126 : Int) < s[k].toNat := by omega
          go_wp2
          go_ret
          rw [HQ.out, P.goW_bad _ cb s k klt h32 (Or.inr hhi)]
          exact ⟨⟨_, rfl, rfl⟩, hbel⟩
        · have khi : ¬ (126 : Int) < s[k].toNat := by omega
          go_wp2
          go_roundw
          case rel => exact ⟨k + 1, acc, cb ++ s.extract k (k + 1), by omega, by go_num, rfl, by omega, by rw [ByteArray.size_append, ByteArray.size_extract]; omega, hown, hbel, fun _ => by rw [HQ.out]; exact P.goW_on _ cb s k klt h32 (by omega), fun h => by omega⟩
          case measure => simp [intOf] <;> omega
end Go.Proofs.YtdpnpcjbjjjceaaGreatDoor
