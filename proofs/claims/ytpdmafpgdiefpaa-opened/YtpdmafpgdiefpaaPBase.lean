import Derived.Test.YtpdmafpgdiefpaaRDial
import Derived.Test.YtpdmafpgdiefpaaShelf
namespace Go.Proofs.Ytpdmafpgdiefpaa
open Go.RowKit Go.Builtin

def withinB (s : ByteArray) (most lo hi : Nat) : Bool := decide (1 ≤ s.size) && decide (s.size ≤ most) && bytesIn s lo hi

theorem within_c (s : ByteArray) (most lo hi : Nat) (w : World) (hs : s.size ≤ 9223372036854775806) : Calls Try.prog 41 #[.string s, .int .i64 (most : Int), .int .u8 (lo : Int), .int .u8 (hi : Int)] w fun e w' => e = .returned (.bool (withinB s most lo hi)) ∧ w' = w := by
  by_cases h1 : s.size < 1
  · have k1 : (s.size : Int) < 1 := by omega
    have HF : Hid (withinB s most lo hi = false) := by show _ = _; unfold withinB; rw [decide_eq_false (by omega)]; rfl
    go_enter Try.func41, Try.ntmps41
    go_wp2
    go_ret
    exact ⟨by rw [HF.out]; rfl, rfl⟩
  have k1 : ¬ (s.size : Int) < 1 := by omega
  by_cases h2 : most < s.size
  · have k2 : (most : Int) < s.size := by omega
    have HF : Hid (withinB s most lo hi = false) := by show _ = _; unfold withinB; rw [decide_eq_false (show ¬ s.size ≤ most by omega)]; simp
    go_enter Try.func41, Try.ntmps41
    go_wp2
    go_ret
    exact ⟨by rw [HF.out]; rfl, rfl⟩
  have k2 : ¬ (most : Int) < s.size := by omega
  have HW : Hid (withinB s most lo hi = bytesIn s lo hi) := by show _ = _; unfold withinB; rw [decide_eq_true (show 1 ≤ s.size by omega), decide_eq_true (show s.size ≤ most by omega)]; simp
  go_enter Try.func41, Try.ntmps41
  go_wp2
  go_loop [21] (fun i => ∃ k : Nat, k ≤ s.size ∧ i = .int .i64 k ∧ Hid (∀ j (hj : j < s.size), j < k → okIn lo hi s[j] = true)) (fun i => s.size - (intOf i).toNat)
  case atStart => exact ⟨0, by omega, rfl, fun j _ h => by omega⟩
  case round =>
    obtain ⟨k, hk, rfl, HA⟩ := hrel
    by_cases hlt : k < s.size
    · have klt : (k : Int) < s.size := by omega
      by_cases hlo : s[k].toNat < lo
      · have klo : (s[k].toNat : Int) < lo := by omega
        have HF : Hid (bytesIn s lo hi = false) := bytes_not s lo hi k hlt (by simp [okIn]; omega)
        go_wp2
        go_ret
        exact ⟨by rw [HW.out, HF.out]; rfl, rfl⟩
      · have klo : ¬ (s[k].toNat : Int) < lo := by omega
        by_cases hhi : hi < s[k].toNat
        · have khi : (hi : Int) < s[k].toNat := by omega
          have HF : Hid (bytesIn s lo hi = false) := bytes_not s lo hi k hlt (by simp [okIn]; omega)
          go_wp2
          go_ret
          exact ⟨by rw [HW.out, HF.out]; rfl, rfl⟩
        · have khi : ¬ (hi : Int) < s[k].toNat := by omega
          go_wp2
          go_round
          case rel => exact ⟨k + 1, by omega, by go_num, fun j hj hjk => by
            by_cases hjj : j < k
            · exact HA.out j hj hjj
            · obtain rfl : j = k := by omega
              simp [okIn]; omega⟩
          case measure => simp [intOf] <;> omega
    · have klt : ¬ (k : Int) < s.size := by omega
      have HF : Hid (bytesIn s lo hi = true) := bytes_all s lo hi (fun j hj => HA.out j hj (by omega))
      go_wp2
      go_ret
      exact ⟨by rw [HW.out, HF.out]; rfl, rfl⟩

theorem word_c (s : ByteArray) (w : World) (hs : s.size ≤ 9223372036854775806) : Calls Try.prog 33 #[.string s, .int .i64 16] w fun e w' => e = .returned (.bool (withinB s 16 33 126)) ∧ w' = w := by
  have c := within_c s 16 33 126 w hs
  go_enter Try.func33, Try.ntmps33
  go_wp2_with (go_at_call 41; refine c.mono ?_; rintro e w' ⟨rfl, rfl⟩)
  go_ret
  exact ⟨rfl, rfl⟩
theorem letters_c (s : ByteArray) (w : World) (hs : s.size ≤ 9223372036854775806) : Calls Try.prog 32 #[.string s, .int .i64 8] w fun e w' => e = .returned (.bool (withinB s 8 97 122)) ∧ w' = w := by
  have c := within_c s 8 97 122 w hs
  go_enter Try.func32, Try.ntmps32
  go_wp2_with (go_at_call 41; refine c.mono ?_; rintro e w' ⟨rfl, rfl⟩)
  go_ret
  exact ⟨rfl, rfl⟩
theorem clone_c (s : ByteArray) (w : World) (hs : s.size ≤ 281474976710656) : Calls Try.prog 28 #[.string s] w fun e w' => e = .returned (.string s) ∧ Below w.heap.size w w' := by
  go_enter Try.func28, Try.ntmps28
  go_wp2_with (go_at_call 34; refine (Try.stringslite_Clone s _ hs).mono ?_; rintro e w1 ⟨rfl, hb⟩)
  go_ret
  exact ⟨rfl, hb⟩

theorem good_split (t : Ten) : goodB t = (withinB t.n 8 97 122 && withinB t.k 16 33 126 && decide (1 ≤ t.q) && decide (t.q ≤ 2000)) := by
  unfold goodB withinB
  have e1 : decide (0 < t.q) = decide (1 ≤ t.q) := decide_eq_decide.2 (by omega)
  have e2 : decide (0 < t.n.size) = decide (1 ≤ t.n.size) := decide_eq_decide.2 (by omega)
  have e3 : decide (0 < t.k.size) = decide (1 ≤ t.k.size) := decide_eq_decide.2 (by omega)
  rw [e1, e2, e3]
  cases bytesIn t.n 97 122 <;> cases bytesIn t.k 33 126 <;> cases decide (1 ≤ t.n.size) <;> cases decide (t.n.size ≤ 8) <;> cases decide (1 ≤ t.k.size) <;> cases decide (t.k.size ≤ 16) <;> simp

set_option maxRecDepth 100000 in
theorem mayBe_c (t : Ten) (w : World) (hn : t.n.size ≤ 9223372036854775806) (hk : t.k.size ≤ 9223372036854775806) : Calls Try.prog 27 #[.agg #[.string t.n, .string t.k, .int .i64 t.q]] w fun e w' => e = .returned (.bool (goodB t)) ∧ Below w.heap.size w w' := by
  have hB : Below w.heap.size w (w.alloc (.cells #[.string t.n, .string t.k, .int .i64 t.q] 40)) := (Below.refl _ _).alloc (Nat.le_refl _) _
  have hg := good_split t
  have c1 := fun W => letters_c t.n W hn
  have c2 := fun W => word_c t.k W hk
  cases h1 : withinB t.n 8 97 122 with
  | false =>
    have HF : Hid (goodB t = false) := by show _ = _; rw [hg, h1]; simp
    rw [h1] at c1
    clear hg h1
    go_enter Try.func27, Try.ntmps27
    go_wp2_with (first
      | (go_at_call 32; refine (c1 _).mono ?_; rintro e w1 ⟨rfl, hw⟩; rw [hw]; clear hw)
      | (go_at_call 33; refine (c2 _).mono ?_; rintro e w1 ⟨rfl, hw⟩; rw [hw]; clear hw))
    go_ret
    exact ⟨by rw [HF.out]; rfl, hB⟩
  | true =>
    rw [h1] at c1
    cases h2 : withinB t.k 16 33 126 with
    | false =>
      have HF : Hid (goodB t = false) := by show _ = _; rw [hg, h1, h2]; simp
      rw [h2] at c2
      clear hg h1 h2
      go_enter Try.func27, Try.ntmps27
      go_wp2_with (first
        | (go_at_call 32; refine (c1 _).mono ?_; rintro e w1 ⟨rfl, hw⟩; rw [hw]; clear hw)
        | (go_at_call 33; refine (c2 _).mono ?_; rintro e w1 ⟨rfl, hw⟩; rw [hw]; clear hw))
      go_ret
      exact ⟨by rw [HF.out]; rfl, hB⟩
    | true =>
      rw [h2] at c2
      by_cases h3 : 1 ≤ t.q
      · by_cases h4 : t.q ≤ 2000
        · have HF : Hid (goodB t = true) := by show _ = _; rw [hg, h1, h2]; simp [h3, h4]
          clear hg h1 h2
          go_enter Try.func27, Try.ntmps27
          go_wp2_with (first
            | (go_at_call 32; refine (c1 _).mono ?_; rintro e w1 ⟨rfl, hw⟩; rw [hw]; clear hw)
            | (go_at_call 33; refine (c2 _).mono ?_; rintro e w1 ⟨rfl, hw⟩; rw [hw]; clear hw))
          go_ret
          exact ⟨by rw [HF.out]; first | rfl | (simp <;> omega), hB⟩
        · have HF : Hid (goodB t = false) := by show _ = _; rw [hg, h1, h2]; simp [h4]
          clear hg h1 h2
          go_enter Try.func27, Try.ntmps27
          go_wp2_with (first
            | (go_at_call 32; refine (c1 _).mono ?_; rintro e w1 ⟨rfl, hw⟩; rw [hw]; clear hw)
            | (go_at_call 33; refine (c2 _).mono ?_; rintro e w1 ⟨rfl, hw⟩; rw [hw]; clear hw))
          go_ret
          exact ⟨by rw [HF.out]; first | rfl | (simp <;> omega), hB⟩
      · have HF : Hid (goodB t = false) := by show _ = _; rw [hg, h1, h2]; simp [h3]
        clear hg h1 h2
        go_enter Try.func27, Try.ntmps27
        go_wp2_with (first
          | (go_at_call 32; refine (c1 _).mono ?_; rintro e w1 ⟨rfl, hw⟩; rw [hw]; clear hw)
          | (go_at_call 33; refine (c2 _).mono ?_; rintro e w1 ⟨rfl, hw⟩; rw [hw]; clear hw))
        go_ret
        exact ⟨by rw [HF.out]; first | rfl | (simp <;> omega), hB⟩
end Go.Proofs.Ytpdmafpgdiefpaa
