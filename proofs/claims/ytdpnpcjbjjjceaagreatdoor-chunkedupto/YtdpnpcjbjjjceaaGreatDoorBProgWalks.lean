import Derived.Deep.QuietTactic
import Derived.BigQuiet
import Derived.Test.YtdpnpcjbjjjceaaGreatDoorBPlain
import Derived.Test.YtdpnpcjbjjjceaaGreatDoorBShelf
import Derived.Test.YtdpnpcjbjjjceaaGreatDoorBRefWalks
set_option linter.unusedSimpArgs false
set_option linter.unusedVariables false
namespace Go.Proofs.YtdpnpcjbjjjceaaGreatDoor
open Go.RowKit

def HasErr (w : World) (g : Nat) : Prop := ∃ ev, w.cell? ⟨g, 0, none⟩ = some ev ∧ (ev = .nilIface ∨ ∃ te pe, ev = .iface te pe)
def Errs (w : World) : Prop := HasErr w 1 ∧ HasErr w 2
theorem HasErr.below {w w' : World} {g : Nat} (h : HasErr w g) (hb : Below w.heap.size w w') : HasErr w' g := by
  obtain ⟨ev, h1, h2⟩ := h
  exact ⟨ev, (hb.cell (p := ⟨g, 0, none⟩) (World.block_lt_of_cell? _ _ h1)).trans h1, h2⟩
theorem Errs.below {w w' : World} (h : Errs w) (hb : Below w.heap.size w w') : Errs w' := ⟨h.1.below hb, h.2.below hb⟩

theorem parse_bad (s : ByteArray) (w : World) (hs : s.size ≤ 281474976710656) (hE : Errs w) (h : ∀ u, Lib.parseUintB 64 s.data.toList ≠ .ok u) :
    Calls Tryz.prog 80 #[.string s, .int .i64 10, .int .i64 64] w fun e w' => ∃ (n : Int) (N : Nat), e = .returned (.tuple #[.int .u64 n, .iface 216 (.pointer (some ⟨N, 0, none⟩))]) ∧ Below w.heap.size w w' := by
  obtain ⟨⟨ev, h1, h2⟩, ⟨ev', h3, h4⟩⟩ := hE
  cases hp : Lib.parseUintB 64 s.data.toList with
  | ok u => exact absurd hp (h u)
  | range => exact (Tryz.strconv_ParseUint_10_at64_range s hs hp ev' w h3 h4).mono fun e w' ⟨N, he, _, _, hb⟩ => ⟨_, N, he, hb⟩
  | _ => exact (Tryz.strconv_ParseUint_10_at64_bad s hs h (fun h' => by rw [hp] at h'; cases h') ev w h1 h2).mono fun e w' ⟨N, he, _, _, hb⟩ => ⟨_, N, he, hb⟩
theorem parse_ok (s : ByteArray) (w : World) (hs : s.size ≤ 281474976710656) (u : Nat) (h : Lib.parseUintB 64 s.data.toList = .ok u) :
    Calls Tryz.prog 80 #[.string s, .int .i64 10, .int .i64 64] w fun e w' => e = .returned (.tuple #[.int .u64 u, .nilIface]) ∧ Below w.heap.size w w' :=
  (Tryz.strconv_ParseUint_10_at64_ok s (by omega) u h w).mono fun e w' ⟨he, hw⟩ => ⟨he, by
    rcases hw with rfl | rfl
    · exact Below.refl _ _
    · exact Lib.bytesWorld_below _ _ _⟩

def numV : Option Nat → Value
  | none => .tuple #[.int .i64 0, .bool false]
  | some n => .tuple #[.int .i64 n, .bool true]

set_option maxHeartbeats 2000000 in
theorem numberOf_c (s : ByteArray) (w : World) (hs : s.size ≤ 281474976710656) (hE : Errs w) : Calls Tryz.prog 62 #[.string s] w fun e w' => e = .returned (numV (P.pNumS s)) ∧ Below w.heap.size w w' := by
  have HE : Hid (Errs w) := hE
  clear hE
  by_cases h1 : 1 < s.size
  · have k0 : 0 < s.size := by omega
    have k1 : (1 : Int) < s.size := by omega
    by_cases h48 : s[0].toNat = 48
    · have k2 : ((s[0].toNat : Int) == 48) = true := by rw [h48]; rfl
      have HP : Hid (P.pNumS s = none) := by
        show _ = _
        unfold P.pNumS P.pNum; rw [if_pos ⟨by rw [P.length_list]; exact h1, by rw [head_zero s k0]; exact congrArg some (UInt8.toNat_inj.1 h48)⟩]
      clear h48
      go_enter Tryz.func62, Tryz.ntmps62
      go_wp2
      go_ret2
      exact ⟨by rw [HP.out]; rfl, Below.refl _ _⟩
    · have k2 : ((s[0].toNat : Int) == 48) = false := beq_eq_false_iff_ne.2 (by omega)
      have h0' : ¬ (1 < s.data.toList.length ∧ s.data.toList.head? = some 48) := by
        rintro ⟨_, h⟩
        rw [head_zero s k0] at h
        exact h48 (by rw [Option.some.inj h]; rfl)
      clear h48
      cases hp : Lib.parseUintB 64 s.data.toList with
      | ok u =>
        have HC := fun (W : World) => parse_ok s W hs u hp
        by_cases hu : 999999999 < u
        · have HP : Hid (P.pNumS s = none) := by
            show _ = _
            unfold P.pNumS P.pNum; rw [if_neg h0', hp]; simp [hu]
          have ku : (999999999 : Int) < u := by omega
          clear hp h0'
          go_enter Tryz.func62, Tryz.ntmps62
          go_wp2_with (go_at_call 80; refine (HC _).mono ?_; rintro e w1 ⟨rfl, hb⟩)
          go_ret2
          exact ⟨by rw [HP.out]; rfl, hb⟩
        · have HP : Hid (P.pNumS s = some u) := by
            show _ = _
            unfold P.pNumS P.pNum; rw [if_neg h0', hp]; simp; omega
          have ku : ¬ (999999999 : Int) < u := by omega
          clear hp h0'
          go_enter Tryz.func62, Tryz.ntmps62
          go_wp2_with (go_at_call 80; refine (HC _).mono ?_; rintro e w1 ⟨rfl, hb⟩)
          go_ret2
          exact ⟨by rw [HP.out]; rfl, hb⟩
      | _ =>
        have HC := parse_bad s w hs HE.out (fun u => by rw [hp]; intro h; cases h)
        have HP : Hid (P.pNumS s = none) := by
          show _ = _
          unfold P.pNumS P.pNum; rw [if_neg h0', hp]
        clear hp h0'
        go_enter Tryz.func62, Tryz.ntmps62
        go_wp2_with (go_at_call 80; refine HC.mono ?_; rintro e w1 ⟨nn, N, rfl, hb⟩)
        go_ret2
        exact ⟨by rw [HP.out]; rfl, hb⟩
  · have k1 : ¬ (1 : Int) < s.size := by omega
    have h0' : ¬ (1 < s.data.toList.length ∧ s.data.toList.head? = some 48) := by rw [P.length_list]; exact fun h => h1 h.1
    cases hp : Lib.parseUintB 64 s.data.toList with
    | ok u =>
      have HC := fun (W : World) => parse_ok s W hs u hp
      by_cases hu : 999999999 < u
      · have HP : Hid (P.pNumS s = none) := by
          show _ = _
          unfold P.pNumS P.pNum; rw [if_neg h0', hp]; simp [hu]
        have ku : (999999999 : Int) < u := by omega
        clear hp h0'
        go_enter Tryz.func62, Tryz.ntmps62
        go_wp2_with (go_at_call 80; refine (HC _).mono ?_; rintro e w1 ⟨rfl, hb⟩)
        go_ret2
        exact ⟨by rw [HP.out]; rfl, hb⟩
      · have HP : Hid (P.pNumS s = some u) := by
          show _ = _
          unfold P.pNumS P.pNum; rw [if_neg h0', hp]; simp; omega
        have ku : ¬ (999999999 : Int) < u := by omega
        clear hp h0'
        go_enter Tryz.func62, Tryz.ntmps62
        go_wp2_with (go_at_call 80; refine (HC _).mono ?_; rintro e w1 ⟨rfl, hb⟩)
        go_ret2
        exact ⟨by rw [HP.out]; rfl, hb⟩
    | _ =>
      have HC := parse_bad s w hs HE.out (fun u => by rw [hp]; intro h; cases h)
      have HP : Hid (P.pNumS s = none) := by
        show _ = _
        unfold P.pNumS P.pNum; rw [if_neg h0', hp]
      clear hp h0'
      go_enter Tryz.func62, Tryz.ntmps62
      go_wp2_with (go_at_call 80; refine HC.mono ?_; rintro e w1 ⟨nn, N, rfl, hb⟩)
      go_ret2
      exact ⟨by rw [HP.out]; rfl, hb⟩

theorem allows_text (most : Int) (s : ByteArray) (w : World) (hs : s.size ≤ 281474976710656) : Calls Tryz.prog 79 #[.agg #[.bool false, .int .i64 most], .string s] w fun e w' => e = .returned (.bool (P.pAllowsS false most s)) ∧ Below w.heap.size w w' := by
  go_enter Tryz.func79, Tryz.ntmps79
  go_wp2_with (go_at_call 82; refine (word_c s most _ (by omega)).mono ?_; rintro e w' ⟨rfl, rfl⟩)
  go_ret
  exact ⟨rfl, (Below.refl _ _).alloc (Nat.le_refl _) _⟩

theorem allows_num (most : Int) (s : ByteArray) (w : World) (hs : s.size ≤ 281474976710656) (hE : Errs w) : Calls Tryz.prog 79 #[.agg #[.bool true, .int .i64 most], .string s] w fun e w' => e = .returned (.bool (P.pAllowsS true most s)) ∧ Below w.heap.size w w' := by
  have HC := fun (o : Obj) => numberOf_c s (w.alloc o) hs (hE.below ((Below.refl _ _).alloc (Nat.le_refl _) _))
  clear hE
  cases hp : P.pNumS s with
  | none =>
    have HP : Hid (P.pAllowsS true most s = false) := by
      show _ = _
      unfold P.pAllowsS P.pAllows; rw [show P.pNum s.data.toList = none from hp]; rfl
    rw [hp] at HC
    have HC' : ∀ o, Calls Tryz.prog 62 #[.string s] (w.alloc o) fun e w' => e = .returned (.tuple #[.int .i64 0, .bool false]) ∧ Below (w.alloc o).heap.size (w.alloc o) w' := HC
    clear HC hp
    go_enter Tryz.func79, Tryz.ntmps79
    go_wp2_with (go_at_call 62; refine (HC' _).mono ?_; rintro e w1 ⟨rfl, hb⟩)
    go_ret
    exact ⟨by rw [HP.out]; rfl, ((Below.refl _ _).alloc (Nat.le_refl _) _).trans (hb.mono (by simp))⟩
  | some n =>
    have hv : P.pAllowsS true most s = decide ((n : Int) ≤ most) := by
      unfold P.pAllowsS P.pAllows; rw [show P.pNum s.data.toList = some n from hp]; rfl
    rw [hp] at HC
    have HC' : ∀ o, Calls Tryz.prog 62 #[.string s] (w.alloc o) fun e w' => e = .returned (.tuple #[.int .i64 n, .bool true]) ∧ Below (w.alloc o).heap.size (w.alloc o) w' := HC
    by_cases hm : (n : Int) ≤ most
    · have HP : Hid (P.pAllowsS true most s = true) := by show _ = _; rw [hv]; exact decide_eq_true hm
      clear HC hp hv
      go_enter Tryz.func79, Tryz.ntmps79
      go_wp2_with (go_at_call 62; refine (HC' _).mono ?_; rintro e w1 ⟨rfl, hb⟩; have hcm := (hb.cell (p := ⟨w.heap.size, 1, none⟩) (by simp)))
      go_ret
      exact ⟨by rw [HP.out]; rfl, ((Below.refl _ _).alloc (Nat.le_refl _) _).trans (hb.mono (by simp))⟩
    · have HP : Hid (P.pAllowsS true most s = false) := by show _ = _; rw [hv]; exact decide_eq_false hm
      clear HC hp hv
      go_enter Tryz.func79, Tryz.ntmps79
      go_wp2_with (go_at_call 62; refine (HC' _).mono ?_; rintro e w1 ⟨rfl, hb⟩; have hcm := (hb.cell (p := ⟨w.heap.size, 1, none⟩) (by simp)))
      go_ret
      exact ⟨by rw [HP.out]; simp <;> omega, ((Below.refl _ _).alloc (Nat.le_refl _) _).trans (hb.mono (by simp))⟩

theorem allows_c (b : Bool) (most : Int) (s : ByteArray) (w : World) (hs : s.size ≤ 281474976710656) (hE : Errs w) : Calls Tryz.prog 79 #[.agg #[.bool b, .int .i64 most], .string s] w fun e w' => e = .returned (.bool (P.pAllowsS b most s)) ∧ Below w.heap.size w w' := by
  cases b
  · exact allows_text most s w hs
  · exact allows_num most s w hs hE
end Go.Proofs.YtdpnpcjbjjjceaaGreatDoor
