import Derived.Test.YtdpnpcjbjjjceaaDoorRefWords
import Derived.Test.YtdpnpcjbjjjceaaDoorPlain2
import Derived.Deep.QuietTactic
import Derived.BigQuiet
set_option linter.unusedSimpArgs false
set_option linter.unusedVariables false
namespace Go.Proofs.YtdpnpcjbjjjceaaDoor
open Go.RowKit

theorem rWords_none (s : ByteArray) (w : World) (hs : s.size ≤ 4294967280) (h : P.rWords s.data.toList = none) :
    Calls Tryd.prog 14 #[.string s] w fun e w' => e = .returned (.slice none 0 0) ∧ Below w.heap.size w w' :=
  (rWords_c s w hs).mono fun e w' ⟨⟨v, he, hv⟩, hb⟩ => by rw [h] at hv; exact ⟨by rw [he, hv], hb⟩
theorem rWords_some (s : ByteArray) (w : World) (hs : s.size ≤ 4294967280) (ws : List (List UInt8)) (h : P.rWords s.data.toList = some ws) :
    Calls Tryd.prog 14 #[.string s] w fun e w' => ∃ g cap, e = .returned (.slice (some ⟨g, 0, none⟩) ws.length cap) ∧ w.heap.size ≤ g ∧ g < w'.heap.size ∧ ws.length ≤ cap ∧
      (∀ j b, ws[j]? = some b → w'.cell? ⟨g, j, none⟩ = some (.string ⟨b.toArray⟩)) ∧ Below w.heap.size w w' :=
  (rWords_c s w hs).mono fun e w' ⟨⟨v, he, hv⟩, hb⟩ => by
    rw [h] at hv
    obtain ⟨g, cap, h1, h2, h3, h4, h5⟩ := hv
    exact ⟨g, cap, by rw [he, h1], h2, h3, h4, h5, hb⟩

theorem rRead_of_none (s : ByteArray) (w w' : World) (h : P.rWords s.data.toList = none) (hb : Below w.heap.size w w') : WordsPost w (P.rRead s.data.toList) (.returned (.slice none 0 0)) w' := by
  refine ⟨⟨_, rfl, ?_⟩, hb⟩
  simp [P.rRead, h]
theorem rRead_of_bad (s : ByteArray) (w w' : World) (ws : List (List UInt8)) (h : P.rWords s.data.toList = some ws) (hg : P.rGood ws = false) (hb : Below w.heap.size w w') : WordsPost w (P.rRead s.data.toList) (.returned (.slice none 0 0)) w' := by
  refine ⟨⟨_, rfl, ?_⟩, hb⟩
  simp [P.rRead, h, hg]
theorem rRead_of_good (s : ByteArray) (w w' : World) (ws : List (List UInt8)) (g cap : Nat) (h : P.rWords s.data.toList = some ws) (hg : P.rGood ws = true) (hb : Below w.heap.size w w') (h1 : w.heap.size ≤ g) (h2 : g < w'.heap.size) (h3 : ws.length ≤ cap)
    (h4 : ∀ j b, ws[j]? = some b → w'.cell? ⟨g, j, none⟩ = some (.string ⟨b.toArray⟩)) : WordsPost w (P.rRead s.data.toList) (.returned (.slice (some ⟨g, 0, none⟩) ws.length cap)) w' := by
  refine ⟨⟨_, rfl, ?_⟩, hb⟩
  simp only [P.rRead, h, hg]
  exact ⟨g, cap, rfl, h1, h2, h3, h4⟩

def RowAt (w : World) (g : Nat) (ws : List (List UInt8)) : Prop := ∀ j b, ws[j]? = some b → w.cell? ⟨g, j, none⟩ = some (.string ⟨b.toArray⟩)
theorem RowAt.drewN {w : World} {g : Nat} {ws : List (List UInt8)} (h : RowAt w g ws) (n : Nat) : RowAt (w.drewN n) g ws := fun j b hj => h j b hj

set_option maxHeartbeats 8000000 in
theorem rRead_c (s : ByteArray) (w : World) (hs : s.size ≤ 1048576) : Calls Tryd.prog 8 #[.string s] w (WordsPost w (P.rRead s.data.toList)) := by
  cases hr : P.rWords s.data.toList with
  | none =>
    have HR : Hid (P.rWords s.data.toList = none) := hr
    have HC := rWords_none s w (by omega) hr
    clear hr
    go_enter Tryd.func8, Tryd.ntmps8
    go_wp2_with (go_at_call 14; refine HC.mono ?_; rintro e w1 ⟨rfl, hb⟩)
    go_ret
    exact rRead_of_none s w w1 HR.out hb
  | some ws =>
    have HR : Hid (P.rWords s.data.toList = some ws) := hr
    have hne := P.rWords_ne hr
    have HC := rWords_some s w (by omega) ws hr
    clear hr
    obtain ⟨x0, xs, rfl⟩ : ∃ x0 xs, ws = x0 :: xs := by
      cases ws with
      | nil => exact absurd rfl hne
      | cons a b => exact ⟨a, b, rfl⟩
    clear hne
    obtain ⟨n, hn⟩ : ∃ n, n = (x0 :: xs).length := ⟨_, rfl⟩
    have HN : Hid (n = (x0 :: xs).length) := hn
    have hn1 : 1 ≤ n := by rw [hn]; simp
    have hnl : n ≤ s.size + 1 := by rw [hn]; exact P.rWords_len HR.out
    have hnb : ((n : Int) == 0) = false := beq_eq_false_iff_ne.2 (by omega)
    rw [← hn] at HC
    clear hn
    obtain ⟨sb, hsb⟩ : ∃ sb, sb = P.rShapeS ⟨x0.toArray⟩ := ⟨_, rfl⟩
    have cS := fun (W : World) => rShape_c ⟨x0.toArray⟩ W
    rw [← hsb] at cS
    have HS : Hid (sb = P.rShapeS ⟨x0.toArray⟩) := hsb
    clear hsb
    go_enter Tryd.func8, Tryd.ntmps8
    go_wp2_with (go_at_call 14; refine HC.mono ?_; rintro e w1 ⟨g, cap, rfl, hg1, hg2, hcap, hcell, hb⟩)
    have hc0 : w1.cell? ⟨g, 0, none⟩ = some (.string ⟨x0.toArray⟩) := hcell 0 x0 rfl
    have HCELL : Hid (∀ j b, (x0 :: xs)[j]? = some b → w1.cell? ⟨g, j, none⟩ = some (.string ⟨b.toArray⟩)) := hcell
    clear hcell HC
    have hq : P.toL sb = P.rShape x0 := by rw [HS.out]; simp [P.toL, P.rShapeS]
    by_cases h63 : P.rShape x0 = [63]
    · have k63 : (sb.toList == [63]) = true := by rw [Lib.toList_data]; show (P.toL sb == [63]) = true; rw [hq, h63]; rfl
      have HFF : Hid (P.rGood (x0 :: xs) = false) := P.good_q x0 xs h63
      clear hq h63
      go_wp2_with (go_at_call 15; refine (cS _).mono ?_; rintro e w2 ⟨rfl, hw⟩; replace hw := hw.symm; subst hw)
      go_ret
      exact rRead_of_bad s w _ _ HR.out HFF.out hb
    have k63 : (sb.toList == [63]) = false := by rw [Lib.toList_data]; show (P.toL sb == [63]) = false; rw [hq]; simpa using h63
    have HG1 : Hid (¬ P.rShape x0 = [63]) := h63
    by_cases h75 : P.rShape x0 = [75]
    · have k75 : (sb.toList == [75]) = true := by rw [Lib.toList_data]; show (P.toL sb == [75]) = true; rw [hq, h75]; rfl
      have HKK : Hid (P.rShape x0 = [75]) := h75
      clear hq h63 h75
      go_wp2_with (go_at_call 15; refine (cS _).mono ?_; rintro e w2 ⟨rfl, hw⟩; replace hw := hw.symm; subst hw)
      clear cS
      go_loop [4, 5] (fun c i => ∃ (k : Nat) (kb : ByteArray), k + 1 ≤ n ∧ k ≤ 10 ∧ i = .int .i64 (k + 1 : Nat) ∧ c = .string kb ∧ P.toL kb = List.replicate k 107) (fun _ i => 12 - (intOf i).toNat)
      case atStart => exact ⟨0, ByteArray.empty, by omega, by omega, rfl, rfl, rfl⟩
      case round =>
        obtain ⟨k, kb, hkn, hk10, rfl, rfl, hkb⟩ := hrel
        have HKB : Hid (P.toL kb = List.replicate k 107) := hkb
        have hkz : kb.size = k := by rw [← P.length_list kb]; show (P.toL kb).length = k; rw [hkb]; simp
        have HKZ : Hid (kb.size = k) := hkz
        have hkz10 : kb.size ≤ 10 := by omega
        clear hkb hkz
        by_cases hon : k + 1 < n
        · have kon : ((k + 1 : Nat) : Int) < n := by omega
          by_cases hten : k + 1 ≤ 10
          · have kten : ((k + 1 : Nat) : Int) ≤ 10 := by omega
            go_wp2
            go_round
            case rel => exact ⟨k + 1, kb ++ ⟨#[107]⟩, by omega, by omega, by go_num, rfl, P.replicate_snoc k kb HKB.out⟩
            case measure => simp [intOf] <;> omega
          · have kten : ¬ ((k + 1 : Nat) : Int) ≤ 10 := by omega
            have hk10' : k = 10 := by omega
            have HSG : Hid (P.toL kb = P.rSig (x0 :: xs)) := by
              show _ = _
              rw [HKB.out, P.sig_K x0 xs HKK.out]; have := HN.out; simp at this; congr 1; omega
            have HG2 : Hid (P.rShape x0 = [75] → 1 ≤ xs.length) := fun _ => by have := HN.out; simp at this; omega
            have kne : kb.toList.isEmpty = false := by rw [empty_iff]; exact decide_eq_false (by have := HKZ.out; omega)
            clear hk10'
            have hlen : ¬ kb.size + 1 = n := by have := HKZ.out; omega
            have klen : ((kb.size : Int) != (n : Int) - 1) = true := by rw [bne_iff_ne]; omega
            have HFF : Hid (P.rGood (x0 :: xs) = false) := P.good_len x0 xs (by rw [← HSG.out, P.toL, P.length_list]; have := HN.out; simp at this; omega)
            go_wp2
            go_ret
            exact rRead_of_bad s w _ _ HR.out HFF.out hb
        · have kon : ¬ ((k + 1 : Nat) : Int) < n := by omega
          by_cases hz : k = 0
          · have kne : kb.toList.isEmpty = true := by rw [empty_iff]; exact decide_eq_true (by have := HKZ.out; omega)
            have HFF : Hid (P.rGood (x0 :: xs) = false) := P.good_K x0 xs HKK.out (by have := HN.out; simp at this; omega)
            go_wp2
            go_ret
            exact rRead_of_bad s w _ _ HR.out HFF.out hb
          · have HSG : Hid (P.toL kb = P.rSig (x0 :: xs)) := by
              show _ = _
              rw [HKB.out, P.sig_K x0 xs HKK.out]; have := HN.out; simp at this; congr 1; omega
            have HG2 : Hid (P.rShape x0 = [75] → 1 ≤ xs.length) := fun _ => by have := HN.out; simp at this; omega
            have kne : kb.toList.isEmpty = false := by rw [empty_iff]; exact decide_eq_false (by have := HKZ.out; omega)
            by_cases hlen : kb.size + 1 = n
            · have klen : ((kb.size : Int) != (n : Int) - 1) = false := by rw [bne_eq_false_iff_eq]; omega
              have HGF : Hid (P.rGood (x0 :: xs) = P.fitAll (P.rSig (x0 :: xs)) xs) := P.good_fit x0 xs HG1.out HG2.out (by rw [← HSG.out, P.toL, P.length_list]; have := HN.out; simp at this; omega)
              go_wp2_with fail
              go_loopw [6] (fun i wx => ∃ k : Nat, k ≤ kb.size ∧ i = .int .i64 k ∧ RowAt wx g (x0 :: xs) ∧ g < wx.heap.size ∧ Below w.heap.size w wx ∧ P.fitAll (P.rSig (x0 :: xs)) xs = P.fitAll ((P.rSig (x0 :: xs)).drop k) (xs.drop k)) (fun i _ => kb.size - (intOf i).toNat)
              case atStart => exact ⟨0, by omega, rfl, HCELL.out, hg2, hb, by simp⟩
              case round =>
                obtain ⟨k, hk, rfl, hrow, hgx, hbx, hfa⟩ := hrel
                have HFA : Hid (P.fitAll (P.rSig (x0 :: xs)) xs = P.fitAll ((P.rSig (x0 :: xs)).drop k) (xs.drop k)) := hfa
                clear hfa
                by_cases hlt : k < kb.size
                · have klt : (k : Int) < kb.size := by omega
                  have kin : k + 1 < n := by omega
                  obtain ⟨x, hx⟩ : ∃ x, xs[k]? = some x := by
                    have : k < xs.length := by have := HN.out; simp at this; omega
                    exact ⟨_, List.getElem?_eq_getElem this⟩
                  have hck : wr.cell? ⟨g, k + 1, none⟩ = some (.string ⟨x.toArray⟩) := hrow (k + 1) x (by simpa using hx)
                  have HST := P.fitAll_step (P.rSig (x0 :: xs)) xs k kb[k] x (by rw [← HSG.out]; exact P.getElem?_list kb k hlt) hx
                  have hff : P.rFitS kb[k].toNat ⟨x.toArray⟩ = P.rFit kb[k].toNat x := by simp [P.rFitS]
                  rw [← hff] at HST
                  clear hff hx
                  have cF := fun (W : World) => rFits_c kb[k].toNat ⟨x.toArray⟩ W
                  cases hf : P.rFitS kb[k].toNat ⟨x.toArray⟩ with
                  | false =>
                    rw [hf] at HST cF
                    have HFF : Hid (P.rGood (x0 :: xs) = false) := by
                      show _ = _
                      rw [HGF.out, HFA.out, HST]; rfl
                    clear HST hf
                    go_wp2_with fail
                    go_quiet ((go_at_call 16; exact Calls.quiet_of_same (cF _)))
                    go_wp2
                    go_ret
                    exact rRead_of_bad s w _ _ HR.out HFF.out (below_drewN hbx _)
                  | true =>
                    rw [hf] at HST cF
                    have HFF : Hid (P.fitAll (P.rSig (x0 :: xs)) xs = P.fitAll ((P.rSig (x0 :: xs)).drop (k + 1)) (xs.drop (k + 1))) := by
                      show _ = _
                      rw [HFA.out, HST]; simp
                    clear HST hf
                    go_wp2_with fail
                    go_quiet ((go_at_call 16; exact Calls.quiet_of_same (cF _)))
                    go_wp2
                    go_roundw
                    case rel => exact ⟨k + 1, by omega, by go_num, hrow.drewN _, by simpa using hgx, below_drewN hbx _, HFF.out⟩
                    case measure => simp [intOf] <;> omega
                · have klt : ¬ (k : Int) < kb.size := by omega
                  have HFF : Hid (P.rGood (x0 :: xs) = true) := by
                    show _ = _
                    rw [HGF.out, HFA.out]
                    exact P.fitAll_end _ _ _ (by rw [← HSG.out, P.toL, P.length_list]; omega)
                  go_wp2
                  go_ret
                  have := HN.out
                  rw [this]
                  exact rRead_of_good s w _ (x0 :: xs) g cap HR.out HFF.out hbx hg1 hgx (by rw [← this]; exact hcap) hrow
            · have klen : ((kb.size : Int) != (n : Int) - 1) = true := by rw [bne_iff_ne]; omega
              have HFF : Hid (P.rGood (x0 :: xs) = false) := P.good_len x0 xs (by rw [← HSG.out, P.toL, P.length_list]; have := HN.out; simp at this; omega)
              go_wp2
              go_ret
              exact rRead_of_bad s w _ _ HR.out HFF.out hb
    have k75 : (sb.toList == [75]) = false := by rw [Lib.toList_data]; show (P.toL sb == [75]) = false; rw [hq]; simpa using h75
    have HSG : Hid (P.toL sb = P.rSig (x0 :: xs)) := by
      show _ = _
      rw [hq, P.sig_other x0 xs h75]
    have HG2 : Hid (P.rShape x0 = [75] → 1 ≤ xs.length) := fun h => absurd h h75
    clear hq h63 h75
    by_cases hlen : sb.size + 1 = n
    · have klen : ((sb.size : Int) != (n : Int) - 1) = false := by rw [bne_eq_false_iff_eq]; omega
      have HGF : Hid (P.rGood (x0 :: xs) = P.fitAll (P.rSig (x0 :: xs)) xs) := P.good_fit x0 xs HG1.out HG2.out (by rw [← HSG.out, P.toL, P.length_list]; have := HN.out; simp at this; omega)
      go_wp2_with (go_at_call 15; refine (cS _).mono ?_; rintro e w2 ⟨rfl, hw⟩; replace hw := hw.symm; subst hw)
      go_loopw [6] (fun i wx => ∃ k : Nat, k ≤ sb.size ∧ i = .int .i64 k ∧ RowAt wx g (x0 :: xs) ∧ g < wx.heap.size ∧ Below w.heap.size w wx ∧ P.fitAll (P.rSig (x0 :: xs)) xs = P.fitAll ((P.rSig (x0 :: xs)).drop k) (xs.drop k)) (fun i _ => sb.size - (intOf i).toNat)
      case atStart => exact ⟨0, by omega, rfl, HCELL.out, hg2, hb, by simp⟩
      case round =>
        obtain ⟨k, hk, rfl, hrow, hgx, hbx, hfa⟩ := hrel
        have HFA : Hid (P.fitAll (P.rSig (x0 :: xs)) xs = P.fitAll ((P.rSig (x0 :: xs)).drop k) (xs.drop k)) := hfa
        clear hfa
        by_cases hlt : k < sb.size
        · have klt : (k : Int) < sb.size := by omega
          have kin : k + 1 < n := by omega
          obtain ⟨x, hx⟩ : ∃ x, xs[k]? = some x := by
            have : k < xs.length := by have := HN.out; simp at this; omega
            exact ⟨_, List.getElem?_eq_getElem this⟩
          have hck : wr.cell? ⟨g, k + 1, none⟩ = some (.string ⟨x.toArray⟩) := hrow (k + 1) x (by simpa using hx)
          have HST := P.fitAll_step (P.rSig (x0 :: xs)) xs k sb[k] x (by rw [← HSG.out]; exact P.getElem?_list sb k hlt) hx
          have hff : P.rFitS sb[k].toNat ⟨x.toArray⟩ = P.rFit sb[k].toNat x := by simp [P.rFitS]
          rw [← hff] at HST
          clear hff hx
          have cF := fun (W : World) => rFits_c sb[k].toNat ⟨x.toArray⟩ W
          cases hf : P.rFitS sb[k].toNat ⟨x.toArray⟩ with
          | false =>
            rw [hf] at HST cF
            have HFF : Hid (P.rGood (x0 :: xs) = false) := by
              show _ = _
              rw [HGF.out, HFA.out, HST]; rfl
            clear HST hf
            go_wp2_with fail
            go_quiet ((go_at_call 16; exact Calls.quiet_of_same (cF _)))
            go_wp2
            go_ret
            exact rRead_of_bad s w _ _ HR.out HFF.out (below_drewN hbx _)
          | true =>
            rw [hf] at HST cF
            have HFF : Hid (P.fitAll (P.rSig (x0 :: xs)) xs = P.fitAll ((P.rSig (x0 :: xs)).drop (k + 1)) (xs.drop (k + 1))) := by
              show _ = _
              rw [HFA.out, HST]; simp
            clear HST hf
            go_wp2_with fail
            go_quiet ((go_at_call 16; exact Calls.quiet_of_same (cF _)))
            go_wp2
            go_roundw
            case rel => exact ⟨k + 1, by omega, by go_num, hrow.drewN _, by simpa using hgx, below_drewN hbx _, HFF.out⟩
            case measure => simp [intOf] <;> omega
        · have klt : ¬ (k : Int) < sb.size := by omega
          have HFF : Hid (P.rGood (x0 :: xs) = true) := by
            show _ = _
            rw [HGF.out, HFA.out]
            exact P.fitAll_end _ _ _ (by rw [← HSG.out, P.toL, P.length_list]; omega)
          go_wp2
          go_ret
          have := HN.out
          rw [this]
          exact rRead_of_good s w _ (x0 :: xs) g cap HR.out HFF.out hbx hg1 hgx (by rw [← this]; exact hcap) hrow
    · have klen : ((sb.size : Int) != (n : Int) - 1) = true := by rw [bne_iff_ne]; omega
      have HFF : Hid (P.rGood (x0 :: xs) = false) := P.good_len x0 xs (by rw [← HSG.out, P.toL, P.length_list]; have := HN.out; simp at this; omega)
      go_wp2_with (go_at_call 15; refine (cS _).mono ?_; rintro e w2 ⟨rfl, hw⟩; replace hw := hw.symm; subst hw)
      go_ret
      exact rRead_of_bad s w _ _ HR.out HFF.out hb
end Go.Proofs.YtdpnpcjbjjjceaaDoor
