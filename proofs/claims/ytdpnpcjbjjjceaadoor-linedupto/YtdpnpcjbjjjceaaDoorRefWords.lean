import Derived.Test.YtdpnpcjbjjjceaaDoorRefWalks
set_option linter.unusedSimpArgs false
set_option linter.unusedVariables false
namespace Go.Proofs.YtdpnpcjbjjjceaaDoor
open Go.RowKit

theorem infoStr : (Tryd.prog.info? 9).map (fun i => (i.zero, i.size, i.bytes)) = some (some (.string ByteArray.empty), 1, 16) := by kernel_rfl

def WordsAre (w : World) (base : Nat) (v : Value) (ws : List (List UInt8)) : Prop :=
  ∃ g cap, v = .slice (some ⟨g, 0, none⟩) ws.length cap ∧ base ≤ g ∧ g < w.heap.size ∧ ws.length ≤ cap ∧ ∀ j b, ws[j]? = some b → w.cell? ⟨g, j, none⟩ = some (.string ⟨b.toArray⟩)
def WordsPost (w : World) (r : Option (List (List UInt8))) (e : Ending) (w' : World) : Prop :=
  (∃ v, e = .returned v ∧ match r with
    | none => v = .slice none 0 0
    | some ws => WordsAre w' w.heap.size v ws) ∧ Below w.heap.size w w'

theorem empty_iff (b : ByteArray) : b.toList.isEmpty = decide (b.size = 0) := by
  rw [Lib.toList_data, ← P.length_list b]
  cases b.data.toList <;> simp

theorem own_block_ge {w : World} {base e size n : Nat} {v : Value} {xs : List Value} (h : w.ownsRow base e size v n xs) : ∀ k, v.ownBlock = some k → base ≤ k := by
  intro k hk
  rcases h.2 with ⟨rfl, _⟩ | ⟨g, cap, cur, rfl, hb, _⟩
  · cases hk
  · cases hk; exact hb

theorem words_of {w : World} {base : Nat} {v : Value} {acc : List ByteArray} (h : w.ownsRow base 9 1 v acc.length (acc.map Value.string)) (hne : acc ≠ []) : WordsAre w base v (acc.map P.toL) := by
  rcases h.2 with ⟨_, h0⟩ | ⟨g, cap, cur, rfl, hb, hh, hc, _, hsz, hcur⟩
  · exact absurd (List.eq_nil_of_length_eq_zero h0) hne
  · have hg : g < w.heap.size := by
      rcases Nat.lt_or_ge g w.heap.size with h' | h'
      · exact h'
      · rw [Array.getElem?_eq_none h'] at hh; cases hh
    refine ⟨g, cap, by simp, hb, hg, by simpa using hc, fun j b hj => ?_⟩
    rw [List.getElem?_map] at hj
    cases hq : acc[j]? with
    | none => rw [hq] at hj; cases hj
    | some x =>
      rw [hq] at hj
      cases hj
      have hjl : j < acc.length := (List.getElem?_eq_some_iff.1 hq).1
      have h1 : cur.toList[j]? = some (.string x) := by
        have := congrArg (fun l => l[j]?) hcur
        simp only [List.getElem?_take, List.getElem?_map, hq] at this
        rw [if_pos (by omega)] at this
        exact this
      have e : (⟨(P.toL x).toArray⟩ : ByteArray) = x := by simp [P.toL]
      rw [e]
      simp only [World.cell?, hh]
      rw [Array.getElem?_toList] at h1
      simpa using h1

set_option maxHeartbeats 4000000 in
theorem rWords_c (s : ByteArray) (w : World) (hs : s.size ≤ 4294967280) : Calls Tryd.prog 14 #[.string s] w (WordsPost w (P.rWords s.data.toList)) := by
  obtain ⟨i0, hi, hz0, hz1, hz2⟩ := info_parts infoStr
  go_enter Tryd.func14, Tryd.ntmps14
  go_wp2_with fail
  go_loopw [3, 4, 5] (fun v c i wr => ∃ (k : Nat) (acc : List ByteArray) (cb : ByteArray), k ≤ s.size + 1 ∧ i = .int .i64 k ∧ c = .string cb ∧ acc.length ≤ k ∧ cb.size ≤ k ∧
      wr.ownsRow w.heap.size 9 1 v acc.length (acc.map Value.string) ∧ Below w.heap.size w wr ∧
      (k ≤ s.size → P.rWords s.data.toList = P.goW (acc.map P.toL) (P.toL cb) (s.data.toList.drop k)) ∧ (k = s.size + 1 → P.rWords s.data.toList = some (acc.map P.toL) ∧ acc ≠ []))
    (fun _ _ i _ => s.size + 1 - (intOf i).toNat)
  case atStart => exact ⟨0, [], ByteArray.empty, by omega, rfl, rfl, by simp, by simp, World.ownsRow_nil _ _ _ _, Below.refl _ _, fun _ => by simp [P.rWords, P.toL], fun h => by omega⟩
  case round =>
    obtain ⟨k, acc, cb, hk, rfl, rfl, hal, hcl, hown, hbel, h1, h2⟩ := hrel
    have H1 : Hid (k ≤ s.size → P.rWords s.data.toList = P.goW (acc.map P.toL) (P.toL cb) (s.data.toList.drop k)) := h1
    have H2 : Hid (k = s.size + 1 → P.rWords s.data.toList = some (acc.map P.toL) ∧ acc ≠ []) := h2
    clear h1 h2
    by_cases hex : k = s.size + 1
    · have kx : ¬ (k : Int) ≤ s.size := by omega
      have HX := H2.out hex
      have HY : Hid (P.rWords s.data.toList = some (acc.map P.toL) ∧ acc ≠ []) := HX
      clear HX hex
      go_wp2
      go_ret
      rw [HY.out.1]
      exact ⟨⟨_, rfl, words_of hown HY.out.2⟩, hbel⟩
    have kle : (k : Int) ≤ s.size := by omega
    have HR := H1.out (by omega)
    have HQ : Hid (P.rWords s.data.toList = P.goW (acc.map P.toL) (P.toL cb) (s.data.toList.drop k)) := HR
    clear HR H1 H2
    by_cases heq : k = s.size
    · subst heq
      by_cases hcb : cb.size = 0
      · have kc : cb.toList.isEmpty = true := by rw [empty_iff]; simpa using hcb
        go_wp2
        go_ret
        rw [HQ.out, P.goW_end_none _ cb s hcb]
        exact ⟨⟨_, rfl, rfl⟩, hbel⟩
      · have kc : cb.toList.isEmpty = false := by rw [empty_iff]; simpa using hcb
        go_wp2_with (at_builtin; refine wpList_append_own _ rfl _ _ 24 rfl w.heap.size 9 i0 (.string ByteArray.empty) 1 16 Tryd.underlying24 hi hz0 hz1 hz2 rfl (by decide) _ _ _ rfl (hown.alloc _) ⟨wr.heap.size, 0, none⟩ 1 1 [.string cb] rfl rfl (cell_one_new _ _ _) ?c2 ?c3 ?c4 ?c5 ?_)
        case c2 => intro u hu; simp at hu; subst hu; rfl
        case c3 => unfold maxLen; omega
        case c4 => omega
        case c5 => have := hbel.size; simp <;> omega
        intro v' w1 hown' hgrow _
        have hb1 : Below w.heap.size w w1 := (hbel.alloc hbel.size _).grown hgrow (by have := hbel.size; simp <;> omega) (own_block_ge hown)
        have HW := hown'
        clear hgrow hown hown'
        go_wp2
        go_roundw
        case rel => exact ⟨s.size + 1, acc ++ [cb], ByteArray.empty, by omega, by go_num, rfl, by simp; omega, by simp, by simpa using HW, hb1, fun h => by omega, fun _ => ⟨by rw [HQ.out]; exact P.goW_end acc cb s hcb, by simp⟩⟩
        case measure => simp [intOf] <;> omega
    have klt : k < s.size := by omega
    have kne : ((k : Int) == s.size) = false := beq_eq_false_iff_ne.2 (by omega)
    by_cases h32 : s[k].toNat = 32
    · have k32 : ((s[k].toNat : Int) == 32) = true := beq_iff_eq.2 (by omega)
      by_cases hcb : cb.size = 0
      · have kc : cb.toList.isEmpty = true := by rw [empty_iff]; simpa using hcb
        go_wp2
        go_ret
        rw [HQ.out, P.goW_blank_none _ cb s k klt h32 hcb]
        exact ⟨⟨_, rfl, rfl⟩, hbel⟩
      · have kc : cb.toList.isEmpty = false := by rw [empty_iff]; simpa using hcb
        go_wp2_with (at_builtin; refine wpList_append_own _ rfl _ _ 24 rfl w.heap.size 9 i0 (.string ByteArray.empty) 1 16 Tryd.underlying24 hi hz0 hz1 hz2 rfl (by decide) _ _ _ rfl (hown.alloc _) ⟨wr.heap.size, 0, none⟩ 1 1 [.string cb] rfl rfl (cell_one_new _ _ _) ?c2 ?c3 ?c4 ?c5 ?_)
        case c2 => intro u hu; simp at hu; subst hu; rfl
        case c3 => unfold maxLen; omega
        case c4 => omega
        case c5 => have := hbel.size; simp <;> omega
        intro v' w1 hown' hgrow _
        have hb1 : Below w.heap.size w w1 := (hbel.alloc hbel.size _).grown hgrow (by have := hbel.size; simp <;> omega) (own_block_ge hown)
        have HW := hown'
        clear hgrow hown hown'
        go_wp2
        go_roundw
        case rel => exact ⟨k + 1, acc ++ [cb], ByteArray.empty, by omega, by go_num, rfl, by simp; omega, by simp, by simpa using HW, hb1, fun _ => by rw [HQ.out]; exact P.goW_blank acc cb s k klt h32 hcb, fun h => by omega⟩
        case measure => simp [intOf] <;> omega
    · have k32 : ((s[k].toNat : Int) == 32) = false := beq_eq_false_iff_ne.2 (by omega)
      by_cases hlo : s[k].toNat < 33
      · have klo : (s[k].toNat : Int) < 33 := by omega
        go_wp2
        go_ret
        rw [HQ.out, P.goW_bad _ cb s k klt h32 (Or.inl hlo)]
        exact ⟨⟨_, rfl, rfl⟩, hbel⟩
      · have klo : ¬ (s[k].toNat : Int) < 33 := by omega
        by_cases hhi : 126 < s[k].toNat
        · have khi : (126 : Int) < s[k].toNat := by omega
          go_wp2
          go_ret
          rw [HQ.out, P.goW_bad _ cb s k klt h32 (Or.inr hhi)]
          exact ⟨⟨_, rfl, rfl⟩, hbel⟩
        · have khi : ¬ (126 : Int) < s[k].toNat := by omega
          go_wp2
          go_roundw
          case rel => exact ⟨k + 1, acc, cb ++ s.extract k (k + 1), by omega, by go_num, rfl, by omega, by rw [ByteArray.size_append, ByteArray.size_extract]; omega, hown, hbel, fun _ => by rw [HQ.out]; exact P.goW_on _ cb s k klt h32 (by omega), fun h => by omega⟩
          case measure => simp [intOf] <;> omega
end Go.Proofs.YtdpnpcjbjjjceaaDoor
