import Derived.Test.YtdpnpcjbjjjceaaDoorRefRead
import Derived.Lib.SliceRun
set_option linter.unusedSimpArgs false
set_option linter.unusedVariables false
namespace Go.Proofs.YtdpnpcjbjjjceaaDoor
open Go.RowKit

theorem rRead_none (s : ByteArray) (w : World) (hs : s.size ≤ 1048576) (h : P.rRead s.data.toList = none) :
    Calls Tryd.prog 8 #[.string s] w fun e w' => e = .returned (.slice none 0 0) ∧ Below w.heap.size w w' :=
  (rRead_c s w hs).mono fun e w' ⟨⟨v, he, hv⟩, hb⟩ => by rw [h] at hv; exact ⟨by rw [he, hv], hb⟩
theorem rRead_some (s : ByteArray) (w : World) (hs : s.size ≤ 1048576) (ws : List (List UInt8)) (h : P.rRead s.data.toList = some ws) :
    Calls Tryd.prog 8 #[.string s] w fun e w' => ∃ g cap, e = .returned (.slice (some ⟨g, 0, none⟩) ws.length cap) ∧ w.heap.size ≤ g ∧ g < w'.heap.size ∧ ws.length ≤ cap ∧
      (∀ j b, ws[j]? = some b → w'.cell? ⟨g, j, none⟩ = some (.string ⟨b.toArray⟩)) ∧ Below w.heap.size w w' :=
  (rRead_c s w hs).mono fun e w' ⟨⟨v, he, hv⟩, hb⟩ => by
    rw [h] at hv
    obtain ⟨g, cap, h1, h2, h3, h4, h5⟩ := hv
    exact ⟨g, cap, by rw [he, h1], h2, h3, h4, h5, hb⟩

theorem rLine_c (s : ByteArray) (w : World) (hs : s.size ≤ 1048576) : Calls Tryd.prog 5 #[.string s] w fun e w' => e = .returned (.string ⟨(P.rLine s.data.toList).toArray⟩) ∧ Below w.heap.size w w' := by
  have q1 : ∀ (w : World) (a : Option Addr) (n c n' c' : Nat), (binOp .eql 24 (.slice a n c) (.slice none n' c')).run Tryd.prog w = .ok (.bool a.isNone) w := fun w a n c n' c' => Lib.run_eql_slice_nil w _ _ a n c n' c' Tryd.underlying24
  cases hr : P.rRead s.data.toList with
  | none =>
    have HC := rRead_none s w hs hr
    have HL : Hid (P.rLine s.data.toList = [98, 97, 100]) := by show _ = _; simp [P.rLine, hr]
    clear hr
    go_enter Tryd.func5, Tryd.ntmps5
    go_wp2_with (go_at_call 8; refine HC.mono ?_; rintro e w1 ⟨rfl, hb⟩)
    go_ret
    exact ⟨by rw [HL.out]; rfl, hb⟩
  | some ws =>
    have hne : ws ≠ [] := by
      unfold P.rRead at hr
      split at hr
      · cases hr
      · rename_i ws' hw
        split at hr
        · cases hr; exact P.rWords_ne hw
        · cases hr
    have HC := rRead_some s w hs ws hr
    obtain ⟨x0, xs, rfl⟩ : ∃ x0 xs, ws = x0 :: xs := by
      cases ws with
      | nil => exact absurd rfl hne
      | cons a b => exact ⟨a, b, rfl⟩
    have HL : Hid (P.rLine s.data.toList = x0) := by show _ = _; simp [P.rLine, hr]
    obtain ⟨n, hn⟩ : ∃ n, n = (x0 :: xs).length := ⟨_, rfl⟩
    have hn1 : 1 ≤ n := by rw [hn]; simp
    rw [← hn] at HC
    clear hr hn hne
    go_enter Tryd.func5, Tryd.ntmps5
    go_wp2_with (go_at_call 8; refine HC.mono ?_; rintro e w1 ⟨g, cap, rfl, hg1, hg2, hcap, hcell, hb⟩; have hc0 := hcell 0 x0 rfl; clear hcell)
    go_ret
    exact ⟨by rw [HL.out]; rfl, hb⟩
end Go.Proofs.YtdpnpcjbjjjceaaDoor
