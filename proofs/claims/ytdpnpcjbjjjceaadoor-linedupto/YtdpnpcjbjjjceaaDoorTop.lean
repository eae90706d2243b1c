import Derived.Test.YtdpnpcjbjjjceaaDoorPure2
import Derived.Test.YtdpnpcjbjjjceaaDoorRefLine
set_option linter.unusedSimpArgs false
set_option linter.unusedVariables false
namespace Go.Proofs.YtdpnpcjbjjjceaaDoor
open Go.RowKit

def badS : ByteArray := ⟨#[98, 97, 100]⟩
def piecesOf (s : ByteArray) : List ByteArray := Lib.splitB ⟨#[32]⟩ 0 (min 12 (s.size + 1) - 1) s
def pLineS (s : ByteArray) : ByteArray := ⟨(P.pLineL s.data.toList).toArray⟩

theorem pieces_list (s : ByteArray) : (piecesOf s).map P.toL = Lib.splitK [32] 0 (min 12 (s.data.toList.length + 1) - 1) s.data.toList := by
  unfold piecesOf
  have := Lib.splitB_data ⟨#[32]⟩ 0 (min 12 (s.size + 1) - 1) s
  rw [P.length_list]
  exact this
theorem pieces_cons (s : ByteArray) : ∃ x0 xs, piecesOf s = x0 :: xs := by
  unfold piecesOf Lib.splitB
  split
  · exact ⟨_, _, rfl⟩
  · split <;> exact ⟨_, _, rfl⟩
theorem fitsV_list (least : Nat) (rules : List (Bool × Int)) (xs : List ByteArray) : fitsV least rules xs = P.fitsL least rules (xs.map P.toL) := by
  unfold fitsV P.fitsL
  rw [P.pFits_list, List.length_map]
theorem pLine_none (s x0 : ByteArray) (xs : List ByteArray) (h : piecesOf s = x0 :: xs) (hk : pShapeS x0 = none) : pLineS s = badS := by
  have e := pieces_list s
  rw [h, List.map_cons] at e
  unfold pLineS P.pLineL
  rw [← e]
  simp only [show pShape (P.toL x0) = none from hk]
  rfl
theorem pLine_bad (s x0 : ByteArray) (xs : List ByteArray) (h : piecesOf s = x0 :: xs) (least : Nat) (rules : List (Bool × Int)) (hk : pShapeS x0 = some (least, rules)) (hf : fitsV least rules xs = false) : pLineS s = badS := by
  have e := pieces_list s
  rw [h, List.map_cons] at e
  unfold pLineS P.pLineL
  rw [← e]
  simp only [show pShape (P.toL x0) = some (least, rules) from hk]
  rw [← fitsV_list, hf]
  rfl
theorem pLine_good (s x0 : ByteArray) (xs : List ByteArray) (h : piecesOf s = x0 :: xs) (least : Nat) (rules : List (Bool × Int)) (hk : pShapeS x0 = some (least, rules)) (hf : fitsV least rules xs = true) : pLineS s = x0 := by
  have e := pieces_list s
  rw [h, List.map_cons] at e
  unfold pLineS P.pLineL
  rw [← e]
  simp only [show pShape (P.toL x0) = some (least, rules) from hk]
  rw [← fitsV_list, hf]
  exact P.mk_toL x0

theorem clone_c (s : ByteArray) (w : World) (hs : s.size ≤ 281474976710656) : Calls Tryd.prog 7 #[.string s] w fun e w' => e = .returned (.string s) ∧ Below w.heap.size w w' := by
  go_enter Tryd.func7, Tryd.ntmps7
  go_wp2_with (go_at_call 13; refine (Tryd.stringslite_Clone s _ hs).mono ?_; rintro e w1 ⟨rfl, hb⟩)
  go_ret
  exact ⟨rfl, hb⟩

theorem line_bad (s : ByteArray) (w : World) (hp : pLineS s = badS) (hc : Calls Tryd.prog 6 #[.string s] w fun e w' => e = .returned noCommand ∧ Below w.heap.size w w') :
    Calls Tryd.prog 4 #[.string s] w fun e w' => e = .returned (.string (pLineS s)) ∧ Below w.heap.size w w' := by
  rw [hp]
  clear hp
  unfold noCommand at hc
  go_enter Tryd.func4, Tryd.ntmps4
  go_wp2_with (go_at_call 6; refine hc.mono ?_; rintro e w1 ⟨rfl, hb⟩)
  go_ret
  exact ⟨rfl, hb.alloc hb.size _⟩
theorem line_good (s x0 : ByteArray) (w : World) (hx : x0.size ≤ 281474976710656) (hp : pLineS s = x0) (hc : Calls Tryd.prog 6 #[.string s] w fun e w' => ∃ ta tn tc na nn nc, e = .returned (.tuple #[.agg #[.string x0, .slice ta tn tc, .slice na nn nc], .bool true]) ∧ Below w.heap.size w w') :
    Calls Tryd.prog 4 #[.string s] w fun e w' => e = .returned (.string (pLineS s)) ∧ Below w.heap.size w w' := by
  rw [hp]
  clear hp
  go_enter Tryd.func4, Tryd.ntmps4
  go_wp2_with (first
    | (go_at_call 6; refine hc.mono ?_; rintro e w1 ⟨ta, tn, tc, na, nn, nc, rfl, hb⟩)
    | (go_at_call 7; refine (clone_c x0 _ hx).mono ?_; rintro e w2 ⟨rfl, hb2⟩))
  go_ret
  exact ⟨rfl, (hb.alloc hb.size _).trans (hb2.mono (hb.alloc hb.size _).size)⟩

theorem line_c (s : ByteArray) (w : World) (hs : s.size ≤ 1048576) (hE : Errs w) : Calls Tryd.prog 4 #[.string s] w fun e w' => e = .returned (.string (pLineS s)) ∧ Below w.heap.size w w' := by
  obtain ⟨x0, xs, hL⟩ := pieces_cons s
  have hx0 : x0.size ≤ s.size := splitB_sizes ⟨#[32]⟩ _ s x0 (by have := hL; unfold piecesOf at this; rw [this]; exact List.mem_cons_self)
  cases hk : pShapeS x0 with
  | none => exact line_bad s w (pLine_none s x0 xs hL hk) (read_unknown s w hs _ rfl x0 xs hL hk)
  | some q =>
    obtain ⟨least, rules⟩ := q
    cases hf : fitsV least rules xs with
    | false =>
      refine line_bad s w (pLine_bad s x0 xs hL least rules hk hf) ?_
      exact (read_known s w hs hE _ rfl x0 xs hL least rules hk false hf).mono fun e w' h => h
    | true =>
      exact line_good s x0 w (by omega) (pLine_good s x0 xs hL least rules hk hf) ((read_known s w hs hE _ rfl x0 xs hL least rules hk true hf).mono fun e w' ⟨⟨v, he, tv, nv, hv, h1, h2⟩, hb⟩ => by
        obtain ⟨ta, tn, tc, rfl⟩ := own_is_slice h1
        obtain ⟨na, nn, nc, rfl⟩ := own_is_slice h2
        exact ⟨ta, tn, tc, na, nn, nc, by rw [he, hv], hb⟩)

theorem lined_c (s : ByteArray) (w : World) (hs : s.size ≤ 1048576) (hE : Errs w) : Calls Tryd.prog 3 #[.string s] w fun e w' => e = .returned (.bool true) ∧ Below w.heap.size w w' := by
  have e1 : pLineS s = ⟨(P.rLine s.data.toList).toArray⟩ := by unfold pLineS; rw [P.line_same]
  have c1 := line_c s w hs hE
  have c2 := fun W => rLine_c s W hs
  rw [← e1] at c2
  obtain ⟨r, hr⟩ : ∃ r, r = pLineS s := ⟨_, rfl⟩
  rw [← hr] at c1 c2
  clear e1 hr hE
  go_enter Tryd.func3, Tryd.ntmps3
  go_wp2_with (first
    | (go_at_call 4; refine c1.mono ?_; rintro e w1 ⟨rfl, hb⟩)
    | (go_at_call 5; refine (c2 _).mono ?_; rintro e w2 ⟨rfl, hb2⟩))
  go_ret
  exact ⟨rfl, hb.trans (hb2.mono hb.size)⟩
end Go.Proofs.YtdpnpcjbjjjceaaDoor
