import Derived.Test.YtdpnpcjbjjjceaaGreatDoorBPlain
import Derived.Test.YtdpnpcjbjjjceaaGreatDoorBStoreP
import Derived.Test.YtdpnpcjbjjjceaaGreatDoorBPure
set_option linter.unusedSimpArgs false
set_option linter.unusedVariables false
namespace Go.Proofs.YtdpnpcjbjjjceaaGreatDoor.P
open Go.Proofs.YtdpnpcjbjjjceaaGreatDoor
/-- what Read makes of a line, by its pieces -/
def pReadL (l : List UInt8) : Option (List (List UInt8)) :=
  match Lib.splitK [32] 0 (min 12 (l.length + 1) - 1) l with
  | [] => none
  | x0 :: xs => match pShape x0 with
    | none => none
    | some q => if fitsL q.1 q.2 xs then some (x0 :: xs) else none
theorem read_same (l : List UInt8) : pReadL l = rRead l := by
  have hbad : ∀ ws, rGood ws = false → (rWords l = none ∨ rWords l = some ws) → rRead l = none := by
    intro ws hg hw
    unfold rRead
    rcases hw with h | h
    · rw [h]
    · rw [h]; simp [hg]
  have hw := rWords_fs l
  have hlen := fs_len l []
  by_cases hM : (fs [] l).length ≤ 12
  · have hk : (fs [] l).length ≤ (min 12 (l.length + 1) - 1) + 1 := by omega
    unfold pReadL
    rw [split_fs _ l hk]
    obtain ⟨x0, xs, hF⟩ : ∃ x0 xs, fs [] l = x0 :: xs := by
      obtain ⟨t, rest, h⟩ := fs_head l []
      exact ⟨_, _, h⟩
    rw [hF] at hw ⊢
    simp only
    cases hs : pShape x0 with
    | none =>
      simp only
      refine (hbad (x0 :: xs) (good_q x0 xs (shape_none x0 hs)) ?_).symm
      rw [hw]; split
      · exact Or.inr rfl
      · exact Or.inl rfl
    | some q =>
      obtain ⟨least, rules⟩ := q
      simp only
      rw [shape_same x0 xs least rules hs]
      unfold rRead
      rw [hw]
      cases hc : (x0 :: xs).all clean with
      | false => simp
      | true => cases hg : rGood (x0 :: xs) <;> simp [hg]
  · have hk : (min 12 (l.length + 1) - 1) + 1 < (fs [] l).length := by omega
    have h12 : min 12 (l.length + 1) - 1 = 11 := by omega
    have hL := split_long _ l hk
    rw [h12] at hL
    unfold pReadL
    rw [h12]
    have hr : rRead l = none := by
      obtain ⟨x0, xs, hF⟩ : ∃ x0 xs, fs [] l = x0 :: xs := by
        obtain ⟨t, rest, h⟩ := fs_head l []
        exact ⟨_, _, h⟩
      refine hbad (x0 :: xs) (good_len x0 xs ?_) ?_
      · have := sig_le x0 xs
        rw [hF] at hM
        simp only [List.length_cons] at hM
        omega
      · rw [hw, hF]; split
        · exact Or.inr rfl
        · exact Or.inl rfl
    rw [hr]
    split
    · rfl
    · rename_i x0 xs hx
      rw [hx] at hL
      simp only [List.length_cons] at hL
      cases hs : pShape x0 with
      | none => rfl
      | some q =>
        obtain ⟨least, rules⟩ := q
        have := (pShape_small hs).2
        simp only
        unfold fitsL
        rw [decide_eq_false (show ¬ xs.length ≤ rules.length by omega)]
        simp
theorem allows_num {m : Int} {w : List UInt8} (h : pAllows true m w = true) : pNum w = some (M.num w) := by
  unfold pAllows at h
  simp only [if_true] at h
  cases hp : pNum w with
  | none => rw [hp] at h; cases h
  | some n =>
    by_cases hl : 10 ≤ w.length
    · rw [pNum_long w hl] at hp; cases hp
    by_cases hz : 1 < w.length ∧ w.head? = some 48
    · rw [pNum_none_lead w hz] at hp; cases hp
    by_cases he : w = []
    · subst he
      have h0 : pNum [] = none := by decide
      rw [h0] at hp; cases hp
    rw [pNum_short w he (by omega) hz] at hp
    unfold M.num
    rw [hp]; rfl
end Go.Proofs.YtdpnpcjbjjjceaaGreatDoor.P

namespace Go.Proofs.YtdpnpcjbjjjceaaGreatDoor.S
open Go.RowKit Go.Proofs.YtdpnpcjbjjjceaaGreatDoor
def mkB (l : M.Bytes) : ByteArray := ⟨l.toArray⟩
def tL : List (Bool × Int) → List M.Bytes → List M.Bytes
  | (b, _) :: r, x :: xs => if b then tL r xs else x :: tL r xs
  | _, _ => []
def nL : List (Bool × Int) → List M.Bytes → List Nat
  | (b, _) :: r, x :: xs => if b then M.num x :: nL r xs else nL r xs
  | _, _ => []
theorem texts_mk : ∀ (rules : List (Bool × Int)) (xs : List M.Bytes), pTexts rules (xs.map mkB) = (tL rules xs).map mkB
  | [], _ => by unfold pTexts tL; rfl
  | (_, _) :: _, [] => rfl
  | (b, m) :: r, x :: xs => by
    rw [List.map_cons]
    unfold pTexts tL
    cases b
    · simp only [Bool.false_eq_true, if_false, List.map_cons, texts_mk r xs]
    · simp only [if_true, texts_mk r xs]
theorem nums_mk : ∀ (rules : List (Bool × Int)) (xs : List M.Bytes), P.pFitsL rules xs = true → pNums rules (xs.map mkB) = nL rules xs
  | [], _, _ => by unfold pNums nL; rfl
  | (_, _) :: _, [], _ => rfl
  | (b, m) :: r, x :: xs, h => by
    unfold P.pFitsL at h
    rw [Bool.and_eq_true] at h
    rw [List.map_cons]
    unfold pNums nL
    cases b
    · simp only [Bool.false_eq_true, if_false, nums_mk r xs h.2]
    · simp only [if_true, nums_mk r xs h.2]
      rw [show P.pNumS (mkB x) = P.pNum x from rfl, P.allows_num h.1]; rfl

/-- v is the command that these words are -/
def CmdW (base : Nat) (W : World) (ws : List M.Bytes) (v : Value) : Prop :=
  ∃ least rules, pShape (M.word ws 0) = some (least, rules) ∧ P.fitsL least rules ws.tail = true ∧ P.rGood ws = true ∧
    ∃ tv nv, v = .agg #[str (M.word ws 0), tv, nv] ∧ W.ownsRow base 9 1 tv (tL rules ws.tail).length ((tL rules ws.tail).map str) ∧ W.ownsRow base 3 1 nv (nL rules ws.tail).length ((nL rules ws.tail).map int)

theorem pieces_mk (s : ByteArray) : ∀ (l : List ByteArray), (l.map P.toL).map mkB = l
  | [] => rfl
  | x :: r => by rw [List.map_cons, List.map_cons, pieces_mk s r]; rfl
theorem read_c (s : ByteArray) (w : World) (hs : s.size ≤ 1048576) (hE : Errs w) : Calls Tryz.prog 46 #[.string s] w fun e w' =>
    (match P.rRead s.data.toList with
    | none => e = .returned noCommand
    | some ws => ∃ v, e = .returned (.tuple #[v, .bool true]) ∧ CmdW w.heap.size w' ws v) ∧ Below w.heap.size w w' := by
  obtain ⟨x0, xs, hL⟩ := pieces_cons s
  have hp := pieces_list s
  rw [hL, List.map_cons] at hp
  rw [← P.read_same]
  unfold P.pReadL
  rw [← hp]
  cases hk : pShapeS x0 with
  | none =>
    simp only [show pShape (P.toL x0) = none from hk]
    exact read_unknown s w hs _ rfl x0 xs hL hk
  | some q =>
    obtain ⟨least, rules⟩ := q
    simp only [show pShape (P.toL x0) = some (least, rules) from hk]
    rw [← fitsV_list]
    cases hf : fitsV least rules xs with
    | false => exact (read_known s w hs hE _ rfl x0 xs hL least rules hk false hf).mono fun e w' h => h
    | true =>
      refine (read_known s w hs hE _ rfl x0 xs hL least rules hk true hf).mono ?_
      rintro e w' ⟨⟨v, he, tv, nv, hv, h1, h2⟩, hb⟩
      refine ⟨⟨v, he, least, rules, hk, ?_, ?_, tv, nv, ?_, ?_, ?_⟩, hb⟩
      · rw [fitsV_list] at hf; exact hf
      · have h3 := P.shape_same (P.toL x0) (xs.map P.toL) least rules hk
        rw [← fitsV_list, hf] at h3
        have h4 := h3.symm
        rw [Bool.and_eq_true] at h4
        exact h4.2
      · rw [hv]; rfl
      · have e1 : pTexts rules xs = (tL rules (xs.map P.toL)).map mkB := by rw [← texts_mk, pieces_mk s]
        rw [e1] at h1
        simp only [List.length_map, List.map_map] at h1
        exact h1
      · have h5 : P.pFitsL rules (xs.map P.toL) = true := by
          rw [fitsV_list] at hf
          unfold P.fitsL at hf
          simp only [Bool.and_eq_true] at hf
          exact hf.2
        have e1 : pNums rules xs = nL rules (xs.map P.toL) := by rw [← nums_mk _ _ h5, pieces_mk s]
        rw [e1] at h2
        exact h2
end Go.Proofs.YtdpnpcjbjjjceaaGreatDoor.S
