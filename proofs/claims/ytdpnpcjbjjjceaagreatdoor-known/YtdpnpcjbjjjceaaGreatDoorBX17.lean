import Derived.Lib.IndexLaws
import Derived.Test.YtdpnpcjbjjjceaaGreatDoorBX6
set_option linter.unusedSimpArgs false
set_option linter.unusedVariables false
namespace Go.Proofs.YtdpnpcjbjjjceaaGreatDoor.S
open Go.RowKit Go.Maps Go.MuLone Go.Proofs.YtdpnpcjbjjjceaaGreatDoor

theorem rRead_len {line : M.Bytes} {ws : List M.Bytes} (h : P.rRead line = some ws) : ws.length ≤ line.length + 1 := by
  unfold P.rRead at h
  rw [P.rWords_fs] at h
  have hl := P.fs_len line []
  by_cases hc : (P.fs [] line).all P.clean = true
  · simp only [hc, if_true] at h
    split at h
    · cases h; exact hl
    · cases h
  · simp only [hc] at h
    cases h
theorem KAt.own_lt {X : Cx} {w : World} {n : Nat} {y : M.Sys} {c : M.Conn} {rv : Value} (h : KAt X w n y c rv) {t : Nat} (hown : c.owner = some t) : t < X.N := by
  obtain ⟨sv, wt, nv, tv, iv, av, hc⟩ := h.conn
  rcases hc.owner with ⟨h1, _⟩ | ⟨u, hu, h1, _⟩
  · rw [hown] at h1; cases h1
  · rw [hown] at h1; cases h1; exact hu
theorem name_of_read {line : M.Bytes} {ws : List M.Bytes} (h : P.rRead line = some ws) : M.word ws 0 = [115, 101, 116] ∨ M.word ws 0 = [97, 100, 100] ∨ M.word ws 0 = [114, 101, 112, 108, 97, 99, 101] ∨ M.word ws 0 = [99, 97, 115] ∨ M.word ws 0 = [103, 101, 116] ∨ M.word ws 0 = [115, 116, 97, 116, 115] ∨ M.word ws 0 = [100, 101, 108, 101, 116, 101] ∨ M.word ws 0 = [116, 111, 117, 99, 104] ∨ M.word ws 0 = [105, 110, 99, 114] ∨ M.word ws 0 = [97, 117, 116, 104] ∨ M.word ws 0 = [113, 117, 105, 116] := by
  rw [← P.read_same] at h
  unfold P.pReadL at h
  split at h
  · cases h
  · rename_i x0 xs hx
    cases hs : pShape x0 with
    | none => rw [hs] at h; cases h
    | some q =>
      rw [hs] at h
      simp only at h
      split at h
      · cases h
        have h1 : pShape (M.word (x0 :: xs) 0) = some q := hs
        generalize M.word (x0 :: xs) 0 = l at h1 ⊢
        unfold pShape at h1
        by_cases e1 : l = [97, 117, 116, 104]
        · simp [e1]
        by_cases e2 : l = [113, 117, 105, 116]
        · simp [e2]
        by_cases e3 : l = [115, 116, 97, 116, 115]
        · simp [e3]
        by_cases e4 : l = [103, 101, 116]
        · simp [e4]
        by_cases e5 : l = [115, 101, 116]
        · simp [e5]
        by_cases e6 : l = [97, 100, 100]
        · simp [e6]
        by_cases e7 : l = [114, 101, 112, 108, 97, 99, 101]
        · simp [e7]
        by_cases e8 : l = [99, 97, 115]
        · simp [e8]
        by_cases e9 : l = [100, 101, 108, 101, 116, 101]
        · simp [e9]
        by_cases e10 : l = [105, 110, 99, 114]
        · simp [e10]
        by_cases e11 : l = [116, 111, 117, 99, 104]
        · simp [e11]
        rw [if_neg e1, if_neg e2, if_neg e3, if_neg e4, if_neg e5, if_neg e6, if_neg e7, if_neg e8, if_neg e9, if_neg e10, if_neg e11] at h1
        cases h1
      · cases h
/-- a line is done -/
theorem doLine_c {X : Cx} {w : World} {n : Nat} {y : M.Sys} {c : M.Conn} {rv : Value} (h : KAt X w n y c rv) (hG : Glob w) (hn : n + 10 ≤ 10000000000) (ho : c.out.length ≤ 35184372088832) (line : M.Bytes) (hl : line.length ≤ 1000) :
    Calls Tryz.prog 118 #[.pointer (some ⟨X.cb, 0, none⟩), .string ⟨line.toArray⟩] w fun e w' => e = .returned (.tuple #[]) ∧ KPost X w (n + line.length + 1) (M.doLine y c line) rv w' := by
  have hL : (ByteArray.mk line.toArray).size ≤ 1000 := by rw [str_size]; exact hl
  cases hr : P.rRead line with
  | none =>
    cases hown : c.owner with
    | none =>
      have e : M.doLine y c line = (y, M.say c [69, 82, 82, 79, 82, 32, 97, 117, 116, 104]) := by unfold M.doLine; rw [hr, hown]
      rw [e]
      exact (line_none h hG ho line hl hr _ (Or.inl ⟨hown, rfl⟩)).mono fun _ _ ⟨a, b⟩ => ⟨a, b.more (by omega)⟩
    | some t =>
      have e : M.doLine y c line = (y, M.say c [69, 82, 82, 79, 82, 32, 98, 97, 100]) := by unfold M.doLine; rw [hr, hown]
      rw [e]
      exact (line_none h hG ho line hl hr _ (Or.inr ⟨⟨t, hown⟩, rfl⟩)).mono fun _ _ ⟨a, b⟩ => ⟨a, b.more (by omega)⟩
  | some ws =>
    have hrd := rdc_of line ws hl hr
    have hlen := rRead_len hr
    by_cases ha : M.word ws 0 = [97, 117, 116, 104]
    · have e : M.doLine y c line = authed y c (M.word ws 1) (M.word ws 2) := by
        unfold M.doLine authed; rw [hr]
        cases hown : c.owner <;> (simp only [if_pos ha]; try rfl)
      rw [e]
      exact (line_auth h hG ho _ hL ws hrd ha).mono fun _ _ ⟨a, b⟩ => ⟨a, b.more (by omega)⟩
    by_cases hq : M.word ws 0 = [113, 117, 105, 116]
    · have e : M.doLine y c line = (y, { c with want := .quit }) := by
        unfold M.doLine; rw [hr]
        cases hown : c.owner <;> simp only [if_neg ha, if_pos hq]
      rw [e]
      exact (line_quit h hG _ hL ws hrd hq).mono fun _ _ ⟨a, b⟩ => ⟨a, b.more (by omega)⟩
    have hnm := name_of_read hr
    cases hown : c.owner with
    | none =>
      have e : M.doLine y c line = (y, M.say c [69, 82, 82, 79, 82, 32, 97, 117, 116, 104]) := by
        unfold M.doLine; rw [hr, hown]
        simp only [if_neg ha, if_neg hq]
      rw [e]
      refine (line_nobody h hG ho _ hL ws hrd hown _ rfl ?_).mono fun _ _ ⟨a, b⟩ => ⟨a, b.more (by omega)⟩
      rcases hnm with k | k | k | k | k | k | k | k | k | k | k
      all_goals first
        | (exact absurd k ha)
        | (exact absurd k hq)
        | (simp [k]; done)
    | some t =>
      have ht := h.own_lt hown
      cases hv : M.wantsValue ws with
      | true =>
        have e : M.doLine y c line = (y, { c with want := .value ws }) := by
          unfold M.doLine; rw [hr, hown]
          simp only [if_neg ha, if_neg hq, hv, if_true]
        rw [e]
        refine (line_value h hG _ hL ws hrd hown _ rfl ?_).mono fun _ _ ⟨a, b⟩ => ⟨a, b.more (by omega)⟩
        unfold M.wantsValue at hv
        simp only [Bool.or_eq_true, decide_eq_true_eq] at hv
        rcases hv with ((k | k) | k) | k <;> simp [k]
      | false =>
        have e : M.doLine y c line = (M.setAt y t (M.other y.clock (M.storeAt y t) ws).2, M.say c (M.other y.clock (M.storeAt y t) ws).1) := by
          unfold M.doLine; rw [hr, hown]
          simp only [if_neg ha, if_neg hq, hv]
          rfl
        rw [e]
        refine (line_once h hG hn ho _ hL ws hrd ht hown _ rfl ?_).mono fun _ _ ⟨a, b⟩ => ⟨a, b.more (by omega)⟩
        unfold M.wantsValue at hv
        simp only [Bool.or_eq_false_iff, decide_eq_false_iff_not] at hv
        rcases hnm with k | k | k | k | k | k | k | k | k | k | k
        all_goals first
          | (exact absurd k ha)
          | (exact absurd k hq)
          | (exact absurd k hv.1.1.1)
          | (exact absurd k hv.1.1.2)
          | (exact absurd k hv.1.2)
          | (exact absurd k hv.2)
          | (simp [k]; done)

/-- where a newline is -/
theorem idx_nl : ∀ (l : M.Bytes), Lib.indexByte l 10 = match M.nl l with | some i => (i : Int) | none => -1
  | [] => rfl
  | b :: l => by
    have ih := idx_nl l
    unfold Lib.indexByte M.nl
    rw [List.findIdx?_cons]
    by_cases hb : b = 10
    · simp [hb]
    · have h1 : (b == 10) = false := by simpa using hb
      rw [h1]
      simp only [hb, decide_false, Bool.false_eq_true, if_false, ih]
      unfold M.nl
      cases hf : List.findIdx? (fun b => decide (b = 10)) l with
      | none => simp
      | some i =>
        simp
theorem nl_take {T : M.Bytes} {k : Nat} : M.nl (T.take k) = match M.nl T with | some i => if i < k then some i else none | none => none := by
  cases hn : M.nl T with
  | none =>
    unfold M.nl at hn ⊢
    simp only
    rw [List.findIdx?_eq_none_iff] at hn ⊢
    intro x hx
    exact hn x (List.mem_of_mem_take hx)
  | some i =>
    unfold M.nl at hn ⊢
    simp only
    rw [List.findIdx?_eq_some_iff_getElem] at hn
    obtain ⟨h1, h2, h3⟩ := hn
    by_cases hi : i < k
    · rw [if_pos hi, List.findIdx?_eq_some_iff_getElem]
      refine ⟨by rw [List.length_take]; omega, by rw [List.getElem_take]; exact h2, fun j hj => by rw [List.getElem_take]; exact h3 j hj⟩
    · rw [if_neg hi, List.findIdx?_eq_none_iff]
      intro x hx
      obtain ⟨j, hj, rfl⟩ := List.mem_iff_getElem.1 hx
      rw [List.length_take] at hj
      rw [List.getElem_take]
      have := h3 j (by omega)
      simpa using this
theorem trim_same (l : M.Bytes) : Lib.trimSuffix l [13] = M.trim l := by
  unfold Lib.trimSuffix M.trim Lib.hasSuffix
  by_cases h : l.getLast? = some 13
  · rw [if_pos h]
    obtain ⟨ys, rfl⟩ := List.getLast?_eq_some_iff.1 h
    rw [if_pos (List.isSuffixOf_iff_suffix.2 ⟨ys, rfl⟩)]
    simp
  · rw [if_neg h, if_neg]
    intro hs
    obtain ⟨ys, hy⟩ := List.isSuffixOf_iff_suffix.1 hs
    exact h (by rw [← hy]; simp)
theorem trim_len (l : M.Bytes) : (M.trim l).length ≤ l.length := by
  unfold M.trim
  split
  · rw [List.length_dropLast]; omega
  · exact Nat.le_refl _
end Go.Proofs.YtdpnpcjbjjjceaaGreatDoor.S
