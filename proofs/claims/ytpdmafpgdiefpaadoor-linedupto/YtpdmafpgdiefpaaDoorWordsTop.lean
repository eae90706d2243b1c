import Derived.Test.YtpdmafpgdiefpaaDoorWordsWalks
import Derived.Deep.QuietTactic
import Derived.BigQuiet
namespace Go.Proofs.YtpdmafpgdiefpaaDoor
open Go.RowKit

theorem splitB_sizes (sep : ByteArray) : ∀ (k : Nat) (s x : ByteArray), x ∈ Lib.splitB sep 0 k s → x.size ≤ s.size
  | 0, s, x, h => by simp [Lib.splitB] at h; rw [h]; exact Nat.le_refl _
  | k + 1, s, x, h => by
    unfold Lib.splitB at h
    split at h
    · simp at h; rw [h]; exact Nat.le_refl _
    · rcases List.mem_cons.1 h with h | h
      · rw [h, ByteArray.size_extract]; omega
      · have := splitB_sizes sep k _ x h
        rw [ByteArray.size_extract] at this; omega
theorem cellsOf_get (L : List ByteArray) (N j : Nat) (x : ByteArray) (h : L[j]? = some x) : (Lib.cellsOf L N)[j]? = some (.string x) := by
  have hj : j < L.length := (List.getElem?_eq_some_iff.1 h).1
  unfold Lib.cellsOf
  rw [List.getElem?_toArray, List.getElem?_append_left (by simpa using hj), List.getElem?_map, h]; rfl

/-- the slice that SplitN gave, in a later world -/
structure Pieces (w0 w : World) (L : List ByteArray) : Prop where
  below : Below w0.heap.size w0 w
  here : w0.heap.size < w.heap.size
  cells : ∀ j x, L[j]? = some x → w.cell? ⟨w0.heap.size, j, none⟩ = some (.string x)
theorem Pieces.later {w0 w w' : World} {L : List ByteArray} (h : Pieces w0 w L) (hb : Below w.heap.size w w') : Pieces w0 w' L :=
  ⟨h.below.trans (hb.mono h.below.size), Nat.lt_of_lt_of_le h.here hb.size, fun j x hj => (hb.cell (p := ⟨w0.heap.size, j, none⟩) h.here).trans (h.cells j x hj)⟩
theorem pieces_new (w : World) (L : List ByteArray) (N : Nat) : Pieces w (w.alloc (.cells (Lib.cellsOf L N) 9)) L :=
  ⟨(Below.refl _ _).alloc (Nat.le_refl _) _, by simp, fun j x hj => cell_alloc_at rfl (cellsOf_get L N j x hj)⟩

set_option maxHeartbeats 2000000 in
theorem words_unknown (s : ByteArray) (w : World) (hs : s.size ≤ 1048576) (N : Nat) (hN : N = min 12 (s.size + 1)) (x0 : ByteArray) (xs : List ByteArray) (hL : Lib.splitB ⟨#[32]⟩ 0 (N - 1) s = x0 :: xs)
    (hk : pShapeS x0 = none) : Calls Tryd.prog 6 #[.string s] w fun e w' => e = .returned (.tuple #[.slice none 0 0, .bool false]) ∧ Below w.heap.size w w' := by
  have cS := split_c s w hs N hN
  rw [hL] at cS
  have cH := fun (W : World) => shapeOf_unknown x0 W hk
  have hN12 : N ≤ 12 := by omega
  clear hL hk hN
  obtain ⟨n, hn⟩ : ∃ n, n = (x0 :: xs).length := ⟨_, rfl⟩
  have hn1 : 1 ≤ n := by rw [hn]; simp
  rw [← hn] at cS
  clear hn
  go_enter Tryd.func6, Tryd.ntmps6
  go_wp2_with (first
    | (go_at_call 9; refine cS.mono ?_; rintro e w1 ⟨rfl, hw⟩; have hP := pieces_new w (x0 :: xs) N; rw [← hw] at hP; clear hw; have hc0 := hP.cells 0 x0 rfl)
    | (go_at_call 10; refine (cH _).mono ?_; rintro e w2 ⟨rfl, hb2⟩))
  go_quiet (fail)
  go_wp2
  go_ret2
  exact ⟨rfl, below_drewN ((hP.later hb2).below.alloc (hP.later hb2).below.size _) _⟩

theorem fits_nil (least n : Nat) (rules : List (Bool × Int)) (a a' : Option Addr) (cap : Nat) (w : World) (hl : least ≤ 10) (hn10 : n ≤ 10) :
    Calls Tryd.prog 11 #[.agg #[.int .i64 least, .slice a n n], .slice a' 0 cap] w fun e w' => e = .returned (.bool (fitsV least rules [])) ∧ Below w.heap.size w w' := by
  by_cases h1 : 0 < least
  · have k1 : (0 : Int) < least := by omega
    have HF : Hid (fitsV least rules [] = false) := by
      show _ = _
      unfold fitsV; rw [show decide (least ≤ ([] : List ByteArray).length) = false from decide_eq_false (by simp; omega)]; rfl
    go_enter Tryd.func11, Tryd.ntmps11
    go_wp2
    go_ret
    exact ⟨by rw [HF.out]; rfl, (Below.refl _ _).alloc (Nat.le_refl _) _⟩
  · obtain rfl : least = 0 := by omega
    have HF : Hid (fitsV 0 rules [] = true) := by
      show _ = _
      unfold fitsV; cases rules <;> simp [pFits]
    have k2 : ¬ (n : Int) < 0 := by omega
    go_enter Tryd.func11, Tryd.ntmps11
    go_wp2_with fail
    refine wp_loop_rounds 1 ?_
    rw [rounds_succ]
    go_wp2
    go_ret
    exact ⟨by rw [HF.out]; rfl, (Below.refl _ _).alloc (Nat.le_refl _) _⟩

/-- what Words answers -/
def WordsEnd (w : World) (x0 : ByteArray) (n N : Nat) (ok : Bool) (e : Ending) (w' : World) : Prop :=
  e = .returned (.tuple #[if ok then .slice (some ⟨w.heap.size, 0, none⟩) n N else .slice none 0 0, .bool ok]) ∧ w'.cell? ⟨w.heap.size, 0, none⟩ = some (.string x0) ∧ Below w.heap.size w w'

theorem words_after (w w2 : World) (x0 : ByteArray) (xs : List ByteArray) (hP : Pieces w w2 (x0 :: xs)) {W : World} (hb : Below w2.heap.size w2 W) :
    W.cell? ⟨w.heap.size, 0, none⟩ = some (.string x0) ∧ Below w.heap.size w W :=
  ⟨(hP.later hb).cells 0 x0 rfl, (hP.later hb).below⟩

set_option maxHeartbeats 4000000 in
theorem words_known (s : ByteArray) (w : World) (hs : s.size ≤ 1048576) (hE : Errs w) (N : Nat) (hN : N = min 12 (s.size + 1)) (x0 : ByteArray) (xs : List ByteArray) (hL : Lib.splitB ⟨#[32]⟩ 0 (N - 1) s = x0 :: xs)
    (least : Nat) (rules : List (Bool × Int)) (hk : pShapeS x0 = some (least, rules)) (ok : Bool) (hok : fitsV least rules xs = ok) : Calls Tryd.prog 6 #[.string s] w (WordsEnd w x0 (x0 :: xs).length N ok) := by
  have cS := split_c s w hs N hN
  have hsz : ∀ x ∈ x0 :: xs, x.size ≤ 281474976710656 := fun x hx => by
    have := splitB_sizes ⟨#[32]⟩ (N - 1) s x (by rw [hL]; exact hx)
    omega
  have HSZ : Hid (∀ x ∈ x0 :: xs, x.size ≤ 281474976710656) := hsz
  have hlen := Lib.splitB_length_le ⟨#[32]⟩ 0 (N - 1) s
  rw [hL] at cS hlen
  have cH := fun (W : World) => shapeOf_known x0 W least rules hk
  obtain ⟨hl10, hr10⟩ := pShape_small hk
  have hN12 : N ≤ 12 := by omega
  have hN1 : 1 ≤ N := by omega
  have HE : Hid (Errs w) := hE
  have HOK : Hid (fitsV least rules xs = ok) := hok
  clear hL hk hN hsz hE hok
  obtain ⟨n, hn⟩ : ∃ n, n = (x0 :: xs).length := ⟨_, rfl⟩
  have hn1 : 1 ≤ n := by rw [hn]; simp
  rw [← hn] at cS hlen ⊢
  have HN : Hid (n = (x0 :: xs).length) := hn
  obtain ⟨r, hr⟩ : ∃ r, r = rules.length := ⟨_, rfl⟩
  have HR : Hid (r = rules.length) := hr
  have hr10' : r ≤ 10 := by omega
  have hnN : n ≤ N := by omega
  clear hn hlen hr10
  have cH' : ∀ W, Calls Tryd.prog 10 #[.string x0] W fun e w' => ∃ a : Option Addr, e = .returned (.tuple #[.agg #[.int .i64 least, .slice a r r], .bool true]) ∧
      (rules = [] ∨ ∃ g, a = some ⟨g, 0, none⟩ ∧ w'.heap[g]? = some (.cells (flat rules).toArray 38 (0, 0))) ∧ Below W.heap.size W w' := fun W =>
    (cH W).mono fun e w' ⟨⟨a, he, ha⟩, hb⟩ => ⟨a, by rw [he, hr], ha.imp id (fun ⟨g, h1, _, h3⟩ => ⟨g, h1, h3⟩), hb⟩
  clear cH hr
  go_enter Tryd.func6, Tryd.ntmps6
  go_wp2_with (first
    | (go_at_call 9; refine cS.mono ?_; rintro e w1 ⟨rfl, hw⟩; have hP := pieces_new w (x0 :: xs) N; rw [← hw] at hP; clear hw; have hc0 := hP.cells 0 x0 rfl)
    | (go_at_call 10; refine (cH' _).mono ?_; rintro e w2 ⟨a, rfl, ha, hb2⟩))
  have hP2 := hP.later hb2
  have cF : ∀ (W : World) (a' : Option Addr) (q o c : Nat), Below (w2.heap.size) w2 W → (n - 1 = 0 ∨ a' = some ⟨w.heap.size, 1, none⟩) → Calls Tryd.prog 11 #[.agg #[.int .i64 least, .slice a r r], .slice a' (n - 1) c] W fun e w' => e = .returned (.bool ok) ∧ Below W.heap.size W w' := by
    intro W a' q o c hbW ha'
    rw [← HOK.out]
    by_cases h0 : n - 1 = 0
    · have hx : xs = [] := List.eq_nil_of_length_eq_zero (by have := HN.out; simp at this; omega)
      rw [h0, hx]
      exact fits_nil least r rules a a' c W hl10 hr10'
    · obtain rfl : a' = some ⟨w.heap.size, 1, none⟩ := ha'.resolve_left h0
      refine fits_c least r rules xs a w.heap.size 1 c W HR.out.symm hr10' ?_ ((hP2.later hbW).here) ?_ hl10 (HE.out.below (hP2.later hbW).below) (n - 1) (by have := HN.out; simp at this; omega) (by omega)
      · rcases ha with h | ⟨g, h1, h2⟩
        · exact Or.inl h
        · exact Or.inr ⟨g, h1, (hbW.block g (Array.getElem?_eq_some_iff.1 h2).1).trans h2⟩
      · intro j x hj
        refine ⟨?_, HSZ.out x (List.mem_cons_of_mem _ (List.mem_of_getElem? hj))⟩
        rw [Nat.add_comm]
        exact (hP2.later hbW).cells (j + 1) x (by simpa using hj)
  clear hP hb2 hc0 cS cH' ha
  have HP2 : Hid (Pieces w w2 (x0 :: xs)) := hP2
  clear hP2
  by_cases hNone : N = 1
  · obtain rfl : n = 1 := by omega
    subst hNone
    have cF1 : ∀ W : World, Below w2.heap.size w2 W → Calls Tryd.prog 11 #[.agg #[.int .i64 least, .slice a r r], .slice (some ⟨w.heap.size, 0, none⟩) 0 0] W fun e w' => e = .returned (.bool ok) ∧ Below W.heap.size W w' := fun W hb => cF W _ 0 0 0 hb (Or.inl rfl)
    clear cF
    cases ok
    all_goals
      go_region_with (go_at_call 11; refine (cF1 _ (by exact ((Below.refl _ _).alloc (Nat.le_refl _) _).drew)).mono ?_; rintro e w3 ⟨rfl, hb3⟩)
      all_goals go_wp2
      all_goals go_ret2
      all_goals exact ⟨rfl, words_after w w2 x0 xs HP2.out (((Below.refl _ _).alloc (Nat.le_refl _) _).drew.trans (hb3.mono (by simp)))⟩
  have kN : (1 : Int) < N := by omega
  have kN' : 1 < N := by omega
  have kn : (1 : Int) ≤ n := by omega
  have cF1 : ∀ W : World, Below w2.heap.size w2 W → Calls Tryd.prog 11 #[.agg #[.int .i64 least, .slice a r r], .slice (some ⟨w.heap.size, 1, none⟩) (n - 1) (N - 1)] W fun e w' => e = .returned (.bool ok) ∧ Below W.heap.size W w' := fun W hb => cF W _ 0 0 _ hb (Or.inr rfl)
  clear cF
  cases ok
  all_goals
    go_region_with (go_at_call 11; refine (cF1 _ (by exact ((Below.refl _ _).alloc (Nat.le_refl _) _).drew)).mono ?_; rintro e w3 ⟨rfl, hb3⟩)
    all_goals go_wp2
    all_goals go_ret2
    all_goals exact ⟨rfl, words_after w w2 x0 xs HP2.out (((Below.refl _ _).alloc (Nat.le_refl _) _).drew.trans (hb3.mono (by simp)))⟩
end Go.Proofs.YtpdmafpgdiefpaaDoor
