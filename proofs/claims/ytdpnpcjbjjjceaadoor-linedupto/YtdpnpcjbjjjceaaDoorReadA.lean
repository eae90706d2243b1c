import Derived.Test.YtdpnpcjbjjjceaaDoorWordsWalks
import Derived.Deep.QuietTactic
import Derived.BigQuiet
set_option linter.unusedSimpArgs false
set_option linter.unusedVariables false
namespace Go.Proofs.YtdpnpcjbjjjceaaDoor
open Go.RowKit

theorem splitB_sizes (sep : ByteArray) : ∀ (k : Nat) (s x : ByteArray), x ∈ Lib.splitB sep 0 k s → x.size ≤ s.size
  | 0, s, x, h => by simp [Lib.splitB] at h; rw [h]; exact Nat.le_refl _
  | k + 1, s, x, h => by
    unfold Lib.splitB at h
    split at h
    · simp at h; rw [h]; exact Nat.le_refl _
    · rcases List.mem_cons.1 h with h | h
      · rw [h, ByteArray.size_extract]; omega
      · have := splitB_sizes sep k _ x h
        rw [ByteArray.size_extract] at this; omega
theorem cellsOf_get (L : List ByteArray) (N j : Nat) (x : ByteArray) (h : L[j]? = some x) : (Lib.cellsOf L N)[j]? = some (.string x) := by
  have hj : j < L.length := (List.getElem?_eq_some_iff.1 h).1
  unfold Lib.cellsOf
  rw [List.getElem?_toArray, List.getElem?_append_left (by simpa using hj), List.getElem?_map, h]; rfl

/-- the slice that SplitN gave, in a later world -/
structure Pieces (w0 w : World) (L : List ByteArray) : Prop where
  below : Below w0.heap.size w0 w
  here : w0.heap.size < w.heap.size
  cells : ∀ j x, L[j]? = some x → w.cell? ⟨w0.heap.size, j, none⟩ = some (.string x)
theorem Pieces.later {w0 w w' : World} {L : List ByteArray} (h : Pieces w0 w L) (hb : Below w.heap.size w w') : Pieces w0 w' L :=
  ⟨h.below.trans (hb.mono h.below.size), Nat.lt_of_lt_of_le h.here hb.size, fun j x hj => (hb.cell (p := ⟨w0.heap.size, j, none⟩) h.here).trans (h.cells j x hj)⟩
theorem pieces_new (w : World) (L : List ByteArray) (N : Nat) : Pieces w (w.alloc (.cells (Lib.cellsOf L N) 9)) L :=
  ⟨(Below.refl _ _).alloc (Nat.le_refl _) _, by simp, fun j x hj => cell_alloc_at rfl (cellsOf_get L N j x hj)⟩

/-- the world behind the making of the command's own block -/
abbrev cw (w : World) : World := w.alloc (.cells #[.string ⟨#[]⟩, .slice none 0 0, .slice none 0 0] 27)
theorem cw_below (w : World) : Below w.heap.size w (cw w) := (Below.refl _ _).alloc (Nat.le_refl _) _
theorem cw_size (w : World) : (cw w).heap.size = w.heap.size + 1 := by simp
theorem fr_new (w : World) (c : Array Value) (t : TypeId) (j : Nat) : (w.alloc (.cells c t)).frozen? ⟨w.heap.size, j, none⟩ = false := by
  exact heap_frozen (alloc_at w _ _ rfl) j
structure CwAt (w W : World) : Prop where
  c0 : W.cell? ⟨w.heap.size, 0, none⟩ = some (.string ⟨#[]⟩)
  c1 : W.cell? ⟨w.heap.size, 1, none⟩ = some (.slice none 0 0)
  c2 : W.cell? ⟨w.heap.size, 2, none⟩ = some (.slice none 0 0)
  f0 : W.frozen? ⟨w.heap.size, 0, none⟩ = false
  f1 : W.frozen? ⟨w.heap.size, 1, none⟩ = false
  f2 : W.frozen? ⟨w.heap.size, 2, none⟩ = false
  here : w.heap.size < W.heap.size
theorem cw_at {w W : World} (h : Below (cw w).heap.size (cw w) W) : CwAt w W := by
  have hl : w.heap.size < (cw w).heap.size := by rw [cw_size]; omega
  exact ⟨(h.cell (p := ⟨w.heap.size, 0, none⟩) hl).trans (cell_alloc_at rfl rfl), (h.cell (p := ⟨w.heap.size, 1, none⟩) hl).trans (cell_alloc_at rfl rfl), (h.cell (p := ⟨w.heap.size, 2, none⟩) hl).trans (cell_alloc_at rfl rfl),
    (h.frozen (p := ⟨w.heap.size, 0, none⟩) hl).trans (fr_new w _ _ _), (h.frozen (p := ⟨w.heap.size, 1, none⟩) hl).trans (fr_new w _ _ _), (h.frozen (p := ⟨w.heap.size, 2, none⟩) hl).trans (fr_new w _ _ _), Nat.lt_of_lt_of_le hl h.size⟩

set_option maxHeartbeats 2000000 in
theorem read_unknown (s : ByteArray) (w : World) (hs : s.size ≤ 1048576) (N : Nat) (hN : N = min 12 (s.size + 1)) (x0 : ByteArray) (xs : List ByteArray) (hL : Lib.splitB ⟨#[32]⟩ 0 (N - 1) s = x0 :: xs)
    (hk : pShapeS x0 = none) : Calls Tryd.prog 6 #[.string s] w fun e w' => e = .returned (.tuple #[.agg #[.string ⟨#[]⟩, .slice none 0 0, .slice none 0 0], .bool false]) ∧ Below w.heap.size w w' := by
  have cS := split_c s (cw w) hs N hN
  rw [hL] at cS
  have cH := fun (W : World) => shapeOf_unknown x0 W hk
  have hN12 : N ≤ 12 := by omega
  clear hL hk hN
  obtain ⟨n, hn⟩ : ∃ n, n = (x0 :: xs).length := ⟨_, rfl⟩
  have hn1 : 1 ≤ n := by rw [hn]; simp
  rw [← hn] at cS
  clear hn
  go_enter Tryd.func6, Tryd.ntmps6
  go_wp2_with (first
    | (go_at_call 9; refine cS.mono ?_; rintro e w1 ⟨rfl, hw⟩; have hP := pieces_new (cw w) (x0 :: xs) N; rw [← hw] at hP; clear hw; have hc0 := hP.cells 0 x0 rfl; rw [cw_size] at hc0)
    | (go_at_call 10; refine (cH _).mono ?_; rintro e w2 ⟨rfl, hb2⟩; obtain ⟨c0, c1, c2, f0, f1, f2, hh⟩ := cw_at (hP.later hb2).below))
  go_quiet (fail)
  have hB : Below (cw w).heap.size (cw w) ((w2.alloc (.cells #[.int .i64 0, .slice none 0 0] 34)).drewN nq) := below_drewN ((hP.later hb2).below.alloc (hP.later hb2).below.size _) _
  clear c0 c1 c2 f0 f1 f2 hh hc0
  generalize (w2.alloc (.cells #[.int .i64 0, .slice none 0 0] 34)).drewN nq = W3 at hB ⊢
  obtain ⟨c0, c1, c2, f0, f1, f2, hh⟩ := cw_at hB
  go_wp2
  refine bodyPost_ret (v := .tuple #[.agg #[.string ⟨#[]⟩, .slice none 0 0, .slice none 0 0], .bool false]) (by simp [results, Tryd.results6, go_sem, c0, c1, c2]) rfl ⟨rfl, ?_⟩
  exact (((cw_below w).trans (hB.mono (cw_below w).size)).setCell (p := ⟨w.heap.size, 0, none⟩) (Nat.le_refl _) _).setCell (p := ⟨w.heap.size, 1, none⟩) (Nat.le_refl _) _ |>.setCell (p := ⟨w.heap.size, 2, none⟩) (Nat.le_refl _) _

theorem fits_nil (least n : Nat) (rules : List (Bool × Int)) (a a' : Option Addr) (cap : Nat) (w : World) (hl : least ≤ 10) (hn10 : n ≤ 10) :
    Calls Tryd.prog 11 #[.agg #[.int .i64 least, .slice a n n], .slice a' 0 cap] w fun e w' => e = .returned (.bool (fitsV least rules [])) ∧ Below w.heap.size w w' := by
  by_cases h1 : 0 < least
  · have k1 : (0 : Int) < least := by omega
    have HF : Hid (fitsV least rules [] = false) := by
      show _ = _
      unfold fitsV; rw [show decide (least ≤ ([] : List ByteArray).length) = false from decide_eq_false (by simp; omega)]; rfl
    go_enter Tryd.func11, Tryd.ntmps11
    go_wp2
    go_ret
    exact ⟨by rw [HF.out]; rfl, (Below.refl _ _).alloc (Nat.le_refl _) _⟩
  · obtain rfl : least = 0 := by omega
    have HF : Hid (fitsV 0 rules [] = true) := by
      show _ = _
      unfold fitsV; cases rules <;> simp [pFits]
    have k2 : ¬ (n : Int) < 0 := by omega
    go_enter Tryd.func11, Tryd.ntmps11
    go_wp2_with fail
    refine wp_loop_rounds 1 ?_
    rw [rounds_succ]
    go_wp2
    go_ret
    exact ⟨by rw [HF.out]; rfl, (Below.refl _ _).alloc (Nat.le_refl _) _⟩

end Go.Proofs.YtdpnpcjbjjjceaaDoor
