import Derived.Test.YtpdmafpgdiefpaaPOpen
namespace Go.Proofs.Ytpdmafpgdiefpaa
open Go.RowKit Go.Builtin

/-- the pair in block p: the program's server in g, the reference's in r -/
def pairAt (w : World) (p g r : Nat) : Prop := w.heap[p]? = some (.cells #[.pointer (some ⟨g, 0, none⟩), .pointer (some ⟨r, 0, none⟩)] 43 (0, 0))
theorem pairAt_old {w w' : World} {p g r : Nat} (h : pairAt w p g r) (hk : w'.heap[p]? = w.heap[p]?) : pairAt w' p g r := hk.trans h
theorem psrv_old {w w' : World} {g h conns d : Nat} (hP : psrv w g h conns d) (h1 : w'.heap[g]? = w.heap[g]?) (h2 : w'.heap[h]? = w.heap[h]?) : psrv w' g h conns d := by
  obtain ⟨hgh, m, hg, hh⟩ := hP
  exact ⟨hgh, m, h1.trans hg, h2.trans hh⟩
theorem rsrv_old {w w' : World} {r : Nat} {conns : Int} {d : Nat} (hR : rsrv w r conns d) (h1 : w'.heap[r]? = w.heap[r]?) : rsrv w' r conns d := by
  obtain ⟨tv, hr⟩ := hR
  exact ⟨tv, h1.trans hr⟩
theorem alloc_same (w : World) (o : Obj) (k : Nat) (h : k < w.heap.size) : (w.alloc o).heap[k]? = w.heap[k]? := by
  show (w.heap.push o)[k]? = _
  rw [Array.getElem?_push, if_neg (by omega)]
theorem psrv_lt {w : World} {g h conns d : Nat} (hP : psrv w g h conns d) : g < w.heap.size ∧ h < w.heap.size := by
  obtain ⟨_, m, hg, hh⟩ := hP
  exact ⟨(Array.getElem?_eq_some_iff.1 hg).1, (Array.getElem?_eq_some_iff.1 hh).1⟩
theorem rsrv_lt {w : World} {r : Nat} {conns : Int} {d : Nat} (hR : rsrv w r conns d) : r < w.heap.size := by
  obtain ⟨tv, hr⟩ := hR
  exact (Array.getElem?_eq_some_iff.1 hr).1
theorem pairAt_lt {w : World} {p g r : Nat} (h : pairAt w p g r) : p < w.heap.size := (Array.getElem?_eq_some_iff.1 h).1

/-- the pair and both servers, with d connections -/
structure Both (w : World) (p g h r conns d : Nat) : Prop where
  pair : pairAt w p g r
  prog : psrv w g h conns d
  ref : rsrv w r conns d
  ph : p ≠ h
  pr : p ≠ r
  gr : g ≠ r
  hr : h ≠ r
theorem Both.alloc {w : World} {p g h r conns d : Nat} (B : Both w p g h r conns d) (o : Obj) : Both (w.alloc o) p g h r conns d :=
  ⟨pairAt_old B.pair (alloc_same _ _ _ (pairAt_lt B.pair)), psrv_old B.prog (alloc_same _ _ _ (psrv_lt B.prog).1) (alloc_same _ _ _ (psrv_lt B.prog).2), rsrv_old B.ref (alloc_same _ _ _ (rsrv_lt B.ref)), B.ph, B.pr, B.gr, B.hr⟩

set_option maxRecDepth 100000 in
theorem doesDial_c (w : World) (p g h r conns d : Nat) (hd : d ≤ conns) (h8 : conns ≤ 8) (B0 : Both w p g h r conns d) :
    Calls Try.prog 5 #[.pointer (some ⟨p, 0, none⟩), .agg #[.int .i64 2, .int .i64 0, .int .i64 0, .int .i64 0, .string ByteArray.empty, .slice none 0 0]] w fun e w' => e = .returned (.bool true) ∧
      Both w' p g h r conns (if (d : Int) < conns then d + 1 else d) ∧ (∀ k, k ≠ h → k ≠ r → k < w.heap.size → w'.heap[k]? = w.heap[k]?) ∧ w.heap.size ≤ w'.heap.size ∧ SameOs w w' := by
  have c0 : w.cell? ⟨p, 0, none⟩ = some (.pointer (some ⟨g, 0, none⟩)) := heap_cell B0.pair 0 rfl
  have hpl := pairAt_lt B0.pair
  by_cases hf : (d : Int) < conns
  · go_enter Try.func5, Try.ntmps5
    go_wp2_with (go_at_call 11; refine (pDial_c _ g h conns d hd h8 (B0.alloc _).prog).mono ?_; intro e w1 hh; rw [if_pos hf, if_pos hf] at hh; obtain ⟨rfl, hP1, hf1, hs1, ho1⟩ := hh; have d1 : w1.cell? ⟨p, 1, none⟩ = some (.pointer (some ⟨r, 0, none⟩)) := heap_cell ((hf1 _ B0.ph).trans ((alloc_same _ _ _ hpl).trans B0.pair)) 1 rfl)
    have hR1 : rsrv w1 r conns d := rsrv_old (B0.alloc _).ref (hf1 _ (Ne.symm B0.hr))
    have HP1 : Hid (psrv w1 g h conns (d + 1)) := hP1
    have HF1 : Hid (∀ k, k ≠ h → k < w.heap.size → w1.heap[k]? = w.heap[k]?) := fun k hk hl => (hf1 k hk).trans (alloc_same _ _ _ hl)
    have HS1 : Hid (w1.heap.size = w.heap.size + 1) := hs1.trans (by simp)
    have HO1 : Hid (SameOs w w1) := SameOs.trans ⟨rfl, rfl, rfl⟩ ho1
    clear hP1 hf1 hs1 c0 d1 ho1
    refine (rDial_c _ r conns d (by omega) (by omega) (by omega) hR1).mono ?_
    intro e w2 hh
    rw [if_pos hf, if_pos hf] at hh
    obtain ⟨rfl, hR2, hf2, hs2, ho2⟩ := hh
    clear hR1
    go_wp2
    go_ret
    refine ⟨rfl, ?_, ?_, ?_, SameOs.trans HO1.out ho2⟩
    · try rw [if_pos hf]
      exact ⟨pairAt_old B0.pair ((hf2 _ B0.pr).trans (HF1.out _ B0.ph hpl)), psrv_old HP1.out (hf2 _ B0.gr) (hf2 _ B0.hr), hR2, B0.ph, B0.pr, B0.gr, B0.hr⟩
    · intro k h1 h2 h3
      exact (hf2 _ h2).trans (HF1.out _ h1 h3)
    · have := HS1.out; omega
  · go_enter Try.func5, Try.ntmps5
    go_wp2_with (go_at_call 11; refine (pDial_c _ g h conns d hd h8 (B0.alloc _).prog).mono ?_; intro e w1 hh; rw [if_neg (show ¬ (d : Int) < conns by omega), if_neg (show ¬ (d : Int) < conns by omega)] at hh; obtain ⟨rfl, hP1, hf1, hs1, ho1⟩ := hh; have d1 : w1.cell? ⟨p, 1, none⟩ = some (.pointer (some ⟨r, 0, none⟩)) := heap_cell ((hf1 _ B0.ph).trans ((alloc_same _ _ _ hpl).trans B0.pair)) 1 rfl)
    have hR1 : rsrv w1 r conns d := rsrv_old (B0.alloc _).ref (hf1 _ (Ne.symm B0.hr))
    have HP1 : Hid (psrv w1 g h conns d) := hP1
    have HF1 : Hid (∀ k, k ≠ h → k < w.heap.size → w1.heap[k]? = w.heap[k]?) := fun k hk hl => (hf1 k hk).trans (alloc_same _ _ _ hl)
    have HS1 : Hid (w1.heap.size = w.heap.size + 1) := hs1.trans (by simp)
    have HO1 : Hid (SameOs w w1) := SameOs.trans ⟨rfl, rfl, rfl⟩ ho1
    clear hP1 hf1 hs1 c0 d1 ho1
    refine (rDial_c _ r conns d (by omega) (by omega) (by omega) hR1).mono ?_
    intro e w2 hh
    rw [if_neg (show ¬ (d : Int) < conns by omega), if_neg (show ¬ (d : Int) < conns by omega)] at hh
    obtain ⟨rfl, hR2, hf2, hs2, ho2⟩ := hh
    clear hR1
    go_wp2
    go_ret
    refine ⟨rfl, ?_, ?_, ?_, SameOs.trans HO1.out ho2⟩
    · try rw [if_neg (show ¬ (d : Int) < conns by omega)]
      exact ⟨pairAt_old B0.pair ((hf2 _ B0.pr).trans (HF1.out _ B0.ph hpl)), psrv_old HP1.out (hf2 _ B0.gr) (hf2 _ B0.hr), hR2, B0.ph, B0.pr, B0.gr, B0.hr⟩
    · intro k h1 h2 h3
      exact (hf2 _ h2).trans (HF1.out _ h1 h3)
    · have := HS1.out; omega

set_option maxRecDepth 100000 in
theorem doesTake_c (w : World) (p g h r conns : Nat) (h1 : 1 ≤ conns) (B0 : Both w p g h r conns 0) :
    Calls Try.prog 5 #[.pointer (some ⟨p, 0, none⟩), .agg #[.int .i64 5, .int .i64 0, .int .i64 0, .int .i64 1, .string ByteArray.empty, .slice none 0 0]] w fun e w' => e = .returned (.bool true) ∧ Both w' p g h r conns 0 ∧ Below w.heap.size w w' := by
  have c0 : w.cell? ⟨p, 0, none⟩ = some (.pointer (some ⟨g, 0, none⟩)) := heap_cell B0.pair 0 rfl
  have c1 : w.cell? ⟨p, 1, none⟩ = some (.pointer (some ⟨r, 0, none⟩)) := heap_cell B0.pair 1 rfl
  have hpl := pairAt_lt B0.pair
  go_enter Try.func5, Try.ntmps5
  go_wp2_with fail
  have B1 := B0.alloc (.cells #[.int .i64 5, .int .i64 0, .int .i64 0, .int .i64 1, .string ByteArray.empty, .slice none 0 0] 28)
  have hW : (w.alloc (.cells #[.int .i64 5, .int .i64 0, .int .i64 0, .int .i64 1, .string ByteArray.empty, .slice none 0 0] 28)).heap[w.heap.size]? = some (.cells #[.int .i64 5, .int .i64 0, .int .i64 0, .int .i64 1, .string ByteArray.empty, .slice none 0 0] 28 (0, 0)) := alloc_at _ _ _ rfl
  have hB : Below w.heap.size w (w.alloc (.cells #[.int .i64 5, .int .i64 0, .int .i64 0, .int .i64 1, .string ByteArray.empty, .slice none 0 0] 28)) := (Below.refl _ _).alloc (Nat.le_refl _) _
  clear c0 c1
  generalize (w.alloc (.cells #[.int .i64 5, .int .i64 0, .int .i64 0, .int .i64 1, .string ByteArray.empty, .slice none 0 0] 28)) = W at B1 hW hB ⊢
  have c0 : W.cell? ⟨p, 0, none⟩ = some (.pointer (some ⟨g, 0, none⟩)) := heap_cell B1.pair 0 rfl
  have c1 : W.cell? ⟨p, 1, none⟩ = some (.pointer (some ⟨r, 0, none⟩)) := heap_cell B1.pair 1 rfl
  have d2 : W.cell? ⟨w.heap.size, 2, none⟩ = some (.int .i64 0) := heap_cell hW 2 rfl
  have d3 : W.cell? ⟨w.heap.size, 3, none⟩ = some (.int .i64 1) := heap_cell hW 3 rfl
  have H0 : Hid (W.cell? ⟨p, 0, none⟩ = some (.pointer (some ⟨g, 0, none⟩))) := c0
  have H1 : Hid (W.cell? ⟨p, 1, none⟩ = some (.pointer (some ⟨r, 0, none⟩))) := c1
  have H2 : Hid (W.cell? ⟨w.heap.size, 2, none⟩ = some (.int .i64 0)) := d2
  have H3 : Hid (W.cell? ⟨w.heap.size, 3, none⟩ = some (.int .i64 1)) := d3
  have HB : Hid (Below w.heap.size w W) := hB
  have HBo : Hid (Both W p g h r conns 0) := B1
  clear hW hB B1 B0
  go_region_held3 (fun w' => w'.cell? ⟨p, 0, none⟩ = some (.pointer (some ⟨g, 0, none⟩)) ∧ w'.cell? ⟨w.heap.size, 2, none⟩ = some (.int .i64 0) ∧ w'.cell? ⟨w.heap.size, 3, none⟩ = some (.int .i64 1))
    (first | ((refine ⟨?_, ?_, ?_⟩ <;> (repeat (with_reducible (first | exact H0.out | exact H2.out | exact H3.out | refine cell_drew_keep ?_)))); done) | (go_keep; done))
    (first | (go_at_call 17; refine (pTake0_c _ g h conns 1 h1 ?_).mono ?_; exact psrv_old HBo.out.prog rfl rfl; rintro e w1 ⟨rfl, hw⟩; replace hw := hw.symm; subst hw))
  rename_i hHeld
  clear hHeld
  go_wp2_with fail
  go_region_held3 (fun w' => w'.cell? ⟨p, 1, none⟩ = some (.pointer (some ⟨r, 0, none⟩)) ∧ w'.cell? ⟨w.heap.size, 2, none⟩ = some (.int .i64 0) ∧ w'.cell? ⟨w.heap.size, 3, none⟩ = some (.int .i64 1))
    (first | ((refine ⟨?_, ?_, ?_⟩ <;> (repeat (with_reducible (first | exact H1.out | exact H2.out | exact H3.out | refine cell_drew_keep ?_)))); done) | (go_keep; done))
    (first | (go_at_call 18; refine (rTake0_c _ r conns 1 ?_).mono ?_; exact rsrv_old HBo.out.ref rfl; rintro e w1 ⟨rfl, hw⟩; replace hw := hw.symm; subst hw))
  rename_i hHeld
  clear hHeld
  go_wp2
  go_ret
  exact ⟨rfl, ⟨HBo.out.pair, psrv_old HBo.out.prog rfl rfl, rsrv_old HBo.out.ref rfl, HBo.out.ph, HBo.out.pr, HBo.out.gr, HBo.out.hr⟩, HB.out.drew.drew⟩
end Go.Proofs.Ytpdmafpgdiefpaa
