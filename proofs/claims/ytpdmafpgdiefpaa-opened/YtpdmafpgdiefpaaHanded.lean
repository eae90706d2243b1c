import Derived.Test.YtpdmafpgdiefpaaBase
namespace Go.Proofs.Ytpdmafpgdiefpaa
open Go.RowKit Go.Builtin

theorem mark_b (w : World) : Calls Try.prog 10 #[] w fun e w' => e = .returned (.agg #[.string ⟨#[109, 97, 114, 107]⟩, .string ⟨#[109, 97, 114, 107]⟩, .int .i64 77]) ∧ Hid (w'.heap.size = w.heap.size + 1) ∧ Below w.heap.size w w' :=
  (mark_c w).mono fun e w' ⟨he, hw⟩ => ⟨he, by rw [hw]; show _ = _; simp, by rw [hw]; exact (Below.refl _ _).alloc (Nat.le_refl _) _⟩
theorem rowT_at (ts : List Ten) (n k : Nat) (hl : ts.length = n) (hk : k < 8) : (rowT ts k)[n + k]? = some zeroT := by
  unfold rowT
  rw [List.getElem?_append_right (by simp; omega)]
  simp [hl]
  rw [List.getElem?_replicate, if_pos (by omega)]
theorem rowT_len (ts : List Ten) (n k : Nat) (hl : ts.length = n) (hk : k ≤ 8) : (rowT ts k).length = n + 8 := by
  unfold rowT; simp; omega

theorem set3 : ∀ (ts : List Ten) (i : Nat) (t : Ten), i < ts.length →
    (((flatT ts).set (i * 3) (.string t.n)).set (i * 3 + 1) (.string t.k)).set (i * 3 + 2) (.int .i64 t.q) = flatT (ts.set i t)
  | [], i, t, h => by simp at h
  | x :: r, 0, t, _ => by simp [flatT, Ten.cells]
  | x :: r, i + 1, t, h => by
    have ih := set3 r i t (by simpa using h)
    have e : (i + 1) * 3 = i * 3 + 1 + 1 + 1 := by omega
    rw [e]
    show ((((Ten.cells x ++ flatT r).set (i * 3 + 1 + 1 + 1) _).set (i * 3 + 1 + 1 + 1 + 1) _).set (i * 3 + 1 + 1 + 1 + 2) _) = _
    simp only [Ten.cells, List.cons_append, List.nil_append, List.set_cons_succ]
    rw [ih]
    rfl
theorem rowT_set (ts : List Ten) (n k : Nat) (hl : ts.length = n) (hk : k < 8) : (rowT ts k).set (n + k) markT = rowT ts (k + 1) := by
  unfold rowT
  rw [List.set_append_right _ _ (by simp; omega)]
  have e : n + k - (ts ++ List.replicate k markT).length = 0 := by simp; omega
  rw [e]
  obtain ⟨m, hm⟩ : ∃ m, 8 - k = m + 1 := ⟨7 - k, by omega⟩
  rw [hm, show 8 - (k + 1) = m by omega, List.replicate_succ, List.set_cons_zero, List.replicate_succ']
  simp

theorem store3 (W : World) (g : Nat) (R : List Ten) (i : Nat) (t : Ten) (h : W.heap[g]? = some (.cells (flatT R).toArray 40 (0, 0))) (hi : i < R.length) :
    (((W.setCell ⟨g, i * 3, none⟩ (.string t.n)).setCell ⟨g, i * 3 + 1, none⟩ (.string t.k)).setCell ⟨g, i * 3 + 2, none⟩ (.int .i64 t.q)).heap[g]? = some (.cells (flatT (R.set i t)).toArray 40 (0, 0)) := by
  rw [set_heap _ _ _ _ _ _ _ (set_heap _ _ _ _ _ _ _ (set_heap _ _ _ _ _ _ _ h)), ← set3 R i t hi]
  simp only [List.setIfInBounds_toArray]

theorem handed_nil (w : World) : Calls Try.prog 6 #[.slice none 0 0] w fun e w' => e = .returned (.slice none 0 0) ∧ w' = w := by
  have q1 : ∀ (w : World) (a : Option Addr) (n c n' c' : Nat), (binOp .eql 22 (.slice a n c) (.slice none n' c')).run Try.prog w = .ok (.bool a.isNone) w := fun w a n c n' c' => Lib.run_eql_slice_nil w _ _ a n c n' c' Try.underlying22
  go_enter Try.func6, Try.ntmps6
  go_wp2
  go_ret
  exact ⟨rfl, rfl⟩

set_option maxRecDepth 100000 in
set_option maxHeartbeats 1000000 in
theorem handed_c (w : World) (b off n c : Nat) (sp : Option Nat) (ts : List Ten) (hl : ts.length = n) (hT : TensAt w b off ts) (hsp : n = 0 ∨ sp = none) (hn : n ≤ 3518437208780) :
    Calls Try.prog 6 #[.slice (some ⟨b, off, sp⟩) n c] w fun e w' => e = .returned (.slice (some ⟨w.heap.size, 0, none⟩) n (n + 8)) ∧ w'.heap[w.heap.size]? = some (.cells (flatT (rowT ts 8)).toArray 40 (0, 0)) ∧ Below w.heap.size w w' := by
  have q1 : ∀ (w : World) (a : Option Addr) (n c n' c' : Nat), (binOp .eql 22 (.slice a n c) (.slice none n' c')).run Try.prog w = .ok (.bool a.isNone) w := fun w a n c n' c' => Lib.run_eql_slice_nil w _ _ a n c n' c' Try.underlying22
  obtain ⟨W1, W2, hmk, hcp, hg2, hs2, hb2⟩ := handed_start w b off n c sp ts hl hT hsp hn
  have HL : Hid (ts.length = n) := hl
  have HG2 : Hid (W2.heap[w.heap.size]? = some (.cells (flatT (rowT ts 0)).toArray 40 (0, 0))) := hg2
  clear hT hl hg2
  go_enter Try.func6, Try.ntmps6
  go_wp2_with fail
  go_loopw [5] (fun i wx => ∃ k : Nat, k ≤ 8 ∧ i = .int .i64 k ∧ wx.heap.size = w.heap.size + 1 + k ∧ Hid (wx.heap[w.heap.size]? = some (.cells (flatT (rowT ts k)).toArray 40 (0, 0))) ∧ Below w.heap.size w wx) (fun i _ => 8 - (intOf i).toNat)
  case atStart => exact ⟨0, by omega, rfl, hs2, HG2, hb2⟩
  case round =>
    obtain ⟨k, hk, rfl, hsz, hg, hbx⟩ := hrel
    by_cases hlt : k < 8
    · have klt : (k : Int) < 8 := by omega
      obtain ⟨z0, z1, z2⟩ := flatT_get (rowT ts k) (n + k) zeroT (rowT_at ts n k HL.out hlt)
      have c0 : wr.cell? ⟨w.heap.size, (n + k) * 3, none⟩ = some (.string ByteArray.empty) := heap_cell hg.out _ (by rw [List.getElem?_toArray]; exact z0)
      have c1 : wr.cell? ⟨w.heap.size, (n + k) * 3 + 1, none⟩ = some (.string ByteArray.empty) := heap_cell hg.out _ (by rw [List.getElem?_toArray]; exact z1)
      have c2 : wr.cell? ⟨w.heap.size, (n + k) * 3 + 2, none⟩ = some (.int .i64 0) := heap_cell hg.out _ (by rw [List.getElem?_toArray]; exact z2)
      have f0 := heap_frozen hg.out ((n + k) * 3)
      have f1 := heap_frozen hg.out ((n + k) * 3 + 1)
      have f2 := heap_frozen hg.out ((n + k) * 3 + 2)
      clear z0 z1 z2 hmk hcp q1
      have hgx : w.heap.size < wr.heap.size := by omega
      have HG : Hid (wr.heap[w.heap.size]? = some (.cells (flatT (rowT ts k)).toArray 40 (0, 0))) := hg
      have HS : Hid (wr.heap.size = w.heap.size + 1 + k) := hsz
      clear hsz hg
      go_wp2_with (go_at_call 10; refine (mark_b _).mono ?_; rintro e w1 ⟨rfl, hs1, hb1⟩; have d0 := (hb1.cell (p := ⟨w.heap.size, (n + k) * 3, none⟩) hgx).trans c0; have d1 := (hb1.cell (p := ⟨w.heap.size, (n + k) * 3 + 1, none⟩) hgx).trans c1; have d2 := (hb1.cell (p := ⟨w.heap.size, (n + k) * 3 + 2, none⟩) hgx).trans c2; have g0 := (hb1.frozen (p := ⟨w.heap.size, (n + k) * 3, none⟩) hgx).trans f0; have g1 := (hb1.frozen (p := ⟨w.heap.size, (n + k) * 3 + 1, none⟩) hgx).trans f1; have g2 := (hb1.frozen (p := ⟨w.heap.size, (n + k) * 3 + 2, none⟩) hgx).trans f2; have HB1 : Hid (Below wr.heap.size wr w1) := hb1; clear hb1 c0 c1 c2 f0 f1 f2)
      go_roundw
      case rel =>
        refine ⟨k + 1, by omega, by go_num, ?_, ?_, ?_⟩
        · have := hs1.out; have := HS.out; simp [World.setCell]; omega
        · show _ = _
          have h1 : w1.heap[w.heap.size]? = some (.cells (flatT (rowT ts k)).toArray 40 (0, 0)) := (HB1.out.block _ hgx).trans HG.out
          rw [← rowT_set ts n k HL.out hlt]
          exact store3 w1 w.heap.size (rowT ts k) (n + k) markT h1 (by rw [rowT_len ts n k HL.out hk]; omega)
        · exact (((hbx.trans (HB1.out.mono hbx.size)).setCell (p := ⟨w.heap.size, (n + k) * 3, none⟩) (Nat.le_refl _) _).setCell (p := ⟨w.heap.size, (n + k) * 3 + 1, none⟩) (Nat.le_refl _) _).setCell (p := ⟨w.heap.size, (n + k) * 3 + 2, none⟩) (Nat.le_refl _) _
      case measure => simp [intOf] <;> omega
    · have klt : ¬ (k : Int) < 8 := by omega
      obtain rfl : k = 8 := by omega
      clear hmk hcp q1
      go_wp2
      go_ret
      exact ⟨rfl, hg.out, hbx⟩
end Go.Proofs.Ytpdmafpgdiefpaa
