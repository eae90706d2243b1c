import Derived.Test.YtpdmafpgdiefpaaPMap
namespace Go.Proofs.Ytpdmafpgdiefpaa
open Go.RowKit Go.Builtin
open Go.Maps (Keyed)

theorem byName_len (a : Option Addr) (n c : Nat) (w : World) (hn : n = 0 ∨ 5 < n) (hn63 : n ≤ 9223372036854775806) : Calls Try.prog 21 #[.slice a n c] w fun e w' => e = .returned (.tuple #[.map none, .bool false]) ∧ w' = w := by
  by_cases h0 : n = 0
  · subst h0
    go_enter Try.func21, Try.ntmps21
    go_wp2
    go_ret2
    exact ⟨rfl, rfl⟩
  · have k0 : ¬ (n : Int) < 1 := by omega
    have k5 : (5 : Int) < n := by omega
    go_enter Try.func21, Try.ntmps21
    go_wp2
    go_ret2
    exact ⟨rfl, rfl⟩

structure Bx (w0 : World) (g m k : Nat) (x : Ten) (D : DataW Unit) (W : World) : Prop where
  blk : W.heap[g]? = some (.cells #[.string x.n, .string x.k, .int .i64 x.q] 40 (0, 0))
  bel : Below w0.heap.size w0 W
  own : W.ownsMap Try.prog 9 tenElem m k D
  ge : w0.heap.size ≤ g
  gm : g ≠ m
theorem Bx.drew {w0 : World} {g m k : Nat} {x : Ten} {D : DataW Unit} {W : World} (h : Bx w0 g m k x D W) : Bx w0 g m k x D W.drew := ⟨h.blk, h.bel.drew, h.own.drew, h.ge, h.gm⟩
theorem Bx.set0 {w0 : World} {g m k : Nat} {x : Ten} {D : DataW Unit} {W : World} (h : Bx w0 g m k x D W) : Bx w0 g m k x D (W.setCell ⟨g, 0, none⟩ (.string x.n)) :=
  ⟨set_heap _ _ _ _ _ _ _ h.blk, h.bel.setCell (p := ⟨g, 0, none⟩) h.ge _, h.own.setCell (fun e => h.gm e.symm) _, h.ge, h.gm⟩
theorem Bx.set1 {w0 : World} {g m k : Nat} {x : Ten} {D : DataW Unit} {W : World} (h : Bx w0 g m k x D W) : Bx w0 g m k x D (W.setCell ⟨g, 0 + 1, none⟩ (.string x.k)) :=
  ⟨set_heap _ _ _ _ _ _ _ h.blk, h.bel.setCell (p := ⟨g, 0 + 1, none⟩) h.ge _, h.own.setCell (fun e => h.gm e.symm) _, h.ge, h.gm⟩
theorem ownsMap_below {W W' : World} {m k : Nat} {D : DataW Unit} (h : W.ownsMap Try.prog 9 tenElem m k D) (hb : Below W.heap.size W W') : W'.ownsMap Try.prog 9 tenElem m k D := by
  have hl := h.lt
  obtain ⟨es, clock, hk, r⟩ := h
  exact ⟨es, clock, (hb.block _ hl).trans hk, r⟩
theorem Bx.below {w0 : World} {g m k : Nat} {x : Ten} {D : DataW Unit} {W W' : World} (h : Bx w0 g m k x D W) (hb : Below W.heap.size W W') : Bx w0 g m k x D W' :=
  ⟨(hb.block _ (Array.getElem?_eq_some_iff.1 h.blk).1).trans h.blk, h.bel.trans (hb.mono h.bel.size), ownsMap_below h.own hb, h.ge, h.gm⟩

def SBx (w0 : World) (g m k : Nat) (x : Ten) (D : DataW Unit) (W : World) : Prop :=
  W.cell? ⟨g, 0, none⟩ = some (.string x.n) ∧ W.cell? ⟨g, 0 + 1, none⟩ = some (.string x.k) ∧ W.cell? ⟨g, 0 + 2, none⟩ = some (.int .i64 x.q) ∧ W.frozen? ⟨g, 0, none⟩ = false ∧ W.frozen? ⟨g, 0 + 1, none⟩ = false ∧ Bx w0 g m k x D W
theorem Bx.s {w0 : World} {g m k : Nat} {x : Ten} {D : DataW Unit} {W : World} (h : Bx w0 g m k x D W) : SBx w0 g m k x D W :=
  ⟨heap_cell h.blk 0 rfl, heap_cell h.blk 1 rfl, heap_cell h.blk 2 rfl, heap_frozen h.blk 0, heap_frozen h.blk 1, h⟩
theorem clone_bx {w0 : World} {g m k : Nat} {x : Ten} {D : DataW Unit} {W : World} (h : Bx w0 g m k x D W) (s : ByteArray) (hs : s.size ≤ 281474976710656) :
    Calls Try.prog 28 #[.string s] W fun e w' => e = .returned (.string s) ∧ Bx w0 g m k x D w' :=
  (clone_c s W hs).mono (by rintro e w' ⟨rfl, hb⟩; exact ⟨rfl, h.below hb⟩)

set_option maxRecDepth 100000 in
set_option maxHeartbeats 4000000 in
theorem byName_ok (b off n c : Nat) (ts : List Ten) (w : World) (hl : ts.length = n) (hT : TensAt w b off ts) (hb : b < w.heap.size) (h1 : 1 ≤ n) (h5 : n ≤ 5)
    (hsz : ∀ x ∈ ts, x.n.size ≤ 281474976710656 ∧ x.k.size ≤ 281474976710656) (hok : okUpto ts n = true) :
    Calls Try.prog 21 #[.slice (some ⟨b, off, none⟩) n c] w fun e w' => ∃ m, e = .returned (.tuple #[.map (some m), .bool true]) ∧ Below w.heap.size w w' := by
  have k1 : ¬ (n : Int) < 1 := by omega
  have k5 : ¬ (5 : Int) < n := by omega
  have hmm := fun w n => run_makeMapN Try.underlying50 w n
  have HL : Hid (ts.length = n) := hl
  have HT : Hid (TensAt w b off ts) := hT
  have HSZ : Hid (∀ x ∈ ts, x.n.size ≤ 281474976710656 ∧ x.k.size ≤ 281474976710656) := hsz
  have HOK : Hid (okUpto ts n = true) := hok
  clear hl hT hsz hok
  go_enter Try.func21, Try.ntmps21
  go_wp2_with fail
  go_loopw [22] (fun i wx => ∃ j : Nat, j ≤ n ∧ i = .int .i64 j ∧ Hid (Below w.heap.size w wx) ∧ Hid (wx.ownsMap Try.prog 9 tenElem w.heap.size j (mapD ts j))) (fun i _ => n - (intOf i).toNat)
  case atStart => exact ⟨0, by omega, rfl, (Below.refl _ _).alloc (Nat.le_refl _) _, World.ownsMap_made _ _ _ _⟩
  case round =>
    obtain ⟨i, hii, rfl, hbx, hown⟩ := hrel
    by_cases hlt : i < n
    · have klt : (i : Int) < n := by omega
      obtain ⟨x, hx⟩ : ∃ x, ts[i]? = some x := ⟨_, List.getElem?_eq_getElem (by rw [HL.out]; exact hlt)⟩
      have HX : Hid (ts[i]? = some x) := hx
      obtain ⟨c0, c1, c2⟩ := tens_cells (HT.out.below hbx.out hb) i x hx
      obtain ⟨s1, s2⟩ := HSZ.out x (List.mem_of_getElem? hx)
      clear hx
      have cG := fun W => mayBe_c x W (Nat.le_trans s1 (by decide)) (Nat.le_trans s2 (by decide))
      have hbr : b < wr.heap.size := Nat.lt_of_lt_of_le hb hbx.out.size
      have hg : goodB x = true := by
        cases hg : goodB x with
        | true => rfl
        | false =>
          have := okUpto_mono ts (i + 1) n (by omega) (okUpto_bad ts i x HX.out hg)
          rw [HOK.out] at this; cases this
      have hnn : newName ts i x = true := by
        cases hg2 : newName ts i x with
        | true => rfl
        | false =>
          have : okUpto ts (i + 1) = false := by unfold okUpto; rw [HX.out]; simp [hg2]
          have := okUpto_mono ts (i + 1) n (by omega) this
          rw [HOK.out] at this; cases this
      have hh : Maps.has (mapD ts i) (tnLit x) = false := by rw [mapD_has, hnn]; rfl
      rw [hg] at cG
      clear hg hnn
      have hkey : keyOf Try.prog 9 (.string x.n) = some (tnLit x) := WideMaps.keyOf_string_mk Try.underlying9 (Nat.le_trans s1 (by decide))
      go_wp2_with (first
        | (at_lookup; refine lookup_ten _ rfl _ _ 50 rfl 9 40 keyedStr Try.underlying50 (zeroTen _) w.heap.size i (mapD ts i) rfl (hown.out.alloc _) _ _ rfl hkey false hh ?_; intro s' t' q')
        | (go_at_call 27; refine (cG _).mono ?_; rintro e w1 ⟨rfl, hb1⟩))
      have HB : Bx w wr.heap.size w.heap.size i x (mapD ts i) w1 := by
        have h0 : Bx w wr.heap.size w.heap.size i x (mapD ts i) ((wr.alloc (.cells #[.string x.n, .string x.k, .int .i64 x.q] 40)).alloc (.cells #[.string s', .string t', .int .i64 q'] 40)) :=
          ⟨alloc_old _ _ _ _ (alloc_at _ _ _ rfl), (hbx.out.alloc hbx.out.size _).alloc (by simp; exact Nat.le_succ_of_le hbx.out.size) _, (hown.out.alloc _).alloc _, hbx.out.size, Nat.ne_of_gt hown.out.lt⟩
        exact h0.below hb1
      clear hb1 hown hbx c0 c1 c2 cG hh hmm
      go_region_held3 (fun w' => w'.cell? ⟨wr.heap.size, 0, none⟩ = some (.string x.n) ∧ w'.cell? ⟨wr.heap.size, 0 + 1, none⟩ = some (.string x.k) ∧ w'.cell? ⟨wr.heap.size, 0 + 2, none⟩ = some (.int .i64 x.q) ∧ w'.frozen? ⟨wr.heap.size, 0, none⟩ = false ∧ w'.frozen? ⟨wr.heap.size, 0 + 1, none⟩ = false ∧ Bx w wr.heap.size w.heap.size i x (mapD ts i) w')
        ((refine Bx.s ?_; repeat (first | assumption | refine Bx.drew ?_ | refine Bx.set0 ?_ | refine Bx.set1 ?_)))
        (first
          | (go_at_call 28; refine (clone_bx (by first | assumption | exact Bx.drew (by assumption)) x.n s1).mono ?_; rintro e w2 ⟨rfl, hB2⟩)
          | (go_at_call 28; refine (clone_bx (by first | assumption | exact Bx.drew (by assumption)) x.k s2).mono ?_; rintro e w3 ⟨rfl, hB3⟩))
      have hBf := hB3.set0.set1
      rename_i hHeld; clear hHeld
      generalize (World.setCell (World.setCell w3 _ _) _ _) = w4 at hBf ⊢
      obtain ⟨d0, d1, d2, _, _, _⟩ := hBf.s
      clear hB2 hB3 HB
      go_wp2_with (at_mapUpdate; refine wpList_mapUpdate_own _ rfl _ _ _ 50 rfl 9 40 keyedStr Try.underlying50 tenElem w.heap.size i _ rfl hBf.own (by unfold maxLen; omega) _ _ _ rfl rfl hkey (.lit (.bool true)) [] rfl ?_; intro w5 hown5 hgrow5)
      go_roundw
      case rel => exact ⟨i + 1, by omega, by go_num, hBf.bel.grown hgrow5 hBf.bel.size (fun j hj => by cases hj; exact Nat.le_refl _), by rw [mapD_step ts i x HX.out] at hown5; exact hown5⟩
      case measure => simp [intOf] <;> omega
    · have klt : ¬ (i : Int) < n := by omega
      go_wp2
      go_ret2
      exact ⟨⟨_, rfl⟩, hbx.out⟩
set_option maxRecDepth 100000 in
set_option maxHeartbeats 4000000 in
theorem byName_bad (b off n c : Nat) (ts : List Ten) (w : World) (hl : ts.length = n) (hT : TensAt w b off ts) (hb : b < w.heap.size) (h1 : 1 ≤ n) (h5 : n ≤ 5)
    (hsz : ∀ x ∈ ts, x.n.size ≤ 281474976710656 ∧ x.k.size ≤ 281474976710656) (hok : okUpto ts n = false) :
    Calls Try.prog 21 #[.slice (some ⟨b, off, none⟩) n c] w fun e w' => e = .returned (.tuple #[.map none, .bool false]) ∧ Below w.heap.size w w' := by
  have k1 : ¬ (n : Int) < 1 := by omega
  have k5 : ¬ (5 : Int) < n := by omega
  have hmm := fun w n => run_makeMapN Try.underlying50 w n
  have HL : Hid (ts.length = n) := hl
  have HT : Hid (TensAt w b off ts) := hT
  have HSZ : Hid (∀ x ∈ ts, x.n.size ≤ 281474976710656 ∧ x.k.size ≤ 281474976710656) := hsz
  have HOK : Hid (okUpto ts n = false) := hok
  clear hl hT hsz hok
  go_enter Try.func21, Try.ntmps21
  go_wp2_with fail
  go_loopw [22] (fun i wx => ∃ j : Nat, j ≤ n ∧ i = .int .i64 j ∧ Hid (okUpto ts j = true) ∧ Hid (Below w.heap.size w wx) ∧ Hid (wx.ownsMap Try.prog 9 tenElem w.heap.size j (mapD ts j))) (fun i _ => n - (intOf i).toNat)
  case atStart => exact ⟨0, by omega, rfl, rfl, (Below.refl _ _).alloc (Nat.le_refl _) _, World.ownsMap_made _ _ _ _⟩
  case round =>
    obtain ⟨i, hii, rfl, hoi, hbx, hown⟩ := hrel
    by_cases hlt : i < n
    · have klt : (i : Int) < n := by omega
      obtain ⟨x, hx⟩ : ∃ x, ts[i]? = some x := ⟨_, List.getElem?_eq_getElem (by rw [HL.out]; exact hlt)⟩
      have HX : Hid (ts[i]? = some x) := hx
      obtain ⟨c0, c1, c2⟩ := tens_cells (HT.out.below hbx.out hb) i x hx
      obtain ⟨s1, s2⟩ := HSZ.out x (List.mem_of_getElem? hx)
      clear hx
      have cG := fun W => mayBe_c x W (Nat.le_trans s1 (by decide)) (Nat.le_trans s2 (by decide))
      have hbr : b < wr.heap.size := Nat.lt_of_lt_of_le hb hbx.out.size
      have hkey : keyOf Try.prog 9 (.string x.n) = some (tnLit x) := WideMaps.keyOf_string_mk Try.underlying9 (Nat.le_trans s1 (by decide))
      cases hnn : newName ts i x with
      | false =>
        have hh : Maps.has (mapD ts i) (tnLit x) = true := by rw [mapD_has, hnn]; rfl
        clear hnn
        go_wp2_with (at_lookup; refine lookup_ten _ rfl _ _ 50 rfl 9 40 keyedStr Try.underlying50 (zeroTen _) w.heap.size i (mapD ts i) rfl (hown.out.alloc _) _ _ rfl hkey true hh ?_; intro s' t' q')
        have h2 : Below w.heap.size w ((wr.alloc (.cells #[.string x.n, .string x.k, .int .i64 x.q] 40)).alloc (.cells #[.string s', .string t', .int .i64 q'] 40)) := (hbx.out.alloc hbx.out.size _).alloc (by simp; exact Nat.le_succ_of_le hbx.out.size) _
        go_ret2
        exact ⟨rfl, h2⟩
      | true =>
        have HNN : Hid (newName ts i x = true) := hnn
        have hh : Maps.has (mapD ts i) (tnLit x) = false := by rw [mapD_has, hnn]; rfl
        clear hnn
        cases hg : goodB x with
        | false =>
          rw [hg] at cG
          clear hg
          go_wp2_with (first
            | (at_lookup; refine lookup_ten _ rfl _ _ 50 rfl 9 40 keyedStr Try.underlying50 (zeroTen _) w.heap.size i (mapD ts i) rfl (hown.out.alloc _) _ _ rfl hkey false hh ?_; intro s' t' q')
            | (go_at_call 27; refine (cG _).mono ?_; rintro e w1 ⟨rfl, hb1⟩))
          have h2 : Below w.heap.size w ((wr.alloc (.cells #[.string x.n, .string x.k, .int .i64 x.q] 40)).alloc (.cells #[.string s', .string t', .int .i64 q'] 40)) := (hbx.out.alloc hbx.out.size _).alloc (by simp; exact Nat.le_succ_of_le hbx.out.size) _
          go_ret2
          exact ⟨rfl, h2.trans (hb1.mono h2.size)⟩
        | true =>
          rw [hg] at cG
          have HGd : Hid (goodB x = true) := hg
          clear hg
          go_wp2_with (first
            | (at_lookup; refine lookup_ten _ rfl _ _ 50 rfl 9 40 keyedStr Try.underlying50 (zeroTen _) w.heap.size i (mapD ts i) rfl (hown.out.alloc _) _ _ rfl hkey false hh ?_; intro s' t' q')
            | (go_at_call 27; refine (cG _).mono ?_; rintro e w1 ⟨rfl, hb1⟩))
          have HB : Bx w wr.heap.size w.heap.size i x (mapD ts i) w1 := by
            have h0 : Bx w wr.heap.size w.heap.size i x (mapD ts i) ((wr.alloc (.cells #[.string x.n, .string x.k, .int .i64 x.q] 40)).alloc (.cells #[.string s', .string t', .int .i64 q'] 40)) :=
              ⟨alloc_old _ _ _ _ (alloc_at _ _ _ rfl), (hbx.out.alloc hbx.out.size _).alloc (by simp; exact Nat.le_succ_of_le hbx.out.size) _, (hown.out.alloc _).alloc _, hbx.out.size, Nat.ne_of_gt hown.out.lt⟩
            exact h0.below hb1
          clear hb1 hown hbx c0 c1 c2 cG hh hmm
          go_region_held3 (fun w' => w'.cell? ⟨wr.heap.size, 0, none⟩ = some (.string x.n) ∧ w'.cell? ⟨wr.heap.size, 0 + 1, none⟩ = some (.string x.k) ∧ w'.cell? ⟨wr.heap.size, 0 + 2, none⟩ = some (.int .i64 x.q) ∧ w'.frozen? ⟨wr.heap.size, 0, none⟩ = false ∧ w'.frozen? ⟨wr.heap.size, 0 + 1, none⟩ = false ∧ Bx w wr.heap.size w.heap.size i x (mapD ts i) w')
            ((refine Bx.s ?_; repeat (first | assumption | refine Bx.drew ?_ | refine Bx.set0 ?_ | refine Bx.set1 ?_)))
            (first
              | (go_at_call 28; refine (clone_bx (by first | assumption | exact Bx.drew (by assumption)) x.n s1).mono ?_; rintro e w2 ⟨rfl, hB2⟩)
              | (go_at_call 28; refine (clone_bx (by first | assumption | exact Bx.drew (by assumption)) x.k s2).mono ?_; rintro e w3 ⟨rfl, hB3⟩))
          have hBf := hB3.set0.set1
          rename_i hHeld; clear hHeld
          generalize (World.setCell (World.setCell w3 _ _) _ _) = w4 at hBf ⊢
          obtain ⟨d0, d1, d2, _, _, _⟩ := hBf.s
          clear hB2 hB3 HB
          go_wp2_with (at_mapUpdate; refine wpList_mapUpdate_own _ rfl _ _ _ 50 rfl 9 40 keyedStr Try.underlying50 tenElem w.heap.size i _ rfl hBf.own (by unfold maxLen; omega) _ _ _ rfl rfl hkey (.lit (.bool true)) [] rfl ?_; intro w5 hown5 hgrow5)
          go_roundw
          case rel => exact ⟨i + 1, by omega, by go_num, okUpto_step ts i x HX.out hoi.out HGd.out HNN.out, hBf.bel.grown hgrow5 hBf.bel.size (fun j hj => by cases hj; exact Nat.le_refl _), by rw [mapD_step ts i x HX.out] at hown5; exact hown5⟩
          case measure => simp [intOf] <;> omega
    · exfalso
      obtain rfl : i = n := by omega
      have h := hoi.out
      rw [HOK.out] at h; cases h
end Go.Proofs.Ytpdmafpgdiefpaa
