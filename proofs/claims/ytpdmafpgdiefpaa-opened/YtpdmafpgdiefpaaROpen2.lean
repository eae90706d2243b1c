import Derived.Test.YtpdmafpgdiefpaaROpen
namespace Go.Proofs.Ytpdmafpgdiefpaa
open Go.RowKit Go.Builtin

def zconn : List Value := [.bool false, .bool false, .string ByteArray.empty, .string ByteArray.empty, .int .i64 0, .bool false, .slice none 0 0]
def dconn : List Value := [.bool true, .bool false, .string ByteArray.empty, .string ByteArray.empty, .int .i64 (-1), .bool false, .slice none 0 0]
def connsL (d : Nat) : List Value := (List.replicate d dconn ++ List.replicate (8 - d) zconn).flatten
/-- the cells of the document's server: who its tenants are, how many connections there may be, how many there are -/
def srvL (tv : Value) (conns : Int) (d : Nat) : List Value := tv :: .int .i64 conns :: (connsL d ++ (.slice none 0 0 :: List.replicate 31 (.int .i64 0)))
theorem zero_srv (w : World) : (zeroValue 66).run Try.prog w = .ok (.agg (srvL (.slice none 0 0) 0 0).toArray) w := by kernel_rfl

set_option maxRecDepth 100000 in
set_option maxHeartbeats 4000000 in
/-- the tenants may be -/
theorem rOpen_arg (b off n c : Nat) (conns : Int) (ts : List Ten) (w : World) (hl : ts.length = n) (hT : TensAt w b off ts) (hb : b < w.heap.size) (h1 : 1 ≤ n) (h5 : n ≤ 5)
    (hsz : ∀ x ∈ ts, x.n.size ≤ 9223372036854775806 ∧ x.k.size ≤ 9223372036854775806) (hbad : okUpto ts n = true) (hc : conns ≤ 0 ∨ 8 < conns) :
    Calls Try.prog 8 #[.slice (some ⟨b, off, none⟩) n c, .int .i64 conns] w fun e w' => e = .returned (.tuple #[.pointer none, .int .i64 2]) ∧ Below w.heap.size w w' := by
  have k0 : ((n : Int) == 0) = false := beq_eq_false_iff_ne.2 (by omega)
  have k5 : ¬ (5 : Int) < n := by omega
  have HL : Hid (ts.length = n) := hl
  have HT : Hid (TensAt w b off ts) := hT
  have HSZ : Hid (∀ x ∈ ts, x.n.size ≤ 9223372036854775806 ∧ x.k.size ≤ 9223372036854775806) := hsz
  have HBAD : Hid (okUpto ts n = true) := hbad
  clear hl hT hsz hbad
  go_enter Try.func8, Try.ntmps8
  go_wp2_with fail
  go_loopw [6] (fun i wx => ∃ j : Nat, j ≤ n ∧ i = .int .i64 j ∧ Hid (okUpto ts j = true) ∧ Below w.heap.size w wx) (fun i _ => n - (intOf i).toNat)
  case atStart => exact ⟨0, by omega, rfl, rfl, Below.refl _ _⟩
  case round =>
    obtain ⟨i, hi, rfl, hok, hbx⟩ := hrel
    by_cases hlt : i < n
    · have klt : (i : Int) < n := by omega
      obtain ⟨x, hx⟩ : ∃ x, ts[i]? = some x := ⟨_, List.getElem?_eq_getElem (by rw [HL.out]; exact hlt)⟩
      have HX : Hid (ts[i]? = some x) := hx
      obtain ⟨c0, c1, c2⟩ := tens_cells (HT.out.below hbx hb) i x hx
      obtain ⟨s1, s2⟩ := HSZ.out x (List.mem_of_getElem? hx)
      clear hx
      have cG := fun W => rGood_c x W s1 s2
      cases hg : goodB x with
      | false =>
        exfalso
        have := okUpto_mono ts (i + 1) n (by omega) (okUpto_bad ts i x HX.out hg)
        rw [HBAD.out] at this; cases this
      | true =>
        rw [hg] at cG
        have HGd : Hid (goodB x = true) := hg
        clear hg
        go_wp2_with (go_at_call 22; refine (cG _).mono ?_; rintro e w1 ⟨rfl, hb1⟩)
        clear cG c0 c1 c2
        have hbw : Below w.heap.size w w1 := hbx.trans (hb1.mono hbx.size)
        clear hb1
        go_loopw [8] (fun v wx => ∃ k : Nat, k ≤ i ∧ v = .int .i64 k ∧ Hid (newName ts k x = true) ∧ Below w.heap.size w wx) (fun v _ => i - (intOf v).toNat)
        case atStart => exact ⟨0, by omega, rfl, rfl, hbw⟩
        case round =>
          obtain ⟨k, hk, rfl, hnew, hbk⟩ := hrel
          by_cases hlk : k < i
          · have klk : (k : Int) < i := by omega
            have klkn : (k : Int) < n := by omega
            obtain ⟨y, hy⟩ : ∃ y, ts[k]? = some y := ⟨_, List.getElem?_eq_getElem (by rw [HL.out]; omega)⟩
            have HY : Hid (ts[k]? = some y) := hy
            obtain ⟨d0, _, _⟩ := tens_cells (HT.out.below hbk hb) k y hy
            obtain ⟨e0, _, _⟩ := tens_cells (HT.out.below hbk hb) i x HX.out
            clear hy
            cases he : (y.n.toList == x.n.toList) with
            | true =>
              exfalso
              have := okUpto_mono ts (i + 1) n (by omega) (okUpto_dup ts i k x y hlk HX.out HY.out he)
              rw [HBAD.out] at this; cases this
            | false =>
              have HE : Hid ((y.n.toList == x.n.toList) = false) := he
              go_wp2_with fail
              go_quiet (fail)
              go_wp2
              go_roundw
              case rel => exact ⟨k + 1, by omega, by go_num, by show _ = _; rw [newName_step ts k x y HY.out, hnew.out, HE.out]; rfl, below_drewN hbk _⟩
              case measure => simp [intOf] <;> omega
          · have klk : ¬ (k : Int) < i := by omega
            obtain rfl : k = i := by omega
            go_wp2_with fail
            go_roundw
            case rel => exact ⟨k + 1, by omega, by go_num, okUpto_step ts k x HX.out hok.out HGd.out hnew.out, hbk⟩
            case measure => simp [intOf] <;> omega
    · have klt : ¬ (i : Int) < n := by omega
      by_cases hc0 : conns ≤ 0
      · go_wp2
        go_ret2
        exact ⟨rfl, hbx⟩
      · have hc8 : 8 < conns := by omega
        go_wp2
        go_ret2
        exact ⟨rfl, hbx⟩

set_option maxRecDepth 100000 in
set_option maxHeartbeats 4000000 in
/-- the tenants may be -/
theorem rOpen_ok (b off n c : Nat) (conns : Int) (ts : List Ten) (w : World) (hl : ts.length = n) (hT : TensAt w b off ts) (hb : b < w.heap.size) (h1 : 1 ≤ n) (h5 : n ≤ 5)
    (hsz : ∀ x ∈ ts, x.n.size ≤ 9223372036854775806 ∧ x.k.size ≤ 9223372036854775806) (hbad : okUpto ts n = true) (hc0 : ¬ conns ≤ 0) (hc8 : ¬ 8 < conns) :
    Calls Try.prog 8 #[.slice (some ⟨b, off, none⟩) n c, .int .i64 conns] w fun e w' => ∃ g tv, e = .returned (.tuple #[.pointer (some ⟨g, 0, none⟩), .int .i64 0]) ∧ w.heap.size ≤ g ∧ w'.heap[g]? = some (.cells (srvL tv conns 0).toArray 66 (0, 0)) ∧ Below w.heap.size w w' := by
  obtain ⟨i0, hi, hz0, hz1, hz2⟩ := info_parts infoTen
  have k0 : ((n : Int) == 0) = false := beq_eq_false_iff_ne.2 (by omega)
  have k5 : ¬ (5 : Int) < n := by omega
  have HL : Hid (ts.length = n) := hl
  have HT : Hid (TensAt w b off ts) := hT
  have HSZ : Hid (∀ x ∈ ts, x.n.size ≤ 9223372036854775806 ∧ x.k.size ≤ 9223372036854775806) := hsz
  have HBAD : Hid (okUpto ts n = true) := hbad
  clear hl hT hsz hbad
  go_enter Try.func8, Try.ntmps8
  go_wp2_with fail
  go_loopw [6] (fun i wx => ∃ j : Nat, j ≤ n ∧ i = .int .i64 j ∧ Hid (okUpto ts j = true) ∧ Below w.heap.size w wx) (fun i _ => n - (intOf i).toNat)
  case atStart => exact ⟨0, by omega, rfl, rfl, Below.refl _ _⟩
  case round =>
    obtain ⟨i, hii, rfl, hok, hbx⟩ := hrel
    by_cases hlt : i < n
    · have klt : (i : Int) < n := by omega
      obtain ⟨x, hx⟩ : ∃ x, ts[i]? = some x := ⟨_, List.getElem?_eq_getElem (by rw [HL.out]; exact hlt)⟩
      have HX : Hid (ts[i]? = some x) := hx
      obtain ⟨c0, c1, c2⟩ := tens_cells (HT.out.below hbx hb) i x hx
      obtain ⟨s1, s2⟩ := HSZ.out x (List.mem_of_getElem? hx)
      clear hx
      have cG := fun W => rGood_c x W s1 s2
      cases hg : goodB x with
      | false =>
        exfalso
        have := okUpto_mono ts (i + 1) n (by omega) (okUpto_bad ts i x HX.out hg)
        rw [HBAD.out] at this; cases this
      | true =>
        rw [hg] at cG
        have HGd : Hid (goodB x = true) := hg
        clear hg
        go_wp2_with (go_at_call 22; refine (cG _).mono ?_; rintro e w1 ⟨rfl, hb1⟩)
        clear cG c0 c1 c2
        have hbw : Below w.heap.size w w1 := hbx.trans (hb1.mono hbx.size)
        clear hb1
        go_loopw [8] (fun v wx => ∃ k : Nat, k ≤ i ∧ v = .int .i64 k ∧ Hid (newName ts k x = true) ∧ Below w.heap.size w wx) (fun v _ => i - (intOf v).toNat)
        case atStart => exact ⟨0, by omega, rfl, rfl, hbw⟩
        case round =>
          obtain ⟨k, hk, rfl, hnew, hbk⟩ := hrel
          by_cases hlk : k < i
          · have klk : (k : Int) < i := by omega
            have klkn : (k : Int) < n := by omega
            obtain ⟨y, hy⟩ : ∃ y, ts[k]? = some y := ⟨_, List.getElem?_eq_getElem (by rw [HL.out]; omega)⟩
            have HY : Hid (ts[k]? = some y) := hy
            obtain ⟨d0, _, _⟩ := tens_cells (HT.out.below hbk hb) k y hy
            obtain ⟨e0, _, _⟩ := tens_cells (HT.out.below hbk hb) i x HX.out
            clear hy
            cases he : (y.n.toList == x.n.toList) with
            | true =>
              exfalso
              have := okUpto_mono ts (i + 1) n (by omega) (okUpto_dup ts i k x y hlk HX.out HY.out he)
              rw [HBAD.out] at this; cases this
            | false =>
              have HE : Hid ((y.n.toList == x.n.toList) = false) := he
              go_wp2_with fail
              go_quiet (fail)
              go_wp2
              go_roundw
              case rel => exact ⟨k + 1, by omega, by go_num, by show _ = _; rw [newName_step ts k x y HY.out, hnew.out, HE.out]; rfl, below_drewN hbk _⟩
              case measure => simp [intOf] <;> omega
          · have klk : ¬ (k : Int) < i := by omega
            obtain rfl : k = i := by omega
            go_wp2_with fail
            go_roundw
            case rel => exact ⟨k + 1, by omega, by go_num, okUpto_step ts k x HX.out hok.out HGd.out hnew.out, hbk⟩
            case measure => simp [intOf] <;> omega
    · have klt : ¬ (i : Int) < n := by omega
      have z1 := zero_srv
      have z2 : ∀ v, (srvL (.slice none 0 0) 0 0).toArray.setIfInBounds 1 (.int .i64 v) = (srvL (.slice none 0 0) v 0).toArray := fun _ => rfl
      have z3 : ¬ (srvL (.slice none 0 0) 0 0).toArray.size < 2 := by decide
      have z4 : ¬ (srvL (.slice none 0 0) 0 0).length < 2 := by decide
      have z5 : ∀ v, (srvL (.slice none 0 0) v 0)[0]? = some (.slice none 0 0) := fun _ => rfl
      have z6 : ∀ v, (srvL (.slice none 0 0) v 0).toArray[0]? = some (.slice none 0 0) := fun _ => rfl
      have hbr : b < wr.heap.size := Nat.lt_of_lt_of_le hb hbx.size
      go_wp2_with (at_builtin; refine wpList_append_own _ rfl _ _ 22 rfl w.heap.size 40 i0 _ 3 40 Try.underlying22 hi hz0 hz1 hz2 rfl (by decide) (.slice none 0 0) 0 [] rfl (World.ownsRow_nil _ _ _ _) ⟨b, off, none⟩ n c (flatT ts) rfl ?c0 ?c1 (flatT_one ts) ?c3 ?c4 ?c5 ?_)
      case c0 => rw [flatT_length, HL.out]
      case c1 =>
        intro j v hj
        exact (HT.out.below hbx hb) j v hj
      case c3 => unfold maxLen; omega
      case c4 => omega
      case c5 => have := hbx.size; simp <;> omega
      intro v' w2 hown hgrow _
      have hg2 : w2.heap[wr.heap.size]? = some (.cells (srvL (.slice none 0 0) conns 0).toArray 66 (0, 0)) := (hgrow.block wr.heap.size (by simp) (by intro h; cases h)).trans (alloc_at _ _ _ rfl)
      have c0 : w2.cell? ⟨wr.heap.size, 0, none⟩ = some (.slice none 0 0) := heap_cell hg2 0 rfl
      have hex : ∃ g' cap', v' = .slice (some ⟨g', 0, none⟩) n cap' := by
        rcases hown.2 with ⟨_, h⟩ | ⟨g', cap', _, h, _⟩
        · omega
        · exact ⟨g', cap', h⟩
      obtain ⟨g', cap', hv⟩ := hex
      rw [hv]
      have f0 := heap_frozen hg2 0
      have HG : Hid (w2.heap[wr.heap.size]? = some (.cells (srvL (.slice none 0 0) conns 0).toArray 66 (0, 0))) := hg2
      have hbw : Below w.heap.size w w2 := (hbx.alloc hbx.size _).grown hgrow (by have := hbx.size; simp <;> omega) (by intro k h; cases h)
      have hsx := hbx.size
      clear hg2 hown hgrow hv z1 z2 z3 z4 z5 z6
      go_wp2
      go_ret2
      refine ⟨wr.heap.size, .slice (some ⟨g', 0, none⟩) n cap', rfl, hsx, ?_, hbw.setCell (p := ⟨wr.heap.size, 0, none⟩) hsx _⟩
      rw [set_heap _ _ _ _ _ _ _ HG.out]
      rfl

end Go.Proofs.Ytpdmafpgdiefpaa
