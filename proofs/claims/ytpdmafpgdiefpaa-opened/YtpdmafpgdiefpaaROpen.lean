import Derived.Test.YtpdmafpgdiefpaaGood
namespace Go.Proofs.Ytpdmafpgdiefpaa
open Go.RowKit Go.Builtin

/-- the names of the first k differ from this one -/
def newName (ts : List Ten) (k : Nat) (x : Ten) : Bool := (ts.take k).all fun y => !(y.n.toList == x.n.toList)
def okUpto (ts : List Ten) : Nat → Bool
  | 0 => true
  | i + 1 => okUpto ts i && (match ts[i]? with | some x => goodB x && newName ts i x | none => true)
def tensOk (ts : List Ten) : Bool := decide (1 ≤ ts.length) && decide (ts.length ≤ 5) && okUpto ts ts.length
/-- the error that the document asks for -/
def openErr (ts : List Ten) (conns : Int) : Int := if tensOk ts = false then 1 else if conns ≤ 0 ∨ 8 < conns then 2 else 0

theorem okUpto_mono (ts : List Ten) : ∀ (i j : Nat), i ≤ j → okUpto ts i = false → okUpto ts j = false
  | i, j, h, hi => by
    induction j with
    | zero => obtain rfl : i = 0 := by omega
              exact hi
    | succ j ih =>
      by_cases he : i = j + 1
      · subst he; exact hi
      · unfold okUpto; rw [ih (by omega)]; rfl
theorem okUpto_bad (ts : List Ten) (i : Nat) (x : Ten) (h : ts[i]? = some x) (hb : goodB x = false) : okUpto ts (i + 1) = false := by
  unfold okUpto; rw [h]; simp [hb]
theorem newName_step (ts : List Ten) (k : Nat) (x y : Ten) (h : ts[k]? = some y) : newName ts (k + 1) x = (newName ts k x && !(y.n.toList == x.n.toList)) := by
  unfold newName
  rw [List.take_add_one, h, List.all_append]; simp
theorem newName_mono (ts : List Ten) (x : Ten) : ∀ (i j : Nat), i ≤ j → newName ts i x = false → newName ts j x = false
  | i, j, h, hi => by
    unfold newName at *
    rw [List.all_eq_false] at *
    obtain ⟨y, hy, hn⟩ := hi
    exact ⟨y, (List.take_prefix_take_left h).subset hy, hn⟩
theorem okUpto_dup (ts : List Ten) (i k : Nat) (x y : Ten) (hk : k < i) (h : ts[i]? = some x) (hy : ts[k]? = some y) (he : (y.n.toList == x.n.toList) = true) : okUpto ts (i + 1) = false := by
  have h1 : newName ts (k + 1) x = false := by rw [newName_step ts k x y hy, he]; simp
  have h2 := newName_mono ts x (k + 1) i (by omega) h1
  unfold okUpto; rw [h]; simp [h2]
theorem okUpto_step (ts : List Ten) (i : Nat) (x : Ten) (h : ts[i]? = some x) (h0 : okUpto ts i = true) (hg : goodB x = true) (hn : newName ts i x = true) : okUpto ts (i + 1) = true := by
  unfold okUpto; rw [h0, h]; simp [hg, hn]

theorem tens_cells {w : World} {b off : Nat} {ts : List Ten} (h : TensAt w b off ts) (i : Nat) (x : Ten) (hi : ts[i]? = some x) :
    w.cell? ⟨b, off + i * 3, none⟩ = some (.string x.n) ∧ w.cell? ⟨b, off + i * 3 + 1, none⟩ = some (.string x.k) ∧ w.cell? ⟨b, off + i * 3 + 2, none⟩ = some (.int .i64 x.q) := by
  obtain ⟨z0, z1, z2⟩ := flatT_get ts i x hi
  exact ⟨h _ _ z0, by have := h _ _ z1; rwa [← Nat.add_assoc] at this, by have := h _ _ z2; rwa [← Nat.add_assoc] at this⟩
theorem TensAt.below {w w' : World} {b off : Nat} {ts : List Ten} (h : TensAt w b off ts) (hb : Below w.heap.size w w') (hl : b < w.heap.size) : TensAt w' b off ts :=
  fun j v hj => (hb.cell (p := ⟨b, off + j, none⟩) hl).trans (h j v hj)

theorem TensAt.belowAny {w w' : World} {b off : Nat} {ts : List Ten} (h : TensAt w b off ts) (hb : Below w.heap.size w w') : TensAt w' b off ts :=
  fun j v hj => (hb.cell (p := ⟨b, off + j, none⟩) (World.block_lt_of_cell? _ _ (h j v hj))).trans (h j v hj)
theorem rOpen_len (a : Option Addr) (n c : Nat) (conns : Int) (w : World) (hn : n = 0 ∨ 5 < n) (hn63 : n ≤ 9223372036854775806) : Calls Try.prog 8 #[.slice a n c, .int .i64 conns] w fun e w' => e = .returned (.tuple #[.pointer none, .int .i64 1]) ∧ w' = w := by
  by_cases h0 : n = 0
  · subst h0
    go_enter Try.func8, Try.ntmps8
    go_wp2
    go_ret2
    exact ⟨rfl, rfl⟩
  · have k0 : ((n : Int) == 0) = false := beq_eq_false_iff_ne.2 (by omega)
    have k5 : (5 : Int) < n := by omega
    go_enter Try.func8, Try.ntmps8
    go_wp2
    go_ret2
    exact ⟨rfl, rfl⟩

set_option maxRecDepth 100000 in
set_option maxHeartbeats 4000000 in
/-- one tenant may not be, or two have one name -/
theorem rOpen_loop (b off n c : Nat) (conns : Int) (ts : List Ten) (w : World) (hl : ts.length = n) (hT : TensAt w b off ts) (hb : b < w.heap.size) (h1 : 1 ≤ n) (h5 : n ≤ 5)
    (hsz : ∀ x ∈ ts, x.n.size ≤ 9223372036854775806 ∧ x.k.size ≤ 9223372036854775806) (hbad : okUpto ts n = false) :
    Calls Try.prog 8 #[.slice (some ⟨b, off, none⟩) n c, .int .i64 conns] w fun e w' => e = .returned (.tuple #[.pointer none, .int .i64 1]) ∧ Below w.heap.size w w' := by
  have k0 : ((n : Int) == 0) = false := beq_eq_false_iff_ne.2 (by omega)
  have k5 : ¬ (5 : Int) < n := by omega
  have HL : Hid (ts.length = n) := hl
  have HT : Hid (TensAt w b off ts) := hT
  have HSZ : Hid (∀ x ∈ ts, x.n.size ≤ 9223372036854775806 ∧ x.k.size ≤ 9223372036854775806) := hsz
  have HBAD : Hid (okUpto ts n = false) := hbad
  clear hl hT hsz hbad
  go_enter Try.func8, Try.ntmps8
  go_wp2_with fail
  go_loopw [6] (fun i wx => ∃ j : Nat, j ≤ n ∧ i = .int .i64 j ∧ Hid (okUpto ts j = true) ∧ Below w.heap.size w wx) (fun i _ => n - (intOf i).toNat)
  case atStart => exact ⟨0, by omega, rfl, rfl, Below.refl _ _⟩
  case round =>
    obtain ⟨i, hi, rfl, hok, hbx⟩ := hrel
    by_cases hlt : i < n
    · have klt : (i : Int) < n := by omega
      obtain ⟨x, hx⟩ : ∃ x, ts[i]? = some x := ⟨_, List.getElem?_eq_getElem (by rw [HL.out]; exact hlt)⟩
      have HX : Hid (ts[i]? = some x) := hx
      obtain ⟨c0, c1, c2⟩ := tens_cells (HT.out.below hbx hb) i x hx
      obtain ⟨s1, s2⟩ := HSZ.out x (List.mem_of_getElem? hx)
      clear hx
      have cG := fun W => rGood_c x W s1 s2
      cases hg : goodB x with
      | false =>
        rw [hg] at cG
        have HF : Hid (goodB x = false) := hg
        clear hg
        go_wp2_with (go_at_call 22; refine (cG _).mono ?_; rintro e w1 ⟨rfl, hb1⟩)
        go_ret2
        exact ⟨rfl, hbx.trans (hb1.mono hbx.size)⟩
      | true =>
        rw [hg] at cG
        have HGd : Hid (goodB x = true) := hg
        clear hg
        go_wp2_with (go_at_call 22; refine (cG _).mono ?_; rintro e w1 ⟨rfl, hb1⟩)
        clear cG c0 c1 c2
        have hbw : Below w.heap.size w w1 := hbx.trans (hb1.mono hbx.size)
        clear hb1
        go_loopw [8] (fun v wx => ∃ k : Nat, k ≤ i ∧ v = .int .i64 k ∧ Hid (newName ts k x = true) ∧ Below w.heap.size w wx) (fun v _ => i - (intOf v).toNat)
        case atStart => exact ⟨0, by omega, rfl, rfl, hbw⟩
        case round =>
          obtain ⟨k, hk, rfl, hnew, hbk⟩ := hrel
          by_cases hlk : k < i
          · have klk : (k : Int) < i := by omega
            have klkn : (k : Int) < n := by omega
            obtain ⟨y, hy⟩ : ∃ y, ts[k]? = some y := ⟨_, List.getElem?_eq_getElem (by rw [HL.out]; omega)⟩
            have HY : Hid (ts[k]? = some y) := hy
            obtain ⟨d0, _, _⟩ := tens_cells (HT.out.below hbk hb) k y hy
            obtain ⟨e0, _, _⟩ := tens_cells (HT.out.below hbk hb) i x HX.out
            clear hy
            cases he : (y.n.toList == x.n.toList) with
            | true =>
              go_wp2_with fail
              go_quiet (fail)
              go_wp2
              go_ret2
              exact ⟨rfl, below_drewN hbk _⟩
            | false =>
              have HE : Hid ((y.n.toList == x.n.toList) = false) := he
              go_wp2_with fail
              go_quiet (fail)
              go_wp2
              go_roundw
              case rel => exact ⟨k + 1, by omega, by go_num, by show _ = _; rw [newName_step ts k x y HY.out, hnew.out, HE.out]; rfl, below_drewN hbk _⟩
              case measure => simp [intOf] <;> omega
          · have klk : ¬ (k : Int) < i := by omega
            obtain rfl : k = i := by omega
            go_wp2_with fail
            go_roundw
            case rel => exact ⟨k + 1, by omega, by go_num, okUpto_step ts k x HX.out hok.out HGd.out hnew.out, hbk⟩
            case measure => simp [intOf] <;> omega
    · exfalso
      obtain rfl : i = n := by omega
      have := hok.out
      rw [HBAD.out] at this
      cases this
end Go.Proofs.Ytpdmafpgdiefpaa
