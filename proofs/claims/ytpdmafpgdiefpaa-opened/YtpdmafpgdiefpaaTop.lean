import Derived.Test.YtpdmafpgdiefpaaOpen
namespace Go.Proofs.Ytpdmafpgdiefpaa
open Go.RowKit Go.Builtin

theorem opened_quiet (w : World) (v : Value) (conns : Int) (P : World → Prop) (cO : Calls Try.prog 4 #[v, .int .i64 conns] w fun e w' => e = .returned (.tuple #[.pointer none, .bool true]) ∧ P w') :
    Calls Try.prog 3 #[v, .int .i64 conns] w fun e w' => e = .returned (.bool true) ∧ P w' := by
  go_enter Try.func3, Try.ntmps3
  go_wp2_with (go_at_call 4; refine cO.mono ?_; rintro e w1 ⟨rfl, hp⟩)
  go_ret
  exact ⟨rfl, hp⟩

set_option maxRecDepth 100000 in
set_option maxHeartbeats 2000000 in
theorem opened_dials (w : World) (v : Value) (conns : Nat) (h1 : 1 ≤ conns) (h8 : conns ≤ 8) (cO : Calls Try.prog 4 #[v, .int .i64 conns] w fun e w' => OpenOk w conns e w') :
    Calls Try.prog 3 #[v, .int .i64 conns] w fun e w' => e = .returned (.bool true) ∧ Below w.heap.size w w' := by
  go_enter Try.func3, Try.ntmps3
  go_wp2_with (go_at_call 4; refine cO.mono ?_; rintro e w1 ⟨p, g, h, r, rfl, hp, hg, hh, hr, B1, hb1⟩)
  refine (doesTake_c w1 p g h r conns h1 B1).mono ?_
  rintro e w2 ⟨rfl, B2, hb2⟩
  have HB2 : Hid (Below w.heap.size w w2) := hb1.trans (hb2.mono hb1.size)
  have HO2 : Hid (Both w2 p g h r conns 0) := B2
  clear hb1 hb2 B1 B2
  go_wp2_with fail
  go_loopw [8] (fun i wx => ∃ k d : Nat, k ≤ 9 ∧ d ≤ conns ∧ i = .int .i64 k ∧ Hid (Both wx p g h r conns d) ∧ Hid (Below w.heap.size w wx)) (fun i _ => 9 - (intOf i).toNat)
  case atStart => exact ⟨0, 0, by omega, by omega, rfl, HO2.out, HB2.out⟩
  case round =>
    obtain ⟨k, d, hk, hd, rfl, hB, hbx⟩ := hrel
    by_cases hlt : k < 9
    · have klt : (k : Int) < 9 := by omega
      go_wp2_with (go_at_call 5; refine (doesDial_c _ p g h r conns d hd h8 hB.out).mono ?_; rintro e w3 ⟨rfl, B3, hf3, hs3, ho3⟩)
      go_roundw
      case rel =>
        refine ⟨k + 1, if (d : Int) < conns then d + 1 else d, by omega, by split <;> omega, by go_num, B3, ?_⟩
        exact hbx.out.trans ⟨ho3.1, ho3.2.1, ho3.2.2, hs3, fun j hj => hf3 j (by omega) (by omega) (Nat.lt_of_lt_of_le hj hbx.out.size)⟩
      case measure => simp [intOf] <;> omega
    · have klt : ¬ (k : Int) < 9 := by omega
      go_wp2
      go_ret
      exact ⟨rfl, hbx.out⟩

/-- the whole, of a slice that is there -/
theorem opened_c (w : World) (b off n c : Nat) (sp : Option Nat) (conns : Int) (ts : List Ten) (hl : ts.length = n) (hT : TensAt w b off ts) (hsp : n = 0 ∨ sp = none) (hn : n ≤ 3518437208780)
    (hsz : ∀ x ∈ ts, x.n.size ≤ 281474976710656 ∧ x.k.size ≤ 281474976710656) :
    Calls Try.prog 3 #[.slice (some ⟨b, off, sp⟩) n c, .int .i64 conns] w fun e w' => e = .returned (.bool true) ∧ Below w.heap.size w w' := by
  have hsz2 : ∀ x ∈ ts, x.n.size ≤ 9223372036854775806 ∧ x.k.size ≤ 9223372036854775806 := fun x hx => ⟨Nat.le_trans (hsz x hx).1 (by decide), Nat.le_trans (hsz x hx).2 (by decide)⟩
  by_cases hlen : n = 0 ∨ 5 < n
  · refine opened_quiet w _ conns (fun w' => Below w.heap.size w w') ?_
    refine open_err w b off n c sp conns ts hl hT hsp hn 1 (Or.inl rfl) ?_ ?_
    · intro W _ _
      exact pOpen_err _ n (n + 8) conns W _ ((byName_len _ n (n + 8) W hlen (by omega)).mono (by rintro e w' ⟨rfl, rfl⟩; exact ⟨rfl, Below.refl _ _⟩))
    · intro W _
      exact (rOpen_len _ n c conns W hlen (by omega)).mono (by rintro e w' ⟨rfl, rfl⟩; exact ⟨rfl, Below.refl _ _⟩)
  · have h1 : 1 ≤ n := by omega
    obtain rfl : sp = none := hsp.resolve_left (by omega)
    have tl : ∀ W : World, TensAt W b off ts → b < W.heap.size := fun W h => tens_lt h (by omega)
    have h5 : n ≤ 5 := by omega
    cases hok : okUpto ts n with
    | false =>
      refine opened_quiet w _ conns (fun w' => Below w.heap.size w w') ?_
      refine open_err w b off n c none conns ts hl hT hsp hn 1 (Or.inl rfl) ?_ ?_
      · intro W hTW hbW
        exact pOpen_err _ n (n + 8) conns W _ (byName_bad _ 0 n (n + 8) ts W hl hTW hbW h1 h5 hsz hok)
      · intro W hTW
        exact rOpen_loop b off n c conns ts W hl hTW (tl W hTW) h1 h5 hsz2 hok
    | true =>
      by_cases hc : conns ≤ 0 ∨ 8 < conns
      · refine opened_quiet w _ conns (fun w' => Below w.heap.size w w') ?_
        refine open_err w b off n c none conns ts hl hT hsp hn 2 (Or.inr rfl) ?_ ?_
        · intro W hTW hbW
          exact pOpen_arg _ n (n + 8) conns W (byName_ok _ 0 n (n + 8) ts W hl hTW hbW h1 h5 hsz hok) hc
        · intro W hTW
          exact rOpen_arg b off n c conns ts W hl hTW (tl W hTW) h1 h5 hsz2 hok hc
      · obtain ⟨m, rfl⟩ : ∃ m : Nat, conns = (m : Int) := ⟨conns.toNat, by omega⟩
        refine opened_dials w _ m (by omega) (by omega) ?_
        refine open_ok w b off n c none m ts hl hT hsp hn ?_ ?_
        · intro W hTW hbW
          exact pOpen_ok _ n (n + 8) m W (byName_ok _ 0 n (n + 8) ts W hl hTW hbW h1 h5 hsz hok) (by omega) (by omega)
        · intro W hTW
          exact rOpen_ok b off n c m ts W hl hTW (tl W hTW) h1 h5 hsz2 hok (by omega) (by omega)
end Go.Proofs.Ytpdmafpgdiefpaa
