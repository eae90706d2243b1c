import Derived.Test.YtdpnpcjbjjjceaaGreatDoorBSt6
import Derived.Test.YtdpnpcjbjjjceaaGreatDoorBOStill
set_option linter.unusedSimpArgs false
set_option linter.unusedVariables false
namespace Go.Proofs.YtdpnpcjbjjjceaaGreatDoor.O
open Go.RowKit Go.Builtin
set_option maxRecDepth 20000

def withinB (s : ByteArray) (most lo hi : Nat) : Bool := decide (1 ≤ s.size) && decide (s.size ≤ most) && bytesIn s lo hi

theorem within_c (s : ByteArray) (most lo hi : Nat) (w : World) (hs : s.size ≤ 9223372036854775806) : Calls Tryz.prog 116 #[.string s, .int .i64 (most : Int), .int .u8 (lo : Int), .int .u8 (hi : Int)] w fun e w' => e = .returned (.bool (withinB s most lo hi)) ∧ w' = w := by
  by_cases h1 : s.size < 1
  · have k1 : (s.size : Int) < 1 := by omega
    have HF : Hid (withinB s most lo hi = false) := by show _ = _; unfold withinB; rw [decide_eq_false (by omega)]; rfl
    go_enter Tryz.func116, Tryz.ntmps116
    go_wp2
    go_ret
    exact ⟨by rw [HF.out]; rfl, rfl⟩
  have k1 : ¬ (s.size : Int) < 1 := by omega
  by_cases h2 : most < s.size
  · have k2 : (most : Int) < s.size := by omega
    have HF : Hid (withinB s most lo hi = false) := by show _ = _; unfold withinB; rw [decide_eq_false (show ¬ s.size ≤ most by omega)]; simp
    go_enter Tryz.func116, Tryz.ntmps116
    go_wp2
    go_ret
    exact ⟨by rw [HF.out]; rfl, rfl⟩
  have k2 : ¬ (most : Int) < s.size := by omega
  have HW : Hid (withinB s most lo hi = bytesIn s lo hi) := by show _ = _; unfold withinB; rw [decide_eq_true (show 1 ≤ s.size by omega), decide_eq_true (show s.size ≤ most by omega)]; simp
  go_enter Tryz.func116, Tryz.ntmps116
  go_wp2
  go_loop [21] (fun i => ∃ k : Nat, k ≤ s.size ∧ i = .int .i64 k ∧ Hid (∀ j (hj : j < s.size), j < k → okIn lo hi s[j] = true)) (fun i => s.size - (intOf i).toNat)
  case atStart => exact ⟨0, by omega, rfl, fun j _ h => by omega⟩
  case round =>
    obtain ⟨k, hk, rfl, HA⟩ := hrel
    by_cases hlt : k < s.size
    · have klt : (k : Int) < s.size := by omega
      by_cases hlo : s[k].toNat < lo
      · have klo : (s[k].toNat : Int) < lo := by omega
        have HF : Hid (bytesIn s lo hi = false) := bytes_not s lo hi k hlt (by simp [okIn]; omega)
        go_wp2
        go_ret
        exact ⟨by rw [HW.out, HF.out]; rfl, rfl⟩
      · have klo : ¬ (s[k].toNat : Int) < lo := by omega
        by_cases hhi : hi < s[k].toNat
        · have khi : (hi : Int) < s[k].toNat := by omega
          have HF : Hid (bytesIn s lo hi = false) := bytes_not s lo hi k hlt (by simp [okIn]; omega)
          go_wp2
          go_ret
          exact ⟨by rw [HW.out, HF.out]; rfl, rfl⟩
        · have khi : ¬ (hi : Int) < s[k].toNat := by omega
          go_wp2
          go_round
          case rel => exact ⟨k + 1, by omega, by go_num, fun j hj hjk => by
            by_cases hjj : j < k
            · exact HA.out j hj hjj
            · obtain rfl : j = k := by omega
              simp [okIn]; omega⟩
          case measure => simp [intOf] <;> omega
    · have klt : ¬ (k : Int) < s.size := by omega
      have HF : Hid (bytesIn s lo hi = true) := bytes_all s lo hi (fun j hj => HA.out j hj (by omega))
      go_wp2
      go_ret
      exact ⟨by rw [HW.out, HF.out]; rfl, rfl⟩

theorem word_c (s : ByteArray) (w : World) (hs : s.size ≤ 9223372036854775806) : Calls Tryz.prog 82 #[.string s, .int .i64 16] w fun e w' => e = .returned (.bool (withinB s 16 33 126)) ∧ w' = w := by
  have c := within_c s 16 33 126 w hs
  go_enter Tryz.func82, Tryz.ntmps82
  go_wp2_with (go_at_call 116; refine c.mono ?_; rintro e w' ⟨rfl, rfl⟩)
  go_ret
  exact ⟨rfl, rfl⟩
theorem letters_c (s : ByteArray) (w : World) (hs : s.size ≤ 9223372036854775806) : Calls Tryz.prog 81 #[.string s, .int .i64 8] w fun e w' => e = .returned (.bool (withinB s 8 97 122)) ∧ w' = w := by
  have c := within_c s 8 97 122 w hs
  go_enter Tryz.func81, Tryz.ntmps81
  go_wp2_with (go_at_call 116; refine c.mono ?_; rintro e w' ⟨rfl, rfl⟩)
  go_ret
  exact ⟨rfl, rfl⟩
theorem clone_c (s : ByteArray) (w : World) (hs : s.size ≤ 281474976710656) : Calls Tryz.prog 47 #[.string s] w fun e w' => e = .returned (.string s) ∧ Below w.heap.size w w' := S.clone_s s w hs

theorem good_split (t : Ten) : goodB t = (withinB t.n 8 97 122 && withinB t.k 16 33 126 && decide (1 ≤ t.q) && decide (t.q ≤ 2000)) := by
  unfold goodB withinB
  have e1 : decide (0 < t.q) = decide (1 ≤ t.q) := decide_eq_decide.2 (by omega)
  have e2 : decide (0 < t.n.size) = decide (1 ≤ t.n.size) := decide_eq_decide.2 (by omega)
  have e3 : decide (0 < t.k.size) = decide (1 ≤ t.k.size) := decide_eq_decide.2 (by omega)
  rw [e1, e2, e3]
  cases bytesIn t.n 97 122 <;> cases bytesIn t.k 33 126 <;> cases decide (1 ≤ t.n.size) <;> cases decide (t.n.size ≤ 8) <;> cases decide (1 ≤ t.k.size) <;> cases decide (t.k.size ≤ 16) <;> simp

set_option maxRecDepth 100000 in
theorem mayBe_c (t : Ten) (w : World) (hn : t.n.size ≤ 9223372036854775806) (hk : t.k.size ≤ 9223372036854775806) : Calls Tryz.prog 64 #[.agg #[.string t.n, .string t.k, .int .i64 t.q]] w fun e w' => e = .returned (.bool (goodB t)) ∧ Below w.heap.size w w' := by
  have hB : Below w.heap.size w (w.alloc (.cells #[.string t.n, .string t.k, .int .i64 t.q] 32)) := (Below.refl _ _).alloc (Nat.le_refl _) _
  have hg := good_split t
  have c1 := fun W => letters_c t.n W hn
  have c2 := fun W => word_c t.k W hk
  cases h1 : withinB t.n 8 97 122 with
  | false =>
    have HF : Hid (goodB t = false) := by show _ = _; rw [hg, h1]; simp
    rw [h1] at c1
    clear hg h1
    go_enter Tryz.func64, Tryz.ntmps64
    go_wp2_with (first
      | (go_at_call 81; refine (c1 _).mono ?_; rintro e w1 ⟨rfl, hw⟩; rw [hw]; clear hw)
      | (go_at_call 82; refine (c2 _).mono ?_; rintro e w1 ⟨rfl, hw⟩; rw [hw]; clear hw))
    go_ret
    exact ⟨by rw [HF.out]; rfl, hB⟩
  | true =>
    rw [h1] at c1
    cases h2 : withinB t.k 16 33 126 with
    | false =>
      have HF : Hid (goodB t = false) := by show _ = _; rw [hg, h1, h2]; simp
      rw [h2] at c2
      clear hg h1 h2
      go_enter Tryz.func64, Tryz.ntmps64
      go_wp2_with (first
        | (go_at_call 81; refine (c1 _).mono ?_; rintro e w1 ⟨rfl, hw⟩; rw [hw]; clear hw)
        | (go_at_call 82; refine (c2 _).mono ?_; rintro e w1 ⟨rfl, hw⟩; rw [hw]; clear hw))
      go_ret
      exact ⟨by rw [HF.out]; rfl, hB⟩
    | true =>
      rw [h2] at c2
      by_cases h3 : 1 ≤ t.q
      · by_cases h4 : t.q ≤ 2000
        · have HF : Hid (goodB t = true) := by show _ = _; rw [hg, h1, h2]; simp [h3, h4]
          clear hg h1 h2
          go_enter Tryz.func64, Tryz.ntmps64
          go_wp2_with (first
            | (go_at_call 81; refine (c1 _).mono ?_; rintro e w1 ⟨rfl, hw⟩; rw [hw]; clear hw)
            | (go_at_call 82; refine (c2 _).mono ?_; rintro e w1 ⟨rfl, hw⟩; rw [hw]; clear hw))
          go_ret
          exact ⟨by rw [HF.out]; first | rfl | (simp <;> omega), hB⟩
        · have HF : Hid (goodB t = false) := by show _ = _; rw [hg, h1, h2]; simp [h4]
          clear hg h1 h2
          go_enter Tryz.func64, Tryz.ntmps64
          go_wp2_with (first
            | (go_at_call 81; refine (c1 _).mono ?_; rintro e w1 ⟨rfl, hw⟩; rw [hw]; clear hw)
            | (go_at_call 82; refine (c2 _).mono ?_; rintro e w1 ⟨rfl, hw⟩; rw [hw]; clear hw))
          go_ret
          exact ⟨by rw [HF.out]; first | rfl | (simp <;> omega), hB⟩
      · have HF : Hid (goodB t = false) := by show _ = _; rw [hg, h1, h2]; simp [h3]
        clear hg h1 h2
        go_enter Tryz.func64, Tryz.ntmps64
        go_wp2_with (first
          | (go_at_call 81; refine (c1 _).mono ?_; rintro e w1 ⟨rfl, hw⟩; rw [hw]; clear hw)
          | (go_at_call 82; refine (c2 _).mono ?_; rintro e w1 ⟨rfl, hw⟩; rw [hw]; clear hw))
        go_ret
        exact ⟨by rw [HF.out]; first | rfl | (simp <;> omega), hB⟩
end Go.Proofs.YtdpnpcjbjjjceaaGreatDoor.O
namespace Go.Proofs.YtdpnpcjbjjjceaaGreatDoor.O
open Go.RowKit Go.Builtin
set_option maxRecDepth 20000
open Go.Maps (Keyed)

/-- how a tenant in the program's map reads: that it is there -/
def tenElem (v : Value) : Option (DataW Unit × List MemPlace) :=
  match v with
  | .agg a => match a.toList with
    | [.string _, .pointer _] => some (.lit (.bool true), [])
    | _ => none
  | _ => none
theorem tenElem_inv {v : Value} {z : DataW Unit × List MemPlace} (h : tenElem v = some z) : ∃ s t, v = .agg #[.string s, .pointer t] := by
  unfold tenElem at h
  split at h
  · rename_i a
    split at h
    · rename_i s t he
      refine ⟨s, t, ?_⟩
      congr 1
      apply Array.ext'
      rw [he]
    · cases h
  · cases h

theorem keyedStr : Keyed Tryz.prog 9 := Maps.string_keyed Tryz.underlying9
theorem zeroTen (w : World) : (zeroValue 120).run Tryz.prog w = .ok (.agg #[.string ⟨#[]⟩, .pointer none]) w := by kernel_rfl

def tnLit (x : Ten) : Lit := .string x.n.data.toList
def mapD (ts : List Ten) (i : Nat) : DataW Unit := Maps.setOf (.lit (.bool true)) ((ts.take i).map tnLit)

theorem tolist_data (a : ByteArray) : a.toList = a.data.toList := by
  exact ByteArray.toList_eq a

theorem mapD_has (ts : List Ten) (i : Nat) (x : Ten) : Maps.has (mapD ts i) (tnLit x) = !newName ts i x := by
  unfold mapD
  rw [Maps.has_setOf _ _ _ (by intro y hy; obtain ⟨z, _, rfl⟩ := List.mem_map.1 hy; exact trivial)]
  unfold newName
  induction ts.take i with
  | nil => rfl
  | cons y r ih =>
    rw [List.map_cons, List.any_cons, ih, List.all_cons]
    have e : (tnLit y).sameKey (tnLit x) = (y.n.toList == x.n.toList) := by
      rw [tolist_data, tolist_data]; rfl
    rw [e]
    cases (y.n.toList == x.n.toList) <;> simp
theorem mapD_step (ts : List Ten) (i : Nat) (x : Ten) (h : ts[i]? = some x) : (mapD ts i).put (tnLit x) (.lit (.bool true)) = mapD ts (i + 1) := by
  unfold mapD
  rw [List.take_add_one, h, ← Maps.setOf_snoc]; simp

theorem run_makeMapN {P : Program} {t k e : TypeId} (ht : P.underlying t = some (.map k e)) (w : World) (n : Int) : (Instr.makeMap t (some (.int .i64 n))).run P w = .ok (.map (some w.heap.size)) (w.alloc (.map #[] 0)) := by
  simp [Instr.makeMap, run_underlying ht]
  rfl
theorem run_makeMap0 {P : Program} {t k e : TypeId} (ht : P.underlying t = some (.map k e)) (w : World) : (Instr.makeMap t none).run P w = .ok (.map (some w.heap.size)) (w.alloc (.map #[] 0)) := by
  simp [Instr.makeMap, run_underlying ht]
theorem snew_c (q : Int) (w : World) : Calls Tryz.prog 65 #[.int .i64 q] w fun e w' => ∃ sb, e = .returned (.pointer (some ⟨sb, 0, none⟩)) ∧ Below w.heap.size w w' := by
  have hmm := fun w => run_makeMap0 Tryz.underlying153 w
  go_enter Tryz.func65, Tryz.ntmps65
  go_wp2
  go_ret
  exact ⟨_, rfl, ((Below.refl _ _).alloc (Nat.le_refl _) _).alloc (by simp) _⟩

theorem lookup_ten {P : Program} (w : World) {ops : Array Oper} {rest : List Oper} {o : Oper} {a : Act} {Q : Exit → Act → World → Prop}
    (hg : o.guard = none) (m x : Operand) (t : TypeId) (hop : o.op = Op.lookup t m x true)
    (k e : TypeId) (K : Keyed P k) (ht : P.underlying t = some (.map k e)) (hz : (zeroValue e).run P w = .ok (.agg #[.string ⟨#[]⟩, .pointer none]) w) (b n : Nat) (D : DataW Unit)
    (hm : a.eval m = .map (some b)) (hown : w.ownsMap P k tenElem b n D) (key : Value) (kl : Lit) (hx : a.eval x = key) (hkey : keyOf P k key = some kl) (bv : Bool) (hbv : Maps.has D kl = bv)
    (hK : ∀ s t, wpList P ops Q rest (a.put o.dst (.tuple #[.agg #[.string s, .pointer t], .bool bv])) w) :
    wpList P ops Q (o :: rest) a w :=
  wpList_lookup_own_ok w hg m x t hop k e K ht tenElem hz (.lit (.bool true)) [] rfl b n D hm hown key kl hx hkey (fun v ps hv => by
    obtain ⟨s, t, rfl⟩ := tenElem_inv hv
    rw [hbv]
    exact hK s t)
end Go.Proofs.YtdpnpcjbjjjceaaGreatDoor.O
namespace Go.Proofs.YtdpnpcjbjjjceaaGreatDoor.O
open Go.RowKit Go.Builtin
set_option maxRecDepth 20000
open Go.Maps (Keyed)

theorem byName_len (a : Option Addr) (n c : Nat) (w : World) (hn : n = 0 ∨ 5 < n) (hn63 : n ≤ 9223372036854775806) : Calls Tryz.prog 48 #[.slice a n c] w fun e w' => e = .returned (.tuple #[.map none, .bool false]) ∧ w' = w := by
  by_cases h0 : n = 0
  · subst h0
    go_enter Tryz.func48, Tryz.ntmps48
    go_wp2
    go_ret2
    exact ⟨rfl, rfl⟩
  · have k0 : ¬ (n : Int) < 1 := by omega
    have k5 : (5 : Int) < n := by omega
    go_enter Tryz.func48, Tryz.ntmps48
    go_wp2
    go_ret2
    exact ⟨rfl, rfl⟩

structure Bx (w0 : World) (g m k : Nat) (x : Ten) (D : DataW Unit) (W : World) : Prop where
  blk : W.heap[g]? = some (.cells #[.string x.n, .string x.k, .int .i64 x.q] 32 (0, 0))
  bel : Below w0.heap.size w0 W
  own : W.ownsMap Tryz.prog 9 tenElem m k D
  ge : w0.heap.size ≤ g
  gm : g ≠ m
theorem Bx.drew {w0 : World} {g m k : Nat} {x : Ten} {D : DataW Unit} {W : World} (h : Bx w0 g m k x D W) : Bx w0 g m k x D W.drew := ⟨h.blk, h.bel.drew, h.own.drew, h.ge, h.gm⟩
theorem ownsMap_below {W W' : World} {m k : Nat} {D : DataW Unit} (h : W.ownsMap Tryz.prog 9 tenElem m k D) (hb : Below W.heap.size W W') : W'.ownsMap Tryz.prog 9 tenElem m k D := by
  have hl := h.lt
  obtain ⟨es, clock, hk, r⟩ := h
  exact ⟨es, clock, (hb.block _ hl).trans hk, r⟩
theorem Bx.below {w0 : World} {g m k : Nat} {x : Ten} {D : DataW Unit} {W W' : World} (h : Bx w0 g m k x D W) (hb : Below W.heap.size W W') : Bx w0 g m k x D W' :=
  ⟨(hb.block _ (Array.getElem?_eq_some_iff.1 h.blk).1).trans h.blk, h.bel.trans (hb.mono h.bel.size), ownsMap_below h.own hb, h.ge, h.gm⟩

theorem Bx.s {w0 : World} {g m k : Nat} {x : Ten} {D : DataW Unit} {W : World} (h : Bx w0 g m k x D W) : W.cell? ⟨g, 0, none⟩ = some (.string x.n) ∧ W.cell? ⟨g, 0 + 1, none⟩ = some (.string x.k) ∧ W.cell? ⟨g, 0 + 2, none⟩ = some (.int .i64 x.q) :=
  ⟨heap_cell h.blk 0 rfl, heap_cell h.blk 1 rfl, heap_cell h.blk 2 rfl⟩
theorem Bx.up {w0 : World} {g k : Nat} {x : Ten} {D : DataW Unit} {W : World} (h : Bx w0 g w0.heap.size k x D W) (hk : keyOf Tryz.prog 9 (.string x.n) = some (tnLit x)) (hl : k ≤ 5) (sb : Nat) :
    ∃ w5, (Instr.mapUpdate 82 (.map (some w0.heap.size)) (.string x.n) (.agg #[.string x.k, .pointer (some ⟨sb, 0, none⟩)])).run Tryz.prog W = .ok () w5 ∧ (w5.cell? ⟨g, 0, none⟩ = some (.string x.n) ∧ w5.cell? ⟨g, 0 + 1, none⟩ = some (.string x.k) ∧ w5.cell? ⟨g, 0 + 2, none⟩ = some (.int .i64 x.q)) ∧ Hid (w5.ownsMap Tryz.prog 9 tenElem w0.heap.size (k + 1) (D.put (tnLit x) (.lit (.bool true)))) ∧ Hid (Below w0.heap.size w0 w5) := by
  obtain ⟨w5, hrun, hown5, hgrow5⟩ := h.own.update keyedStr Tryz.underlying82 (by unfold maxLen; omega) hk (val := .agg #[.string x.k, .pointer (some ⟨sb, 0, none⟩)]) (d := .lit (.bool true)) (ps := []) rfl
  have hb : w5.heap[g]? = _ := (hgrow5.block g (Array.getElem?_eq_some_iff.1 h.blk).1 (fun e => h.gm (Option.some.inj e))).trans h.blk
  exact ⟨w5, hrun, ⟨heap_cell hb 0 rfl, heap_cell hb 1 rfl, heap_cell hb 2 rfl⟩, hown5, h.bel.grown hgrow5 h.bel.size (fun j hj => by cases hj; exact Nat.le_refl _)⟩
theorem new_bx {w0 : World} {g m k : Nat} {x : Ten} {D : DataW Unit} {W : World} (h : Bx w0 g m k x D W) : Calls Tryz.prog 65 #[.int .i64 x.q] W fun e w' => ∃ sb, e = .returned (.pointer (some ⟨sb, 0, none⟩)) ∧ Bx w0 g m k x D w' :=
  (snew_c x.q W).mono (by rintro e w' ⟨sb, rfl, hb⟩; exact ⟨sb, rfl, h.below hb⟩)
theorem clone_bx {w0 : World} {g m k : Nat} {x : Ten} {D : DataW Unit} {W : World} (h : Bx w0 g m k x D W) (s : ByteArray) (hs : s.size ≤ 281474976710656) :
    Calls Tryz.prog 47 #[.string s] W fun e w' => e = .returned (.string s) ∧ Bx w0 g m k x D w' :=
  (clone_c s W hs).mono (by rintro e w' ⟨rfl, hb⟩; exact ⟨rfl, h.below hb⟩)

set_option maxRecDepth 100000 in
set_option maxHeartbeats 4000000 in
theorem byName_ok (b off n c : Nat) (ts : List Ten) (w : World) (hl : ts.length = n) (hT : TensAt w b off ts) (hb : b < w.heap.size) (h1 : 1 ≤ n) (h5 : n ≤ 5)
    (hsz : ∀ x ∈ ts, x.n.size ≤ 281474976710656 ∧ x.k.size ≤ 281474976710656) (hok : okUpto ts n = true) :
    Calls Tryz.prog 48 #[.slice (some ⟨b, off, none⟩) n c] w fun e w' => ∃ m, e = .returned (.tuple #[.map (some m), .bool true]) ∧ Below w.heap.size w w' := by
  have k1 : ¬ (n : Int) < 1 := by omega
  have k5 : ¬ (5 : Int) < n := by omega
  have hmm := fun w n => run_makeMapN Tryz.underlying82 w n
  have HL : Hid (ts.length = n) := hl
  have HT : Hid (TensAt w b off ts) := hT
  have HSZ : Hid (∀ x ∈ ts, x.n.size ≤ 281474976710656 ∧ x.k.size ≤ 281474976710656) := hsz
  have HOK : Hid (okUpto ts n = true) := hok
  clear hl hT hsz hok
  go_enter Tryz.func48, Tryz.ntmps48
  go_wp2_with fail
  go_loopw [22] (fun i wx => ∃ j : Nat, j ≤ n ∧ i = .int .i64 j ∧ Hid (Below w.heap.size w wx) ∧ Hid (wx.ownsMap Tryz.prog 9 tenElem w.heap.size j (mapD ts j))) (fun i _ => n - (intOf i).toNat)
  case atStart => exact ⟨0, by omega, rfl, (Below.refl _ _).alloc (Nat.le_refl _) _, World.ownsMap_made _ _ _ _⟩
  case round =>
    obtain ⟨i, hii, rfl, hbx, hown⟩ := hrel
    by_cases hlt : i < n
    · have klt : (i : Int) < n := by omega
      obtain ⟨x, hx⟩ : ∃ x, ts[i]? = some x := ⟨_, List.getElem?_eq_getElem (by rw [HL.out]; exact hlt)⟩
      have HX : Hid (ts[i]? = some x) := hx
      obtain ⟨c0, c1, c2⟩ := tens_cells (HT.out.below hbx.out hb) i x hx
      obtain ⟨s1, s2⟩ := HSZ.out x (List.mem_of_getElem? hx)
      clear hx
      have cG := fun W => mayBe_c x W (Nat.le_trans s1 (by decide)) (Nat.le_trans s2 (by decide))
      have hbr : b < wr.heap.size := Nat.lt_of_lt_of_le hb hbx.out.size
      have hg : goodB x = true := by
        cases hg : goodB x with
        | true => rfl
        | false =>
          have := okUpto_mono ts (i + 1) n (by omega) (okUpto_bad ts i x HX.out hg)
          rw [HOK.out] at this; cases this
      have hnn : newName ts i x = true := by
        cases hg2 : newName ts i x with
        | true => rfl
        | false =>
          have : okUpto ts (i + 1) = false := by unfold okUpto; rw [HX.out]; simp [hg2]
          have := okUpto_mono ts (i + 1) n (by omega) this
          rw [HOK.out] at this; cases this
      have hh : Maps.has (mapD ts i) (tnLit x) = false := by rw [mapD_has, hnn]; rfl
      rw [hg] at cG
      clear hg hnn
      have hkey : keyOf Tryz.prog 9 (.string x.n) = some (tnLit x) := WideMaps.keyOf_string_mk Tryz.underlying9 (Nat.le_trans s1 (by decide))
      go_wp2_with (first
        | (at_lookup; refine lookup_ten _ rfl _ _ 82 rfl 9 120 keyedStr Tryz.underlying82 (zeroTen _) w.heap.size i (mapD ts i) rfl (hown.out.alloc _) _ _ rfl hkey false hh ?_; intro s' t')
        | (go_at_call 64; refine (cG _).mono ?_; rintro e w1 ⟨rfl, hb1⟩))
      have HB : Bx w wr.heap.size w.heap.size i x (mapD ts i) w1 := by
        have h0 : Bx w wr.heap.size w.heap.size i x (mapD ts i) ((wr.alloc (.cells #[.string x.n, .string x.k, .int .i64 x.q] 32)).alloc (.cells #[.string s', .pointer t'] 120)) :=
          ⟨alloc_old _ _ _ _ (alloc_at _ _ _ rfl), (hbx.out.alloc hbx.out.size _).alloc (by simp; exact Nat.le_succ_of_le hbx.out.size) _, (hown.out.alloc _).alloc _, hbx.out.size, Nat.ne_of_gt hown.out.lt⟩
        exact h0.below hb1
      clear hb1 hown hbx c0 c1 c2 cG hh hmm
      go_region_held3 (fun w' => w'.cell? ⟨wr.heap.size, 0, none⟩ = some (.string x.n) ∧ w'.cell? ⟨wr.heap.size, 0 + 1, none⟩ = some (.string x.k) ∧ w'.cell? ⟨wr.heap.size, 0 + 2, none⟩ = some (.int .i64 x.q))
        ((first | exact hC5 | (refine Bx.s (w0 := w) (m := w.heap.size) (k := i) (D := mapD ts i) ?_; repeat (first | with_reducible assumption | with_reducible refine Bx.drew ?_))))
        (first
          | (go_at_call 47; refine (clone_bx (by first | with_reducible assumption | exact Bx.drew (by with_reducible assumption)) x.n s1).mono ?_; rintro e w2 ⟨rfl, hB2⟩)
          | (go_at_call 47; refine (clone_bx (by first | with_reducible assumption | exact Bx.drew (by with_reducible assumption)) x.k s2).mono ?_; rintro e w3 ⟨rfl, hB3⟩)
          | (go_at_call 65; refine (new_bx (by first | with_reducible assumption | exact Bx.drew (by with_reducible assumption))).mono ?_; rintro e w4 ⟨sb, rfl, hB4⟩; obtain ⟨w5, hrun, hC5, hT5, hb5⟩ := hB4.up hkey (by omega) sb))
      rename_i hHeld; clear hHeld hB2 hB3 hB4 HB hrun hC5
      go_wp2
      go_roundw
      case rel => exact ⟨i + 1, by omega, by go_num, hb5, by have h9 := hT5.out; rw [mapD_step ts i x HX.out] at h9; exact h9⟩
      case measure => simp [intOf] <;> omega
    · have klt : ¬ (i : Int) < n := by omega
      go_wp2
      go_ret2
      exact ⟨⟨_, rfl⟩, hbx.out⟩
set_option maxRecDepth 100000 in
set_option maxHeartbeats 4000000 in
theorem byName_bad (b off n c : Nat) (ts : List Ten) (w : World) (hl : ts.length = n) (hT : TensAt w b off ts) (hb : b < w.heap.size) (h1 : 1 ≤ n) (h5 : n ≤ 5)
    (hsz : ∀ x ∈ ts, x.n.size ≤ 281474976710656 ∧ x.k.size ≤ 281474976710656) (hok : okUpto ts n = false) :
    Calls Tryz.prog 48 #[.slice (some ⟨b, off, none⟩) n c] w fun e w' => e = .returned (.tuple #[.map none, .bool false]) ∧ Below w.heap.size w w' := by
  have k1 : ¬ (n : Int) < 1 := by omega
  have k5 : ¬ (5 : Int) < n := by omega
  have hmm := fun w n => run_makeMapN Tryz.underlying82 w n
  have HL : Hid (ts.length = n) := hl
  have HT : Hid (TensAt w b off ts) := hT
  have HSZ : Hid (∀ x ∈ ts, x.n.size ≤ 281474976710656 ∧ x.k.size ≤ 281474976710656) := hsz
  have HOK : Hid (okUpto ts n = false) := hok
  clear hl hT hsz hok
  go_enter Tryz.func48, Tryz.ntmps48
  go_wp2_with fail
  go_loopw [22] (fun i wx => ∃ j : Nat, j ≤ n ∧ i = .int .i64 j ∧ Hid (okUpto ts j = true) ∧ Hid (Below w.heap.size w wx) ∧ Hid (wx.ownsMap Tryz.prog 9 tenElem w.heap.size j (mapD ts j))) (fun i _ => n - (intOf i).toNat)
  case atStart => exact ⟨0, by omega, rfl, rfl, (Below.refl _ _).alloc (Nat.le_refl _) _, World.ownsMap_made _ _ _ _⟩
  case round =>
    obtain ⟨i, hii, rfl, hoi, hbx, hown⟩ := hrel
    by_cases hlt : i < n
    · have klt : (i : Int) < n := by omega
      obtain ⟨x, hx⟩ : ∃ x, ts[i]? = some x := ⟨_, List.getElem?_eq_getElem (by rw [HL.out]; exact hlt)⟩
      have HX : Hid (ts[i]? = some x) := hx
      obtain ⟨c0, c1, c2⟩ := tens_cells (HT.out.below hbx.out hb) i x hx
      obtain ⟨s1, s2⟩ := HSZ.out x (List.mem_of_getElem? hx)
      clear hx
      have cG := fun W => mayBe_c x W (Nat.le_trans s1 (by decide)) (Nat.le_trans s2 (by decide))
      have hbr : b < wr.heap.size := Nat.lt_of_lt_of_le hb hbx.out.size
      have hkey : keyOf Tryz.prog 9 (.string x.n) = some (tnLit x) := WideMaps.keyOf_string_mk Tryz.underlying9 (Nat.le_trans s1 (by decide))
      cases hnn : newName ts i x with
      | false =>
        have hh : Maps.has (mapD ts i) (tnLit x) = true := by rw [mapD_has, hnn]; rfl
        clear hnn
        go_wp2_with (at_lookup; refine lookup_ten _ rfl _ _ 82 rfl 9 120 keyedStr Tryz.underlying82 (zeroTen _) w.heap.size i (mapD ts i) rfl (hown.out.alloc _) _ _ rfl hkey true hh ?_; intro s' t')
        have h2 : Below w.heap.size w ((wr.alloc (.cells #[.string x.n, .string x.k, .int .i64 x.q] 32)).alloc (.cells #[.string s', .pointer t'] 120)) := (hbx.out.alloc hbx.out.size _).alloc (by simp; exact Nat.le_succ_of_le hbx.out.size) _
        go_ret2
        exact ⟨rfl, h2⟩
      | true =>
        have HNN : Hid (newName ts i x = true) := hnn
        have hh : Maps.has (mapD ts i) (tnLit x) = false := by rw [mapD_has, hnn]; rfl
        clear hnn
        cases hg : goodB x with
        | false =>
          rw [hg] at cG
          clear hg
          go_wp2_with (first
            | (at_lookup; refine lookup_ten _ rfl _ _ 82 rfl 9 120 keyedStr Tryz.underlying82 (zeroTen _) w.heap.size i (mapD ts i) rfl (hown.out.alloc _) _ _ rfl hkey false hh ?_; intro s' t')
            | (go_at_call 64; refine (cG _).mono ?_; rintro e w1 ⟨rfl, hb1⟩))
          have h2 : Below w.heap.size w ((wr.alloc (.cells #[.string x.n, .string x.k, .int .i64 x.q] 32)).alloc (.cells #[.string s', .pointer t'] 120)) := (hbx.out.alloc hbx.out.size _).alloc (by simp; exact Nat.le_succ_of_le hbx.out.size) _
          go_ret2
          exact ⟨rfl, h2.trans (hb1.mono h2.size)⟩
        | true =>
          rw [hg] at cG
          have HGd : Hid (goodB x = true) := hg
          clear hg
          go_wp2_with (first
            | (at_lookup; refine lookup_ten _ rfl _ _ 82 rfl 9 120 keyedStr Tryz.underlying82 (zeroTen _) w.heap.size i (mapD ts i) rfl (hown.out.alloc _) _ _ rfl hkey false hh ?_; intro s' t')
            | (go_at_call 64; refine (cG _).mono ?_; rintro e w1 ⟨rfl, hb1⟩))
          have HB : Bx w wr.heap.size w.heap.size i x (mapD ts i) w1 := by
            have h0 : Bx w wr.heap.size w.heap.size i x (mapD ts i) ((wr.alloc (.cells #[.string x.n, .string x.k, .int .i64 x.q] 32)).alloc (.cells #[.string s', .pointer t'] 120)) :=
              ⟨alloc_old _ _ _ _ (alloc_at _ _ _ rfl), (hbx.out.alloc hbx.out.size _).alloc (by simp; exact Nat.le_succ_of_le hbx.out.size) _, (hown.out.alloc _).alloc _, hbx.out.size, Nat.ne_of_gt hown.out.lt⟩
            exact h0.below hb1
          clear hb1 hown hbx c0 c1 c2 cG hh hmm
          go_region_held3 (fun w' => w'.cell? ⟨wr.heap.size, 0, none⟩ = some (.string x.n) ∧ w'.cell? ⟨wr.heap.size, 0 + 1, none⟩ = some (.string x.k) ∧ w'.cell? ⟨wr.heap.size, 0 + 2, none⟩ = some (.int .i64 x.q))
            ((first | exact hC5 | (refine Bx.s (w0 := w) (m := w.heap.size) (k := i) (D := mapD ts i) ?_; repeat (first | with_reducible assumption | with_reducible refine Bx.drew ?_))))
            (first
              | (go_at_call 47; refine (clone_bx (by first | with_reducible assumption | exact Bx.drew (by with_reducible assumption)) x.n s1).mono ?_; rintro e w2 ⟨rfl, hB2⟩)
              | (go_at_call 47; refine (clone_bx (by first | with_reducible assumption | exact Bx.drew (by with_reducible assumption)) x.k s2).mono ?_; rintro e w3 ⟨rfl, hB3⟩)
              | (go_at_call 65; refine (new_bx (by first | with_reducible assumption | exact Bx.drew (by with_reducible assumption))).mono ?_; rintro e w4 ⟨sb, rfl, hB4⟩; obtain ⟨w5, hrun, hC5, hT5, hb5⟩ := hB4.up hkey (by omega) sb))
          rename_i hHeld; clear hHeld hB2 hB3 hB4 HB hrun hC5
          go_wp2
          go_roundw
          case rel => exact ⟨i + 1, by omega, by go_num, okUpto_step ts i x HX.out hoi.out HGd.out HNN.out, hb5, by have h9 := hT5.out; rw [mapD_step ts i x HX.out] at h9; exact h9⟩
          case measure => simp [intOf] <;> omega
    · exfalso
      obtain rfl : i = n := by omega
      have h := hoi.out
      rw [HOK.out] at h; cases h
end Go.Proofs.YtdpnpcjbjjjceaaGreatDoor.O
