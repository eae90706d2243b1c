import Derived.Laws.BytesArg
import Derived.Test.YtmjncadancppoaaGreatDoorBK11
import Derived.Test.YtmjncadancppoaaGreatDoorBIso5
set_option linter.unusedSimpArgs false
set_option linter.unusedVariables false
namespace Go.Proofs.YtmjncadancppoaaGreatDoor.K
open Go.RowKit Go.Proofs.YtmjncadancppoaaGreatDoor

theorem tick_c (a : Addr) (n : Int) (w : World) : Calls Tryz.prog 21 #[.pointer (some a), .int .i64 n] w fun e w' => e = .returned (.int .i64 0) ∧ w' = w := by
  go_enter Tryz.func21, Tryz.ntmps21
  go_wp2
  go_ret
  exact ⟨rfl, rfl⟩
def authS (t : Nat) : ByteArray := ⟨(authL t).toArray⟩
theorem auth_t (t : Nat) (ht : t < 3) (w : World) : Calls Tryz.prog 19 #[.int .i64 t] w fun e w' => e = .returned (.string (authS t)) ∧ w' = w := by
  rcases (show t = 0 ∨ t = 1 ∨ t = 2 by omega) with rfl | rfl | rfl
  all_goals
    go_enter Tryz.func19, Tryz.ntmps19
    go_wp2
    go_ret
    exact ⟨rfl, rfl⟩
theorem conv_back {w : World} {base : Nat} {v : Value} {acc : List UInt8} (h : w.ownsRow base 5 1 v acc.length (acc.map byteV)) : (convert 59 9 v).run Tryz.prog w = .ok (.string ⟨acc.toArray⟩) w := by
  rcases h.2 with ⟨rfl, h0⟩ | ⟨g, cap, cur, rfl, hb, hr⟩
  · have : acc = [] := List.length_eq_zero_iff.1 h0
    subst this
    exact run_convert_bytes_nil (P := Tryz.prog) w 59 5 Tryz.underlying59 Tryz.underlying5 0 0 9 Tryz.underlying9
  · refine run_convert_bytes_back w 59 9 5 ⟨g, 0, none⟩ cap acc Tryz.underlying59 Tryz.underlying5 Tryz.underlying9 ?_
    intro j hj
    have hc := h.cellAt j (by omega)
    have e : (⟨g, 0, none⟩ : Addr).add j = ⟨g, j, none⟩ := by by_cases h : j = 0 <;> simp [Addr.add, h]
    rw [e, hc]
    simp [byteV, hj]
theorem own_slice0 {w : World} {b e s n : Nat} {v : Value} {l : List Value} (h : w.ownsRow b e s v n l) : ∃ q cap, v = .slice q n cap := by
  rcases h.2 with ⟨h1, h0⟩ | ⟨g, cap, cur, h1, _⟩
  · exact ⟨none, 0, by rw [h1, h0]⟩
  · exact ⟨_, cap, h1⟩
set_option maxRecDepth 20000 in
set_option maxHeartbeats 1000000 in
theorem quiet_c (s : ByteArray) (p n : Nat) (w : World) (hs : s.size ≤ 9223372036854775807) (hp : p ≤ 1000000) (hn : n ≤ 20) :
    Calls Tryz.prog 23 #[.string s, .int .i64 p, .int .i64 n] w fun e w' => ∃ q : List UInt8, e = .returned (.string ⟨q.toArray⟩) ∧ (110 : UInt8) ∉ q ∧ q.length ≤ 20 ∧ Below w.heap.size w w' := by
  obtain ⟨i0, hi, hz0, hz1, hz2⟩ := info_parts infoByte
  go_enter Tryz.func23, Tryz.ntmps23
  go_wp2_with fail
  go_loopw [7, 8] (fun o i wr => ∃ (j : Nat) (acc : List UInt8), i = .int .i64 ((p + j : Nat) : Int) ∧ j ≤ n ∧ acc.length ≤ j ∧ Hid ((110 : UInt8) ∉ acc) ∧ wr.ownsRow w.heap.size 5 1 o acc.length (acc.map byteV) ∧ Below w.heap.size w wr) (fun _ i _ => p + n - (intOf i).toNat)
  case atStart => exact ⟨0, [], rfl, by omega, by simp, (fun h => by cases h), World.ownsRow_nil _ _ _ _, Below.refl _ _⟩
  case round =>
    rename_i o0 _
    obtain ⟨j, acc, rfl, hj, hal, HA, hown, hb⟩ := hrel
    have HV := conv_back hown
    obtain ⟨qa, cap', rfl⟩ := own_slice0 hown
    by_cases hlt : p + j < s.size
    · have klt : ((p + j : Nat) : Int) < s.size := by omega
      by_cases hln : j < n
      · have kln : ((p + j : Nat) : Int) < (p : Int) + n := by omega
        have hnn : ¬ ((p + j : Nat) : Int) < 0 := by omega
        by_cases hq : s[p + j] = 110
        · have kq : ∀ h, (((s[p + j]'h).toNat : Int) != 110) = false := fun _ => by rw [hq]; rfl
          go_wp2
          go_roundw
          case rel => exact ⟨j + 1, acc, by go_num, by omega, by omega, HA, hown, hb⟩
          case measure => simp [intOf] <;> omega
        · have kq : ∀ h, (((s[p + j]'h).toNat : Int) != 110) = true := fun _ => by
            rw [bne_iff_ne]
            exact fun e => hq (UInt8.toNat_inj.1 (Int.ofNat.inj e))
          go_wp2_with (at_builtin; refine wpList_append_own _ rfl _ _ 59 rfl w.heap.size 5 i0 (.int .u8 0) 1 1 Tryz.underlying59 hi hz0 hz1 hz2 rfl (by decide) _ _ _ rfl (hown.alloc _) ⟨wr.heap.size, 0, none⟩ 1 1 [.int .u8 (s[p + j].toNat : Int)] rfl rfl (cell_new1 _ _ _) ?c2 ?c3 ?c4 ?c5 ?_)
          case c2 => intro u hu; simp at hu; subst hu; rfl
          case c3 => unfold maxLen; omega
          case c4 => omega
          case c5 => have := hb.size; simp <;> omega
          intro v' w1 hown' hgrow _
          have hb1 : Below w.heap.size w w1 := (hb.alloc hb.size _).grown hgrow (by have := hb.size; simp <;> omega) (own_ge hown)
          have HW : Hid (w1.ownsRow w.heap.size 5 1 v' (acc ++ [s[p + j]]).length ((acc ++ [s[p + j]]).map byteV)) := by
            have := hown'
            rw [List.length_append, List.map_append]
            exact this
          have HN : Hid ((110 : UInt8) ∉ acc ++ [s[p + j]]) := fun hm => by
            rcases List.mem_append.1 hm with h | h
            · exact HA.out h
            · exact hq (List.mem_singleton.1 h).symm
          clear hgrow hown hown' HV
          go_wp2
          go_roundw
          case rel => exact ⟨j + 1, acc ++ [s[p + j]], by go_num, by omega, by simp; omega, HN, HW.out, hb1⟩
          case measure => simp [intOf] <;> omega
      · have kln : ¬ ((p + j : Nat) : Int) < (p : Int) + n := by omega
        go_wp2
        go_ret
        exact ⟨acc, rfl, HA.out, by omega, hb⟩
    · have klt : ¬ ((p + j : Nat) : Int) < s.size := by omega
      go_wp2
      go_ret
      exact ⟨acc, rfl, HA.out, by omega, hb⟩
end Go.Proofs.YtmjncadancppoaaGreatDoor.K
namespace Go.Proofs.YtmjncadancppoaaGreatDoor.K
open Go.RowKit Go.Proofs.YtmjncadancppoaaGreatDoor

section
variable {Srv : World → Addr → (Nat → Prop) → M.Server → Nat → Prop} {Glob : World → Prop}
theorem Two.later (I : Iface Srv Glob) {w0 w w' : World} {a b : Addr} {ma mb : M.Server} {na nb : Nat} (h : Two Srv w0 a b ma mb na nb w) (hb : Below w.heap.size w w') : Two Srv w0 a b ma mb na nb w' := by
  obtain ⟨Fa, Fb, h1, h2, h3, h4, h5, h6⟩ := h
  exact ⟨Fa, Fb, I.frame h1 hb.size (fun k hk => hb.block k (I.inn h1 k hk)), I.frame h2 hb.size (fun k hk => hb.block k (I.inn h2 k hk)), h3, h4, h5, h6.trans (hb.mono h6.size)⟩
/-- what is fed to the connection i at the law's beginning -/
def firstS (i : Nat) : ByteArray := if i = 0 then headI else authS (i - 1)
theorem first_size (i : Nat) (hi : i < 4) : (firstS i).size ≤ 100 := by
  rcases (show i = 0 ∨ i = 1 ∨ i = 2 ∨ i = 3 by omega) with rfl | rfl | rfl | rfl <;> decide
theorem sA_step (v i : Nat) (hi : i < 4) : (sA v i).conns[i]? = some (some M.fresh) ∧ M.fed (sA v i) i M.fresh (firstS i).data.toList = sA v (i + 1) := by
  rcases (show i = 0 ∨ i = 1 ∨ i = 2 ∨ i = 3 by omega) with rfl | rfl | rfl | rfl
  · exact ⟨rfl, rfl⟩
  · exact ⟨by show (a1 v).conns[1]? = _; rw [a1_eq]; rfl, rfl⟩
  · exact ⟨by show (a2 v).conns[2]? = _; rw [a2_eq]; rfl, rfl⟩
  · exact ⟨by show (a3 v).conns[3]? = _; rw [a3_eq]; rfl, rfl⟩
theorem sB_step (v i : Nat) (hi : i < 2) : (sB v i).conns[i]? = some (some M.fresh) ∧ M.fed (sB v i) i M.fresh (firstS i).data.toList = sB v (i + 1) := by
  rcases (show i = 0 ∨ i = 1 by omega) with rfl | rfl
  · exact ⟨rfl, rfl⟩
  · exact ⟨by show (a1 v).conns[1]? = _; rw [a1_eq]; rfl, rfl⟩
theorem sB_stay (v i : Nat) (hi : 2 ≤ i) : sB v i = sB v (i + 1) := by
  match i, hi with
  | 2, _ => rfl
  | i + 3, _ => rfl
theorem Two.first (I : Iface Srv Glob) {w0 w : World} {a b : Addr} {v i na nb : Nat} (h : Two Srv w0 a b (sA v i) (sB v i) na nb w) (hg : Glob w0) (hi : i < 4) (hn : na ≤ 100 * i) :
    Calls Tryz.prog 16 #[.pointer (some a), .int .i64 i, .string (firstS i)] w fun e w' => e = .returned (.int .i64 0) ∧ Two Srv w0 a b (sA v (i + 1)) (sB v i) (na + (firstS i).size) nb w' := by
  have hs := first_size i hi
  have h1 := Two.feed I h hg i M.fresh (firstS i) (sA_step v i hi).1 (by unfold lim; omega)
  rw [(sA_step v i hi).2] at h1
  exact h1
theorem Two.firstB (I : Iface Srv Glob) {w0 w : World} {a b : Addr} {v i na nb : Nat} (h : Two Srv w0 a b (sA v (i + 1)) (sB v i) na nb w) (hg : Glob w0) (hi : i < 2) (hn : nb ≤ 100 * i) :
    Calls Tryz.prog 16 #[.pointer (some b), .int .i64 i, .string (firstS i)] w fun e w' => e = .returned (.int .i64 0) ∧ Two Srv w0 a b (sA v (i + 1)) (sB v (i + 1)) na (nb + (firstS i).size) w' := by
  have hs := first_size i (by omega)
  have h1 := Two.feed I h.symm hg i M.fresh (firstS i) (sB_step v i hi).1 (by unfold lim; omega)
  rw [(sB_step v i hi).2] at h1
  exact h1.mono fun e w' ⟨he, ht⟩ => ⟨he, ht.symm⟩
/-- the two servers in the law's main loop -/
def Pair (Srv : World → Addr → (Nat → Prop) → M.Server → Nat → Prop) (w0 : World) (a b : Addr) (n : Nat) (w : World) : Prop := ∃ ma mb na nb, Two Srv w0 a b ma mb na nb w ∧ M.Isl ma mb ∧ na ≤ n ∧ nb ≤ n
theorem Pair.below {w0 w : World} {a b : Addr} {n : Nat} (h : Pair Srv w0 a b n w) : Below w0.heap.size w0 w := by
  obtain ⟨ma, mb, na, nb, h1, _⟩ := h
  exact h1.below
theorem Pair.later (I : Iface Srv Glob) {w0 w w' : World} {a b : Addr} {n : Nat} (h : Pair Srv w0 a b n w) (hb : Below w.heap.size w w') : Pair Srv w0 a b n w' := by
  obtain ⟨ma, mb, na, nb, h1, h2⟩ := h
  exact ⟨ma, mb, na, nb, h1.later I hb, h2⟩
/-- between the two Feeds of one of ann's connections -/
def Half (Srv : World → Addr → (Nat → Prop) → M.Server → Nat → Prop) (w0 : World) (a b : Addr) (n : Nat) (k : Nat) (s : ByteArray) (w : World) : Prop := ∃ ma mb na nb x, Two Srv w0 a b (M.fed ma k x s.data.toList) mb na nb w ∧ M.Isl (M.fed ma k x s.data.toList) (M.fed mb k x s.data.toList) ∧ mb.conns[k]? = some (some x) ∧ na ≤ n ∧ nb + s.size ≤ n
theorem Pair.feedA (I : Iface Srv Glob) {w0 w : World} {a b : Addr} {n k : Nat} {s : ByteArray} (h : Pair Srv w0 a b n w) (hg : Glob w0) (hk : k < 2) (hs : M.Bys k s.data.toList) (hn : n + s.size ≤ lim) :
    Calls Tryz.prog 16 #[.pointer (some a), .int .i64 k, .string s] w fun e w' => e = .returned (.int .i64 0) ∧ Half Srv w0 a b (n + s.size) k s w' := by
  obtain ⟨ma, mb, na, nb, h1, h2, h3, h4⟩ := h
  obtain ⟨x, hx, _⟩ := h2.conn k (by omega)
  refine (Two.feed I h1 hg k x s hx (by omega)).mono fun e w' ⟨he, ht⟩ => ⟨he, ma, mb, na + s.size, nb, x, ht, h2.ann hk hx hs, (h2.same k hk).trans hx, by omega, by omega⟩
theorem Half.feedB (I : Iface Srv Glob) {w0 w : World} {a b : Addr} {n k : Nat} {s : ByteArray} (h : Half Srv w0 a b n k s w) (hg : Glob w0) (hn : n ≤ lim) :
    Calls Tryz.prog 16 #[.pointer (some b), .int .i64 k, .string s] w fun e w' => e = .returned (.int .i64 0) ∧ Pair Srv w0 a b n w' := by
  obtain ⟨ma, mb, na, nb, x, h1, h2, h3, h4, h5⟩ := h
  refine (Two.feed I h1.symm hg k x s h3 (by omega)).mono fun e w' ⟨he, ht⟩ => ⟨he, _, _, na, nb + s.size, ht.symm, h2, h4, h5⟩
theorem Pair.feedO (I : Iface Srv Glob) {w0 w : World} {a b : Addr} {n k : Nat} {s : ByteArray} (h : Pair Srv w0 a b n w) (hg : Glob w0) (h2k : 2 ≤ k) (hk : k < 5) (hs : M.Bys k s.data.toList) (hn : n + s.size ≤ lim) :
    Calls Tryz.prog 16 #[.pointer (some a), .int .i64 k, .string s] w fun e w' => e = .returned (.int .i64 0) ∧ Pair Srv w0 a b (n + s.size) w' := by
  obtain ⟨ma, mb, na, nb, h1, h2, h3, h4⟩ := h
  obtain ⟨x, hx, _⟩ := h2.conn k hk
  refine (Two.feed I h1 hg k x s hx (by omega)).mono fun e w' ⟨he, ht⟩ => ⟨he, _, mb, na + s.size, nb, ht, h2.oth h2k hk hx hs, by omega, by omega⟩
/-- the law's end: what was answered on ann's connections -/
def mustS (k : Nat) : ByteArray := if k = 0 then headO else ⟨#[79, 75, 10]⟩
theorem begins_of {x must s : List UInt8} (h : x = must ++ s) : beginsB ⟨x.toArray⟩ ⟨must.toArray⟩ = true := by
  subst h
  unfold beginsB
  have e1 : (⟨must.toArray⟩ : ByteArray).size = must.length := by show must.toArray.size = _; simp
  have e2 : (⟨(must ++ s).toArray⟩ : ByteArray).size = must.length + s.length := by show (must ++ s).toArray.size = _; simp
  rw [e1, e2, decide_eq_true (by omega), Bool.true_and, beq_iff_eq, ByteArray.toList_eq, ByteArray.toList_eq]
  simp [ByteArray.data_extract]
/-- the connections from k on still hold what was answered -/
def Tells (Srv : World → Addr → (Nat → Prop) → M.Server → Nat → Prop) (w0 : World) (a b : Addr) (k : Nat) (w : World) : Prop := ∃ ma mb na nb, Two Srv w0 a b ma mb na nb w ∧ na ≤ lim ∧ nb ≤ lim ∧
  ∀ j, k ≤ j → j < 2 → ∃ z, ma.conns[j]? = some (some z) ∧ mb.conns[j]? = some (some z) ∧ ∃ s, z.out = (mustS j).data.toList ++ s
theorem Tells.below {w0 w : World} {a b : Addr} {n : Nat} (h : Tells Srv w0 a b n w) : Below w0.heap.size w0 w := by
  obtain ⟨ma, mb, na, nb, h1, _⟩ := h
  exact h1.below
theorem must_same (j : Nat) (hj : j < 2) : M.must j = (mustS j).data.toList := by
  rcases (show j = 0 ∨ j = 1 by omega) with rfl | rfl
  · show M.headOut = (headO).data.toList; rfl
  · rfl
theorem Pair.tells {w0 w : World} {a b : Addr} {n : Nat} (h : Pair Srv w0 a b n w) (hn : n ≤ lim) : Tells Srv w0 a b 0 w := by
  obtain ⟨ma, mb, na, nb, h1, h2, h3, h4⟩ := h
  refine ⟨ma, mb, na, nb, h1, by omega, by omega, fun j _ hj => ?_⟩
  obtain ⟨z, hz, hh⟩ := h2.conn j (by omega)
  exact ⟨z, hz, (h2.same j hj).trans hz, by rw [← must_same j hj]; exact hh.out⟩
/-- between the two tellings of the connection k -/
def Mid (Srv : World → Addr → (Nat → Prop) → M.Server → Nat → Prop) (w0 : World) (a b : Addr) (k : Nat) (t : List UInt8) (w : World) : Prop := ∃ x ma mb na nb, Two Srv w0 a b (M.taken ma k x (1099511627776 : Nat)) mb na nb w ∧ mb.conns[k]? = some (some x) ∧ x.out = t ∧ na ≤ lim ∧ nb ≤ lim ∧ ma.conns[k]? = some (some x) ∧
  ∀ j, k ≤ j → j < 2 → ∃ z, ma.conns[j]? = some (some z) ∧ mb.conns[j]? = some (some z) ∧ ∃ s, z.out = (mustS j).data.toList ++ s
theorem Tells.one (I : Iface Srv Glob) {w0 w : World} {a b : Addr} {k : Nat} (h : Tells Srv w0 a b k w) (hg : Glob w0) (hk : k < 2) :
    ∃ t : List UInt8, beginsB ⟨t.toArray⟩ (mustS k) = true ∧ Calls Tryz.prog 24 #[.pointer (some a), .int .i64 k] w fun e w' => e = .returned (.tuple #[.string ⟨t.toArray⟩, .bool true]) ∧ Mid Srv w0 a b k t w' := by
  obtain ⟨ma, mb, na, nb, h1, h2, h3, h4⟩ := h
  obtain ⟨z, z1, z2, s, hs⟩ := h4 k (Nat.le_refl _) hk
  refine ⟨z.out, ?_, (Two.told I h1 hg k z z1 h2 (by omega)).mono fun e w' ⟨he, ht⟩ => ⟨he, z, ma, mb, na, nb, ht, z2, rfl, h2, h3, z1, h4⟩⟩
  have := begins_of hs
  simpa using this
theorem Mid.two (I : Iface Srv Glob) {w0 w : World} {a b : Addr} {k : Nat} {t : List UInt8} (h : Mid Srv w0 a b k t w) (hg : Glob w0) (hk : k < 2) :
    Calls Tryz.prog 24 #[.pointer (some b), .int .i64 k] w fun e w' => e = .returned (.tuple #[.string ⟨t.toArray⟩, .bool true]) ∧ Tells Srv w0 a b (k + 1) w' := by
  obtain ⟨x, ma, mb, na, nb, h1, h2, rfl, h4, h5, h6, h7⟩ := h
  refine (Two.told I h1.symm hg k x h2 h5 (by omega)).mono fun e w' ⟨he, ht⟩ => ⟨he, _, _, na, nb, ht.symm, h4, h5, fun j hj hj2 => ?_⟩
  obtain ⟨z, z1, z2, hz⟩ := h7 j (by omega) hj2
  refine ⟨z, ?_, ?_, hz⟩
  · show (ma.conns.set k _)[j]? = _
    rw [M.set_at h6, if_neg (by omega)]; exact z1
  · show (mb.conns.set k _)[j]? = _
    rw [M.set_at h2, if_neg (by omega)]; exact z2
end
end Go.Proofs.YtmjncadancppoaaGreatDoor.K
namespace Go.Proofs.YtmjncadancppoaaGreatDoor.K
open Go.RowKit Go.Proofs.YtmjncadancppoaaGreatDoor

section
variable {Srv : World → Addr → (Nat → Prop) → M.Server → Nat → Prop} {Glob : World → Prop}
/-- the two servers at the law's beginning, behind i connections -/
def Begun (Srv : World → Addr → (Nat → Prop) → M.Server → Nat → Prop) (w0 : World) (a b : Addr) (v i : Nat) (w : World) : Prop := ∃ na nb, Two Srv w0 a b (sA v i) (sB v i) na nb w ∧ na ≤ 100 * i ∧ nb ≤ 100 * i
def BegunA (Srv : World → Addr → (Nat → Prop) → M.Server → Nat → Prop) (w0 : World) (a b : Addr) (v i : Nat) (w : World) : Prop := ∃ na nb, Two Srv w0 a b (sA v (i + 1)) (sB v i) na nb w ∧ na ≤ 100 * (i + 1) ∧ nb ≤ 100 * i
theorem Begun.feed (I : Iface Srv Glob) {w0 w : World} {a b : Addr} {v i : Nat} (h : Begun Srv w0 a b v i w) (hg : Glob w0) (hi : i < 4) (s : ByteArray) (hs : s = firstS i) :
    Calls Tryz.prog 16 #[.pointer (some a), .int .i64 i, .string s] w fun e w' => e = .returned (.int .i64 0) ∧ BegunA Srv w0 a b v i w' := by
  obtain ⟨na, nb, h1, h2, h3⟩ := h
  subst hs
  have := first_size i hi
  exact (Two.first I h1 hg hi h2).mono fun e w' ⟨he, ht⟩ => ⟨he, _, _, ht, by omega, h3⟩
theorem BegunA.feed (I : Iface Srv Glob) {w0 w : World} {a b : Addr} {v i : Nat} (h : BegunA Srv w0 a b v i w) (hg : Glob w0) (hi : i < 2) (s : ByteArray) (hs : s = firstS i) :
    Calls Tryz.prog 16 #[.pointer (some b), .int .i64 i, .string s] w fun e w' => e = .returned (.int .i64 0) ∧ Begun Srv w0 a b v (i + 1) w' := by
  obtain ⟨na, nb, h1, h2, h3⟩ := h
  subst hs
  have := first_size i (by omega)
  exact (Two.firstB I h1 hg hi h3).mono fun e w' ⟨he, ht⟩ => ⟨he, _, _, ht, h2, by omega⟩
theorem BegunA.on {w0 w : World} {a b : Addr} {v i : Nat} (h : BegunA Srv w0 a b v i w) (hi : 2 ≤ i) : Begun Srv w0 a b v (i + 1) w := by
  obtain ⟨na, nb, h1, h2, h3⟩ := h
  rw [sB_stay v i hi] at h1
  exact ⟨na, nb, h1, h2, by omega⟩
theorem Begun.pair {w0 w : World} {a b : Addr} {v : Nat} (h : Begun Srv w0 a b v 4 w) : Pair Srv w0 a b 400 w := by
  obtain ⟨na, nb, h1, h2, h3⟩ := h
  exact ⟨_, _, na, nb, h1, isl_start v, h2, h3⟩

theorem Pair.mono {w0 w : World} {a b : Addr} {n n' : Nat} (h : Pair Srv w0 a b n w) (hn : n ≤ n') : Pair Srv w0 a b n' w := by
  obtain ⟨ma, mb, na, nb, h1, h2, h3, h4⟩ := h
  exact ⟨ma, mb, na, nb, h1, h2, by omega, by omega⟩
theorem quiet_bys {q : List UInt8} (h : (110 : UInt8) ∉ q) : M.Bys 4 (⟨q.toArray⟩ : ByteArray).data.toList :=
  ⟨(fun h => by omega), fun _ => M.noAdj_of_notin2 (by simpa using h), (fun h => by omega), fun _ => by simpa using h⟩
set_option maxRecDepth 20000 in
set_option maxHeartbeats 2000000 in
theorem isolated_c (I : Iface Srv Glob) (c : Int) (rv : Value) (raw : List Int) (noise : ByteArray) (w : World) (hlo : -9223372036854775808 ≤ c) (hhi : c ≤ 9223372036854775807) (hra : IntsAt w rv raw) (hrl : raw.length ≤ 17592186044416) (hs : noise.size ≤ 9223372036854775807) (hg : Glob w) :
    Calls Tryz.prog 5 #[.int .i64 c, rv, .string noise] w fun e w' => e = .returned (.bool true) ∧ Below w.heap.size w w' := by
  have hO1 := opened_c I c 5 w hlo hhi (by decide) hg
  have hO2 : ∀ W, Below w.heap.size w W → Calls Tryz.prog 18 #[.int .i64 c, .int .i64 (5 : Nat)] W fun e w' => ∃ a, e = .returned (.pointer (some a)) ∧ ∃ F, Up Srv W a (openM (pk c 1099511627776) 5) 0 F w' := fun W hW => opened_c I c 5 W hlo hhi (by decide) (I.glob hg hW)
  generalize pk c 1099511627776 = v at hO1 hO2
  obtain ⟨ra, rcap, rfl, hra⟩ := hra
  have HR : Hid (raw = [] ∨ ∃ b o, ra = some ⟨b, o, none⟩ ∧ b < w.heap.size ∧ ∀ j q, raw[j]? = some q → w.cell? ⟨b, o + j, none⟩ = some (.int .i64 q) ∧ -9223372036854775808 ≤ q ∧ q ≤ 9223372036854775807) := hra
  have HG : Hid (Glob w) := hg
  clear hlo hhi hra hg
  go_enter Tryz.func5, Tryz.ntmps5
  go_wp2_with (first
    | (go_at_call 18; refine hO1.mono ?_; rintro e w1 ⟨a, rfl, hU1⟩; clear hO1; have hO2' := hO2 w1 (by obtain ⟨F, h⟩ := hU1; exact h.below); clear hO2)
    | (go_at_call 18; refine hO2'.mono ?_; rintro e w2 ⟨b, rfl, hU2⟩; have hT : Two Srv w a b (sA v 0) (sB v 0) 0 0 w2 := two_of I hU1 hU2; clear hO2' hU1 hU2)
    | fail)
  go_loopw [9] (fun i wr => ∃ j : Nat, j ≤ 4 ∧ i = .int .i64 j ∧ Begun Srv w a b v j wr) (fun i _ => 4 - (intOf i).toNat)
  case atStart => exact ⟨0, by omega, rfl, 0, 0, hT, by omega, by omega⟩
  case round =>
    obtain ⟨i, hi, rfl, hB⟩ := hrel
    clear hT
    by_cases hlt : i < 4
    · have klt : (i : Int) < 4 := by omega
      by_cases h0 : i = 0
      · subst h0
        have hF : Calls Tryz.prog 16 #[.pointer (some a), .int .i64 0, .string headI] wr fun e w' => e = .returned (.int .i64 0) ∧ BegunA Srv w a b v 0 w' := hB.feed I HG.out hlt headI rfl
        clear hB
        go_wp2_with (first
          | (go_at_call 19; refine (auth_c _).mono ?_; rintro e w3 ⟨rfl, rfl⟩)
          | (go_at_call 20; refine (head_c _).mono ?_; rintro e w3 ⟨rfl, rfl⟩)
          | (go_at_call 16; refine hF.mono ?_; rintro e w3 ⟨rfl, hB3⟩; clear hF; have hF2 : Calls Tryz.prog 16 #[.pointer (some b), .int .i64 0, .string headI] w3 fun e w' => e = .returned (.int .i64 0) ∧ Begun Srv w a b v (0 + 1) w' := hB3.feed I HG.out (by decide) headI rfl; clear hB3)
          | (go_at_call 16; refine hF2.mono ?_; rintro e w4 ⟨rfl, hB4⟩; clear hF2)
          | fail)
        go_roundw
        case rel => exact ⟨1, by omega, rfl, hB4⟩
        case measure => simp [intOf] <;> omega
      · have k0 : ((i : Int) == 0) = false := by rw [beq_eq_false_iff_ne]; omega
        obtain ⟨t, ht⟩ : ∃ t, i = t + 1 := ⟨i - 1, by omega⟩
        have kt : (i : Int) - 1 = (t : Int) := by omega
        have hA := fun W => auth_t t (by omega) W
        have hF := hB.feed I HG.out hlt (authS t) (by rw [ht]; rfl)
        have HT : Hid (i = t + 1) := ht
        clear hB ht h0
        by_cases h2 : i < 2
        · have k2 : (i : Int) < 2 := by omega
          go_wp2_with (first
            | (go_at_call 19; refine (hA _).mono ?_; rintro e w3 ⟨rfl, rfl⟩)
            | (go_at_call 16; refine hF.mono ?_; rintro e w3 ⟨rfl, hB3⟩; clear hF; have hF2 := hB3.feed I HG.out h2 (authS t) (by rw [HT.out]; rfl); clear hB3)
            | (go_at_call 16; refine hF2.mono ?_; rintro e w4 ⟨rfl, hB4⟩; clear hF2)
            | fail)
          go_roundw
          case rel => exact ⟨i + 1, by omega, by go_num, hB4⟩
          case measure => simp [intOf] <;> omega
        · have k2 : ¬ (i : Int) < 2 := by omega
          go_wp2_with (first
            | (go_at_call 19; refine (hA _).mono ?_; rintro e w3 ⟨rfl, rfl⟩)
            | (go_at_call 16; refine hF.mono ?_; rintro e w3 ⟨rfl, hB3⟩; clear hF)
            | fail)
          go_roundw
          case rel => exact ⟨i + 1, by omega, by go_num, hB3.on (by omega)⟩
          case measure => simp [intOf] <;> omega
    · have klt : ¬ (i : Int) < 4 := by omega
      have hP : Pair Srv w a b 400 wr := by
        have e4 : i = 4 := by omega
        rw [e4] at hB
        exact hB.pair
      clear hB
      go_wp2_with (go_at_call 20; refine (head_c _).mono ?_; rintro e w3 ⟨rfl, rfl⟩)
      go_loopw [16, 17] (fun p i wx => ∃ j q : Nat, j ≤ raw.length ∧ j ≤ 1000 ∧ p = .int .i64 q ∧ q ≤ 20 * j ∧ i = .int .i64 j ∧ Pair Srv w a b (400 + 200 * j) wx) (fun _ i _ => raw.length - (intOf i).toNat)
      case atStart => exact ⟨0, 0, by omega, by omega, rfl, by omega, rfl, hP⟩
      case round =>
        obtain ⟨j, p, hj, hj2, rfl, hpj, rfl, hQ⟩ := hrel
        clear hP
        by_cases hgo : j < raw.length ∧ j < 1000
        · obtain ⟨hjl, hjk⟩ := hgo
          have kl : (j : Int) < raw.length := by omega
          have kk : (j : Int) < 1000 := by omega
          obtain ⟨q, hq⟩ : ∃ q, raw[j]? = some q := ⟨_, List.getElem?_eq_getElem hjl⟩
          have hne : raw ≠ [] := by intro h; rw [h] at hq; simp at hq
          obtain ⟨bb, o, rfl, hbb, hcell⟩ := HR.out.resolve_left hne
          obtain ⟨hqc, hq1, hq2⟩ := hcell j q hq
          have hbw := hQ.below
          have cq := fun (W : World) (h : Below w.heap.size w W) => (h.cell (p := ⟨bb, o + j, none⟩) hbb).trans hqc
          have cq1 := cq _ hbw
          have hp := fun W => pick_c q 1099511627776 W hq1 hq2 (by decide) (Nat.le_refl _)
          have hv := pk_lt q 1099511627776 (by decide)
          generalize pk q 1099511627776 = V at hp hv
          clear hcell hq hne hqc cq
          obtain ⟨m, hm⟩ : ∃ m, m = V % 6 := ⟨_, rfl⟩
          have km : (V : Int) % 6 = (m : Int) := by omega
          have hm6 : m < 6 := by omega
          by_cases h5 : m = 5
          · have k5 : ((m : Int) == 5) = true := by rw [h5]; rfl
            have HM : Hid (m = 5) := h5
            clear h5 hm
            go_wp2_with (first
              | (go_at_call 12; refine (hp _).mono ?_; rintro e w4 ⟨rfl, rfl⟩)
              | (go_at_call 21; refine (tick_c _ _ _).mono ?_; rintro e w4 ⟨rfl, rfl⟩)
              | fail)
            exact ⟨⟨j + 1, p, by omega, by omega, rfl, by omega, by go_num, hQ.mono (by omega)⟩, by simp [intOf]; omega⟩
          · obtain ⟨n, hn⟩ : ∃ n, n = V / 6 := ⟨_, rfl⟩
            have kn : (V : Int) / 6 = (n : Int) := by omega
            have hn40 : n < 1099511627776 := by omega
            by_cases h4 : m = 4
            · subst h4
              have km4 : (V : Int) % 6 = 4 := km
              obtain ⟨r, hr⟩ : ∃ r, r = n % 20 := ⟨_, rfl⟩
              have kr : (n : Int) % 20 = (r : Int) := by omega
              have hr20 : r < 20 := by omega
              have hL := line_c (n : Int) wr (by omega) (by omega)
              generalize lineS (pk (n : Int) 1099511627776) = L at hL
              clear km hn hr h5 hm
              go_wp2_with (first
                | (go_at_call 12; refine (hp _).mono ?_; rintro e w4 ⟨rfl, rfl⟩)
                | (go_at_call 22; refine hL.mono ?_; rintro e w5 ⟨rfl, hb5⟩; clear hL; have hQ5 := hQ.later I hb5; clear hQ; have hZ := quiet_c noise p r w5 hs (by omega) (by omega))
                | (go_at_call 23; refine hZ.mono ?_; rintro e w6 ⟨y, rfl, hy, hyl, hb6⟩; clear hZ; have hQ6 := hQ5.later I hb6; clear hQ5; have hF : Calls Tryz.prog 16 #[.pointer (some a), .int .i64 4, .string ⟨y.toArray⟩] w6 fun e w' => e = .returned (.int .i64 0) ∧ Pair Srv w a b (400 + 200 * j + (⟨y.toArray⟩ : ByteArray).size) w' := hQ6.feedO (k := 4) I HG.out (by decide) (by decide) (quiet_bys hy) (by have e9 : (⟨y.toArray⟩ : ByteArray).size = y.length := (by show y.toArray.size = _; simp); unfold lim; omega))
                | (go_at_call 16; refine hF.mono ?_; rintro e w7 ⟨rfl, hQ7⟩; clear hF)
                | fail)
              have e9 : (⟨y.toArray⟩ : ByteArray).size = y.length := by show y.toArray.size = _; simp
              go_roundw
              case rel => exact ⟨j + 1, p + r, by omega, by omega, by go_num, by omega, by go_num, hQ7.mono (by omega)⟩
              case measure => simp [intOf] <;> omega
            · have k5 : ((m : Int) == 5) = false := by rw [beq_eq_false_iff_ne]; omega
              have k4 : ((m : Int) == 4) = false := by rw [beq_eq_false_iff_ne]; omega
              have hL := line_c (n : Int) wr (by omega) (by omega)
              have hls := lineS_size (pk (n : Int) 1099511627776)
              have hby := line_bys (pk (n : Int) 1099511627776) m (by omega)
              generalize lineS (pk (n : Int) 1099511627776) = L at hL hls hby
              have HM4 : Hid (m < 4) := (by omega : m < 4)
              clear hn h5 hm h4
              by_cases h2 : m < 2
              · have k2 : (m : Int) < 2 := by omega
                go_wp2_with (first
                  | (go_at_call 12; refine (hp _).mono ?_; rintro e w4 ⟨rfl, rfl⟩)
                  | (go_at_call 22; refine hL.mono ?_; rintro e w5 ⟨rfl, hb5⟩; clear hL; have hQ5 := hQ.later I hb5; clear hQ; have hF := hQ5.feedA I HG.out h2 hby (by unfold lim; omega); clear hQ5)
                  | (go_at_call 16; refine hF.mono ?_; rintro e w6 ⟨rfl, hQ6⟩; clear hF; have hF2 := hQ6.feedB I HG.out (by unfold lim; omega); clear hQ6)
                  | (go_at_call 16; refine hF2.mono ?_; rintro e w7 ⟨rfl, hQ7⟩; clear hF2)
                  | fail)
                go_roundw
                case rel => exact ⟨j + 1, p, by omega, by omega, rfl, by omega, by go_num, hQ7.mono (by omega)⟩
                case measure => simp [intOf] <;> omega
              · have k2 : ¬ (m : Int) < 2 := by omega
                go_wp2_with (first
                  | (go_at_call 12; refine (hp _).mono ?_; rintro e w4 ⟨rfl, rfl⟩)
                  | (go_at_call 22; refine hL.mono ?_; rintro e w5 ⟨rfl, hb5⟩; clear hL; have hQ5 := hQ.later I hb5; clear hQ; have hF := hQ5.feedO I HG.out (by omega) (by have := HM4.out; omega) hby (by unfold lim; omega); clear hQ5)
                  | (go_at_call 16; refine hF.mono ?_; rintro e w6 ⟨rfl, hQ6⟩; clear hF)
                  | fail)
                go_roundw
                case rel => exact ⟨j + 1, p, by omega, by omega, rfl, by omega, by go_num, hQ6.mono (by omega)⟩
                case measure => simp [intOf] <;> omega
        · have hT2 : Tells Srv w a b 0 wr := hQ.tells (by unfold lim; omega)
          clear hQ
          by_cases hjl : j < raw.length
          · have kl : (j : Int) < raw.length := by omega
            have kk : ¬ (j : Int) < 1000 := by omega
            go_wp2_with fail
            go_loopw [25] (fun k wx => ∃ n : Nat, n ≤ 2 ∧ k = .int .i64 n ∧ Tells Srv w a b n wx) (fun k _ => 2 - (intOf k).toNat)
            case atStart => exact ⟨0, by omega, rfl, hT2⟩
            case round =>
              obtain ⟨n, hn, rfl, hT⟩ := hrel
              clear hT2
              by_cases hn2 : n < 2
              · have kn : (n : Int) < 2 := by omega
                obtain ⟨tx, hbeg, hC⟩ := hT.one I HG.out hn2
                clear hT
                by_cases h0 : n = 0
                · subst h0
                  have hC' : Calls Tryz.prog 24 #[.pointer (some a), .int .i64 0] _ _ := hC
                  have hBg : ∀ W, Calls Tryz.prog 25 #[.string ⟨tx.toArray⟩, .string headO] W fun e w' => e = .returned (.bool true) ∧ w' = W := fun W => by have h := begins_c ⟨tx.toArray⟩ headO W; rw [show beginsB ⟨tx.toArray⟩ headO = true from hbeg] at h; exact h
                  clear hC hbeg
                  go_wp2_with (first
                    | (go_at_call 24; refine hC'.mono ?_; rintro e w8 ⟨rfl, hM⟩; clear hC'; have hD : Calls Tryz.prog 24 #[.pointer (some b), .int .i64 0] w8 fun e w' => e = .returned (.tuple #[.string ⟨tx.toArray⟩, .bool true]) ∧ Tells Srv w a b (0 + 1) w' := hM.two I HG.out hn2; clear hM)
                    | (go_at_call 24; refine hD.mono ?_; rintro e w9 ⟨rfl, hT9⟩; clear hD)
                    | (go_at_call 25; refine (hBg _).mono ?_; rintro e w10 ⟨rfl, rfl⟩)
                    | fail)
                  go_roundw
                  case rel => exact ⟨1, by omega, rfl, hT9⟩
                  case measure => simp [intOf] <;> omega
                · have k0 : ((n : Int) == 0) = false := by rw [beq_eq_false_iff_ne]; omega
                  have hmu : mustS n = ⟨#[79, 75, 10]⟩ := by unfold mustS; rw [if_neg h0]
                  rw [hmu] at hbeg
                  have hBg : ∀ W, Calls Tryz.prog 25 #[.string ⟨tx.toArray⟩, .string ⟨#[79, 75, 10]⟩] W fun e w' => e = .returned (.bool true) ∧ w' = W := fun W => by have h := begins_c ⟨tx.toArray⟩ ⟨#[79, 75, 10]⟩ W; rw [hbeg] at h; exact h
                  clear hbeg hmu h0
                  go_wp2_with (first
                    | (go_at_call 24; refine hC.mono ?_; rintro e w8 ⟨rfl, hM⟩; clear hC; have hD := hM.two I HG.out hn2; clear hM)
                    | (go_at_call 24; refine hD.mono ?_; rintro e w9 ⟨rfl, hT9⟩; clear hD)
                    | (go_at_call 25; refine (hBg _).mono ?_; rintro e w10 ⟨rfl, rfl⟩)
                    | fail)
                  go_roundw
                  case rel => exact ⟨n + 1, by omega, by go_num, hT9⟩
                  case measure => simp [intOf] <;> omega
              · have kn : ¬ (n : Int) < 2 := by omega
                go_wp2
                go_ret
                exact ⟨rfl, hT.below⟩
          · have kl : ¬ (j : Int) < raw.length := by omega
            go_wp2_with fail
            go_loopw [25] (fun k wx => ∃ n : Nat, n ≤ 2 ∧ k = .int .i64 n ∧ Tells Srv w a b n wx) (fun k _ => 2 - (intOf k).toNat)
            case atStart => exact ⟨0, by omega, rfl, hT2⟩
            case round =>
              obtain ⟨n, hn, rfl, hT⟩ := hrel
              clear hT2
              by_cases hn2 : n < 2
              · have kn : (n : Int) < 2 := by omega
                obtain ⟨tx, hbeg, hC⟩ := hT.one I HG.out hn2
                clear hT
                by_cases h0 : n = 0
                · subst h0
                  have hC' : Calls Tryz.prog 24 #[.pointer (some a), .int .i64 0] _ _ := hC
                  have hBg : ∀ W, Calls Tryz.prog 25 #[.string ⟨tx.toArray⟩, .string headO] W fun e w' => e = .returned (.bool true) ∧ w' = W := fun W => by have h := begins_c ⟨tx.toArray⟩ headO W; rw [show beginsB ⟨tx.toArray⟩ headO = true from hbeg] at h; exact h
                  clear hC hbeg
                  go_wp2_with (first
                    | (go_at_call 24; refine hC'.mono ?_; rintro e w8 ⟨rfl, hM⟩; clear hC'; have hD : Calls Tryz.prog 24 #[.pointer (some b), .int .i64 0] w8 fun e w' => e = .returned (.tuple #[.string ⟨tx.toArray⟩, .bool true]) ∧ Tells Srv w a b (0 + 1) w' := hM.two I HG.out hn2; clear hM)
                    | (go_at_call 24; refine hD.mono ?_; rintro e w9 ⟨rfl, hT9⟩; clear hD)
                    | (go_at_call 25; refine (hBg _).mono ?_; rintro e w10 ⟨rfl, rfl⟩)
                    | fail)
                  go_roundw
                  case rel => exact ⟨1, by omega, rfl, hT9⟩
                  case measure => simp [intOf] <;> omega
                · have k0 : ((n : Int) == 0) = false := by rw [beq_eq_false_iff_ne]; omega
                  have hmu : mustS n = ⟨#[79, 75, 10]⟩ := by unfold mustS; rw [if_neg h0]
                  rw [hmu] at hbeg
                  have hBg : ∀ W, Calls Tryz.prog 25 #[.string ⟨tx.toArray⟩, .string ⟨#[79, 75, 10]⟩] W fun e w' => e = .returned (.bool true) ∧ w' = W := fun W => by have h := begins_c ⟨tx.toArray⟩ ⟨#[79, 75, 10]⟩ W; rw [hbeg] at h; exact h
                  clear hbeg hmu h0
                  go_wp2_with (first
                    | (go_at_call 24; refine hC.mono ?_; rintro e w8 ⟨rfl, hM⟩; clear hC; have hD := hM.two I HG.out hn2; clear hM)
                    | (go_at_call 24; refine hD.mono ?_; rintro e w9 ⟨rfl, hT9⟩; clear hD)
                    | (go_at_call 25; refine (hBg _).mono ?_; rintro e w10 ⟨rfl, rfl⟩)
                    | fail)
                  go_roundw
                  case rel => exact ⟨n + 1, by omega, by go_num, hT9⟩
                  case measure => simp [intOf] <;> omega
              · have kn : ¬ (n : Int) < 2 := by omega
                go_wp2
                go_ret
                exact ⟨rfl, hT.below⟩
end
end Go.Proofs.YtmjncadancppoaaGreatDoor.K
