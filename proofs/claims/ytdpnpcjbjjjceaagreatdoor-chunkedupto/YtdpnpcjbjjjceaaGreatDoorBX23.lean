import Derived.Laws.BytesArg
import Derived.Test.YtdpnpcjbjjjceaaGreatDoorBX18
set_option linter.unusedSimpArgs false
set_option linter.unusedVariables false
namespace Go.Proofs.YtdpnpcjbjjjceaaGreatDoor.S
open Go.RowKit Go.Maps Go.MuLone Go.Proofs.YtdpnpcjbjjjceaaGreatDoor

/-- the answers are set anew -/
theorem out_set {X : Cx} {w : World} {n : Nat} {y : M.Sys} {c : M.Conn} {rv : Value} (h : KAt X w n y c rv) (av' : Value) (o' : M.Bytes) (ha : AnsAt 5 X.O w av' o') :
    KAt X (w.setCell ⟨X.cb, 7, none⟩ av') n y { c with out := o' } rv ∧ TurnK X w (w.setCell ⟨X.cb, 7, none⟩ av') := by
  obtain ⟨sv, wt, nv, tv, iv, av, hc⟩ := h.conn
  have hne : ∀ k, k ≠ X.cb → (w.setCell ⟨X.cb, 7, none⟩ av').heap[k]? = w.heap[k]? := fun k hk => heap_set_other _ _ _ _ hk
  refine ⟨⟨h.ok, h.sys.same (Nat.le_refl _) (hne _ ?_) (hne _ ?_) (fun u hu => ⟨hne _ ?_, hne _ ?_⟩), sv, wt, nv, tv, iv, av', hc.cb.answer (Turn.refl _ _) ha, hc.owner, hc.want.same (fun k cur e ho _ _ => hne k (fun e1 => h.ok.apartC (e1 ▸ ho))), hc.nv, hc.tv, hc.iv⟩, (Turn.refl _ _).setCell (p := ⟨X.cb, 7, none⟩) (Or.inl (Or.inl rfl)) _⟩
  · intro e; have := h.ok.g; rw [e, h.ok.cb] at this; cases this
  · intro e; have := h.ok.T; rw [e, h.ok.cb] at this; cases this
  · intro e; have := h.ok.sb u hu; rw [e, h.ok.cb] at this; omega
  · intro e; have := h.ok.eb u hu; rw [e, h.ok.cb] at this; omega
theorem out_nil {X : Cx} {w : World} {n : Nat} {y : M.Sys} {c : M.Conn} {rv : Value} (h : KAt X w n y c rv) (av' : Value) (o' : M.Bytes) (ha : AnsAt 5 X.O w av' o') :
    KAt X ((w.setCell ⟨X.cb, 7, none⟩ av').setCell ⟨X.cb, 7, none⟩ (.slice none 0 0)) n y { c with out := [] } rv ∧ TurnK X w ((w.setCell ⟨X.cb, 7, none⟩ av').setCell ⟨X.cb, 7, none⟩ (.slice none 0 0)) := by
  have p := out_set h av' o' ha
  have q := out_set p.1 (.slice none 0 0) [] (Or.inl ⟨rfl, rfl⟩)
  exact ⟨q.1, p.2.trans q.2⟩
theorem KAt.ans {X : Cx} {w : World} {n : Nat} {y : M.Sys} {c : M.Conn} {rv : Value} (h : KAt X w n y c rv) : ∃ av, w.cell? ⟨X.cb, 7, none⟩ = some av ∧ AnsAt 5 X.O w av c.out := by
  obtain ⟨sv, wt, nv, tv, iv, av, hc⟩ := h.conn
  exact ⟨av, hc.cb.c7, hc.cb.ans⟩
theorem conv_ans (w : World) (g off L cap : Nat) (l : M.Bytes) (hl : l.length = L) (hc : ∀ j b, l[j]? = some b → w.cell? ⟨g, off + j, none⟩ = some (u8 b)) :
    (convert 63 9 (.slice (some ⟨g, off, none⟩) L cap)).run Tryz.prog w = .ok (.string ⟨l.toArray⟩) w := by
  have h := run_convert_bytes_arg (P := Tryz.prog) w 63 5 Tryz.underlying63 Tryz.underlying5 g off L cap (l.map fun b => (b.toNat : Int)) (by rw [List.length_map]; exact hl) (fun i hi => by
    have hi' : i < l.length := by omega
    rw [hc i l[i] (List.getElem?_eq_getElem hi'), List.getD_eq_getElem?_getD, List.getElem?_map, List.getElem?_eq_getElem hi']; rfl) 9 Tryz.underlying9
  have e : strOfNums (l.map fun b => (b.toNat : Int)) = ⟨l.toArray⟩ := by
    apply ByteArray.ext
    apply Array.ext'
    rw [strOfNums_data, List.map_map]
    refine (List.map_congr_left (g := id) (fun b _ => ?_)).trans (List.map_id l)
    simp
  rw [h, e]
set_option maxRecDepth 20000 in
set_option maxHeartbeats 4000000 in
theorem take_nil {X : Cx} {w : World} {n : Nat} {y : M.Sys} {c : M.Conn} {rv : Value} (h : KAt X w n y c rv) (k : Nat) (hk : k ≤ 1099511627776) (c7 : w.cell? ⟨X.cb, 7, none⟩ = some (.slice none 0 0)) (hout : c.out = []) :
    Calls Tryz.prog 54 #[.pointer (some ⟨X.cb, 0, none⟩), .int .i64 k] w fun e w' => e = .returned (.string ⟨(c.out.take k).toArray⟩) ∧ KAt X w' n y { c with out := c.out.drop k } rv ∧ TurnK X w w' := by
  have f7 := h.fz 7
  have HS := Hid.of (out_nil h (.slice none 0 0) [] (Or.inl ⟨rfl, rfl⟩))
  rw [hout, List.take_nil, List.drop_nil]
  have hm : max 0 (min (k : Int) 0) = 0 := by omega
  have hconv : (convert 63 9 (.slice none 0 0)).run Tryz.prog w = .ok (.string ⟨#[]⟩) w := run_convert_bytes_nil (P := Tryz.prog) w 63 5 Tryz.underlying63 Tryz.underlying5 0 0 9 Tryz.underlying9
  have hcb := h.lt
  clear h hout
  go_enter Tryz.func54, Tryz.ntmps54
  go_wp2_with fail
  go_ret
  exact ⟨rfl, HS.out.1, HS.out.2⟩
set_option maxRecDepth 20000 in
set_option maxHeartbeats 4000000 in
theorem take_some {X : Cx} {w : World} {n : Nat} {y : M.Sys} {c : M.Conn} {rv : Value} (h : KAt X w n y c rv) (k : Nat) (hk : k ≤ 1099511627776) (g off cap : Nat) (cur : Array Value) (L : Nat) (hL : c.out.length = L) (c7 : w.cell? ⟨X.cb, 7, none⟩ = some (.slice (some ⟨g, off, none⟩) L cap)) (hO : X.O g) (hg : w.heap[g]? = some (.cells cur 5 (0, 0))) (h1 : L ≤ cap) (h2 : off + cap ≤ cur.size) (h3 : cap ≤ maxLen) (h4 : ∀ j b, c.out[j]? = some b → cur[off + j]? = some (u8 b)) :
    Calls Tryz.prog 54 #[.pointer (some ⟨X.cb, 0, none⟩), .int .i64 k] w fun e w' => e = .returned (.string ⟨(c.out.take k).toArray⟩) ∧ KAt X w' n y { c with out := c.out.drop k } rv ∧ TurnK X w w' := by
  have f7 := h.fz 7
  obtain ⟨m, hmm⟩ : ∃ m, m = min k L := ⟨_, rfl⟩
  have hm : max 0 (min (k : Int) L) = m := by omega
  have e1 : c.out.take k = c.out.take m := by rw [hmm, ← hL]; simp [List.take_eq_take_iff]
  have e2 : c.out.drop k = c.out.drop m := by
    rw [hmm, ← hL]
    rcases Nat.le_total k c.out.length with hh | hh
    · rw [Nat.min_eq_left hh]
    · rw [Nat.min_eq_right hh, List.drop_eq_nil_of_le hh, List.drop_length]
  have hml : m ≤ L := by omega
  have hconv : (convert 63 9 (.slice (some ⟨g, off, none⟩) m cap)).run Tryz.prog w = .ok (.string ⟨(c.out.take m).toArray⟩) w := conv_ans w g off m cap (c.out.take m) (by rw [List.length_take]; omega) (fun j b hb => by
    rw [List.getElem?_take] at hb
    split at hb
    · exact heap_cell hg (off + j) (h4 j b hb)
    · cases hb)
  rw [e1, e2]
  have hcb := h.lt
  have hmax : cap ≤ 9223372036854775807 := by unfold maxLen at h3; omega
  by_cases hz : m = L
  · have HS : Hid (∀ o' c', o' + c' ≤ cur.size → c' ≤ maxLen → KAt X ((w.setCell ⟨X.cb, 7, none⟩ (.slice (some ⟨g, o', none⟩) 0 c')).setCell ⟨X.cb, 7, none⟩ (.slice none 0 0)) n y { c with out := [] } rv ∧ TurnK X w ((w.setCell ⟨X.cb, 7, none⟩ (.slice (some ⟨g, o', none⟩) 0 c')).setCell ⟨X.cb, 7, none⟩ (.slice none 0 0))) := fun o' c' k1 k2 => out_nil h _ [] (Or.inr ⟨g, o', c', cur, rfl, hO, hg, Nat.zero_le _, k1, k2, fun j b hb => by simp at hb⟩)
    have e3 : c.out.drop m = [] := List.drop_eq_nil_of_le (by omega)
    rw [e3]
    obtain ⟨R, hR⟩ : ∃ R : ByteArray, R = ⟨(c.out.take m).toArray⟩ := ⟨_, rfl⟩
    rw [← hR] at hconv ⊢
    subst hz
    clear h h4 hg hR hmm e1 e2 hL e3
    go_enter Tryz.func54, Tryz.ntmps54
    go_wp2_with fail
    all_goals
      go_ret
      refine ⟨rfl, ?_⟩
      exact HS.out _ _ (by omega) (by omega)
  · have ha : AnsAt 5 X.O w (.slice (some ⟨g, off + m, none⟩) (L - m) (cap - m)) (c.out.drop m) := by
      refine Or.inr ⟨g, off + m, cap - m, cur, by rw [List.length_drop, hL], hO, hg, by rw [List.length_drop, hL]; omega, by omega, by omega, fun j b hb => ?_⟩
      rw [List.getElem?_drop] at hb
      rw [show off + m + j = off + (m + j) by omega]
      exact h4 _ b hb
    have HS := Hid.of (out_set h _ _ ha)
    obtain ⟨R, hR⟩ : ∃ R : ByteArray, R = ⟨(c.out.take m).toArray⟩ := ⟨_, rfl⟩
    rw [← hR] at hconv ⊢
    have hz1 : m < L := by omega
    have hz2 : ¬ ((L : Int) - m = 0) := by omega
    clear h h4 hg hR hmm e1 e2 hL ha
    go_enter Tryz.func54, Tryz.ntmps54
    go_wp2_with fail
    all_goals
      go_ret
      refine ⟨rfl, ?_⟩
      exact HS.out
theorem take_c {X : Cx} {w : World} {n : Nat} {y : M.Sys} {c : M.Conn} {rv : Value} (h : KAt X w n y c rv) (k : Nat) (hk : k ≤ 1099511627776) :
    Calls Tryz.prog 54 #[.pointer (some ⟨X.cb, 0, none⟩), .int .i64 k] w fun e w' => e = .returned (.string ⟨(c.out.take k).toArray⟩) ∧ KAt X w' n y { c with out := c.out.drop k } rv ∧ TurnK X w w' := by
  obtain ⟨av, c7, ha⟩ := h.ans
  rcases ha with ⟨rfl, hout⟩ | ⟨g, off, cap, cur, rfl, hO, hg, h1, h2, h3, h4⟩
  · exact take_nil h k hk c7 hout
  · exact take_some h k hk g off cap cur _ rfl c7 hO hg h1 h2 h3 h4
end Go.Proofs.YtdpnpcjbjjjceaaGreatDoor.S
