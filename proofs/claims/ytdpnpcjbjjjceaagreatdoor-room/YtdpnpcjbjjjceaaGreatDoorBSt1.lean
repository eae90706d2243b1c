import Derived.Deep.QuietTactic
import Derived.BigQuiet
import Derived.Outline
import Derived.RegionTactic
import Derived.Deep.RegionWith
import Derived.Test.YtdpnpcjbjjjceaaGreatDoorBTurn
set_option linter.unusedSimpArgs false
set_option linter.unusedVariables false
namespace Go.Proofs.YtdpnpcjbjjjceaaGreatDoor.S
open Go.RowKit Go.Maps Go.MuLone Go.Proofs.YtdpnpcjbjjjceaaGreatDoor

theorem lookup_ent {P : Program} (w : World) {ops : Array Oper} {rest : List Oper} {o : Oper} {a : Act} {Q : Exit → Act → World → Prop}
    (hg : o.guard = none) (m x : Operand) (t : TypeId) (hop : o.op = Op.lookup t m x true)
    (k e : TypeId) (K : Keyed P k) (ht : P.underlying t = some (.map k e)) (hz : (zeroValue e).run P w = .ok (entV (⟨[], [], 0, 0, 0⟩, 0)) w) (b n : Nat) (D : DataW Unit)
    (hm : a.eval m = .map (some b)) (hown : w.ownsMap P k entElem b n D) (key : Value) (kl : Lit) (hx : a.eval x = key) (hkey : keyOf P k key = some kl) (p : Row) (bv : Bool) (hbv : Maps.has D kl = bv) (hat : D.atKey kl (entD (⟨[], [], 0, 0, 0⟩, 0)) = entD p)
    (hK : wpList P ops Q rest (a.put o.dst (.tuple #[entV p, .bool bv])) w) :
    wpList P ops Q (o :: rest) a w :=
  wpList_lookup_own_ok w hg m x t hop k e K ht entElem hz (entD (⟨[], [], 0, 0, 0⟩, 0)) [] rfl b n D hm hown key kl hx hkey (fun v ps hv => by
    rw [hat] at hv
    rw [entElem_inv hv, hbv]
    exact hK)

theorem cost_c (k v : ByteArray) (f : Int) (w : World) (hk : k.size ≤ 1000000) (hv : v.size ≤ 1000000) (c : Nat) (hc : k.size + v.size + 16 = c) : Calls Tryz.prog 134 #[.agg #[.string k, .string v, .int .i64 f]] w fun e w' => e = .returned (.int .i64 c) ∧ Below w.heap.size w w' := by
  have HC : Hid ((k.size : Int) + v.size + 16 = c) := by show _ = _; omega
  clear hc
  go_enter Tryz.func134, Tryz.ntmps134
  go_wp2
  go_ret
  exact ⟨by rw [← HC.out]; rfl, (Below.refl _ _).alloc (Nat.le_refl _) _⟩

set_option maxRecDepth 20000 in
theorem use_c (w : World) (sb eb : Nat) (l : Lk) (x : Num) (rs : List Row) (h : Box w sb eb l x rs) (hx : x.uses ≤ 1000000000000) (hl : rs.length ≤ 1000) (p : Row) (K V : ByteArray) (f m st u : Int)
    (hkey : keyOf Tryz.prog 9 (.string K) = some (.string p.1.key)) (hp : ∀ j : Nat, Value.agg #[.string K, .string V, .int .i64 f, .int .i64 m, .int .i64 st, .int .i64 j] = entV (p.1, j)) :
    Calls Tryz.prog 213 #[.pointer (some ⟨sb, 0, none⟩), .agg #[.string K, .string V, .int .i64 f, .int .i64 m, .int .i64 st, .int .i64 u]] w fun e w' =>
      e = .returned (.tuple #[]) ∧ Box w' sb eb l { x with uses := x.uses + 1 } (goneR rs p.1.key ++ [(p.1, x.uses + 1)]) ∧ Turn (ofStore sb eb) w w' := by
  have hsb := h.lt.1
  have c3 := h.c3
  have c6 := h.c6
  have f6 := h.fz 7
  have HB : Hid (Box w sb eb l x rs) := h
  have HP : Hid (∀ j : Nat, Value.agg #[.string K, .string V, .int .i64 f, .int .i64 m, .int .i64 st, .int .i64 j] = entV (p.1, j)) := hp
  clear h hp
  go_enter Tryz.func213, Tryz.ntmps213
  obtain ⟨D, hD, hH⟩ := HB.out.map
  have hD1 : Hid (∀ o, ((w.setCell ⟨sb, 7, none⟩ (.int .i64 (x.uses + 1))).alloc o).ownsMap Tryz.prog 9 entElem eb rs.length D) := fun o => (hD.setCell (a := ⟨sb, 7, none⟩) (fun e => HB.out.ne e.symm) _).alloc o
  have HH : Hid (Holds D rs) := hH
  clear hD hH
  obtain ⟨w1, hrun, hown1, hgrow1⟩ := ((hD1.out (.cells #[.string K, .string V, .int .i64 f, .int .i64 m, .int .i64 st, .int .i64 (x.uses + 1)] 164)).drew).update keyed Tryz.underlying153 (by unfold maxLen; omega) hkey (val := .agg #[.string K, .string V, .int .i64 f, .int .i64 m, .int .i64 st, .int .i64 (x.uses + 1)]) (d := entD (p.1, x.uses + 1)) (ps := []) (by rw [show ((x.uses : Int) + 1) = ((x.uses + 1 : Nat) : Int) from rfl, HP.out]; rfl)
  have HO1 : Hid (w1.ownsMap Tryz.prog 9 entElem eb (rs.length + 1) (D.put (.string p.1.key) (entD (p.1, x.uses + 1)))) := hown1
  have HG1 : Hid (World.grownBy _ w1 (some eb)) := hgrow1
  clear hown1 hgrow1
  go_wp2_with fail
  go_region
  go_end0
  refine ⟨rfl, ?_⟩
  have hW := (HB.out.set (x' := { x with uses := x.uses + 1 }) (l' := l) 7 (.int .i64 (x.uses + 1)) rfl).alloc (.cells #[.string K, .string V, .int .i64 f, .int .i64 m, .int .i64 st, .int .i64 (x.uses + 1)] 164)
  refine ⟨⟨(HG1.out.block sb hW.lt.1 (fun e => hW.ne (Option.some.inj e))).trans hW.cells, _, own_len HO1.out (HH.out.put (p.1, x.uses + 1)), HH.out.put (p.1, x.uses + 1)⟩, ?_⟩
  exact ((((Turn.refl _ w).setCell (p := ⟨sb, 7, none⟩) (Or.inl (Or.inl rfl)) _).alloc _).drew).grown HG1.out (fun k hk => Or.inl (Or.inr (Option.some.inj hk).symm))

theorem remove_none (w : World) (sb eb : Nat) (l : Lk) (x : Num) (rs : List Row) (h : Box w sb eb l x rs) (k : M.Bytes) (K : ByteArray) (hkey : keyOf Tryz.prog 9 (.string K) = some (.string k)) (hf : findR rs k = none) :
    Calls Tryz.prog 93 #[.pointer (some ⟨sb, 0, none⟩), .string K] w fun e w' => e = .returned (.tuple #[]) ∧ Below w.heap.size w w' := by
  have hsb := h.lt.1
  have c3 := h.c3
  obtain ⟨D, hD, hH⟩ := h.map
  obtain ⟨h1, h2⟩ := hH.find_none hf
  have HD : Hid (w.ownsMap Tryz.prog 9 entElem eb rs.length D) := hD
  clear h hf hD hH
  go_enter Tryz.func93, Tryz.ntmps93
  go_wp2_with (at_lookup; refine lookup_ent _ rfl _ _ 153 rfl 9 164 keyed Tryz.underlying153 (zeroEnt _) eb rs.length D rfl HD.out _ _ rfl hkey _ false h1 (h2 _) ?_; unfold entV str int)
  go_end0
  exact ⟨rfl, (Below.refl _ _).alloc (Nat.le_refl _) _⟩
end Go.Proofs.YtdpnpcjbjjjceaaGreatDoor.S
namespace Go.Proofs.YtdpnpcjbjjjceaaGreatDoor.S
open Go.RowKit Go.Maps Go.MuLone Go.Proofs.YtdpnpcjbjjjceaaGreatDoor

theorem next_ent {P : Program} (w : World) {ops : Array Oper} {rest : List Oper} {o : Oper} {a : Act} {Q : Exit → Act → World → Prop} (hg : o.guard = none) (it : Operand) (hop : o.op = Op.next it false) (k : TypeId) (K : Keyed P k) (hk : P.underlying k = some .string)
    (b r n : Nat) (D : DataW Unit) (rs : List Row) (hH : Holds D rs) (left : Lit → Bool) (cnt : Nat)
    (hit : a.eval it = .pointer (some ⟨r, 0, none⟩)) (h : w.ranges P k entElem b r n D left cnt)
    (hDone : (∀ kl, left kl = false) → wpList P ops Q rest (a.put o.dst (.tuple #[.bool false])) w)
    (hMore : ∀ (p : Row) (w' : World) (cnt' : Nat), p ∈ rs → w'.ranges P k entElem b r n D (fun z => left z && !z.sameKey (.string p.1.key)) cnt' → cnt' < cnt → w.grownBy w' (some r) → w'.heap.size = w.heap.size →
      (Instr.entry (.pointer (some ⟨r, 0, none⟩))).run P w' = .ok (.tuple #[str p.1.key, entV p]) w' → wpList P ops Q rest (a.put o.dst (.tuple #[.bool true, str p.1.key, entV p])) w') :
    wpList P ops Q (o :: rest) a w :=
  wpList_next_ranges w hg it hop k K entElem Value.string id (fun key kl hkey => by obtain ⟨s, rfl, _⟩ := WideMaps.string_of_keyOf hk hkey; exact ⟨s, rfl⟩) (fun v y _ => ⟨v, rfl⟩) b r n D left cnt hit h (fun _ hl => hDone hl)
    (fun x c kl y w' cnt' hkey hlk hv hat hrg hlt hgr hsz hen => by
      obtain ⟨s, es, rfl, _⟩ := WideMaps.string_of_keyOf hk hkey
      cases es
      have hh := has_true_of_atKey hat
      rw [hH.has] at hh
      obtain ⟨p, hp, hpk⟩ := List.any_eq_true.1 hh
      have hpk := (hasK_iff _ _).1 hpk
      have hy : y.1 = entD p := (hat .nil).symm.trans (hpk ▸ hH.at_ p hp .nil)
      have hc : c = entV p := entElem_inv (ps := y.2) (by rw [← hy]; exact hv)
      subst hc
      rw [← hpk] at hrg
      have hx : x = ⟨p.1.key.toArray⟩ := bytes_eq hpk.symm
      subst hx
      exact hMore p w' cnt' hp hrg hlt hgr hsz hen)

/-- the loop over all entries: who has the least number of those that came -/
def LInv (rs : List Row) (u : Nat) (left : Lit → Bool) (K : ByteArray) (j : Nat) : Prop :=
  (∀ p ∈ rs, left (.string p.1.key) = false → j ≤ p.2) ∧ (j = u + 1 ∨ ∃ p ∈ rs, K = ⟨p.1.key.toArray⟩ ∧ j = p.2) ∧ j ≤ u + 1
theorem linv_start {D : DataW Unit} {rs : List Row} (h : Holds D rs) (u : Nat) (K : ByteArray) : LInv rs u (Maps.has D) K (u + 1) := by
  refine ⟨fun p hp hl => ?_, Or.inl rfl, Nat.le_refl _⟩
  rw [h.has, List.any_eq_false] at hl
  exact absurd ((hasK_iff _ _).2 rfl) (hl p hp)
theorem same_row {rs : List Row} (hn : (rs.map (fun p => p.1.key)).Nodup) {p q : Row} (hp : p ∈ rs) (hq : q ∈ rs) (he : p.1.key = q.1.key) : p = q := by
  induction rs with
  | nil => cases hp
  | cons a r ih =>
    obtain ⟨h1, h2⟩ := List.nodup_cons.1 hn
    rcases List.mem_cons.1 hp with e1 | hp'
    · rcases List.mem_cons.1 hq with e2 | hq'
      · rw [e1, e2]
      · exact absurd (List.mem_map.2 ⟨q, hq', by rw [← he, e1]⟩) h1
    · rcases List.mem_cons.1 hq with e2 | hq'
      · exact absurd (List.mem_map.2 ⟨p, hp', by rw [he, e2]⟩) h1
      · exact ih h2 hp' hq'
theorem sameKey_str (a b : M.Bytes) : (Lit.string a).sameKey (.string b) = decide (a = b) := by
  show (a == b) = decide (a = b)
  by_cases h : a = b <;> simp [h]
theorem linv_less {rs : List Row} {u : Nat} {left : Lit → Bool} {K : ByteArray} {j : Nat} (h : LInv rs u left K j) (hn : (rs.map (fun p => p.1.key)).Nodup) {p : Row} (hp : p ∈ rs) (hlt : p.2 < j) :
    LInv rs u (fun z => left z && !z.sameKey (.string p.1.key)) ⟨p.1.key.toArray⟩ p.2 := by
  refine ⟨fun q hq hl => ?_, Or.inr ⟨p, hp, rfl, rfl⟩, Nat.le_trans (Nat.le_of_lt hlt) h.2.2⟩
  by_cases he : q.1.key = p.1.key
  · rw [same_row hn hq hp he]; exact Nat.le_refl _
  · simp only [sameKey_str, he, decide_false, Bool.not_false, Bool.and_true] at hl
    exact Nat.le_trans (Nat.le_of_lt hlt) (h.1 q hq hl)
theorem linv_more {rs : List Row} {u : Nat} {left : Lit → Bool} {K : ByteArray} {j : Nat} (h : LInv rs u left K j) (hn : (rs.map (fun p => p.1.key)).Nodup) {p : Row} (hp : p ∈ rs) (hle : j ≤ p.2) :
    LInv rs u (fun z => left z && !z.sameKey (.string p.1.key)) K j := by
  refine ⟨fun q hq hl => ?_, h.2⟩
  by_cases he : q.1.key = p.1.key
  · rw [same_row hn hq hp he]; exact hle
  · simp only [sameKey_str, he, decide_false, Bool.not_false, Bool.and_true] at hl
    exact h.1 q hq hl
theorem linv_end {p0 : Row} {r : List Row} {u : Nat} {left : Lit → Bool} {K : ByteArray} {j : Nat} (h : LInv (p0 :: r) u left K j) (hl : ∀ k, left k = false) (hr : ((p0 :: r).map (·.2)).Pairwise (· < ·)) (hu : p0.2 ≤ u) : K = ⟨p0.1.key.toArray⟩ := by
  have h0 := h.1 p0 List.mem_cons_self (hl _)
  rcases h.2.1 with h1 | ⟨p, hp, rfl, rfl⟩
  · omega
  · rcases List.mem_cons.1 hp with rfl | hp
    · rfl
    · have : p0.2 < p.2 := (List.pairwise_cons.1 hr).1 p.2 (List.mem_map.2 ⟨p, hp, rfl⟩)
      omega

theorem drewN_size (w : World) (n : Nat) : (w.drewN n).heap.size = w.heap.size := rfl
theorem ranges_drewN {w : World} {P : Program} {k : TypeId} {R : Value → Option (DataW Unit × List MemPlace)} {b r n : Nat} {D : DataW Unit} {left : Lit → Bool} {cnt : Nat} (h : w.ranges P k R b r n D left cnt) (q : Nat) : (w.drewN q).ranges P k R b r n D left cnt := h
theorem below_grown {w w' : World} (h : w.grownBy w' none) : Below w.heap.size w w' := ⟨h.os, h.tape, h.output, h.size, fun i hi => h.block i hi (by simp)⟩
set_option maxRecDepth 20000 in
theorem longest_c (w : World) (sb eb : Nat) (l : Lk) (x : Num) (p0 : Row) (r : List Row) (h : Box w sb eb l x (p0 :: r)) (n : Nat) (hs : Sound n x (p0 :: r)) (hn : n ≤ 1000000000000) :
    Calls Tryz.prog 218 #[.pointer (some ⟨sb, 0, none⟩)] w fun e w' => e = .returned (str p0.1.key) ∧ Below w.heap.size w w' := by
  have hsb := h.lt.1
  have c3 := h.c3
  have c6 := h.c6
  have hu : x.uses ≤ 1000000000000 := Nat.le_trans hs.uses hn
  obtain ⟨D, hD, hH⟩ := h.map
  obtain ⟨rs, hrs⟩ : ∃ rs, rs = p0 :: r := ⟨_, rfl⟩
  have HRS : Hid (rs = p0 :: r) := hrs
  have HS : Hid (Sound n x rs) := by show Sound n x rs; rw [hrs]; exact hs
  rw [← hrs] at hD hH
  have HD : Hid (w.ownsMap Tryz.prog 9 entElem eb rs.length D) := hD
  have HH : Hid (Holds D rs) := hH
  have HL : Hid (LInv rs x.uses (Maps.has D) ⟨#[]⟩ (x.uses + 1)) := linv_start hH x.uses _
  clear h hs hD hH hrs
  go_enter Tryz.func218, Tryz.ntmps218
  go_wp2_with fail
  go_quiet (fail)
  have HD2 : Hid ((w.drewN nq).ownsMap Tryz.prog 9 entElem eb rs.length D) := HD.out
  have hBq : Hid (Below w.heap.size w (w.drewN nq)) := below_drewN (Below.refl _ _) _
  go_wp2_with (first
    | (at_range; refine wpList_range_own _ rfl _ 153 rfl 9 164 keyed Tryz.underlying153 _ eb rs.length D rfl HD2.out ?_; intro w0 hrg0 hg0 hs0)
    | go_in)
  go_frame
  rw [drewN_size] at hrg0 hs0 ⊢
  go_loopw [3, 4] (fun kv lv wr => ∃ (K : ByteArray) (j : Nat), kv = .string K ∧ lv = .int .i64 j ∧ j ≤ x.uses + 1 ∧ Hid (∃ (left : Lit → Bool) (cnt : Nat), wr.ranges Tryz.prog 9 entElem eb w.heap.size rs.length D left cnt ∧ Below w.heap.size w wr ∧ LInv rs x.uses left K j))
    (fun _ _ wr => wr.rangeLeft eb w.heap.size)
  case atStart => exact ⟨_, _, rfl, rfl, Nat.le_refl _, _, _, hrg0, hBq.out.trans (below_grown hg0), HL.out⟩
  case round =>
    obtain ⟨K, j, rfl, rfl, hj, hrel⟩ := hrel
    obtain ⟨left, cnt, hrg, hbl, hli⟩ := hrel.out
    have HRG : Hid (wr.ranges Tryz.prog 9 entElem eb w.heap.size rs.length D left cnt) := hrg
    have HBL : Hid (Below w.heap.size w wr) := hbl
    have HLI : Hid (LInv rs x.uses left K j) := hli
    clear hrg hbl hli hrel
    go_wp2_with (first
      | (at_next; refine next_ent _ rfl _ rfl 9 keyed Tryz.underlying9 eb w.heap.size rs.length D rs HH.out left cnt rfl HRG.out ?_ ?_)
      | go_in)
    · intro hl0
      have hK : K = ⟨p0.1.key.toArray⟩ := linv_end (HRS.out ▸ HLI.out) hl0 (HRS.out ▸ HS.out.rising) (HS.out.used p0 (by rw [HRS.out]; exact List.mem_cons_self))
      go_wp2
      go_ret
      exact ⟨by rw [hK]; rfl, HBL.out⟩
    · intro pe pu w1 cnt1 hp hrg1 hlt hg1 hs1 hen
      have hb1 : Hid (Below w.heap.size w w1) := HBL.out.grown hg1 HBL.out.size (fun j hj => by cases hj; exact Nat.le_refl _)
      have hnd := HH.out.nodup
      have hpu := HS.out.used (pe, pu) hp
      have HP : Hid ((pe, pu) ∈ rs) := hp
      have HRG1 : Hid (w1.ranges Tryz.prog 9 entElem eb w.heap.size rs.length D (fun z => left z && !z.sameKey (.string pe.key)) cnt1) := hrg1
      have HND : Hid ((rs.map (fun p : Row => p.1.key)).Nodup) := hnd
      have hme := HRG.out.left_eq
      have HME : Hid (∀ o, (w1.alloc o).rangeLeft eb w.heap.size < wr.rangeLeft eb w.heap.size) := by intro o; rw [hme, (hrg1.alloc o).left_eq]; exact hlt
      unfold entV str int at hen ⊢
      clear hme hrg1 hp hg1 hnd hlt
      by_cases hlt : pu < j
      · have klt : (pu : Int) < j := by omega
        go_wp2_with fail
        go_quiet (fail)
        go_wp2
        go_roundw
        case rel => exact ⟨_, pu, rfl, rfl, by omega, _, cnt1, ranges_drewN (HRG1.out.alloc _) _, below_drewN (hb1.out.alloc hb1.out.size _) _, linv_less HLI.out HND.out HP.out hlt⟩
        case measure => exact HME.out _
      · have klt : ¬ (pu : Int) < j := by omega
        go_wp2
        go_roundw
        case rel => exact ⟨_, j, rfl, rfl, hj, _, cnt1, HRG1.out.alloc _, hb1.out.alloc hb1.out.size _, linv_more HLI.out HND.out HP.out (by omega)⟩
        case measure => exact HME.out _
end Go.Proofs.YtdpnpcjbjjjceaaGreatDoor.S
namespace Go.Proofs.YtdpnpcjbjjjceaaGreatDoor.S
open Go.RowKit Go.Maps Go.MuLone Go.Proofs.YtdpnpcjbjjjceaaGreatDoor

set_option maxRecDepth 20000 in
theorem remove_some (w : World) (sb eb : Nat) (l : Lk) (x : Num) (rs : List Row) (h : Box w sb eb l x rs) (n : Nat) (hs : Sound n x rs) (k : M.Bytes) (K : ByteArray) (hkey : keyOf Tryz.prog 9 (.string K) = some (.string k)) (p : Row) (hf : findR rs k = some p) :
    Calls Tryz.prog 93 #[.pointer (some ⟨sb, 0, none⟩), .string K] w fun e w' => e = .returned (.tuple #[]) ∧ Box w' sb eb l { x with cost := x.cost - M.cost p.1 } (goneR rs k) ∧ Turn (ofStore sb eb) w w' := by
  have hsb := h.lt.1
  have c3 := h.c3
  have c4 := h.c4
  have f4 := h.fz 5
  obtain ⟨D, hD, hH⟩ := h.map
  obtain ⟨h1, h2⟩ := hH.find_some hf
  have HD : Hid (w.ownsMap Tryz.prog 9 entElem eb rs.length D) := hD
  have HH : Hid (Holds D rs) := hH
  have HB : Hid (Box w sb eb l x rs) := h
  have hp := find_mem hf
  have hsm := hs.small p hp.1
  obtain ⟨pk, hpk⟩ : ∃ pk, pk = (⟨p.1.key.toArray⟩ : ByteArray) := ⟨_, rfl⟩
  obtain ⟨pv, hpv⟩ : ∃ pv, pv = (⟨p.1.value.toArray⟩ : ByteArray) := ⟨_, rfl⟩
  have hk1 : pk.size = p.1.key.length := by rw [hpk]; rfl
  have hv1 : pv.size = p.1.value.length := by rw [hpv]; rfl
  obtain ⟨c, hc⟩ : ∃ c, c = M.cost p.1 := ⟨_, rfl⟩
  have hcc : pk.size + pv.size + 16 = c := by rw [hk1, hv1, hc]; rfl
  have hle : c ≤ x.cost := by
    have h3 := rowsT_gone rs k p hf
    have h4 := hs.total
    rw [hc]; omega
  have hxc : x.cost ≤ 2000 := Nat.le_trans hs.fits hs.quota
  have cC := fun W => cost_c pk pv p.1.flags W (by omega) (by omega) c hcc
  have HC : Hid (c = M.cost p.1) := hc
  have eV : entV p = .agg #[.string pk, .string pv, .int .i64 p.1.flags, .int .i64 p.1.mark, .int .i64 p.1.stop, .int .i64 p.2] := by rw [hpk, hpv]; rfl
  clear h hs hf hD hH hp hsm hk1 hv1 hcc hc hpk hpv
  go_enter Tryz.func93, Tryz.ntmps93
  go_wp2_with (at_lookup; refine lookup_ent _ rfl _ _ 153 rfl 9 164 keyed Tryz.underlying153 (zeroEnt _) eb rs.length D rfl HD.out _ _ rfl hkey p true h1 (h2 _) ?_; rw [eV]; clear eV)
  have hwr : IntKind.i64.wrap ((x.cost : Int) - c) = ((x.cost - c : Nat) : Int) := by
    rw [show (x.cost : Int) - c = ((x.cost - c : Nat) : Int) by omega]
    rw [IntKind.wrap_i64]; omega
  have hE : Hid (Below w.heap.size w ((w.alloc (.cells #[.string pk, .string pv, .int .i64 p.1.flags, .int .i64 p.1.mark, .int .i64 p.1.stop, .int .i64 p.2] 164)).drew)) := ((Below.refl _ _).alloc (Nat.le_refl _) _).drew
  go_region_with (go_at_call 134; refine (cC _).mono ?_; rintro e w2 ⟨rfl, hb2⟩; have hb3 := hE.out.trans (hb2.mono hE.out.size); clear hb2; have c42 := (hb3.cell (p := ⟨sb, 5, none⟩) hsb).trans c4; have f42 := (hb3.frozen (p := ⟨sb, 5, none⟩) hsb).trans f4; have c32 := (hb3.cell (p := ⟨sb, 3, none⟩) hsb).trans c3; have HO2 : Hid (∀ v, (w2.setCell ⟨sb, 5, none⟩ v).ownsMap Tryz.prog 9 entElem eb rs.length D) := fun v => (own_same HD.out (hb3.block eb HB.out.lt.2)).setCell (a := ⟨sb, 5, none⟩) (fun e => HB.out.ne e.symm) v; have HB3 : Hid (Below w.heap.size w w2) := hb3; clear hb3)
  all_goals
    go_wp2_with (at_delete; refine wpList_delete_own _ rfl _ _ 153 9 rfl 164 keyed Tryz.underlying153 entElem eb rs.length D rfl (HO2.out _) _ _ rfl hkey ?_; intro w4 hown4 hturn4)
    go_end0
    refine ⟨rfl, ?_⟩
    have hW := (HB.out.below HB3.out).set (x' := { x with cost := x.cost - c }) (l' := l) 5 (.int .i64 ((x.cost - c : Nat) : Int)) rfl
    have hg := hturn4.grown
    rw [← HC.out]
    refine ⟨⟨(hg.block sb hW.lt.1 (fun e => hW.ne (Option.some.inj e))).trans hW.cells, _, own_len hown4 (HH.out.del k), HH.out.del k⟩, ?_⟩
    exact ((Turn.ofBelow HB3.out).setCell (p := ⟨sb, 5, none⟩) (Or.inl (Or.inl rfl)) _).grown hg (fun k hk => Or.inl (Or.inr (Option.some.inj hk).symm))
end Go.Proofs.YtdpnpcjbjjjceaaGreatDoor.S
namespace Go.Proofs.YtdpnpcjbjjjceaaGreatDoor.S
open Go.RowKit Go.Maps Go.MuLone Go.Proofs.YtdpnpcjbjjjceaaGreatDoor

/-- remove, whether the key is there or not -/
def remX (x : Num) (rs : List Row) (k : M.Bytes) : Num :=
  match findR rs k with
  | some p => { x with cost := x.cost - M.cost p.1 }
  | none => x
theorem remove_c (w : World) (sb eb : Nat) (l : Lk) (x : Num) (rs : List Row) (h : Box w sb eb l x rs) (n : Nat) (hs : Sound n x rs) (k : M.Bytes) (K : ByteArray) (hkey : keyOf Tryz.prog 9 (.string K) = some (.string k)) :
    Calls Tryz.prog 93 #[.pointer (some ⟨sb, 0, none⟩), .string K] w fun e w' => e = .returned (.tuple #[]) ∧ Box w' sb eb l (remX x rs k) (goneR rs k) ∧ Turn (ofStore sb eb) w w' := by
  unfold remX
  cases hf : findR rs k with
  | none =>
    rw [gone_none (find_none hf)]
    exact (remove_none w sb eb l x rs h k K hkey hf).mono fun e w' ⟨he, hb⟩ => ⟨he, h.below hb, Turn.ofBelow hb⟩
  | some p => exact remove_some w sb eb l x rs h n hs k K hkey p hf
theorem Sound.rem {n : Nat} {x : Num} {rs : List Row} (h : Sound n x rs) (k : M.Bytes) : Sound n (remX x rs k) (goneR rs k) := by
  unfold remX
  cases hf : findR rs k with
  | none => rw [gone_none (find_none hf)]; exact h
  | some p => exact h.removed hf
theorem remX_same (x : Num) (rs : List Row) (k : M.Bytes) : ∃ c, remX x rs k = { x with cost := c } := by
  unfold remX
  cases findR rs k with
  | none => exact ⟨x.cost, rfl⟩
  | some p => exact ⟨x.cost - M.cost p.1, rfl⟩

/-- while room is made -/
structure Mid (w0 : World) (sb eb ib : Nat) (l : Lk) (x : Num) (rs : List Row) (n need : Nat) (K V : ByteArray) (f : Int) (w : World) (c : Nat) : Prop where
  ex : ∃ (ev : Nat) (r : List Row), Box w sb eb l { x with cost := c, evicted := ev } r ∧ Sound n { x with cost := c, evicted := ev } r ∧ evR x.quota need r = evR x.quota need rs ∧ ev + r.length = x.evicted + rs.length
  item : w.heap[ib]? = some (.cells #[.string K, .string V, .int .i64 f] 162 (0, 0))
  turn : Turn (ofStore sb eb) w0 w
  new : w0.heap.size ≤ ib
end Go.Proofs.YtdpnpcjbjjjceaaGreatDoor.S
