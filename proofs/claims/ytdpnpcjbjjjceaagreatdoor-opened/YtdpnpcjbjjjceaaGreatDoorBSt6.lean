import Derived.Test.YtdpnpcjbjjjceaaGreatDoorBSt5
import Derived.Test.YtdpnpcjbjjjceaaGreatDoorBShelf
set_option linter.unusedSimpArgs false
set_option linter.unusedVariables false
namespace Go.Proofs.YtdpnpcjbjjjceaaGreatDoor.S
open Go.RowKit Go.Maps Go.MuLone Go.Proofs.YtdpnpcjbjjjceaaGreatDoor

/-- while room is made: of the rows r are left -/
def MLoop (w0 : World) (sb eb ib : Nat) (l : Lk) (x : Num) (rs : List Row) (n need : Nat) (K V : ByteArray) (f : Int) (w : World) : Prop :=
  ∃ (c ev : Nat) (r : List Row), Mi w0 sb eb ib l { x with cost := c, evicted := ev } r K V f w ∧ Sound n { x with cost := c, evicted := ev } r ∧ evR x.quota need r = evR x.quota need rs ∧ ev + r.length = x.evicted + rs.length
/-- how many entries there are -/
def entCount (w : World) (eb : Nat) : Nat :=
  match w.heap[eb]? with
  | some (.map es _) => es.size
  | _ => 0
theorem count_own {w : World} {P : Program} {k : TypeId} {R : Value → Option (DataW Unit × List MemPlace)} {b n : Nat} {D : DataW Unit} (h : w.ownsMap P k R b n D) : entCount w b = Maps.size D := by
  obtain ⟨es, clock, h1, _, _, rfl⟩ := h
  unfold entCount
  rw [h1, Maps.size_eq, length_sorted]; simp
theorem Box.count {w : World} {sb eb : Nat} {l : Lk} {x : Num} {rs : List Row} (h : Box w sb eb l x rs) : entCount w eb = rs.length := by
  obtain ⟨D, h1, h2⟩ := h.map
  rw [count_own h1, h2.size]

theorem clone_s (s : ByteArray) (w : World) (hs : s.size ≤ 281474976710656) : Calls Tryz.prog 47 #[.string s] w fun e w' => e = .returned (.string s) ∧ Below w.heap.size w w' := by
  go_enter Tryz.func47, Tryz.ntmps47
  go_wp2_with (go_at_call 63; refine (Tryz.stringslite_Clone s _ hs).mono ?_; rintro e w1 ⟨rfl, hb⟩)
  go_ret
  exact ⟨rfl, hb⟩
theorem Mi.clone {w0 w : World} {sb eb ib : Nat} {l : Lk} {x : Num} {r : List Row} {K V : ByteArray} {f : Int} (h : Mi w0 sb eb ib l x r K V f w) (s : ByteArray) (hs : s.size ≤ 281474976710656) :
    Calls Tryz.prog 47 #[.string s] w fun e w' => e = .returned (.string s) ∧ Mi w0 sb eb ib l x r K V f w' :=
  (clone_s s w hs).mono fun _ _ ⟨he, hb⟩ => ⟨he, h.below hb⟩
theorem Mi.sf {w0 w : World} {sb eb ib : Nat} {l : Lk} {x : Num} {r : List Row} {K V : ByteArray} {f : Int} (h : Mi w0 sb eb ib l x r K V f w) :
    w.cell? ⟨ib, 0, none⟩ = some (.string K) ∧ w.cell? ⟨ib, 1, none⟩ = some (.string V) ∧ w.cell? ⟨ib, 2, none⟩ = some (.int .i64 f) ∧ w.frozen? ⟨ib, 0, none⟩ = false ∧ w.frozen? ⟨ib, 1, none⟩ = false ∧ Mi w0 sb eb ib l x r K V f w :=
  ⟨heap_cell h.item 0 rfl, heap_cell h.item 1 rfl, heap_cell h.item 2 rfl, heap_thawed h.item 0, heap_thawed h.item 1, h⟩
theorem Mi.sc {w0 w : World} {sb eb ib : Nat} {l : Lk} {x : Num} {r : List Row} {K V : ByteArray} {f : Int} (h : Mi w0 sb eb ib l x r K V f w) :
    w.cell? ⟨sb, 5, none⟩ = some (.int .i64 x.cost) ∧ w.frozen? ⟨sb, 5, none⟩ = false ∧ w.cell? ⟨ib, 0, none⟩ = some (.string K) ∧ w.cell? ⟨ib, 1, none⟩ = some (.string V) ∧ w.cell? ⟨ib, 2, none⟩ = some (.int .i64 f) :=
  ⟨h.box.c4, h.box.fz 5, heap_cell h.item 0 rfl, heap_cell h.item 1 rfl, heap_cell h.item 2 rfl⟩

theorem put_final (x x1 : Num) (rs r : List Row) (e : M.Entry) (c ev c1 : Nat) (hx1 : x1 = remX x rs e.key) (hr : r = evR x.quota (M.cost e) (goneR rs e.key)) (hc : c = M.cost e) (hcost : c1 = rowsT r) (hev : ev + r.length = x1.evicted + (goneR rs e.key).length) :
    ({ quota := x1.quota, cost := c1 + c, mark := x1.mark + 1, uses := x1.uses + 1, gets := x1.gets, hits := x1.hits, evicted := ev, expired := x1.expired } : Num) = putX x rs e := by
  obtain ⟨c', hc'⟩ := remX_same x rs e.key
  rw [hc'] at hx1
  subst hx1
  have hl := (evR_sub x.quota (M.cost e) (goneR rs e.key)).length_le
  rw [← hr] at hl
  have he : ev = x.evicted + ((goneR rs e.key).length - r.length) := by
    have h1 : ev + r.length = x.evicted + (goneR rs e.key).length := hev
    omega
  unfold putX
  simp only [← hr]
  rw [he, hcost, hc]
theorem put_rows {rs r : List Row} (e : M.Entry) (q c : Nat) (hn : (rs.map (fun p => p.1.key)).Nodup) (hr : r = evR q c (goneR rs e.key)) : goneR r e.key = r := by
  refine gone_none fun p hp => gone_key_ne hn p ?_
  rw [hr] at hp
  exact (evR_sub q c _).subset hp

set_option maxRecDepth 20000 in
set_option maxHeartbeats 4000000 in
theorem put_ok (w : World) (sb eb : Nat) (l : Lk) (x : Num) (rs : List Row) (h : Box w sb eb l x rs) (n : Nat) (hs : Sound n x rs) (hn : n ≤ 100000000000) (e : M.Entry) (he : Fits e) (K V : ByteArray) (hK : K = ⟨e.key.toArray⟩) (hV : V = ⟨e.value.toArray⟩) (f en : Int) (hf : f = e.flags) (hen : en = e.stop) (hc : M.cost e ≤ x.quota) :
    Calls Tryz.prog 200 #[.pointer (some ⟨sb, 0, none⟩), .agg #[.string K, .string V, .int .i64 f], .int .i64 en] w fun e' w' => e' = .returned (.string ⟨#[83, 84, 79, 82, 69, 68]⟩) ∧ Box w' sb eb l (putX x rs e) (putR x rs e) ∧ Turn (ofStore sb eb) w w' := by
  have hsb := h.lt.1
  obtain ⟨c, hcc⟩ : ∃ c, c = M.cost e := ⟨_, rfl⟩
  have hk1 : K.size = e.key.length := by rw [hK]; rfl
  have hv1 : V.size = e.value.length := by rw [hV]; rfl
  have hkc : K.size + V.size + 16 = c := by rw [hk1, hv1, hcc]; rfl
  have hk : K.size ≤ 1000000 := by have := he.key; omega
  have hv : V.size ≤ 1000000 := by have := he.value; omega
  have cC : Hid (∀ x' r' W, Mi w sb eb w.heap.size l x' r' K V f W → Calls Tryz.prog 134 #[.agg #[.string K, .string V, .int .i64 f]] W fun e w' => e = .returned (.int .i64 c) ∧ Mi w sb eb w.heap.size l x' r' K V f w') := fun x' r' W hW => hW.cost hk hv c hkc
  have klt : ¬ (x.quota : Int) < c := by omega
  have hq := hs.quota
  have HM : Mi w sb eb w.heap.size l x rs K V f (w.alloc (.cells #[.string K, .string V, .int .i64 f] 162)) := Mi.start h
  have hkey : keyOf Tryz.prog 9 (.string K) = some (.string e.key) := by rw [hK]; exact keyLit e.key (by have := he.key; omega)
  have HS : Hid (Sound n x rs) := hs
  have HND : Hid ((rs.map (fun p => p.1.key)).Nodup) := by obtain ⟨_, _, hh⟩ := h.map; exact hh.nodup
  have HC : Hid (c = M.cost e) := hcc
  have HF : Hid (Fits e) := he
  have HK : Hid (K = ⟨e.key.toArray⟩) := hK
  have HV : Hid (V = ⟨e.value.toArray⟩) := hV
  have Hf : Hid (f = e.flags) := hf
  have He : Hid (en = e.stop) := hen
  clear h hc hcc hs he hK hV hf hen hk1 hv1 hkc
  go_enter Tryz.func200, Tryz.ntmps200
  go_wp2_with fail
  generalize w.alloc (.cells #[.string K, .string V, .int .i64 f] 162) = W at HM ⊢
  go_region_held3 (fun w' => w'.cell? ⟨sb, 2, none⟩ = some (.int .i64 x.quota) ∧ w'.cell? ⟨sb, 5, none⟩ = some (.int .i64 x.cost) ∧ w'.cell? ⟨w.heap.size, 0, none⟩ = some (.string K) ∧ w'.cell? ⟨w.heap.size, 1, none⟩ = some (.string V) ∧ w'.cell? ⟨w.heap.size, 2, none⟩ = some (.int .i64 f) ∧ Mi w sb eb w.heap.size l x rs K V f w')
    ((refine Mi.s ?_; repeat (first | assumption | refine Mi.drew ?_)))
    (first
      | (go_at_call 134; refine (cC.out _ _ _ (by first | assumption | exact Mi.drew (by assumption))).mono ?_; rintro e w2 ⟨rfl, hM2⟩))
  rename_i hHeld; clear hHeld
  have c0 : w2.cell? ⟨w.heap.size, 0, none⟩ = some (.string K) := heap_cell hM2.item 0 rfl
  go_wp2_with (go_at_call 93; refine (remove_c w2 sb eb l x rs hM2.box n HS.out e.key K hkey).mono ?_; rintro e w3 ⟨rfl, hB3, hT3⟩)
  have hM3 := hM2.step hB3 hT3
  clear hB3 hT3 c0 hM2 HM
  obtain ⟨x1, hx1⟩ : ∃ x1, x1 = remX x rs e.key := ⟨_, rfl⟩
  obtain ⟨rs1, hrs1⟩ : ∃ rs1, rs1 = goneR rs e.key := ⟨_, rfl⟩
  have HL : Hid (MLoop w sb eb w.heap.size l x1 rs1 n c K V f w3) := ⟨x1.cost, x1.evicted, rs1, by rw [hx1, hrs1]; exact hM3, by rw [hx1, hrs1]; exact HS.out.rem e.key, rfl, rfl⟩
  have HX1 : Hid (x1 = remX x rs e.key) := hx1
  have HR1 : Hid (rs1 = goneR rs e.key) := hrs1
  have hq1 : x1.quota = x.quota := by
    obtain ⟨c', hc'⟩ := remX_same x rs e.key
    rw [hx1, hc']
  have HQ1 : Hid (x1.quota = x.quota) := hq1
  have hq2 : x1.quota ≤ 2000 := by omega
  have klt2 : c ≤ x1.quota := by omega
  clear hM3 hx1 hrs1 hq1
  go_loopw [18] (fun _ wr => Hid (MLoop w sb eb w.heap.size l x1 rs1 n c K V f wr)) (fun _ wr => entCount wr eb)
  case atStart => exact HL.out
  case round =>
    obtain ⟨c1, ev, r, hM, hSd, hev, hlen⟩ := hrel.out
    clear hrel
    obtain ⟨xr, hxr⟩ : ∃ xr : Num, xr = { x1 with cost := c1, evicted := ev } := ⟨_, rfl⟩
    rw [← hxr] at hM hSd
    have EQ : Hid (xr.quota = x1.quota) := by show _ = _; rw [hxr]
    have EV1 : Hid (xr.evicted = ev) := by show _ = _; rw [hxr]
    have hcq : c ≤ xr.quota := by rw [EQ.out]; exact klt2
    have HXR : Hid (xr = { x1 with cost := c1, evicted := ev }) := hxr
    have HSD : Hid (Sound n xr r) := hSd
    have HEV : Hid (evR x1.quota c r = evR x1.quota c rs1) := hev
    have HLE : Hid (ev + r.length = x1.evicted + rs1.length) := hlen
    have HMR : Hid (Mi w sb eb w.heap.size l xr r K V f wr) := hM
    have hxq : xr.quota ≤ 2000 := hSd.quota
    have hxc : xr.cost ≤ xr.quota := hSd.fits
    have hxt : Hid (xr.cost = rowsT r) := hSd.total
    have hxe : xr.evicted ≤ 100000000000 := by have := hSd.evicted; have := hSd.marked; have := hSd.uses; omega
    clear hxr hev hlen hSd
    have hwr : IntKind.i64.wrap ((xr.cost : Int) + c) = (xr.cost : Int) + c := by rw [IntKind.wrap_i64]; omega
    by_cases hlt : xr.quota < xr.cost + c
    · have klt3 : (xr.quota : Int) < xr.cost + c := by omega
      obtain ⟨p0, r0, hr⟩ : ∃ p0 r0, r = p0 :: r0 := by
        cases r with
        | nil => exfalso; have h1 := hxt.out; have h2 : rowsT [] = 0 := rfl; omega
        | cons a b => exact ⟨a, b, rfl⟩
      have HR : Hid (r = p0 :: r0) := hr
      clear hr
      go_wp2_with fail
      go_region_held3 (fun w' => w'.cell? ⟨sb, 2, none⟩ = some (.int .i64 xr.quota) ∧ w'.cell? ⟨sb, 5, none⟩ = some (.int .i64 xr.cost) ∧ w'.cell? ⟨w.heap.size, 0, none⟩ = some (.string K) ∧ w'.cell? ⟨w.heap.size, 1, none⟩ = some (.string V) ∧ w'.cell? ⟨w.heap.size, 2, none⟩ = some (.int .i64 f) ∧ Mi w sb eb w.heap.size l xr r K V f w')
        ((refine Mi.s ?_; repeat (first | assumption | refine Mi.drew ?_)))
        (first
          | (go_at_call 134; refine (cC.out _ _ _ (by first | assumption | exact Mi.drew (by assumption))).mono ?_; rintro e w2 ⟨rfl, hM2⟩))
      rename_i hHeld; clear hHeld
      have hb9 : Hid (Box w2 sb eb l xr (p0 :: r0)) := by show Box _ _ _ _ _ _; rw [← HR.out]; exact hM2.box
      have hs9 : Hid (Sound n xr (p0 :: r0)) := by show Sound _ _ _; rw [← HR.out]; exact HSD.out
      have cL := longest_c w2 sb eb l xr p0 r0 hb9.out n hs9.out (by omega)
      have hkp : keyOf Tryz.prog 9 (.string ⟨p0.1.key.toArray⟩) = some (.string p0.1.key) := keyLit p0.1.key (by have := (hs9.out.small p0 List.mem_cons_self).1; omega)
      have HKP : Hid (keyOf Tryz.prog 9 (.string ⟨p0.1.key.toArray⟩) = some (.string p0.1.key)) := hkp
      unfold str at cL
      have hg0 : goneR (p0 :: r0) p0.1.key = r0 := by
        unfold goneR
        rw [List.eraseP_cons, (hasK_iff p0.1.key p0).2 rfl]; rfl
      have hx0 : remX xr (p0 :: r0) p0.1.key = { xr with cost := xr.cost - M.cost p0.1 } := by
        unfold remX findR
        rw [List.find?_cons, (hasK_iff p0.1.key p0).2 rfl]
      have cR : ∀ W pk, keyOf Tryz.prog 9 (.string pk) = some (.string p0.1.key) → Box W sb eb l xr (p0 :: r0) → Calls Tryz.prog 93 #[.pointer (some ⟨sb, 0, none⟩), .string pk] W fun e w' => e = .returned (.tuple #[]) ∧ Box w' sb eb l { xr with cost := xr.cost - M.cost p0.1 } r0 ∧ Turn (ofStore sb eb) W w' := by
        intro W pk hk' hb'
        have := remove_c W sb eb l xr (p0 :: r0) hb' n hs9.out p0.1.key pk hk'
        rw [hg0, hx0] at this
        exact this
      have CR : Hid (∀ W pk, keyOf Tryz.prog 9 (.string pk) = some (.string p0.1.key) → Box W sb eb l xr (p0 :: r0) → Calls Tryz.prog 93 #[.pointer (some ⟨sb, 0, none⟩), .string pk] W fun e w' => e = .returned (.tuple #[]) ∧ Box w' sb eb l { xr with cost := xr.cost - M.cost p0.1 } r0 ∧ Turn (ofStore sb eb) W w') := cR
      clear cR hg0 hx0
      obtain ⟨pk, hpk⟩ : ∃ pk, pk = (⟨p0.1.key.toArray⟩ : ByteArray) := ⟨_, rfl⟩
      rw [← hpk] at cL hkp
      clear hpk
      have HM2 : Hid (Mi w sb eb w.heap.size l xr r K V f w2) := hM2
      clear hM2 hM
      go_wp2_with (first
        | (go_at_call 218; refine cL.mono ?_; rintro e w5 ⟨rfl, hb5⟩; have HB5 : Hid (Below w2.heap.size w2 w5) := hb5; clear hb5 cL)
        | (go_at_call 93; refine (CR.out w5 pk hkp (hb9.out.below HB5.out)).mono ?_; rintro e w6 ⟨rfl, hB6, hT6⟩; have c96 : w6.cell? ⟨sb, 10, none⟩ = some (.int .i64 xr.evicted) := hB6.c9; have f96 := hB6.fz 10; have HB6 : Hid (Box w6 sb eb l { xr with cost := xr.cost - M.cost p0.1 } r0) := hB6; have HT6 : Hid (Turn (ofStore sb eb) w5 w6) := hT6; clear hB6 hT6))
      have hM6 := (HM2.out.below HB5.out).step HB6.out HT6.out
      have hM7 := hM6.set (x' := { xr with cost := xr.cost - M.cost p0.1, evicted := xr.evicted + 1 }) 10 (.int .i64 ((xr.evicted : Int) + 1)) rfl
      have hSn := hs9.out.dropped
      have HM7 : Hid (Mi w sb eb w.heap.size l { xr with cost := xr.cost - M.cost p0.1, evicted := xr.evicted + 1 } r0 K V f (w6.setCell ⟨sb, 10, none⟩ (.int .i64 ((xr.evicted : Int) + 1)))) := hM7
      clear hM6 hM7
      go_roundw
      case rel =>
        refine ⟨xr.cost - M.cost p0.1, xr.evicted + 1, r0, ?_, ?_, ?_, ?_⟩
        · have h9 : ({ x1 with cost := xr.cost - M.cost p0.1, evicted := xr.evicted + 1 } : Num) = { xr with cost := xr.cost - M.cost p0.1, evicted := xr.evicted + 1 } := by rw [HXR.out]
          rw [h9]; exact HM7.out
        · have h9 : ({ x1 with cost := xr.cost - M.cost p0.1, evicted := xr.evicted + 1 } : Num) = { xr with cost := xr.cost - M.cost p0.1, evicted := xr.evicted + 1 } := by rw [HXR.out]
          rw [h9]; exact hSn
        · rw [← HEV.out, HR.out]
          refine (evR_next ?_).symm
          have h1 := hxt.out
          rw [HR.out] at h1
          rw [← EQ.out]; omega
        · have h1 := HLE.out
          rw [HR.out, List.length_cons] at h1
          have h2 := EV1.out
          omega
      case measure =>
        rw [HM7.out.box.count, HMR.out.box.count, HR.out, List.length_cons]; omega
    · have klt3 : ¬ (xr.quota : Int) < xr.cost + c := by omega
      go_wp2_with fail
      go_region_held3 (fun w' => w'.cell? ⟨sb, 2, none⟩ = some (.int .i64 xr.quota) ∧ w'.cell? ⟨sb, 5, none⟩ = some (.int .i64 xr.cost) ∧ w'.cell? ⟨w.heap.size, 0, none⟩ = some (.string K) ∧ w'.cell? ⟨w.heap.size, 1, none⟩ = some (.string V) ∧ w'.cell? ⟨w.heap.size, 2, none⟩ = some (.int .i64 f) ∧ Mi w sb eb w.heap.size l xr r K V f w')
        ((refine Mi.s ?_; repeat (first | assumption | refine Mi.drew ?_)))
        (first
          | (go_at_call 134; refine (cC.out _ _ _ (by first | assumption | exact Mi.drew (by assumption))).mono ?_; rintro e w2 ⟨rfl, hM2⟩))
      rename_i hHeld; clear hHeld
      have HM2 : Hid (Mi w sb eb w.heap.size l xr r K V f w2) := hM2
      have hk2 : K.size ≤ 281474976710656 := by omega
      have hv2 : V.size ≤ 281474976710656 := by omega
      clear hM hk hv
      go_wp2_with fail
      go_region_held3 (fun w' => w'.cell? ⟨w.heap.size, 0, none⟩ = some (.string K) ∧ w'.cell? ⟨w.heap.size, 1, none⟩ = some (.string V) ∧ w'.cell? ⟨w.heap.size, 2, none⟩ = some (.int .i64 f) ∧ w'.frozen? ⟨w.heap.size, 0, none⟩ = false ∧ w'.frozen? ⟨w.heap.size, 1, none⟩ = false ∧ Mi w sb eb w.heap.size l xr r K V f w')
        ((refine Mi.sf ?_; repeat (first | assumption | refine Mi.drew ?_ | refine Mi.set0 ?_ | refine Mi.set1 ?_)))
        (first
          | (go_at_call 47; refine (Mi.clone (by first | assumption | exact Mi.drew (by assumption)) K hk2).mono ?_; rintro e w5 ⟨rfl, hM5⟩)
          | (go_at_call 47; refine (Mi.clone (by first | assumption | exact Mi.drew (by assumption)) V hv2).mono ?_; rintro e w6 ⟨rfl, hM6⟩))
      rename_i hHeld; clear hHeld
      have hM7 := hM6.set0.set1
      clear hM5 hM6 hM2
      generalize World.setCell (World.setCell w6 _ _) _ _ = w7 at hM7 ⊢
      have c57 := hM7.box.c5
      have f57 := hM7.box.fz 6
      have hxm : xr.mark ≤ 100000000000 := by have := HSD.out.marked; have := HSD.out.uses; omega
      have hM8 := hM7.set (x' := { xr with mark := xr.mark + 1 }) 6 (.int .i64 ((xr.mark : Int) + 1)) rfl
      clear hM7
      go_wp2_with fail
      obtain ⟨x8, hx8⟩ : ∃ x8 : Num, x8 = { xr with mark := xr.mark + 1 } := ⟨_, rfl⟩
      rw [← hx8] at hM8
      have HX8 : Hid (x8 = { xr with mark := xr.mark + 1 }) := hx8
      have HM8 : Hid (x8.mark = xr.mark + 1) := by show _ = _; rw [hx8]
      have hc8 : x8.cost ≤ 2000 := by rw [hx8]; show xr.cost ≤ 2000; omega
      have hu8 : x8.uses ≤ 100000000000 := by rw [hx8]; show xr.uses ≤ 100000000000; have := HSD.out.uses; omega
      have hw8 : IntKind.i64.wrap ((x8.cost : Int) + c) = (x8.cost : Int) + c := by rw [IntKind.wrap_i64]; omega
      have hr9 : r = evR x.quota (M.cost e) (goneR rs e.key) := by
        rw [← HQ1.out, ← HR1.out, ← HC.out, ← HEV.out]
        refine (evR_done ?_).symm
        have := hxt.out
        rw [← EQ.out]; omega
      have hl9 : r.length ≤ 1000 := by have := HSD.out.len; omega
      have E1 : Hid (({ x8 with cost := x8.cost + c, uses := x8.uses + 1 } : Num) = putX x rs e) := by
        show _ = _
        have h1 := hxt.out
        have h2 := HLE.out
        rw [HR1.out] at h2
        rw [HXR.out] at h1
        rw [hx8, HXR.out]
        exact put_final x x1 rs r e c ev c1 HX1.out hr9 HC.out h1 h2
      have E2 : Hid (goneR r e.key ++ [({ e with mark := x8.mark }, x8.uses + 1)] = putR x rs e) := by
        show _ = _
        obtain ⟨c', hc'⟩ := remX_same x rs e.key
        unfold putR
        rw [put_rows e _ _ HND.out hr9, ← hr9, hx8, HXR.out, HX1.out, hc']
      clear hx8 c57 f57 hr9
      generalize World.setCell w7 _ _ = w8 at hM8 ⊢
      have c48 := hM8.box.c4
      have f48 := hM8.box.fz 5
      obtain ⟨i0, i1, i2, _, _, _⟩ := hM8.sf
      have HM8b : Hid (Mi w sb eb w.heap.size l x8 r K V f w8.drew) := hM8.drew
      clear hM8
      go_region_with (go_at_call 134; refine (cC.out _ _ _ HM8b.out).mono ?_; rintro e w9 ⟨rfl, hM9⟩; obtain ⟨c49, f49, k0, k1, k2⟩ := hM9.sc; have HM9 : Hid (Mi w sb eb w.heap.size l x8 r K V f w9) := hM9; clear hM9)
      all_goals
        have hM10 := HM9.out.set (x' := { x8 with cost := x8.cost + c }) 5 (.int .i64 ((x8.cost : Int) + c)) rfl
        clear c49 f49 k0 k1 k2 i0 i1 i2 c48 f48
        generalize World.setCell w9 _ _ = w10 at hM10 ⊢
        obtain ⟨i0, i1, i2, _, _, _⟩ := hM10.sf
        have c5 : w10.cell? ⟨sb, 6, none⟩ = some (.int .i64 x8.mark) := hM10.box.c5
        go_wp2_with fail
        have cU := use_c w10.drew sb eb l { x8 with cost := x8.cost + c } r hM10.drew.box (by show x8.uses ≤ _; omega) hl9 ({ e with mark := x8.mark }, 0) K V f x8.mark en 0 hkey (fun j => by rw [HK.out, HV.out, Hf.out, He.out]; rfl)
        have CU : Hid (Calls Tryz.prog 213 #[.pointer (some ⟨sb, 0, none⟩), .agg #[.string K, .string V, .int .i64 f, .int .i64 x8.mark, .int .i64 en, .int .i64 0]] w10.drew fun e' w' =>
          e' = .returned (.tuple #[]) ∧ Box w' sb eb l { x8 with cost := x8.cost + c, uses := x8.uses + 1 } (goneR r e.key ++ [({ e with mark := x8.mark }, x8.uses + 1)]) ∧ Turn (ofStore sb eb) w10.drew w') := cU
        clear cU
        go_region_with (go_at_call 213; refine CU.out.mono ?_; rintro e w11 ⟨rfl, hB11, hT11⟩; rw [E1.out, E2.out] at hB11)
        all_goals
          go_wp2
          go_ret
          exact ⟨rfl, hB11, (hM10.turn.drew).trans hT11⟩
end Go.Proofs.YtdpnpcjbjjjceaaGreatDoor.S
namespace Go.Proofs.YtdpnpcjbjjjceaaGreatDoor.S
open Go.RowKit Go.Maps Go.MuLone Go.Proofs.YtdpnpcjbjjjceaaGreatDoor
variable {cl : Nat}

/-- at sb lies a store that is the document's s; n bounds its counters -/
def StoreAt (w : World) (sb eb n cl : Nat) (s : M.Store) : Prop := ∃ x rs, Box w sb eb (0, cl) x rs ∧ Sound n x rs ∧ s = toStore x rs
theorem Hid.of {p : Prop} (h : p) : Hid p := h
section
variable {w w' : World} {sb eb : Nat} {l : Lk} {x : Num} {rs : List Row}
theorem turn0 (h : Turn (ofStore sb eb) w w') (j : Nat) (v : Value) : Turn (ofStore sb eb) w (w'.setCell ⟨sb, j, none⟩ v) := h.setCell (p := ⟨sb, j, none⟩) (Or.inl (Or.inl rfl)) v
theorem lock_c (h : Box w sb eb (0, cl) x rs) : Calls Tryz.prog 90 #[.pointer (some ⟨sb, 0, none⟩)] w fun e w' => e = .returned (.tuple #[]) ∧ Box w' sb eb (1, cl) x rs ∧ Turn (ofStore sb eb) w w' :=
  (lock_free Tryz.muLib ⟨sb, 0, none⟩ w h.c0 (h.fz 0)).mono fun _ _ ⟨he, hw⟩ => ⟨he, hw ▸ h.set 0 _ rfl, hw ▸ turn0 (Turn.refl _ _) 0 _⟩
theorem unlock_c (h : Box w sb eb (1, cl) x rs) (u : FrameMode) : CallsD Tryz.prog 91 #[.pointer (some ⟨sb, 0, none⟩)] u w fun e u' w' => u' = u ∧ e = .returned (.tuple #[]) ∧ Box w' sb eb (0, cl) x rs ∧ Turn (ofStore sb eb) w w' :=
  (unlock_deferred Tryz.muLib ⟨sb, 0, none⟩ u w h.c0 (h.fz 0)).mono fun _ _ _ ⟨hu, he, hw⟩ => ⟨hu, he, hw ▸ h.set 0 _ rfl, hw ▸ turn0 (Turn.refl _ _) 0 _⟩
theorem Box.look_none (h : Box w sb eb l x rs) {k : M.Bytes} (hf : findR rs k = none) : ∃ D, Hid (w.ownsMap Tryz.prog 9 entElem eb rs.length D) ∧ Maps.has D (.string k) = false ∧ ∀ z, D.atKey (.string k) z = z := by
  obtain ⟨D, hD, hH⟩ := h.map
  exact ⟨D, hD, hH.find_none hf⟩
theorem Box.look_some (h : Box w sb eb l x rs) {k : M.Bytes} {p : Row} (hf : findR rs k = some p) : ∃ D, Hid (w.ownsMap Tryz.prog 9 entElem eb rs.length D) ∧ Maps.has D (.string k) = true ∧ ∀ z, D.atKey (.string k) z = entD p := by
  obtain ⟨D, hD, hH⟩ := h.map
  exact ⟨D, hD, hH.find_some hf⟩
end

def entC (p : Row) : Array Value := #[.string ⟨p.1.key.toArray⟩, .string ⟨p.1.value.toArray⟩, .int .i64 p.1.flags, .int .i64 p.1.mark, .int .i64 p.1.stop, .int .i64 p.2]
def zeroRow : Row := (⟨[], [], 0, 0, 0⟩, 0)
/-- in the midst of a call on a store: the store; a block of the call's own that holds an entry; what has turned -/
structure Gi (w0 : World) (sb eb g : Nat) (l : Lk) (x : Num) (rs : List Row) (p : Row) (w : World) : Prop where
  box : Box w sb eb l x rs
  res : w.heap[g]? = some (.cells (entC p) 164 (0, 0))
  turn : Turn (ofStore sb eb) w0 w
  new : w0.heap.size ≤ g
  old : sb < w0.heap.size ∧ eb < w0.heap.size
section
variable {w0 w w' : World} {sb eb g : Nat} {l l' : Lk} {x x' : Num} {rs rs' : List Row} {p q : Row}
theorem Gi.lt (h : Gi w0 sb eb g l x rs p w) : g < w.heap.size := (Array.getElem?_eq_some_iff.1 h.res).1
theorem Gi.step (h : Gi w0 sb eb g l x rs p w) (hb : Box w' sb eb l' x' rs') (ht : Turn (ofStore sb eb) w w') : Gi w0 sb eb g l' x' rs' p w' := by
  refine ⟨hb, (ht.block g h.lt ?_).trans h.res, h.turn.trans ht, h.new, h.old⟩
  have h1 := h.new
  have h2 := h.old
  rintro (e | e) <;> omega
theorem Gi.set (h : Gi w0 sb eb g l x rs p w) (j : Nat) (v : Value) (hv : (cellsS l x eb).setIfInBounds j v = cellsS l x' eb) : Gi w0 sb eb g l x' rs p (w.setCell ⟨sb, j, none⟩ v) := h.step (h.box.set j v hv) (turn0 (Turn.refl _ _) j v)
theorem Gi.below (h : Gi w0 sb eb g l x rs p w) (hb : Below w.heap.size w w') : Gi w0 sb eb g l x rs p w' := h.step (h.box.below hb) (Turn.ofBelow hb)
theorem Gi.alloc (h : Gi w0 sb eb g l x rs p w) (o : Obj) : Gi w0 sb eb g l x rs p (w.alloc o) := h.below ((Below.refl _ _).alloc (Nat.le_refl _) o)
theorem Gi.drew (h : Gi w0 sb eb g l x rs p w) : Gi w0 sb eb g l x rs p w.drew := h.step (h.box.same rfl rfl) ((Turn.refl _ _).drew)
theorem Gi.made (h : Box w sb eb l x rs) (p : Row) : Gi w sb eb w.heap.size l x rs p (w.alloc (.cells (entC p) 164)) := ⟨h.alloc _, alloc_here _ _, (Turn.refl _ _).alloc _, Nat.le_refl _, h.lt⟩
theorem Gi.put (h : Gi w0 sb eb g l x rs p w) (q : Row) : Gi w0 sb eb g l x rs q ((((((w.setCell ⟨g, 0, none⟩ (.string ⟨q.1.key.toArray⟩)).setCell ⟨g, 1, none⟩ (.string ⟨q.1.value.toArray⟩)).setCell ⟨g, 2, none⟩ (.int .i64 q.1.flags)).setCell ⟨g, 3, none⟩ (.int .i64 q.1.mark)).setCell ⟨g, 4, none⟩ (.int .i64 q.1.stop)).setCell ⟨g, 5, none⟩ (.int .i64 q.2)) := by
  have h1 := h.new
  have h2 := h.old
  have n1 : sb ≠ g := by omega
  have n2 : eb ≠ g := by omega
  refine ⟨h.box.same ?_ ?_, ?_, ?_, h1, h2⟩
  · repeat rw [heap_set_other _ _ _ _ n1]
  · repeat rw [heap_set_other _ _ _ _ n2]
  · exact (set_here (set_here (set_here (set_here (set_here (set_here h.res)))))).trans rfl
  · exact ((((((h.turn.setCell (p := ⟨g, 0, none⟩) (Or.inr h1) _).setCell (p := ⟨g, 1, none⟩) (Or.inr h1) _).setCell (p := ⟨g, 2, none⟩) (Or.inr h1) _).setCell (p := ⟨g, 3, none⟩) (Or.inr h1) _).setCell (p := ⟨g, 4, none⟩) (Or.inr h1) _).setCell (p := ⟨g, 5, none⟩) (Or.inr h1) _)
theorem Gi.cells (h : Gi w0 sb eb g l x rs p w) : w.cell? ⟨g, 0, none⟩ = some (.string ⟨p.1.key.toArray⟩) ∧ w.cell? ⟨g, 1, none⟩ = some (.string ⟨p.1.value.toArray⟩) ∧ w.cell? ⟨g, 2, none⟩ = some (.int .i64 p.1.flags) ∧ w.cell? ⟨g, 3, none⟩ = some (.int .i64 p.1.mark) ∧ w.cell? ⟨g, 4, none⟩ = some (.int .i64 p.1.stop) ∧ w.cell? ⟨g, 5, none⟩ = some (.int .i64 p.2) :=
  ⟨heap_cell h.res 0 rfl, heap_cell h.res 1 rfl, heap_cell h.res 2 rfl, heap_cell h.res 3 rfl, heap_cell h.res 4 rfl, heap_cell h.res 5 rfl⟩
theorem Gi.thaw (h : Gi w0 sb eb g l x rs p w) : w.frozen? ⟨g, 0, none⟩ = false ∧ w.frozen? ⟨g, 1, none⟩ = false ∧ w.frozen? ⟨g, 2, none⟩ = false ∧ w.frozen? ⟨g, 3, none⟩ = false ∧ w.frozen? ⟨g, 4, none⟩ = false ∧ w.frozen? ⟨g, 5, none⟩ = false :=
  ⟨heap_thawed h.res 0, heap_thawed h.res 1, heap_thawed h.res 2, heap_thawed h.res 3, heap_thawed h.res 4, heap_thawed h.res 5⟩
end

set_option maxRecDepth 20000 in
theorem get_none (w : World) (sb eb : Nat) (x : Num) (rs : List Row) (h : Box w sb eb (0, cl) x rs) (hx : x.gets ≤ 100000000000) (k : M.Bytes) (K : ByteArray) (hkey : keyOf Tryz.prog 9 (.string K) = some (.string k)) (hf : findR rs k = none) :
    Calls Tryz.prog 211 #[.pointer (some ⟨sb, 0, none⟩), .string K] w fun e w' => e = .returned (.tuple #[entV zeroRow, .bool false]) ∧ Box w' sb eb (0, cl) { x with gets := x.gets + 1 } rs ∧ Turn (ofStore sb eb) w w' := by
  have hsb := h.lt.1
  have HB : Hid (Box w sb eb (0, cl) x rs) := h
  have HF : Hid (findR rs k = none) := hf
  have HG : Hid (Gi w sb eb w.heap.size (0, cl) x rs zeroRow (w.alloc (.cells (entC zeroRow) 164))) := Gi.made h zeroRow
  clear h hf
  go_enter_defers Tryz.func211, Tryz.ntmps211
  go_wp2_with (first
    | (go_at_call 90; refine (lock_c HG.out.box).mono ?_; rintro e w1 ⟨rfl, hB1, hT1⟩; have hG1 := HG.out.step hB1 hT1; have c7 := hB1.c7; have f7 := hB1.fz 8; have c3 := hB1.c3; have hsb1 := hB1.lt.1; have HG2 := Hid.of (hG1.set (x' := { x with gets := x.gets + 1 }) 8 (.int .i64 ((x.gets : Int) + 1)) rfl); obtain ⟨D, HD, h1, h2⟩ := HG2.out.box.look_none HF.out; have hg1 := hG1.lt; obtain ⟨r0, r1, r2, r3, r4, r5⟩ := hG1.cells; obtain ⟨z0, z1, z2, z3, z4, z5⟩ := hG1.thaw; clear hB1 hT1 hG1)
    | (at_lookup; refine lookup_ent _ rfl _ _ 153 rfl 9 164 keyed Tryz.underlying153 (zeroEnt _) eb rs.length D rfl HD.out _ _ rfl hkey _ false h1 (h2 _) ?_; unfold entV str int))
  have HG3 := (HG2.out.put zeroRow).alloc (.cells (entC zeroRow) 164)
  refine leaves_cons (f := 91) (args := #[.pointer (some ⟨sb, 0, none⟩)]) (by simp) (by simp [go_sem]) ?_
  refine (unlock_c HG3.box .returning).mono ?_
  rintro e u' w4 ⟨rfl, rfl, hB4, hT4⟩
  have hG4 := HG3.step hB4 hT4
  obtain ⟨d0, d1, d2, d3, d4, d5⟩ := hG4.cells
  exact ⟨_, by simp [results, Tryz.results211, go_sem, d0, d1, d2, d3, d4, d5]; rfl, rfl, hB4, hG4.turn⟩

set_option maxRecDepth 20000 in
theorem get_some (w : World) (sb eb : Nat) (x : Num) (rs : List Row) (h : Box w sb eb (0, cl) x rs) (hx : x.gets ≤ 100000000000) (hx2 : x.hits ≤ 100000000000) (hx3 : x.uses ≤ 100000000000) (hl : rs.length ≤ 1000) (k : M.Bytes) (K : ByteArray) (hkey : keyOf Tryz.prog 9 (.string K) = some (.string k)) (p : Row) (hf : findR rs k = some p) :
    Calls Tryz.prog 211 #[.pointer (some ⟨sb, 0, none⟩), .string K] w fun e w' => e = .returned (.tuple #[entV p, .bool true]) ∧ Box w' sb eb (0, cl) { x with gets := x.gets + 1, hits := x.hits + 1, uses := x.uses + 1 } (goneR rs k ++ [(p.1, x.uses + 1)]) ∧ Turn (ofStore sb eb) w w' := by
  have hsb := h.lt.1
  have HB : Hid (Box w sb eb (0, cl) x rs) := h
  have HF : Hid (findR rs k = some p) := hf
  have hpk := (find_mem hf).2
  have HG : Hid (Gi w sb eb w.heap.size (0, cl) x rs zeroRow (w.alloc (.cells (entC zeroRow) 164))) := Gi.made h zeroRow
  have eV : entV p = .agg (entC p) := rfl
  obtain ⟨pk, hpk1⟩ : ∃ pk, pk = (⟨p.1.key.toArray⟩ : ByteArray) := ⟨_, rfl⟩
  obtain ⟨pv, hpv1⟩ : ∃ pv, pv = (⟨p.1.value.toArray⟩ : ByteArray) := ⟨_, rfl⟩
  have eC : entC p = #[.string pk, .string pv, .int .i64 p.1.flags, .int .i64 p.1.mark, .int .i64 p.1.stop, .int .i64 p.2] := by rw [hpk1, hpv1]; rfl
  have HEC : Hid (entC p = #[.string pk, .string pv, .int .i64 p.1.flags, .int .i64 p.1.mark, .int .i64 p.1.stop, .int .i64 p.2]) := eC
  have hk2 : pk = K := by
    obtain ⟨s, e1, e2, _⟩ := WideMaps.string_of_keyOf Tryz.underlying9 hkey
    cases e1
    cases e2
    rw [hpk1]
    exact (bytes_eq hpk.symm).symm
  have HPK : Hid (keyOf Tryz.prog 9 (.string pk) = some (.string p.1.key)) := by show _ = _; rw [hk2, hpk]; exact hkey
  have HK : Hid (p.1.key = k) := hpk
  have HP1 : Hid (pk = (⟨p.1.key.toArray⟩ : ByteArray)) := hpk1
  have HP2 : Hid (pv = (⟨p.1.value.toArray⟩ : ByteArray)) := hpv1
  rw [eC] at eV
  clear h hf hpk eC hk2 hpk1 hpv1
  go_enter_defers Tryz.func211, Tryz.ntmps211
  go_wp2_with (first
    | (go_at_call 90; refine (lock_c HG.out.box).mono ?_; rintro e w1 ⟨rfl, hB1, hT1⟩; have HG1 := Hid.of (HG.out.step hB1 hT1); have c7 := hB1.c7; have f7 := hB1.fz 8; have c8 := hB1.c8; have f8 := hB1.fz 9; have c3 := hB1.c3; have hsb1 := hB1.lt.1; have HG2 := Hid.of (HG1.out.set (x' := { x with gets := x.gets + 1 }) 8 (.int .i64 ((x.gets : Int) + 1)) rfl); obtain ⟨D, HD, h1, h2⟩ := HG2.out.box.look_some HF.out; clear hB1 hT1)
    | (at_lookup; refine lookup_ent _ rfl _ _ 153 rfl 9 164 keyed Tryz.underlying153 (zeroEnt _) eb rs.length D rfl HD.out _ _ rfl hkey p true h1 (h2 _) ?_; rw [eV]))
  have hG3 := HG2.out.set (x' := { x with gets := x.gets + 1, hits := x.hits + 1 }) 9 (.int .i64 ((x.hits : Int) + 1)) rfl
  have hE := Gi.made hG3.box p
  have hsz : ((w1.setCell ⟨sb, 8, none⟩ (.int .i64 ((x.gets : Int) + 1))).setCell ⟨sb, 9, none⟩ (.int .i64 ((x.hits : Int) + 1))).heap.size = w1.heap.size := by simp
  have hG4 := hG3.alloc (.cells (entC p) 164)
  rw [HEC.out] at hG4 hE
  rw [hsz] at hE
  refine (use_c _ sb eb (1, cl) _ rs hG4.box (Nat.le_trans hx3 (by decide)) hl p pk pv p.1.flags p.1.mark p.1.stop p.2 HPK.out (fun j => by rw [HP1.out, HP2.out]; rfl)).mono ?_
  rintro e w5 ⟨rfl, hB5, hT5⟩
  have hG5 := hG4.step hB5 hT5
  have hE5 := hE.step hB5 hT5
  obtain ⟨r0, r1, r2, r3, r4, r5⟩ := hG5.cells
  obtain ⟨z0, z1, z2, z3, z4, z5⟩ := hG5.thaw
  obtain ⟨e0, e1, e2, e3, e4, e5⟩ := hE5.cells
  have HG5 := Hid.of hG5
  clear hG3 hE hsz hG4 hB5 hT5 hE5 hG5
  go_wp2
  have hG6 := HG5.out.put p
  refine leaves_cons (f := 91) (args := #[.pointer (some ⟨sb, 0, none⟩)]) (by simp) (by simp [go_sem]) ?_
  refine (unlock_c hG6.box .returning).mono ?_
  rintro e u' w7 ⟨rfl, rfl, hB7, hT7⟩
  have hG7 := hG6.step hB7 hT7
  obtain ⟨d0, d1, d2, d3, d4, d5⟩ := hG7.cells
  rw [HK.out] at hB7
  exact ⟨_, by simp [results, Tryz.results211, go_sem, d0, d1, d2, d3, d4, d5]; rfl, rfl, hB7, hG7.turn⟩
end Go.Proofs.YtdpnpcjbjjjceaaGreatDoor.S
namespace Go.Proofs.YtdpnpcjbjjjceaaGreatDoor.S
open Go.RowKit Go.Maps Go.MuLone Go.Proofs.YtdpnpcjbjjjceaaGreatDoor
variable {cl : Nat}

theorem Sound.ev {n need : Nat} : ∀ (rs : List Row) (x : Num), Sound n x rs → Sound n { x with cost := rowsT (evR x.quota need rs), evicted := x.evicted + (rs.length - (evR x.quota need rs).length) } (evR x.quota need rs)
  | [], x, h => by
    have e : ({ x with cost := rowsT (evR x.quota need []), evicted := x.evicted + (([] : List Row).length - (evR x.quota need []).length) } : Num) = x := by
      have := h.total
      show ({ x with cost := rowsT [], evicted := x.evicted + 0 } : Num) = x
      rw [← this]; rfl
    rw [e]; exact h
  | p :: r, x, h => by
    by_cases hf : rowsT (p :: r) + need ≤ x.quota
    · rw [evR_done hf]
      have e : ({ x with cost := rowsT (p :: r), evicted := x.evicted + ((p :: r).length - (p :: r).length) } : Num) = x := by
        have := h.total
        rw [← this, Nat.sub_self]; rfl
      rw [e]; exact h
    · rw [evR_next hf]
      have h2 := Sound.ev (need := need) r _ h.dropped
      have hl := (evR_sub x.quota need r).length_le
      have e : x.evicted + 1 + (r.length - (evR x.quota need r).length) = x.evicted + ((p :: r).length - (evR x.quota need r).length) := by
        rw [List.length_cons]; omega
      have e2 : ({ x with cost := rowsT (evR x.quota need r), evicted := x.evicted + 1 + (r.length - (evR x.quota need r).length) } : Num) = { x with cost := rowsT (evR x.quota need r), evicted := x.evicted + ((p :: r).length - (evR x.quota need r).length) } := by rw [e]
      rw [← e2]
      exact h2
theorem Sound.put {n : Nat} {x : Num} {rs : List Row} (h : Sound n x rs) {e : M.Entry} (he : Fits e) (hc : M.cost e ≤ x.quota) : Sound (n + 1) (putX x rs e) (putR x rs e) := by
  obtain ⟨c', hc'⟩ := remX_same x rs e.key
  have h1 := h.rem e.key
  rw [hc'] at h1
  have h2 := h1.ev (need := M.cost e)
  have h3 := h2.stored_ he (evR_fits x.quota (M.cost e) hc _)
  exact h3

/-- what a call on a store ends in: an answer, and the store -/
def SPost (w : World) (sb eb n : Nat) (l : Lk) (r : M.Bytes × M.Store) (e : Ending) (w' : World) : Prop :=
  e = .returned (.string ⟨r.1.toArray⟩) ∧ ∃ x' rs', Box w' sb eb l x' rs' ∧ Sound (n + 1) x' rs' ∧ toStore x' rs' = r.2 ∧ Turn (ofStore sb eb) w w'

theorem put_c (w : World) (sb eb : Nat) (l : Lk) (x : Num) (rs : List Row) (h : Box w sb eb l x rs) (n : Nat) (hs : Sound n x rs) (hn : n ≤ 100000000000) (e : M.Entry) (he : Fits e) (K V : ByteArray) (hK : K = ⟨e.key.toArray⟩) (hV : V = ⟨e.value.toArray⟩) (f en : Int) (hf : f = e.flags) (hen : en = e.stop) :
    Calls Tryz.prog 200 #[.pointer (some ⟨sb, 0, none⟩), .agg #[.string K, .string V, .int .i64 f], .int .i64 en] w (SPost w sb eb n l (M.store (toStore x rs) e)) := by
  have hk1 : K.size = e.key.length := by rw [hK]; rfl
  have hv1 : V.size = e.value.length := by rw [hV]; rfl
  unfold M.store
  by_cases hc : x.quota < M.cost e
  · rw [if_pos (show (toStore x rs).quota < M.cost e from hc)]
    refine (put_large w sb eb l x rs h hs.quota K V f en (by have := he.key; omega) (by have := he.value; omega) (by rw [hk1, hv1]; exact hc)).mono ?_
    rintro e' w' ⟨rfl, hB, hT⟩
    exact ⟨rfl, x, rs, hB, hs.mono (Nat.le_succ n), rfl, hT⟩
  · rw [if_neg (show ¬ (toStore x rs).quota < M.cost e from hc)]
    refine (put_ok w sb eb l x rs h n hs hn e he K V hK hV f en hf hen (by omega)).mono ?_
    rintro e' w' ⟨rfl, hB, hT⟩
    exact ⟨rfl, _, _, hB, hs.put he (by omega), put_store x rs e, hT⟩

theorem endOf_c (sb li cl en : Nat) (w : World) (h4 : w.cell? ⟨sb, 4, none⟩ = some (.int .i64 cl)) (hli : li ≤ 1000000) (hcl : cl ≤ 1000000000) (hen : M.ends cl li = en) : Calls Tryz.prog 201 #[.pointer (some ⟨sb, 0, none⟩), .int .i64 li] w fun e w' => e = .returned (.int .i64 en) ∧ w' = w := by
  by_cases h0 : li = 0
  · subst h0
    subst hen
    go_enter Tryz.func201, Tryz.ntmps201
    go_wp2
    go_ret
    exact ⟨rfl, rfl⟩
  · have hz : (li : Int) ≠ 0 := by omega
    have he : ((en : Nat) : Int) = (cl : Int) + li := by
      rw [← hen, M.ends, if_neg h0]; rfl
    have HE := Hid.of he
    clear hen he
    go_enter Tryz.func201, Tryz.ntmps201
    go_wp2
    go_ret
    exact ⟨by rw [HE.out]; rfl, rfl⟩

theorem Mi.move {w0 w w' : World} {sb eb ib : Nat} {l l' : Lk} {x x' : Num} {r r' : List Row} {K V : ByteArray} {f : Int} (h : Mi w0 sb eb ib l x r K V f w) (hb : Box w' sb eb l' x' r') (ht : Turn (ofStore sb eb) w w') : Mi w0 sb eb ib l' x' r' K V f w' := by
  refine ⟨hb, (ht.block ib h.lt ?_).trans h.item, h.turn.trans ht, h.new, h.old⟩
  have h1 := h.new
  have h2 := h.old
  rintro (e | e) <;> omega
/-- the item's block, whatever the store is -/
structure Mk (w0 : World) (sb eb ib : Nat) (K V : ByteArray) (f : Int) (cl : Nat) (w : World) : Prop where
  item : w.heap[ib]? = some (.cells #[.string K, .string V, .int .i64 f] 162 (0, 0))
  new : w0.heap.size ≤ ib
  old : sb < w0.heap.size ∧ eb < w0.heap.size
  now : w.cell? ⟨sb, 4, none⟩ = some (.int .i64 cl)
theorem Mi.k {w0 w : World} {sb eb ib : Nat} {l : Lk} {x : Num} {r : List Row} {K V : ByteArray} {f : Int} (h : Mi w0 sb eb ib l x r K V f w) : Mk w0 sb eb ib K V f l.2 w := ⟨h.item, h.new, h.old, h.box.cn⟩
theorem Mk.drew {w0 w : World} {sb eb ib : Nat} {K V : ByteArray} {f : Int} (h : Mk w0 sb eb ib K V f cl w) : Mk w0 sb eb ib K V f cl w.drew := ⟨h.item, h.new, h.old, h.now⟩
theorem Mk.turn {w0 w w' : World} {sb eb ib : Nat} {K V : ByteArray} {f : Int} (h : Mk w0 sb eb ib K V f cl w) (ht : Turn (ofStore sb eb) w w') (hn : w'.cell? ⟨sb, 4, none⟩ = some (.int .i64 cl)) : Mk w0 sb eb ib K V f cl w' := by
  refine ⟨(ht.block ib (Array.getElem?_eq_some_iff.1 h.item).1 ?_).trans h.item, h.new, h.old, hn⟩
  have h1 := h.new
  have h2 := h.old
  rintro (e | e) <;> omega
theorem Mk.s {w0 w : World} {sb eb ib : Nat} {K V : ByteArray} {f : Int} (h : Mk w0 sb eb ib K V f cl w) : w.cell? ⟨ib, 0, none⟩ = some (.string K) ∧ w.cell? ⟨ib, 1, none⟩ = some (.string V) ∧ w.cell? ⟨ib, 2, none⟩ = some (.int .i64 f) ∧ Mk w0 sb eb ib K V f cl w :=
  ⟨heap_cell h.item 0 rfl, heap_cell h.item 1 rfl, heap_cell h.item 2 rfl, h⟩

set_option maxRecDepth 20000 in
theorem set_c (w : World) (sb eb : Nat) (x : Num) (rs : List Row) (h : Box w sb eb (0, cl) x rs) (n : Nat) (hs : Sound n x rs) (hn : n ≤ 100000000000) (e : M.Entry) (he : Fits e) (K V : ByteArray) (hK : K = ⟨e.key.toArray⟩) (hV : V = ⟨e.value.toArray⟩) (f : Int) (li : Nat) (hf : f = e.flags) (hli : li ≤ 1000000) (hcl : cl ≤ 1000000000) (hen : M.ends cl li = e.stop) :
    Calls Tryz.prog 173 #[.pointer (some ⟨sb, 0, none⟩), .agg #[.string K, .string V, .int .i64 f], .int .i64 li] w (SPost w sb eb n (0, cl) (M.store (toStore x rs) e)) := by
  have HM := Hid.of (Mi.start (K := K) (V := V) (f := f) h)
  have hsb := h.lt.1
  obtain ⟨en, hen9⟩ : ∃ en : Nat, en = e.stop := ⟨_, rfl⟩
  have cE : Hid (∀ W : World, W.cell? ⟨sb, 4, none⟩ = some (.int .i64 cl) → Calls Tryz.prog 201 #[.pointer (some ⟨sb, 0, none⟩), .int .i64 li] W fun e' w' => e' = .returned (.int .i64 en) ∧ w' = W) := fun W h4 => endOf_c sb li cl en W h4 hli hcl (hen.trans hen9.symm)
  have cP : Hid (∀ W, Box W sb eb (1, cl) x rs → Calls Tryz.prog 200 #[.pointer (some ⟨sb, 0, none⟩), .agg #[.string K, .string V, .int .i64 f], .int .i64 en] W (SPost W sb eb n (1, cl) (M.store (toStore x rs) e))) := fun W hW => put_c W sb eb (1, cl) x rs hW n hs hn e he K V hK hV f en hf (by rw [hen9])
  obtain ⟨r, hr⟩ : ∃ r, r = M.store (toStore x rs) e := ⟨_, rfl⟩
  rw [← hr] at cP ⊢
  clear h hs he hK hV hf hen hli hcl hen9 hr
  go_enter_defers Tryz.func173, Tryz.ntmps173
  go_wp2_with (go_at_call 90; refine (lock_c HM.out.box).mono ?_; rintro e w1 ⟨rfl, hB1, hT1⟩; have HM1 := Hid.of (HM.out.move hB1 hT1); clear hB1 hT1)
  have hk1 : Mk w sb eb w.heap.size K V f cl _ := HM1.out.k
  go_region_held3 (fun w' => w'.cell? ⟨w.heap.size, 0, none⟩ = some (.string K) ∧ w'.cell? ⟨w.heap.size, 1, none⟩ = some (.string V) ∧ w'.cell? ⟨w.heap.size, 2, none⟩ = some (.int .i64 f) ∧ Mk w sb eb w.heap.size K V f cl w')
    ((refine Mk.s ?_; repeat (first | assumption | refine Mk.drew ?_)))
    (first
      | (go_at_call 201; refine (cE.out _ (Mk.now (by first | assumption | exact Mk.drew (by assumption)))).mono ?_; rintro e w' ⟨rfl, rfl⟩)
      | (go_at_call 200; refine (cP.out _ HM1.out.drew.box).mono ?_; rintro e w2 ⟨rfl, x2, rs2, hB2, hS2, hE2, hT2⟩; have hk2 := hk1.drew.turn hT2 hB2.cn))
  rename_i hHeld; clear hHeld
  go_wp2
  refine leaves_cons (f := 91) (args := #[.pointer (some ⟨sb, 0, none⟩)]) (by simp) (by simp [go_sem]) ?_
  refine (unlock_c hB2 .returning).mono ?_
  rintro e u' w3 ⟨rfl, rfl, hB3, hT3⟩
  exact ⟨_, results_tmp rfl _ _ _, rfl, x2, rs2, hB3, hS2, hE2, (HM1.out.drew.turn.trans hT2).trans hT3⟩
end Go.Proofs.YtdpnpcjbjjjceaaGreatDoor.S
namespace Go.Proofs.YtdpnpcjbjjjceaaGreatDoor.S
open Go.RowKit Go.Maps Go.MuLone Go.Proofs.YtdpnpcjbjjjceaaGreatDoor
variable {cl : Nat}

theorem look_run {w : World} {sb eb : Nat} {l : Lk} {x : Num} {rs : List Row} (h : Box w sb eb l x rs) {k : M.Bytes} {K : ByteArray} (hkey : keyOf Tryz.prog 9 (.string K) = some (.string k)) {p : Row} {b : Bool} (hf : findR rs k = if b then some p else none) (hz : b = false → p = zeroRow) :
    (Instr.lookup 153 (.map (some eb)) (.string K) true).run Tryz.prog w = .ok (.tuple #[entV p, .bool b]) w := by
  obtain ⟨D, hD, hH⟩ := h.map
  obtain ⟨v, ps, hrun, hv⟩ := hD.look_ok keyed Tryz.underlying153 (zeroEnt w) (zd := entD zeroRow) (zp := []) rfl hkey
  cases b with
  | true =>
    obtain ⟨h1, h2⟩ := hH.find_some hf
    rw [h2] at hv
    rw [hrun, h1, entElem_inv hv]
  | false =>
    obtain ⟨h1, h2⟩ := hH.find_none hf
    rw [h2] at hv
    rw [hrun, h1, entElem_inv hv, hz rfl]
/-- what is looked up stands, wherever the world is on the way -/
structure Lo (w0 : World) (sb eb ib : Nat) (l : Lk) (x : Num) (rs : List Row) (K V : ByteArray) (f : Int) (k : M.Bytes) (p : Row) (b : Bool) (w : World) : Prop where
  mi : Mi w0 sb eb ib l x rs K V f w
  key : keyOf Tryz.prog 9 (.string K) = some (.string k)
  found : findR rs k = if b then some p else none
  zero : b = false → p = zeroRow
section
variable {w0 w w' : World} {sb eb ib : Nat} {l : Lk} {x : Num} {rs : List Row} {K V : ByteArray} {f : Int} {k : M.Bytes} {p : Row} {b : Bool}
theorem Lo.drew (h : Lo w0 sb eb ib l x rs K V f k p b w) : Lo w0 sb eb ib l x rs K V f k p b w.drew := ⟨h.mi.drew, h.key, h.found, h.zero⟩
theorem Lo.alloc (h : Lo w0 sb eb ib l x rs K V f k p b w) (o : Obj) : Lo w0 sb eb ib l x rs K V f k p b (w.alloc o) := ⟨h.mi.below ((Below.refl _ _).alloc (Nat.le_refl _) o), h.key, h.found, h.zero⟩
theorem Lo.s (h : Lo w0 sb eb ib l x rs K V f k p b w) : w.cell? ⟨sb, 3, none⟩ = some (.map (some eb)) ∧ w.cell? ⟨ib, 0, none⟩ = some (.string K) ∧ (Instr.lookup 153 (.map (some eb)) (.string K) true).run Tryz.prog w = .ok (.tuple #[entV p, .bool b]) w ∧ Lo w0 sb eb ib l x rs K V f k p b w :=
  ⟨h.mi.box.c3, heap_cell h.mi.item 0 rfl, look_run h.mi.box h.key h.found h.zero, h⟩
end

set_option maxRecDepth 20000 in
theorem add_there (w : World) (sb eb : Nat) (x : Num) (rs : List Row) (h : Box w sb eb (0, cl) x rs) (n : Nat) (hs : Sound n x rs) (hn : n ≤ 100000000000) (e : M.Entry) (he : Fits e) (K V : ByteArray) (hK : K = ⟨e.key.toArray⟩) (hV : V = ⟨e.value.toArray⟩) (f : Int) (li : Nat) (hf : f = e.flags) (hli : li ≤ 1000000) (hcl : cl ≤ 1000000000) (hen : M.ends cl li = e.stop) (p : Row) (hfr : findR rs e.key = some p) :
    Calls Tryz.prog 169 #[.pointer (some ⟨sb, 0, none⟩), .agg #[.string K, .string V, .int .i64 f], .int .i64 li] w (SPost w sb eb n (0, cl) ([78, 79, 84, 32, 83, 84, 79, 82, 69, 68], toStore x rs)) := by
  have HM := Hid.of (Mi.start (K := K) (V := V) (f := f) h)
  have hsb := h.lt.1
  have hkey : keyOf Tryz.prog 9 (.string K) = some (.string e.key) := by rw [hK]; exact keyLit e.key (by have := he.key; omega)
  have HFR : Hid (findR rs e.key = some p) := hfr
  have HKEY := Hid.of hkey
  have HS := Hid.of hs
  obtain ⟨pk, hpk1⟩ : ∃ pk, pk = (⟨p.1.key.toArray⟩ : ByteArray) := ⟨_, rfl⟩
  obtain ⟨pv, hpv1⟩ : ∃ pv, pv = (⟨p.1.value.toArray⟩ : ByteArray) := ⟨_, rfl⟩
  have HEV : Hid (entV p = .agg #[.string pk, .string pv, .int .i64 p.1.flags, .int .i64 p.1.mark, .int .i64 p.1.stop, .int .i64 p.2]) := by show _ = _; rw [hpk1, hpv1]; rfl
  clear h hs he hK hV hf hen hli hcl hfr hpk1 hpv1 hkey
  go_enter_defers Tryz.func169, Tryz.ntmps169
  go_wp2_with (go_at_call 90; refine (lock_c HM.out.box).mono ?_; rintro e w1 ⟨rfl, hB1, hT1⟩; have HM1 := Hid.of (HM.out.move hB1 hT1); clear hB1 hT1)
  have hL1 : Lo w sb eb w.heap.size (1, cl) x rs K V f e.key p true w1 := ⟨HM1.out, HKEY.out, HFR.out, (by intro h9; first | rfl | cases h9)⟩
  go_region_held3 (fun w' => w'.cell? ⟨sb, 3, none⟩ = some (.map (some eb)) ∧ w'.cell? ⟨w.heap.size, 0, none⟩ = some (.string K) ∧ (Instr.lookup 153 (.map (some eb)) (.string K) true).run Tryz.prog w' = .ok (.tuple #[.agg #[.string pk, .string pv, .int .i64 p.1.flags, .int .i64 p.1.mark, .int .i64 p.1.stop, .int .i64 p.2], .bool true]) w' ∧ Lo w sb eb w.heap.size (1, cl) x rs K V f e.key p true w')
    ((rw [← HEV.out]; refine Lo.s ?_; repeat (first | assumption | refine Lo.drew ?_ | refine Lo.alloc ?_ _)))
    (fail)
  all_goals
    rename_i hHeld
    have HL2 := Hid.of hHeld.2.2.2.mi
    clear hHeld hL1
    go_wp2
    refine leaves_cons (f := 91) (args := #[.pointer (some ⟨sb, 0, none⟩)]) (by simp) (by simp [go_sem]) ?_
    refine (unlock_c HL2.out.box .returning).mono ?_
    rintro e u' w3 ⟨rfl, rfl, hB3, hT3⟩
    exact ⟨_, results_tmp rfl _ _ _, rfl, x, rs, hB3, HS.out.mono (Nat.le_succ n), rfl, HL2.out.turn.trans hT3⟩

set_option maxRecDepth 20000 in
theorem add_new (w : World) (sb eb : Nat) (x : Num) (rs : List Row) (h : Box w sb eb (0, cl) x rs) (n : Nat) (hs : Sound n x rs) (hn : n ≤ 100000000000) (e : M.Entry) (he : Fits e) (K V : ByteArray) (hK : K = ⟨e.key.toArray⟩) (hV : V = ⟨e.value.toArray⟩) (f : Int) (li : Nat) (hf : f = e.flags) (hli : li ≤ 1000000) (hcl : cl ≤ 1000000000) (hen : M.ends cl li = e.stop) (hfr : findR rs e.key = none) :
    Calls Tryz.prog 169 #[.pointer (some ⟨sb, 0, none⟩), .agg #[.string K, .string V, .int .i64 f], .int .i64 li] w (SPost w sb eb n (0, cl) (M.store (toStore x rs) e)) := by
  have HM := Hid.of (Mi.start (K := K) (V := V) (f := f) h)
  have hsb := h.lt.1
  have hkey : keyOf Tryz.prog 9 (.string K) = some (.string e.key) := by rw [hK]; exact keyLit e.key (by have := he.key; omega)
  obtain ⟨en, hen9⟩ : ∃ en : Nat, en = e.stop := ⟨_, rfl⟩
  have cE : Hid (∀ W : World, W.cell? ⟨sb, 4, none⟩ = some (.int .i64 cl) → Calls Tryz.prog 201 #[.pointer (some ⟨sb, 0, none⟩), .int .i64 li] W fun e' w' => e' = .returned (.int .i64 en) ∧ w' = W) := fun W h4 => endOf_c sb li cl en W h4 hli hcl (hen.trans hen9.symm)
  have cP : Hid (∀ W, Box W sb eb (1, cl) x rs → Calls Tryz.prog 200 #[.pointer (some ⟨sb, 0, none⟩), .agg #[.string K, .string V, .int .i64 f], .int .i64 en] W (SPost W sb eb n (1, cl) (M.store (toStore x rs) e))) := fun W hW => put_c W sb eb (1, cl) x rs hW n hs hn e he K V hK hV f en hf (by rw [hen9])
  obtain ⟨r, hr⟩ : ∃ r, r = M.store (toStore x rs) e := ⟨_, rfl⟩
  rw [← hr] at cP ⊢
  clear hr
  have HFR : Hid (findR rs e.key = none) := hfr
  have HEV : Hid (entV zeroRow = .agg #[.string ⟨#[]⟩, .string ⟨#[]⟩, .int .i64 0, .int .i64 0, .int .i64 0, .int .i64 0]) := by show _ = _; rfl
  have HKEY := Hid.of hkey
  have HS := Hid.of hs
  clear h hs he hK hV hf hen hli hcl hen9 hfr hkey
  go_enter_defers Tryz.func169, Tryz.ntmps169
  go_wp2_with (go_at_call 90; refine (lock_c HM.out.box).mono ?_; rintro e w1 ⟨rfl, hB1, hT1⟩; have HM1 := Hid.of (HM.out.move hB1 hT1); clear hB1 hT1)
  have hL1 : Lo w sb eb w.heap.size (1, cl) x rs K V f e.key zeroRow false w1 := ⟨HM1.out, HKEY.out, HFR.out, (by intro h9; first | rfl | cases h9)⟩
  go_region_held3 (fun w' => w'.cell? ⟨sb, 3, none⟩ = some (.map (some eb)) ∧ w'.cell? ⟨w.heap.size, 0, none⟩ = some (.string K) ∧ (Instr.lookup 153 (.map (some eb)) (.string K) true).run Tryz.prog w' = .ok (.tuple #[.agg #[.string ⟨#[]⟩, .string ⟨#[]⟩, .int .i64 0, .int .i64 0, .int .i64 0, .int .i64 0], .bool false]) w' ∧ Lo w sb eb w.heap.size (1, cl) x rs K V f e.key zeroRow false w')
    ((rw [← HEV.out]; refine Lo.s ?_; repeat (first | assumption | refine Lo.drew ?_ | refine Lo.alloc ?_ _)))
    (fail)
  all_goals
    rename_i hHeld
    have HL2 := Hid.of hHeld.2.2.2.mi
    clear hHeld hL1
    go_wp2_with fail
    have hk1 : Mk w sb eb w.heap.size K V f cl _ := HL2.out.k
    generalize World.drew (World.alloc w1 _) = w2 at HL2 hk1 ⊢
    go_region_held3 (fun w' => w'.cell? ⟨w.heap.size, 0, none⟩ = some (.string K) ∧ w'.cell? ⟨w.heap.size, 1, none⟩ = some (.string V) ∧ w'.cell? ⟨w.heap.size, 2, none⟩ = some (.int .i64 f) ∧ Mk w sb eb w.heap.size K V f cl w')
      ((refine Mk.s ?_; repeat (first | assumption | refine Mk.drew ?_)))
      (first
        | (go_at_call 201; refine (cE.out _ (Mk.now (by first | assumption | exact Mk.drew (by assumption)))).mono ?_; rintro e w' ⟨rfl, rfl⟩)
        | (go_at_call 200; refine (cP.out _ HL2.out.drew.box).mono ?_; rintro e w3 ⟨rfl, x3, rs3, hB3, hS3, hE3, hT3⟩; have hk2 := hk1.drew.turn hT3 hB3.cn))
    rename_i hHeld; clear hHeld
    go_wp2
    refine leaves_cons (f := 91) (args := #[.pointer (some ⟨sb, 0, none⟩)]) (by simp) (by simp [go_sem]) ?_
    refine (unlock_c hB3 .returning).mono ?_
    rintro e u' w4 ⟨rfl, rfl, hB4, hT4⟩
    exact ⟨_, results_tmp rfl _ _ _, rfl, x3, rs3, hB4, hS3, hE3, (HL2.out.drew.turn.trans hT3).trans hT4⟩

set_option maxRecDepth 20000 in
theorem replace_there (w : World) (sb eb : Nat) (x : Num) (rs : List Row) (h : Box w sb eb (0, cl) x rs) (n : Nat) (hs : Sound n x rs) (hn : n ≤ 100000000000) (e : M.Entry) (he : Fits e) (K V : ByteArray) (hK : K = ⟨e.key.toArray⟩) (hV : V = ⟨e.value.toArray⟩) (f : Int) (li : Nat) (hf : f = e.flags) (hli : li ≤ 1000000) (hcl : cl ≤ 1000000000) (hen : M.ends cl li = e.stop) (p : Row) (hfr : findR rs e.key = some p) :
    Calls Tryz.prog 170 #[.pointer (some ⟨sb, 0, none⟩), .agg #[.string K, .string V, .int .i64 f], .int .i64 li] w (SPost w sb eb n (0, cl) (M.store (toStore x rs) e)) := by
  have HM := Hid.of (Mi.start (K := K) (V := V) (f := f) h)
  have hsb := h.lt.1
  have hkey : keyOf Tryz.prog 9 (.string K) = some (.string e.key) := by rw [hK]; exact keyLit e.key (by have := he.key; omega)
  obtain ⟨en, hen9⟩ : ∃ en : Nat, en = e.stop := ⟨_, rfl⟩
  have cE : Hid (∀ W : World, W.cell? ⟨sb, 4, none⟩ = some (.int .i64 cl) → Calls Tryz.prog 201 #[.pointer (some ⟨sb, 0, none⟩), .int .i64 li] W fun e' w' => e' = .returned (.int .i64 en) ∧ w' = W) := fun W h4 => endOf_c sb li cl en W h4 hli hcl (hen.trans hen9.symm)
  have cP : Hid (∀ W, Box W sb eb (1, cl) x rs → Calls Tryz.prog 200 #[.pointer (some ⟨sb, 0, none⟩), .agg #[.string K, .string V, .int .i64 f], .int .i64 en] W (SPost W sb eb n (1, cl) (M.store (toStore x rs) e))) := fun W hW => put_c W sb eb (1, cl) x rs hW n hs hn e he K V hK hV f en hf (by rw [hen9])
  obtain ⟨r, hr⟩ : ∃ r, r = M.store (toStore x rs) e := ⟨_, rfl⟩
  rw [← hr] at cP ⊢
  clear hr
  have HFR : Hid (findR rs e.key = some p) := hfr
  have HKEY := Hid.of hkey
  have HS := Hid.of hs
  obtain ⟨pk, hpk1⟩ : ∃ pk, pk = (⟨p.1.key.toArray⟩ : ByteArray) := ⟨_, rfl⟩
  obtain ⟨pv, hpv1⟩ : ∃ pv, pv = (⟨p.1.value.toArray⟩ : ByteArray) := ⟨_, rfl⟩
  have HEV : Hid (entV p = .agg #[.string pk, .string pv, .int .i64 p.1.flags, .int .i64 p.1.mark, .int .i64 p.1.stop, .int .i64 p.2]) := by show _ = _; rw [hpk1, hpv1]; rfl
  clear h hs he hK hV hf hen hli hcl hen9 hfr hpk1 hpv1 hkey
  go_enter_defers Tryz.func170, Tryz.ntmps170
  go_wp2_with (go_at_call 90; refine (lock_c HM.out.box).mono ?_; rintro e w1 ⟨rfl, hB1, hT1⟩; have HM1 := Hid.of (HM.out.move hB1 hT1); clear hB1 hT1)
  have hL1 : Lo w sb eb w.heap.size (1, cl) x rs K V f e.key p true w1 := ⟨HM1.out, HKEY.out, HFR.out, (by intro h9; first | rfl | cases h9)⟩
  go_region_held3 (fun w' => w'.cell? ⟨sb, 3, none⟩ = some (.map (some eb)) ∧ w'.cell? ⟨w.heap.size, 0, none⟩ = some (.string K) ∧ (Instr.lookup 153 (.map (some eb)) (.string K) true).run Tryz.prog w' = .ok (.tuple #[.agg #[.string pk, .string pv, .int .i64 p.1.flags, .int .i64 p.1.mark, .int .i64 p.1.stop, .int .i64 p.2], .bool true]) w' ∧ Lo w sb eb w.heap.size (1, cl) x rs K V f e.key p true w')
    ((rw [← HEV.out]; refine Lo.s ?_; repeat (first | assumption | refine Lo.drew ?_ | refine Lo.alloc ?_ _)))
    (fail)
  all_goals
    rename_i hHeld
    have HL2 := Hid.of hHeld.2.2.2.mi
    clear hHeld hL1
    go_wp2_with fail
    have hk1 : Mk w sb eb w.heap.size K V f cl _ := HL2.out.k
    generalize World.drew (World.alloc w1 _) = w2 at HL2 hk1 ⊢
    go_region_held3 (fun w' => w'.cell? ⟨w.heap.size, 0, none⟩ = some (.string K) ∧ w'.cell? ⟨w.heap.size, 1, none⟩ = some (.string V) ∧ w'.cell? ⟨w.heap.size, 2, none⟩ = some (.int .i64 f) ∧ Mk w sb eb w.heap.size K V f cl w')
      ((refine Mk.s ?_; repeat (first | assumption | refine Mk.drew ?_)))
      (first
        | (go_at_call 201; refine (cE.out _ (Mk.now (by first | assumption | exact Mk.drew (by assumption)))).mono ?_; rintro e w' ⟨rfl, rfl⟩)
        | (go_at_call 200; refine (cP.out _ HL2.out.drew.box).mono ?_; rintro e w3 ⟨rfl, x3, rs3, hB3, hS3, hE3, hT3⟩; have hk2 := hk1.drew.turn hT3 hB3.cn))
    rename_i hHeld; clear hHeld
    go_wp2
    refine leaves_cons (f := 91) (args := #[.pointer (some ⟨sb, 0, none⟩)]) (by simp) (by simp [go_sem]) ?_
    refine (unlock_c hB3 .returning).mono ?_
    rintro e u' w4 ⟨rfl, rfl, hB4, hT4⟩
    exact ⟨_, results_tmp rfl _ _ _, rfl, x3, rs3, hB4, hS3, hE3, (HL2.out.drew.turn.trans hT3).trans hT4⟩

set_option maxRecDepth 20000 in
theorem replace_new (w : World) (sb eb : Nat) (x : Num) (rs : List Row) (h : Box w sb eb (0, cl) x rs) (n : Nat) (hs : Sound n x rs) (hn : n ≤ 100000000000) (e : M.Entry) (he : Fits e) (K V : ByteArray) (hK : K = ⟨e.key.toArray⟩) (hV : V = ⟨e.value.toArray⟩) (f : Int) (li : Nat) (hf : f = e.flags) (hli : li ≤ 1000000) (hcl : cl ≤ 1000000000) (hen : M.ends cl li = e.stop) (hfr : findR rs e.key = none) :
    Calls Tryz.prog 170 #[.pointer (some ⟨sb, 0, none⟩), .agg #[.string K, .string V, .int .i64 f], .int .i64 li] w (SPost w sb eb n (0, cl) ([78, 79, 84, 32, 83, 84, 79, 82, 69, 68], toStore x rs)) := by
  have HM := Hid.of (Mi.start (K := K) (V := V) (f := f) h)
  have hsb := h.lt.1
  have hkey : keyOf Tryz.prog 9 (.string K) = some (.string e.key) := by rw [hK]; exact keyLit e.key (by have := he.key; omega)
  have HFR : Hid (findR rs e.key = none) := hfr
  have HEV : Hid (entV zeroRow = .agg #[.string ⟨#[]⟩, .string ⟨#[]⟩, .int .i64 0, .int .i64 0, .int .i64 0, .int .i64 0]) := by show _ = _; rfl
  have HKEY := Hid.of hkey
  have HS := Hid.of hs
  clear h hs he hK hV hf hen hli hcl hfr hkey
  go_enter_defers Tryz.func170, Tryz.ntmps170
  go_wp2_with (go_at_call 90; refine (lock_c HM.out.box).mono ?_; rintro e w1 ⟨rfl, hB1, hT1⟩; have HM1 := Hid.of (HM.out.move hB1 hT1); clear hB1 hT1)
  have hL1 : Lo w sb eb w.heap.size (1, cl) x rs K V f e.key zeroRow false w1 := ⟨HM1.out, HKEY.out, HFR.out, (by intro h9; first | rfl | cases h9)⟩
  go_region_held3 (fun w' => w'.cell? ⟨sb, 3, none⟩ = some (.map (some eb)) ∧ w'.cell? ⟨w.heap.size, 0, none⟩ = some (.string K) ∧ (Instr.lookup 153 (.map (some eb)) (.string K) true).run Tryz.prog w' = .ok (.tuple #[.agg #[.string ⟨#[]⟩, .string ⟨#[]⟩, .int .i64 0, .int .i64 0, .int .i64 0, .int .i64 0], .bool false]) w' ∧ Lo w sb eb w.heap.size (1, cl) x rs K V f e.key zeroRow false w')
    ((rw [← HEV.out]; refine Lo.s ?_; repeat (first | assumption | refine Lo.drew ?_ | refine Lo.alloc ?_ _)))
    (fail)
  all_goals
    rename_i hHeld
    have HL2 := Hid.of hHeld.2.2.2.mi
    clear hHeld hL1
    go_wp2
    refine leaves_cons (f := 91) (args := #[.pointer (some ⟨sb, 0, none⟩)]) (by simp) (by simp [go_sem]) ?_
    refine (unlock_c HL2.out.box .returning).mono ?_
    rintro e u' w3 ⟨rfl, rfl, hB3, hT3⟩
    exact ⟨_, results_tmp rfl _ _ _, rfl, x, rs, hB3, HS.out.mono (Nat.le_succ n), rfl, HL2.out.turn.trans hT3⟩
end Go.Proofs.YtdpnpcjbjjjceaaGreatDoor.S
namespace Go.Proofs.YtdpnpcjbjjjceaaGreatDoor.S
open Go.RowKit Go.Maps Go.MuLone Go.Proofs.YtdpnpcjbjjjceaaGreatDoor
variable {cl : Nat}

set_option maxRecDepth 20000 in
theorem cas_new (w : World) (sb eb : Nat) (x : Num) (rs : List Row) (h : Box w sb eb (0, cl) x rs) (n : Nat) (hs : Sound n x rs) (hn : n ≤ 100000000000) (e : M.Entry) (he : Fits e) (K V : ByteArray) (hK : K = ⟨e.key.toArray⟩) (hV : V = ⟨e.value.toArray⟩) (f : Int) (li : Nat) (hf : f = e.flags) (hli : li ≤ 1000000) (hcl : cl ≤ 1000000000) (hen : M.ends cl li = e.stop) (mk : Int) (hfr : findR rs e.key = none) :
    Calls Tryz.prog 171 #[.pointer (some ⟨sb, 0, none⟩), .agg #[.string K, .string V, .int .i64 f], .int .i64 li, .int .i64 mk] w (SPost w sb eb n (0, cl) ([78, 79, 84, 32, 70, 79, 85, 78, 68], toStore x rs)) := by
  have HM := Hid.of (Mi.start (K := K) (V := V) (f := f) h)
  have hsb := h.lt.1
  have hkey : keyOf Tryz.prog 9 (.string K) = some (.string e.key) := by rw [hK]; exact keyLit e.key (by have := he.key; omega)
  have HFR : Hid (findR rs e.key = none) := hfr
  have HEV : Hid (entV zeroRow = .agg #[.string ⟨#[]⟩, .string ⟨#[]⟩, .int .i64 0, .int .i64 0, .int .i64 0, .int .i64 0]) := by show _ = _; rfl
  have HKEY := Hid.of hkey
  have HS := Hid.of hs
  clear h hs he hK hV hf hen hli hcl hfr hkey
  go_enter_defers Tryz.func171, Tryz.ntmps171
  go_wp2_with (go_at_call 90; refine (lock_c HM.out.box).mono ?_; rintro e w1 ⟨rfl, hB1, hT1⟩; have HM1 := Hid.of (HM.out.move hB1 hT1); clear hB1 hT1)
  have hL1 : Lo w sb eb w.heap.size (1, cl) x rs K V f e.key zeroRow false w1 := ⟨HM1.out, HKEY.out, HFR.out, (by intro h9; first | rfl | cases h9)⟩
  go_region_held3 (fun w' => w'.cell? ⟨sb, 3, none⟩ = some (.map (some eb)) ∧ w'.cell? ⟨w.heap.size, 0, none⟩ = some (.string K) ∧ (Instr.lookup 153 (.map (some eb)) (.string K) true).run Tryz.prog w' = .ok (.tuple #[.agg #[.string ⟨#[]⟩, .string ⟨#[]⟩, .int .i64 0, .int .i64 0, .int .i64 0, .int .i64 0], .bool false]) w' ∧ Lo w sb eb w.heap.size (1, cl) x rs K V f e.key zeroRow false w')
    ((rw [← HEV.out]; refine Lo.s ?_; repeat (first | assumption | refine Lo.drew ?_ | refine Lo.alloc ?_ _)))
    (fail)
  all_goals
    rename_i hHeld
    have HL2 := Hid.of hHeld.2.2.2.mi
    clear hHeld hL1
    go_wp2
    refine leaves_cons (f := 91) (args := #[.pointer (some ⟨sb, 0, none⟩)]) (by simp) (by simp [go_sem]) ?_
    refine (unlock_c HL2.out.box .returning).mono ?_
    rintro e u' w3 ⟨rfl, rfl, hB3, hT3⟩
    exact ⟨_, results_tmp rfl _ _ _, rfl, x, rs, hB3, HS.out.mono (Nat.le_succ n), rfl, HL2.out.turn.trans hT3⟩

set_option maxRecDepth 20000 in
theorem cas_other (w : World) (sb eb : Nat) (x : Num) (rs : List Row) (h : Box w sb eb (0, cl) x rs) (n : Nat) (hs : Sound n x rs) (hn : n ≤ 100000000000) (e : M.Entry) (he : Fits e) (K V : ByteArray) (hK : K = ⟨e.key.toArray⟩) (hV : V = ⟨e.value.toArray⟩) (f : Int) (li : Nat) (hf : f = e.flags) (hli : li ≤ 1000000) (hcl : cl ≤ 1000000000) (hen : M.ends cl li = e.stop) (mk : Int) (p : Row) (hfr : findR rs e.key = some p) (hmk : (p.1.mark : Int) ≠ mk) :
    Calls Tryz.prog 171 #[.pointer (some ⟨sb, 0, none⟩), .agg #[.string K, .string V, .int .i64 f], .int .i64 li, .int .i64 mk] w (SPost w sb eb n (0, cl) ([69, 88, 73, 83, 84, 83], toStore x rs)) := by
  have HM := Hid.of (Mi.start (K := K) (V := V) (f := f) h)
  have hsb := h.lt.1
  have hkey : keyOf Tryz.prog 9 (.string K) = some (.string e.key) := by rw [hK]; exact keyLit e.key (by have := he.key; omega)
  have HFR : Hid (findR rs e.key = some p) := hfr
  have HKEY := Hid.of hkey
  have HS := Hid.of hs
  obtain ⟨pk, hpk1⟩ : ∃ pk, pk = (⟨p.1.key.toArray⟩ : ByteArray) := ⟨_, rfl⟩
  obtain ⟨pv, hpv1⟩ : ∃ pv, pv = (⟨p.1.value.toArray⟩ : ByteArray) := ⟨_, rfl⟩
  have HEV : Hid (entV p = .agg #[.string pk, .string pv, .int .i64 p.1.flags, .int .i64 p.1.mark, .int .i64 p.1.stop, .int .i64 p.2]) := by show _ = _; rw [hpk1, hpv1]; rfl
  clear h hs he hK hV hf hen hli hcl hfr hpk1 hpv1 hkey
  go_enter_defers Tryz.func171, Tryz.ntmps171
  go_wp2_with (go_at_call 90; refine (lock_c HM.out.box).mono ?_; rintro e w1 ⟨rfl, hB1, hT1⟩; have HM1 := Hid.of (HM.out.move hB1 hT1); clear hB1 hT1)
  have hL1 : Lo w sb eb w.heap.size (1, cl) x rs K V f e.key p true w1 := ⟨HM1.out, HKEY.out, HFR.out, (by intro h9; first | rfl | cases h9)⟩
  go_region_held3 (fun w' => w'.cell? ⟨sb, 3, none⟩ = some (.map (some eb)) ∧ w'.cell? ⟨w.heap.size, 0, none⟩ = some (.string K) ∧ (Instr.lookup 153 (.map (some eb)) (.string K) true).run Tryz.prog w' = .ok (.tuple #[.agg #[.string pk, .string pv, .int .i64 p.1.flags, .int .i64 p.1.mark, .int .i64 p.1.stop, .int .i64 p.2], .bool true]) w' ∧ Lo w sb eb w.heap.size (1, cl) x rs K V f e.key p true w')
    ((rw [← HEV.out]; refine Lo.s ?_; repeat (first | assumption | refine Lo.drew ?_ | refine Lo.alloc ?_ _)))
    (fail)
  all_goals
    rename_i hHeld
    have HL2 := Hid.of hHeld.2.2.2.mi
    clear hHeld hL1
    go_wp2
    refine leaves_cons (f := 91) (args := #[.pointer (some ⟨sb, 0, none⟩)]) (by simp) (by simp [go_sem]) ?_
    refine (unlock_c HL2.out.box .returning).mono ?_
    rintro e u' w3 ⟨rfl, rfl, hB3, hT3⟩
    exact ⟨_, results_tmp rfl _ _ _, rfl, x, rs, hB3, HS.out.mono (Nat.le_succ n), rfl, HL2.out.turn.trans hT3⟩

set_option maxRecDepth 20000 in
theorem cas_same (w : World) (sb eb : Nat) (x : Num) (rs : List Row) (h : Box w sb eb (0, cl) x rs) (n : Nat) (hs : Sound n x rs) (hn : n ≤ 100000000000) (e : M.Entry) (he : Fits e) (K V : ByteArray) (hK : K = ⟨e.key.toArray⟩) (hV : V = ⟨e.value.toArray⟩) (f : Int) (li : Nat) (hf : f = e.flags) (hli : li ≤ 1000000) (hcl : cl ≤ 1000000000) (hen : M.ends cl li = e.stop) (mk : Int) (p : Row) (hfr : findR rs e.key = some p) (hmk : (p.1.mark : Int) = mk) :
    Calls Tryz.prog 171 #[.pointer (some ⟨sb, 0, none⟩), .agg #[.string K, .string V, .int .i64 f], .int .i64 li, .int .i64 mk] w (SPost w sb eb n (0, cl) (M.store (toStore x rs) e)) := by
  have HM := Hid.of (Mi.start (K := K) (V := V) (f := f) h)
  have hsb := h.lt.1
  have hkey : keyOf Tryz.prog 9 (.string K) = some (.string e.key) := by rw [hK]; exact keyLit e.key (by have := he.key; omega)
  obtain ⟨en, hen9⟩ : ∃ en : Nat, en = e.stop := ⟨_, rfl⟩
  have cE : Hid (∀ W : World, W.cell? ⟨sb, 4, none⟩ = some (.int .i64 cl) → Calls Tryz.prog 201 #[.pointer (some ⟨sb, 0, none⟩), .int .i64 li] W fun e' w' => e' = .returned (.int .i64 en) ∧ w' = W) := fun W h4 => endOf_c sb li cl en W h4 hli hcl (hen.trans hen9.symm)
  have cP : Hid (∀ W, Box W sb eb (1, cl) x rs → Calls Tryz.prog 200 #[.pointer (some ⟨sb, 0, none⟩), .agg #[.string K, .string V, .int .i64 f], .int .i64 en] W (SPost W sb eb n (1, cl) (M.store (toStore x rs) e))) := fun W hW => put_c W sb eb (1, cl) x rs hW n hs hn e he K V hK hV f en hf (by rw [hen9])
  obtain ⟨r, hr⟩ : ∃ r, r = M.store (toStore x rs) e := ⟨_, rfl⟩
  rw [← hr] at cP ⊢
  clear hr
  subst hmk
  have HFR : Hid (findR rs e.key = some p) := hfr
  have HKEY := Hid.of hkey
  have HS := Hid.of hs
  obtain ⟨pk, hpk1⟩ : ∃ pk, pk = (⟨p.1.key.toArray⟩ : ByteArray) := ⟨_, rfl⟩
  obtain ⟨pv, hpv1⟩ : ∃ pv, pv = (⟨p.1.value.toArray⟩ : ByteArray) := ⟨_, rfl⟩
  have HEV : Hid (entV p = .agg #[.string pk, .string pv, .int .i64 p.1.flags, .int .i64 p.1.mark, .int .i64 p.1.stop, .int .i64 p.2]) := by show _ = _; rw [hpk1, hpv1]; rfl
  clear h hs he hK hV hf hen hli hcl hen9 hfr hpk1 hpv1 hkey
  go_enter_defers Tryz.func171, Tryz.ntmps171
  go_wp2_with (go_at_call 90; refine (lock_c HM.out.box).mono ?_; rintro e w1 ⟨rfl, hB1, hT1⟩; have HM1 := Hid.of (HM.out.move hB1 hT1); clear hB1 hT1)
  have hL1 : Lo w sb eb w.heap.size (1, cl) x rs K V f e.key p true w1 := ⟨HM1.out, HKEY.out, HFR.out, (by intro h9; first | rfl | cases h9)⟩
  go_region_held3 (fun w' => w'.cell? ⟨sb, 3, none⟩ = some (.map (some eb)) ∧ w'.cell? ⟨w.heap.size, 0, none⟩ = some (.string K) ∧ (Instr.lookup 153 (.map (some eb)) (.string K) true).run Tryz.prog w' = .ok (.tuple #[.agg #[.string pk, .string pv, .int .i64 p.1.flags, .int .i64 p.1.mark, .int .i64 p.1.stop, .int .i64 p.2], .bool true]) w' ∧ Lo w sb eb w.heap.size (1, cl) x rs K V f e.key p true w')
    ((rw [← HEV.out]; refine Lo.s ?_; repeat (first | assumption | refine Lo.drew ?_ | refine Lo.alloc ?_ _)))
    (fail)
  all_goals
    rename_i hHeld
    have HL2 := Hid.of hHeld.2.2.2.mi
    clear hHeld hL1
    go_wp2_with fail
    have hk1 : Mk w sb eb w.heap.size K V f cl _ := HL2.out.k
    generalize World.drew (World.alloc w1 _) = w2 at HL2 hk1 ⊢
    go_region_held3 (fun w' => w'.cell? ⟨w.heap.size, 0, none⟩ = some (.string K) ∧ w'.cell? ⟨w.heap.size, 1, none⟩ = some (.string V) ∧ w'.cell? ⟨w.heap.size, 2, none⟩ = some (.int .i64 f) ∧ Mk w sb eb w.heap.size K V f cl w')
      ((refine Mk.s ?_; repeat (first | assumption | refine Mk.drew ?_)))
      (first
        | (go_at_call 201; refine (cE.out _ (Mk.now (by first | assumption | exact Mk.drew (by assumption)))).mono ?_; rintro e w' ⟨rfl, rfl⟩)
        | (go_at_call 200; refine (cP.out _ HL2.out.drew.box).mono ?_; rintro e w3 ⟨rfl, x3, rs3, hB3, hS3, hE3, hT3⟩; have hk2 := hk1.drew.turn hT3 hB3.cn))
    rename_i hHeld; clear hHeld
    go_wp2
    refine leaves_cons (f := 91) (args := #[.pointer (some ⟨sb, 0, none⟩)]) (by simp) (by simp [go_sem]) ?_
    refine (unlock_c hB3 .returning).mono ?_
    rintro e u' w4 ⟨rfl, rfl, hB4, hT4⟩
    exact ⟨_, results_tmp rfl _ _ _, rfl, x3, rs3, hB4, hS3, hE3, (HL2.out.drew.turn.trans hT3).trans hT4⟩
end Go.Proofs.YtdpnpcjbjjjceaaGreatDoor.S
