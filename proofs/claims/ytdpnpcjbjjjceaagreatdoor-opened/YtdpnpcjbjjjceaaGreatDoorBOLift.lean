import Derived.ProofKit
import Derived.SizedLaws
import Derived.Deep.Slices
import Derived.Test.YtdpnpcjbjjjceaaGreatDoorBL0
import Derived.Test.YtdpnpcjbjjjceaaGreatDoorBOOpen
set_option linter.unusedSimpArgs false
set_option linter.unusedVariables false
namespace Go.Proofs.YtdpnpcjbjjjceaaGreatDoor.O
set_option maxRecDepth 20000
open Go.ChangeShapes Go.WideShapes Go.ChangeAt Go.RowKit

theorem cellsTen : Tryz.prog.cellsOf 32 = 3 := by kernel_rfl
theorem bytesTen : Tryz.prog.bytesOf 32 = 40 := by kernel_rfl

def Ten.data {H : Type} (t : Ten) : DataW H := .agg [.lit (.string t.n.data.toList), .lit (.string t.k.data.toList), .lit (.int .i64 t.q)]

theorem weightsAll_mem {H : Type} {P : Program} {e : TypeId} : ∀ {l : List (DataW H)} {d : DataW H}, d ∈ l → ∀ n ∈ d.weights P e, n ∈ DataW.weightsAll P e l
  | [], _, h, _, _ => by cases h
  | x :: r, d, h, n, hn => by
    unfold DataW.weightsAll
    rcases List.mem_cons.1 h with rfl | h
    · exact List.mem_append_left _ hn
    · exact List.mem_append_right _ (weightsAll_mem h n hn)

/-- one tenant, from its three cells -/
theorem open_ten {H : Type} {enc : TypeId × Value → H} {W : World} {spare : Nat → Bool} {n : Nat} {a : Addr} {i : Nat} {cs : List Value} {x : DataW H × List MemPlace}
    (h1 : W.cells? 0 (a.add (i * 3)) 3 = some cs) (h2 : DataW.trod enc Tryz.prog W 0 spare true n 32 cs = some x) :
    ∃ t : Ten, x.1 = t.data ∧ W.cell? (a.add (i * 3)) = some (.string t.n) ∧ W.cell? (a.add (i * 3 + 1)) = some (.string t.k) ∧ W.cell? (a.add (i * 3 + 2)) = some (.int .i64 t.q) := by
  obtain ⟨_, hlen, hcell⟩ := World.cells?_some h1
  obtain ⟨xs, k, hk, hxy, _, hxl, hf⟩ := DataW.trod_struct Tryz.underlying32 h2
  have m : ∀ (xs : List (DataW H × List MemPlace)) (cs : List Value), xs.length = 3 → cs.length = 3 → ∃ y0 y1 y2 v0 v1 v2, xs = [y0, y1, y2] ∧ cs = [v0, v1, v2] := by
    intro xs cs h h'
    match xs, h, cs, h' with
    | [y0, y1, y2], _, [v0, v1, v2], _ => exact ⟨y0, y1, y2, v0, v1, v2, rfl, rfl⟩
  obtain ⟨y0, y1, y2, v0, v1, v2, rfl, rfl⟩ := m xs cs hxl hlen
  have g0 := hf 0 _ rfl
  have g1 := hf 1 _ rfl
  have g2 := hf 2 _ rfl
  have q9 : Tryz.prog.cellsOf 9 = 1 := by kernel_rfl
  have q3 : Tryz.prog.cellsOf 3 = 1 := by kernel_rfl
  simp [q9, q3] at g0 g1 g2
  obtain ⟨s0, e0, rfl, _⟩ := DataW.trod_string Tryz.underlying9 g0
  obtain ⟨s1, e1, rfl, _⟩ := DataW.trod_string Tryz.underlying9 g1
  obtain ⟨q, e2, rfl, _⟩ := DataW.trod_int Tryz.underlying3 g2
  simp at e0 e1 e2
  subst e0 e1 e2
  have c0 := hcell 0 (by omega)
  have c1 := hcell 1 (by omega)
  have c2 := hcell 2 (by omega)
  rw [Deep.add_add] at c0 c1 c2
  refine ⟨⟨s0, s1, q⟩, ?_, by simpa using c0, by simpa using c1, by simpa using c2⟩
  rw [hxy]
  rfl

theorem open_tens {H : Type} {enc : TypeId × Value → H} {W : World} {fuel : Nat} {cs : List Value} {x : DataW H × List MemPlace}
    (h : DataW.trod enc Tryz.prog W 0 (fun _ => true) true fuel 22 cs = some x) :
    cs = [.slice none 0 0] ∨ ∃ (b off len cap : Nat) (sp : Option Nat) (ts : List Ten) (spare : List (DataW H)), cs = [.slice (some ⟨b, off, sp⟩) len cap] ∧ ts.length = len ∧ TensAt W b off ts ∧ (len = 0 ∨ sp = none) ∧ x.1 = .slice (ts.map Ten.data) spare := by
  rcases Deep.open_slice Tryz.underlying22 h with ⟨h0, _⟩ | ⟨a, len, cap, m, n, D, Pl, rfl, _, hl, hm, hmm, rfl, hx⟩
  · exact Or.inl h0
  right
  rw [cellsTen] at hx
  simp only [if_true] at hmm
  subst hmm
  have each : ∀ i, i < len → ∃ t : Ten, D i = t.data ∧ W.cell? (a.add (i * 3)) = some (.string t.n) ∧ W.cell? (a.add (i * 3 + 1)) = some (.string t.k) ∧ W.cell? (a.add (i * 3 + 2)) = some (.int .i64 t.q) := by
    intro i hi
    obtain ⟨cs', h1, h2⟩ := hx i (by omega)
    exact open_ten h1 h2
  haveI : Inhabited Ten := ⟨zeroT⟩
  obtain ⟨q, hq⟩ := Deep.choose_lt each
  obtain ⟨b, off, sp⟩ := a
  have hsp : len = 0 ∨ sp = none := by
    by_cases h0 : len = 0
    · exact Or.inl h0
    · have := World.cell?_spot (hq 0 (by omega)).2.1
      exact Or.inr (by simpa [Addr.add] using this)
  refine ⟨b, off, len, m, sp, (List.range len).map q, (List.range (m - len)).map (fun j => D (len + j)), rfl, by simp, ?_, hsp, ?_⟩
  · intro j v hj
    have hjl : j < len * 3 := by
      have := (List.getElem?_eq_some_iff.1 hj).1
      rw [flatT_length] at this; simpa using this
    obtain rfl : sp = none := hsp.resolve_left (by omega)
    have hi : ((List.range len).map q)[j / 3]? = some (q (j / 3)) := by
      rw [List.getElem?_map, List.getElem?_range (by omega)]; rfl
    obtain ⟨z0, z1, z2⟩ := flatT_get _ _ _ hi
    obtain ⟨_, c0, c1, c2⟩ := hq (j / 3) (by omega)
    rw [tens_add] at c0 c1 c2
    have hr : j % 3 = 0 ∨ j % 3 = 1 ∨ j % 3 = 2 := by omega
    rcases hr with hr | hr | hr
    · have e : j / 3 * 3 = j := by omega
      rw [e] at z0 c0
      rw [z0] at hj; cases hj; exact c0
    · have e : j / 3 * 3 + 1 = j := by omega
      rw [e] at z1 c1
      rw [z1] at hj; cases hj; exact c1
    · have e : j / 3 * 3 + 2 = j := by omega
      rw [e] at z2 c2
      rw [z2] at hj; cases hj; exact c2
  · show DataW.slice _ _ = _
    congr 1
    rw [List.map_map]
    exact List.map_congr_left fun i hi => (hq i (List.mem_range.1 hi)).1

/-- the reach bounds each text of a tenant -/
theorem sized_tens {H : Type} {tys : List TypeId} {ds : List (DataW H)} {ts : List Ten} {spare : List (DataW H)} (h : (DataW.weightsEach Tryz.prog (22 :: tys) (.slice (ts.map Ten.data) spare :: ds)).all (· ≤ reachBytes) = true) :
    ts.length * 40 ≤ 140737488351232 ∧ ∀ x ∈ ts, x.n.size ≤ 281474976710656 ∧ x.k.size ≤ 281474976710656 := by
  have hall := List.all_eq_true.1 h
  constructor
  · have := sized_slice h (j := 0) (t := 22) (e := 32) rfl rfl Tryz.underlying22
    rw [bytesTen] at this
    simp only [List.length_map, reachBytes] at this
    omega
  · intro x hx
    have key : ∀ m ∈ (x.data (H := H)).weights Tryz.prog 32, m ≤ 140737488351232 := by
      intro m hm
      have h1 := weightsAll_mem (List.mem_map.2 ⟨x, hx, rfl⟩ : x.data ∈ ts.map (Ten.data (H := H))) m hm
      have h2 : m ∈ DataW.weightsEach Tryz.prog (22 :: tys) (.slice (ts.map Ten.data) spare :: ds) := by
        unfold DataW.weightsEach
        apply List.mem_append_left
        unfold DataW.weights
        rw [Tryz.underlying22]
        exact List.mem_cons_of_mem _ (List.mem_append_left _ h1)
      exact of_decide_eq_true (hall m h2)
    have e : (x.data (H := H)).weights Tryz.prog 32 = [x.n.data.toList.length, x.k.data.toList.length] := by
      unfold Ten.data DataW.weights
      rw [Tryz.underlying32]
      rfl
    rw [e] at key
    have k0 := key _ (List.mem_cons_self ..)
    have k1 := key _ (List.mem_cons_of_mem _ (List.mem_cons_self ..))
    have s0 : x.n.size = x.n.data.toList.length := by rw [Array.length_toList]; rfl
    have s1 : x.k.size = x.k.data.toList.length := by rw [Array.length_toList]; rfl
    omega

set_option maxRecDepth 100000 in
theorem opened_contract (H : Type) (enc : TypeId × Value → H) (W : World) (base : Nat) (args : Array Value) (ds gs : List (DataW H)) (before : List MemPlace)
    (hval0 : ∀ (j : Nat) t v, Tryz.f3.params[j]? = some t → args[j]? = some v → Value.okWide Tryz.prog W .any base t v)
    (hW : DataW.Whole enc Tryz.prog Tryz.f3.params.toList Rows.openedSpec.vars false W args.toList ds gs before)
    (hsz0 : (DataW.weightsEach Tryz.prog (Tryz.f3.params.toList ++ Rows.openedSpec.plain.varTypes Tryz.prog) (ds ++ gs)).all (· ≤ reachBytes) = true) :
    Calls Tryz.prog 3 args W fun e W' => ∃ v, e = .returned v ∧ Rows.openedSpec.post enc Tryz.prog Tryz.f3 false true false false W args v W' := by
  have hsz : (DataW.weightsEach Tryz.prog (Tryz.f3.params.toList ++ Rows.openedSpec.plain.varTypes Tryz.prog) (ds ++ gs)).all (· ≤ reachBytes) = true := hsz0
  clear hsz0
  have hval : ∀ (j : Nat) t v, Tryz.f3.params[j]? = some t → args[j]? = some v → Value.okWide Tryz.prog W .any base t v := hval0
  have hW' := hW
  obtain ⟨p, q, hA0, hV, rfl, _, _⟩ := hW
  have hA : DataW.TrodAll enc Tryz.prog W 0 (fun _ => true) true Tryz.f3.params.toList args.toList ds p := hA0
  rw [Tryz.params3] at hA hval hsz
  obtain ⟨v0, v1, d0, d1, p0, p1, rfl, rfl, rfl, h0, h1⟩ := trodAll_two hA
  obtain ⟨rfl, rfl⟩ := trodVars_none hV
  obtain ⟨conns, rfl, rfl, rfl, wc⟩ := open_int Tryz.underlying3 (hval 1 3 v1 rfl rfl) h1
  obtain ⟨a0, len, cap, rfl⟩ := okWide_slice Tryz.underlying22 (hval 0 22 v0 rfl rfl)
  have h0k := h0
  obtain ⟨fuel, hf⟩ := h0
  clear hA0 hval0
  simp only [List.append_nil] at hW'
  have hlt : ∀ x ∈ p0, x.block < W.heap.size := fun x hx => by simpa using hW'.lt x hx
  have hargs : ∀ (W' : World), Below W.heap.size W W' → DataW.Trod enc Tryz.prog W' 0 (fun b => decide (b < W.heap.size)) true 22 (.slice a0 len cap) d0 p0 :=
    fun W' hn => Below.trod laidOut (by kernel_rfl) (of_decide_eq_true (by kernel_rfl)) h0k hn hlt
  have fin : ∀ e W', (e = Ending.returned (.bool true) ∧ Below W.heap.size W W') →
      ∃ v, e = Ending.returned v ∧ Rows.openedSpec.post enc Tryz.checked.prog Tryz.f3 false true false false W #[.slice a0 len cap, .int .i64 conns] v W' := by
    intro e W' ⟨he, hnx⟩
    subst he
    refine ⟨_, rfl, _, _, _, [], p0, [], hW', ?_, ?_, rfl, hnx.frame _, fun h => by cases h⟩
    · exact trodAll_mk1 (shut_bool Tryz.underlying4 true)
    · have hm := trodAll_mk2 (hargs _ hnx) (shut_int Tryz.underlying3 wc)
      rw [List.append_nil] at hm
      exact hm
  rcases open_tens hf with hcs | ⟨b, off, len', cap', sp, ts, spare, hcs, hl, hT, hsp, hx⟩
  · simp [Value.cells] at hcs
    obtain ⟨rfl, rfl, rfl⟩ := hcs
    exact (opened_quiet W _ conns (fun w' => w' = W) (open_nil W conns)).mono (fun e W' ⟨he, hw⟩ => fin e W' ⟨he, by rw [hw]; exact Below.refl _ _⟩)
  · simp [Value.cells] at hcs
    obtain ⟨rfl, rfl, rfl⟩ := hcs
    have hx' : d0 = .slice (ts.map Ten.data) spare := hx
    rw [hx'] at hsz
    obtain ⟨hn, hs⟩ := sized_tens hsz
    exact (opened_c W b off len cap sp conns ts hl hT hsp (by omega) hs).mono fin
theorem opened_laid (os : Os) : laidMet Tryz.prog Rows.openedRow.laid ((layFirst (World.doorLaid Tryz.prog 72 os)).forCall (fun _ _ => 0) ⟨#[], #[.slice none 0 0, .int .i64 0], []⟩).memory :=
  laidMet_of_run' 8 (by kernel_rfl) (by kernel_rfl)
theorem opened_reads (os : Os) {H : Type} (enc : TypeId × Value → H) : ∃ places, DataW.whole enc Tryz.prog ((layFirst (World.doorLaid Tryz.prog 72 os)).forCall (fun _ _ => 0) ⟨#[], #[.slice none 0 0, .int .i64 0], []⟩).memory Tryz.f3.params.toList Rows.openedSpec.vars false #[Value.slice none 0 0, .int .i64 0].toList 8 = some ([.nil, .lit (.int .i64 0)], [], places) :=
  ⟨[], by kernel_rfl⟩
set_option maxRecDepth 100000 in
theorem opened_lifted (os : Os) (started : os.Started) (H : Type) (enc : TypeId × Value → H) (F : Stop.Interp) :
    ReturnsInHanded {} Tryz.checked os 3 .any ((OpenSpec.ofChange Rows.openedSpec).preRow enc Tryz.prog Tryz.f3 Rows.openedRow.domain false Rows.openedRow.laid) (((OpenSpec.ofChange Rows.openedSpec).at F).post enc Tryz.prog Tryz.f3 false true false false) := by
  obtain ⟨places, hx⟩ := opened_reads os enc
  refine returnsInHanded_of_row (C := Tryz.checked) (s := OpenSpec.ofChange Rows.openedSpec) own started (by kernel_rfl) Tryz.func3
    (witness_row_atRef (enc := enc) (C := Tryz.checked) false (layFirst (World.doorLaid Tryz.prog 72 os)) #[.slice none 0 0, .int .i64 0] rfl (by kernel_rfl) (by kernel_rfl) (by kernel_rfl)
      (OpenSpec.preRow_of_cond 8 hx (by kernel_rfl) (fun k hk => by cases hk) (by kernel_rfl) (opened_laid os))) ?_
  intro W base args ds gs before hval hW _ _ hsz _ _ _
  exact opened_contract H enc W base args ds gs before hval hW hsz
theorem opened_said : Rows.OpenedSaid :=
  OpenClaim.holds_of_cond 3 Tryz.f3 rfl rfl rfl rfl rfl rfl rfl ⟨rfl, rfl, rfl, rfl, rfl⟩ rfl rfl rfl rfl rfl (by kernel_rfl) Tryz.func3 (by kernel_rfl)
    (of_decide_eq_true (by kernel_rfl)) (by unfold Func.isWrapper; first | (rw [if_pos (by decide +kernel)]; kernel_rfl) | (rw [if_neg (by decide +kernel)]; exact ⟨rfl, rfl⟩))
    (fun os started H enc _ F => by rw [OpenClaim.pre_eq_preRow]; exact opened_lifted os started H enc F)
theorem opened_plain (f : FuncId) (fn : Func) (hf : Tryz.pinned.checked.prog.funcNamed Rows.openedRow.func = some f) (hfn : Tryz.pinned.checked.prog.funcs[f]? = some fn) :
    true = Tryz.pinned.checked.prog.looks [] ∧ ∀ (j : Nat) t, fn.params[j]? = some t → Tryz.pinned.checked.prog.wantsStandIn t = false := by
  obtain rfl : f = 3 := Option.some.inj ((show Tryz.prog.funcNamed Rows.openedRow.func = some 3 by kernel_rfl).symm.trans hf) |>.symm
  obtain rfl : fn = Tryz.f3 := (Option.some.inj (Tryz.func3.symm.trans hfn)).symm
  refine ⟨by kernel_rfl, fun j t ht => ?_⟩
  rw [Tryz.params3] at ht
  have hm := Array.mem_of_getElem? ht
  simp only [List.mem_toArray, List.mem_cons, List.not_mem_nil, or_false] at hm
  rcases hm with rfl | rfl
  · exact (show Tryz.prog.wantsStandIn 22 = false by kernel_rfl)
  · exact (show Tryz.prog.wantsStandIn 3 = false by kernel_rfl)
/-- THE CARD -/
theorem opened_card : Rows.OpenedCardSaid :=
  holds_tied_goes .later _ _ _ _ opened_said (by kernel_rfl) opened_row_tie rfl ⟨rfl, rfl⟩ (by kernel_rfl) rfl opened_plain (by kernel_rfl)
end Go.Proofs.YtdpnpcjbjjjceaaGreatDoor.O
namespace Go.Proofs.YtdpnpcjbjjjceaaGreatDoor
theorem opened_card : Rows.OpenedCardSaid := O.opened_card
#print axioms opened_card
end Go.Proofs.YtdpnpcjbjjjceaaGreatDoor
