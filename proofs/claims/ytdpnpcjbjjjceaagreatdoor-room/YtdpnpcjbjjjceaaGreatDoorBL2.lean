import Derived.ChangeSlices
import Derived.SizedLaws
import Derived.Test.YtdpnpcjbjjjceaaGreatDoorBL0
import Derived.Test.YtdpnpcjbjjjceaaGreatDoorBK0
set_option linter.unusedSimpArgs false
set_option linter.unusedVariables false
namespace Go.Proofs.YtdpnpcjbjjjceaaGreatDoor
open Go.ChangeShapes Go.WideShapes Go.ChangeAt Go.RowKit

theorem bulk_lits {H : Type} (k : IntKind) : ∀ l : List Int, Rows.uptoBulkAll (lits (H := H) k l) = l.length
  | [] => by simp [lits, Rows.uptoBulkAll]
  | x :: r => by
    have := bulk_lits (H := H) k r
    unfold lits at this ⊢
    simp only [List.map_cons, Rows.uptoBulkAll, Rows.uptoBulk, List.length_cons, this]
    omega
set_option maxRecDepth 100000 in
theorem ints_of {H : Type} {enc : TypeId × Value → H} {W : World} {base : Nat} {v : Value} {d : DataW H} {ps : List MemPlace} (hval : Value.okWide Tryz.prog W .any base 49 v) (h : DataW.Trod enc Tryz.prog W 0 (fun _ => true) true 49 v d ps) :
    ∃ l : List Int, K.IntsAt W v l ∧ l.length ≤ Rows.uptoBulk d := by
  obtain ⟨a0, len, cap, rfl⟩ := okWide_slice Tryz.underlying49 hval
  obtain ⟨fuel, hf⟩ := h
  rcases open_ints Tryz.underlying49 Tryz.underlying3 cellsInt hf with ⟨hcs, hx⟩ | ⟨a, len', cap', zs, hcs, hb, hl, hm, hz, hx, hcell, hw⟩
  · simp [Value.cells] at hcs
    obtain ⟨rfl, rfl, rfl⟩ := hcs
    exact ⟨[], ⟨none, 0, rfl, Or.inl rfl⟩, Nat.zero_le _⟩
  · simp [Value.cells] at hcs
    obtain ⟨rfl, rfl, rfl⟩ := hcs
    simp only [if_true] at hz
    have hd : d = .slice (lits .i64 (zs.take len)) (lits .i64 (zs.drop len)) := congrArg Prod.fst hx
    have hlen : (zs.take len).length = len := by rw [List.length_take]; omega
    refine ⟨zs.take len, ?_, ?_⟩
    · refine ⟨some a, cap, by rw [hlen], ?_⟩
      by_cases h0 : len = 0
      · left; rw [h0]; rfl
      · right
        obtain ⟨b, o, sp⟩ := a
        have c0 := hcell 0 (by omega)
        have hsp : sp = none := by
          have := World.cell?_spot c0
          simpa [Addr.add] using this
        subst hsp
        refine ⟨b, o, rfl, World.block_lt_of_cell? _ _ c0, fun j q hj => ?_⟩
        have hjl := (List.getElem?_eq_some_iff.1 hj).1
        rw [hlen] at hjl
        have hj2 : zs[j]? = some q := by rw [List.getElem?_take_of_lt hjl] at hj; exact hj
        have hc := hcell j (by omega)
        have hg : zs.getD j 0 = q := by simp [List.getD, hj2]
        have ea : (⟨b, o, none⟩ : Addr).add j = ⟨b, o + j, none⟩ := by by_cases h : j = 0 <;> simp [Addr.add, h]
        rw [hg, ea] at hc
        have hwf := hw q (List.mem_of_getElem? hj2)
        simp [Lit.wf, IntKind.min, IntKind.max, IntKind.bits, IntKind.signed] at hwf
        refine ⟨hc, by omega, by omega⟩
    · rw [hd]
      simp only [Rows.uptoBulk, bulk_lits]
      omega
theorem bytesInt : Tryz.prog.bytesOf 3 = 8 := by kernel_rfl
set_option maxRecDepth 100000 in
theorem ints_at {H : Type} {enc : TypeId × Value → H} {W : World} {base : Nat} {v : Value} {d : DataW H} {ps : List MemPlace} (hval : Value.okWide Tryz.prog W .any base 49 v) (h : DataW.Trod enc Tryz.prog W 0 (fun _ => true) true 49 v d ps)
    {ts : List TypeId} {ds : List (DataW H)} (hs : (DataW.weightsEach Tryz.prog ts ds).all (· ≤ reachBytes) = true) {j : Nat} (hj : ts[j]? = some 49) (hd : ds[j]? = some d) :
    ∃ l : List Int, K.IntsAt W v l ∧ l.length ≤ 17592186044416 := by
  have h' := h
  obtain ⟨l, hl, _⟩ := ints_of hval h
  refine ⟨l, hl, ?_⟩
  obtain ⟨a0, len, cap, rfl⟩ := okWide_slice Tryz.underlying49 hval
  have hlen : l.length = len := by
    obtain ⟨ca, cp, he, _⟩ := hl
    injection he with _ e2 _
    exact e2.symm
  obtain ⟨fuel, hf⟩ := h'
  rcases open_ints Tryz.underlying49 Tryz.underlying3 cellsInt hf with ⟨hcs, hx⟩ | ⟨a, len', cap', zs, hcs, hb, hl', hm, hz, hx, hcell, hw⟩
  · simp [Value.cells] at hcs
    omega
  · simp [Value.cells] at hcs
    obtain ⟨rfl, rfl, rfl⟩ := hcs
    simp only [if_true] at hz
    have hd' : d = .slice (lits .i64 (zs.take len)) (lits .i64 (zs.drop len)) := congrArg Prod.fst hx
    have hsl := sized_slice hs hj (hd.trans (by rw [hd'])) Tryz.underlying49
    rw [bytesInt] at hsl
    simp only [lits, List.length_map, List.length_take, List.length_drop, reachBytes] at hsl
    omega
end Go.Proofs.YtdpnpcjbjjjceaaGreatDoor
