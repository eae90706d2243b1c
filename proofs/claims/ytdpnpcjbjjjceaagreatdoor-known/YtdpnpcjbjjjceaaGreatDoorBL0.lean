import Derived.WalkKit
import Derived.ProofKit
import Derived.OpenShut
import Derived.Deep.DeepHandedRow
import Derived.Deep.DeepWitnessRowRef
import Derived.Stop.LaidErr
import Derived.LaidMore
import Derived.Lib.LaidTab
import Derived.Test.YtdpnpcjbjjjceaaGreatDoorCards
import Derived.Test.YtdpnpcjbjjjceaaGreatDoorTie
import Derived.Test.YtdpnpcjbjjjceaaGreatDoorBG
set_option linter.unusedSimpArgs false
set_option linter.unusedVariables false
namespace Go.Proofs.YtdpnpcjbjjjceaaGreatDoor
open Go.ChangeShapes Go.WideShapes Go.ChangeAt Go.RowKit

theorem own : ownKnob Tryz.prog.godebug = none := by kernel_rfl
theorem laidOut : laidOutB Tryz.prog = true := by kernel_rfl
theorem gRange : Tryz.prog.globalNamed "strconv.ErrRange" = some 2 := by kernel_rfl
theorem gSyntax : Tryz.prog.globalNamed "strconv.ErrSyntax" = some 1 := by kernel_rfl
theorem gRangeType : (Tryz.prog.globals[2]?).map (·.type) = some 148 := by kernel_rfl
theorem gSyntaxType : (Tryz.prog.globals[1]?).map (·.type) = some 148 := by kernel_rfl
theorem gPow : Tryz.prog.globalNamed "internal/strconv.uint64pow10" = some 5 := by kernel_rfl
theorem gBru : Tryz.prog.globalNamed "math/bits.deBruijn64tab" = some 7 := by kernel_rfl
theorem gPowType : (Tryz.prog.globals[5]?).map (·.type) = some 269 := by kernel_rfl
theorem cellsU64 : Tryz.prog.cellsOf 132 = 1 := by kernel_rfl
theorem cellsPow : Tryz.prog.cellsOf 269 = 20 := by kernel_rfl
theorem cellsErrStr : Tryz.prog.cellsOf 253 = 1 := by kernel_rfl
theorem cellsStr : Tryz.prog.cellsOf 9 = 1 := by kernel_rfl
theorem cellsInt : Tryz.prog.cellsOf 3 = 1 := by kernel_rfl
theorem star : "*" ++ "errors.errorString" = "*errors.errorString" := by decide
theorem rowErrStr (u : TypeId) (h : Tryz.prog.typeName? 3 u = some "*errors.errorString") : u = 251 :=
  typeName_ptr_named (nm := "errors.errorString") (by rw [star]; kernel_rfl) (by kernel_rfl) (by decide) u (by rw [star]; exact h)

theorem glob_of {W : World} (h : laidMet Tryz.prog Rows.knownRow.laid W) : S.Glob W := by
  have h4 := h.tail.tail.tail.tail
  obtain ⟨a, s, hv, _⟩ := laid_sentinel h4 gRange gRangeType Tryz.underlying148 rowErrStr Tryz.underlying251 Tryz.underlying253 rfl rfl Tryz.underlying9 cellsErrStr cellsStr
  obtain ⟨a', s', hv', _⟩ := laid_sentinel h4.tail gSyntax gSyntaxType Tryz.underlying148 rowErrStr Tryz.underlying251 Tryz.underlying253 rfl rfl Tryz.underlying9 cellsErrStr cellsStr
  refine ⟨⟨⟨_, World.var?_cell gSyntax hv' 0, Or.inr ⟨_, _, rfl⟩⟩, ⟨_, World.var?_cell gRange hv 0, Or.inr ⟨_, _, rfl⟩⟩⟩, ?_, ?_⟩
  · exact Lib.tabIs_of_head gPow gPowType Tryz.underlying269 Tryz.underlying132 cellsU64 cellsPow h.tail.tail
  · obtain ⟨ps, ⟨g', t', cs, fuel, p, q, hg', ht', hvar, hd, _, _⟩, _⟩ := h.tail
    unfold World.var? at hvar
    rw [gBru] at hvar
    simp only [Option.bind_some] at hvar
    rcases Nat.lt_or_ge 7 W.heap.size with hl | hl
    · exact hl
    · rw [Array.getElem?_eq_none hl] at hvar
      cases hvar
/-- A WORLD FOR THE WITNESS: what the door's run leaves, and the one table that it does not lay (block 3). -/
def firstCells : Obj → Obj
  | .cells _ t frozen => .cells (Go.Pinned.utf8FirstZ.map fun (n : Nat) => Value.int .u8 (n : Int)).toArray t frozen
  | o => o
def layFirst (w : World) : World := { w with heap := w.heap.modify 3 firstCells }
end Go.Proofs.YtdpnpcjbjjjceaaGreatDoor
namespace Go.Proofs.YtdpnpcjbjjjceaaGreatDoor
open Go

/-- A tied card of a call that can start goroutines -/
theorem holds_tied_goes (Lk : Looks) {p : Pinned} {s : OpenSpec} {c : OpenClaim} (kinds : List LaidKind) (tests : Bool) (har : Bool × String) (lk : Bool)
    (hc : c.holds p s) (hw : c.wfByText s = true) (htie : c.laidByTextAt Lk p kinds tests)
    (hst : c.start = .entering) (hnb : c.noBlocks = false ∧ c.again = false) (hm : p.checked.prog.mainIs = some (har.1, har.2.toList)) (hn : (!har.1 && har.2.isEmpty && !lk) = false)
    (hl : ∀ f fn, p.checked.prog.funcNamed c.func = some f → p.checked.prog.funcs[f]? = some fn → lk = p.checked.prog.looks [] ∧ ∀ (j : Nat) t, fn.params[j]? = some t → p.checked.prog.wantsStandIn t = false)
    (hg : true = c.goesBy p.checked.prog) :
    Claim7.holds p (.plain s) { stood := { row := c, standIns := [], harness := har, looks := lk }, kinds := [], alts := [], goes := true, laidByText := true, laidKinds := kinds, laidTests := tests, laidLooks := Lk } := by
  have h6 : Claim7.isSixth { stood := { row := c, standIns := [], harness := har, looks := lk }, kinds := [] } = false := by simpa [Claim7.isSixth] using hn
  obtain ⟨_, rest⟩ := Claim7.new_of_sixth hc har lk hst hnb hm h6 hl
  refine ⟨?_, (fun D hD => by cases hD), htie, (fun h => by cases h), hg⟩
  exact ⟨hw, rest⟩
end Go.Proofs.YtdpnpcjbjjjceaaGreatDoor
