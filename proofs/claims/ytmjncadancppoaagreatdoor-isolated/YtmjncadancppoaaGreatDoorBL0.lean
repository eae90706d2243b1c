import Derived.WalkKit
import Derived.ProofKit
import Derived.OpenShut
import Derived.Deep.DeepHandedRow
import Derived.Deep.DeepWitnessRowRef
import Derived.Stop.LaidErr
import Derived.LaidMore
import Derived.Lib.LaidTab
import Derived.Test.YtmjncadancppoaaGreatDoorCards
import Derived.Test.YtmjncadancppoaaGreatDoorTie
import Derived.Test.YtmjncadancppoaaGreatDoorBG
set_option linter.unusedSimpArgs false
set_option linter.unusedVariables false
namespace Go.Proofs.YtmjncadancppoaaGreatDoor
open Go.ChangeShapes Go.WideShapes Go.ChangeAt Go.RowKit

theorem own : ownKnob Tryz.prog.godebug = none := by kernel_rfl
theorem laidOut : laidOutB Tryz.prog = true := by kernel_rfl
theorem gRange : Tryz.prog.globalNamed "strconv.ErrRange" = some 2 := by kernel_rfl
theorem gSyntax : Tryz.prog.globalNamed "strconv.ErrSyntax" = some 1 := by kernel_rfl
theorem gRangeType : (Tryz.prog.globals[2]?).map (·.type) = some 132 := by kernel_rfl
theorem gSyntaxType : (Tryz.prog.globals[1]?).map (·.type) = some 132 := by kernel_rfl
theorem gPow : Tryz.prog.globalNamed "internal/strconv.uint64pow10" = some 5 := by kernel_rfl
theorem gBru : Tryz.prog.globalNamed "math/bits.deBruijn64tab" = some 7 := by kernel_rfl
theorem gPowType : (Tryz.prog.globals[5]?).map (·.type) = some 241 := by kernel_rfl
theorem cellsU64 : Tryz.prog.cellsOf 130 = 1 := by kernel_rfl
theorem cellsPow : Tryz.prog.cellsOf 241 = 20 := by kernel_rfl
theorem cellsErrStr : Tryz.prog.cellsOf 214 = 1 := by kernel_rfl
theorem cellsStr : Tryz.prog.cellsOf 9 = 1 := by kernel_rfl
theorem cellsInt : Tryz.prog.cellsOf 3 = 1 := by kernel_rfl
theorem star : "*" ++ "errors.errorString" = "*errors.errorString" := by decide
theorem rowErrStr (u : TypeId) (h : Tryz.prog.typeName? 3 u = some "*errors.errorString") : u = 212 :=
  typeName_ptr_named (nm := "errors.errorString") (by rw [star]; kernel_rfl) (by kernel_rfl) (by decide) u (by rw [star]; exact h)

theorem glob_of {W : World} (h : laidMet Tryz.prog Rows.knownRow.laid W) : S.Glob W := by
  have h4 := h.tail.tail.tail.tail
  obtain ⟨a, s, hv, _⟩ := laid_sentinel h4 gRange gRangeType Tryz.underlying132 rowErrStr Tryz.underlying212 Tryz.underlying214 rfl rfl Tryz.underlying9 cellsErrStr cellsStr
  obtain ⟨a', s', hv', _⟩ := laid_sentinel h4.tail gSyntax gSyntaxType Tryz.underlying132 rowErrStr Tryz.underlying212 Tryz.underlying214 rfl rfl Tryz.underlying9 cellsErrStr cellsStr
  refine ⟨⟨⟨_, World.var?_cell gSyntax hv' 0, Or.inr ⟨_, _, rfl⟩⟩, ⟨_, World.var?_cell gRange hv 0, Or.inr ⟨_, _, rfl⟩⟩⟩, ?_, ?_⟩
  · exact Lib.tabIs_of_head gPow gPowType Tryz.underlying241 Tryz.underlying130 cellsU64 cellsPow h.tail.tail
  · obtain ⟨ps, ⟨g', t', cs, fuel, p, q, hg', ht', hvar, hd, _, _⟩, _⟩ := h.tail
    unfold World.var? at hvar
    rw [gBru] at hvar
    simp only [Option.bind_some] at hvar
    rcases Nat.lt_or_ge 7 W.heap.size with hl | hl
    · exact hl
    · rw [Array.getElem?_eq_none hl] at hvar
      cases hvar
/-- A WORLD FOR THE WITNESS: what the door's run leaves, and the one table that it does not lay (block 3). -/
def firstCells : Obj → Obj
  | .cells _ t frozen => .cells (Go.Pinned.utf8FirstZ.map fun (n : Nat) => Value.int .u8 (n : Int)).toArray t frozen
  | o => o
def layFirst (w : World) : World := { w with heap := w.heap.modify 3 firstCells }
end Go.Proofs.YtmjncadancppoaaGreatDoor
