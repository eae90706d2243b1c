/-
  DERIVED. GIVEN WITH THE SEED: THE CARDS: each row of YtdpnpcjbjjjceaaDoorRows.lean that lists a variable, with what it lists TIED to the program's text (the seventh form; the later family's looks); each row that meets fmt, with fmt's text TOLD by the authors' own Lean function (tested against real Go, not proved from fmt's source: count such statements apart). THE CARD IS WHAT COUNTS. Prove the row's statement (the work); the ties are given (YtdpnpcjbjjjceaaDoorTie.lean); close each card by the builder's one call (the guide's Derived/Test/ToyasCard.lean, 'card_holds'). Laid BY PROGRAM, IN A SANDBOX (cutbox-door.mjs). By AI agents, Wed Nov 11 2026. No macro, syntax, notation, axiom, sorry.
-/
import Derived.Test.YtdpnpcjbjjjceaaDoorRows
import GoSem.ClaimSeven
namespace Go.Proofs.YtdpnpcjbjjjceaaDoor
namespace Rows

/-- THE TIED CARD OF 'cloakroomlaw.Lined'. -/
def linedCard : Claim7 := { stood := { row := linedRow, standIns := [], harness := (true, "2a9c42ee8b74448322a6a4786e99416b1b92ef7b7025f2f72d8a9c84a8cc6c8c"), looks := true }, kinds := [], alts := [], laidByText := true, laidKinds := [.data, .data, .data, .data, .sentinel, .sentinel, .pinned], laidTests := true, laidLooks := .later }
def LinedCardSaid : Prop := Claim7.holds Tryd.pinned (.plain (OpenSpec.ofChange linedSpec)) linedCard

/-- THE SECOND FORM's CARD OF 'cloakroomlaw.Lined'. -/
def linedUptoCard : Claim7 := { stood := { row := linedUptoRow, standIns := [], harness := (true, "2a9c42ee8b74448322a6a4786e99416b1b92ef7b7025f2f72d8a9c84a8cc6c8c"), looks := true }, kinds := [], alts := [], laidByText := true, laidKinds := [.data, .data, .data, .data, .sentinel, .sentinel, .pinned], laidTests := true, laidLooks := .later }
def LinedUptoCardSaid : Prop := Claim7.holds Tryd.pinned (.plain (OpenSpec.upto linedSpec)) linedUptoCard
end Rows
end Go.Proofs.YtdpnpcjbjjjceaaDoor
