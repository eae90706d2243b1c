/-
  DERIVED. GIVEN WITH THE SEED: THE CARDS: each row of YtdpnpcjbjjjceaaGreatDoorRows.lean that lists a variable, with what it lists TIED to the program's text (the seventh form; the later family's looks); each row that meets fmt, with fmt's text TOLD by the authors' own Lean function (tested against real Go, not proved from fmt's source: count such statements apart). THE CARD IS WHAT COUNTS. Prove the row's statement (the work); the ties are given (YtdpnpcjbjjjceaaGreatDoorTie.lean); close each card by the builder's one call (the guide's Derived/Test/ToyasCard.lean, 'card_holds'). Laid BY PROGRAM, IN A SANDBOX (cutbox-door.mjs). By AI agents, Wed Nov 11 2026. No macro, syntax, notation, axiom, sorry.
-/
import Derived.Test.YtdpnpcjbjjjceaaGreatDoorRows
import GoSem.ClaimSeven
namespace Go.Proofs.YtdpnpcjbjjjceaaGreatDoor
namespace Rows

/-- THE TIED CARD OF 'cloakroomlaw.Opened'. -/
def openedCard : Claim7 := { stood := { row := openedRow, standIns := [], harness := (true, "3ce8b8d7b1fb823516166c8ecd79e9fc06036931ab78ef09a38df11d7f54b660"), looks := true }, kinds := [], alts := [], goes := true, laidByText := true, laidKinds := [.data, .data, .data, .data, .sentinel, .sentinel, .pinned], laidTests := true, laidLooks := .later }
def OpenedCardSaid : Prop := Claim7.holds Tryz.pinned (.plain (OpenSpec.ofChange openedSpec)) openedCard

/-- THE TIED CARD OF 'cloakroomlaw.Served'. -/
def servedCard : Claim7 := { stood := { row := servedRow, standIns := [], harness := (true, "3ce8b8d7b1fb823516166c8ecd79e9fc06036931ab78ef09a38df11d7f54b660"), looks := true }, kinds := [], alts := [], goes := true, laidByText := true, laidKinds := [.data, .data, .data, .data, .sentinel, .sentinel, .pinned], laidTests := true, laidLooks := .later }
def ServedCardSaid : Prop := Claim7.holds Tryz.pinned (.plain (OpenSpec.ofChange servedSpec)) servedCard

/-- THE TIED CARD OF 'cloakroomlaw.All'. -/
def allCard : Claim7 := { stood := { row := allRow, standIns := [], harness := (true, "3ce8b8d7b1fb823516166c8ecd79e9fc06036931ab78ef09a38df11d7f54b660"), looks := true }, kinds := [], alts := [], goes := true, laidByText := true, laidKinds := [.data, .data, .data, .data, .sentinel, .sentinel, .pinned], laidTests := true, laidLooks := .later }
def AllCardSaid : Prop := Claim7.holds Tryz.pinned (.plain (OpenSpec.ofChange allSpec)) allCard

/-- THE TIED CARD OF 'cloakroomkeep.Known'. -/
def knownCard : Claim7 := { stood := { row := knownRow, standIns := [], harness := (true, "3ce8b8d7b1fb823516166c8ecd79e9fc06036931ab78ef09a38df11d7f54b660"), looks := true }, kinds := [], alts := [], goes := true, laidByText := true, laidKinds := [.data, .data, .data, .data, .sentinel, .sentinel, .pinned], laidTests := true, laidLooks := .later }
def KnownCardSaid : Prop := Claim7.holds Tryz.pinned (.plain (OpenSpec.ofChange knownSpec)) knownCard

/-- THE TIED CARD OF 'cloakroomkeep.Isolated'. -/
def isolatedCard : Claim7 := { stood := { row := isolatedRow, standIns := [], harness := (true, "3ce8b8d7b1fb823516166c8ecd79e9fc06036931ab78ef09a38df11d7f54b660"), looks := true }, kinds := [], alts := [], goes := true, laidByText := true, laidKinds := [.data, .data, .data, .data, .sentinel, .sentinel, .pinned], laidTests := true, laidLooks := .later }
def IsolatedCardSaid : Prop := Claim7.holds Tryz.pinned (.plain (OpenSpec.ofChange isolatedSpec)) isolatedCard

/-- THE TIED CARD OF 'cloakroomkeep.Chunked'. -/
def chunkedCard : Claim7 := { stood := { row := chunkedRow, standIns := [], harness := (true, "3ce8b8d7b1fb823516166c8ecd79e9fc06036931ab78ef09a38df11d7f54b660"), looks := true }, kinds := [], alts := [], goes := true, laidByText := true, laidKinds := [.data, .data, .data, .data, .sentinel, .sentinel, .pinned], laidTests := true, laidLooks := .later }
def ChunkedCardSaid : Prop := Claim7.holds Tryz.pinned (.plain (OpenSpec.ofChange chunkedSpec)) chunkedCard

/-- THE TIED CARD OF 'cloakroomkeep.Split'. -/
def splitCard : Claim7 := { stood := { row := splitRow, standIns := [], harness := (true, "3ce8b8d7b1fb823516166c8ecd79e9fc06036931ab78ef09a38df11d7f54b660"), looks := true }, kinds := [], alts := [], goes := true, laidByText := true, laidKinds := [.data, .data, .data, .data, .sentinel, .sentinel, .pinned], laidTests := true, laidLooks := .later }
def SplitCardSaid : Prop := Claim7.holds Tryz.pinned (.plain (OpenSpec.ofChange splitSpec)) splitCard

/-- THE TIED CARD OF 'cloakroomkeep.Room'. -/
def roomCard : Claim7 := { stood := { row := roomRow, standIns := [], harness := (true, "3ce8b8d7b1fb823516166c8ecd79e9fc06036931ab78ef09a38df11d7f54b660"), looks := true }, kinds := [], alts := [], goes := true, laidByText := true, laidKinds := [.data, .data, .data, .data, .sentinel, .sentinel, .pinned], laidTests := true, laidLooks := .later }
def RoomCardSaid : Prop := Claim7.holds Tryz.pinned (.plain (OpenSpec.ofChange roomSpec)) roomCard

/-- THE TIED CARD OF 'cloakroomkeep.Recent'. -/
def recentCard : Claim7 := { stood := { row := recentRow, standIns := [], harness := (true, "3ce8b8d7b1fb823516166c8ecd79e9fc06036931ab78ef09a38df11d7f54b660"), looks := true }, kinds := [], alts := [], goes := true, laidByText := true, laidKinds := [.data, .data, .data, .data, .sentinel, .sentinel, .pinned], laidTests := true, laidLooks := .later }
def RecentCardSaid : Prop := Claim7.holds Tryz.pinned (.plain (OpenSpec.ofChange recentSpec)) recentCard

/-- THE TIED CARD OF 'cloakroomkeep.Ended'. -/
def endedCard : Claim7 := { stood := { row := endedRow, standIns := [], harness := (true, "3ce8b8d7b1fb823516166c8ecd79e9fc06036931ab78ef09a38df11d7f54b660"), looks := true }, kinds := [], alts := [], goes := true, laidByText := true, laidKinds := [.data, .data, .data, .data, .sentinel, .sentinel, .pinned], laidTests := true, laidLooks := .later }
def EndedCardSaid : Prop := Claim7.holds Tryz.pinned (.plain (OpenSpec.ofChange endedSpec)) endedCard

/-- THE SECOND FORM's CARD OF 'cloakroomlaw.Opened'. -/
def openedUptoCard : Claim7 := { stood := { row := openedUptoRow, standIns := [], harness := (true, "3ce8b8d7b1fb823516166c8ecd79e9fc06036931ab78ef09a38df11d7f54b660"), looks := true }, kinds := [], alts := [], goes := true, laidByText := true, laidKinds := [.data, .data, .data, .data, .sentinel, .sentinel, .pinned], laidTests := true, laidLooks := .later }
def OpenedUptoCardSaid : Prop := Claim7.holds Tryz.pinned (.plain (OpenSpec.upto openedSpec)) openedUptoCard

/-- THE SECOND FORM's CARD OF 'cloakroomlaw.Served'. -/
def servedUptoCard : Claim7 := { stood := { row := servedUptoRow, standIns := [], harness := (true, "3ce8b8d7b1fb823516166c8ecd79e9fc06036931ab78ef09a38df11d7f54b660"), looks := true }, kinds := [], alts := [], goes := true, laidByText := true, laidKinds := [.data, .data, .data, .data, .sentinel, .sentinel, .pinned], laidTests := true, laidLooks := .later }
def ServedUptoCardSaid : Prop := Claim7.holds Tryz.pinned (.plain (OpenSpec.upto servedSpec)) servedUptoCard

/-- THE SECOND FORM's CARD OF 'cloakroomlaw.All'. -/
def allUptoCard : Claim7 := { stood := { row := allUptoRow, standIns := [], harness := (true, "3ce8b8d7b1fb823516166c8ecd79e9fc06036931ab78ef09a38df11d7f54b660"), looks := true }, kinds := [], alts := [], goes := true, laidByText := true, laidKinds := [.data, .data, .data, .data, .sentinel, .sentinel, .pinned], laidTests := true, laidLooks := .later }
def AllUptoCardSaid : Prop := Claim7.holds Tryz.pinned (.plain (OpenSpec.upto allSpec)) allUptoCard

/-- THE SECOND FORM's CARD OF 'cloakroomkeep.Known'. -/
def knownUptoCard : Claim7 := { stood := { row := knownUptoRow, standIns := [], harness := (true, "3ce8b8d7b1fb823516166c8ecd79e9fc06036931ab78ef09a38df11d7f54b660"), looks := true }, kinds := [], alts := [], goes := true, laidByText := true, laidKinds := [.data, .data, .data, .data, .sentinel, .sentinel, .pinned], laidTests := true, laidLooks := .later }
def KnownUptoCardSaid : Prop := Claim7.holds Tryz.pinned (.plain (OpenSpec.upto knownSpec)) knownUptoCard

/-- THE SECOND FORM's CARD OF 'cloakroomkeep.Isolated'. -/
def isolatedUptoCard : Claim7 := { stood := { row := isolatedUptoRow, standIns := [], harness := (true, "3ce8b8d7b1fb823516166c8ecd79e9fc06036931ab78ef09a38df11d7f54b660"), looks := true }, kinds := [], alts := [], goes := true, laidByText := true, laidKinds := [.data, .data, .data, .data, .sentinel, .sentinel, .pinned], laidTests := true, laidLooks := .later }
def IsolatedUptoCardSaid : Prop := Claim7.holds Tryz.pinned (.plain (OpenSpec.upto isolatedSpec)) isolatedUptoCard

/-- THE SECOND FORM's CARD OF 'cloakroomkeep.Chunked'. -/
def chunkedUptoCard : Claim7 := { stood := { row := chunkedUptoRow, standIns := [], harness := (true, "3ce8b8d7b1fb823516166c8ecd79e9fc06036931ab78ef09a38df11d7f54b660"), looks := true }, kinds := [], alts := [], goes := true, laidByText := true, laidKinds := [.data, .data, .data, .data, .sentinel, .sentinel, .pinned], laidTests := true, laidLooks := .later }
def ChunkedUptoCardSaid : Prop := Claim7.holds Tryz.pinned (.plain (OpenSpec.upto chunkedSpec)) chunkedUptoCard

/-- THE SECOND FORM's CARD OF 'cloakroomkeep.Split'. -/
def splitUptoCard : Claim7 := { stood := { row := splitUptoRow, standIns := [], harness := (true, "3ce8b8d7b1fb823516166c8ecd79e9fc06036931ab78ef09a38df11d7f54b660"), looks := true }, kinds := [], alts := [], goes := true, laidByText := true, laidKinds := [.data, .data, .data, .data, .sentinel, .sentinel, .pinned], laidTests := true, laidLooks := .later }
def SplitUptoCardSaid : Prop := Claim7.holds Tryz.pinned (.plain (OpenSpec.upto splitSpec)) splitUptoCard

/-- THE SECOND FORM's CARD OF 'cloakroomkeep.Room'. -/
def roomUptoCard : Claim7 := { stood := { row := roomUptoRow, standIns := [], harness := (true, "3ce8b8d7b1fb823516166c8ecd79e9fc06036931ab78ef09a38df11d7f54b660"), looks := true }, kinds := [], alts := [], goes := true, laidByText := true, laidKinds := [.data, .data, .data, .data, .sentinel, .sentinel, .pinned], laidTests := true, laidLooks := .later }
def RoomUptoCardSaid : Prop := Claim7.holds Tryz.pinned (.plain (OpenSpec.upto roomSpec)) roomUptoCard

/-- THE SECOND FORM's CARD OF 'cloakroomkeep.Recent'. -/
def recentUptoCard : Claim7 := { stood := { row := recentUptoRow, standIns := [], harness := (true, "3ce8b8d7b1fb823516166c8ecd79e9fc06036931ab78ef09a38df11d7f54b660"), looks := true }, kinds := [], alts := [], goes := true, laidByText := true, laidKinds := [.data, .data, .data, .data, .sentinel, .sentinel, .pinned], laidTests := true, laidLooks := .later }
def RecentUptoCardSaid : Prop := Claim7.holds Tryz.pinned (.plain (OpenSpec.upto recentSpec)) recentUptoCard

/-- THE SECOND FORM's CARD OF 'cloakroomkeep.Ended'. -/
def endedUptoCard : Claim7 := { stood := { row := endedUptoRow, standIns := [], harness := (true, "3ce8b8d7b1fb823516166c8ecd79e9fc06036931ab78ef09a38df11d7f54b660"), looks := true }, kinds := [], alts := [], goes := true, laidByText := true, laidKinds := [.data, .data, .data, .data, .sentinel, .sentinel, .pinned], laidTests := true, laidLooks := .later }
def EndedUptoCardSaid : Prop := Claim7.holds Tryz.pinned (.plain (OpenSpec.upto endedSpec)) endedUptoCard
end Rows
end Go.Proofs.YtdpnpcjbjjjceaaGreatDoor
