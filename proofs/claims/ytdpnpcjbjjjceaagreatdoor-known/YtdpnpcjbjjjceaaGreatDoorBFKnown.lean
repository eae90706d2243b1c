import Derived.Test.YtdpnpcjbjjjceaaGreatDoorBL1
import Derived.Test.YtdpnpcjbjjjceaaGreatDoorBZ10
set_option linter.unusedSimpArgs false
set_option linter.unusedVariables false
namespace Go.Proofs.YtdpnpcjbjjjceaaGreatDoor
theorem known_card : Rows.KnownCardSaid := known_card_of S.inst
#print axioms known_card
end Go.Proofs.YtdpnpcjbjjjceaaGreatDoor
