import Derived.Test.YtdpnpcjbjjjceaaGreatDoorBZ10
import Derived.Test.YtdpnpcjbjjjceaaGreatDoorBLSplit
set_option linter.unusedSimpArgs false
set_option linter.unusedVariables false
namespace Go.Proofs.YtdpnpcjbjjjceaaGreatDoor
theorem split_card : Rows.SplitCardSaid := split_card_of S.inst
#print axioms split_card
end Go.Proofs.YtdpnpcjbjjjceaaGreatDoor
