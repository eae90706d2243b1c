import Derived.Test.YtdpnpcjbjjjceaaGreatDoorBZ10
import Derived.Test.YtdpnpcjbjjjceaaGreatDoorBLRecent
set_option linter.unusedSimpArgs false
set_option linter.unusedVariables false
namespace Go.Proofs.YtdpnpcjbjjjceaaGreatDoor
theorem recent_card : Rows.RecentCardSaid := recent_card_of S.inst
#print axioms recent_card
end Go.Proofs.YtdpnpcjbjjjceaaGreatDoor
