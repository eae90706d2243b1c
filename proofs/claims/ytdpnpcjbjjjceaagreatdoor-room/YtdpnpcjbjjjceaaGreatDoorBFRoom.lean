import Derived.Test.YtdpnpcjbjjjceaaGreatDoorBZ10
import Derived.Test.YtdpnpcjbjjjceaaGreatDoorBLRoom
set_option linter.unusedSimpArgs false
set_option linter.unusedVariables false
namespace Go.Proofs.YtdpnpcjbjjjceaaGreatDoor
theorem room_card : Rows.RoomCardSaid := room_card_of S.inst
#print axioms room_card
end Go.Proofs.YtdpnpcjbjjjceaaGreatDoor
