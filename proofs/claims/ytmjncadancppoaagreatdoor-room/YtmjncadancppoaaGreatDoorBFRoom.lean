import Derived.Test.YtmjncadancppoaaGreatDoorBZ10
import Derived.Test.YtmjncadancppoaaGreatDoorBLRoom
set_option linter.unusedSimpArgs false
set_option linter.unusedVariables false
namespace Go.Proofs.YtmjncadancppoaaGreatDoor
theorem room_card : Rows.RoomCardSaid := room_card_of S.inst
#print axioms room_card
end Go.Proofs.YtmjncadancppoaaGreatDoor
