import Derived.Test.YtmjncadancppoaaGreatDoorBL1
import Derived.Test.YtmjncadancppoaaGreatDoorBZ10
set_option linter.unusedSimpArgs false
set_option linter.unusedVariables false
namespace Go.Proofs.YtmjncadancppoaaGreatDoor
theorem known_card : Rows.KnownCardSaid := known_card_of S.inst
#print axioms known_card
end Go.Proofs.YtmjncadancppoaaGreatDoor
