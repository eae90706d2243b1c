import Derived.Test.YtmjncadancppoaaGreatDoorBZ10
import Derived.Test.YtmjncadancppoaaGreatDoorBLSplit
set_option linter.unusedSimpArgs false
set_option linter.unusedVariables false
namespace Go.Proofs.YtmjncadancppoaaGreatDoor
theorem split_card : Rows.SplitCardSaid := split_card_of S.inst
#print axioms split_card
end Go.Proofs.YtmjncadancppoaaGreatDoor
