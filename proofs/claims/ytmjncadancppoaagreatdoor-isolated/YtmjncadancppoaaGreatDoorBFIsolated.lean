import Derived.Test.YtmjncadancppoaaGreatDoorBZ10
import Derived.Test.YtmjncadancppoaaGreatDoorBLIsolated
set_option linter.unusedSimpArgs false
set_option linter.unusedVariables false
namespace Go.Proofs.YtmjncadancppoaaGreatDoor
theorem isolated_card : Rows.IsolatedCardSaid := isolated_card_of S.inst
#print axioms isolated_card
end Go.Proofs.YtmjncadancppoaaGreatDoor
