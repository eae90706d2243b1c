import Derived.Test.YtmjncadancppoaaGreatDoorBZ10
import Derived.Test.YtmjncadancppoaaGreatDoorBLRecent
set_option linter.unusedSimpArgs false
set_option linter.unusedVariables false
namespace Go.Proofs.YtmjncadancppoaaGreatDoor
theorem recent_card : Rows.RecentCardSaid := recent_card_of S.inst
#print axioms recent_card
end Go.Proofs.YtmjncadancppoaaGreatDoor
