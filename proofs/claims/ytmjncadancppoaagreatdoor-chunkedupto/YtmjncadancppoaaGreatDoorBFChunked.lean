import Derived.Test.YtmjncadancppoaaGreatDoorBZ10
import Derived.Test.YtmjncadancppoaaGreatDoorBLChunked
set_option linter.unusedSimpArgs false
set_option linter.unusedVariables false
namespace Go.Proofs.YtmjncadancppoaaGreatDoor
theorem chunked_card : Rows.ChunkedUptoCardSaid := chunked_card_of S.inst
#print axioms chunked_card
end Go.Proofs.YtmjncadancppoaaGreatDoor
