import Derived.Test.YtdpnpcjbjjjceaaGreatDoorBZ10
import Derived.Test.YtdpnpcjbjjjceaaGreatDoorBLChunked
set_option linter.unusedSimpArgs false
set_option linter.unusedVariables false
namespace Go.Proofs.YtdpnpcjbjjjceaaGreatDoor
theorem chunked_card : Rows.ChunkedUptoCardSaid := chunked_card_of S.inst
#print axioms chunked_card
end Go.Proofs.YtdpnpcjbjjjceaaGreatDoor
