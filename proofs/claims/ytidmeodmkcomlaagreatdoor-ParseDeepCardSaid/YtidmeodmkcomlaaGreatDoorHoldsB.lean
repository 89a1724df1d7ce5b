/- Whether a part has what its shape asks: where it has too little, or too much. -/
import Derived.Test.YtidmeodmkcomlaaGreatDoorHoldsA
namespace Go.Proofs.YtidmeodmkcomlaaGreatDoor
open Go Go.Proofs Go.RowKit

end Go.Proofs.YtidmeodmkcomlaaGreatDoor
