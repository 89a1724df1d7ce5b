/- Whether a term, and a type, has what its kind asks: at every one. -/
import Derived.Test.YtidmeodmkcomlaaGreatDoorMayA
namespace Go.Proofs.YtidmeodmkcomlaaGreatDoor
open Go Go.Proofs Go.RowKit

end Go.Proofs.YtidmeodmkcomlaaGreatDoor
