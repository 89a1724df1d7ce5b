/- The lexer's functions that the document's share. -/
import Derived.Test.YtidmeodmkcomlaaGreatDoorText
namespace Go.Proofs.YtidmeodmkcomlaaGreatDoor
end Go.Proofs.YtidmeodmkcomlaaGreatDoor
