/- Whether a part has what its shape asks: at every shape and part. -/
import Derived.Test.YtidmeodmkcomlaaGreatDoorShape
namespace Go.Proofs.YtidmeodmkcomlaaGreatDoor
open Go Go.Proofs Go.RowKit

/-- Has a part what its shape asks? b0, b1, b2: what is asked of its name, its names, its bits. -/
def holdsB (M K R T : Int) (n : Int) (kl tl : Nat) (b0 b1 b2 : Bool) : Bool :=
  decide (0 ≤ n ∧ n ≤ M ∧ K ≤ kl ∧ (kl : Int) ≤ K + R ∧ (tl : Int) = T) && (b0 && (b1 && b2))

end Go.Proofs.YtidmeodmkcomlaaGreatDoor
