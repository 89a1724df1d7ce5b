/- Counting parts: take, all; the greatest depth of some parts; at every row of numbers. -/
import Derived.Test.YtidmeodmkcomlaaGreatDoorData
import Derived.LoopTactic
namespace Go.Proofs.YtidmeodmkcomlaaGreatDoor
open Go Go.Proofs Go.RowKit

/-- What becomes of the counts us when the parts ks are taken, each below e. -/
def takeF : List Int → List Int → Int → Bool × List Int
  | us, [], _ => (true, us)
  | us, k :: ks, e => if k < 0 ∨ e ≤ k then (false, us) else
    if 0 < us.getD k.toNat 0 then (false, us.set k.toNat (us.getD k.toNat 0 + 1)) else takeF (us.set k.toNat (us.getD k.toNat 0 + 1)) ks e

def TakePost (g : Nat) (us ks : List Int) (e : Int) (w : World) (en : Ending) (w' : World) : Prop :=
  en = .returned (.bool (takeF us ks e).1) ∧ Blk w' g 3 (ivs (takeF us ks e).2) ∧ w.grownBy w' (some g)
theorem TakePost.of {g : Nat} {us ks : List Int} {e : Int} {w w' : World} {b : Bool} {us' : List Int} (h : takeF us ks e = (b, us')) (hB : Blk w' g 3 (ivs us')) (hg : w.grownBy w' (some g)) :
    TakePost g us ks e w (.returned (.bool b)) w' := by
  unfold TakePost
  rw [h]
  exact ⟨rfl, hB, hg⟩

/-- Each count is 0 or 1. -/
def Bits01 (us : List Int) : Prop := ∀ u ∈ us, 0 ≤ u ∧ u ≤ 1
theorem Bits01.set {us : List Int} (h : Bits01 us) (j : Nat) {u : Int} (hu : 0 ≤ u ∧ u ≤ 1) : Bits01 (us.set j u) := fun x hx => by
  rcases List.mem_or_eq_of_mem_set hx with h1 | rfl
  · exact h _ h1
  · exact hu

end Go.Proofs.YtidmeodmkcomlaaGreatDoor
