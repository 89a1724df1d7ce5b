/- Was each part taken; the greatest depth of some parts: at every row of numbers. -/
import Derived.Test.YtidmeodmkcomlaaGreatDoorTake
namespace Go.Proofs.YtidmeodmkcomlaaGreatDoor
open Go Go.Proofs Go.RowKit

/-- Numbers as cells. -/
abbrev nvs (ds : List Nat) : Array Value := (ds.map fun n : Nat => iv (n : Int)).toArray
theorem nvs_get (ds : List Nat) (i : Nat) (h : i < ds.length) : (nvs ds)[i]? = some (.int .i64 (ds[i] : Nat)) := by simp [nvs, h]
theorem nvs_set (ds : List Nat) (i : Nat) (u : Nat) : (nvs ds).setIfInBounds i (.int .i64 (u : Int)) = nvs (ds.set i u) := by
  apply Array.ext'
  simp [nvs, List.map_set]

theorem most_take (f : Int → Nat) (ks : List Int) (k : Nat) (h : k < ks.length) : most ((ks.take (k + 1)).map f) = max (most ((ks.take k).map f)) (f ks[k]) := by
  rw [List.take_succ_eq_append_getElem h, List.map_append, most_append]
  simp [most]

end Go.Proofs.YtidmeodmkcomlaaGreatDoor
