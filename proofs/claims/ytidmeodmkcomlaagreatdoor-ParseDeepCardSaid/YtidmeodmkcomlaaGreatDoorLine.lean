/- What a string's token can stand for; floats; rows of names, tags, arms: at every text of at most 1000 bytes. -/
import Derived.Shelf.Strings.FuncGrows
import Derived.Test.YtidmeodmkcomlaaGreatDoorPreds
import Derived.Test.YtidmeodmkcomlaaGreatDoorOwn
import Derived.Test.YtidmeodmkcomlaaGreatDoorIterB
import Derived.Lib.ConvBytes
import Derived.Lib.SmallJoins
namespace Go.Proofs.YtidmeodmkcomlaaGreatDoor
open Go Go.Proofs Go.RowKit Go.Maps Go.WideMaps

theorem text_bytes (W : World) (s : ByteArray) : TextAt (W.heap.size + 1) (Lib.bytesWorld W 5 s) (.slice (some ⟨W.heap.size, 0, none⟩) s.size (grownCap W s.size 0 5)) (tl s) := by
  refine .inr ⟨W.heap.size, 0, _, by rw [tl_length], Nat.lt_succ_self _, by rw [tl_length]; exact grownCap_ge _ _ _ _, fun j hj => ?_⟩
  rw [tl_length] at hj
  rw [Nat.zero_add]
  exact Lib.bytesWorld_cell W 5 s j hj


/-- A sign below 32 that is no line feed. -/
def lowR (x : Nat) : Bool := decide (x < 32) && !decide (x = 10)
/-- A text that a string's token can stand for. -/
def lineB (s : ByteArray) : Bool := decide (badOf (tl s) < 0) && !decide (0 ≤ Lib.idxFunc lowR true s)

def floatB (x : Nat) : Bool := decide (norm x = x)
/-- The tags of arms: every other one. -/
def evens : List ByteArray → List ByteArray
  | a :: _ :: r => a :: evens r
  | _ => []
def odds : List ByteArray → List ByteArray
  | _ :: b :: r => b :: odds r
  | _ => []
theorem evens_get : ∀ (ss : List ByteArray) (k : Nat) (h : 2 * k + 1 < ss.length), (evens ss)[k]? = some (ss[2 * k]'(by omega)) ∧ (odds ss)[k]? = some (ss[2 * k + 1]'h)
  | [], _, h => by simp at h
  | [_], _, h => by simp at h
  | a :: b :: r, 0, _ => by simp [evens, odds]
  | a :: b :: r, k + 1, h => by
    have := evens_get r k (by simp at h; omega)
    simp only [evens, odds, List.getElem?_cons_succ]
    rw [this.1, this.2]
    exact ⟨rfl, rfl⟩
theorem evens_len : ∀ (ss : List ByteArray), (evens ss).length = ss.length / 2 ∧ (odds ss).length = ss.length / 2
  | [] => by simp [evens, odds]
  | [_] => by simp [evens, odds]
  | a :: b :: r => by
    have := evens_len r
    simp only [evens, odds, List.length_cons]
    omega
/-- Tags and names, by turns, each tag once. -/
def armsB (ss : List ByteArray) : Bool := decide (ss.length % 2 = 0) && (decide (∀ s ∈ odds ss, isName (tl s) = true) && onceB tagB (evens ss))

end Go.Proofs.YtidmeodmkcomlaaGreatDoor
