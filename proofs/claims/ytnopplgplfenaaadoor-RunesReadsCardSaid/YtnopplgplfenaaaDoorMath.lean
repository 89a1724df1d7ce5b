/- What a decoder of UTF-8 tells of bytes, as plain functions on lists of bytes; no condition. -/
import Derived.Lib.DecodeN
import Derived.Lib.Small
namespace Go.Proofs.YtnopplgplfenaaaDoor

/-- The first sign of a list of bytes: its number and its width; (65533, 1) where none stands. -/
def D (l : List UInt8) : Nat × Nat := Go.Lib.decodeN l.length (l.getD 0 0).toNat (l.getD 1 0).toNat (l.getD 2 0).toNat (l.getD 3 0).toNat

theorem get_mk (l : List UInt8) (i : Nat) : (ByteArray.mk l.toArray).get! i = l.getD i 0 := by
  simp only [ByteArray.get!, List.getD_eq_getElem?_getD]
  by_cases h : i < l.length
  · simp [h]
  · simp [h]; rfl

theorem decode_mk (l : List UInt8) : Go.Utf8.decode (ByteArray.mk l.toArray) 0 = D l := by
  have hs : (ByteArray.mk l.toArray).size = l.length := by simp [ByteArray.size]
  unfold D
  rw [Go.Lib.decode_at, hs]
  simp only [get_mk, Nat.sub_zero, Nat.zero_add]

theorem D_bounds (l : List UInt8) (h : 0 < l.length) : 1 ≤ (D l).2 ∧ (D l).2 ≤ 4 ∧ (D l).2 ≤ l.length ∧ (D l).1 ≤ 1114111 := by
  have h0 := (l.getD 0 0).toNat_lt
  unfold D Go.Lib.decodeN
  repeat' split
  all_goals (dsimp only; omega)

/-- Where a sign stands, its width is that in which it is written. -/
theorem D_width (l : List UInt8) (h : ¬ ((D l).1 = 65533 ∧ (D l).2 = 1)) : Go.Lib.runeLen ((D l).1 : Int) = ((D l).2 : Int) := by
  revert h
  unfold D Go.Lib.decodeN
  have h0 := (l.getD 0 0).toNat_lt
  repeat' split
  all_goals (dsimp only; intro h)
  all_goals first | (exfalso; omega) | (unfold Go.Lib.runeLen; (repeat' split) <;> omega)

/-- No sign stands at the head of the list. -/
def isBad (l : List UInt8) : Prop := (D l).1 = 65533 ∧ (D l).2 = 1
instance (l : List UInt8) : Decidable (isBad l) := inferInstanceAs (Decidable (_ ∧ _))

/-- The signs of a list of bytes, each with its place; the list stands at the place k. -/
def sg (l : List UInt8) (k : Nat) : List (Nat × Nat) :=
  if _h : 0 < l.length then
    if isBad l then [] else (k, (D l).1) :: sg (l.drop (D l).2) (k + (D l).2)
  else []
termination_by l.length
decreasing_by
  have := D_bounds l _h
  simp only [List.length_drop]
  omega

/-- The place behind the signs. -/
def bd (l : List UInt8) (k : Nat) : Nat :=
  if _h : 0 < l.length then
    if isBad l then k else bd (l.drop (D l).2) (k + (D l).2)
  else k
termination_by l.length
decreasing_by
  have := D_bounds l _h
  simp only [List.length_drop]
  omega

theorem sg_nil (l : List UInt8) (k : Nat) (h : l.length = 0) : sg l k = [] := by
  rw [sg, dif_neg (by omega)]
theorem sg_bad (l : List UInt8) (k : Nat) (h : isBad l) : sg l k = [] := by
  rw [sg]; split
  · rfl
  · rfl
theorem sg_cons (l : List UInt8) (k : Nat) (h : 0 < l.length) (hb : ¬ isBad l) : sg l k = (k, (D l).1) :: sg (l.drop (D l).2) (k + (D l).2) := by
  rw [sg, dif_pos h, if_neg hb]
theorem bd_nil (l : List UInt8) (k : Nat) (h : l.length = 0) : bd l k = k := by
  rw [bd, dif_neg (by omega)]
theorem bd_bad (l : List UInt8) (k : Nat) (h : isBad l) : bd l k = k := by
  rw [bd]; split
  · rfl
  · rfl
theorem bd_cons (l : List UInt8) (k : Nat) (h : 0 < l.length) (hb : ¬ isBad l) : bd l k = bd (l.drop (D l).2) (k + (D l).2) := by
  rw [bd, dif_pos h, if_neg hb]

end Go.Proofs.YtnopplgplfenaaaDoor
