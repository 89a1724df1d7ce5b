/- What a decoder of UTF-8 tells of bytes, as plain functions on lists of bytes; no condition. -/
import Derived.Lib.DecodeN
import Derived.Lib.Small
namespace Go.Proofs.YtggchkddmihobaaGreatDoor

/-- The first sign of a list of bytes: its number and its width; (65533, 1) where none stands. -/
def D (l : List UInt8) : Nat × Nat := Go.Lib.decodeN l.length (l.getD 0 0).toNat (l.getD 1 0).toNat (l.getD 2 0).toNat (l.getD 3 0).toNat

theorem get_mk (l : List UInt8) (i : Nat) : (ByteArray.mk l.toArray).get! i = l.getD i 0 := by
  simp only [ByteArray.get!, List.getD_eq_getElem?_getD]
  by_cases h : i < l.length
  · simp [h]
  · simp [h]; rfl

theorem decode_mk (l : List UInt8) : Go.Utf8.decode (ByteArray.mk l.toArray) 0 = D l := by
  have hs : (ByteArray.mk l.toArray).size = l.length := by simp [ByteArray.size]
  unfold D
  rw [Go.Lib.decode_at, hs]
  simp only [get_mk, Nat.sub_zero, Nat.zero_add]

theorem D_bounds (l : List UInt8) (h : 0 < l.length) : 1 ≤ (D l).2 ∧ (D l).2 ≤ 4 ∧ (D l).2 ≤ l.length ∧ (D l).1 ≤ 1114111 := by
  have h0 := (l.getD 0 0).toNat_lt
  unfold D Go.Lib.decodeN
  repeat' split
  all_goals (dsimp only; omega)

/-- Where a sign stands, its width is that in which it is written. -/
theorem D_width (l : List UInt8) (h : ¬ ((D l).1 = 65533 ∧ (D l).2 = 1)) : Go.Lib.runeLen ((D l).1 : Int) = ((D l).2 : Int) := by
  revert h
  unfold D Go.Lib.decodeN
  have h0 := (l.getD 0 0).toNat_lt
  repeat' split
  all_goals (dsimp only; intro h)
  all_goals first | (exfalso; omega) | (unfold Go.Lib.runeLen; (repeat' split) <;> omega)

/-- No sign stands at the head of the list. -/
def isBad (l : List UInt8) : Prop := (D l).1 = 65533 ∧ (D l).2 = 1
instance (l : List UInt8) : Decidable (isBad l) := inferInstanceAs (Decidable (_ ∧ _))

/-- The signs of a list of bytes, each with its place; the list stands at the place k. -/
def sg (l : List UInt8) (k : Nat) : List (Nat × Nat) :=
  if _h : 0 < l.length then
    if isBad l then [] else (k, (D l).1) :: sg (l.drop (D l).2) (k + (D l).2)
  else []
termination_by l.length
decreasing_by
  have := D_bounds l _h
  simp only [List.length_drop]
  omega

/-- The place behind the signs. -/
def bd (l : List UInt8) (k : Nat) : Nat :=
  if _h : 0 < l.length then
    if isBad l then k else bd (l.drop (D l).2) (k + (D l).2)
  else k
termination_by l.length
decreasing_by
  have := D_bounds l _h
  simp only [List.length_drop]
  omega

theorem sg_nil (l : List UInt8) (k : Nat) (h : l.length = 0) : sg l k = [] := by
  rw [sg, dif_neg (by omega)]
theorem sg_bad (l : List UInt8) (k : Nat) (h : isBad l) : sg l k = [] := by
  rw [sg]; split
  · rfl
  · rfl
theorem sg_cons (l : List UInt8) (k : Nat) (h : 0 < l.length) (hb : ¬ isBad l) : sg l k = (k, (D l).1) :: sg (l.drop (D l).2) (k + (D l).2) := by
  rw [sg, dif_pos h, if_neg hb]
theorem bd_nil (l : List UInt8) (k : Nat) (h : l.length = 0) : bd l k = k := by
  rw [bd, dif_neg (by omega)]
theorem bd_bad (l : List UInt8) (k : Nat) (h : isBad l) : bd l k = k := by
  rw [bd]; split
  · rfl
  · rfl
theorem bd_cons (l : List UInt8) (k : Nat) (h : 0 < l.length) (hb : ¬ isBad l) : bd l k = bd (l.drop (D l).2) (k + (D l).2) := by
  rw [bd, dif_pos h, if_neg hb]

theorem sg_length : ∀ (n : Nat) (l : List UInt8) (k : Nat), l.length ≤ n → (sg l k).length ≤ l.length
  | 0, l, k, h => by rw [sg_nil l k (by omega)]; simp
  | n + 1, l, k, h => by
    by_cases h0 : 0 < l.length
    · by_cases hb : isBad l
      · rw [sg_bad l k hb]; simp
      · have hd := D_bounds l h0
        have ih := sg_length n (l.drop (D l).2) (k + (D l).2) (by simp only [List.length_drop]; omega)
        rw [sg_cons l k h0 hb, List.length_cons]
        simp only [List.length_drop] at ih
        omega
    · rw [sg_nil l k (by omega)]; simp

theorem bd_le : ∀ (n : Nat) (l : List UInt8) (k : Nat), l.length ≤ n → k ≤ bd l k ∧ bd l k ≤ k + l.length
  | 0, l, k, h => by rw [bd_nil l k (by omega)]; omega
  | n + 1, l, k, h => by
    by_cases h0 : 0 < l.length
    · by_cases hb : isBad l
      · rw [bd_bad l k hb]; omega
      · have hd := D_bounds l h0
        have ih := bd_le n (l.drop (D l).2) (k + (D l).2) (by simp only [List.length_drop]; omega)
        rw [bd_cons l k h0 hb]
        simp only [List.length_drop] at ih
        omega
    · rw [bd_nil l k (by omega)]; omega


set_option maxRecDepth 100000 in
set_option maxHeartbeats 4000000 in
/-- What is decoded hangs on no byte behind the sign. -/
theorem decodeN_more (n m b0 b1 b2 b3 c1 c2 c3 : Nat) (hm : n ≤ m) (_h0 : b0 < 256) (h1 : 1 < n → c1 = b1) (h2 : 2 < n → c2 = b2) (h3 : 3 < n → c3 = b3)
    (hg : ¬ ((Go.Lib.decodeN n b0 b1 b2 b3).1 = 65533 ∧ (Go.Lib.decodeN n b0 b1 b2 b3).2 = 1)) : Go.Lib.decodeN m b0 c1 c2 c3 = Go.Lib.decodeN n b0 b1 b2 b3 := by
  by_cases a1 : 1 < n <;> by_cases a2 : 2 < n <;> by_cases a3 : 3 < n
  all_goals first | (exfalso; omega) | skip
  all_goals (try (have e1 := h1 a1; subst e1)) 
  all_goals (try (have e2 := h2 a2; subst e2))
  all_goals (try (have e3 := h3 a3; subst e3))
  all_goals (revert hg; unfold Go.Lib.decodeN)
  all_goals (repeat' split)
  all_goals (intro hg; first | rfl | (exfalso; omega) | (exfalso; simp at hg))

theorem D_append (a b : List UInt8) (h0 : 0 < a.length) (hb : ¬ isBad a) : D (a ++ b) = D a := by
  unfold D
  have g : ∀ i, i < a.length → (a ++ b).getD i 0 = a.getD i 0 := fun i hi => by simp [List.getD_eq_getElem?_getD, List.getElem?_append_left hi]
  rw [g 0 h0]
  refine decodeN_more _ _ _ _ _ _ _ _ _ (by simp) (a.getD 0 0).toNat_lt (fun h => by rw [g 1 h]) (fun h => by rw [g 2 h]) (fun h => by rw [g 3 h]) hb

theorem sg_append : ∀ (n : Nat) (a b : List UInt8) (k : Nat), a.length ≤ n → bd a k = k + a.length → sg (a ++ b) k = sg a k ++ sg b (k + a.length) ∧ bd (a ++ b) k = bd b (k + a.length)
  | 0, a, b, k, h, _ => by
    obtain rfl : a = [] := List.length_eq_zero_iff.1 (by omega)
    rw [sg_nil [] k rfl]
    simp
  | n + 1, a, b, k, h, hw => by
    by_cases h0 : 0 < a.length
    · by_cases hb : isBad a
      · rw [bd_bad a k hb] at hw; omega
      · have hd := D_bounds a h0
        have hda := D_append a b h0 hb
        have hb' : ¬ isBad (a ++ b) := by unfold isBad at hb ⊢; rw [hda]; exact hb
        rw [bd_cons a k h0 hb] at hw
        have ih := sg_append n (a.drop (D a).2) b (k + (D a).2) (by simp only [List.length_drop]; omega) (by rw [hw, List.length_drop]; omega)
        have hdr : (a ++ b).drop (D a).2 = a.drop (D a).2 ++ b := List.drop_append_of_le_length (by omega)
        rw [sg_cons (a ++ b) k (by simp; omega) hb', bd_cons (a ++ b) k (by simp; omega) hb', sg_cons a k h0 hb, hda, hdr, ih.1, ih.2]
        have hk : k + (D a).2 + (a.drop (D a).2).length = k + a.length := by simp only [List.length_drop]; omega
        rw [hk]
        simp
    · obtain rfl : a = [] := List.length_eq_zero_iff.1 (by omega)
      rw [sg_nil [] k rfl]
      simp

/-- Places are counted from where the list stands. -/
theorem sg_shift : ∀ (n : Nat) (l : List UInt8) (k j : Nat), l.length ≤ n → sg l (k + j) = (sg l k).map (fun x => (x.1 + j, x.2)) ∧ bd l (k + j) = bd l k + j
  | 0, l, k, j, h => by
    rw [sg_nil l _ (by omega), sg_nil l _ (by omega), bd_nil l _ (by omega), bd_nil l _ (by omega)]
    simp
  | n + 1, l, k, j, h => by
    by_cases h0 : 0 < l.length
    · by_cases hb : isBad l
      · rw [sg_bad l _ hb, sg_bad l _ hb, bd_bad l _ hb, bd_bad l _ hb]
        simp
      · have hd := D_bounds l h0
        have ih := sg_shift n (l.drop (D l).2) (k + (D l).2) j (by simp only [List.length_drop]; omega)
        rw [sg_cons l (k + j) h0 hb, sg_cons l k h0 hb, bd_cons l (k + j) h0 hb, bd_cons l k h0 hb, show k + j + (D l).2 = k + (D l).2 + j by omega, ih.1, ih.2]
        simp
    · rw [sg_nil l _ (by omega), sg_nil l _ (by omega), bd_nil l _ (by omega), bd_nil l _ (by omega)]
      simp

end Go.Proofs.YtggchkddmihobaaGreatDoor
