/- How two words stand to each other, as plain numbers; no condition. -/
import Derived.Test.YtllgkkbdpabhjaaRefText
namespace Go.Proofs.Ytllgkkbdpabhjaa
open Go

/-- A word, as the standard reads it, in its parts. -/
theorem read_parts (x : Nat) : Ieee.double.read x = if nP x then .nan (x / 9223372036854775808 % 2 == 1) (x % 4503599627370496) else if iP x then .infinity (x / 9223372036854775808 % 2 == 1) else .number (x / 9223372036854775808 % 2 == 1) (mP x) (eP x) := by
  unfold Ieee.Format.read nP iP mP eP
  dsimp only
  rw [show Ieee.double.signWeight = 9223372036854775808 by decide, show Ieee.double.binade = 4503599627370496 by decide, show Ieee.double.infRung = 9218868437227405312 by decide, show Ieee.double.leastPlace = -1074 by decide]
  split
  · rename_i h
    have h1 : ¬ x / 4503599627370496 % 2048 = 2047 := by omega
    have h2 : x / 4503599627370496 % 2048 = 0 := by omega
    have h3 : x % 9223372036854775808 = x % 4503599627370496 := by omega
    simp [h2, h3]
  · split
    · rename_i h
      have h1 : ¬ x / 4503599627370496 % 2048 = 2047 := by omega
      have h2 : ¬ x / 4503599627370496 % 2048 = 0 := by omega
      have h3 : 4503599627370496 + x % 9223372036854775808 % 4503599627370496 = x % 4503599627370496 + 4503599627370496 := by omega
      have h4 : (-1074 : Int) + ((x % 9223372036854775808 / 4503599627370496 - 1 : Nat) : Int) = ((x / 4503599627370496 % 2048 : Nat) : Int) - 1075 := by omega
      rw [h3, h4]
      simp [h1, h2]
    · split
      · have h1 : x / 4503599627370496 % 2048 = 2047 := by omega
        have h2 : x % 4503599627370496 = 0 := by omega
        simp [h1, h2]
      · have h1 : x / 4503599627370496 % 2048 = 2047 := by omega
        have h2 : ¬ x % 4503599627370496 = 0 := by omega
        have h3 : x % 9223372036854775808 - 9218868437227405312 = x % 4503599627370496 := by omega
        simp [h1, h2, h3]

theorem sP_eq (x : Nat) (h : x < 18446744073709551616) : (x / 9223372036854775808 % 2 == 1) = sP x := by
  unfold sP
  rw [Bool.eq_iff_iff]
  simp
  omega

def bigE : Nat := 4074
/-- The word's number, in units of the least one; of an endless one more than of any other. -/
def V (x : Nat) : Int := if iP x then Ieee.signed (sP x) 1 bigE else Ieee.signed (sP x) (mP x) (eP x + 1074).toNat

theorem mP_lt (x : Nat) : mP x < 9007199254740992 := by
  unfold mP
  split
  · omega
  · split <;> omega
theorem eP_bounds (x : Nat) : -1074 ≤ eP x ∧ eP x ≤ 971 := by
  unfold eP
  split
  · omega
  · split <;> omega

theorem signed_shift (s : Bool) (m a k : Nat) : Ieee.signed s m (a + k) = Ieee.signed s m a * 2 ^ k := by
  unfold Ieee.signed
  rw [Nat.shiftLeft_add, Nat.shiftLeft_eq (m <<< a) k]
  split <;> simp [Int.neg_mul]

theorem compare_scale (a b : Int) (k : Nat) : compare (a * 2 ^ k) (b * 2 ^ k) = compare a b := by
  have hk : (0 : Int) < 2 ^ k := by exact_mod_cast Nat.two_pow_pos k
  have h1 : a * 2 ^ k < b * 2 ^ k ↔ a < b := Int.mul_lt_mul_right hk
  have h2 : a * 2 ^ k = b * 2 ^ k ↔ a = b := Int.mul_eq_mul_right_iff (by omega)
  simp only [compare, compareOfLessAndEq, h1, h2]

/-- More than any number is. -/
def big : Nat := 2 ^ bigE
theorem big_pos : (0 : Int) < (big : Int) := by
  have := Nat.two_pow_pos bigE
  unfold big
  omega

theorem num_lt (x : Nat) : mP x <<< (eP x + 1074).toNat < big := by
  have h1 := mP_lt x
  have h2 := eP_bounds x
  rw [Nat.shiftLeft_eq]
  calc mP x * 2 ^ (eP x + 1074).toNat < 2 ^ 53 * 2 ^ (eP x + 1074).toNat := Nat.mul_lt_mul_of_pos_right h1 (Nat.two_pow_pos _)
    _ = 2 ^ (53 + (eP x + 1074).toNat) := by rw [← Nat.pow_add]
    _ ≤ big := Nat.pow_le_pow_right (by omega) (by unfold bigE; omega)

theorem V_bounds (x : Nat) (h : iP x = false) : -(big : Int) < V x ∧ V x < (big : Int) := by
  unfold V
  rw [h]
  have := num_lt x
  simp only [Bool.false_eq_true, if_false]
  unfold Ieee.signed
  generalize mP x <<< (eP x + 1074).toNat = n at *
  generalize big = M at *
  split <;> omega
theorem V_inf (x : Nat) (h : iP x = true) : V x = if sP x then -(big : Int) else (big : Int) := by
  unfold V
  rw [h, if_pos rfl]
  unfold Ieee.signed big
  rw [Nat.shiftLeft_eq, Nat.one_mul]

theorem cmp_of_lt {a b : Int} (h : a < b) : compare a b = .lt := by
  simp only [compare, compareOfLessAndEq, if_pos h]
theorem cmp_of_gt {a b : Int} (h : b < a) : compare a b = .gt := by
  simp only [compare, compareOfLessAndEq]
  rw [if_neg (by omega), if_neg (by omega)]
theorem cmp_lt {a b : Int} : compare a b = .lt ↔ a < b := by
  simp only [compare, compareOfLessAndEq]
  split
  · simp [*]
  · split <;> simp [*]
theorem cmp_eq {a b : Int} : compare a b = .eq ↔ a = b := by
  simp only [compare, compareOfLessAndEq]
  split
  · simp; omega
  · split <;> simp [*]

theorem order_V (x y : Nat) (hx : x < 18446744073709551616) (hy : y < 18446744073709551616) (nx : isN x = false) (ny : isN y = false) : Ieee.double.order x y = some (compare (V x) (V y)) := by
  rw [isN_nP] at nx ny
  unfold Ieee.Format.order
  rw [read_parts, read_parts, nx, ny, sP_eq x hx, sP_eq y hy]
  simp only [Bool.false_eq_true, if_false]
  cases ix : iP x <;> cases iy : iP y
  · simp only [Bool.false_eq_true, if_false]
    unfold Ieee.Datum.order V
    rw [ix, iy]
    simp only [Bool.false_eq_true, if_false]
    have h1 := eP_bounds x
    have h2 := eP_bounds y
    obtain ⟨k, hk⟩ : ∃ k : Nat, min (eP x) (eP y) + 1074 = k := ⟨(min (eP x) (eP y) + 1074).toNat, by omega⟩
    rw [show (eP x + 1074).toNat = (eP x - min (eP x) (eP y)).toNat + k by omega, show (eP y + 1074).toNat = (eP y - min (eP x) (eP y)).toNat + k by omega, signed_shift, signed_shift, compare_scale]
  · have b := V_bounds x ix
    have c := V_inf y iy
    simp only [Bool.false_eq_true, if_false, if_true]
    unfold Ieee.Datum.order
    generalize sP y = s at c ⊢
    cases s
    · rw [cmp_of_lt (by rw [c]; exact b.2)]; rfl
    · rw [cmp_of_gt (by rw [c]; exact b.1)]; rfl
  · have b := V_bounds y iy
    have c := V_inf x ix
    simp only [Bool.false_eq_true, if_false, if_true]
    unfold Ieee.Datum.order
    generalize sP x = s at c ⊢
    cases s
    · rw [cmp_of_gt (by rw [c]; exact b.2)]; rfl
    · rw [cmp_of_lt (by rw [c]; exact b.1)]; rfl
  · have c := V_inf x ix
    have d := V_inf y iy
    have hM := big_pos
    simp only [if_true]
    unfold Ieee.Datum.order
    generalize (big : Int) = M at *
    generalize sP x = s at c ⊢
    generalize sP y = u at d ⊢
    cases s <;> cases u
    · rw [show V x = M from c, show V y = M from d, cmp_eq.2 rfl]; rfl
    · rw [show V x = M from c, show V y = -M from d, cmp_of_gt (by omega)]; rfl
    · rw [show V x = -M from c, show V y = M from d, cmp_of_lt (by omega)]; rfl
    · rw [show V x = -M from c, show V y = -M from d, cmp_eq.2 rfl]; rfl

theorem order_none (x y : Nat) (h : isN x = true ∨ isN y = true) : Ieee.double.order x y = none := by
  unfold isN at h
  unfold Ieee.Format.order
  cases hx : Ieee.double.read x <;> cases hy : Ieee.double.read y <;> simp [hx, hy, Ieee.Datum.isNaN] at h <;> simp [Ieee.Datum.order]

theorem ltB_V (x y : Nat) (hx : x < 18446744073709551616) (hy : y < 18446744073709551616) (nx : isN x = false) (ny : isN y = false) : ltB x y = decide (V x < V y) := by
  unfold ltB
  rw [order_V x y hx hy nx ny, Bool.eq_iff_iff]
  simp [cmp_lt]
theorem eqB_V (x y : Nat) (hx : x < 18446744073709551616) (hy : y < 18446744073709551616) (nx : isN x = false) (ny : isN y = false) : eqB x y = decide (V x = V y) := by
  unfold eqB
  rw [order_V x y hx hy nx ny, Bool.eq_iff_iff]
  simp
theorem ltB_none (x y : Nat) (h : isN x = true ∨ isN y = true) : ltB x y = false := by unfold ltB; rw [order_none x y h]; rfl
theorem eqB_none (x y : Nat) (h : isN x = true ∨ isN y = true) : eqB x y = false := by unfold eqB; rw [order_none x y h]; rfl

/-- The kind tells just of those that are none that they are. -/
theorem kind_none (x : Nat) : (kindOf ((x % 9223372036854775808 : Nat) : Int) = 4) ↔ isN x = true := by
  rw [isN_nP]
  unfold kindOf nP
  have h : ((x % 9223372036854775808 : Nat) : Int) = 0 ∨ 0 < ((x % 9223372036854775808 : Nat) : Int) := by omega
  simp only [Bool.and_eq_true, decide_eq_true_eq, Bool.not_eq_true', decide_eq_false_iff_not]
  split
  · omega
  · split
    · omega
    · split
      · omega
      · split <;> omega
end Go.Proofs.Ytllgkkbdpabhjaa
