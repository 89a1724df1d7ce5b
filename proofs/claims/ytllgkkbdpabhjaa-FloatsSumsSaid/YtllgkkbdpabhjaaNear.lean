/- Rounding to the nearest word, as plain numbers: what changes nothing, and what a word's own number is rounded to; no condition. -/
import Derived.Test.YtllgkkbdpabhjaaOrd
namespace Go.Proofs.Ytllgkkbdpabhjaa
open Go

/-- A number with so many digits dropped, to the nearest, ties to even. -/
def up1 (g r low : Nat) : Nat := (g < 2 * r || (g == 2 * r && low % 2 == 1)).toNat
def rnd (n d : Nat) : Nat := n / 2 ^ d + up1 (2 ^ d) (n % 2 ^ d) (n / 2 ^ d)

theorem up1_of_lt {g r low : Nat} (h : 2 * r < g) : up1 g r low = 0 := by
  unfold up1
  have h1 : decide (g < 2 * r) = false := by simp; omega
  have h2 : (g == 2 * r) = false := by simp; omega
  rw [h1, h2]; rfl

theorem cut_rnd (s : Bool) (n d : Nat) : Ieee.Toward.even.cut s n d = rnd n d := by
  have hlog : n < 2 ^ (n.log2 + 1) := Nat.lt_log2_self
  unfold Ieee.Toward.cut rnd
  dsimp only
  rw [Nat.one_shiftLeft]
  by_cases h : d ≤ n.log2 + 2
  · rw [Nat.min_eq_left h]; rfl
  · rw [Nat.min_eq_right (by omega)]
    have h1 : 2 * 2 ^ (n.log2 + 1) = 2 ^ (n.log2 + 2) := by rw [← Nat.pow_succ']
    have h2 : 2 ^ (n.log2 + 2) ≤ 2 ^ d := Nat.pow_le_pow_right (by omega) (by omega)
    have e1 : n / 2 ^ (n.log2 + 2) = 0 := Nat.div_eq_of_lt (by omega)
    have e2 : n % 2 ^ (n.log2 + 2) = n := Nat.mod_eq_of_lt (by omega)
    have e3 : n / 2 ^ d = 0 := Nat.div_eq_of_lt (by omega)
    have e4 : n % 2 ^ d = n := Nat.mod_eq_of_lt (by omega)
    rw [e1, e2, e3, e4]
    show 0 + up1 _ _ _ = _
    rw [up1_of_lt (by omega), up1_of_lt (by omega)]

theorem rnd_zero (n : Nat) : rnd n 0 = n := by
  unfold rnd
  rw [Nat.pow_zero, Nat.div_one, Nat.mod_one, up1_of_lt (by omega)]; rfl

theorem rnd_scale (n d k : Nat) : rnd (n * 2 ^ k) (d + k) = rnd n d := by
  have hk : 0 < 2 ^ k := Nat.two_pow_pos k
  unfold rnd
  have e1 : n * 2 ^ k / 2 ^ (d + k) = n / 2 ^ d := by rw [Nat.pow_add, Nat.mul_div_mul_right _ _ hk]
  have e2 : n * 2 ^ k % 2 ^ (d + k) = n % 2 ^ d * 2 ^ k := by rw [Nat.pow_add, Nat.mul_mod_mul_right]
  rw [e1, e2]
  congr 1
  unfold up1
  have a1 : decide (2 ^ (d + k) < 2 * (n % 2 ^ d * 2 ^ k)) = decide (2 ^ d < 2 * (n % 2 ^ d)) := by
    rw [Bool.eq_iff_iff, decide_eq_true_eq, decide_eq_true_eq, Nat.pow_add, ← Nat.mul_assoc]
    exact Nat.mul_lt_mul_right hk
  have a2 : (2 ^ (d + k) == 2 * (n % 2 ^ d * 2 ^ k)) = (2 ^ d == 2 * (n % 2 ^ d)) := by
    rw [Bool.eq_iff_iff, beq_iff_eq, beq_iff_eq, Nat.pow_add, ← Nat.mul_assoc]
    exact Nat.mul_left_inj (by omega)
  rw [a1, a2]

/-- The same with a drop of any sign. -/
def RN (n : Nat) (a : Int) : Nat := rnd (n * 2 ^ (-a).toNat) a.toNat
theorem RN_scale (n k : Nat) (a : Int) : RN (n * 2 ^ k) (a + k) = RN n a := by
  unfold RN
  by_cases h : 0 ≤ a
  · rw [show (-(a + k)).toNat = 0 by omega, show (-a).toNat = 0 by omega, show (a + k).toNat = a.toNat + k by omega, Nat.pow_zero, Nat.mul_one, Nat.mul_one, rnd_scale]
  · by_cases h2 : 0 ≤ a + k
    · obtain ⟨j, hj⟩ : ∃ j : Nat, a = -(j : Int) := ⟨(-a).toNat, by omega⟩
      subst hj
      rw [show (-(-(j : Int) + k)).toNat = 0 by omega, show (-(-(j : Int))).toNat = j by omega, show (-(j : Int) + k).toNat = k - j by omega, show (-(j : Int)).toNat = 0 by omega, rnd_zero, Nat.pow_zero, Nat.mul_one]
      have : n * 2 ^ k = n * 2 ^ j * 2 ^ (k - j) := by rw [Nat.mul_assoc, ← Nat.pow_add]; congr 2; omega
      rw [this]
      have := rnd_scale (n * 2 ^ j) 0 (k - j)
      rw [Nat.zero_add] at this
      rw [this, rnd_zero]
    · rw [show (a + k).toNat = 0 by omega, show a.toNat = 0 by omega, rnd_zero, rnd_zero, Nat.mul_assoc, ← Nat.pow_add]
      congr 2; omega

/-- The place of the last digit that is kept. -/
def lastP (n : Nat) (p : Int) : Int := max (p + n.log2 - 52) (-1074)
/-- The rung of a number that is not 0. -/
def rung (n : Nat) (p : Int) : Nat := min ((lastP n p + 1074).toNat * 4503599627370496 + RN n (lastP n p - p)) 9218868437227405312

theorem nearest_rung (s : Bool) (n : Nat) (p : Int) (h : n ≠ 0) : Ieee.double.nearest s n p = Ieee.double.word s (rung n p) := by
  unfold Ieee.Format.nearest
  rw [if_neg h]
  dsimp only
  rw [cut_rnd]
  rw [show Ieee.double.leastPlace = -1074 by decide, show Ieee.double.binade = 4503599627370496 by decide, show Ieee.double.infRung = 9218868437227405312 by decide]
  have : max (p + (n.log2 : Int) - ((Ieee.double.fractionBits : Nat) : Int)) (-1074) = lastP n p := rfl
  rw [this]
  unfold rung RN
  rw [Nat.shiftLeft_eq, show -(lastP n p - p) = p - lastP n p by omega, show lastP n p - -1074 = lastP n p + 1074 by omega]

theorem log2_scale (n k : Nat) (h : n ≠ 0) : (n * 2 ^ k).log2 = n.log2 + k := by
  rw [Nat.log2_eq_iff (by have := Nat.two_pow_pos k; exact Nat.mul_ne_zero h (by omega))]
  have h1 := Nat.log2_self_le h
  have h2 : n < 2 ^ (n.log2 + 1) := Nat.lt_log2_self
  have hk := Nat.two_pow_pos k
  constructor
  · rw [Nat.pow_add]; exact Nat.mul_le_mul_right _ h1
  · rw [show n.log2 + k + 1 = n.log2 + 1 + k by omega, Nat.pow_add]; exact Nat.mul_lt_mul_of_pos_right h2 hk

theorem rung_scale (n k : Nat) (p : Int) (h : n ≠ 0) : rung (n * 2 ^ k) p = rung n (p + k) := by
  have e : lastP (n * 2 ^ k) p = lastP n (p + k) := by
    unfold lastP
    rw [log2_scale n k h]; congr 1; omega
  unfold rung
  rw [e]
  congr 2
  rw [← RN_scale n k]
  congr 1; omega
theorem nearest_scale (s : Bool) (n k : Nat) (p : Int) : Ieee.double.nearest s (n * 2 ^ k) p = Ieee.double.nearest s n (p + k) := by
  by_cases h : n = 0
  · subst h; rw [Nat.zero_mul]; unfold Ieee.Format.nearest; rw [if_pos rfl, if_pos rfl]
  · have hk := Nat.two_pow_pos k
    rw [nearest_rung _ _ _ h, nearest_rung _ _ _ (Nat.mul_ne_zero h (by omega)), rung_scale n k p h]

/-- The word of a sign and a rung, as a number. -/
theorem word_eq (s : Bool) (r : Nat) : Ieee.double.word s r = (if s then 9223372036854775808 else 0) + r := by
  unfold Ieee.Format.word
  rw [show Ieee.double.signWeight = 9223372036854775808 by decide]
  split <;> simp

/-- A word's own number is rounded to the word. -/
theorem rung_own (x : Nat) (hn : nP x = false) (hi : iP x = false) (hm : mP x ≠ 0) : rung (mP x) (eP x) = x % 9223372036854775808 := by
  have hne : ¬ x / 4503599627370496 % 2048 = 2047 := by
    intro h
    unfold nP at hn
    unfold iP at hi
    simp [h] at hn hi
    omega
  unfold rung lastP
  unfold mP at hm ⊢
  unfold eP
  rw [if_neg hne] at hm ⊢
  rw [if_neg hne]
  by_cases h0 : x / 4503599627370496 % 2048 = 0
  · rw [if_pos h0] at hm ⊢
    rw [if_pos h0]
    have hl : (x % 4503599627370496).log2 < 52 := (Nat.log2_lt hm).2 (Nat.mod_lt _ (by omega))
    have hmax : max (-1074 + ((x % 4503599627370496).log2 : Int) - 52) (-1074) = -1074 := by omega
    rw [hmax]
    unfold RN
    have : (-(-1074 - -1074 : Int)).toNat = 0 := by decide
    rw [this]
    have : (-1074 - -1074 : Int).toNat = 0 := by decide
    rw [this, rnd_zero, Nat.pow_zero, Nat.mul_one]
    omega
  · rw [if_neg h0] at hm ⊢
    rw [if_neg h0]
    have hl : (x % 4503599627370496 + 4503599627370496).log2 = 52 := by
      rw [Nat.log2_eq_iff hm]
      omega
    rw [hl]
    have hmax : max (((x / 4503599627370496 % 2048 : Nat) : Int) - 1075 + (52 : Nat) - 52) (-1074) = ((x / 4503599627370496 % 2048 : Nat) : Int) - 1075 := by omega
    rw [hmax]
    unfold RN
    rw [Int.sub_self]
    have : (-(0 : Int)).toNat = 0 := by decide
    rw [this]
    have : (0 : Int).toNat = 0 := by decide
    rw [this, rnd_zero, Nat.pow_zero, Nat.mul_one]
    omega

/-- The word of its own sign and number; 0 of either sign. -/
theorem nearest_own (x : Nat) (hx : x < 18446744073709551616) (hn : nP x = false) (hi : iP x = false) : Ieee.double.nearest (sP x) (mP x) (eP x) = x := by
  have hs : (if sP x then 9223372036854775808 else 0) + x % 9223372036854775808 = x := by
    unfold sP
    cases h : ((x : Int) / 9223372036854775808 == 1)
    · have : ¬ (x : Int) / 9223372036854775808 = 1 := by simpa using h
      simp; omega
    · have : (x : Int) / 9223372036854775808 = 1 := by simpa using h
      simp; omega
  by_cases hm : mP x = 0
  · unfold Ieee.Format.nearest
    rw [if_pos hm, word_eq]
    have : x % 9223372036854775808 = 0 := by
      unfold nP at hn
      unfold iP at hi
      unfold mP at hm
      by_cases h1 : x / 4503599627370496 % 2048 = 2047
      · simp [h1] at hn hi; omega
      · rw [if_neg h1] at hm
        by_cases h2 : x / 4503599627370496 % 2048 = 0
        · rw [if_pos h2] at hm; omega
        · rw [if_neg h2] at hm; omega
    rw [this] at hs
    exact hs
  · rw [nearest_rung _ _ _ hm, word_eq, rung_own x hn hi hm, hs]
end Go.Proofs.Ytllgkkbdpabhjaa
