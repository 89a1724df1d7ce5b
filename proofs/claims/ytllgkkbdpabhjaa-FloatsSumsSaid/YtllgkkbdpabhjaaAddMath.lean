/- The document's sum and difference are the standard's; at every two words. -/
import Derived.Test.YtllgkkbdpabhjaaRefAdd
import Derived.Test.YtllgkkbdpabhjaaOrderMath
namespace Go.Proofs.Ytllgkkbdpabhjaa
open Go Go.Proofs Go.RowKit

theorem xor_low (z : Nat) (h : z < 2 ^ 63) : z ^^^ 2 ^ 63 = 2 ^ 63 + z := by
  have e : 2 ^ 63 + z = 2 ^ 63 * 1 ||| z := by
    rw [← Nat.two_pow_add_eq_or_of_lt h 1]
  rw [e]
  apply Nat.eq_of_testBit_eq
  intro i
  rw [Nat.mul_one, Nat.testBit_xor, Nat.testBit_or, Nat.testBit_two_pow]
  by_cases hi : 63 = i
  · subst hi
    rw [Nat.testBit_lt_two_pow h]; rfl
  · rw [show decide (63 = i) = false by simp [hi]]
    cases z.testBit i <;> rfl

/-- The word of the other sign. -/
def flip (y : Nat) : Nat := if y < 9223372036854775808 then 9223372036854775808 + y else y - 9223372036854775808
theorem flip_lt (y : Nat) (h : y < 18446744073709551616) : flip y < 18446744073709551616 := by unfold flip; split <;> omega
theorem xor_flip (y : Nat) (h : y < 18446744073709551616) : y ^^^ 9223372036854775808 = flip y := by
  unfold flip
  split
  · rename_i h1
    exact xor_low y h1
  · rename_i h1
    have h2 := xor_low (y - 9223372036854775808) (by omega)
    have h3 : y = (y - 9223372036854775808) ^^^ 2 ^ 63 := by rw [h2]; omega
    rw [show (9223372036854775808 : Nat) = 2 ^ 63 by decide] at h3 ⊢
    generalize hz : y - 2 ^ 63 = z at *
    rw [h3, Nat.xor_assoc, Nat.xor_self, Nat.xor_zero]
theorem bits_flip (y : Nat) (h : y < 18446744073709551616) : bits .xor .u64 (y : Int) 9223372036854775808 = ((flip y : Nat) : Int) := by
  have := u64_xor_nat y 9223372036854775808 h (by omega)
  rw [xor_flip y h] at this
  exact this

theorem flip_parts (y : Nat) (h : y < 18446744073709551616) : mP (flip y) = mP y ∧ eP (flip y) = eP y ∧ iP (flip y) = iP y ∧ nP (flip y) = nP y ∧ sP (flip y) = !sP y := by
  have h1 : flip y / 4503599627370496 % 2048 = y / 4503599627370496 % 2048 := by unfold flip; split <;> omega
  have h2 : flip y % 4503599627370496 = y % 4503599627370496 := by unfold flip; split <;> omega
  refine ⟨?_, ?_, ?_, ?_, ?_⟩
  · unfold mP; rw [h1, h2]
  · unfold eP; rw [h1]
  · unfold iP; rw [h1, h2]
  · unfold nP; rw [h1, h2]
  · unfold sP flip
    split
    · have a1 : (((9223372036854775808 + y : Nat) : Int) / 9223372036854775808 == 1) = true := by simp; omega
      have a2 : ((y : Int) / 9223372036854775808 == 1) = false := by simp; omega
      rw [a1, a2]; rfl
    · have a1 : (((y - 9223372036854775808 : Nat) : Int) / 9223372036854775808 == 1) = false := by simp; omega
      have a2 : ((y : Int) / 9223372036854775808 == 1) = true := by simp; omega
      rw [a1, a2]; rfl

theorem signed_val (s : Bool) (m k : Nat) : Ieee.signed s m k = if s then -((m * 2 ^ k : Nat) : Int) else ((m * 2 ^ k : Nat) : Int) := by
  unfold Ieee.signed
  rw [Nat.shiftLeft_eq]

/-- The sum of two numbers, on one place. -/
theorem sum_digits (s t : Bool) (A B : Nat) (low : Int) (h : ¬ (A = 0 ∧ B = 0)) :
    outW (some (.number (if (if s then -(A : Int) else A) + (if t then -(B : Int) else B) = 0 then s && t else decide ((if s then -(A : Int) else A) + (if t then -(B : Int) else B) < 0)) ((if s then -(A : Int) else A) + (if t then -(B : Int) else B)).natAbs low)) = sumW s t A B low := by
  unfold outW sumW
  cases s <;> cases t <;> simp only [Bool.false_eq_true, if_true, if_false, Bool.and_true, Bool.and_false, Bool.true_eq_false]
  · have h1 : ¬ ((A : Int) + B = 0) := by omega
    have h2 : ¬ ((A : Int) + B < 0) := by omega
    rw [if_neg h1, decide_eq_false h2, show ((A : Int) + B).natAbs = A + B by omega]
  · by_cases g : B < A
    · rw [if_pos g, if_neg (by omega), decide_eq_false (by omega), show ((A : Int) + -B).natAbs = A - B by omega]
    · rw [if_neg g]
      by_cases g2 : A < B
      · rw [if_pos g2, if_neg (by omega), decide_eq_true (by omega), show ((A : Int) + -B).natAbs = B - A by omega]
      · rw [if_neg g2, if_pos (by omega), show ((A : Int) + -B).natAbs = 0 by omega]
        unfold Ieee.Format.nearest
        rw [if_pos rfl, word_eq]; rfl
  · by_cases g : B < A
    · rw [if_pos g, if_neg (by omega), decide_eq_true (by omega), show (-(A : Int) + B).natAbs = A - B by omega]
    · rw [if_neg g]
      by_cases g2 : A < B
      · rw [if_pos g2, if_neg (by omega), decide_eq_false (by omega), show (-(A : Int) + B).natAbs = B - A by omega]
      · rw [if_neg g2, if_pos (by omega), show (-(A : Int) + B).natAbs = 0 by omega]
        unfold Ieee.Format.nearest
        rw [if_pos rfl, word_eq]; rfl
  · have h1 : ¬ (-(A : Int) + -B = 0) := by omega
    have h2 : (-(A : Int) + -B < 0) := by omega
    rw [if_neg h1, decide_eq_true h2, show (-(A : Int) + -B).natAbs = A + B by omega]

theorem addCase_of (x y : Nat) (hx : x < 18446744073709551616) (hy : y < 18446744073709551616) :
    addCase (sP x) (sP y) (iP x) (iP y) (nP x) (nP y) (mP x : Nat) (mP y : Nat) (eP x) (eP y) (min (eP x) (eP y)) x y
      (mP x * 2 ^ (eP x - min (eP x) (eP y)).toNat) (mP y * 2 ^ (eP y - min (eP x) (eP y)).toNat) (outW ((Ieee.double.read x).sum (Ieee.double.read y))) := by
  unfold addCase
  cases na : nP x
  · cases nb : nP y
    · cases i : iP x
      · cases j : iP y
        · rw [read_num x hx na i, read_num y hy nb j]
          simp only [Ieee.Datum.sum]
          by_cases hz : mP x = 0 ∧ mP y = 0
          · right; right; right; left
            refine ⟨trivial, trivial, trivial, trivial, by rw [hz.1]; rfl, by rw [hz.2]; rfl, ?_⟩
            rw [hz.1, hz.2]
            have e1 : ∀ (b : Bool) (k : Nat), Ieee.signed b 0 k = 0 := fun b k => by rw [signed_val]; cases b <;> simp
            rw [e1, e1]
            unfold outW
            simp only [Int.add_zero, if_true, Int.natAbs_zero]
            unfold Ieee.Format.nearest
            rw [if_pos rfl, word_eq, Nat.add_zero]
          · right; right; right; right
            refine ⟨trivial, trivial, trivial, trivial, ?_, ?_, ?_⟩
            · by_cases h0 : mP x = 0
              · right
                have : mP y ≠ 0 := fun e => hz ⟨h0, e⟩
                exact ⟨by rw [h0]; rfl, by simp [this]⟩
              · left; simp [h0]
            · omega
            · rw [signed_val, signed_val]
              exact sum_digits _ _ _ _ _ (fun e => hz ⟨(scale_zero _ _).1 e.1, (scale_zero _ _).1 e.2⟩)
        · right; right; left
          refine ⟨rfl, rfl, rfl, rfl, ?_⟩
          rw [read_num x hx na i, read_inf y hy nb j]
          exact own_inf y hy nb j
      · cases j : iP y
        · right; left
          refine ⟨rfl, rfl, rfl, .inl rfl, ?_⟩
          rw [read_inf x hx na i, read_num y hy nb j]
          exact own_inf x hx na i
        · rw [read_inf x hx na i, read_inf y hy nb j]
          by_cases hst : sP x = sP y
          · right; left
            refine ⟨rfl, rfl, rfl, .inr ⟨rfl, by rw [hst]; simp⟩, ?_⟩
            simp only [Ieee.Datum.sum]
            rw [if_pos hst]
            exact own_inf x hx na i
          · left
            refine ⟨.inr (.inr ⟨rfl, rfl, rfl, rfl, by simp [bne, hst]⟩), ?_⟩
            simp only [Ieee.Datum.sum]
            rw [if_neg hst]; rfl
    · left
      refine ⟨.inr (.inl ⟨rfl, rfl⟩), ?_⟩
      obtain ⟨a, b, e⟩ := read_nan y nb
      rw [e]
      cases Ieee.double.read x <;> rfl
  · left
    refine ⟨.inl rfl, ?_⟩
    obtain ⟨a, b, e⟩ := read_nan x na
    rw [e]; rfl

theorem sum_flip (x y : Nat) (hy : y < 18446744073709551616) : outW ((Ieee.double.read x).sum (Ieee.double.read (flip y))) = outW ((Ieee.double.read x).sum (Ieee.double.read y).opposite) := by
  obtain ⟨h1, h2, h3, h4, h5⟩ := flip_parts y hy
  have hf := flip_lt y hy
  cases nb : nP y
  · cases j : iP y
    · rw [read_num y hy nb j, read_num (flip y) hf (by rw [h4, nb]) (by rw [h3, j]), h1, h2, h5]; rfl
    · rw [read_inf y hy nb j, read_inf (flip y) hf (by rw [h4, nb]) (by rw [h3, j]), h5]; rfl
  · obtain ⟨a, b, e⟩ := read_nan y nb
    obtain ⟨a', b', e'⟩ := read_nan (flip y) (by rw [h4, nb])
    rw [e, e']
    cases Ieee.double.read x <;> rfl

theorem dg_scale_le2 (m k : Nat) (hm : m < 9007199254740992) (hk : k ≤ 8000) : (dg (m * 2 ^ k)).length ≤ 9000 := by
  refine Nat.le_trans (length_le _ (53 + k) ?_) (by omega)
  rw [Nat.pow_add]
  exact Nat.mul_lt_mul_of_pos_right (by omega) (Nat.two_pow_pos k)

theorem refAdd_any (x y : Nat) (hx : x < 18446744073709551616) (hy : y < 18446744073709551616) (w : World) :
    Calls Try.prog 16 #[.int .u64 (x : Int), .int .u64 (y : Int), .bool false] w fun r w' => r = .returned (.int .u64 ((opB .add x y : Nat) : Int)) ∧ Below w.heap.size w w' := by
  have b1 := eP_bounds x
  have b2 := eP_bounds y
  have m1 := mP_lt x
  have m2 := mP_lt y
  rw [add_out]
  exact refAdd_walk x y y false _ _ _ _ _ _ _ _ _ _ (min (eP x) (eP y)) (mP x) (mP y) _ _ _ w (parts_any x hx) (parts_any y hy) (by simp) rfl rfl (by omega) (by omega) b1.1 b1.2 b2.1 b2.2 rfl rfl
    (dg_scale_le2 _ _ m1 (by omega)) (dg_scale_le2 _ _ m2 (by omega)) (addCase_of x y hx hy)

theorem refSub_any (x y : Nat) (hx : x < 18446744073709551616) (hy : y < 18446744073709551616) (w : World) :
    Calls Try.prog 16 #[.int .u64 (x : Int), .int .u64 (y : Int), .bool true] w fun r w' => r = .returned (.int .u64 ((opB .sub x y : Nat) : Int)) ∧ Below w.heap.size w w' := by
  have hf := flip_lt y hy
  have b1 := eP_bounds x
  have b2 := eP_bounds (flip y)
  have m1 := mP_lt x
  have m2 := mP_lt (flip y)
  rw [sub_out, ← sum_flip x y hy]
  exact refAdd_walk x y (flip y) true _ _ _ _ _ _ _ _ _ _ (min (eP x) (eP (flip y))) (mP x) (mP (flip y)) _ _ _ w (parts_any x hx) (parts_any (flip y) hf) (by simpa using bits_flip y hy) rfl rfl (by omega) (by omega) b1.1 b1.2 b2.1 b2.2 rfl rfl
    (dg_scale_le2 _ _ m1 (by omega)) (dg_scale_le2 _ _ m2 (by omega)) (addCase_of x (flip y) hx hf)
end Go.Proofs.Ytllgkkbdpabhjaa
