/- The document's quotient is the standard's; at every two words. -/
import Derived.Test.YtllgkkbdpabhjaaRefDiv
namespace Go.Proofs.Ytllgkkbdpabhjaa
open Go Go.Proofs Go.RowKit

/-- Something is left of a quotient. -/
def leftB (X n : Nat) : Bool := decide (0 < X % n)

theorem quo_div (m n a k D : Nat) : m * 2 ^ (a + k) / n / 2 ^ (D + k) = m * 2 ^ a / n / 2 ^ D := by
  rw [Nat.div_div_eq_div_mul, Nat.div_div_eq_div_mul, Nat.pow_add, Nat.pow_add, ← Nat.mul_assoc, ← Nat.mul_assoc]
  exact Nat.mul_div_mul_right _ _ (Nat.two_pow_pos k)

theorem left_rest (X n j : Nat) (hn : 0 < n) : (leftB X n || (X / n % 2 ^ j != 0)) = decide (0 < X % (n * 2 ^ j)) := by
  unfold leftB
  rw [Nat.mod_mul, Bool.eq_iff_iff]
  have h := Nat.mul_eq_zero (n := n) (m := X / n % 2 ^ j)
  simp only [Bool.or_eq_true, decide_eq_true_eq, bne_iff_ne, ne_eq]
  generalize X / n % 2 ^ j = y at *
  generalize X % n = z at *
  constructor
  · rintro (h1 | h1)
    · omega
    · have : n * y ≠ 0 := fun e => by rcases h.1 e with h | h <;> omega
      omega
  · intro h1
    by_cases hz : 0 < z
    · exact .inl hz
    · right
      intro hy
      subst hy
      rw [Nat.mul_zero] at h1
      omega

theorem rest_scale (m n a k D : Nat) (hn : 0 < n) (hD : 0 < D) : restB (m * 2 ^ (a + k) / n) (D + k) (leftB (m * 2 ^ (a + k)) n) = restB (m * 2 ^ a / n) D (leftB (m * 2 ^ a) n) := by
  unfold restB
  rw [left_rest _ _ _ hn, left_rest _ _ _ hn, show D + k - 1 = D - 1 + k by omega, Nat.pow_add, Nat.pow_add, ← Nat.mul_assoc, ← Nat.mul_assoc, Nat.mul_mod_mul_right]
  have hk := Nat.two_pow_pos k
  generalize m * 2 ^ a % (n * 2 ^ (D - 1)) = y
  rw [Bool.eq_iff_iff, decide_eq_true_eq, decide_eq_true_eq]
  constructor
  · intro h
    rcases Nat.eq_zero_or_pos y with h0 | h0
    · rw [h0, Nat.zero_mul] at h; omega
    · exact h0
  · intro h; exact Nat.mul_pos h hk

theorem half_scale (m n a k D : Nat) (hD : 0 < D) : halfB (m * 2 ^ (a + k) / n) (D + k) = halfB (m * 2 ^ a / n) D := by
  unfold halfB
  rw [show D + k - 1 = D - 1 + k by omega, quo_div]
  have h1 : decide (0 < D + k) = decide (0 < D) := by rw [Bool.eq_iff_iff]; simp; omega
  rw [h1]

theorem roundK_scale (m n a k D : Nat) (hn : 0 < n) (hD : 0 < D) : roundK (m * 2 ^ (a + k) / n) 0 (D + k) (leftB (m * 2 ^ (a + k)) n) = roundK (m * 2 ^ a / n) 0 D (leftB (m * 2 ^ a) n) := by
  unfold roundK keptN
  rw [half_scale m n a k D hD, rest_scale m n a k D hn hD, Nat.pow_zero, Nat.mul_one, Nat.mul_one, quo_div]

theorem log2_quo (m n a k : Nat) (hn : 0 < n) (hQ : m * 2 ^ a / n ≠ 0) : (m * 2 ^ (a + k) / n).log2 = (m * 2 ^ a / n).log2 + k ∧ m * 2 ^ (a + k) / n ≠ 0 := by
  have h1 := Nat.log2_self_le hQ
  have h2 : m * 2 ^ a / n < 2 ^ ((m * 2 ^ a / n).log2 + 1) := Nat.lt_log2_self
  generalize (m * 2 ^ a / n).log2 = g at *
  rw [Nat.le_div_iff_mul_le hn] at h1
  rw [Nat.div_lt_iff_lt_mul hn] at h2
  have hk := Nat.two_pow_pos k
  have h3 : 2 ^ (g + k) ≤ m * 2 ^ (a + k) / n := by
    rw [Nat.le_div_iff_mul_le hn, Nat.pow_add, Nat.pow_add, ← Nat.mul_assoc, Nat.mul_right_comm]
    exact Nat.mul_le_mul_right _ h1
  have h4 : m * 2 ^ (a + k) / n < 2 ^ (g + k + 1) := by
    rw [Nat.div_lt_iff_lt_mul hn, show g + k + 1 = g + 1 + k by omega, Nat.pow_add, Nat.pow_add 2 (g + 1) k, ← Nat.mul_assoc, Nat.mul_right_comm (2 ^ (g + 1))]
    exact Nat.mul_lt_mul_of_pos_right h2 hk
  have h0 : m * 2 ^ (a + k) / n ≠ 0 := by have := Nat.two_pow_pos (g + k); omega
  exact ⟨(Nat.log2_eq_iff h0).2 ⟨h3, h4⟩, h0⟩

/-- How many more digits are reckoned changes nothing. -/
theorem quo_nearest (b : Bool) (m n a k : Nat) (p : Int) (hn : 0 < n) (hQ : 2 ^ 53 ≤ m * 2 ^ a / n) :
    Ieee.double.nearest b (2 * (m * 2 ^ (a + k) / n) + (leftB (m * 2 ^ (a + k)) n).toNat) (p - ((a + k : Nat) : Int) - 1) = Ieee.double.nearest b (2 * (m * 2 ^ a / n) + (leftB (m * 2 ^ a) n).toNat) (p - (a : Int) - 1) := by
  have hQ0 : m * 2 ^ a / n ≠ 0 := by omega
  obtain ⟨hl, hQk⟩ := log2_quo m n a k hn hQ0
  have hlog : 53 ≤ (m * 2 ^ a / n).log2 := (Nat.le_log2 hQ0).2 hQ
  have hsc := fun D hD => roundK_scale m n a k D hn hD
  generalize leftB (m * 2 ^ (a + k)) n = s1 at *
  generalize leftB (m * 2 ^ a) n = s2 at *
  generalize m * 2 ^ (a + k) / n = Q1 at *
  generalize m * 2 ^ a / n = Q2 at *
  rw [nearest_rung _ _ _ (by omega), nearest_rung _ _ _ (by omega)]
  have e1 : lastP (2 * Q1 + s1.toNat) (p - ((a + k : Nat) : Int) - 1) = lastP (2 * Q2 + s2.toNat) (p - (a : Int) - 1) := by
    unfold lastP
    rw [log2_two _ _ hQk, log2_two _ _ hQ0, hl]
    omega
  have hge : p - (a : Int) + 1 ≤ lastP (2 * Q2 + s2.toNat) (p - (a : Int) - 1) := by
    unfold lastP
    rw [log2_two _ _ hQ0]
    omega
  have key : ∀ last : Int, p - (a : Int) + 1 ≤ last → RN (2 * Q1 + s1.toNat) (last - (p - ((a + k : Nat) : Int) - 1)) = RN (2 * Q2 + s2.toNat) (last - (p - (a : Int) - 1)) := by
    intro last hl2
    obtain ⟨D, hD⟩ : ∃ D : Nat, last - (p - (a : Int)) = D := ⟨(last - (p - (a : Int))).toNat, by omega⟩
    have hDp : 0 < D := by omega
    have r1 := roundK_RN Q1 0 (D + k) ((D + k : Nat) : Int) s1 (.inl ⟨rfl, rfl⟩) (.inr (by omega))
    have r2 := roundK_RN Q2 0 D (D : Int) s2 (.inl ⟨rfl, rfl⟩) (.inr hDp)
    rw [show last - (p - ((a + k : Nat) : Int) - 1) = ((D + k : Nat) : Int) + 1 by omega, show last - (p - (a : Int) - 1) = (D : Int) + 1 by omega, ← r1, ← r2]
    exact hsc D hDp
  unfold rung
  rw [e1, key _ hge]

theorem divCase_of (x y : Nat) (hx : x < 18446744073709551616) (hy : y < 18446744073709551616) :
    divCase (sP x) (sP y) (iP x) (iP y) (nP x) (nP y) (mP x : Nat) (mP y : Nat) (mP x) (mP y) (1 * 2 ^ (2000 : Int).toNat) (eP x - eP y) (outW ((Ieee.double.read x).quotient 54 (Ieee.double.read y))) := by
  unfold divCase
  rw [inf_nearest]
  have hinf : ∀ z, iP z = true → mP z = 0 := fun z hz => by
    unfold iP at hz
    simp only [Bool.and_eq_true, decide_eq_true_eq] at hz
    unfold mP
    rw [if_pos hz.1]
  cases na : nP x
  · cases nb : nP y
    · cases i : iP x
      · cases j : iP y
        · rw [read_num x hx na i, read_num y hy nb j]
          simp only [Ieee.Datum.quotient]
          by_cases hn : mP y = 0
          · rw [if_pos hn]
            by_cases hm : mP x = 0
            · rw [if_pos hm]
              left
              exact ⟨.inr (.inr (.inr ⟨trivial, trivial, trivial, trivial, by rw [hm]; rfl, by rw [hn]; rfl⟩)), rfl⟩
            · rw [if_neg hm]
              right; left
              refine ⟨.inr ⟨trivial, trivial, trivial, trivial, by simp [hm], by rw [hn]; rfl⟩, ?_⟩
              rw [← xor_beq]; rfl
          · rw [if_neg hn]
            by_cases hm : mP x = 0
            · right; right; left
              refine ⟨.inr ⟨trivial, trivial, trivial, trivial, by rw [hm]; rfl, by simp [hn]⟩, ?_⟩
              rw [hm, Nat.zero_shiftLeft, Nat.zero_div, Nat.zero_mod, ← xor_beq]
              unfold outW
              show Ieee.double.nearest _ 0 _ = Ieee.double.nearest _ 0 0
              unfold Ieee.Format.nearest
              rw [if_pos rfl, if_pos rfl]
            · right; right; right
              have m1 := mP_lt x
              have m2 := mP_lt y
              refine ⟨trivial, trivial, trivial, trivial, by simp [hm], by simp [hn], by omega, by omega, ?_⟩
              rw [← xor_beq]
              have l1 := Nat.log2_self_le hm
              have l2 : mP y < 2 ^ ((mP y).log2 + 1) := Nat.lt_log2_self
              have l3 : (mP y).log2 < 53 := (Nat.log2_lt hn).2 (by omega)
              have l4 : (mP x).log2 < 53 := (Nat.log2_lt hm).2 (by omega)
              obtain ⟨a, ha⟩ : ∃ a, 54 + (mP y).log2 - (mP x).log2 = a := ⟨_, rfl⟩
              rw [ha]
              have hQ : 2 ^ 53 ≤ mP x * 2 ^ a / mP y := by
                rw [Nat.le_div_iff_mul_le (by omega)]
                have h1 : 2 ^ (mP x).log2 * 2 ^ a ≤ mP x * 2 ^ a := Nat.mul_le_mul_right _ l1
                rw [← Nat.pow_add, show (mP x).log2 + a = 53 + ((mP y).log2 + 1) by omega, Nat.pow_add] at h1
                have h2 : 2 ^ 53 * mP y ≤ 2 ^ 53 * 2 ^ ((mP y).log2 + 1) := Nat.mul_le_mul_left _ (by omega)
                exact Nat.le_trans h2 h1
              have hq := quo_nearest (sP x ^^ sP y) (mP x) (mP y) a (120 - a) (eP x - eP y) (by omega) hQ
              rw [show a + (120 - a) = 120 by omega] at hq
              unfold outW
              rw [Nat.shiftLeft_eq]
              have hs : (mP x * 2 ^ a % mP y != 0) = leftB (mP x * 2 ^ a) (mP y) := by
                unfold leftB
                generalize mP x * 2 ^ a % mP y = z
                rw [Bool.eq_iff_iff]; simp; omega
              rw [hs]
              exact hq.symm
        · right; right; left
          refine ⟨.inl ⟨rfl, rfl, rfl, rfl, by rw [hinf y j]; rfl⟩, ?_⟩
          rw [read_num x hx na i, read_inf y hy nb j, ← xor_beq]; rfl
      · cases j : iP y
        · right; left
          refine ⟨.inl ⟨rfl, rfl, rfl, rfl⟩, ?_⟩
          rw [read_inf x hx na i, read_num y hy nb j, ← xor_beq]; rfl
        · left
          refine ⟨.inr (.inr (.inl ⟨rfl, rfl, rfl, rfl⟩)), ?_⟩
          rw [read_inf x hx na i, read_inf y hy nb j]; rfl
    · left
      refine ⟨.inr (.inl ⟨rfl, rfl⟩), ?_⟩
      obtain ⟨a, b, e⟩ := read_nan y nb
      rw [e]
      cases Ieee.double.read x <;> rfl
  · left
    refine ⟨.inl rfl, ?_⟩
    obtain ⟨a, b, e⟩ := read_nan x na
    rw [e]; rfl

theorem refDiv_any (x y : Nat) (hx : x < 18446744073709551616) (hy : y < 18446744073709551616) (w : World) :
    Calls Try.prog 21 #[.int .u64 (x : Int), .int .u64 (y : Int)] w fun r w' => r = .returned (.int .u64 ((opB .quo x y : Nat) : Int)) ∧ Below w.heap.size w w' := by
  have b1 := eP_bounds x
  have b2 := eP_bounds y
  have m1 := mP_lt x
  have m2 := mP_lt y
  rw [quo_out]
  exact refDiv_walk x y _ _ _ _ _ _ _ _ _ _ _ 2000 (mP x) (mP y) _ _ w (parts_any x hx) (parts_any y hy) rfl rfl m1 m2 b1.1 b1.2 b2.1 b2.2 rfl rfl rfl (Nat.le_trans (dg_pow_le _) (by decide)) (divCase_of x y hx hy)
end Go.Proofs.Ytllgkkbdpabhjaa
