/- What is cut off a word's number, and which may be; no condition. -/
import Derived.Test.YtllgkkbdpabhjaaRoundMath
import Derived.Test.YtllgkkbdpabhjaaOrderMath
import Derived.Test.YtllgkkbdpabhjaaSwapMath
namespace Go.Proofs.Ytllgkkbdpabhjaa
open Go

def loW : Nat := 14114281232179134464
def hiW : Nat := 4890909195324358656
theorem lo_parts : sP loW = true ∧ MM loW = 4503599627370496 ∧ EE loW = 11 ∧ isN loW = false := by decide
theorem hi_parts : sP hiW = false ∧ MM hiW = 4503599627370496 ∧ EE hiW = 11 ∧ isN hiW = false := by decide

theorem cutB_none (x : Nat) (h : isN x = true) : cutB x = false := by
  unfold cutB atLo atHi
  have h1 : FloatKind.f64.format.order x 14114281232179134464 = none := order_none x _ (.inl h)
  rw [h1]; rfl
theorem cutB_V (x : Nat) (hx : x < 18446744073709551616) (h : isN x = false) : cutB x = (decide (V loW ≤ V x) && decide (V x < V hiW)) := by
  unfold cutB atLo atHi
  have h1 : FloatKind.f64.format.order x 14114281232179134464 = some (compare (V x) (V loW)) := order_V x loW hx (by decide) h lo_parts.2.2.2
  have h2 : FloatKind.f64.format.order x 4890909195324358656 = some (compare (V x) (V hiW)) := order_V x hiW hx (by decide) h hi_parts.2.2.2
  rw [h1, h2]
  generalize V loW = a
  generalize V hiW = b
  generalize V x = v
  congr 1
  · rcases Int.lt_trichotomy v a with g | g | g
    · rw [cmp_of_lt g]; simp; omega
    · rw [cmp_eq.2 g]; simp; omega
    · rw [cmp_of_gt g]; simp; omega
  · rcases Int.lt_trichotomy v b with g | g | g
    · rw [cmp_of_lt g]; simp; omega
    · rw [cmp_eq.2 g]; simp; omega
    · rw [cmp_of_gt g]; simp; omega

theorem mul_pos_le {a b K : Int} (hK : 0 < K) : a * K ≤ b * K ↔ a ≤ b := Int.mul_le_mul_right hK
theorem mul_pos_lt {a b K : Int} (hK : 0 < K) : a * K < b * K ↔ a < b := Int.mul_lt_mul_right hK

theorem lo_le (x : Nat) (h : EE x ≤ 11) : (V loW ≤ V x) ↔ -((4503599627370496 * 2 ^ (11 - EE x).toNat : Nat) : Int) ≤ (if sP x then -((MM x : Nat) : Int) else (MM x : Nat)) := by
  obtain ⟨K, hK, h1, h2⟩ := V_le x loW (by rw [lo_parts.2.2.1]; exact h)
  rw [h1, h2, lo_parts.1, lo_parts.2.1, lo_parts.2.2.1, if_pos rfl, mul_pos_le hK]
  simp
theorem hi_lt (x : Nat) (h : EE x ≤ 11) : (V x < V hiW) ↔ (if sP x then -((MM x : Nat) : Int) else (MM x : Nat)) < ((4503599627370496 * 2 ^ (11 - EE x).toNat : Nat) : Int) := by
  obtain ⟨K, hK, h1, h2⟩ := V_le x hiW (by rw [hi_parts.2.2.1]; exact h)
  rw [h1, h2, hi_parts.1, hi_parts.2.1, hi_parts.2.2.1, if_neg (show ¬ (false = true) by decide), mul_pos_lt hK]
  simp
theorem lo_gt (x : Nat) (h : 11 < EE x) : (V loW ≤ V x) ↔ -(4503599627370496 : Int) ≤ (if sP x then -((MM x * 2 ^ (EE x - 11).toNat : Nat) : Int) else (MM x * 2 ^ (EE x - 11).toNat : Nat)) := by
  obtain ⟨K, hK, h1, h2⟩ := V_gt x loW (by rw [lo_parts.2.2.1]; exact h)
  rw [h1, h2, lo_parts.1, lo_parts.2.1, lo_parts.2.2.1, if_pos rfl, mul_pos_le hK]
  simp
theorem hi_gt (x : Nat) (h : 11 < EE x) : (V x < V hiW) ↔ (if sP x then -((MM x * 2 ^ (EE x - 11).toNat : Nat) : Int) else (MM x * 2 ^ (EE x - 11).toNat : Nat)) < (4503599627370496 : Int) := by
  obtain ⟨K, hK, h1, h2⟩ := V_gt x hiW (by rw [hi_parts.2.2.1]; exact h)
  rw [h1, h2, hi_parts.1, hi_parts.2.1, hi_parts.2.2.1, if_neg (show ¬ (false = true) by decide), mul_pos_lt hK]
  simp

theorem m_normal (x : Nat) (hi : iP x = false) (hn : nP x = false) (h : eP x ≠ -1074) : 4503599627370496 ≤ mP x := by
  unfold iP at hi
  unfold nP at hn
  unfold eP at h
  unfold mP
  by_cases h1 : x / 4503599627370496 % 2048 = 2047
  · simp [h1] at hi hn; omega
  · rw [if_neg h1] at h ⊢
    by_cases h2 : x / 4503599627370496 % 2048 = 0
    · rw [if_pos h2] at h; omega
    · rw [if_neg h2]; omega

/-- The number without what is behind the point. -/
def TT (m : Nat) (p : Int) : Nat := if 0 ≤ p then m * 2 ^ p.toNat else m / 2 ^ (-p).toNat

theorem toInt_num (s : Bool) (m : Nat) (p : Int) : (Ieee.Datum.number s m p).toInt .zero = some (if s then -((TT m p : Nat) : Int) else (TT m p : Nat)) := by
  unfold Ieee.Datum.toInt Ieee.Datum.integral
  dsimp only
  have e : Ieee.Toward.zero.cut s (m <<< p.toNat) (-p).toNat = TT m p := by
    unfold Ieee.Toward.cut TT
    dsimp only
    rw [Nat.shiftLeft_eq, Nat.one_shiftLeft]
    show m * 2 ^ p.toNat / 2 ^ _ + 0 = _
    rw [Nat.add_zero]
    by_cases hp : 0 ≤ p
    · rw [if_pos hp, show (-p).toNat = 0 by omega, Nat.zero_min, Nat.pow_zero, Nat.div_one]
    · rw [if_neg hp, show p.toNat = 0 by omega, Nat.pow_zero, Nat.mul_one]
      by_cases h : (-p).toNat ≤ m.log2 + 2
      · rw [Nat.min_eq_left h]
      · rw [Nat.min_eq_right (by omega)]
        have h1 : m < 2 ^ (m.log2 + 1) := Nat.lt_log2_self
        have h2 : 2 ^ (m.log2 + 1) ≤ 2 ^ (m.log2 + 2) := Nat.pow_le_pow_right (by omega) (by omega)
        have h3 : 2 ^ (m.log2 + 1) ≤ 2 ^ (-p).toNat := Nat.pow_le_pow_right (by omega) (by omega)
        rw [Nat.div_eq_of_lt (by omega), Nat.div_eq_of_lt (by omega)]
  rw [e]
  unfold Ieee.signed
  rw [Nat.shiftLeft_zero]

theorem TT_le (m : Nat) (p : Int) (hm : m < 9007199254740992) (hp : p < 11) : TT m p < 9223372036854775808 := by
  unfold TT
  by_cases h : 0 ≤ p
  · rw [if_pos h]
    have : 2 ^ p.toNat ≤ 2 ^ 10 := Nat.pow_le_pow_right (by omega) (by omega)
    have h2 : m * 2 ^ p.toNat ≤ m * 2 ^ 10 := Nat.mul_le_mul_left _ this
    omega
  · rw [if_neg h]
    have := Nat.div_le_self m (2 ^ (-p).toNat)
    omega

theorem cut_val (x : Nat) (hx : x < 18446744073709551616) (hn : nP x = false) (hi : iP x = false) (hr : -9223372036854775808 ≤ (if sP x then -((TT (mP x) (eP x) : Nat) : Int) else (TT (mP x) (eP x) : Nat)) ∧ (if sP x then -((TT (mP x) (eP x) : Nat) : Int) else (TT (mP x) (eP x) : Nat)) ≤ 9223372036854775807) :
    floatToIntVal .f64 x .i64 = some (if sP x then -((TT (mP x) (eP x) : Nat) : Int) else (TT (mP x) (eP x) : Nat)) := by
  unfold floatToIntVal
  have : FloatKind.f64.decode x = Ieee.double.read x := rfl
  rw [this, read_num x hx hn hi, toInt_num]
  dsimp only
  rw [if_pos]
  exact hr

theorem EE_num (x : Nat) (hi : iP x = false) : EE x = eP x ∧ MM x = mP x := by
  unfold EE MM
  rw [hi]; exact ⟨rfl, rfl⟩
theorem EE_inf (x : Nat) (hi : iP x = true) : EE x = 3000 ∧ MM x = 1 := by
  unfold EE MM
  rw [hi]; exact ⟨rfl, rfl⟩

theorem and_false_of {a b : Bool} (h : a = false ∨ b = false) : (a && b) = false := by
  rcases h with h | h <;> rw [h]
  · rfl
  · exact Bool.and_false _

theorem big_times (m k : Nat) (hm : 0 < m) (hk : 53 ≤ k) : 4503599627370496 < m * 2 ^ k := by
  have h1 : 2 ^ 53 ≤ 2 ^ k := Nat.pow_le_pow_right (by omega) hk
  have h2 : 1 * 2 ^ k ≤ m * 2 ^ k := Nat.mul_le_mul_right _ hm
  omega
theorem twice (m k : Nat) (hm : 4503599627370496 ≤ m) (hk : 1 ≤ k) : 4503599627370496 < m * 2 ^ k := by
  have h1 : 2 ^ 1 ≤ 2 ^ k := Nat.pow_le_pow_right (by omega) hk
  have h2 : m * 2 ^ 1 ≤ m * 2 ^ k := Nat.mul_le_mul_left _ h1
  omega
theorem twice_le (k : Nat) (hk : 1 ≤ k) : 9007199254740992 ≤ 4503599627370496 * 2 ^ k := by
  have h1 : 2 ^ 1 ≤ 2 ^ k := Nat.pow_le_pow_right (by omega) hk
  have h2 : 4503599627370496 * 2 ^ 1 ≤ 4503599627370496 * 2 ^ k := Nat.mul_le_mul_left _ h1
  omega

/-- What may be cut, by the parts. -/
theorem cut_accept (x : Nat) (hx : x < 18446744073709551616) (hn : nP x = false) (hi : iP x = false) (h : eP x < 11 ∨ (eP x = 11 ∧ sP x = true ∧ mP x = 4503599627370496)) :
    cutB x = true ∧ floatToIntVal .f64 x .i64 = some (if sP x then -((TT (mP x) (eP x) : Nat) : Int) else (TT (mP x) (eP x) : Nat)) := by
  have hN : isN x = false := by rw [isN_nP]; exact hn
  have hm := mP_lt x
  obtain ⟨e1, e2⟩ := EE_num x hi
  rcases h with h | ⟨h1, h2, h3⟩
  · have ht := TT_le (mP x) (eP x) hm h
    refine ⟨?_, cut_val x hx hn hi (by cases sP x <;> simp <;> omega)⟩
    rw [cutB_V x hx hN]
    have a := (lo_le x (by omega))
    have b := (hi_lt x (by omega))
    rw [e1, e2] at a b
    have hk := twice_le (11 - eP x).toNat (by omega)
    rw [Bool.and_eq_true, decide_eq_true_eq, decide_eq_true_eq, a, b]
    generalize 4503599627370496 * 2 ^ (11 - eP x).toNat = Q at *
    cases sP x <;> simp <;> omega
  · have ht : TT (mP x) (eP x) = 9223372036854775808 := by
      unfold TT
      rw [h1, h3, if_pos (by omega)]
      decide
    refine ⟨?_, cut_val x hx hn hi (by rw [ht, h2]; simp)⟩
    rw [cutB_V x hx hN]
    have a := (lo_le x (by omega))
    have b := (hi_lt x (by omega))
    rw [e1, e2, h1, h2, h3] at a b
    rw [Bool.and_eq_true, decide_eq_true_eq, decide_eq_true_eq, a, b]
    decide

theorem cut_refuse (x : Nat) (hx : x < 18446744073709551616) (h : iP x = true ∨ (iP x = false ∧ nP x = true) ∨ (iP x = false ∧ nP x = false ∧ 11 < eP x) ∨ (iP x = false ∧ nP x = false ∧ eP x = 11 ∧ (sP x = false ∨ mP x ≠ 4503599627370496))) : cutB x = false := by
  cases hN : isN x
  · have hn := hN
    rw [isN_nP] at hn
    rw [cutB_V x hx hN]
    apply and_false_of
    rw [decide_eq_false_iff_not, decide_eq_false_iff_not]
    rcases h with h | ⟨h1, h2⟩ | ⟨h1, h2, h3⟩ | ⟨h1, h2, h3, h4⟩
    · obtain ⟨e1, e2⟩ := EE_inf x h
      have a := lo_gt x (by omega)
      have b := hi_gt x (by omega)
      rw [e1, e2] at a b
      have hk := big_times 1 (3000 - 11 : Int).toNat (by omega) (by omega)
      rw [a, b]
      generalize 1 * 2 ^ (3000 - 11 : Int).toNat = Q at *
      cases sP x <;> simp <;> omega
    · rw [hn] at h2; cases h2
    · obtain ⟨e1, e2⟩ := EE_num x h1
      have hm := m_normal x h1 h2 (by omega)
      have a := lo_gt x (by omega)
      have b := hi_gt x (by omega)
      rw [e1, e2] at a b
      have hk := twice (mP x) (eP x - 11).toNat hm (by omega)
      rw [a, b]
      generalize mP x * 2 ^ (eP x - 11).toNat = Q at *
      cases sP x <;> simp <;> omega
    · obtain ⟨e1, e2⟩ := EE_num x h1
      have hm := m_normal x h1 h2 (by omega)
      have a := lo_le x (by omega)
      have b := hi_lt x (by omega)
      rw [e1, e2, h3] at a b
      have e0 : 4503599627370496 * 2 ^ (11 - 11 : Int).toNat = 4503599627370496 := by decide
      rw [e0] at a b
      rw [a, b]
      rcases h4 with h4 | h4
      · rw [h4]; simp; omega
      · cases sP x <;> simp <;> omega
  · exact cutB_none x hN
end Go.Proofs.Ytllgkkbdpabhjaa
