/- What the parts of two words tell of their order; no condition. -/
import Derived.Test.YtllgkkbdpabhjaaRefLessA
namespace Go.Proofs.Ytllgkkbdpabhjaa
open Go

def EE (x : Nat) : Int := if iP x then 3000 else eP x
def MM (x : Nat) : Nat := if iP x then 1 else mP x
theorem EE_bounds (x : Nat) : -1074 ≤ EE x ∧ EE x ≤ 3000 := by
  unfold EE
  have := eP_bounds x
  split <;> omega
theorem MM_lt (x : Nat) : MM x < 9007199254740992 := by
  unfold MM
  have := mP_lt x
  split <;> omega
theorem V_parts (x : Nat) : V x = (if sP x then -((MM x : Nat) : Int) else (MM x : Nat)) * 2 ^ (EE x + 1074).toNat := by
  unfold V EE MM
  cases iP x
  · simp only [Bool.false_eq_true, if_false]
    unfold Ieee.signed
    rw [Nat.shiftLeft_eq]
    split <;> simp [Int.neg_mul]
  · simp only [if_true]
    unfold Ieee.signed
    rw [Nat.shiftLeft_eq]
    have : (3000 + 1074 : Int).toNat = bigE := rfl
    rw [this]
    split <;> simp

theorem lessR_V (s t : Bool) (A B : Nat) (K : Int) (hK : 0 < K) (hz : ¬ (A = 0 ∧ B = 0)) :
    lessR s t (cmpI A B) = (decide ((if s then -(A : Int) else A) * K < (if t then -(B : Int) else B) * K), decide ((if s then -(A : Int) else A) * K = (if t then -(B : Int) else B) * K)) := by
  have h1 : ∀ a b : Int, (decide (a * K < b * K)) = decide (a < b) := fun a b => by
    rw [Bool.eq_iff_iff, decide_eq_true_eq, decide_eq_true_eq]; exact Int.mul_lt_mul_right hK
  have h2 : ∀ a b : Int, (decide (a * K = b * K)) = decide (a = b) := fun a b => by
    rw [Bool.eq_iff_iff, decide_eq_true_eq, decide_eq_true_eq]; exact Int.mul_eq_mul_right_iff (by omega)
  rw [h1, h2]
  unfold lessR cmpI
  cases s <;> cases t <;> simp only [Bool.and_true, Bool.and_false, Bool.false_eq_true, if_true, if_false, Prod.mk.injEq]
  all_goals
    constructor
    all_goals
      (try split) <;> (try split) <;> simp <;> omega

/-- The answer of the parts is the order of the words. -/
theorem lessCase_V (x y : Nat) (A B : Nat) (K : Int) (hK : 0 < K) (hA : V x = (if sP x then -(A : Int) else A) * K) (hB : V y = (if sP y then -(B : Int) else B) * K) (zA : A = 0 ↔ MM x = 0) (zB : B = 0 ↔ MM y = 0) :
    lessCaseR (sP x) (sP y) (MM x : Nat) (MM y : Nat) (cmpI A B) (decide (V x < V y), decide (V x = V y)) := by
  unfold lessCaseR
  by_cases h : MM x = 0 ∧ MM y = 0
  · left
    have a0 := zA.2 h.1
    have b0 := zB.2 h.2
    subst a0 b0
    rw [hA, hB, h.1, h.2]
    simp
  · right
    refine ⟨?_, ?_⟩
    · by_cases h0 : MM x = 0
      · right
        have : ¬ MM y = 0 := fun e => h ⟨h0, e⟩
        simp [h0, this]
      · left; simp [h0]
    · rw [hA, hB]
      exact (lessR_V _ _ A B K hK (fun e => h ⟨zA.1 e.1, zB.1 e.2⟩)).symm

theorem scale_zero (m k : Nat) : m * 2 ^ k = 0 ↔ m = 0 := by
  have := Nat.two_pow_pos k
  constructor
  · intro h
    rcases Nat.mul_eq_zero.1 h with h | h
    · exact h
    · omega
  · rintro rfl; exact Nat.zero_mul _

theorem dg_scale_le (m k : Nat) (hm : m < 9007199254740992) (hk : k ≤ 10000) : (dg (m * 2 ^ k)).length ≤ 100000 := by
  by_cases h : m = 0
  · subst h; rw [Nat.zero_mul, dg_zero]; exact Nat.zero_le _
  · have h2 : m * 2 ^ k ≠ 0 := fun e => h ((scale_zero m k).1 e)
    rw [length_dg _ h2]
    have : m * 2 ^ k < 2 ^ (53 + k) := by
      rw [Nat.pow_add]; exact Nat.mul_lt_mul_of_pos_right (by omega) (Nat.two_pow_pos k)
    have := (Nat.log2_lt h2).2 this
    omega
theorem partsE_of (x : Nat) : partsE (iP x) (eP x) (EE x) ((mP x : Nat) : Int) ((MM x : Nat) : Int) := by
  unfold partsE EE MM
  cases iP x
  · right; exact ⟨rfl, rfl, rfl⟩
  · left; exact ⟨rfl, rfl, rfl⟩

theorem pow_pos_int (k : Nat) : (0 : Int) < 2 ^ k := by exact_mod_cast Nat.two_pow_pos k

theorem V_le (x y : Nat) (h : EE x ≤ EE y) : ∃ K : Int, 0 < K ∧ V x = (if sP x then -((MM x * 2 ^ (0 : Int).toNat : Nat) : Int) else (MM x * 2 ^ (0 : Int).toNat : Nat)) * K ∧ V y = (if sP y then -((MM y * 2 ^ (EE y - EE x).toNat : Nat) : Int) else (MM y * 2 ^ (EE y - EE x).toNat : Nat)) * K := by
  have b1 := EE_bounds x
  refine ⟨2 ^ (EE x + 1074).toNat, pow_pos_int _, ?_, ?_⟩
  · rw [V_parts]; simp
  · rw [V_parts, show (EE y + 1074).toNat = (EE y - EE x).toNat + (EE x + 1074).toNat by omega, Int.pow_add]
    split
    · rw [← Int.mul_assoc]; congr 1; simp [Int.neg_mul]
    · rw [← Int.mul_assoc]; congr 1
theorem V_gt (x y : Nat) (h : EE y < EE x) : ∃ K : Int, 0 < K ∧ V x = (if sP x then -((MM x * 2 ^ (EE x - EE y).toNat : Nat) : Int) else (MM x * 2 ^ (EE x - EE y).toNat : Nat)) * K ∧ V y = (if sP y then -((MM y * 2 ^ (0 : Int).toNat : Nat) : Int) else (MM y * 2 ^ (0 : Int).toNat : Nat)) * K := by
  obtain ⟨K, h1, h2, h3⟩ := V_le y x (by omega)
  exact ⟨K, h1, h3, h2⟩
end Go.Proofs.Ytllgkkbdpabhjaa
