/- The document's product is the standard's; at every two words. -/
import Derived.Test.YtllgkkbdpabhjaaRefMul
namespace Go.Proofs.Ytllgkkbdpabhjaa
open Go Go.Proofs Go.RowKit

theorem xor_beq (s t : Bool) : (s ^^ t) = !(s == t) := by cases s <;> cases t <;> rfl

theorem inf_nearest (b : Bool) : Ieee.double.nearest b (1 * 2 ^ (2000 : Int).toNat) 0 = Ieee.double.word b 9218868437227405312 := by
  rw [nearest_scale, nearest_rung _ _ _ (by omega)]
  have e : (0 : Int) + ((2000 : Int).toNat : Nat) = 2000 := rfl
  rw [e]
  have hl : lastP 1 2000 = 1948 := by
    unfold lastP
    have : (1 : Nat).log2 = 0 := by decide
    rw [this]; rfl
  unfold rung
  rw [hl, Nat.min_eq_right]
  have : ((1948 : Int) + 1074).toNat = 3022 := rfl
  rw [this]
  omega

theorem mulCase_of (x y : Nat) (hx : x < 18446744073709551616) (hy : y < 18446744073709551616) :
    mulCase (sP x) (sP y) (iP x) (iP y) (nP x) (nP y) (mP x : Nat) (mP y : Nat) (mP x) (mP y) (1 * 2 ^ (2000 : Int).toNat) (eP x + eP y) (outW ((Ieee.double.read x).product (Ieee.double.read y))) := by
  unfold mulCase
  rw [inf_nearest]
  cases na : nP x
  · cases nb : nP y
    · cases i : iP x
      · cases j : iP y
        · right; right
          refine ⟨rfl, rfl, rfl, rfl, ?_⟩
          rw [read_num x hx na i, read_num y hy nb j, ← xor_beq]; rfl
        · rw [read_num x hx na i, read_inf y hy nb j]
          simp only [Ieee.Datum.product]
          by_cases h : mP x = 0
          · left
            refine ⟨.inr (.inr (.inr ⟨trivial, trivial, trivial, trivial, by rw [h]; rfl⟩)), ?_⟩
            rw [if_pos h]; rfl
          · right; left
            refine ⟨.inr (.inr ⟨trivial, trivial, trivial, trivial, by simp [h]⟩), ?_⟩
            rw [if_neg h, ← xor_beq]
            show Ieee.double.word (sP y ^^ sP x) _ = _
            rw [Bool.xor_comm]
      · cases j : iP y
        · rw [read_inf x hx na i, read_num y hy nb j]
          simp only [Ieee.Datum.product]
          by_cases h : mP y = 0
          · left
            refine ⟨.inr (.inr (.inl ⟨trivial, trivial, trivial, trivial, by rw [h]; rfl⟩)), ?_⟩
            rw [if_pos h]; rfl
          · right; left
            refine ⟨.inr (.inl ⟨trivial, trivial, trivial, trivial, by simp [h]⟩), ?_⟩
            rw [if_neg h, ← xor_beq]; rfl
        · right; left
          refine ⟨.inl ⟨rfl, rfl, rfl, rfl⟩, ?_⟩
          rw [read_inf x hx na i, read_inf y hy nb j, ← xor_beq]; rfl
    · left
      refine ⟨.inr (.inl ⟨rfl, rfl⟩), ?_⟩
      obtain ⟨a, b, e⟩ := read_nan y nb
      rw [e]
      cases Ieee.double.read x <;> rfl
  · left
    refine ⟨.inl rfl, ?_⟩
    obtain ⟨a, b, e⟩ := read_nan x na
    rw [e]; rfl

theorem dg_pow_le (k : Nat) : (dg (1 * 2 ^ k)).length ≤ k + 1 := length_le _ (k + 1) (by rw [Nat.one_mul]; exact Nat.pow_lt_pow_right (by omega) (by omega))

theorem refMul_any (x y : Nat) (hx : x < 18446744073709551616) (hy : y < 18446744073709551616) (w : World) :
    Calls Try.prog 19 #[.int .u64 (x : Int), .int .u64 (y : Int)] w fun r w' => r = .returned (.int .u64 ((opB .mul x y : Nat) : Int)) ∧ Below w.heap.size w w' := by
  have b1 := eP_bounds x
  have b2 := eP_bounds y
  have m1 := mP_lt x
  have m2 := mP_lt y
  rw [mul_out]
  refine refMul_walk x y _ _ _ _ _ _ _ _ _ _ _ 2000 (mP x) (mP y) _ _ w (parts_any x hx) (parts_any y hy) rfl rfl (by omega) (by omega) b1.1 b1.2 b2.1 b2.2 rfl rfl rfl ?_ ?_ (mulCase_of x y hx hy)
  · exact Nat.le_trans (dg_pow_le _) (by decide)
  · intro k
    refine Nat.le_trans (length_le _ 106 ?_) (by omega)
    have h1 : mP y % 2 ^ k ≤ mP y := Nat.mod_le _ _
    have h2 : mP x * (mP y % 2 ^ k) ≤ 9007199254740991 * 9007199254740991 := Nat.mul_le_mul (by omega) (by omega)
    omega
end Go.Proofs.Ytllgkkbdpabhjaa
