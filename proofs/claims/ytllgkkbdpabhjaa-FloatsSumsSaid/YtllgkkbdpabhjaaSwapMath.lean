/- What the four operations give, as plain numbers: in which order they take their operands, and what 0, 1 and the number itself do; no condition. -/
import Derived.Test.YtllgkkbdpabhjaaNear
namespace Go.Proofs.Ytllgkkbdpabhjaa
open Go

theorem isN_word (s : Bool) (r : Nat) (h : r ≤ 9218868437227405312) : isN (Ieee.double.word s r) = false := by
  rw [isN_nP, word_eq]
  unfold nP
  cases s
  · by_cases e : (0 + r) / 4503599627370496 % 2048 = 2047
    · have : (0 + r) % 4503599627370496 = 0 := by omega
      simp only [Bool.false_eq_true, if_false, this]; simp
    · simp only [Bool.false_eq_true, if_false, e]; simp
  · by_cases e : (9223372036854775808 + r) / 4503599627370496 % 2048 = 2047
    · have : (9223372036854775808 + r) % 4503599627370496 = 0 := by omega
      simp only [if_true, this]; simp
    · simp only [if_true, e]; simp
theorem rung_le (n : Nat) (p : Int) : rung n p ≤ 9218868437227405312 := Nat.min_le_right _ _
theorem norm_word (s : Bool) (r : Nat) (h : r ≤ 9218868437227405312) : norm (Ieee.double.word s r) = Ieee.double.word s r := by
  unfold norm; rw [isN_word s r h]; rfl
theorem norm_nearest (s : Bool) (n : Nat) (p : Int) : norm (Ieee.double.nearest s n p) = Ieee.double.nearest s n p := by
  by_cases h : n = 0
  · unfold Ieee.Format.nearest; rw [if_pos h]; exact norm_word _ _ (by omega)
  · rw [nearest_rung _ _ _ h]; exact norm_word _ _ (rung_le _ _)

/-- A datum's word, NaN's made one. -/
def outW : Option Ieee.Datum → Nat
  | some (.number s m p) => Ieee.double.nearest s m p
  | some (.infinity s) => Ieee.double.word s 9218868437227405312
  | _ => noneB
def notNan : Option Ieee.Datum → Bool
  | some (.nan ..) => false
  | _ => true
theorem out_of (d : Option Ieee.Datum) (h : notNan d = true) : ((d.map Ieee.double.write).map norm).getD noneB = outW d := by
  match d with
  | none => rfl
  | some (.number s m p) =>
    show norm (Ieee.double.nearest s m p) = _
    rw [norm_nearest]; rfl
  | some (.infinity s) =>
    show norm (Ieee.double.word s Ieee.double.infRung) = _
    rw [show Ieee.double.infRung = 9218868437227405312 by decide, norm_word _ _ (by omega)]; rfl
  | some (.nan ..) => cases h

theorem sum_notNan (a b : Ieee.Datum) : notNan (a.sum b) = true := by
  cases a <;> cases b <;> simp only [Ieee.Datum.sum] <;> (try split) <;> rfl
theorem product_notNan (a b : Ieee.Datum) : notNan (a.product b) = true := by
  cases a <;> cases b <;> simp only [Ieee.Datum.product] <;> (try split) <;> rfl
theorem quotient_notNan (k : Nat) (a b : Ieee.Datum) : notNan (a.quotient k b) = true := by
  cases a <;> cases b <;> simp only [Ieee.Datum.quotient] <;> (try split) <;> (try split) <;> rfl

theorem add_out (x y : Nat) : opB .add x y = outW ((Ieee.double.read x).sum (Ieee.double.read y)) := out_of _ (sum_notNan _ _)
theorem sub_out (x y : Nat) : opB .sub x y = outW ((Ieee.double.read x).sum (Ieee.double.read y).opposite) := out_of _ (sum_notNan _ _)
theorem mul_out (x y : Nat) : opB .mul x y = outW ((Ieee.double.read x).product (Ieee.double.read y)) := out_of _ (product_notNan _ _)
theorem quo_out (x y : Nat) : opB .quo x y = outW ((Ieee.double.read x).quotient 54 (Ieee.double.read y)) := out_of _ (quotient_notNan _ _ _)

theorem sum_comm (a b : Ieee.Datum) : a.sum b = b.sum a := by
  cases a <;> cases b <;> simp only [Ieee.Datum.sum]
  · rename_i s m i t n j
    rw [Int.min_comm, Int.add_comm, Bool.and_comm]
  · rename_i s t
    by_cases h : s = t
    · subst h; rfl
    · rw [if_neg h, if_neg (fun e => h e.symm)]
theorem product_comm (a b : Ieee.Datum) : a.product b = b.product a := by
  cases a <;> cases b <;> simp only [Ieee.Datum.product]
  · rename_i s m i t n j
    rw [Bool.xor_comm, Nat.mul_comm, Int.add_comm]
  all_goals simp only [Bool.xor_comm]

theorem add_comm (x y : Nat) : opB .add x y = opB .add y x := by rw [add_out, add_out, sum_comm]
theorem mul_comm (x y : Nat) : opB .mul x y = opB .mul y x := by rw [mul_out, mul_out, product_comm]

/-- A word's three shapes. -/
theorem read_nan (x : Nat) (h : nP x = true) : ∃ s f, Ieee.double.read x = .nan s f := by rw [read_parts, h]; exact ⟨_, _, rfl⟩
theorem read_inf (x : Nat) (hx : x < 18446744073709551616) (h : nP x = false) (i : iP x = true) : Ieee.double.read x = .infinity (sP x) := by rw [read_parts, h, i, sP_eq x hx]; rfl
theorem read_num (x : Nat) (hx : x < 18446744073709551616) (h : nP x = false) (i : iP x = false) : Ieee.double.read x = .number (sP x) (mP x) (eP x) := by rw [read_parts, h, i, sP_eq x hx]; rfl

theorem sub_self_none (x : Nat) (h : nP x = true) : opB .sub x x = noneB := by
  obtain ⟨s, f, e⟩ := read_nan x h
  rw [sub_out, e]; rfl
theorem sub_self_inf (x : Nat) (hx : x < 18446744073709551616) (h : nP x = false) (i : iP x = true) : opB .sub x x = noneB := by
  rw [sub_out, read_inf x hx h i]
  cases sP x <;> rfl
theorem sub_self_num (x : Nat) (hx : x < 18446744073709551616) (h : nP x = false) (i : iP x = false) : opB .sub x x = 0 := by
  rw [sub_out, read_num x hx h i]
  simp only [Ieee.Datum.opposite, Ieee.Datum.sum]
  have e : Ieee.signed (sP x) (mP x) (eP x - min (eP x) (eP x)).toNat + Ieee.signed (!sP x) (mP x) (eP x - min (eP x) (eP x)).toNat = 0 := by
    unfold Ieee.signed
    cases sP x <;> simp <;> omega
  rw [e]
  unfold outW
  simp only [if_true, Int.natAbs_zero]
  unfold Ieee.Format.nearest
  rw [if_pos rfl, word_eq]
  cases sP x <;> rfl

theorem own_inf (x : Nat) (hx : x < 18446744073709551616) (_ : nP x = false) (i : iP x = true) : Ieee.double.word (sP x) 9218868437227405312 = x := by
  unfold iP at i
  simp only [Bool.and_eq_true, decide_eq_true_eq] at i
  rw [word_eq]
  unfold sP
  cases h : ((x : Int) / 9223372036854775808 == 1)
  · have : ¬ (x : Int) / 9223372036854775808 = 1 := by simpa using h
    simp; omega
  · have : (x : Int) / 9223372036854775808 = 1 := by simpa using h
    simp; omega

theorem zero_read : Ieee.double.read 0 = .number false 0 (-1074) := by decide
theorem one_read : Ieee.double.read 4607182418800017408 = .number false 4503599627370496 (-52) := by decide

theorem add_zero_inf (x : Nat) (hx : x < 18446744073709551616) (h : nP x = false) (i : iP x = true) : opB .add x 0 = x := by
  rw [add_out, read_inf x hx h i, zero_read]
  exact own_inf x hx h i

theorem add_zero_num (x : Nat) (hx : x < 18446744073709551616) (h : nP x = false) (i : iP x = false) (m : mP x ≠ 0) : opB .add x 0 = x := by
  rw [add_out, read_num x hx h i, zero_read]
  have hb := eP_bounds x
  simp only [Ieee.Datum.sum]
  have e1 : min (eP x) (-1074) = -1074 := by omega
  rw [e1]
  obtain ⟨k, hk⟩ : ∃ k : Nat, eP x - -1074 = k := ⟨(eP x - -1074).toNat, by omega⟩
  have e2 : (eP x - -1074).toNat = k := by omega
  rw [e2]
  have e3 : Ieee.signed false 0 (-1074 - -1074 : Int).toNat = 0 := by simp [Ieee.signed]
  rw [e3, Int.add_zero]
  have hpos : 0 < mP x <<< k := by
    rw [Nat.shiftLeft_eq]
    exact Nat.mul_pos (by omega) (Nat.two_pow_pos k)
  have e4 : Ieee.signed (sP x) (mP x) k ≠ 0 := by
    unfold Ieee.signed
    split <;> omega
  rw [if_neg e4]
  have e5 : (decide (Ieee.signed (sP x) (mP x) k < 0)) = sP x := by
    unfold Ieee.signed
    generalize mP x <<< k = M at hpos ⊢
    cases sP x <;> simp <;> omega
  have e6 : (Ieee.signed (sP x) (mP x) k).natAbs = mP x * 2 ^ k := by
    rw [← Nat.shiftLeft_eq]
    unfold Ieee.signed
    generalize mP x <<< k = M
    split <;> omega
  rw [e5, e6]
  show Ieee.double.nearest _ _ _ = x
  rw [nearest_scale, show (-1074 : Int) + k = eP x by omega]
  exact nearest_own x hx h i

theorem zero_of (x : Nat) (_ : x < 18446744073709551616) (_ : nP x = false) (i : iP x = false) (m : mP x = 0) : V x = 0 := by
  unfold V
  rw [i, m]
  simp [Ieee.signed]

theorem add_zero_zero (x : Nat) (hx : x < 18446744073709551616) (h : nP x = false) (i : iP x = false) (m : mP x = 0) : opB .add x 0 = 0 := by
  rw [add_out, read_num x hx h i, zero_read, m]
  simp only [Ieee.Datum.sum]
  have e3 : Ieee.signed false 0 (-1074 - min (eP x) (-1074) : Int).toNat = 0 := by simp [Ieee.signed]
  have e4 : Ieee.signed (sP x) 0 (eP x - min (eP x) (-1074) : Int).toNat = 0 := by simp [Ieee.signed]
  rw [e3, e4]
  unfold outW
  simp only [Int.add_zero, if_true, Int.natAbs_zero, Bool.and_false]
  unfold Ieee.Format.nearest
  rw [if_pos rfl, word_eq]
  rfl

theorem mul_one_num (x : Nat) (hx : x < 18446744073709551616) (h : nP x = false) (i : iP x = false) : opB .mul x 4607182418800017408 = x := by
  rw [mul_out, read_num x hx h i, one_read]
  simp only [Ieee.Datum.product, Bool.xor_false]
  show Ieee.double.nearest _ _ _ = x
  rw [show (4503599627370496 : Nat) = 2 ^ 52 by decide, nearest_scale, show eP x + -52 + (52 : Nat) = eP x by omega]
  exact nearest_own x hx h i

theorem isN_zero : isN 0 = false := by decide
theorem V_zero : V 0 = 0 := by decide

theorem eq_add_zero (x : Nat) (hx : x < 18446744073709551616) (h : isN x = false) (i : iP x = false) : eqB (opB .add x 0) x = true := by
  have hn := h
  rw [isN_nP] at hn
  by_cases m : mP x = 0
  · rw [add_zero_zero x hx hn i m, eqB_V 0 x (by omega) hx isN_zero h, V_zero, zero_of x hx hn i m]; rfl
  · rw [add_zero_num x hx hn i m, eqB_V x x hx hx h h]; simp

theorem whole_one : norm (floatOfInt .f64 1) = 4607182418800017408 := by decide +kernel
theorem kind_noneB : kindOf ((noneB % 9223372036854775808 : Nat) : Int) = 4 := by decide
theorem norm_zero : norm 0 = 0 := by decide

/-- The kind tells which are endless. -/
theorem kind_inf (x : Nat) : (kindOf ((x % 9223372036854775808 : Nat) : Int) = 3) ↔ iP x = true := by
  unfold kindOf iP
  simp only [Bool.and_eq_true, decide_eq_true_eq]
  split
  · omega
  · split
    · omega
    · split
      · omega
      · split <;> omega
end Go.Proofs.Ytllgkkbdpabhjaa
