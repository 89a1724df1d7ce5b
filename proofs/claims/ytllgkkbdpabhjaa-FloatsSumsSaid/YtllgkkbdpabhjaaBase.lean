/- Floats as this program has them: the words that its six operations, comparisons and conversions give, at all words; no condition. -/
import Derived.Test.YtllgkkbdpabhjaaProg
import Derived.WalkKit
import Derived.WalkLawsBesides
import Derived.Outline
import Derived.Lib.Hide
import Derived.Below
namespace Go.Proofs.Ytllgkkbdpabhjaa
open Go Go.Proofs Go.RowKit

/-- Nothing older has turned. -/
theorem drew_below (w : World) : Below w.heap.size w w.drew := ⟨rfl, rfl, rfl, Nat.le_refl _, fun _ _ => rfl⟩

abbrev nanDraw (w : World) (x y : Nat) : Nat := (w.tape w.drawn (.nanBits .f64 x y) % 2) * 2 ^ 63 + 0x7ff0000000000000 + 1 + (w.tape w.drawn (.nanBits .f64 x y) / 2) % (2 ^ 52 - 1)

theorem run_float_arith_none {P : Program} (w : World) (op : BinOp) (t : TypeId) (x y : Nat) (hop : op = .add ∨ op = .sub ∨ op = .mul ∨ op = .quo) (h : floatBits op .f64 x y = none) :
    (binOp op t (.float .f64 x) (.float .f64 y)).run P w = .ok (.float .f64 (nanDraw w x y)) w.drew := by
  unfold floatBits at h
  rcases hop with rfl | rfl | rfl | rfl <;> simp only at h <;> simp only [binOp, Op.floatArith, h] <;> rfl

theorem order_self_nan {d : Ieee.Datum} : d.order d = none ↔ d.isNaN = true := by
  cases d <;> simp [Ieee.Datum.order, Ieee.Datum.isNaN]
theorem order_self_eq {d : Ieee.Datum} (h : d.isNaN = false) : d.order d = some .eq := by
  cases d <;> simp_all [Ieee.Datum.order, Ieee.Datum.isNaN]

/-- The word is that of one that is none. -/
def isN (x : Nat) : Bool := (Ieee.double.read x).isNaN
def noneB : Nat := 9221120237041090561
/-- The word, or that of the one that is none. -/
def norm (x : Nat) : Nat := if isN x then noneB else x

theorem neq_self (x : Nat) : (Ieee.double.order x x != some .eq) = isN x := by
  unfold Ieee.Format.order isN
  cases h : (Ieee.double.read x).isNaN
  · rw [order_self_eq h]; rfl
  · rw [order_self_nan.2 h]; rfl

theorem enter_bits (x : Nat) (w : World) : (callFunc 32 #[.int .u64 (x : Int)]).run Try.prog w = .ok (.value (.float .f64 x)) w := by
  rw [run_callFunc_extern Try.func32 (by kernel_rfl) (by kernel_rfl) (by kernel_rfl) (e := Extern.MathFloatBits.float64frombits) (by kernel_rfl)]
  rfl
theorem enter_word (x : Nat) (w : World) : (callFunc 42 #[.float .f64 x]).run Try.prog w = .ok (.value (.int .u64 (x : Int))) w := by
  rw [run_callFunc_extern Try.func42 (by kernel_rfl) (by kernel_rfl) (by kernel_rfl) (e := Extern.MathFloatBits.float64bits) (by kernel_rfl)]
  rfl

theorem num_any (x : Nat) (w : World) : Calls Try.prog 33 #[.int .u64 (x : Int)] w fun e w' => e = .returned (.float .f64 x) ∧ w = w' := by
  have k := enter_bits
  go_enter Try.func33, Try.ntmps33
  go_wp2
  go_ret
  exact ⟨rfl, rfl⟩

theorem isNaN_any (x : Nat) (w : World) : Calls Try.prog 41 #[.float .f64 x] w fun e w' => e = .returned (.bool (isN x)) ∧ w = w' := by
  go_enter Try.func41, Try.ntmps41
  go_wp2
  go_ret
  exact ⟨by rw [← neq_self]; rfl, rfl⟩

theorem of_any (x : Nat) (w : World) : Calls Try.prog 31 #[.float .f64 x] w fun e w' => e = .returned (.int .u64 (norm x : Nat)) ∧ w = w' := by
  have k := enter_word
  have c := isNaN_any x
  unfold norm
  cases h : isN x
  · rw [h] at c
    clear h
    go_enter Try.func31, Try.ntmps31
    go_wp2_with (go_at_call 41; refine (c _).mono ?_; rintro e w' ⟨rfl, rfl⟩)
    go_ret
    exact ⟨rfl, rfl⟩
  · rw [h] at c
    clear h
    go_enter Try.func31, Try.ntmps31
    go_wp2_with (go_at_call 41; refine (c _).mono ?_; rintro e w' ⟨rfl, rfl⟩)
    go_ret
    exact ⟨rfl, rfl⟩

theorem ofBits_any (x : Nat) (w : World) : Calls Try.prog 10 #[.int .u64 (x : Int)] w fun e w' => e = .returned (.int .u64 (norm x : Nat)) ∧ w = w' := by
  have k := enter_bits
  go_enter Try.func10, Try.ntmps10
  go_wp2_with (go_at_call 31; refine (of_any _ _).mono ?_; rintro e w' ⟨rfl, rfl⟩)
  go_ret
  exact ⟨rfl, rfl⟩

/-- What an operation gives, NaN's word made one. -/
def opB (op : BinOp) (x y : Nat) : Nat := ((floatBits op .f64 x y).map norm).getD noneB

theorem isN_draw (w : World) (x y : Nat) : isN (nanDraw w x y) = true := by
  unfold nanDraw
  obtain ⟨t, ht⟩ : ∃ t, w.tape w.drawn (.nanBits .f64 x y) = t := ⟨_, rfl⟩
  rw [ht]
  obtain ⟨a, ha⟩ : ∃ a, t % 2 = a := ⟨_, rfl⟩
  obtain ⟨b, hb⟩ : ∃ b, t / 2 % (2 ^ 52 - 1) = b := ⟨_, rfl⟩
  have ha2 : a < 2 := by omega
  have hb2 : b < 2 ^ 52 - 1 := by omega
  rw [ha, hb]
  have e : (a * 2 ^ 63 + 0x7ff0000000000000 + 1 + b) % Ieee.double.signWeight = 0x7ff0000000000000 + 1 + b := by
    show (a * 2 ^ 63 + 0x7ff0000000000000 + 1 + b) % 2 ^ 63 = _
    omega
  unfold isN Ieee.Format.read
  dsimp only
  rw [e]
  rw [if_neg (show ¬ (0x7ff0000000000000 + 1 + b < Ieee.double.binade) by show ¬ (_ < 2 ^ 52); omega)]
  rw [if_neg (show ¬ (0x7ff0000000000000 + 1 + b < Ieee.double.infRung) by show ¬ (_ < (2 ^ 11 - 1) * 2 ^ 52); omega)]
  rw [if_neg (show ¬ (0x7ff0000000000000 + 1 + b = Ieee.double.infRung) by show ¬ (_ = (2 ^ 11 - 1) * 2 ^ 52); omega)]
  rfl

theorem norm_draw (w : World) (x y : Nat) : norm (nanDraw w x y) = noneB := by unfold norm; rw [isN_draw]; rfl

set_option maxHeartbeats 400000 in
theorem add_any (x y : Nat) (w : World) : Calls Try.prog 15 #[.int .u64 (x : Int), .int .u64 (y : Int)] w fun e w' => e = .returned (.int .u64 (opB .add x y : Nat)) ∧ Below w.heap.size w w' := by
  unfold opB
  cases h : floatBits .add .f64 x y
  · have k := fun w : World => run_float_arith_none (P := Try.prog) w .add 54 x y (.inl rfl) h
    clear h
    go_enter Try.func15, Try.ntmps15
    go_wp2_with (first | (go_at_call 33; refine (num_any _ _).mono ?_; rintro e w' ⟨rfl, rfl⟩) | (go_at_call 31; refine (of_any _ _).mono ?_; rintro e w' ⟨rfl, rfl⟩))
    go_ret
    exact ⟨by rw [norm_draw]; rfl, drew_below _⟩
  · rename_i r
    have k := fun w : World => run_float_arith (P := Try.prog) w .add 54 .f64 x y r h
    clear h
    go_enter Try.func15, Try.ntmps15
    go_wp2_with (first | (go_at_call 33; refine (num_any _ _).mono ?_; rintro e w' ⟨rfl, rfl⟩) | (go_at_call 31; refine (of_any _ _).mono ?_; rintro e w' ⟨rfl, rfl⟩))
    go_ret
    exact ⟨rfl, Below.refl _ _⟩

set_option maxHeartbeats 400000 in
theorem sub_any (x y : Nat) (w : World) : Calls Try.prog 17 #[.int .u64 (x : Int), .int .u64 (y : Int)] w fun e w' => e = .returned (.int .u64 (opB .sub x y : Nat)) ∧ Below w.heap.size w w' := by
  unfold opB
  cases h : floatBits .sub .f64 x y
  · have k := fun w : World => run_float_arith_none (P := Try.prog) w .sub 54 x y (.inr (.inl rfl)) h
    clear h
    go_enter Try.func17, Try.ntmps17
    go_wp2_with (first | (go_at_call 33; refine (num_any _ _).mono ?_; rintro e w' ⟨rfl, rfl⟩) | (go_at_call 31; refine (of_any _ _).mono ?_; rintro e w' ⟨rfl, rfl⟩))
    go_ret
    exact ⟨by rw [norm_draw]; rfl, drew_below _⟩
  · rename_i r
    have k := fun w : World => run_float_arith (P := Try.prog) w .sub 54 .f64 x y r h
    clear h
    go_enter Try.func17, Try.ntmps17
    go_wp2_with (first | (go_at_call 33; refine (num_any _ _).mono ?_; rintro e w' ⟨rfl, rfl⟩) | (go_at_call 31; refine (of_any _ _).mono ?_; rintro e w' ⟨rfl, rfl⟩))
    go_ret
    exact ⟨rfl, Below.refl _ _⟩

set_option maxHeartbeats 400000 in
theorem mul_any (x y : Nat) (w : World) : Calls Try.prog 18 #[.int .u64 (x : Int), .int .u64 (y : Int)] w fun e w' => e = .returned (.int .u64 (opB .mul x y : Nat)) ∧ Below w.heap.size w w' := by
  unfold opB
  cases h : floatBits .mul .f64 x y
  · have k := fun w : World => run_float_arith_none (P := Try.prog) w .mul 54 x y (.inr (.inr (.inl rfl))) h
    clear h
    go_enter Try.func18, Try.ntmps18
    go_wp2_with (first | (go_at_call 33; refine (num_any _ _).mono ?_; rintro e w' ⟨rfl, rfl⟩) | (go_at_call 31; refine (of_any _ _).mono ?_; rintro e w' ⟨rfl, rfl⟩))
    go_ret
    exact ⟨by rw [norm_draw]; rfl, drew_below _⟩
  · rename_i r
    have k := fun w : World => run_float_arith (P := Try.prog) w .mul 54 .f64 x y r h
    clear h
    go_enter Try.func18, Try.ntmps18
    go_wp2_with (first | (go_at_call 33; refine (num_any _ _).mono ?_; rintro e w' ⟨rfl, rfl⟩) | (go_at_call 31; refine (of_any _ _).mono ?_; rintro e w' ⟨rfl, rfl⟩))
    go_ret
    exact ⟨rfl, Below.refl _ _⟩

set_option maxHeartbeats 400000 in
theorem div_any (x y : Nat) (w : World) : Calls Try.prog 20 #[.int .u64 (x : Int), .int .u64 (y : Int)] w fun e w' => e = .returned (.int .u64 (opB .quo x y : Nat)) ∧ Below w.heap.size w w' := by
  unfold opB
  cases h : floatBits .quo .f64 x y
  · have k := fun w : World => run_float_arith_none (P := Try.prog) w .quo 54 x y (.inr (.inr (.inr rfl))) h
    clear h
    go_enter Try.func20, Try.ntmps20
    go_wp2_with (first | (go_at_call 33; refine (num_any _ _).mono ?_; rintro e w' ⟨rfl, rfl⟩) | (go_at_call 31; refine (of_any _ _).mono ?_; rintro e w' ⟨rfl, rfl⟩))
    go_ret
    exact ⟨by rw [norm_draw]; rfl, drew_below _⟩
  · rename_i r
    have k := fun w : World => run_float_arith (P := Try.prog) w .quo 54 .f64 x y r h
    clear h
    go_enter Try.func20, Try.ntmps20
    go_wp2_with (first | (go_at_call 33; refine (num_any _ _).mono ?_; rintro e w' ⟨rfl, rfl⟩) | (go_at_call 31; refine (of_any _ _).mono ?_; rintro e w' ⟨rfl, rfl⟩))
    go_ret
    exact ⟨rfl, Below.refl _ _⟩

def ltB (x y : Nat) : Bool := Ieee.double.order x y == some .lt
def eqB (x y : Nat) : Bool := Ieee.double.order x y == some .eq

theorem less_any (x y : Nat) (w : World) : Calls Try.prog 11 #[.int .u64 (x : Int), .int .u64 (y : Int)] w fun e w' => e = .returned (.bool (ltB x y)) ∧ w = w' := by
  go_enter Try.func11, Try.ntmps11
  go_wp2_with (go_at_call 33; refine (num_any _ _).mono ?_; rintro e w' ⟨rfl, rfl⟩)
  go_ret
  exact ⟨rfl, rfl⟩
theorem equal_any (x y : Nat) (w : World) : Calls Try.prog 12 #[.int .u64 (x : Int), .int .u64 (y : Int)] w fun e w' => e = .returned (.bool (eqB x y)) ∧ w = w' := by
  go_enter Try.func12, Try.ntmps12
  go_wp2_with (go_at_call 33; refine (num_any _ _).mono ?_; rintro e w' ⟨rfl, rfl⟩)
  go_ret
  exact ⟨rfl, rfl⟩

theorem whole_any (n : Int) (w : World) : Calls Try.prog 27 #[.int .i64 n] w fun e w' => e = .returned (.int .u64 (norm (floatOfInt .f64 n) : Nat)) ∧ w = w' := by
  have k := fun w : World => run_convert_int_float (P := Try.prog) w 2 54 .i64 .f64 n (by kernel_rfl) Try.underlying54
  go_enter Try.func27, Try.ntmps27
  go_wp2_with (go_at_call 31; refine (of_any _ _).mono ?_; rintro e w' ⟨rfl, rfl⟩)
  go_ret
  exact ⟨rfl, rfl⟩

/-- Which kind the lower 63 bits tell. -/
def kindOf (y : Int) : Int := if y = 0 then 0 else if y < 4503599627370496 then 1 else if y < 9218868437227405312 then 2 else if y = 9218868437227405312 then 3 else 4
theorem andNot_top (x : Nat) (h : x < 18446744073709551616) : bits .andNot .u64 (x : Int) 9223372036854775808 = ((x % 9223372036854775808 : Nat) : Int) := by
  have := u64_andNot_nat x 9223372036854775808 h (by omega)
  rw [show ((9223372036854775808 : Nat) : Int) = 9223372036854775808 from rfl] at this
  rw [this, show 18446744073709551615 - 9223372036854775808 = 2 ^ 63 - 1 by decide, Nat.and_two_pow_sub_one_eq_mod]
theorem kind_at (x : Nat) (y : Int) (w : World) (k : bits .andNot .u64 (x : Int) 9223372036854775808 = y) : Calls Try.prog 13 #[.int .u64 (x : Int)] w fun e w' => e = .returned (.int .i64 (kindOf y)) ∧ w = w' := by
  unfold kindOf
  go_enter Try.func13, Try.ntmps13
  generalize (9223372036854775808 : Int) = T at k ⊢
  generalize (4503599627370496 : Int) = A
  generalize (9218868437227405312 : Int) = B
  by_cases h1 : y = 0
  · subst h1
    go_wp2
    go_ret
    exact ⟨rfl, rfl⟩
  rw [if_neg h1]
  by_cases h2 : y < A
  · rw [if_pos h2]
    go_wp2
    go_ret
    exact ⟨rfl, rfl⟩
  rw [if_neg h2]
  have h2' : A ≤ y := by omega
  clear h2
  by_cases h3 : y < B
  · rw [if_pos h3]
    go_wp2
    go_ret
    exact ⟨rfl, rfl⟩
  rw [if_neg h3]
  have h3' : B ≤ y := by omega
  clear h3
  by_cases h4 : y = B
  · rw [if_pos h4]
    subst h4
    go_wp2
    go_ret
    exact ⟨rfl, rfl⟩
  · rw [if_neg h4]
    go_wp2
    go_ret
    exact ⟨rfl, rfl⟩
theorem kind_any (x : Nat) (h : x < 18446744073709551616) (w : World) : Calls Try.prog 13 #[.int .u64 (x : Int)] w fun e w' => e = .returned (.int .i64 (kindOf (x % 9223372036854775808 : Nat))) ∧ w = w' :=
  kind_at x _ w (andNot_top x h)

/-- The parts of a word: its sign, the place of its last digit, its digits; endless, none. -/
def sP (x : Nat) : Bool := ((x : Int) / 9223372036854775808 == 1)
def eP (x : Nat) : Int := if x / 4503599627370496 % 2048 = 2047 then 0 else if x / 4503599627370496 % 2048 = 0 then -1074 else ((x / 4503599627370496 % 2048 : Nat) : Int) - 1075
def mP (x : Nat) : Nat := if x / 4503599627370496 % 2048 = 2047 then 0 else if x / 4503599627370496 % 2048 = 0 then x % 4503599627370496 else x % 4503599627370496 + 4503599627370496
def iP (x : Nat) : Bool := decide (x / 4503599627370496 % 2048 = 2047) && decide (x % 4503599627370496 = 0)
def nP (x : Nat) : Bool := decide (x / 4503599627370496 % 2048 = 2047) && !decide (x % 4503599627370496 = 0)

theorem ret5 {a a' : Bool} {b b' : Int} {c c' : Int} {d d' e e' : Bool} (h1 : a = a') (h2 : b = b') (h3 : c = c') (h4 : d = d') (h5 : e = e') :
    Ending.returned (.tuple #[.bool a, .int .i64 b, .int .u64 c, .bool d, .bool e]) = Ending.returned (.tuple #[.bool a', .int .i64 b', .int .u64 c', .bool d', .bool e']) := by
  rw [h1, h2, h3, h4, h5]

theorem beq_zero_mod (x : Nat) : (((x : Int) % 4503599627370496 == 0) : Bool) = decide (x % 4503599627370496 = 0) := by
  rw [Bool.eq_iff_iff]; simp; omega
theorem bne_zero_mod (x : Nat) : (((x : Int) % 4503599627370496 != 0) : Bool) = !decide (x % 4503599627370496 = 0) := by
  rw [bne, beq_zero_mod]
theorem u64_wrap_in (a : Int) (h : 0 ≤ a) (h2 : a < 18446744073709551616) : IntKind.u64.wrap a = a := by
  simp only [IntKind.wrap, IntKind.bits, IntKind.signed]
  have : (2:Int) ^ 64 = 18446744073709551616 := by decide
  simp [this]
  exact Int.emod_eq_of_lt h h2

set_option maxHeartbeats 1000000 in
theorem parts_any (x : Nat) (hx : x < 18446744073709551616) (w : World) : Calls Try.prog 23 #[.int .u64 (x : Int)] w fun e w' => e = .returned (.tuple #[.bool (sP x), .int .i64 (eP x), .int .u64 (mP x : Nat), .bool (iP x), .bool (nP x)]) ∧ w = w' := by
  have hm0 : 0 ≤ (x : Int) % 4503599627370496 := by omega
  have hm1 : (x : Int) % 4503599627370496 < 4503599627370496 := by omega
  have e1 := Lib.hid (beq_zero_mod x)
  have e2 := Lib.hid (bne_zero_mod x)
  have e3 : Hid (IntKind.u64.wrap ((x : Int) % 4503599627370496 + 4503599627370496) = ((x % 4503599627370496 + 4503599627370496 : Nat) : Int)) := by
    refine Lib.hid ?_
    rw [u64_wrap_in _ (by omega) (by omega)]; omega
  have e4 : Hid (((x % 4503599627370496 : Nat) : Int) = (x : Int) % 4503599627370496) := Lib.hid (by omega)
  go_enter Try.func23, Try.ntmps23
  generalize hA : (4503599627370496 : Int) = A at hm0 hm1 ⊢
  have hA2 : 0 < A := by omega
  have HA := Lib.hid hA
  clear hA
  go_wp2
  · have hc : x / 4503599627370496 % 2048 = 2047 := by simp_all; omega
    refine bodyPost_ret (v := .tuple #[.bool ((x : Int) / 9223372036854775808 == 1), .int .i64 0, .int .u64 0, .bool ((x : Int) % A == 0), .bool ((x : Int) % A != 0)]) (by simp [results, Try.results23, go_sem]) rfl ⟨ret5 rfl ?_ ?_ ?_ ?_, rfl⟩
    · unfold eP; rw [if_pos hc]
    · unfold mP; rw [if_pos hc]; rfl
    · unfold iP; rw [← HA.out, e1.out]; simp [hc]
    · unfold nP; rw [← HA.out, e2.out]; simp [hc]
  · have hc : ¬ x / 4503599627370496 % 2048 = 2047 := by simp_all; omega
    have hd : x / 4503599627370496 % 2048 = 0 := by simp_all; omega
    refine bodyPost_ret (v := .tuple #[.bool ((x : Int) / 9223372036854775808 == 1), .int .i64 (-1074), .int .u64 ((x : Int) % A), .bool false, .bool false]) (by simp [results, Try.results23, go_sem]) rfl ⟨ret5 rfl ?_ ?_ ?_ ?_, rfl⟩
    · unfold eP; rw [if_neg hc, if_pos hd]
    · unfold mP; rw [if_neg hc, if_pos hd, ← HA.out, e4.out]
    · unfold iP; simp [hc]
    · unfold nP; simp [hc]
  · have hc : ¬ x / 4503599627370496 % 2048 = 2047 := by simp_all; omega
    have hd : ¬ x / 4503599627370496 % 2048 = 0 := by simp_all; omega
    refine bodyPost_ret (v := .tuple #[.bool ((x : Int) / 9223372036854775808 == 1), .int .i64 ((x : Int) / 4503599627370496 % 2048 - 1075), .int .u64 (IntKind.u64.wrap ((x : Int) % A + A)), .bool false, .bool false]) (by simp [results, Try.results23, go_sem]) rfl ⟨ret5 rfl ?_ ?_ ?_ ?_, rfl⟩
    · unfold eP; rw [if_neg hc, if_neg hd]; omega
    · unfold mP; rw [if_neg hc, if_neg hd, ← HA.out, e3.out]
    · unfold iP; simp [hc]
    · unfold nP; simp [hc]

/-- How the word's number stands to -2^63; to 2^63. -/
def atLo (x : Nat) : Option Ordering := FloatKind.f64.format.order x 14114281232179134464
def atHi (x : Nat) : Option Ordering := FloatKind.f64.format.order x 4890909195324358656
/-- It is one that may be cut. -/
def cutB (x : Nat) : Bool := (atLo x == some .gt || atLo x == some .eq) && atHi x == some .lt

theorem cut_ok (x : Nat) (n : Int) (hc : cutB x = true) (h : floatToIntVal .f64 x .i64 = some n) (w : World) :
    Calls Try.prog 30 #[.int .u64 (x : Int)] w fun e w' => e = .returned (.tuple #[.int .i64 n, .int .i64 0]) ∧ w = w' := by
  have k := fun w : World => run_convert_float_int (P := Try.prog) w 54 2 .f64 .i64 x n (by kernel_rfl) Try.underlying2 h
  unfold cutB atLo atHi at hc
  clear h
  simp only [Bool.and_eq_true, Bool.or_eq_true, beq_iff_eq] at hc
  obtain ⟨h1 | h1, h2⟩ := hc
  all_goals
    go_enter Try.func30, Try.ntmps30
    generalize (14114281232179134464 : Nat) = A at *
    generalize (4890909195324358656 : Nat) = B at *
    go_wp2_with (go_at_call 33; refine (num_any _ _).mono ?_; rintro e w' ⟨rfl, rfl⟩)
    go_ret2
    exact ⟨rfl, rfl⟩

theorem cut_bad (x : Nat) (hc : cutB x = false) (w : World) :
    Calls Try.prog 30 #[.int .u64 (x : Int)] w fun e w' => e = .returned (.tuple #[.int .i64 0, .int .i64 1]) ∧ w = w' := by
  unfold cutB atLo atHi at hc
  simp only [Bool.and_eq_false_iff, Bool.or_eq_false_iff] at hc
  obtain ⟨h1, h2⟩ | h2 := hc
  ·
    go_enter Try.func30, Try.ntmps30
    generalize (14114281232179134464 : Nat) = A at *
    generalize (4890909195324358656 : Nat) = B at *
    go_wp2_with (go_at_call 33; refine (num_any _ _).mono ?_; rintro e w' ⟨rfl, rfl⟩)
    go_ret2
    exact ⟨rfl, rfl⟩

  cases h1 : (FloatKind.f64.format.order x 14114281232179134464 == some .gt)
  · cases h3 : (FloatKind.f64.format.order x 14114281232179134464 == some .eq)
    all_goals
    go_enter Try.func30, Try.ntmps30
    generalize (14114281232179134464 : Nat) = A at *
    generalize (4890909195324358656 : Nat) = B at *
    go_wp2_with (go_at_call 33; refine (num_any _ _).mono ?_; rintro e w' ⟨rfl, rfl⟩)
    go_ret2
    exact ⟨rfl, rfl⟩

  · simp only [beq_iff_eq] at h1
    go_enter Try.func30, Try.ntmps30
    generalize (14114281232179134464 : Nat) = A at *
    generalize (4890909195324358656 : Nat) = B at *
    go_wp2_with (go_at_call 33; refine (num_any _ _).mono ?_; rintro e w' ⟨rfl, rfl⟩)
    go_ret2
    exact ⟨rfl, rfl⟩

end Go.Proofs.Ytllgkkbdpabhjaa
