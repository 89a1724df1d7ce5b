/- The law on sums, differences, products and quotients, at every two words. -/
import Derived.Test.YtllgkkbdpabhjaaDivMath
import Derived.Test.YtllgkkbdpabhjaaAddMath
import Derived.Test.YtllgkkbdpabhjaaSwapLaw
namespace Go.Proofs.Ytllgkkbdpabhjaa
open Go Go.Proofs Go.RowKit

theorem out_nan (x y : Nat) (h : isN x = true ∨ isN y = true) : opB .add x y = noneB ∧ opB .sub x y = noneB ∧ opB .mul x y = noneB ∧ opB .quo x y = noneB := by
  rw [add_out, sub_out, mul_out, quo_out]
  rw [isN_nP, isN_nP] at h
  rcases h with h | h
  · obtain ⟨a, b, e⟩ := read_nan x h
    rw [e]
    exact ⟨rfl, rfl, rfl, rfl⟩
  · obtain ⟨a, b, e⟩ := read_nan y h
    rw [e]
    cases Ieee.double.read x <;> exact ⟨rfl, rfl, rfl, rfl⟩

theorem isN_norm (x : Nat) : isN (norm x) = isN x := by
  unfold norm
  cases h : isN x
  · simp [h]
  · exact (by decide +kernel : isN noneB = true)

theorem op_norm (x y : Nat) : opB .add (norm x) (norm y) = opB .add x y ∧ opB .sub (norm x) (norm y) = opB .sub x y ∧ opB .mul (norm x) (norm y) = opB .mul x y ∧ opB .quo (norm x) (norm y) = opB .quo x y := by
  by_cases h : isN x = true ∨ isN y = true
  · have h1 := out_nan x y h
    have h2 := out_nan (norm x) (norm y) (by rw [isN_norm, isN_norm]; exact h)
    rw [h1.1, h1.2.1, h1.2.2.1, h1.2.2.2]
    exact h2
  · have hx : isN x = false := by cases e : isN x; rfl; exact absurd (.inl e) h
    have hy : isN y = false := by cases e : isN y; rfl; exact absurd (.inr e) h
    have ex : norm x = x := by unfold norm; rw [hx]; rfl
    have ey : norm y = y := by unfold norm; rw [hy]; rfl
    rw [ex, ey]
    exact ⟨rfl, rfl, rfl, rfl⟩

set_option maxHeartbeats 2000000 in
theorem sums_walk (x y a b A S M D : Nat) (w : World)
    (hx : ∀ w, Calls Try.prog 10 #[.int .u64 (x : Int)] w fun e w' => e = .returned (.int .u64 (a : Int)) ∧ w = w')
    (hy : ∀ w, Calls Try.prog 10 #[.int .u64 (y : Int)] w fun e w' => e = .returned (.int .u64 (b : Int)) ∧ w = w')
    (ho : ∀ w, Calls Try.prog 14 #[.int .u64 (x : Int)] w fun e w' => e = .returned (.int .u64 (a : Int)) ∧ w = w')
    (h1 : ∀ W, Below w.heap.size w W → Calls Try.prog 15 #[.int .u64 (a : Int), .int .u64 (b : Int)] W fun e W' => e = .returned (.int .u64 (A : Int)) ∧ Below w.heap.size w W')
    (h2 : ∀ W, Below w.heap.size w W → Calls Try.prog 16 #[.int .u64 (x : Int), .int .u64 (y : Int), .bool false] W fun e W' => e = .returned (.int .u64 (A : Int)) ∧ Below w.heap.size w W')
    (h3 : ∀ W, Below w.heap.size w W → Calls Try.prog 17 #[.int .u64 (a : Int), .int .u64 (b : Int)] W fun e W' => e = .returned (.int .u64 (S : Int)) ∧ Below w.heap.size w W')
    (h4 : ∀ W, Below w.heap.size w W → Calls Try.prog 16 #[.int .u64 (x : Int), .int .u64 (y : Int), .bool true] W fun e W' => e = .returned (.int .u64 (S : Int)) ∧ Below w.heap.size w W')
    (h5 : ∀ W, Below w.heap.size w W → Calls Try.prog 18 #[.int .u64 (a : Int), .int .u64 (b : Int)] W fun e W' => e = .returned (.int .u64 (M : Int)) ∧ Below w.heap.size w W')
    (h6 : ∀ W, Below w.heap.size w W → Calls Try.prog 19 #[.int .u64 (x : Int), .int .u64 (y : Int)] W fun e W' => e = .returned (.int .u64 (M : Int)) ∧ Below w.heap.size w W')
    (h7 : ∀ W, Below w.heap.size w W → Calls Try.prog 20 #[.int .u64 (a : Int), .int .u64 (b : Int)] W fun e W' => e = .returned (.int .u64 (D : Int)) ∧ Below w.heap.size w W')
    (h8 : ∀ W, Below w.heap.size w W → Calls Try.prog 21 #[.int .u64 (x : Int), .int .u64 (y : Int)] W fun e W' => e = .returned (.int .u64 (D : Int)) ∧ Below w.heap.size w W')
    (h9 : ∀ W, Below w.heap.size w W → Calls Try.prog 15 #[.int .u64 (x : Int), .int .u64 (y : Int)] W fun e W' => e = .returned (.int .u64 (A : Int)) ∧ Below w.heap.size w W') :
    Calls Try.prog 4 #[.int .u64 (x : Int), .int .u64 (y : Int)] w fun e w' => e = .returned (.bool true) ∧ Below w.heap.size w w' := by
  go_enter Try.func4, Try.ntmps4
  go_wp2_with fail
  refine (lives_any _).mono ?_
  rintro e w1 ⟨rfl, hb1⟩
  go_wp2_with fail
  refine (hx _).mono ?_
  rintro e w' ⟨rfl, rfl⟩
  go_wp2_with fail
  refine (hy _).mono ?_
  rintro e w' ⟨rfl, rfl⟩
  go_wp2_with fail
  refine (ho _).mono ?_
  rintro e w' ⟨rfl, rfl⟩
  go_wp2_with fail
  refine (h1 _ hb1).mono ?_
  rintro e w2 ⟨rfl, hb2⟩
  go_wp2_with fail
  refine (h2 _ hb2).mono ?_
  rintro e w3 ⟨rfl, hb3⟩
  go_wp2_with fail
  refine (h3 _ hb3).mono ?_
  rintro e w4 ⟨rfl, hb4⟩
  go_wp2_with fail
  refine (h4 _ hb4).mono ?_
  rintro e w5 ⟨rfl, hb5⟩
  go_wp2_with fail
  refine (h5 _ hb5).mono ?_
  rintro e w6 ⟨rfl, hb6⟩
  go_wp2_with fail
  refine (h6 _ hb6).mono ?_
  rintro e w7 ⟨rfl, hb7⟩
  go_wp2_with fail
  refine (h7 _ hb7).mono ?_
  rintro e w8 ⟨rfl, hb8⟩
  go_wp2_with fail
  refine (h8 _ hb8).mono ?_
  rintro e w9 ⟨rfl, hb9⟩
  go_wp2_with fail
  refine (h9 _ hb9).mono ?_
  rintro e w10 ⟨rfl, hb10⟩
  go_wp2_with fail
  refine (h1 _ hb10).mono ?_
  rintro e w11 ⟨rfl, hb11⟩
  go_wp2_with fail
  go_ret
  exact ⟨rfl, hb11⟩

theorem sums_law (x y : Nat) (hx : x < 18446744073709551616) (hy : y < 18446744073709551616) (w : World) :
    Calls Try.prog 4 #[.int .u64 (x : Int), .int .u64 (y : Int)] w fun e w' => e = .returned (.bool true) ∧ Below w.heap.size w w' := by
  obtain ⟨e1, e2, e3, e4⟩ := op_norm x y
  have h1 := lift (add_any (norm x) (norm y)) w
  have h3 := lift (sub_any (norm x) (norm y)) w
  have h5 := lift (mul_any (norm x) (norm y)) w
  have h7 := lift (div_any (norm x) (norm y)) w
  rw [e1] at h1
  rw [e2] at h3
  rw [e3] at h5
  rw [e4] at h7
  exact sums_walk x y _ _ _ _ _ _ w (ofBits_any x) (ofBits_any y) (one_any x hx) h1 (lift (refAdd_any x y hx hy) w) h3 (lift (refSub_any x y hx hy) w) h5 (lift (refMul_any x y hx hy) w) h7 (lift (refDiv_any x y hx hy) w) (lift (add_any x y) w)
end Go.Proofs.Ytllgkkbdpabhjaa
