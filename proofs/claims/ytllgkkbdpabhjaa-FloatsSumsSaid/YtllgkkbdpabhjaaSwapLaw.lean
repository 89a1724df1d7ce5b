/- The law on sums and products that hang on no order, at every two words. -/
import Derived.Test.YtllgkkbdpabhjaaSwapMath
namespace Go.Proofs.Ytllgkkbdpabhjaa
open Go Go.Proofs Go.RowKit

/-- A contract, said of all worlds in which nothing older than w has turned. -/
theorem lift {f : Nat} {args : Array Value} {r : Value} (h : ∀ W, Calls Try.prog f args W fun e W' => e = .returned r ∧ Below W.heap.size W W') (w : World) :
    ∀ W, Below w.heap.size w W → Calls Try.prog f args W fun e W' => e = .returned r ∧ Below w.heap.size w W' :=
  fun W hW => (h W).mono fun _ _ ⟨he, hb⟩ => ⟨he, hW.trans (hb.mono hW.size)⟩

set_option maxHeartbeats 4000000 in
theorem swap_none (x y a b c d s : Nat) (k1 k2 : Int) (w : World)
    (hx : ∀ w, Calls Try.prog 10 #[.int .u64 (x : Int)] w fun e w' => e = .returned (.int .u64 (a : Int)) ∧ w = w')
    (hy : ∀ w, Calls Try.prog 10 #[.int .u64 (y : Int)] w fun e w' => e = .returned (.int .u64 (b : Int)) ∧ w = w')
    (h1 : ∀ W, Below w.heap.size w W → Calls Try.prog 15 #[.int .u64 (a : Int), .int .u64 (b : Int)] W fun e W' => e = .returned (.int .u64 (c : Int)) ∧ Below w.heap.size w W')
    (h2 : ∀ W, Below w.heap.size w W → Calls Try.prog 15 #[.int .u64 (b : Int), .int .u64 (a : Int)] W fun e W' => e = .returned (.int .u64 (c : Int)) ∧ Below w.heap.size w W')
    (h3 : ∀ W, Below w.heap.size w W → Calls Try.prog 18 #[.int .u64 (a : Int), .int .u64 (b : Int)] W fun e W' => e = .returned (.int .u64 (d : Int)) ∧ Below w.heap.size w W')
    (h4 : ∀ W, Below w.heap.size w W → Calls Try.prog 18 #[.int .u64 (b : Int), .int .u64 (a : Int)] W fun e W' => e = .returned (.int .u64 (d : Int)) ∧ Below w.heap.size w W')
    (h5 : ∀ W, Below w.heap.size w W → Calls Try.prog 17 #[.int .u64 (a : Int), .int .u64 (a : Int)] W fun e W' => e = .returned (.int .u64 (s : Int)) ∧ Below w.heap.size w W')
    (hk1 : ∀ w, Calls Try.prog 13 #[.int .u64 (a : Int)] w fun e w' => e = .returned (.int .i64 k1) ∧ w = w')
    (hk2 : ∀ w, Calls Try.prog 13 #[.int .u64 (s : Int)] w fun e w' => e = .returned (.int .i64 k2) ∧ w = w')
    (g1 : (k1 == 4) = true) (g2 : (k2 == 4) = true) :
    Calls Try.prog 8 #[.int .u64 (x : Int), .int .u64 (y : Int)] w fun e w' => e = .returned (.bool true) ∧ Below w.heap.size w w' := by
  go_enter Try.func8, Try.ntmps8
  go_wp2_with fail
  refine (lives_any _).mono ?_
  rintro e w1 ⟨rfl, hb1⟩
  go_wp2_with fail
  refine (hx _).mono ?_
  rintro e w' ⟨rfl, rfl⟩
  go_wp2_with fail
  refine (hy _).mono ?_
  rintro e w' ⟨rfl, rfl⟩
  go_wp2_with fail
  refine (h1 _ hb1).mono ?_
  rintro e w2 ⟨rfl, hb2⟩
  go_wp2_with fail
  refine (h2 _ hb2).mono ?_
  rintro e w3 ⟨rfl, hb3⟩
  go_wp2_with fail
  refine (h3 _ hb3).mono ?_
  rintro e w4 ⟨rfl, hb4⟩
  go_wp2_with fail
  refine (h4 _ hb4).mono ?_
  rintro e w5 ⟨rfl, hb5⟩
  go_wp2_with fail
  refine (hk1 _).mono ?_
  rintro e w' ⟨rfl, rfl⟩
  go_wp2_with fail
  refine (h5 _ hb5).mono ?_
  rintro e w6 ⟨rfl, hb6⟩
  go_wp2_with fail
  refine (hk2 _).mono ?_
  rintro e w' ⟨rfl, rfl⟩
  go_wp2_with fail
  go_ret
  exact ⟨rfl, hb6⟩
set_option maxHeartbeats 4000000 in
theorem swap_inf (x y a b c d s : Nat) (k1 k2 : Int) (w : World)
    (hx : ∀ w, Calls Try.prog 10 #[.int .u64 (x : Int)] w fun e w' => e = .returned (.int .u64 (a : Int)) ∧ w = w')
    (hy : ∀ w, Calls Try.prog 10 #[.int .u64 (y : Int)] w fun e w' => e = .returned (.int .u64 (b : Int)) ∧ w = w')
    (h1 : ∀ W, Below w.heap.size w W → Calls Try.prog 15 #[.int .u64 (a : Int), .int .u64 (b : Int)] W fun e W' => e = .returned (.int .u64 (c : Int)) ∧ Below w.heap.size w W')
    (h2 : ∀ W, Below w.heap.size w W → Calls Try.prog 15 #[.int .u64 (b : Int), .int .u64 (a : Int)] W fun e W' => e = .returned (.int .u64 (c : Int)) ∧ Below w.heap.size w W')
    (h3 : ∀ W, Below w.heap.size w W → Calls Try.prog 18 #[.int .u64 (a : Int), .int .u64 (b : Int)] W fun e W' => e = .returned (.int .u64 (d : Int)) ∧ Below w.heap.size w W')
    (h4 : ∀ W, Below w.heap.size w W → Calls Try.prog 18 #[.int .u64 (b : Int), .int .u64 (a : Int)] W fun e W' => e = .returned (.int .u64 (d : Int)) ∧ Below w.heap.size w W')
    (h5 : ∀ W, Below w.heap.size w W → Calls Try.prog 17 #[.int .u64 (a : Int), .int .u64 (a : Int)] W fun e W' => e = .returned (.int .u64 (s : Int)) ∧ Below w.heap.size w W')
    (hk1 : ∀ w, Calls Try.prog 13 #[.int .u64 (a : Int)] w fun e w' => e = .returned (.int .i64 k1) ∧ w = w')
    (hk2 : ∀ w, Calls Try.prog 13 #[.int .u64 (s : Int)] w fun e w' => e = .returned (.int .i64 k2) ∧ w = w')
    (hz : ∀ w, Calls Try.prog 10 #[.int .u64 0] w fun e w' => e = .returned (.int .u64 0) ∧ w = w')
    (h6 : ∀ W, Below w.heap.size w W → Calls Try.prog 15 #[.int .u64 (a : Int), .int .u64 0] W fun e W' => e = .returned (.int .u64 (a : Int)) ∧ Below w.heap.size w W')
    (g0 : (k1 == 4) = false) (g1 : (k1 == 3) = true) (g2 : (k2 == 4) = true) :
    Calls Try.prog 8 #[.int .u64 (x : Int), .int .u64 (y : Int)] w fun e w' => e = .returned (.bool true) ∧ Below w.heap.size w w' := by
  go_enter Try.func8, Try.ntmps8
  go_wp2_with fail
  refine (lives_any _).mono ?_
  rintro e w1 ⟨rfl, hb1⟩
  go_wp2_with fail
  refine (hx _).mono ?_
  rintro e w' ⟨rfl, rfl⟩
  go_wp2_with fail
  refine (hy _).mono ?_
  rintro e w' ⟨rfl, rfl⟩
  go_wp2_with fail
  refine (h1 _ hb1).mono ?_
  rintro e w2 ⟨rfl, hb2⟩
  go_wp2_with fail
  refine (h2 _ hb2).mono ?_
  rintro e w3 ⟨rfl, hb3⟩
  go_wp2_with fail
  refine (h3 _ hb3).mono ?_
  rintro e w4 ⟨rfl, hb4⟩
  go_wp2_with fail
  refine (h4 _ hb4).mono ?_
  rintro e w5 ⟨rfl, hb5⟩
  go_wp2_with fail
  refine (hk1 _).mono ?_
  rintro e w' ⟨rfl, rfl⟩
  go_wp2_with fail
  refine (hk1 _).mono ?_
  rintro e w' ⟨rfl, rfl⟩
  go_wp2_with fail
  refine (h5 _ hb5).mono ?_
  rintro e w6 ⟨rfl, hb6⟩
  go_wp2_with fail
  refine (hk2 _).mono ?_
  rintro e w' ⟨rfl, rfl⟩
  go_wp2_with fail
  refine (hz _).mono ?_
  rintro e w' ⟨rfl, rfl⟩
  go_wp2_with fail
  refine (h6 _ hb6).mono ?_
  rintro e w7 ⟨rfl, hb7⟩
  go_wp2_with fail
  go_ret
  exact ⟨rfl, hb7⟩

set_option maxHeartbeats 4000000 in
theorem swap_num (x y a b c d s : Nat) (k1 : Int) (k2 : Nat) (w : World)
    (hx : ∀ w, Calls Try.prog 10 #[.int .u64 (x : Int)] w fun e w' => e = .returned (.int .u64 (a : Int)) ∧ w = w')
    (hy : ∀ w, Calls Try.prog 10 #[.int .u64 (y : Int)] w fun e w' => e = .returned (.int .u64 (b : Int)) ∧ w = w')
    (h1 : ∀ W, Below w.heap.size w W → Calls Try.prog 15 #[.int .u64 (a : Int), .int .u64 (b : Int)] W fun e W' => e = .returned (.int .u64 (c : Int)) ∧ Below w.heap.size w W')
    (h2 : ∀ W, Below w.heap.size w W → Calls Try.prog 15 #[.int .u64 (b : Int), .int .u64 (a : Int)] W fun e W' => e = .returned (.int .u64 (c : Int)) ∧ Below w.heap.size w W')
    (h3 : ∀ W, Below w.heap.size w W → Calls Try.prog 18 #[.int .u64 (a : Int), .int .u64 (b : Int)] W fun e W' => e = .returned (.int .u64 (d : Int)) ∧ Below w.heap.size w W')
    (h4 : ∀ W, Below w.heap.size w W → Calls Try.prog 18 #[.int .u64 (b : Int), .int .u64 (a : Int)] W fun e W' => e = .returned (.int .u64 (d : Int)) ∧ Below w.heap.size w W')
    (h5 : ∀ W, Below w.heap.size w W → Calls Try.prog 17 #[.int .u64 (a : Int), .int .u64 (a : Int)] W fun e W' => e = .returned (.int .u64 (s : Int)) ∧ Below w.heap.size w W')
    (hk1 : ∀ w, Calls Try.prog 13 #[.int .u64 (a : Int)] w fun e w' => e = .returned (.int .i64 k1) ∧ w = w')
    (hz : ∀ w, Calls Try.prog 10 #[.int .u64 0] w fun e w' => e = .returned (.int .u64 0) ∧ w = w')
    (h6 : ∀ W, Below w.heap.size w W → Calls Try.prog 15 #[.int .u64 (a : Int), .int .u64 0] W fun e W' => e = .returned (.int .u64 (k2 : Int)) ∧ Below w.heap.size w W')
    (h7 : ∀ w, Calls Try.prog 12 #[.int .u64 (k2 : Int), .int .u64 (a : Int)] w fun e w' => e = .returned (.bool true) ∧ w = w')
    (u : Nat) (h8 : ∀ w, Calls Try.prog 27 #[.int .i64 1] w fun e w' => e = .returned (.int .u64 (u : Int)) ∧ w = w')
    (h9 : ∀ W, Below w.heap.size w W → Calls Try.prog 18 #[.int .u64 (a : Int), .int .u64 (u : Int)] W fun e W' => e = .returned (.int .u64 (a : Int)) ∧ Below w.heap.size w W')
    (gs : (s : Int) = 0) (g0 : (k1 == 4) = false) (g1 : (k1 == 3) = false) :
    Calls Try.prog 8 #[.int .u64 (x : Int), .int .u64 (y : Int)] w fun e w' => e = .returned (.bool true) ∧ Below w.heap.size w w' := by
  rw [gs] at h5
  clear gs
  go_enter Try.func8, Try.ntmps8
  go_wp2_with fail
  refine (lives_any _).mono ?_
  rintro e w1 ⟨rfl, hb1⟩
  go_wp2_with fail
  refine (hx _).mono ?_
  rintro e w' ⟨rfl, rfl⟩
  go_wp2_with fail
  refine (hy _).mono ?_
  rintro e w' ⟨rfl, rfl⟩
  go_wp2_with fail
  refine (h1 _ hb1).mono ?_
  rintro e w2 ⟨rfl, hb2⟩
  go_wp2_with fail
  refine (h2 _ hb2).mono ?_
  rintro e w3 ⟨rfl, hb3⟩
  go_wp2_with fail
  refine (h3 _ hb3).mono ?_
  rintro e w4 ⟨rfl, hb4⟩
  go_wp2_with fail
  refine (h4 _ hb4).mono ?_
  rintro e w5 ⟨rfl, hb5⟩
  go_wp2_with fail
  refine (hk1 _).mono ?_
  rintro e w' ⟨rfl, rfl⟩
  go_wp2_with fail
  refine (hk1 _).mono ?_
  rintro e w' ⟨rfl, rfl⟩
  go_wp2_with fail
  refine (h5 _ hb5).mono ?_
  rintro e w6 ⟨rfl, hb6⟩
  go_wp2_with fail
  refine (hz _).mono ?_
  rintro e w' ⟨rfl, rfl⟩
  go_wp2_with fail
  refine (h6 _ hb6).mono ?_
  rintro e w7 ⟨rfl, hb7⟩
  go_wp2_with fail
  refine (h7 _).mono ?_
  rintro e w' ⟨rfl, rfl⟩
  go_wp2_with fail
  refine (h8 _).mono ?_
  rintro e w' ⟨rfl, rfl⟩
  go_wp2_with fail
  refine (h9 _ hb7).mono ?_
  rintro e w8 ⟨rfl, hb8⟩
  go_wp2_with fail
  go_ret
  exact ⟨rfl, hb8⟩


theorem swap_law (x y : Nat) (hx : x < 18446744073709551616) (_ : y < 18446744073709551616) (w : World) :
    Calls Try.prog 8 #[.int .u64 (x : Int), .int .u64 (y : Int)] w fun e w' => e = .returned (.bool true) ∧ Below w.heap.size w w' := by
  have ha := norm_lt x hx
  have c1 := ofBits_any x
  have c2 := ofBits_any y
  generalize norm x = a at *
  generalize norm y = b at *
  have h1 := lift (add_any a b) w
  have h2 := lift (add_any b a) w
  rw [add_comm b a] at h2
  have h3 := lift (mul_any a b) w
  have h4 := lift (mul_any b a) w
  rw [mul_comm b a] at h4
  have h5 := lift (sub_any a a) w
  have k1 := kind_any a ha
  have q1 := kind_none a
  have q2 := kind_inf a
  have k0 : ∀ w, Calls Try.prog 13 #[.int .u64 (noneB : Int)] w fun e w' => e = .returned (.int .i64 4) ∧ w = w' := by
    have := kind_any noneB (by decide)
    rwa [kind_noneB] at this
  have z0 : ∀ w, Calls Try.prog 10 #[.int .u64 0] w fun e w' => e = .returned (.int .u64 0) ∧ w = w' := by
    have := ofBits_any 0
    rwa [norm_zero] at this
  cases n : isN a
  · have n' := n
    rw [isN_nP] at n'
    have g0 : (kindOf ((a % 9223372036854775808 : Nat) : Int) == 4) = false := by
      rw [n] at q1
      cases h : (kindOf ((a % 9223372036854775808 : Nat) : Int) == 4)
      · rfl
      · have := q1.1 (by simpa using h); cases this
    cases i : iP a
    · have g1 : (kindOf ((a % 9223372036854775808 : Nat) : Int) == 3) = false := by
        rw [i] at q2
        cases h : (kindOf ((a % 9223372036854775808 : Nat) : Int) == 3)
        · rfl
        · have := q2.1 (by simpa using h); cases this
      rw [sub_self_num a ha n' i] at h5
      have e := equal_any (opB .add a 0) a
      rw [eq_add_zero a ha n i] at e
      have u := whole_any 1
      rw [whole_one] at u
      have h9 := lift (mul_any a 4607182418800017408) w
      rw [mul_one_num a ha n' i] at h9
      exact swap_num x y a b _ _ 0 _ _ w c1 c2 h1 h2 h3 h4 h5 k1 z0 (lift (add_any a 0) w) e _ u h9 rfl g0 g1
    · have g1 : (kindOf ((a % 9223372036854775808 : Nat) : Int) == 3) = true := by simpa using q2.2 i
      rw [sub_self_inf a ha n' i] at h5
      have h6 := lift (add_any a 0) w
      rw [add_zero_inf a ha n' i] at h6
      exact swap_inf x y a b _ _ _ _ _ w c1 c2 h1 h2 h3 h4 h5 k1 k0 z0 h6 g0 g1 rfl
  · have g0 : (kindOf ((a % 9223372036854775808 : Nat) : Int) == 4) = true := by simpa using q1.2 n
    rw [isN_nP] at n
    rw [sub_self_none a n] at h5
    exact swap_none x y a b _ _ _ _ _ w c1 c2 h1 h2 h3 h4 h5 k1 k0 g0 rfl
end Go.Proofs.Ytllgkkbdpabhjaa
