/- The law on the order of two floats, as the standard has it; at every two words. -/
import Derived.Test.YtllgkkbdpabhjaaRefLessB
import Derived.Test.YtllgkkbdpabhjaaOrderMath
namespace Go.Proofs.Ytllgkkbdpabhjaa
open Go Go.Proofs Go.RowKit

theorem refLess_none (x y : Nat) (a b : Bool) (e f : Int) (m n : Nat) (i j k l : Bool) (w : World)
    (hx : ∀ w, Calls Try.prog 23 #[.int .u64 (x : Int)] w fun r w' => r = .returned (.tuple #[.bool a, .int .i64 e, .int .u64 m, .bool i, .bool k]) ∧ w = w')
    (hy : ∀ w, Calls Try.prog 23 #[.int .u64 (y : Int)] w fun r w' => r = .returned (.tuple #[.bool b, .int .i64 f, .int .u64 n, .bool j, .bool l]) ∧ w = w')
    (h : k = true ∨ (k = false ∧ l = true)) :
    Calls Try.prog 22 #[.int .u64 (x : Int), .int .u64 (y : Int)] w fun r w' => r = .returned (.tuple #[.bool false, .bool false]) ∧ Below w.heap.size w w' := by
  rcases h with rfl | ⟨rfl, rfl⟩
  all_goals
    go_enter Try.func22, Try.ntmps22
    go_wp2_with (first
      | (go_at_call 23; ((with_reducible refine (hx _).mono ?_); rintro r w' ⟨rfl, rfl⟩))
      | (go_at_call 23; ((with_reducible refine (hy _).mono ?_); rintro r w' ⟨rfl, rfl⟩)))
    go_ret2
    exact ⟨rfl, Below.refl _ _⟩

theorem refLess_any (x y : Nat) (hx : x < 18446744073709551616) (hy : y < 18446744073709551616) (w : World) :
    Calls Try.prog 22 #[.int .u64 (x : Int), .int .u64 (y : Int)] w fun r w' => r = .returned (.tuple #[.bool (ltB x y), .bool (eqB x y)]) ∧ Below w.heap.size w w' := by
  have px := parts_any x hx
  have py := parts_any y hy
  cases nx : isN x
  · cases ny : isN y
    · rw [ltB_V x y hx hy nx ny, eqB_V x y hx hy nx ny]
      rw [isN_nP] at nx ny
      rw [nx] at px
      rw [ny] at py
      have b1 := EE_bounds x
      have b2 := EE_bounds y
      have m1 := MM_lt x
      have m2 := MM_lt y
      rcases Int.lt_or_le (EE y) (EE x) with h | h
      · obtain ⟨K, hK, h1, h2⟩ := V_gt x y h
        exact refLess_gt x y _ _ _ _ _ _ _ _ _ _ _ _ (MM x) (MM y) (decide (V x < V y), decide (V x = V y)) w px py (partsE_of x) (partsE_of y) b1.1 b1.2 b2.1 b2.2 h rfl rfl (by omega) (by omega)
          (dg_scale_le _ _ m1 (by omega)) (dg_scale_le _ _ m2 (by omega)) (lessCase_V x y _ _ K hK h1 h2 (scale_zero _ _) (scale_zero _ _))
      · obtain ⟨K, hK, h1, h2⟩ := V_le x y h
        exact refLess_le x y _ _ _ _ _ _ _ _ _ _ _ _ (MM x) (MM y) (decide (V x < V y), decide (V x = V y)) w px py (partsE_of x) (partsE_of y) b1.1 b1.2 b2.1 b2.2 h rfl rfl (by omega) (by omega)
          (dg_scale_le _ _ m1 (by omega)) (dg_scale_le _ _ m2 (by omega)) (lessCase_V x y _ _ K hK h1 h2 (scale_zero _ _) (scale_zero _ _))
    · rw [ltB_none x y (.inr ny), eqB_none x y (.inr ny)]
      rw [isN_nP] at nx ny
      exact refLess_none x y _ _ _ _ _ _ _ _ _ _ w px py (.inr ⟨nx, ny⟩)
  · rw [ltB_none x y (.inl nx), eqB_none x y (.inl nx)]
    rw [isN_nP] at nx
    exact refLess_none x y _ _ _ _ _ _ _ _ _ _ w px py (.inl nx)

theorem lt_not (x y : Nat) (hx : x < 18446744073709551616) (hy : y < 18446744073709551616) (h : ltB x y = true) : ltB y x = false := by
  cases nx : isN x
  · cases ny : isN y
    · rw [ltB_V x y hx hy nx ny] at h
      rw [ltB_V y x hy hx ny nx]
      simp at h ⊢
      omega
    · exact ltB_none _ _ (.inl ny)
  · exact ltB_none _ _ (.inr nx)

/-- The parts and the kind. -/
def kindCase (i n : Bool) (m : Int) (k P : Int) : Prop :=
  (n = true ∧ k = 4) ∨ (n = false ∧ i = true ∧ k = 3) ∨ (n = false ∧ i = false ∧ m = 0 ∧ k = 0) ∨ (n = false ∧ i = false ∧ 0 < m ∧ m < P ∧ k = 1) ∨ (n = false ∧ i = false ∧ 0 < m ∧ P ≤ m ∧ k = 2)

theorem kindCase_of (x : Nat) : kindCase (iP x) (nP x) (mP x : Nat) (kindOf ((x % 9223372036854775808 : Nat) : Int)) 4503599627370496 := by
  unfold kindCase iP nP mP kindOf
  by_cases h1 : x / 4503599627370496 % 2048 = 2047
  · simp only [h1, if_true, decide_true, Bool.true_and]
    by_cases h2 : x % 4503599627370496 = 0
    · simp only [h2, decide_true]
      right; left
      refine ⟨by first | rfl | trivial, by first | rfl | trivial, ?_⟩
      rw [if_neg (by omega), if_neg (by omega), if_neg (by omega), if_pos (by omega)]
    · simp only [h2, decide_false]
      left
      refine ⟨rfl, ?_⟩
      rw [if_neg (by omega), if_neg (by omega), if_neg (by omega), if_neg (by omega)]
  · simp only [h1, if_false, decide_false, Bool.false_and]
    by_cases h2 : x / 4503599627370496 % 2048 = 0
    · simp only [h2, if_true]
      by_cases h3 : x % 4503599627370496 = 0
      · right; right; left
        refine ⟨trivial, trivial, by omega, ?_⟩
        rw [if_pos (by omega)]
      · right; right; right; left
        refine ⟨trivial, trivial, by omega, by omega, ?_⟩
        rw [if_neg (by omega), if_pos (by omega)]
    · simp only [h2, if_false]
      right; right; right; right
      refine ⟨trivial, trivial, by omega, by omega, ?_⟩
      rw [if_neg (by omega), if_neg (by omega), if_pos (by omega)]

set_option maxHeartbeats 8000000 in
theorem order_walk (x y : Nat) (s i n p q r : Bool) (e m k : Int) (w : World)
    (hx : ∀ w, Calls Try.prog 23 #[.int .u64 (x : Int)] w fun r w' => r = .returned (.tuple #[.bool s, .int .i64 e, .int .u64 m, .bool i, .bool n]) ∧ w = w')
    (hl : ∀ w, Calls Try.prog 22 #[.int .u64 (x : Int), .int .u64 (y : Int)] w fun r w' => r = .returned (.tuple #[.bool p, .bool q]) ∧ Below w.heap.size w w')
    (h1 : ∀ w, Calls Try.prog 11 #[.int .u64 (x : Int), .int .u64 (y : Int)] w fun r w' => r = .returned (.bool p) ∧ w = w')
    (h2 : ∀ w, Calls Try.prog 12 #[.int .u64 (x : Int), .int .u64 (y : Int)] w fun r w' => r = .returned (.bool q) ∧ w = w')
    (h3 : ∀ w, Calls Try.prog 13 #[.int .u64 (x : Int)] w fun r w' => r = .returned (.int .i64 k) ∧ w = w')
    (h4 : ∀ w, Calls Try.prog 11 #[.int .u64 (y : Int), .int .u64 (x : Int)] w fun e w' => e = .returned (.bool r) ∧ w = w')
    (hk : kindCase i n m k 4503599627370496) (hp : p = false ∨ (p = true ∧ r = false)) :
    Calls Try.prog 5 #[.int .u64 (x : Int), .int .u64 (y : Int)] w fun e w' => e = .returned (.bool true) ∧ Below w.heap.size w w' := by
  unfold kindCase at hk
  go_enter Try.func5, Try.ntmps5
  generalize (4503599627370496 : Int) = P at hk ⊢
  rcases hp with rfl | ⟨rfl, rfl⟩ <;> rcases hk with ⟨rfl, rfl⟩ | ⟨rfl, rfl, rfl⟩ | ⟨rfl, rfl, rfl, rfl⟩ | ⟨rfl, rfl, g1, g2, rfl⟩ | ⟨rfl, rfl, g1, g2, rfl⟩
  all_goals
    go_wp2_with fail
    refine (lives_any _).mono ?_
    rintro e w1 ⟨rfl, hb1⟩
    go_wp2_with fail
    refine (hl _).mono ?_
    rintro e w2 ⟨rfl, hb2⟩
    go_wp2_with (first
      | (go_at_call 23; ((with_reducible refine (hx _).mono ?_); rintro r w' ⟨rfl, rfl⟩))
      | (go_at_call 11; ((with_reducible refine (h1 _).mono ?_); rintro r w' ⟨rfl, rfl⟩))
      | (go_at_call 11; ((with_reducible refine (h4 _).mono ?_); rintro r w' ⟨rfl, rfl⟩))
      | (go_at_call 12; ((with_reducible refine (h2 _).mono ?_); rintro r w' ⟨rfl, rfl⟩))
      | (go_at_call 13; ((with_reducible refine (h3 _).mono ?_); rintro r w' ⟨rfl, rfl⟩)))
    go_ret
    exact ⟨rfl, hb1.trans (hb2.mono hb1.size)⟩

theorem order_law (x y : Nat) (hx : x < 18446744073709551616) (hy : y < 18446744073709551616) (w : World) :
    Calls Try.prog 5 #[.int .u64 (x : Int), .int .u64 (y : Int)] w fun e w' => e = .returned (.bool true) ∧ Below w.heap.size w w' := by
  refine order_walk x y _ _ _ _ _ _ _ _ _ w (parts_any x hx) (refLess_any x y hx hy) (less_any x y) (equal_any x y) (kind_any x hx) (less_any y x) (kindCase_of x) ?_
  cases h : ltB x y
  · exact .inl rfl
  · exact .inr ⟨rfl, lt_not x y hx hy h⟩
end Go.Proofs.Ytllgkkbdpabhjaa
