/- The law on the order of floats, at every three words. -/
import Derived.Test.YtllgkkbdpabhjaaOrd
namespace Go.Proofs.Ytllgkkbdpabhjaa
open Go Go.Proofs Go.RowKit

/-- What the law is told of three words: which is less, which are the same. -/
def lessCase (l1 l2 l3 e1 e2 e3 g k1 k2 : Bool) : Prop :=
  (l1 = false ∧ e1 = false ∧ g = false ∧ (k1 = true ∨ k1 = false ∧ k2 = true)) ∨
  (k1 = false ∧ k2 = false ∧ ((l1 = true ∧ e1 = false ∧ g = false ∧ (l2 = false ∨ l2 = true ∧ l3 = true)) ∨ (l1 = false ∧ e1 = true ∧ g = false ∧ (e2 = false ∨ e2 = true ∧ e3 = true)) ∨ (l1 = false ∧ e1 = false ∧ g = true)))

set_option maxHeartbeats 4000000 in
theorem less_walk (x y z a b c : Nat) (l1 l2 l3 e1 e2 e3 g : Bool) (k1 k2 : Int)
    (hx : ∀ w, Calls Try.prog 10 #[.int .u64 (x : Int)] w fun e w' => e = .returned (.int .u64 (a : Int)) ∧ w = w')
    (hy : ∀ w, Calls Try.prog 10 #[.int .u64 (y : Int)] w fun e w' => e = .returned (.int .u64 (b : Int)) ∧ w = w')
    (hz : ∀ w, Calls Try.prog 10 #[.int .u64 (z : Int)] w fun e w' => e = .returned (.int .u64 (c : Int)) ∧ w = w')
    (hl1 : ∀ w, Calls Try.prog 11 #[.int .u64 (a : Int), .int .u64 (b : Int)] w fun e w' => e = .returned (.bool l1) ∧ w = w')
    (hl2 : ∀ w, Calls Try.prog 11 #[.int .u64 (b : Int), .int .u64 (c : Int)] w fun e w' => e = .returned (.bool l2) ∧ w = w')
    (hl3 : ∀ w, Calls Try.prog 11 #[.int .u64 (a : Int), .int .u64 (c : Int)] w fun e w' => e = .returned (.bool l3) ∧ w = w')
    (hg : ∀ w, Calls Try.prog 11 #[.int .u64 (b : Int), .int .u64 (a : Int)] w fun e w' => e = .returned (.bool g) ∧ w = w')
    (he1 : ∀ w, Calls Try.prog 12 #[.int .u64 (a : Int), .int .u64 (b : Int)] w fun e w' => e = .returned (.bool e1) ∧ w = w')
    (he2 : ∀ w, Calls Try.prog 12 #[.int .u64 (b : Int), .int .u64 (c : Int)] w fun e w' => e = .returned (.bool e2) ∧ w = w')
    (he3 : ∀ w, Calls Try.prog 12 #[.int .u64 (a : Int), .int .u64 (c : Int)] w fun e w' => e = .returned (.bool e3) ∧ w = w')
    (hk1 : ∀ w, Calls Try.prog 13 #[.int .u64 (a : Int)] w fun e w' => e = .returned (.int .i64 k1) ∧ w = w')
    (hk2 : ∀ w, Calls Try.prog 13 #[.int .u64 (b : Int)] w fun e w' => e = .returned (.int .i64 k2) ∧ w = w')
    (hC : lessCase l1 l2 l3 e1 e2 e3 g (k1 == 4) (k2 == 4)) (w : World) :
    Calls Try.prog 3 #[.int .u64 (x : Int), .int .u64 (y : Int), .int .u64 (z : Int)] w fun e w' => e = .returned (.bool true) ∧ Below w.heap.size w w' := by
  unfold lessCase at hC
  rcases hC with ⟨rfl, rfl, rfl, hk | ⟨hk, hk'⟩⟩ | ⟨hk, hk', ⟨rfl, rfl, rfl, rfl | ⟨rfl, rfl⟩⟩ | ⟨rfl, rfl, rfl, rfl | ⟨rfl, rfl⟩⟩ | ⟨rfl, rfl, rfl⟩⟩
  · go_enter Try.func3, Try.ntmps3
    go_wp2_with (first
      | (go_at_call 9; refine (lives_any _).mono ?_; rintro e w1 ⟨rfl, hb1⟩)
      | (go_at_call 10; ((with_reducible refine (hx _).mono ?_); rintro e w' ⟨rfl, rfl⟩))
      | (go_at_call 10; ((with_reducible refine (hy _).mono ?_); rintro e w' ⟨rfl, rfl⟩))
      | (go_at_call 10; ((with_reducible refine (hz _).mono ?_); rintro e w' ⟨rfl, rfl⟩))
      | (go_at_call 11; ((with_reducible refine (hl1 _).mono ?_); rintro e w' ⟨rfl, rfl⟩))
      | (go_at_call 11; ((with_reducible refine (hl2 _).mono ?_); rintro e w' ⟨rfl, rfl⟩))
      | (go_at_call 11; ((with_reducible refine (hl3 _).mono ?_); rintro e w' ⟨rfl, rfl⟩))
      | (go_at_call 11; ((with_reducible refine (hg _).mono ?_); rintro e w' ⟨rfl, rfl⟩))
      | (go_at_call 12; ((with_reducible refine (he1 _).mono ?_); rintro e w' ⟨rfl, rfl⟩))
      | (go_at_call 12; ((with_reducible refine (he2 _).mono ?_); rintro e w' ⟨rfl, rfl⟩))
      | (go_at_call 12; ((with_reducible refine (he3 _).mono ?_); rintro e w' ⟨rfl, rfl⟩))
      | (go_at_call 13; ((with_reducible refine (hk1 _).mono ?_); rintro e w' ⟨rfl, rfl⟩))
      | (go_at_call 13; ((with_reducible refine (hk2 _).mono ?_); rintro e w' ⟨rfl, rfl⟩)))
    go_loop [10, 62] (fun n i => (i = .int .i64 0 ∧ n = .int .i64 0) ∨ (i = .int .i64 1 ∧ n = .int .i64 0) ∨ (i = .int .i64 2 ∧ n = .int .i64 0) ∨ (i = .int .i64 3 ∧ n = .int .i64 0)) (fun _ i => 3 - (intOf i).toNat)
    case atStart => exact .inl ⟨rfl, rfl⟩
    case round =>
      rcases hrel with ⟨rfl, rfl⟩ | ⟨rfl, rfl⟩ | ⟨rfl, rfl⟩ | ⟨rfl, rfl⟩
      · go_wp2
        go_round
        case rel => exact .inr (.inl ⟨rfl, rfl⟩)
        case measure => simp [intOf]
      · go_wp2
        go_round
        case rel => exact .inr (.inr (.inl ⟨rfl, rfl⟩))
        case measure => simp [intOf]
      · go_wp2
        go_round
        case rel => exact .inr (.inr (.inr ⟨rfl, rfl⟩))
        case measure => simp [intOf]
      · go_wp2_with (first
          | (go_at_call 13; ((with_reducible refine (hk1 _).mono ?_); rintro e w' ⟨rfl, rfl⟩))
          | (go_at_call 13; ((with_reducible refine (hk2 _).mono ?_); rintro e w' ⟨rfl, rfl⟩)))
        go_ret
        exact ⟨rfl, hb1.alloc hb1.size _⟩
  · go_enter Try.func3, Try.ntmps3
    go_wp2_with (first
      | (go_at_call 9; refine (lives_any _).mono ?_; rintro e w1 ⟨rfl, hb1⟩)
      | (go_at_call 10; ((with_reducible refine (hx _).mono ?_); rintro e w' ⟨rfl, rfl⟩))
      | (go_at_call 10; ((with_reducible refine (hy _).mono ?_); rintro e w' ⟨rfl, rfl⟩))
      | (go_at_call 10; ((with_reducible refine (hz _).mono ?_); rintro e w' ⟨rfl, rfl⟩))
      | (go_at_call 11; ((with_reducible refine (hl1 _).mono ?_); rintro e w' ⟨rfl, rfl⟩))
      | (go_at_call 11; ((with_reducible refine (hl2 _).mono ?_); rintro e w' ⟨rfl, rfl⟩))
      | (go_at_call 11; ((with_reducible refine (hl3 _).mono ?_); rintro e w' ⟨rfl, rfl⟩))
      | (go_at_call 11; ((with_reducible refine (hg _).mono ?_); rintro e w' ⟨rfl, rfl⟩))
      | (go_at_call 12; ((with_reducible refine (he1 _).mono ?_); rintro e w' ⟨rfl, rfl⟩))
      | (go_at_call 12; ((with_reducible refine (he2 _).mono ?_); rintro e w' ⟨rfl, rfl⟩))
      | (go_at_call 12; ((with_reducible refine (he3 _).mono ?_); rintro e w' ⟨rfl, rfl⟩))
      | (go_at_call 13; ((with_reducible refine (hk1 _).mono ?_); rintro e w' ⟨rfl, rfl⟩))
      | (go_at_call 13; ((with_reducible refine (hk2 _).mono ?_); rintro e w' ⟨rfl, rfl⟩)))
    go_loop [10, 62] (fun n i => (i = .int .i64 0 ∧ n = .int .i64 0) ∨ (i = .int .i64 1 ∧ n = .int .i64 0) ∨ (i = .int .i64 2 ∧ n = .int .i64 0) ∨ (i = .int .i64 3 ∧ n = .int .i64 0)) (fun _ i => 3 - (intOf i).toNat)
    case atStart => exact .inl ⟨rfl, rfl⟩
    case round =>
      rcases hrel with ⟨rfl, rfl⟩ | ⟨rfl, rfl⟩ | ⟨rfl, rfl⟩ | ⟨rfl, rfl⟩
      · go_wp2
        go_round
        case rel => exact .inr (.inl ⟨rfl, rfl⟩)
        case measure => simp [intOf]
      · go_wp2
        go_round
        case rel => exact .inr (.inr (.inl ⟨rfl, rfl⟩))
        case measure => simp [intOf]
      · go_wp2
        go_round
        case rel => exact .inr (.inr (.inr ⟨rfl, rfl⟩))
        case measure => simp [intOf]
      · go_wp2_with (first
          | (go_at_call 13; ((with_reducible refine (hk1 _).mono ?_); rintro e w' ⟨rfl, rfl⟩))
          | (go_at_call 13; ((with_reducible refine (hk2 _).mono ?_); rintro e w' ⟨rfl, rfl⟩)))
        go_ret
        exact ⟨rfl, hb1.alloc hb1.size _⟩
  · go_enter Try.func3, Try.ntmps3
    go_wp2_with (first
      | (go_at_call 9; refine (lives_any _).mono ?_; rintro e w1 ⟨rfl, hb1⟩)
      | (go_at_call 10; ((with_reducible refine (hx _).mono ?_); rintro e w' ⟨rfl, rfl⟩))
      | (go_at_call 10; ((with_reducible refine (hy _).mono ?_); rintro e w' ⟨rfl, rfl⟩))
      | (go_at_call 10; ((with_reducible refine (hz _).mono ?_); rintro e w' ⟨rfl, rfl⟩))
      | (go_at_call 11; ((with_reducible refine (hl1 _).mono ?_); rintro e w' ⟨rfl, rfl⟩))
      | (go_at_call 11; ((with_reducible refine (hl2 _).mono ?_); rintro e w' ⟨rfl, rfl⟩))
      | (go_at_call 11; ((with_reducible refine (hl3 _).mono ?_); rintro e w' ⟨rfl, rfl⟩))
      | (go_at_call 11; ((with_reducible refine (hg _).mono ?_); rintro e w' ⟨rfl, rfl⟩))
      | (go_at_call 12; ((with_reducible refine (he1 _).mono ?_); rintro e w' ⟨rfl, rfl⟩))
      | (go_at_call 12; ((with_reducible refine (he2 _).mono ?_); rintro e w' ⟨rfl, rfl⟩))
      | (go_at_call 12; ((with_reducible refine (he3 _).mono ?_); rintro e w' ⟨rfl, rfl⟩))
      | (go_at_call 13; ((with_reducible refine (hk1 _).mono ?_); rintro e w' ⟨rfl, rfl⟩))
      | (go_at_call 13; ((with_reducible refine (hk2 _).mono ?_); rintro e w' ⟨rfl, rfl⟩)))
    go_loop [10, 62] (fun n i => (i = .int .i64 0 ∧ n = .int .i64 0) ∨ (i = .int .i64 1 ∧ n = .int .i64 1) ∨ (i = .int .i64 2 ∧ n = .int .i64 1) ∨ (i = .int .i64 3 ∧ n = .int .i64 1)) (fun _ i => 3 - (intOf i).toNat)
    case atStart => exact .inl ⟨rfl, rfl⟩
    case round =>
      rcases hrel with ⟨rfl, rfl⟩ | ⟨rfl, rfl⟩ | ⟨rfl, rfl⟩ | ⟨rfl, rfl⟩
      · go_wp2
        go_round
        case rel => exact .inr (.inl ⟨rfl, rfl⟩)
        case measure => simp [intOf]
      · go_wp2
        go_round
        case rel => exact .inr (.inr (.inl ⟨rfl, rfl⟩))
        case measure => simp [intOf]
      · go_wp2
        go_round
        case rel => exact .inr (.inr (.inr ⟨rfl, rfl⟩))
        case measure => simp [intOf]
      · go_wp2_with (first
          | (go_at_call 13; ((with_reducible refine (hk1 _).mono ?_); rintro e w' ⟨rfl, rfl⟩))
          | (go_at_call 13; ((with_reducible refine (hk2 _).mono ?_); rintro e w' ⟨rfl, rfl⟩)))
        go_ret
        exact ⟨rfl, hb1.alloc hb1.size _⟩
  · go_enter Try.func3, Try.ntmps3
    go_wp2_with (first
      | (go_at_call 9; refine (lives_any _).mono ?_; rintro e w1 ⟨rfl, hb1⟩)
      | (go_at_call 10; ((with_reducible refine (hx _).mono ?_); rintro e w' ⟨rfl, rfl⟩))
      | (go_at_call 10; ((with_reducible refine (hy _).mono ?_); rintro e w' ⟨rfl, rfl⟩))
      | (go_at_call 10; ((with_reducible refine (hz _).mono ?_); rintro e w' ⟨rfl, rfl⟩))
      | (go_at_call 11; ((with_reducible refine (hl1 _).mono ?_); rintro e w' ⟨rfl, rfl⟩))
      | (go_at_call 11; ((with_reducible refine (hl2 _).mono ?_); rintro e w' ⟨rfl, rfl⟩))
      | (go_at_call 11; ((with_reducible refine (hl3 _).mono ?_); rintro e w' ⟨rfl, rfl⟩))
      | (go_at_call 11; ((with_reducible refine (hg _).mono ?_); rintro e w' ⟨rfl, rfl⟩))
      | (go_at_call 12; ((with_reducible refine (he1 _).mono ?_); rintro e w' ⟨rfl, rfl⟩))
      | (go_at_call 12; ((with_reducible refine (he2 _).mono ?_); rintro e w' ⟨rfl, rfl⟩))
      | (go_at_call 12; ((with_reducible refine (he3 _).mono ?_); rintro e w' ⟨rfl, rfl⟩))
      | (go_at_call 13; ((with_reducible refine (hk1 _).mono ?_); rintro e w' ⟨rfl, rfl⟩))
      | (go_at_call 13; ((with_reducible refine (hk2 _).mono ?_); rintro e w' ⟨rfl, rfl⟩)))
    go_loop [10, 62] (fun n i => (i = .int .i64 0 ∧ n = .int .i64 0) ∨ (i = .int .i64 1 ∧ n = .int .i64 1) ∨ (i = .int .i64 2 ∧ n = .int .i64 1) ∨ (i = .int .i64 3 ∧ n = .int .i64 1)) (fun _ i => 3 - (intOf i).toNat)
    case atStart => exact .inl ⟨rfl, rfl⟩
    case round =>
      rcases hrel with ⟨rfl, rfl⟩ | ⟨rfl, rfl⟩ | ⟨rfl, rfl⟩ | ⟨rfl, rfl⟩
      · go_wp2
        go_round
        case rel => exact .inr (.inl ⟨rfl, rfl⟩)
        case measure => simp [intOf]
      · go_wp2
        go_round
        case rel => exact .inr (.inr (.inl ⟨rfl, rfl⟩))
        case measure => simp [intOf]
      · go_wp2
        go_round
        case rel => exact .inr (.inr (.inr ⟨rfl, rfl⟩))
        case measure => simp [intOf]
      · go_wp2_with (first
          | (go_at_call 13; ((with_reducible refine (hk1 _).mono ?_); rintro e w' ⟨rfl, rfl⟩))
          | (go_at_call 13; ((with_reducible refine (hk2 _).mono ?_); rintro e w' ⟨rfl, rfl⟩)))
        go_ret
        exact ⟨rfl, hb1.alloc hb1.size _⟩
  · go_enter Try.func3, Try.ntmps3
    go_wp2_with (first
      | (go_at_call 9; refine (lives_any _).mono ?_; rintro e w1 ⟨rfl, hb1⟩)
      | (go_at_call 10; ((with_reducible refine (hx _).mono ?_); rintro e w' ⟨rfl, rfl⟩))
      | (go_at_call 10; ((with_reducible refine (hy _).mono ?_); rintro e w' ⟨rfl, rfl⟩))
      | (go_at_call 10; ((with_reducible refine (hz _).mono ?_); rintro e w' ⟨rfl, rfl⟩))
      | (go_at_call 11; ((with_reducible refine (hl1 _).mono ?_); rintro e w' ⟨rfl, rfl⟩))
      | (go_at_call 11; ((with_reducible refine (hl2 _).mono ?_); rintro e w' ⟨rfl, rfl⟩))
      | (go_at_call 11; ((with_reducible refine (hl3 _).mono ?_); rintro e w' ⟨rfl, rfl⟩))
      | (go_at_call 11; ((with_reducible refine (hg _).mono ?_); rintro e w' ⟨rfl, rfl⟩))
      | (go_at_call 12; ((with_reducible refine (he1 _).mono ?_); rintro e w' ⟨rfl, rfl⟩))
      | (go_at_call 12; ((with_reducible refine (he2 _).mono ?_); rintro e w' ⟨rfl, rfl⟩))
      | (go_at_call 12; ((with_reducible refine (he3 _).mono ?_); rintro e w' ⟨rfl, rfl⟩))
      | (go_at_call 13; ((with_reducible refine (hk1 _).mono ?_); rintro e w' ⟨rfl, rfl⟩))
      | (go_at_call 13; ((with_reducible refine (hk2 _).mono ?_); rintro e w' ⟨rfl, rfl⟩)))
    go_loop [10, 62] (fun n i => (i = .int .i64 0 ∧ n = .int .i64 0) ∨ (i = .int .i64 1 ∧ n = .int .i64 0) ∨ (i = .int .i64 2 ∧ n = .int .i64 1) ∨ (i = .int .i64 3 ∧ n = .int .i64 1)) (fun _ i => 3 - (intOf i).toNat)
    case atStart => exact .inl ⟨rfl, rfl⟩
    case round =>
      rcases hrel with ⟨rfl, rfl⟩ | ⟨rfl, rfl⟩ | ⟨rfl, rfl⟩ | ⟨rfl, rfl⟩
      · go_wp2
        go_round
        case rel => exact .inr (.inl ⟨rfl, rfl⟩)
        case measure => simp [intOf]
      · go_wp2
        go_round
        case rel => exact .inr (.inr (.inl ⟨rfl, rfl⟩))
        case measure => simp [intOf]
      · go_wp2
        go_round
        case rel => exact .inr (.inr (.inr ⟨rfl, rfl⟩))
        case measure => simp [intOf]
      · go_wp2_with (first
          | (go_at_call 13; ((with_reducible refine (hk1 _).mono ?_); rintro e w' ⟨rfl, rfl⟩))
          | (go_at_call 13; ((with_reducible refine (hk2 _).mono ?_); rintro e w' ⟨rfl, rfl⟩)))
        go_ret
        exact ⟨rfl, hb1.alloc hb1.size _⟩
  · go_enter Try.func3, Try.ntmps3
    go_wp2_with (first
      | (go_at_call 9; refine (lives_any _).mono ?_; rintro e w1 ⟨rfl, hb1⟩)
      | (go_at_call 10; ((with_reducible refine (hx _).mono ?_); rintro e w' ⟨rfl, rfl⟩))
      | (go_at_call 10; ((with_reducible refine (hy _).mono ?_); rintro e w' ⟨rfl, rfl⟩))
      | (go_at_call 10; ((with_reducible refine (hz _).mono ?_); rintro e w' ⟨rfl, rfl⟩))
      | (go_at_call 11; ((with_reducible refine (hl1 _).mono ?_); rintro e w' ⟨rfl, rfl⟩))
      | (go_at_call 11; ((with_reducible refine (hl2 _).mono ?_); rintro e w' ⟨rfl, rfl⟩))
      | (go_at_call 11; ((with_reducible refine (hl3 _).mono ?_); rintro e w' ⟨rfl, rfl⟩))
      | (go_at_call 11; ((with_reducible refine (hg _).mono ?_); rintro e w' ⟨rfl, rfl⟩))
      | (go_at_call 12; ((with_reducible refine (he1 _).mono ?_); rintro e w' ⟨rfl, rfl⟩))
      | (go_at_call 12; ((with_reducible refine (he2 _).mono ?_); rintro e w' ⟨rfl, rfl⟩))
      | (go_at_call 12; ((with_reducible refine (he3 _).mono ?_); rintro e w' ⟨rfl, rfl⟩))
      | (go_at_call 13; ((with_reducible refine (hk1 _).mono ?_); rintro e w' ⟨rfl, rfl⟩))
      | (go_at_call 13; ((with_reducible refine (hk2 _).mono ?_); rintro e w' ⟨rfl, rfl⟩)))
    go_loop [10, 62] (fun n i => (i = .int .i64 0 ∧ n = .int .i64 0) ∨ (i = .int .i64 1 ∧ n = .int .i64 0) ∨ (i = .int .i64 2 ∧ n = .int .i64 1) ∨ (i = .int .i64 3 ∧ n = .int .i64 1)) (fun _ i => 3 - (intOf i).toNat)
    case atStart => exact .inl ⟨rfl, rfl⟩
    case round =>
      rcases hrel with ⟨rfl, rfl⟩ | ⟨rfl, rfl⟩ | ⟨rfl, rfl⟩ | ⟨rfl, rfl⟩
      · go_wp2
        go_round
        case rel => exact .inr (.inl ⟨rfl, rfl⟩)
        case measure => simp [intOf]
      · go_wp2
        go_round
        case rel => exact .inr (.inr (.inl ⟨rfl, rfl⟩))
        case measure => simp [intOf]
      · go_wp2
        go_round
        case rel => exact .inr (.inr (.inr ⟨rfl, rfl⟩))
        case measure => simp [intOf]
      · go_wp2_with (first
          | (go_at_call 13; ((with_reducible refine (hk1 _).mono ?_); rintro e w' ⟨rfl, rfl⟩))
          | (go_at_call 13; ((with_reducible refine (hk2 _).mono ?_); rintro e w' ⟨rfl, rfl⟩)))
        go_ret
        exact ⟨rfl, hb1.alloc hb1.size _⟩
  · go_enter Try.func3, Try.ntmps3
    go_wp2_with (first
      | (go_at_call 9; refine (lives_any _).mono ?_; rintro e w1 ⟨rfl, hb1⟩)
      | (go_at_call 10; ((with_reducible refine (hx _).mono ?_); rintro e w' ⟨rfl, rfl⟩))
      | (go_at_call 10; ((with_reducible refine (hy _).mono ?_); rintro e w' ⟨rfl, rfl⟩))
      | (go_at_call 10; ((with_reducible refine (hz _).mono ?_); rintro e w' ⟨rfl, rfl⟩))
      | (go_at_call 11; ((with_reducible refine (hl1 _).mono ?_); rintro e w' ⟨rfl, rfl⟩))
      | (go_at_call 11; ((with_reducible refine (hl2 _).mono ?_); rintro e w' ⟨rfl, rfl⟩))
      | (go_at_call 11; ((with_reducible refine (hl3 _).mono ?_); rintro e w' ⟨rfl, rfl⟩))
      | (go_at_call 11; ((with_reducible refine (hg _).mono ?_); rintro e w' ⟨rfl, rfl⟩))
      | (go_at_call 12; ((with_reducible refine (he1 _).mono ?_); rintro e w' ⟨rfl, rfl⟩))
      | (go_at_call 12; ((with_reducible refine (he2 _).mono ?_); rintro e w' ⟨rfl, rfl⟩))
      | (go_at_call 12; ((with_reducible refine (he3 _).mono ?_); rintro e w' ⟨rfl, rfl⟩))
      | (go_at_call 13; ((with_reducible refine (hk1 _).mono ?_); rintro e w' ⟨rfl, rfl⟩))
      | (go_at_call 13; ((with_reducible refine (hk2 _).mono ?_); rintro e w' ⟨rfl, rfl⟩)))
    go_loop [10, 62] (fun n i => (i = .int .i64 0 ∧ n = .int .i64 0) ∨ (i = .int .i64 1 ∧ n = .int .i64 0) ∨ (i = .int .i64 2 ∧ n = .int .i64 0) ∨ (i = .int .i64 3 ∧ n = .int .i64 1)) (fun _ i => 3 - (intOf i).toNat)
    case atStart => exact .inl ⟨rfl, rfl⟩
    case round =>
      rcases hrel with ⟨rfl, rfl⟩ | ⟨rfl, rfl⟩ | ⟨rfl, rfl⟩ | ⟨rfl, rfl⟩
      · go_wp2
        go_round
        case rel => exact .inr (.inl ⟨rfl, rfl⟩)
        case measure => simp [intOf]
      · go_wp2
        go_round
        case rel => exact .inr (.inr (.inl ⟨rfl, rfl⟩))
        case measure => simp [intOf]
      · go_wp2
        go_round
        case rel => exact .inr (.inr (.inr ⟨rfl, rfl⟩))
        case measure => simp [intOf]
      · go_wp2_with (first
          | (go_at_call 13; ((with_reducible refine (hk1 _).mono ?_); rintro e w' ⟨rfl, rfl⟩))
          | (go_at_call 13; ((with_reducible refine (hk2 _).mono ?_); rintro e w' ⟨rfl, rfl⟩)))
        go_ret
        exact ⟨rfl, hb1.alloc hb1.size _⟩

theorem less_law (x y z : Nat) (hx : x < 18446744073709551616) (hy : y < 18446744073709551616) (hz : z < 18446744073709551616) (w : World) :
    Calls Try.prog 3 #[.int .u64 (x : Int), .int .u64 (y : Int), .int .u64 (z : Int)] w fun e w' => e = .returned (.bool true) ∧ Below w.heap.size w w' := by
  have ha := norm_lt x hx
  have hb := norm_lt y hy
  have hc := norm_lt z hz
  refine less_walk x y z _ _ _ _ _ _ _ _ _ _ _ _ (ofBits_any x) (ofBits_any y) (ofBits_any z) (less_any _ _) (less_any _ _) (less_any _ _) (less_any _ _) (equal_any _ _) (equal_any _ _) (equal_any _ _) (kind_any _ ha) (kind_any _ hb) ?_ w
  have k1 := kind_none (norm x)
  have k2 := kind_none (norm y)
  generalize norm x = a at *
  generalize norm y = b at *
  generalize norm z = c at *
  unfold lessCase
  cases na : isN a
  · have q1 : (kindOf ((a % 9223372036854775808 : Nat) : Int) == 4) = false := by
      rw [na] at k1
      cases h : (kindOf ((a % 9223372036854775808 : Nat) : Int) == 4)
      · rfl
      · have := k1.1 (by simpa using h); cases this
    cases nb : isN b
    · have q2 : (kindOf ((b % 9223372036854775808 : Nat) : Int) == 4) = false := by
        rw [nb] at k2
        cases h : (kindOf ((b % 9223372036854775808 : Nat) : Int) == 4)
        · rfl
        · have := k2.1 (by simpa using h); cases this
      right
      refine ⟨q1, q2, ?_⟩
      rw [ltB_V a b ha hb na nb, eqB_V a b ha hb na nb, ltB_V b a hb ha nb na]
      cases nc : isN c
      · rw [ltB_V b c hb hc nb nc, ltB_V a c ha hc na nc, eqB_V b c hb hc nb nc, eqB_V a c ha hc na nc]
        simp only [decide_eq_true_eq, decide_eq_false_iff_not]
        omega
      · rw [ltB_none b c (.inr nc), ltB_none a c (.inr nc), eqB_none b c (.inr nc), eqB_none a c (.inr nc)]
        simp only [decide_eq_true_eq, decide_eq_false_iff_not, true_or, and_true]
        omega
    · left
      refine ⟨ltB_none _ _ (.inr nb), eqB_none _ _ (.inr nb), ltB_none _ _ (.inl nb), .inr ⟨q1, ?_⟩⟩
      simpa using k2.2 nb
  · left
    refine ⟨ltB_none _ _ (.inl na), eqB_none _ _ (.inl na), ltB_none _ _ (.inr na), .inl ?_⟩
    simpa using k1.2 na
end Go.Proofs.Ytllgkkbdpabhjaa
