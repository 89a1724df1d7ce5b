/- How the document's digits compare, add and subtract, at every two numbers of up to a million digits. -/
import Derived.Test.YtllgkkbdpabhjaaDigits
namespace Go.Proofs.Ytllgkkbdpabhjaa
open Go Go.Proofs Go.RowKit

def cmpI (a b : Nat) : Int := if b < a then 1 else if a < b then -1 else 0

theorem div_step (a m : Nat) : a / 2 ^ m = 2 * (a / 2 ^ (m + 1)) + a / 2 ^ m % 2 := by
  rw [Nat.pow_succ, ← Nat.div_div_eq_div_mul]; omega
theorem cmp_more {a b m : Nat} (h : b / 2 ^ m < a / 2 ^ m) : cmpI a b = 1 := by
  unfold cmpI
  rw [if_pos]
  rcases Nat.lt_or_ge b a with h' | h'
  · exact h'
  · exact absurd (Nat.div_le_div_right (c := 2 ^ m) h') (by omega)
theorem cmp_less {a b m : Nat} (h : a / 2 ^ m < b / 2 ^ m) : cmpI a b = -1 := by
  have h2 : a < b := by
    rcases Nat.lt_or_ge a b with h' | h'
    · exact h'
    · exact absurd (Nat.div_le_div_right (c := 2 ^ m) h') (by omega)
  unfold cmpI
  rw [if_neg (by omega), if_pos h2]

set_option maxHeartbeats 1000000 in
theorem cmp_digits (A B : Nat) {n₀ : Nat} {u v : Value} (w : World) (hA : (dg A).length ≤ 100000) (hB : (dg B).length ≤ 100000) (hu : RowAt n₀ w u (dg A)) (hv : RowAt n₀ w v (dg B)) :
    Calls Try.prog 35 #[u, v] w fun e w' => e = .returned (.int .i64 (cmpI A B)) ∧ w = w' := by
  have ca := fun i : Nat => bit_any i (by omega) w hu
  have cb := fun i : Nat => bit_any i (by omega) w hv
  simp only [getD_dg] at ca cb
  obtain ⟨a1, c1, rfl, hc1⟩ := hu.shape
  obtain ⟨a2, c2, rfl, hc2⟩ := hv.shape
  have h1 : A / 2 ^ (max (dg A).length (dg B).length) = 0 := Nat.div_eq_of_lt (Nat.lt_of_lt_of_le (lt_length A) (Nat.pow_le_pow_right (by omega) (Nat.le_max_left _ _)))
  have h2 : B / 2 ^ (max (dg A).length (dg B).length) = 0 := Nat.div_eq_of_lt (Nat.lt_of_lt_of_le (lt_length B) (Nat.pow_le_pow_right (by omega) (Nat.le_max_right _ _)))
  have H0 := Lib.hid (h1.trans h2.symm)
  clear hu hv h1 h2
  generalize (dg A).length = la at *
  generalize (dg B).length = lb at *
  rcases Nat.lt_or_ge la lb with hl | hl
  · have H1 := H0
    rw [Nat.max_eq_right (by omega)] at H1
    clear H0
    go_enter Try.func35, Try.ntmps35
    go_wp2_with fail
    go_loop [5] (fun i => ∃ (k : Nat) (z : Int), k ≤ 100000 ∧ i = .int .i64 z ∧ z + 1 = k ∧ Hid (A / 2 ^ k = B / 2 ^ k)) (fun i => (intOf i + 1).toNat)
    case atStart => exact ⟨lb, (lb : Int) - 1, by omega, rfl, by omega, H1⟩
    case round =>
      obtain ⟨k, z, hk, rfl, hz, hK⟩ := hrel
      cases k with
      | zero =>
        have he : A = B := by simpa using hK.out
        subst he
        have hc0 : Hid (cmpI A A = 0) := Lib.hid (by unfold cmpI; rw [if_neg (by omega), if_neg (by omega)])
        obtain rfl : z = -1 := by omega
        clear hz
        go_wp2_with fail
        go_ret
        exact ⟨by rw [hc0.out]; rfl, rfl⟩
      | succ m =>
        have e1 := div_step A m
        have e2 := div_step B m
        have hK2 := hK.out
        have fa := ca m
        have fb := cb m
        obtain rfl : z = (m : Int) := by omega
        clear hz
        have b1 : A / 2 ^ m % 2 < 2 := Nat.mod_lt _ (by omega)
        have b2 : B / 2 ^ m % 2 < 2 := Nat.mod_lt _ (by omega)
        have hcm := @cmp_more A B m
        have hcl := @cmp_less A B m
        by_cases hd : A / 2 ^ m % 2 = B / 2 ^ m % 2
        · have HN : Hid (A / 2 ^ m = B / 2 ^ m) := Lib.hid (by omega)
          rw [← hd] at fb
          clear hcm hcl e1 e2 hK2 hd ca cb hK b2
          generalize A / 2 ^ m % 2 = x at *
          go_wp2_with (first
            | (go_at_call 40; ((with_reducible refine fa.mono ?_); rintro e w' ⟨rfl, rfl⟩))
            | (go_at_call 40; ((with_reducible refine fb.mono ?_); rintro e w' ⟨rfl, rfl⟩)))
          go_round
          case rel => exact ⟨m, (m : Int) - 1, by omega, rfl, by omega, HN⟩
          case measure => simp [intOf]
        · have hc : (A / 2 ^ m % 2 = 1 ∧ B / 2 ^ m % 2 = 0 ∧ cmpI A B = 1) ∨ (A / 2 ^ m % 2 = 0 ∧ B / 2 ^ m % 2 = 1 ∧ cmpI A B = -1) := by
            have : (A / 2 ^ m % 2 = 1 ∧ B / 2 ^ m % 2 = 0) ∨ (A / 2 ^ m % 2 = 0 ∧ B / 2 ^ m % 2 = 1) := by omega
            rcases this with ⟨x, y⟩ | ⟨x, y⟩
            · exact .inl ⟨x, y, hcm (by omega)⟩
            · exact .inr ⟨x, y, hcl (by omega)⟩
          clear hcm hcl e1 e2 hK2 hd ca cb hK b1 b2
          rcases hc with ⟨x, y, hcc⟩ | ⟨x, y, hcc⟩
          all_goals
            rw [x] at fa
            rw [y] at fb
            have HC := Lib.hid hcc
            clear x y hcc
            go_wp2_with (first
              | (go_at_call 40; ((with_reducible refine fa.mono ?_); rintro e w' ⟨rfl, rfl⟩))
              | (go_at_call 40; ((with_reducible refine fb.mono ?_); rintro e w' ⟨rfl, rfl⟩)))
            go_ret
            exact ⟨by rw [HC.out]; rfl, rfl⟩
  · have H1 := H0
    rw [Nat.max_eq_left (by omega)] at H1
    clear H0
    go_enter Try.func35, Try.ntmps35
    go_wp2_with fail
    go_loop [5] (fun i => ∃ (k : Nat) (z : Int), k ≤ 100000 ∧ i = .int .i64 z ∧ z + 1 = k ∧ Hid (A / 2 ^ k = B / 2 ^ k)) (fun i => (intOf i + 1).toNat)
    case atStart => exact ⟨la, (la : Int) - 1, by omega, rfl, by omega, H1⟩
    case round =>
      obtain ⟨k, z, hk, rfl, hz, hK⟩ := hrel
      cases k with
      | zero =>
        have he : A = B := by simpa using hK.out
        subst he
        have hc0 : Hid (cmpI A A = 0) := Lib.hid (by unfold cmpI; rw [if_neg (by omega), if_neg (by omega)])
        obtain rfl : z = -1 := by omega
        clear hz
        go_wp2_with fail
        go_ret
        exact ⟨by rw [hc0.out]; rfl, rfl⟩
      | succ m =>
        have e1 := div_step A m
        have e2 := div_step B m
        have hK2 := hK.out
        have fa := ca m
        have fb := cb m
        obtain rfl : z = (m : Int) := by omega
        clear hz
        have b1 : A / 2 ^ m % 2 < 2 := Nat.mod_lt _ (by omega)
        have b2 : B / 2 ^ m % 2 < 2 := Nat.mod_lt _ (by omega)
        have hcm := @cmp_more A B m
        have hcl := @cmp_less A B m
        by_cases hd : A / 2 ^ m % 2 = B / 2 ^ m % 2
        · have HN : Hid (A / 2 ^ m = B / 2 ^ m) := Lib.hid (by omega)
          rw [← hd] at fb
          clear hcm hcl e1 e2 hK2 hd ca cb hK b2
          generalize A / 2 ^ m % 2 = x at *
          go_wp2_with (first
            | (go_at_call 40; ((with_reducible refine fa.mono ?_); rintro e w' ⟨rfl, rfl⟩))
            | (go_at_call 40; ((with_reducible refine fb.mono ?_); rintro e w' ⟨rfl, rfl⟩)))
          go_round
          case rel => exact ⟨m, (m : Int) - 1, by omega, rfl, by omega, HN⟩
          case measure => simp [intOf]
        · have hc : (A / 2 ^ m % 2 = 1 ∧ B / 2 ^ m % 2 = 0 ∧ cmpI A B = 1) ∨ (A / 2 ^ m % 2 = 0 ∧ B / 2 ^ m % 2 = 1 ∧ cmpI A B = -1) := by
            have : (A / 2 ^ m % 2 = 1 ∧ B / 2 ^ m % 2 = 0) ∨ (A / 2 ^ m % 2 = 0 ∧ B / 2 ^ m % 2 = 1) := by omega
            rcases this with ⟨x, y⟩ | ⟨x, y⟩
            · exact .inl ⟨x, y, hcm (by omega)⟩
            · exact .inr ⟨x, y, hcl (by omega)⟩
          clear hcm hcl e1 e2 hK2 hd ca cb hK b1 b2
          rcases hc with ⟨x, y, hcc⟩ | ⟨x, y, hcc⟩
          all_goals
            rw [x] at fa
            rw [y] at fb
            have HC := Lib.hid hcc
            clear x y hcc
            go_wp2_with (first
              | (go_at_call 40; ((with_reducible refine fa.mono ?_); rintro e w' ⟨rfl, rfl⟩))
              | (go_at_call 40; ((with_reducible refine fb.mono ?_); rintro e w' ⟨rfl, rfl⟩)))
            go_ret
            exact ⟨by rw [HC.out]; rfl, rfl⟩
end Go.Proofs.Ytllgkkbdpabhjaa
