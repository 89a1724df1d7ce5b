/- Which of two words is less, as the document's answer has it; at every two words. -/
import Derived.Test.YtllgkkbdpabhjaaAddSub
import Derived.Test.YtllgkkbdpabhjaaOrd
namespace Go.Proofs.Ytllgkkbdpabhjaa
open Go Go.Proofs Go.RowKit

theorem of_digits_z (m : Nat) (z mz : Int) (hmz : mz = m) (hm : m < 18446744073709551616) (h0 : 0 ≤ z) (h1 : z ≤ 10000) (S : Nat) (w : World) (hS : S = w.heap.size) (W : World) (hW : Below S w W) :
    Calls Try.prog 29 #[.int .u64 mz, .int .i64 z] W fun e W' => (∃ v, e = .returned v ∧ RowAt W'.heap.size W' v (dg (m * 2 ^ z.toNat))) ∧ Below S w W' ∧ Below W.heap.size W W' := by
  obtain ⟨k, rfl⟩ := Int.eq_ofNat_of_zero_le h0
  subst hmz hS
  exact (of_digits m k hm (by omega) W).mono fun _ _ ⟨h, hb⟩ => ⟨h, hW.trans (hb.mono hW.size), hb⟩

/-- The answer, of the parts: less, the same. -/
def lessR (s t : Bool) (c : Int) : Bool × Bool := if s && t then (decide (0 < c), c == 0) else if s then (true, false) else if t then (false, false) else (decide (c < 0), c == 0)

/-- How the parts are taken: of an endless one others. -/
def partsE (i : Bool) (e E : Int) (m M : Int) : Prop := (i = true ∧ E = 3000 ∧ M = 1) ∨ (i = false ∧ E = e ∧ M = m)

/-- The sign and the zero of a pair, and what is answered. -/
def lessCaseR (s t : Bool) (M N c : Int) (R : Bool × Bool) : Prop :=
  ((M == 0) = true ∧ (N == 0) = true ∧ R = (false, true)) ∨ (((M == 0) = false ∨ ((M == 0) = true ∧ (N == 0) = false)) ∧ R = lessR s t c)

set_option maxHeartbeats 16000000 in
theorem refLess_le (x y : Nat) (s t i j : Bool) (e f E F m n M N : Int) (A B : Nat) (R : Bool × Bool) (w : World)
    (hx : ∀ w, Calls Try.prog 23 #[.int .u64 (x : Int)] w fun r w' => r = .returned (.tuple #[.bool s, .int .i64 e, .int .u64 m, .bool i, .bool false]) ∧ w = w')
    (hy : ∀ w, Calls Try.prog 23 #[.int .u64 (y : Int)] w fun r w' => r = .returned (.tuple #[.bool t, .int .i64 f, .int .u64 n, .bool j, .bool false]) ∧ w = w')
    (hi : partsE i e E m M) (hj : partsE j f F n N)
    (e1 : -1074 ≤ E) (e2 : E ≤ 3000) (f1 : -1074 ≤ F) (f2 : F ≤ 3000) (hEF : E ≤ F) (hM : M = A) (hN : N = B) (hA : A < 18446744073709551616) (hB : B < 18446744073709551616)
    (lA : (dg (A * 2 ^ (0 : Int).toNat)).length ≤ 100000) (lB : (dg (B * 2 ^ (F - E).toNat)).length ≤ 100000)
    (hR : lessCaseR s t M N (cmpI (A * 2 ^ (0 : Int).toNat) (B * 2 ^ (F - E).toNat)) R) :
    Calls Try.prog 22 #[.int .u64 (x : Int), .int .u64 (y : Int)] w fun r w' => r = .returned (.tuple #[.bool R.1, .bool R.2]) ∧ Below w.heap.size w w' := by
  have c1 := of_digits_z A 0 M hM hA (by omega) (by omega) w.heap.size w rfl
  have c2 := of_digits_z B (F - E) N hN hB (by omega) (by omega) w.heap.size w rfl
  generalize A * 2 ^ (0 : Int).toNat = P at *
  generalize B * 2 ^ (F - E).toNat = Q at *
  have c3 := fun n₀ u v W => cmp_digits (n₀ := n₀) (u := u) (v := v) P Q W lA lB
  generalize cmpI P Q = c at *
  have C1 := Lib.hid c1
  have C2 := Lib.hid c2
  have C3 := Lib.hid c3
  clear c1 c2 c3 lA lB hM hN hA hB
  unfold partsE at hi hj
  unfold lessCaseR at hR
  rcases hi with ⟨rfl, rfl, rfl⟩ | ⟨rfl, rfl, rfl⟩ <;> rcases hj with ⟨rfl, rfl, rfl⟩ | ⟨rfl, rfl, rfl⟩ <;> rcases hR with ⟨z1, z2, rfl⟩ | ⟨z1 | ⟨z1, z2⟩, rfl⟩ <;> (try (cases z1; done)) <;> (try (cases z2; done)) <;> cases s <;> cases t
  all_goals
    go_enter Try.func22, Try.ntmps22
    go_wp2_with (first
      | (go_at_call 23; ((with_reducible refine (hx _).mono ?_); rintro r w' ⟨rfl, rfl⟩))
      | (go_at_call 23; ((with_reducible refine (hy _).mono ?_); rintro r w' ⟨rfl, rfl⟩)))
    refine (C1.out _ (Below.refl _ _)).mono ?_
    rintro r w1 ⟨⟨u1, rfl, r1⟩, hb1, _⟩
    have R1 := Lib.hid r1
    clear r1
    go_wp2_with fail
    refine (C2.out _ hb1).mono ?_
    rintro r w2 ⟨⟨u2, rfl, r2⟩, hb2, hb12⟩
    have C := C3.out w2.heap.size u1 u2 w2 ((R1.out.below hb12).more hb12.size) r2
    clear r2 hb12
    go_wp2_with (go_at_call 35; refine C.mono ?_; rintro r w' ⟨rfl, rfl⟩)
    go_ret2
    exact ⟨rfl, hb2⟩
end Go.Proofs.Ytllgkkbdpabhjaa
