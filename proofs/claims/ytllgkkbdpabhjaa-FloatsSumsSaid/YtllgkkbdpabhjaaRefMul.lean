/- The document's product, at every two words. -/
import Derived.Test.YtllgkkbdpabhjaaRefAdd
import Derived.Deep.CutRange
namespace Go.Proofs.Ytllgkkbdpabhjaa
open Go Go.Proofs Go.RowKit

/-- The ways of a product, and what comes of them. -/
def mulCase (s t i j na nb : Bool) (m n : Int) (M N O : Nat) (p : Int) (R : Nat) : Prop :=
  ((na = true ∨ (na = false ∧ nb = true) ∨ (na = false ∧ nb = false ∧ i = true ∧ j = false ∧ (n == 0) = true) ∨ (na = false ∧ nb = false ∧ i = false ∧ j = true ∧ (m == 0) = true)) ∧ R = noneB) ∨
  (((na = false ∧ nb = false ∧ i = true ∧ j = true) ∨ (na = false ∧ nb = false ∧ i = true ∧ j = false ∧ (n == 0) = false) ∨ (na = false ∧ nb = false ∧ i = false ∧ j = true ∧ (m == 0) = false)) ∧ R = Ieee.double.nearest (!(s == t)) O 0) ∨
  (na = false ∧ nb = false ∧ i = false ∧ j = false ∧ R = Ieee.double.nearest (!(s == t)) (M * N) p)

theorem mod_step (N k M : Nat) : M * (N % 2 ^ (k + 1)) = M * (N % 2 ^ k) + M * 2 ^ k * (N / 2 ^ k % 2) := by
  rw [mod_succ, Nat.mul_add, Nat.mul_assoc]

set_option maxRecDepth 100000 in
set_option maxHeartbeats 2000000 in
theorem refMul_walk (x y : Nat) (s t i j na nb : Bool) (m n e f p z : Int) (M N O R : Nat) (w : World)
    (hx : ∀ w, Calls Try.prog 23 #[.int .u64 (x : Int)] w fun r w' => r = .returned (.tuple #[.bool s, .int .i64 e, .int .u64 m, .bool i, .bool na]) ∧ w = w')
    (hy : ∀ w, Calls Try.prog 23 #[.int .u64 (y : Int)] w fun r w' => r = .returned (.tuple #[.bool t, .int .i64 f, .int .u64 n, .bool j, .bool nb]) ∧ w = w')
    (hm : m = M) (hn : n = N) (hM : M < 18446744073709551616) (hN : N < 18446744073709551616)
    (e1 : -1074 ≤ e) (e2 : e ≤ 971) (f1 : -1074 ≤ f) (f2 : f ≤ 971) (hp : p = e + f)
    (hz : z = 2000) (hO : O = 1 * 2 ^ z.toNat) (lO : (dg O).length ≤ 9000) (lA : ∀ k, (dg (M * (N % 2 ^ k))).length ≤ 9000)
    (hC : mulCase s t i j na nb m n M N O p R) :
    Calls Try.prog 19 #[.int .u64 (x : Int), .int .u64 (y : Int)] w fun r w' => r = .returned (.int .u64 (R : Int)) ∧ Below w.heap.size w w' := by
  subst hp
  unfold mulCase at hC
  go_enter Try.func19, Try.ntmps19
  have hNB : ((noneB : Nat) : Int) = 9221120237041090561 := rfl
  generalize (9221120237041090561 : Int) = NB at hNB ⊢
  have HNB := Lib.hid hNB
  have HM := Lib.hid hm
  have HN := Lib.hid hn
  have LO := Lib.hid lO
  have LA := Lib.hid lA
  clear hNB hm hn lO lA
  rcases hC with ⟨h, rfl⟩ | ⟨h, rfl⟩ | ⟨rfl, rfl, rfl, rfl, rfl⟩
  · rcases h with rfl | ⟨rfl, rfl⟩ | ⟨rfl, rfl, rfl, rfl, h⟩ | ⟨rfl, rfl, rfl, rfl, h⟩
    all_goals
      go_wp2_with (first
        | (go_at_call 23; ((with_reducible refine (hx _).mono ?_); rintro r w' ⟨rfl, rfl⟩))
        | (go_at_call 23; ((with_reducible refine (hy _).mono ?_); rintro r w' ⟨rfl, rfl⟩)))
      go_ret
      exact ⟨by rw [HNB.out]; rfl, Below.refl _ _⟩
  · have c1 := of_digits_z 1 z 1 rfl (by omega) (by omega) (by omega) w.heap.size w rfl
    rw [← hO, hz] at c1
    have C1 := Lib.hid c1
    clear c1 hz hO
    rcases h with ⟨rfl, rfl, rfl, rfl⟩ | ⟨rfl, rfl, rfl, rfl, h⟩ | ⟨rfl, rfl, rfl, rfl, h⟩
    all_goals
      go_wp2_with (first
        | (go_at_call 23; ((with_reducible refine (hx _).mono ?_); rintro r w' ⟨rfl, rfl⟩))
        | (go_at_call 23; ((with_reducible refine (hy _).mono ?_); rintro r w' ⟨rfl, rfl⟩)))
      with_reducible refine (C1.out _ (Below.refl _ _)).mono ?_
      rintro r w1 ⟨⟨u1, rfl, r1⟩, hb1, _⟩
      have cr := Lib.hid (round_num (!(s == t)) _ u1 0 w1 (Nat.le_trans LO.out (by omega)) (by omega) (by omega) r1)
      clear r1
      go_wp2_with fail
      with_reducible refine cr.out.mono ?_
      rintro r w4 ⟨rfl, hb4⟩
      go_wp2_with fail
      go_ret
      exact ⟨rfl, hb1.trans (hb4.mono hb1.size)⟩
  · clear hz hO
    have c1 := of_digits_z N 0 n HN.out hN (by omega) (by omega) w.heap.size w rfl
    have e0 : N * 2 ^ (0 : Int).toNat = N := by simp
    rw [e0] at c1
    have hlen : (dg N).length ≤ 64 := length_le N 64 hN
    have HLen := Lib.hid hlen
    have C1 := Lib.hid c1
    clear c1 e0 hlen
    go_wp2_with (first
        | (go_at_call 23; ((with_reducible refine (hx _).mono ?_); rintro r w' ⟨rfl, rfl⟩))
        | (go_at_call 23; ((with_reducible refine (hy _).mono ?_); rintro r w' ⟨rfl, rfl⟩)))
    have hB0 := (Below.refl w.heap.size w).alloc (Nat.le_refl _) (.cells #[] 5)
    with_reducible refine (C1.out _ hB0).mono ?_
    rintro r w1 ⟨⟨u1, rfl, r1⟩, hb1, hb1'⟩
    obtain ⟨a1, c1, rfl, hc1⟩ := r1.shape
    have hrow0 : RowAt w1.heap.size w1 (.slice (some ⟨w.heap.size, 0, none⟩) 0 0) (dg 0) := by
      rw [dg_zero]; exact .inl ⟨_, 0, (fun e => by cases e), rfl, rfl⟩
    have R1 := Lib.hid r1
    have R0 := Lib.hid hrow0
    have hln := HLen.out
    clear r1 hrow0 hB0
    have HNL := Lib.hid (mod_all N (dg N).length (Nat.le_refl _))
    generalize hl : (dg N).length = L at *
    have HL := Lib.hid hl
    clear hl
    go_wp2_with fail
    go_loopw [16, 75] (fun v k wr => ∃ q : Nat, q ≤ L ∧ k = .int .i64 (q : Int) ∧ Hid (RowAt wr.heap.size wr v (dg (M * (N % 2 ^ q)))) ∧ Hid (Below w1.heap.size w1 wr)) (fun _ k _ => L + 1 - (intOf k).toNat)
    case atStart => exact ⟨0, by omega, rfl, by rw [Nat.pow_zero, Nat.mod_one, Nat.mul_zero]; exact R0, Lib.hid (Below.refl _ _)⟩
    case round =>
      obtain ⟨q, hq, rfl, hrow, hbel⟩ := hrel
      have hsz := hbel.out.size
      by_cases hlt : q < L
      · have hcells : ∃ b off, a1 = some ⟨b, off, none⟩ ∧ wr.cell? ⟨b, off + q, none⟩ = some (.int .u8 ((N / 2 ^ q % 2 : Nat) : Int)) := by
          have hLL := HL.out
          rcases R1.out.below hbel.out with ⟨_, _, _, _, hn⟩ | ⟨b, off, cap', e1, _, _, hh⟩
          · rw [hn] at hLL; simp at hLL; omega
          · cases e1
            have := hh q (by omega)
            rw [getD_dg] at this
            exact ⟨b, off, rfl, this⟩
        obtain ⟨b, off, rfl, hcell⟩ := hcells
        have hst := mod_step N q M
        have hbit : N / 2 ^ q % 2 = 0 ∨ N / 2 ^ q % 2 = 1 := by omega
        rcases hbit with hbit | hbit
        · rw [hbit] at hcell hst
          replace hst : M * (N % 2 ^ (q + 1)) = M * (N % 2 ^ q) := hst.trans (by rw [Nat.mul_zero]; rfl)
          have hr2 := hrow
          rw [← hst] at hr2
          clear hbit hst
          go_wp2_with fail
          go_roundw
          case rel => exact ⟨q + 1, by omega, by go_num, hr2, hbel⟩
          case measure => simp [intOf]; omega
        · rw [hbit] at hcell hst
          rw [Nat.mul_one] at hst
          have HS := Lib.hid hst
          have c2 := Lib.hid (of_digits_z M (q : Int) m HM.out hM (by omega) (by omega) w1.heap.size w1 rfl wr hbel.out)
          have la := LA.out q
          have lb : (dg (M * 2 ^ q)).length ≤ 9000 := Nat.le_trans (length_le _ (64 + q) (by rw [Nat.pow_add]; exact Nat.mul_lt_mul_of_pos_right (by omega) (Nat.two_pow_pos q))) (by omega)
          have LB := Lib.hid lb
          have LA2 := Lib.hid la
          clear hbit hst la lb
          go_wp2_with fail
          with_reducible refine c2.out.mono ?_
          rintro r w3 ⟨⟨v3, rfl, r3⟩, hb3, hb3'⟩
          rw [Int.toNat_natCast] at r3
          have ca := Lib.hid (add_digits _ _ w3 (Nat.le_trans LA2.out (by omega)) (Nat.le_trans LB.out (by omega)) ((hrow.out.below hb3').more hb3'.size) r3)
          rw [← HS.out] at ca
          clear r3
          go_wp2_with fail
          with_reducible refine ca.out.mono ?_
          rintro r w4 ⟨⟨v4, rfl, r4⟩, hb4⟩
          have R4 := Lib.hid r4
          have B4 := Lib.hid (hb3.trans (hb4.mono (Nat.le_trans hsz hb3'.size)))
          clear r4
          go_wp2_with fail
          go_roundw
          case rel => exact ⟨q + 1, by omega, by go_num, R4, B4⟩
          case measure => simp [intOf]; omega
      · obtain rfl : q = L := by omega
        rw [HNL.out] at hrow
        have lm := LA.out q
        rw [HNL.out] at lm
        have cr := Lib.hid (fun v (hv : RowAt wr.heap.size wr v (dg (M * N))) => round_num (!(s == t)) (M * N) v (e + f) wr (Nat.le_trans lm (by omega)) (by omega) (by omega) hv)
        clear lm
        go_wp2_with fail
        with_reducible refine (cr.out _ hrow.out).mono ?_
        rintro r w4 ⟨rfl, hb4⟩
        go_wp2_with fail
        go_ret
        exact ⟨rfl, hb1.trans ((hbel.out.mono hb1.size).trans (hb4.mono (Nat.le_trans hb1.size hsz)))⟩
end Go.Proofs.Ytllgkkbdpabhjaa
