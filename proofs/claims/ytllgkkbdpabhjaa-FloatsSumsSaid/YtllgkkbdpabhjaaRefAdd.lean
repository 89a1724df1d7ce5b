/- The document's sum and difference, at every two words. -/
import Derived.Test.YtllgkkbdpabhjaaRoundMath
import Derived.Test.YtllgkkbdpabhjaaSwapMath
import Derived.Test.YtllgkkbdpabhjaaWholeWalk
namespace Go.Proofs.Ytllgkkbdpabhjaa
open Go Go.Proofs Go.RowKit

/-- What the document's sum tells of two numbers' digits, on one place. -/
def sumW (s t : Bool) (A B : Nat) (low : Int) : Nat :=
  if s = t then Ieee.double.nearest s (A + B) low
  else if B < A then Ieee.double.nearest s (A - B) low
  else if A < B then Ieee.double.nearest t (B - A) low
  else 0

/-- The ways of a sum, and what comes of them. -/
def addCase (s t i j na nb : Bool) (m n e f low : Int) (x y A B : Nat) (R : Nat) : Prop :=
  ((na = true ∨ (na = false ∧ nb = true) ∨ (na = false ∧ nb = false ∧ i = true ∧ j = true ∧ (s != t) = true)) ∧ R = noneB) ∨
  (na = false ∧ nb = false ∧ i = true ∧ (j = false ∨ (j = true ∧ (s != t) = false)) ∧ R = x) ∨
  (na = false ∧ nb = false ∧ i = false ∧ j = true ∧ R = y) ∨
  (na = false ∧ nb = false ∧ i = false ∧ j = false ∧ (m == 0) = true ∧ (n == 0) = true ∧ R = if s && t then 9223372036854775808 else 0) ∨
  (na = false ∧ nb = false ∧ i = false ∧ j = false ∧ ((m == 0) = false ∨ ((m == 0) = true ∧ (n == 0) = false)) ∧ ((e ≤ f ∧ low = e) ∨ (f < e ∧ low = f)) ∧ R = sumW s t A B low)

theorem len_add (A B k : Nat) (hA : (dg A).length ≤ k) (hB : (dg B).length ≤ k) : (dg (A + B)).length ≤ k + 1 := by
  have h1 := Nat.lt_of_lt_of_le (lt_length A) (Nat.pow_le_pow_right (by omega : 0 < 2) hA)
  have h2 := Nat.lt_of_lt_of_le (lt_length B) (Nat.pow_le_pow_right (by omega : 0 < 2) hB)
  exact length_le _ _ (by rw [Nat.pow_succ]; omega)
theorem len_sub (A B k : Nat) (hA : (dg A).length ≤ k) : (dg (A - B)).length ≤ k := by
  have h1 := Nat.lt_of_lt_of_le (lt_length A) (Nat.pow_le_pow_right (by omega : 0 < 2) hA)
  exact length_le _ _ (by omega)

set_option maxRecDepth 100000 in
set_option maxHeartbeats 2000000 in
theorem refAdd_walk (x y y' : Nat) (minus s t i j na nb : Bool) (m n e f low : Int) (M N A B R : Nat) (w : World)
    (hx : ∀ w, Calls Try.prog 23 #[.int .u64 (x : Int)] w fun r w' => r = .returned (.tuple #[.bool s, .int .i64 e, .int .u64 m, .bool i, .bool na]) ∧ w = w')
    (hy : ∀ w, Calls Try.prog 23 #[.int .u64 (y' : Int)] w fun r w' => r = .returned (.tuple #[.bool t, .int .i64 f, .int .u64 n, .bool j, .bool nb]) ∧ w = w')
    (hxor : if minus then bits .xor .u64 (y : Int) 9223372036854775808 = (y' : Int) else y = y')
    (hm : m = M) (hn : n = N) (hM : M < 18446744073709551616) (hN : N < 18446744073709551616)
    (e1 : -1074 ≤ e) (e2 : e ≤ 971) (f1 : -1074 ≤ f) (f2 : f ≤ 971)
    (hA : A = M * 2 ^ (e - low).toNat) (hB : B = N * 2 ^ (f - low).toNat) (lA : (dg A).length ≤ 9000) (lB : (dg B).length ≤ 9000)
    (hC : addCase s t i j na nb m n e f low x y' A B R) :
    Calls Try.prog 16 #[.int .u64 (x : Int), .int .u64 (y : Int), .bool minus] w fun r w' => r = .returned (.int .u64 (R : Int)) ∧ Below w.heap.size w w' := by
  unfold addCase at hC
  go_enter Try.func16, Try.ntmps16
  have hT : ((9223372036854775808 : Nat) : Int) = 9223372036854775808 := rfl
  have hNB : ((noneB : Nat) : Int) = 9221120237041090561 := rfl
  generalize (9223372036854775808 : Int) = T at hxor hT ⊢
  generalize (9221120237041090561 : Int) = NB at hNB ⊢
  have HT := Lib.hid hT
  have HNB := Lib.hid hNB
  have HM := Lib.hid hm
  have HN := Lib.hid hn
  have HA := Lib.hid hA
  have HB := Lib.hid hB
  clear hT hNB hm hn hA hB
  go_upto_if 20 with fail
  go_cut [1] from 20 (fun v wx => v = .int .u64 (y' : Int) ∧ w = wx)
  case first =>
    cases minus
    · obtain rfl : y = y' := by simpa using hxor
      clear hxor
      go_wp2_with fail
      go_meet
      case rel => exact ⟨rfl, rfl⟩
    · have hxor' : bits .xor .u64 (y : Int) T = (y' : Int) := by simpa using hxor
      clear hxor
      go_wp2_with fail
      go_meet
      case rel => exact ⟨rfl, rfl⟩
  case rest =>
    obtain ⟨rfl, rfl⟩ := hcut
    clear hxor
    rcases hC with ⟨h, rfl⟩ | ⟨rfl, rfl, rfl, h, rfl⟩ | ⟨rfl, rfl, rfl, rfl, rfl⟩ | ⟨rfl, rfl, rfl, rfl, z1, z2, rfl⟩ | ⟨rfl, rfl, rfl, rfl, hz, hlow, rfl⟩
    · rcases h with rfl | ⟨rfl, rfl⟩ | ⟨rfl, rfl, rfl, rfl, h⟩ <;> (try (cases s <;> cases t <;> (try (cases h; done))))
      all_goals
        go_wp2_with (first
          | (go_at_call 23; ((with_reducible refine (hx _).mono ?_); rintro r w' ⟨rfl, rfl⟩))
          | (go_at_call 23; ((with_reducible refine (hy _).mono ?_); rintro r w' ⟨rfl, rfl⟩)))
        go_ret
        exact ⟨by rw [HNB.out]; rfl, Below.refl _ _⟩
    · rcases h with rfl | ⟨rfl, h⟩ <;> (try (cases s <;> cases t <;> (try (cases h; done))))
      all_goals
        go_wp2_with (first
          | (go_at_call 23; ((with_reducible refine (hx _).mono ?_); rintro r w' ⟨rfl, rfl⟩))
          | (go_at_call 23; ((with_reducible refine (hy _).mono ?_); rintro r w' ⟨rfl, rfl⟩)))
        go_ret
        exact ⟨rfl, Below.refl _ _⟩
    · go_wp2_with (first
          | (go_at_call 23; ((with_reducible refine (hx _).mono ?_); rintro r w' ⟨rfl, rfl⟩))
          | (go_at_call 23; ((with_reducible refine (hy _).mono ?_); rintro r w' ⟨rfl, rfl⟩)))
      go_ret
      exact ⟨rfl, Below.refl _ _⟩
    · cases s <;> cases t
      all_goals
        go_wp2_with (first
          | (go_at_call 23; ((with_reducible refine (hx _).mono ?_); rintro r w' ⟨rfl, rfl⟩))
          | (go_at_call 23; ((with_reducible refine (hy _).mono ?_); rintro r w' ⟨rfl, rfl⟩)))
        go_ret
        exact ⟨by first | rfl | exact congrArg (fun z => Ending.returned (Value.int .u64 z)) HT.out.symm, Below.refl _ _⟩
    · go_upto_region 11 with (first
          | (go_at_call 23; ((with_reducible refine (hx _).mono ?_); rintro r w' ⟨rfl, rfl⟩))
          | (go_at_call 23; ((with_reducible refine (hy _).mono ?_); rintro r w' ⟨rfl, rfl⟩)))
      go_cut [63] from 20 (fun b wx => b = .bool false ∧ w = wx)
      case first =>
        rcases hz with hz | ⟨hz, hz2⟩
        all_goals
          go_wp2_with fail
          go_meet
          case rel => exact ⟨rfl, rfl⟩
      case rest =>
        obtain ⟨rfl, rfl⟩ := hcut
        go_upto_region 15 with fail
        go_cut [17] from 20 (fun b wx => b = .int .i64 low ∧ w = wx)
        case first =>
          rcases hlow with ⟨h1, rfl⟩ | ⟨h1, rfl⟩
          all_goals
            go_wp2_with fail
            go_meet
            case rel => exact ⟨rfl, rfl⟩
        case rest =>
          obtain ⟨rfl, rfl⟩ := hcut
          have hA := HA.out
          have hB := HB.out
          have c1 := of_digits_z M (e - low) m HM.out hM (by omega) (by omega) w.heap.size w rfl
          have c2 := of_digits_z N (f - low) n HN.out hN (by omega) (by omega) w.heap.size w rfl
          rw [← hA] at c1
          rw [← hB] at c2
          have hl1 : -1074 ≤ low := by omega
          have hl2 : low ≤ 971 := by omega
          have C1 := Lib.hid c1
          have C2 := Lib.hid c2
          clear c1 c2 hA hB hM hN hz hlow HM HN HA HB
          go_wp2_with fail
          refine (C1.out _ (Below.refl _ _)).mono ?_
          rintro r w1 ⟨⟨u1, rfl, r1⟩, hb1, _⟩
          have R1 := Lib.hid r1
          clear r1
          go_wp2_with fail
          refine (C2.out _ hb1).mono ?_
          rintro r w2 ⟨⟨u2, rfl, r2⟩, hb2, hb12⟩
          have R1' := Lib.hid ((R1.out.below hb12).more hb12.size)
          have R2 := Lib.hid r2
          clear r2 hb12
          have lS : (dg (A + B)).length ≤ 10000 := Nat.le_trans (len_add A B 9000 lA lB) (by omega)
          have lD1 : (dg (A - B)).length ≤ 10000 := Nat.le_trans (len_sub A B 9000 lA) (by omega)
          have lD2 : (dg (B - A)).length ≤ 10000 := Nat.le_trans (len_sub B A 9000 lB) (by omega)
          have LS := Lib.hid lS
          have LD1 := Lib.hid lD1
          have LD2 := Lib.hid lD2
          clear lS lD1 lD2
          by_cases hst : s = t
          · subst hst
            have hW : Hid (sumW s s A B low = Ieee.double.nearest s (A + B) low) := Lib.hid (by unfold sumW; rw [if_pos rfl])
            have ca := Lib.hid (add_digits A B w2 (by omega) (by omega) R1'.out R2.out)
            have hss : (s == s) = true := by simp
            go_wp2_with fail
            with_reducible refine ca.out.mono ?_
            rintro r w3 ⟨⟨v3, rfl, r3⟩, hb3⟩
            have cr := Lib.hid (round_num s (A + B) v3 low w3 LS.out (by omega) (by omega) r3)
            clear r3
            go_wp2_with fail
            with_reducible refine cr.out.mono ?_
            rintro r w4 ⟨rfl, hb4⟩
            go_wp2_with fail
            go_ret
            exact ⟨by rw [hW.out]; rfl, hb2.trans ((hb3.mono hb2.size).trans (hb4.mono (Nat.le_trans hb2.size hb3.size)))⟩
          · have hss : (s == t) = false := by cases s <;> cases t <;> first | rfl | exact absurd rfl hst
            have cc := cmp_digits A B w2 (by omega) (by omega) R1'.out R2.out
            rcases Nat.lt_trichotomy A B with g | g | g
            · have hW : Hid (sumW s t A B low = Ieee.double.nearest t (B - A) low) := Lib.hid (by unfold sumW; rw [if_neg hst, if_neg (by omega), if_pos g])
              have hc : cmpI A B = -1 := by unfold cmpI; rw [if_neg (by omega), if_pos g]
              rw [hc] at cc
              have CC := Lib.hid cc
              have ca := Lib.hid (sub_digits B A (by omega) w2 (by omega) (by omega) R2.out R1'.out)
              clear hc cc hst
              go_wp2_with fail
              with_reducible refine CC.out.mono ?_
              rintro r w' ⟨rfl, rfl⟩
              go_wp2_with fail
              with_reducible refine ca.out.mono ?_
              rintro r w3 ⟨⟨v3, rfl, r3⟩, hb3⟩
              have cr := Lib.hid (round_num t (B - A) v3 low w3 LD2.out (by omega) (by omega) r3)
              clear r3
              go_wp2_with fail
              with_reducible refine cr.out.mono ?_
              rintro r w4 ⟨rfl, hb4⟩
              go_wp2_with fail
              go_ret
              exact ⟨by rw [hW.out]; rfl, hb2.trans ((hb3.mono hb2.size).trans (hb4.mono (Nat.le_trans hb2.size hb3.size)))⟩
            · have hW : Hid (sumW s t A B low = 0) := Lib.hid (by unfold sumW; rw [if_neg hst, if_neg (by omega), if_neg (by omega)])
              have hc : cmpI A B = 0 := by unfold cmpI; rw [if_neg (by omega), if_neg (by omega)]
              rw [hc] at cc
              have CC := Lib.hid cc
              clear hc cc hst
              go_wp2_with fail
              with_reducible refine CC.out.mono ?_
              rintro r w' ⟨rfl, rfl⟩
              go_wp2_with fail
              go_ret
              exact ⟨by rw [hW.out]; rfl, hb2⟩
            · have hW : Hid (sumW s t A B low = Ieee.double.nearest s (A - B) low) := Lib.hid (by unfold sumW; rw [if_neg hst, if_pos g])
              have hc : cmpI A B = 1 := by unfold cmpI; rw [if_pos g]
              rw [hc] at cc
              have CC := Lib.hid cc
              have ca := Lib.hid (sub_digits A B (by omega) w2 (by omega) (by omega) R1'.out R2.out)
              clear hc cc hst
              go_wp2_with fail
              with_reducible refine CC.out.mono ?_
              rintro r w' ⟨rfl, rfl⟩
              go_wp2_with fail
              with_reducible refine ca.out.mono ?_
              rintro r w3 ⟨⟨v3, rfl, r3⟩, hb3⟩
              have cr := Lib.hid (round_num s (A - B) v3 low w3 LD1.out (by omega) (by omega) r3)
              clear r3
              go_wp2_with fail
              with_reducible refine cr.out.mono ?_
              rintro r w4 ⟨rfl, hb4⟩
              go_wp2_with fail
              go_ret
              exact ⟨by rw [hW.out]; rfl, hb2.trans ((hb3.mono hb2.size).trans (hb4.mono (Nat.le_trans hb2.size hb3.size)))⟩
end Go.Proofs.Ytllgkkbdpabhjaa
