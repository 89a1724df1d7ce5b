/- The law on whole numbers and what is cut off, at every number and every word. -/
import Derived.Test.YtllgkkbdpabhjaaRoundMath
import Derived.Test.YtllgkkbdpabhjaaRefLessA
import Derived.Test.YtllgkkbdpabhjaaSwapMath
namespace Go.Proofs.Ytllgkkbdpabhjaa
open Go Go.Proofs Go.RowKit

theorem whole_nearest (n : Int) : norm (floatOfInt .f64 n) = Ieee.double.nearest (decide (n < 0)) n.natAbs 0 := by
  show norm (Ieee.double.nearest (decide (n < 0)) n.natAbs 0) = _
  exact norm_nearest _ _ _

theorem dg_small (m : Nat) (h : m < 18446744073709551616) : (dg m).length ≤ 64 := length_le m 64 h

/-- Round, of a number's digits. -/
theorem round_num (minus : Bool) (N : Nat) (v : Value) (e : Int) (w : World) (hL2 : (dg N).length ≤ 10000) (he1 : -9999 ≤ e) (he2 : e ≤ 10000) (hv : RowAt w.heap.size w v (dg N)) :
    Calls Try.prog 28 #[.bool minus, v, .int .i64 e, .bool false] w fun r w' => r = .returned (.int .u64 ((Ieee.double.nearest minus N e : Nat) : Int)) ∧ Below w.heap.size w w' := by
  by_cases hN : N = 0
  · subst hN
    exact round_zero minus v e w _ hv
  · have := round_any minus false N v e w hN hL2 (by omega) he2 (.inl rfl) hv
    have e2 : Ieee.double.nearest minus (2 * N + false.toNat) (e - 1) = Ieee.double.nearest minus N e := by
      have h1 : 2 * N + false.toNat = N * 2 ^ 1 := by simp; omega
      rw [h1, nearest_scale, show e - 1 + (1 : Nat) = e by omega]
    rwa [e2] at this

theorem u64_wrap_mod (a : Int) : IntKind.u64.wrap a = a % 18446744073709551616 := by
  simp only [IntKind.wrap, IntKind.bits, IntKind.signed]
  have : (2:Int) ^ 64 = 18446744073709551616 := by decide
  simp [this]
/-- The parts of a word whose number is no int64; of one that is. -/
def refuseCase (s i na : Bool) (p d P : Int) : Prop :=
  i = true ∨ (i = false ∧ na = true) ∨ (i = false ∧ na = false ∧ 11 < p) ∨ (i = false ∧ na = false ∧ p = 11 ∧ s = true ∧ (d == P) = false ∧ P ≤ d) ∨ (i = false ∧ na = false ∧ p = 11 ∧ s = false ∧ P ≤ d)
def acceptCase (s i na : Bool) (p d P : Int) : Prop :=
  (i = false ∧ na = false ∧ p < 11) ∨ (i = false ∧ na = false ∧ p = 11 ∧ s = true ∧ (d == P) = true)
def truncCase (p d T : Int) : Prop :=
  (0 ≤ p ∧ T = d * 2 ^ p.toNat) ∨ (p < -63 ∧ T = 0) ∨ (p < 0 ∧ -63 ≤ p ∧ T = d / 2 ^ (-p).toNat)
theorem fin1 (T : Int) : (IntKind.u64.wrap (-T) == IntKind.u64.wrap (-IntKind.u64.wrap T)) = true := by
  rw [u64_wrap_mod, u64_wrap_mod, u64_wrap_mod, beq_iff_eq]; omega
theorem fin2 (T : Int) (h : 0 ≤ T ∧ T < 18446744073709551616) : (IntKind.u64.wrap T == T) = true := by
  rw [u64_wrap_mod, beq_iff_eq]; omega
theorem ret_bool {b : Bool} (h : b = true) : Ending.returned (.bool b) = Ending.returned (.bool true) := by rw [h]
theorem ret_u64v {a b : Int} (h : a = b) : Value.int .u64 a = Value.int .u64 b := by rw [h]

set_option maxRecDepth 100000 in
set_option maxHeartbeats 2000000 in
theorem whole_walk (n : Int) (x : Nat) (s i na : Bool) (p d k ec T : Int) (w : World) (hn1 : -9223372036854775808 ≤ n) (hn2 : n ≤ 9223372036854775807)
    (hx : ∀ w, Calls Try.prog 23 #[.int .u64 (x : Int)] w fun r w' => r = .returned (.tuple #[.bool s, .int .i64 p, .int .u64 d, .bool i, .bool na]) ∧ w = w')
    (hk : ∀ w, Calls Try.prog 30 #[.int .u64 (x : Int)] w fun r w' => r = .returned (.tuple #[.int .i64 k, .int .i64 ec]) ∧ w = w')
    (hTb : 0 ≤ T ∧ T < 18446744073709551616) (hd1 : 0 ≤ d) (hd2 : d < 9007199254740992) (hp1 : -1074 ≤ p) (hp2 : p ≤ 971)
    (hC : refuseCase s i na p d 4503599627370496 ∧ k = 0 ∧ ec = 1 ∨ acceptCase s i na p d 4503599627370496 ∧ ec = 0 ∧ truncCase p d T ∧ k = if s then -T else T) :
    Calls Try.prog 7 #[.int .i64 n, .int .u64 (x : Int)] w fun r w' => r = .returned (.bool true) ∧ Below w.heap.size w w' := by
  have cw := whole_any n
  rw [whole_nearest] at cw
  have hm : n.natAbs < 18446744073709551616 := by omega
  have co := of_digits_z n.natAbs 0 (n.natAbs : Int) rfl hm (by omega) (by omega) w.heap.size w rfl
  have cr := fun (v : Value) (W : World) => round_num (decide (n < 0)) (n.natAbs * 2 ^ (0 : Int).toNat) v 0 W (Nat.le_trans (dg_small _ (by simpa using hm)) (by omega)) (by omega) (by omega)
  have e0 : n.natAbs * 2 ^ (0 : Int).toNat = n.natAbs := by simp
  rw [e0] at co cr
  have CW := Lib.hid cw
  have CO := Lib.hid co
  have CR := Lib.hid cr
  clear cw co cr e0
  go_enter Try.func7, Try.ntmps7
  generalize (4503599627370496 : Int) = P at hC ⊢
  go_upto_if 19 with (go_at_call 9; refine (lives_any _).mono ?_; rintro r w1 ⟨rfl, hb1⟩)
  go_cut [5] from 14 (fun m wx => m = .int .u64 (n.natAbs : Int) ∧ w1 = wx)
  case first =>
    rcases Int.lt_or_le n 0 with h | h
    · go_wp2_with fail
      go_meet
      case rel => exact ⟨ret_u64v (by rw [u64_wrap_mod, u64_wrap_mod]; omega), rfl⟩
    · go_wp2_with fail
      go_meet
      case rel => exact ⟨ret_u64v (by rw [u64_wrap_mod]; omega), rfl⟩
  case rest =>
    obtain ⟨rfl, rfl⟩ := hcut
    go_upto_region 6 with fail
    go_cut [29] from 14 (fun b wx => b = .bool false ∧ Hid (Below w.heap.size w wx))
    case first =>
      have hc : ∀ b : Bool, decide (n < 0) = b → ∀ v W, RowAt W.heap.size W v (dg n.natAbs) → Calls Try.prog 28 #[.bool b, v, .int .i64 0, .bool false] W fun r w' => r = .returned (.int .u64 ((Ieee.double.nearest b n.natAbs 0 : Nat) : Int)) ∧ Below W.heap.size W w' := by
        intro b hb v W hv
        have := CR.out v W hv
        rwa [hb] at this
      have hcw : ∀ b : Bool, decide (n < 0) = b → ∀ W, Calls Try.prog 27 #[.int .i64 n] W fun r w' => r = .returned (.int .u64 ((Ieee.double.nearest b n.natAbs 0 : Nat) : Int)) ∧ W = w' := by
        intro b hb W
        have := CW.out W
        rwa [hb] at this
      rcases Int.lt_or_le n 0 with h | h
      · have c1 := Lib.hid (hc true (by simpa using h))
        have c2 := Lib.hid (hcw true (by simpa using h))
        clear hc hcw CR CW
        generalize Ieee.double.nearest true n.natAbs 0 = R at *
        go_wp2_with fail
        refine (c2.out _).mono ?_
        rintro r w' ⟨rfl, rfl⟩
        go_wp2_with fail
        refine (CO.out _ hb1).mono ?_
        rintro r w2 ⟨⟨v2, rfl, hr2⟩, hb2, _⟩
        have HR2 := Lib.hid hr2
        clear hr2
        go_wp2_with fail
        with_reducible refine (c1.out _ _ HR2.out).mono ?_
        rintro r w3 ⟨rfl, hb3⟩
        go_wp2_with fail
        go_meet
        case rel => exact ⟨rfl, Lib.hid (hb2.trans (hb3.mono hb2.size))⟩
      · have hdec : decide (n < 0) = false := by simpa using h
        have c1 := Lib.hid (hc false (by simpa using h))
        have c2 := Lib.hid (hcw false (by simpa using h))
        clear hc hcw CR CW
        generalize Ieee.double.nearest false n.natAbs 0 = R at *
        go_wp2_with fail
        refine (c2.out _).mono ?_
        rintro r w' ⟨rfl, rfl⟩
        go_wp2_with fail
        refine (CO.out _ hb1).mono ?_
        rintro r w2 ⟨⟨v2, rfl, hr2⟩, hb2, _⟩
        have HR2 := Lib.hid hr2
        clear hr2
        go_wp2_with fail
        with_reducible refine (c1.out _ _ HR2.out).mono ?_
        rintro r w3 ⟨rfl, hb3⟩
        go_wp2_with fail
        go_meet
        case rel => exact ⟨rfl, Lib.hid (hb2.trans (hb3.mono hb2.size))⟩
    case rest =>
      obtain ⟨rfl, hB⟩ := hcut
      clear CR CW CO hb1 hm hn1 hn2
      rcases hC with ⟨hR, rfl, rfl⟩ | ⟨hA, rfl, hT, hkT⟩
      · unfold refuseCase at hR
        rcases hR with rfl | ⟨rfl, rfl⟩ | ⟨rfl, rfl, g⟩ | ⟨rfl, rfl, rfl, rfl, g1, g2⟩ | ⟨rfl, rfl, rfl, rfl, g⟩
        all_goals
          go_wp2_with (first
            | (go_at_call 30; refine (hk _).mono ?_; rintro r w' ⟨rfl, rfl⟩)
            | (go_at_call 23; refine (hx _).mono ?_; rintro r w' ⟨rfl, rfl⟩))
          go_ret
          exact ⟨rfl, hB.out⟩
      · unfold acceptCase at hA
        unfold truncCase at hT
        rcases hA with ⟨rfl, rfl, g⟩ | ⟨rfl, rfl, rfl, rfl, g⟩
        · go_upto_region 13 with (first
            | (go_at_call 30; refine (hk _).mono ?_; rintro r w' ⟨rfl, rfl⟩)
            | (go_at_call 23; refine (hx _).mono ?_; rintro r w' ⟨rfl, rfl⟩))
          have HTB := Lib.hid hTb
          clear hTb
          rcases hT with ⟨q, rfl⟩ | ⟨q, rfl⟩ | ⟨q1, q2, rfl⟩
          all_goals
            cases s
            all_goals
              go_wp2_with fail
              go_ret
              first
                | exact ⟨rfl, hB.out⟩
                | exact ⟨ret_bool (fin1 _), hB.out⟩
                | exact ⟨ret_bool (fin2 _ HTB.out), hB.out⟩
        · go_upto_region 13 with (first
            | (go_at_call 30; refine (hk _).mono ?_; rintro r w' ⟨rfl, rfl⟩)
            | (go_at_call 23; refine (hx _).mono ?_; rintro r w' ⟨rfl, rfl⟩))
          rcases hT with ⟨q, rfl⟩ | ⟨q, rfl⟩ | ⟨q1, q2, rfl⟩
          · go_wp2_with fail
            go_ret
            exact ⟨rfl, hB.out⟩
          · omega
          · omega
end Go.Proofs.Ytllgkkbdpabhjaa
