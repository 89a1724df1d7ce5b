/- How the document's digits add and subtract, at every two numbers of up to a hundred thousand digits. -/
import Derived.Test.YtllgkkbdpabhjaaCmp
namespace Go.Proofs.Ytllgkkbdpabhjaa
open Go Go.Proofs Go.RowKit

theorem ret_u8 {a b : Int} (h : a = b) : Value.int .u8 a = Value.int .u8 b := by rw [h]
theorem div_top (a i : Nat) (h : (dg a).length ≤ i) : a / 2 ^ i % 2 = 0 := by
  rw [Nat.div_eq_of_lt (Nat.lt_of_lt_of_le (lt_length a) (Nat.pow_le_pow_right (by omega) h))]

set_option maxHeartbeats 2000000 in
theorem add_digits (A B : Nat) {u v : Value} (w : World) (hA : (dg A).length ≤ 100000) (hB : (dg B).length ≤ 100000) (hu : RowAt w.heap.size w u (dg A)) (hv : RowAt w.heap.size w v (dg B)) :
    Calls Try.prog 34 #[u, v] w (DigPost (A + B) w) := by
  have ca : ∀ (i : Nat) (W : World), Below w.heap.size w W → Calls Try.prog 40 #[u, .int .i64 (i : Int)] W fun e w' => e = .returned (.int .u8 ((A / 2 ^ i % 2 : Nat) : Int)) ∧ W = w' := fun i W hW => by
    have := bit_any i (by omega) W (hu.below hW)
    rwa [getD_dg] at this
  have cb : ∀ (i : Nat) (W : World), Below w.heap.size w W → Calls Try.prog 40 #[v, .int .i64 (i : Int)] W fun e w' => e = .returned (.int .u8 ((B / 2 ^ i % 2 : Nat) : Int)) ∧ W = w' := fun i W hW => by
    have := bit_any i (by omega) W (hv.below hW)
    rwa [getD_dg] at this
  have tA := fun i => div_top A i
  have tB := fun i => div_top B i
  have mA := fun k => mod_all A k
  have mB := fun k => mod_all B k
  obtain ⟨a1, c1, rfl, hc1⟩ := hu.shape
  obtain ⟨a2, c2, rfl, hc2⟩ := hv.shape
  clear hu hv
  generalize (dg A).length = la at *
  generalize (dg B).length = lb at *
  have TA := Lib.hid tA
  have TB := Lib.hid tB
  have MA := Lib.hid mA
  have MB := Lib.hid mB
  have CA := Lib.hid ca
  have CB := Lib.hid cb
  clear tA tB mA mB ca cb
  go_enter Try.func34, Try.ntmps34
  go_wp2
  go_loopw [5, 6, 7] (fun v c i wr => ∃ (l : List Nat) (x : Nat), c = .int .u8 x ∧ x < 2 ∧ i = .int .i64 (l.length : Nat) ∧ (l.length ≤ la + lb ∨ (l.length = la + lb + 1 ∧ x = 0)) ∧ Hid (Own wr w.heap.size v l) ∧ Hid (bitsL l) ∧ Hid (val l + 2 ^ l.length * x = A % 2 ^ l.length + B % 2 ^ l.length) ∧ Hid (Below w.heap.size w wr)) (fun _ _ i _ => la + lb + 2 - (intOf i).toNat)
  case atStart =>
    refine ⟨[], 0, rfl, by omega, rfl, .inl (by simp), Lib.hid ?_, Lib.hid (fun d hd => by cases hd), Lib.hid ?_, Lib.hid ((Below.refl _ w).alloc (Nat.le_refl _) _)⟩
    · exact own_const w _ (Nat.le_refl _) [] _ (0, 0) rfl
    · simp [val, Nat.mod_one]
  case round =>
    obtain ⟨l, x, rfl, hx, rfl, hlen, hown, hb, hv, hbel⟩ := hrel
    have hsz := hbel.out.size
    generalize hk : l.length = k at *
    have fa := CA.out k wr hbel.out
    have fb := CB.out k wr hbel.out
    have ta := TA.out k
    have tb := TB.out k
    have b1 : A / 2 ^ k % 2 < 2 := Nat.mod_lt _ (by omega)
    have b2 : B / 2 ^ k % 2 < 2 := Nat.mod_lt _ (by omega)
    have hstep := Lib.hid (add_step A B k (val l) x hv.out _ rfl)
    generalize A / 2 ^ k % 2 = p at *
    generalize B / 2 ^ k % 2 = q at *
    by_cases hgo : k < la ∨ k < lb ∨ 0 < x
    · have hs : (l ++ [(p + q + x) % 2]).length = k + 1 := by simp [hk]
      have hlen2 : k + 1 ≤ la + lb ∨ (k + 1 = la + lb + 1 ∧ (p + q + x) / 2 = 0) := by
        rcases Nat.lt_or_ge k (la + lb) with h | h
        · exact .inl (by omega)
        · have h1 := ta (by omega)
          have h2 := tb (by omega)
          exact .inr ⟨by omega, by omega⟩
      have HL := Lib.hid hlen2
      have HS := Lib.hid hs
      have hb2 := Lib.hid (bits_append hb.out (bits_one (Nat.mod_lt (p + q + x) (by omega : 0 < 2))))
      have hv2 : Hid (val (l ++ [(p + q + x) % 2]) + 2 ^ (k + 1) * ((p + q + x) / 2) = A % 2 ^ (k + 1) + B % 2 ^ (k + 1)) := Lib.hid (by
        rw [val_append, hk, ← hstep.out]
        simp [val])
      clear hlen2 hs ta tb hstep
      have hgo2 : k < la ∨ (la ≤ k ∧ k < lb) ∨ (la ≤ k ∧ lb ≤ k ∧ 0 < x) := by omega
      clear hgo
      rcases hgo2 with g | ⟨g1, g⟩ | ⟨g1, g2, g⟩
      all_goals
        go_wp2_with (first
          | (go_at_call 40; ((with_reducible refine fa.mono ?_); rintro e w' ⟨rfl, rfl⟩))
          | (go_at_call 40; ((with_reducible refine fb.mono ?_); rintro e w' ⟨rfl, rfl⟩))
          | (at_builtin; refine wpList_append_row Try.underlying48 rfl _ _ rfl w.heap.size _ l rfl (hown.out.alloc _) (wr.heap.size + 1) _ [(p + q + x) % 2] rfl (row_new _ _ [(p + q + x) % 2] _ _ ?qa ?qb) ?qc ?qd ?qe ?_))
        case qa => simp [cN]
        case qb => omega
        case qc => rw [hk]; simp; omega
        case qd => simp; omega
        case qe => left; simp
        intro v' w1 hown1 hgrow
        have hB1 := Lib.hid ((hbel.out.alloc hsz _).grown hgrow (by simp; omega) (fun k hk => (hown.out.lt k hk).1))
        have HO := Lib.hid hown1
        clear hown1 hgrow
        go_wp2
        go_roundw
        case rel => exact ⟨l ++ [(p + q + x) % 2], (p + q + x) / 2, by go_num, by omega, by rw [HS.out]; go_num, by rw [HS.out]; exact HL.out, HO, hb2, by rw [HS.out]; exact hv2, hB1⟩
        case measure => simp [intOf]; omega
    · have g1 : la ≤ k := by omega
      have g2 : lb ≤ k := by omega
      obtain rfl : x = 0 := by omega
      have hv2 := hv.out
      rw [MA.out k g1, MB.out k g2, Nat.mul_zero, Nat.add_zero] at hv2
      have ct := trim_any hb.out (by omega) wr hown.out.row
      rw [hv2] at ct
      clear hv hv2 hgo hstep ta tb hlen
      go_wp2_with (go_at_call 37; refine ct.mono ?_; rintro e w' ⟨⟨v', rfl, hr⟩, rfl⟩; have HR := Lib.hid hr; clear hr)
      go_ret
      exact ⟨⟨_, rfl, HR.out⟩, hbel.out⟩

set_option maxHeartbeats 2000000 in
theorem sub_digits (A B : Nat) (hAB : B ≤ A) {u v : Value} (w : World) (hA : (dg A).length ≤ 100000) (hB : (dg B).length ≤ 100000) (hu : RowAt w.heap.size w u (dg A)) (hv : RowAt w.heap.size w v (dg B)) :
    Calls Try.prog 36 #[u, v] w (DigPost (A - B) w) := by
  have ca : ∀ (i : Nat) (W : World), Below w.heap.size w W → Calls Try.prog 40 #[u, .int .i64 (i : Int)] W fun e w' => e = .returned (.int .u8 ((A / 2 ^ i % 2 : Nat) : Int)) ∧ W = w' := fun i W hW => by
    have := bit_any i (by omega) W (hu.below hW)
    rwa [getD_dg] at this
  have cb : ∀ (i : Nat) (W : World), Below w.heap.size w W → Calls Try.prog 40 #[v, .int .i64 (i : Int)] W fun e w' => e = .returned (.int .u8 ((B / 2 ^ i % 2 : Nat) : Int)) ∧ W = w' := fun i W hW => by
    have := bit_any i (by omega) W (hv.below hW)
    rwa [getD_dg] at this
  have mA := mod_all A _ (Nat.le_refl _)
  have mL := lt_length A
  obtain ⟨a1, c1, rfl, hc1⟩ := hu.shape
  obtain ⟨a2, c2, rfl, hc2⟩ := hv.shape
  clear hu hv
  generalize (dg A).length = la at *
  generalize (dg B).length = lb at *
  have MA := Lib.hid mA
  have ML := Lib.hid mL
  have CA := Lib.hid ca
  have CB := Lib.hid cb
  clear mA mL ca cb
  go_enter Try.func36, Try.ntmps36
  go_wp2
  go_loopw [5, 6, 12] (fun v c i wr => ∃ (l : List Nat) (x : Nat), c = .int .u8 x ∧ x < 2 ∧ i = .int .i64 (l.length : Nat) ∧ l.length ≤ la ∧ Hid (Own wr w.heap.size v l) ∧ Hid (bitsL l) ∧ Hid (val l + B % 2 ^ l.length = A % 2 ^ l.length + 2 ^ l.length * x) ∧ Hid (Below w.heap.size w wr)) (fun _ _ i _ => la + 1 - (intOf i).toNat)
  case atStart =>
    refine ⟨[], 0, rfl, by omega, rfl, by simp, Lib.hid ?_, Lib.hid (fun d hd => by cases hd), Lib.hid ?_, Lib.hid ((Below.refl _ w).alloc (Nat.le_refl _) _)⟩
    · exact own_const w _ (Nat.le_refl _) [] _ (0, 0) rfl
    · simp [val, Nat.mod_one]
  case round =>
    obtain ⟨l, x, rfl, hx, rfl, hlen, hown, hb, hv, hbel⟩ := hrel
    have hsz := hbel.out.size
    generalize hk : l.length = k at *
    by_cases hgo : k < la
    · have fa := CA.out k wr hbel.out
      have fb := CB.out k wr hbel.out
      have b1 : A / 2 ^ k % 2 < 2 := Nat.mod_lt _ (by omega)
      have b2 : B / 2 ^ k % 2 < 2 := Nat.mod_lt _ (by omega)
      have hstep := Lib.hid (sub_step A B k (val l) x hv.out _ hx rfl)
      generalize A / 2 ^ k % 2 = p at *
      generalize B / 2 ^ k % 2 = q at *
      have hs : (l ++ [(2 + p - q - x) % 2]).length = k + 1 := by simp [hk]
      have HS := Lib.hid hs
      have hb2 := Lib.hid (bits_append hb.out (bits_one (Nat.mod_lt (2 + p - q - x) (by omega : 0 < 2))))
      have hv2 : Hid (val (l ++ [(2 + p - q - x) % 2]) + B % 2 ^ (k + 1) = A % 2 ^ (k + 1) + 2 ^ (k + 1) * (1 - (2 + p - q - x) / 2)) := Lib.hid (by
        rw [val_append, hk, ← hstep.out]
        simp [val])
      clear hs hstep
      go_wp2_with (first
          | (go_at_call 40; ((with_reducible refine fa.mono ?_); rintro e w' ⟨rfl, rfl⟩))
          | (go_at_call 40; ((with_reducible refine fb.mono ?_); rintro e w' ⟨rfl, rfl⟩))
          | (at_builtin; refine wpList_append_row Try.underlying48 rfl _ _ rfl w.heap.size _ l rfl (hown.out.alloc _) (wr.heap.size + 1) _ [(2 + p - q - x) % 2] rfl (row_new _ _ [(2 + p - q - x) % 2] _ _ ?qa ?qb) ?qc ?qd ?qe ?_))
      case qa => simp [cN]; omega
      case qb => omega
      case qc => rw [hk]; simp; omega
      case qd => simp; omega
      case qe => left; simp
      intro v' w1 hown1 hgrow
      have hB1 := Lib.hid ((hbel.out.alloc hsz _).grown hgrow (by simp; omega) (fun k hk => (hown.out.lt k hk).1))
      have HO := Lib.hid hown1
      clear hown1 hgrow
      go_wp2
      go_roundw
      case rel => exact ⟨l ++ [(2 + p - q - x) % 2], 1 - (2 + p - q - x) / 2, ret_u8 (by omega), by omega, by rw [HS.out]; go_num, by rw [HS.out]; omega, HO, hb2, by rw [HS.out]; exact hv2, hB1⟩
      case measure => simp [intOf]; omega
    · obtain rfl : k = la := by omega
      have hlt := val_lt l hb.out
      have hv2 := hv.out
      have hB2 : B % 2 ^ k = B := Nat.mod_eq_of_lt (Nat.lt_of_le_of_lt hAB ML.out)
      rw [hk] at hlt
      rw [MA.out, hB2] at hv2
      have hx0 : x = 0 := by
        rcases Nat.eq_zero_or_pos x with h | h
        · exact h
        · have : x = 1 := by omega
          subst this
          omega
      have hval : val l = A - B := by
        rw [hx0, Nat.mul_zero] at hv2
        omega
      have ct := trim_any hb.out (by omega) wr hown.out.row
      rw [hval] at ct
      clear hv hv2 hgo hB2 hlt hval hx0
      go_wp2_with (go_at_call 37; refine ct.mono ?_; rintro e w' ⟨⟨v', rfl, hr⟩, rfl⟩; have HR := Lib.hid hr; clear hr)
      go_ret
      exact ⟨⟨_, rfl, HR.out⟩, hbel.out⟩
end Go.Proofs.Ytllgkkbdpabhjaa
