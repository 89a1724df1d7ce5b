/- The document's difference, in memory of its own; at every two numbers of up to a hundred thousand digits. -/
import Derived.Test.YtllgkkbdpabhjaaAddSub
namespace Go.Proofs.Ytllgkkbdpabhjaa
open Go Go.Proofs Go.RowKit

theorem trim_own {n₀ : Nat} {v : Value} {l : List Nat} (hb : bitsL l) (hl : l.length ≤ 1048576) (w : World) (h : RowAt n₀ w v l) :
    Calls Try.prog 37 #[v] w fun e w' => (∃ v', e = .returned v' ∧ RowAt n₀ w v' (dg (val l)) ∧ v'.ownBlock = v.ownBlock) ∧ w = w' := by
  rcases h with ⟨a, cap, ha, rfl, rfl⟩ | ⟨b, off, cap, rfl, hbn, hc, hh⟩
  · go_enter Try.func37, Try.ntmps37
    go_wp2
    go_loop [0] (fun u => u = .slice a 0 cap) (fun _ => 0)
    case atStart => rfl
    case round =>
      subst hrel
      go_wp2
      go_ret
      exact ⟨⟨_, rfl, .inl ⟨a, cap, ha, rfl, by rw [val, dg_zero]⟩, rfl⟩, rfl⟩
  · go_enter Try.func37, Try.ntmps37
    go_wp2
    go_loop [0] (fun u => ∃ k : Nat, k ≤ l.length ∧ u = .slice (some ⟨b, off, none⟩) k cap ∧ Hid (val (l.take k) = val l)) (fun u => match u with | .slice _ n _ => n | _ => 0)
    case atStart => exact ⟨l.length, Nat.le_refl _, rfl, Lib.hid (by rw [List.take_length])⟩
    case round =>
      obtain ⟨k, hk, rfl, hv⟩ := hrel
      cases k with
      | zero =>
        have ht := trim_dg l hb 0 (by omega) hv.out (.inl rfl)
        have HT := Lib.hid ht
        clear ht
        go_wp2
        go_ret
        refine ⟨⟨_, rfl, .inl ⟨some ⟨b, off, none⟩, cap, (fun e => by cases e), rfl, ?_⟩, rfl⟩, rfl⟩
        rw [← HT.out]; rfl
      | succ m =>
        have hcell := hh m (by omega)
        by_cases hz : l.getD m 0 = 0
        · rw [hz] at hcell
          have hv2 := Lib.hid ((val_take_zero l m hz).symm.trans hv.out)
          clear hz
          go_wp2
          go_round
          case rel => exact ⟨m, by omega, rfl, hv2⟩
          case measure => simp
        · have ht := trim_dg l hb (m + 1) (by omega) hv.out (.inr hz)
          have HT := Lib.hid ht
          have hlen := hh
          clear ht
          generalize l.getD m 0 = d at hcell hz
          have hne : ((d : Int) == 0) = false := by simp; omega
          clear hz
          go_wp2
          go_ret
          have hll : (l.take (m + 1)).length = m + 1 := by rw [List.length_take]; omega
          refine ⟨⟨_, rfl, ?_, rfl⟩, rfl⟩
          rw [← HT.out]
          refine .inr ⟨b, off, cap, by rw [hll]; rfl, hbn, by omega, fun j hj => ?_⟩
          rw [getD_take _ _ _ (by omega)]
          exact hlen j (by omega)

set_option maxHeartbeats 2000000 in
theorem sub_own (A B : Nat) (hAB : B ≤ A) {u v : Value} (w : World) (hA : (dg A).length ≤ 100000) (hB : (dg B).length ≤ 100000) (hu : RowAt w.heap.size w u (dg A)) (hv : RowAt w.heap.size w v (dg B)) :
    Calls Try.prog 36 #[u, v] w fun e w' => (∃ v, e = .returned v ∧ RowAt w'.heap.size w' v (dg (A - B)) ∧ ∀ k, v.ownBlock = some k → w.heap.size ≤ k) ∧ Below w.heap.size w w' := by
  have ca : ∀ (i : Nat) (W : World), Below w.heap.size w W → Calls Try.prog 40 #[u, .int .i64 (i : Int)] W fun e w' => e = .returned (.int .u8 ((A / 2 ^ i % 2 : Nat) : Int)) ∧ W = w' := fun i W hW => by
    have := bit_any i (by omega) W (hu.below hW)
    rwa [getD_dg] at this
  have cb : ∀ (i : Nat) (W : World), Below w.heap.size w W → Calls Try.prog 40 #[v, .int .i64 (i : Int)] W fun e w' => e = .returned (.int .u8 ((B / 2 ^ i % 2 : Nat) : Int)) ∧ W = w' := fun i W hW => by
    have := bit_any i (by omega) W (hv.below hW)
    rwa [getD_dg] at this
  have mA := mod_all A _ (Nat.le_refl _)
  have mL := lt_length A
  obtain ⟨a1, c1, rfl, hc1⟩ := hu.shape
  obtain ⟨a2, c2, rfl, hc2⟩ := hv.shape
  clear hu hv
  generalize (dg A).length = la at *
  generalize (dg B).length = lb at *
  have MA := Lib.hid mA
  have ML := Lib.hid mL
  have CA := Lib.hid ca
  have CB := Lib.hid cb
  clear mA mL ca cb
  go_enter Try.func36, Try.ntmps36
  go_wp2
  go_loopw [5, 6, 12] (fun v c i wr => ∃ (l : List Nat) (x : Nat), c = .int .u8 x ∧ x < 2 ∧ i = .int .i64 (l.length : Nat) ∧ l.length ≤ la ∧ Hid (Own wr w.heap.size v l) ∧ Hid (bitsL l) ∧ Hid (val l + B % 2 ^ l.length = A % 2 ^ l.length + 2 ^ l.length * x) ∧ Hid (Below w.heap.size w wr)) (fun _ _ i _ => la + 1 - (intOf i).toNat)
  case atStart =>
    refine ⟨[], 0, rfl, by omega, rfl, by simp, Lib.hid ?_, Lib.hid (fun d hd => by cases hd), Lib.hid ?_, Lib.hid ((Below.refl _ w).alloc (Nat.le_refl _) _)⟩
    · exact own_const w _ (Nat.le_refl _) [] _ (0, 0) rfl
    · simp [val, Nat.mod_one]
  case round =>
    obtain ⟨l, x, rfl, hx, rfl, hlen, hown, hb, hv, hbel⟩ := hrel
    have hsz := hbel.out.size
    generalize hk : l.length = k at *
    by_cases hgo : k < la
    · have fa := CA.out k wr hbel.out
      have fb := CB.out k wr hbel.out
      have b1 : A / 2 ^ k % 2 < 2 := Nat.mod_lt _ (by omega)
      have b2 : B / 2 ^ k % 2 < 2 := Nat.mod_lt _ (by omega)
      have hstep := Lib.hid (sub_step A B k (val l) x hv.out _ hx rfl)
      generalize A / 2 ^ k % 2 = p at *
      generalize B / 2 ^ k % 2 = q at *
      have hs : (l ++ [(2 + p - q - x) % 2]).length = k + 1 := by simp [hk]
      have HS := Lib.hid hs
      have hb2 := Lib.hid (bits_append hb.out (bits_one (Nat.mod_lt (2 + p - q - x) (by omega : 0 < 2))))
      have hv2 : Hid (val (l ++ [(2 + p - q - x) % 2]) + B % 2 ^ (k + 1) = A % 2 ^ (k + 1) + 2 ^ (k + 1) * (1 - (2 + p - q - x) / 2)) := Lib.hid (by
        rw [val_append, hk, ← hstep.out]
        simp [val])
      clear hs hstep
      go_wp2_with (first
          | (go_at_call 40; ((with_reducible refine fa.mono ?_); rintro e w' ⟨rfl, rfl⟩))
          | (go_at_call 40; ((with_reducible refine fb.mono ?_); rintro e w' ⟨rfl, rfl⟩))
          | (at_builtin; refine wpList_append_row Try.underlying48 rfl _ _ rfl w.heap.size _ l rfl (hown.out.alloc _) (wr.heap.size + 1) _ [(2 + p - q - x) % 2] rfl (row_new _ _ [(2 + p - q - x) % 2] _ _ ?qa ?qb) ?qc ?qd ?qe ?_))
      case qa => simp [cN]; omega
      case qb => omega
      case qc => rw [hk]; simp; omega
      case qd => simp; omega
      case qe => left; simp
      intro v' w1 hown1 hgrow
      have hB1 := Lib.hid ((hbel.out.alloc hsz _).grown hgrow (by simp; omega) (fun k hk => (hown.out.lt k hk).1))
      have HO := Lib.hid hown1
      clear hown1 hgrow
      go_wp2
      go_roundw
      case rel => exact ⟨l ++ [(2 + p - q - x) % 2], 1 - (2 + p - q - x) / 2, ret_u8 (by omega), by omega, by rw [HS.out]; go_num, by rw [HS.out]; omega, HO, hb2, by rw [HS.out]; exact hv2, hB1⟩
      case measure => simp [intOf]; omega
    · obtain rfl : k = la := by omega
      have hlt := val_lt l hb.out
      have hv2 := hv.out
      have hB2 : B % 2 ^ k = B := Nat.mod_eq_of_lt (Nat.lt_of_le_of_lt hAB ML.out)
      rw [hk] at hlt
      rw [MA.out, hB2] at hv2
      have hx0 : x = 0 := by
        rcases Nat.eq_zero_or_pos x with h | h
        · exact h
        · have : x = 1 := by omega
          subst this
          omega
      have hval : val l = A - B := by
        rw [hx0, Nat.mul_zero] at hv2
        omega
      have hlt3 := hown.out.lt
      have HLT := Lib.hid hlt3
      have ct := trim_own hb.out (by omega) wr hown.out.row
      rw [hval] at ct
      clear hv hv2 hgo hB2 hlt hval hx0 hlt3
      go_wp2_with (go_at_call 37; refine ct.mono ?_; rintro e w' ⟨⟨v', rfl, hr, ho⟩, rfl⟩; have HR := Lib.hid hr; have HO := Lib.hid ho; clear hr ho)
      go_ret
      exact ⟨⟨_, rfl, HR.out, fun k hk => (HLT.out k (by rw [← HO.out]; exact hk)).1⟩, hbel.out⟩
end Go.Proofs.Ytllgkkbdpabhjaa
