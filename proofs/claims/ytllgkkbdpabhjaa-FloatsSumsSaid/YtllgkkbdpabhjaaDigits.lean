/- The document's digits of a number, moved up, at every number of 64 bits and every place up to a million. -/
import Derived.Test.YtllgkkbdpabhjaaTrim
import Derived.Laws.OwnMore
namespace Go.Proofs.Ytllgkkbdpabhjaa
open Go Go.Proofs Go.RowKit

theorem make_zeros (n : Nat) (hn : n ≤ 1048576) (w : World) : (Instr.makeSlice 48 (.int .i64 (n : Int)) (.int .i64 (n : Int))).run Try.prog w = .ok (.slice (some ⟨w.heap.size, 0, none⟩) n n) (w.alloc (.cells (cN (List.replicate n 0)).toArray 5)) := by
  obtain ⟨i0, hi, hz0, hz1, hz2⟩ := info_parts info5
  rw [run_make (P := Try.prog) w 48 5 i0 (.int .u8 0) Try.underlying48 hi hz0 .i64 .i64 n n (by omega) (Int.le_refl _) (by rw [hz2]; omega) (by omega)]
  have e : madeCells (Value.int .u8 0).cells ((n : Int).toNat * i0.size) = (cN (List.replicate n 0)).toArray := by
    rw [hz1]
    simp [madeCells, cN, Value.cells]
    apply Array.ext
    · simp
    · intro i h1 h2
      simp [Nat.mod_one]
  rw [e]; simp

/-- What a number's digits come to: a row of them, and nothing older has turned. -/
def DigPost (n : Nat) (w : World) (e : Ending) (w' : World) : Prop := (∃ v, e = .returned v ∧ RowAt w'.heap.size w' v (dg n)) ∧ Below w.heap.size w w'

set_option maxHeartbeats 1000000 in
theorem of_digits (m up : Nat) (hm : m < 18446744073709551616) (hup : up ≤ 10000) (w : World) :
    Calls Try.prog 29 #[.int .u64 (m : Int), .int .i64 (up : Int)] w (DigPost (m * 2 ^ up) w) := by
  have km := make_zeros up (by omega)
  have hm64 : (dg m).length ≤ 64 := length_le m 64 hm
  go_enter Try.func29, Try.ntmps29
  go_wp2
  go_loopw [0, 5] (fun a v wr => ∃ (l : List Nat) (x : Nat), a = .int .u64 x ∧ x < 18446744073709551616 ∧ Hid (Own wr w.heap.size v l) ∧ Hid (bitsL l) ∧ Hid (val l + 2 ^ l.length * x = m * 2 ^ up) ∧ l.length + (dg x).length ≤ 10064 ∧ Hid (Below w.heap.size w wr)) (fun a _ _ => (intOf a).toNat)
  case atStart =>
    refine ⟨List.replicate up 0, m, rfl, hm, Lib.hid ?_, Lib.hid (bits_replicate up), Lib.hid ?_, by simp; omega, Lib.hid ((Below.refl _ w).alloc (Nat.le_refl _) _)⟩
    · have := own_const w _ (Nat.le_refl _) (List.replicate up 0) _ (0, 0) rfl
      simpa using this
    · rw [val_replicate, List.length_replicate, Nat.zero_add, Nat.mul_comm]
  case round =>
    obtain ⟨l, x, rfl, hx, hown, hb, hv, hlen, hbel⟩ := hrel
    have hsz := hbel.out.size
    by_cases h0 : 0 < x
    · have hd := dg_pos x (by omega)
      have hl2 : (dg x).length = (dg (x / 2)).length + 1 := by rw [hd]; rfl
      have hll : (l ++ [x % 2]).length = l.length + 1 := by simp
      have hv2 : val (l ++ [x % 2]) + 2 ^ (l ++ [x % 2]).length * (x / 2) = m * 2 ^ up := by
        rw [← hv.out, val_append, hll, Nat.pow_succ, Nat.mul_assoc, Nat.add_assoc, ← Nat.mul_add]
        congr 2
        simp [val]; omega
      have HV := Lib.hid hv2
      have HB := Lib.hid (bits_append hb.out (bits_one (Nat.mod_lt x (by omega : 0 < 2))))
      have hlen2 : (l ++ [x % 2]).length + (dg (x / 2)).length ≤ 10064 := by omega
      clear hd hv2 hll
      go_wp2_with (at_builtin; refine wpList_append_row Try.underlying48 rfl _ _ rfl w.heap.size _ l rfl (hown.out.alloc _) (wr.heap.size + 1) _ [x % 2] rfl (row_new _ _ [x % 2] _ _ ?qa ?qb) ?qc ?qd ?qe ?_)
      case qa => simp [cN]
      case qb => omega
      case qc => simp; omega
      case qd => simp; omega
      case qe => left; simp
      intro v' w1 hown1 hgrow
      have hB1 := Lib.hid ((hbel.out.alloc hsz _).grown hgrow (by simp; omega) (fun k hk => (hown.out.lt k hk).1))
      have HO := Lib.hid hown1
      clear hown1 hgrow
      go_wp2
      go_roundw
      case rel => exact ⟨l ++ [x % 2], x / 2, by go_num, by omega, HO, HB, HV, hlen2, hB1⟩
      case measure => simp [intOf]; omega
    · obtain rfl : x = 0 := by omega
      have hv2 := hv.out
      rw [Nat.mul_zero, Nat.add_zero] at hv2
      have ct := trim_any hb.out (by omega) wr hown.out.row
      rw [hv2] at ct
      clear hv hv2
      go_wp2_with (go_at_call 37; refine ct.mono ?_; rintro e w' ⟨⟨v', rfl, hr⟩, rfl⟩; have HR := Lib.hid hr; clear hr)
      go_ret
      exact ⟨⟨_, rfl, HR.out⟩, hbel.out⟩
end Go.Proofs.Ytllgkkbdpabhjaa
