/- The text of a float as the document's answer has it, at every word; the one word of those that are none. -/
import Derived.Test.YtllgkkbdpabhjaaLives
namespace Go.Proofs.Ytllgkkbdpabhjaa
open Go Go.Proofs Go.RowKit

/-- A word that is none, by its parts and as the standard reads it. -/
theorem isN_nP (x : Nat) : isN x = nP x := by
  unfold isN nP Ieee.Format.read
  dsimp only
  rw [show Ieee.double.signWeight = 9223372036854775808 by decide, show Ieee.double.binade = 4503599627370496 by decide, show Ieee.double.infRung = 9218868437227405312 by decide]
  split
  · rename_i h
    have : ¬ x / 4503599627370496 % 2048 = 2047 := by omega
    simp [Ieee.Datum.isNaN, this]
  · split
    · rename_i h
      have : ¬ x / 4503599627370496 % 2048 = 2047 := by omega
      simp [Ieee.Datum.isNaN, this]
    · split
      · have : x % 4503599627370496 = 0 := by omega
        simp [Ieee.Datum.isNaN, this]
      · have h1 : x / 4503599627370496 % 2048 = 2047 := by omega
        have h2 : ¬ x % 4503599627370496 = 0 := by omega
        simp [Ieee.Datum.isNaN, h1, h2]

theorem one_any (x : Nat) (hx : x < 18446744073709551616) (w : World) : Calls Try.prog 14 #[.int .u64 (x : Int)] w fun e w' => e = .returned (.int .u64 (norm x : Nat)) ∧ w = w' := by
  have c := parts_any x hx
  unfold norm
  rw [isN_nP]
  generalize sP x = a at c
  generalize eP x = b at c
  generalize mP x = m at c
  generalize iP x = d at c
  generalize nP x = n at c ⊢
  cases n
  all_goals
    first | rw [if_neg (by decide)] | rw [if_pos rfl]
    go_enter Try.func14, Try.ntmps14
    go_wp2_with (go_at_call 23; refine (c _).mono ?_; rintro e w' ⟨rfl, rfl⟩)
    go_ret
    exact ⟨rfl, rfl⟩

/-- The last k signs. -/
def lowT (y : Nat) : Nat → List Nat
  | 0 => []
  | k + 1 => dgN (y / 16 ^ k % 16) :: lowT y k
theorem lowT_length (y k : Nat) : (lowT y k).length = k := by induction k <;> simp_all [lowT]
theorem txt_low (y : Nat) : txt y 16 = 102 :: 39 :: lowT y 16 := by
  simp [txt, lowT, List.range_succ]

theorem strN_append (a b : List Nat) : strN a ++ strN b = strN (a ++ b) := by
  apply ByteArray.ext
  simp [strN]
theorem strN_size (a : List Nat) : (strN a).size = a.length := by simp [strN, ByteArray.size]
theorem digs_cut : ∀ d : Nat, d < 16 → digs.extract d (d + 1) = strN [dgN d] := by decide
theorem digs_cons (d : Nat) (h : d < 16) (l : List Nat) : digs.extract d (d + 1) ++ strN l = strN (dgN d :: l) := by
  rw [digs_cut d h, strN_append]; rfl
theorem pre_cons (l : List Nat) : pre2 ++ strN l = strN (102 :: 39 :: l) := by
  rw [show pre2 = strN [102, 39] by rfl, strN_append]; rfl

theorem run_slice_digs (d : Nat) (h : d < 16) (w : World) : (Instr.slice 9 (.string digs) (some (.int .u64 (d : Int))) (some (.int .u64 ((d : Int) + 1))) none).run Try.prog w = .ok (.string (digs.extract d (d + 1))) w := by
  have hs : digs.size = 16 := rfl
  have e1 : (0 : Int) ≤ (d : Int) + 1 ∧ (d : Int) + 1 ≤ 16 := by omega
  have e2 : (0 : Int) ≤ (d : Int) ∧ (d : Int) ≤ (d : Int) + 1 := by omega
  have e3 : ((d : Int) + 1).toNat = d + 1 := by omega
  simp [Instr.slice, Instr.sliceBounds, Instr.sliceBound, run_underlying Try.underlying9, hs, asIntOf, e3]
  intro hf
  exact absurd (hf (by omega)) (by omega)

set_option maxHeartbeats 1000000 in
theorem refText_any (x : Nat) (hx : x < 18446744073709551616) (w : World) : Calls Try.prog 26 #[.int .u64 (x : Int)] w fun e w' => e = .returned (.string (strN (txt x 16))) ∧ w = w' := by
  go_enter Try.func26, Try.ntmps26
  go_wp2
  go_loop [0, 3, 4] (fun b s i => ∃ k y : Nat, k ≤ 16 ∧ i = .int .i64 k ∧ b = .int .u64 y ∧ y < 18446744073709551616 ∧ Hid (y = x / 16 ^ k) ∧ s = .string (strN (lowT x k))) (fun _ _ i => 16 - (intOf i).toNat)
  case atStart => exact ⟨0, x, by omega, rfl, rfl, hx, Lib.hid (by simp), rfl⟩
  case round =>
    obtain ⟨k, y, hk, rfl, rfl, hy, hyk, rfl⟩ := hrel
    have hl := lowT_length x k
    by_cases hlt : k < 16
    · have hd16 : y % 16 < 16 := Nat.mod_lt _ (by omega)
      have hcons := Lib.hid (digs_cons (y % 16) hd16 (lowT x k))
      have hsz : (strN (lowT x k)).size ≤ 16 := by rw [strN_size]; omega
      have hsz2 : (digs.extract (y % 16) (y % 16 + 1)).size ≤ 16 := by rw [digs_cut _ hd16, strN_size]; simp
      have ks := run_slice_digs (y % 16) hd16
      rw [show (((y % 16 : Nat) : Int)) = (y : Int) % 16 by omega] at ks
      have hn : y / 16 < 18446744073709551616 := by omega
      have hD : digs = ⟨#[48, 49, 50, 51, 52, 53, 54, 55, 56, 57, 97, 98, 99, 100, 101, 102]⟩ := rfl
      have hyk2 : Hid (y / 16 = x / 16 ^ (k + 1)) := Lib.hid (by rw [hyk.out, Nat.pow_succ, Nat.div_div_eq_div_mul])
      have hlow : Hid (lowT x (k + 1) = dgN (y % 16) :: lowT x k) := Lib.hid (by rw [lowT, hyk.out])
      rw [hD] at ks
      generalize hE : digs.extract (y % 16) (y % 16 + 1) = E at hsz2 hcons
      rw [← hD, hE] at ks
      have hE' := Lib.hid hE
      clear hE
      rw [hD] at ks
      clear hD
      go_wp2
      go_round
      case rel => exact ⟨k + 1, y / 16, by omega, by go_num, by go_num, hn, hyk2, by rw [hlow.out, ← hcons.out]⟩
      case measure => simp [intOf]; omega
    · have hk16 : k = 16 := by omega
      have hp := Lib.hid (pre_cons (lowT x k))
      have hsz : (strN (lowT x k)).size ≤ 16 := by rw [strN_size]; omega
      have hT := Lib.hid (txt_low x)
      have HK := Lib.hid hk16
      clear hk16
      go_wp2
      go_ret
      refine ⟨?_, rfl⟩
      rw [hT.out, ← HK.out, ← hp.out]
      rfl
end Go.Proofs.Ytllgkkbdpabhjaa
