/- The text of a float, as this program writes it, at every word; no condition. -/
import Derived.Test.YtllgkkbdpabhjaaParse
import Derived.Test.YtllgkkbdpabhjaaRow
namespace Go.Proofs.Ytllgkkbdpabhjaa
open Go Go.Proofs Go.RowKit

/-- The sign of a digit. -/
def dgN (d : Nat) : Nat := if d < 10 then d + 48 else d + 87
/-- The first k signs of the text of bits. -/
def txt (y k : Nat) : List Nat := [102, 39] ++ (List.range k).map fun i => dgN (y / 2 ^ (4 * (15 - i)) % 16)
theorem txt_succ (y k : Nat) : txt y (k + 1) = txt y k ++ [dgN (y / 2 ^ (4 * (15 - k)) % 16)] := by
  simp [txt, List.range_succ]
theorem txt_length (y k : Nat) : (txt y k).length = k + 2 := by simp [txt]

theorem and15 (n : Nat) (h : n < 18446744073709551616) : bits .and .u64 (n : Int) 15 = ((n % 16 : Nat) : Int) := by
  have := u64_and_nat n 15 h (by omega)
  rw [show ((15 : Nat) : Int) = 15 from rfl] at this
  rw [this, show (15 : Nat) = 2 ^ 4 - 1 by decide, Nat.and_two_pow_sub_one_eq_mod]

theorem digs_get : ∀ d : Nat, ∀ h : d < 16, ((digs[d]'h).toNat : Int) = (dgN d : Int) := by decide

set_option maxHeartbeats 1000000 in
theorem text_at (x y : Nat) (hy : norm x = y) (hyb : y < 18446744073709551616) (w : World) :
    Calls Try.prog 24 #[.int .u64 (x : Int)] w fun e w' => e = .returned (.string (strN (txt y 16))) ∧ Below w.heap.size w w' := by
  have kc := fun (w : World) (C : Array Value) (n c : Nat) => Lib.run_convert_bytes_const (P := Try.prog) w 47 5 C n c Try.underlying47 Try.underlying5
  have c := ofBits_any x
  rw [hy] at c
  clear hy
  go_enter Try.func24, Try.ntmps24
  go_wp2_with (go_at_call 10; refine (c _).mono ?_; rintro e w' ⟨rfl, rfl⟩)
  clear kc c
  go_loopw [4, 10] (fun v i wr => ∃ k : Nat, k ≤ 16 ∧ i = .int .i64 k ∧ Hid (Own wr w.heap.size v (txt y k)) ∧ Hid (Below w.heap.size w wr)) (fun _ i _ => 16 - (intOf i).toNat)
  case atStart => exact ⟨0, by omega, rfl, Lib.hid (own_const w _ (Nat.le_refl _) [102, 39] _ _ (by rfl)), Lib.hid ((Below.refl _ _).alloc (Nat.le_refl _) _)⟩
  case round =>
    obtain ⟨k, hk, rfl, hown, hb⟩ := hrel
    have hsz := hb.out.size
    by_cases hlt : k < 16
    · have hd : y / 2 ^ (4 * (15 - k)) < 18446744073709551616 := Nat.lt_of_le_of_lt (Nat.div_le_self _ _) hyb
      have ha : bits .and .u64 ((y : Int) / 2 ^ (4 * (15 - k))) 15 = ((y / 2 ^ (4 * (15 - k)) % 16 : Nat) : Int) := by
        rw [show ((y : Int) / 2 ^ (4 * (15 - k))) = ((y / 2 ^ (4 * (15 - k)) : Nat) : Int) by simp]
        exact and15 _ hd
      have hts := Lib.hid (txt_succ y k)
      have hlen := txt_length y k
      have hd16 : y / 2 ^ (4 * (15 - k)) % 16 < 16 := Nat.mod_lt _ (by omega)
      generalize y / 2 ^ (4 * (15 - k)) % 16 = d at ha hts hd16
      have hg := Lib.hid (digs_get d hd16)
      have hs0 : (⟨#[48, 49, 50, 51, 52, 53, 54, 55, 56, 57, 97, 98, 99, 100, 101, 102]⟩ : ByteArray).size = 16 := rfl
      go_wp2_with (at_builtin; refine wpList_append_row Try.underlying47 rfl _ _ rfl w.heap.size _ (txt y k) rfl (hown.out.alloc _) (wr.heap.size + 1) _ [dgN d] rfl (row_new _ _ [dgN d] _ _ ?qa ?qb) ?qc ?qd ?qe ?_)
      case qa => simp only [cN, List.map_cons, List.map_nil]; rw [← hg.out]; rfl
      case qb => omega
      case qc => simp; omega
      case qd => simp; omega
      case qe => left; simp
      intro v' w1 hown1 hgrow
      have hB1 := Lib.hid ((hb.out.alloc hsz _).grown hgrow (by simp; omega) (fun k hk => (hown.out.lt k hk).1))
      rw [← hts.out] at hown1
      have HO := Lib.hid hown1
      clear hown1 hgrow hg ha
      go_wp2
      go_roundw
      case rel => exact ⟨k + 1, by omega, by go_num, HO, hB1⟩
      case measure => simp [intOf]; omega
    · have hk16 : k = 16 := by omega
      have hlen := txt_length y k
      have kf := conv_row Try.underlying47 (by omega) hown.out.row
      rw [hk16] at kf
      clear hk16 hlen
      go_wp2
      go_ret
      exact ⟨rfl, hb.out⟩

theorem norm_lt (x : Nat) (h : x < 18446744073709551616) : norm x < 18446744073709551616 := by
  unfold norm noneB; split <;> omega

theorem text_any (x : Nat) (hx : x < 18446744073709551616) (w : World) :
    Calls Try.prog 24 #[.int .u64 (x : Int)] w fun e w' => e = .returned (.string (strN (txt (norm x) 16))) ∧ Below w.heap.size w w' :=
  text_at x _ rfl (norm_lt x hx) w
end Go.Proofs.Ytllgkkbdpabhjaa
