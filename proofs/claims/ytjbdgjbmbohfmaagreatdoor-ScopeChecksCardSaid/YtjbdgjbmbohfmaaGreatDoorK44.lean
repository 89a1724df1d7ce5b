/- The document's answer for words of floats and for what may stand in a string: at every word, at every text of at most 1000 bytes. -/
import Derived.Test.YtjbdgjbmbohfmaaGreatDoorK43
namespace Go.Proofs.YtjbdgjbmbohfmaaGreatDoor
open Go Go.Proofs Go.RowKit
/-- The parts of a word: its sign, the place of its last digit, its digits; endless, none. -/
def sP (x : Nat) : Bool := ((x : Int) / 9223372036854775808 == 1)
def eP (x : Nat) : Int := if x / 4503599627370496 % 2048 = 2047 then 0 else if x / 4503599627370496 % 2048 = 0 then -1074 else ((x / 4503599627370496 % 2048 : Nat) : Int) - 1075
def mP (x : Nat) : Nat := if x / 4503599627370496 % 2048 = 2047 then 0 else if x / 4503599627370496 % 2048 = 0 then x % 4503599627370496 else x % 4503599627370496 + 4503599627370496
def iP (x : Nat) : Bool := decide (x / 4503599627370496 % 2048 = 2047) && decide (x % 4503599627370496 = 0)
def nP (x : Nat) : Bool := decide (x / 4503599627370496 % 2048 = 2047) && !decide (x % 4503599627370496 = 0)

theorem ret5 {a a' : Bool} {b b' : Int} {c c' : Int} {d d' e e' : Bool} (h1 : a = a') (h2 : b = b') (h3 : c = c') (h4 : d = d') (h5 : e = e') :
 Ending.returned (.tuple #[.bool a, .int .i64 b, .int .u64 c, .bool d, .bool e]) = Ending.returned (.tuple #[.bool a', .int .i64 b', .int .u64 c', .bool d', .bool e']) := by
 rw [h1, h2, h3, h4, h5]

theorem beq_zero_mod (x : Nat) : (((x : Int) % 4503599627370496 == 0) : Bool) = decide (x % 4503599627370496 = 0) := by
 rw [Bool.eq_iff_iff]; simp; omega
theorem bne_zero_mod (x : Nat) : (((x : Int) % 4503599627370496 != 0) : Bool) = !decide (x % 4503599627370496 = 0) := by
 rw [bne, beq_zero_mod]
theorem u64_wrap_in (a : Int) (h : 0 ≤ a) (h2 : a < 18446744073709551616) : IntKind.u64.wrap a = a := by
 simp only [IntKind.wrap, IntKind.bits, IntKind.signed]
 have : (2:Int) ^ 64 = 18446744073709551616 := by decide
 simp [this]
 exact Int.emod_eq_of_lt h h2

set_option maxHeartbeats 1000000 in
theorem parts_any (x : Nat) (w : World) : Calls Tryz.prog 107 #[.int .u64 (x : Int)] w fun e w' => e = .returned (.tuple #[.bool (sP x), .int .i64 (eP x), .int .u64 (mP x : Nat), .bool (iP x), .bool (nP x)]) ∧ w = w' := by
 have hm0 : 0 ≤ (x : Int) % 4503599627370496 := by omega
 have hm1 : (x : Int) % 4503599627370496 < 4503599627370496 := by omega
 have e1 := Lib.hid (beq_zero_mod x)
 have e2 := Lib.hid (bne_zero_mod x)
 have e3 : Hid (IntKind.u64.wrap ((x : Int) % 4503599627370496 + 4503599627370496) = ((x % 4503599627370496 + 4503599627370496 : Nat) : Int)) := by
  refine Lib.hid ?_
  rw [u64_wrap_in _ (by omega) (by omega)]; omega
 have e4 : Hid (((x % 4503599627370496 : Nat) : Int) = (x : Int) % 4503599627370496) := Lib.hid (by omega)
 go_enter Tryz.func107, Tryz.ntmps107
 generalize hA : (4503599627370496 : Int) = A at hm0 hm1 ⊢
 have hA2 : 0 < A := by omega
 have HA := Lib.hid hA
 clear hA
 go_wp2
 ·have hc : x / 4503599627370496 % 2048 = 2047 := by simp_all; omega
  refine bodyPost_ret (v := .tuple #[.bool ((x : Int) / 9223372036854775808 == 1), .int .i64 0, .int .u64 0, .bool ((x : Int) % A == 0), .bool ((x : Int) % A != 0)]) (by simp [results, Tryz.results107, go_sem]) rfl ⟨ret5 rfl ?_ ?_ ?_ ?_, rfl⟩
  ·unfold eP; rw [if_pos hc]
  ·unfold mP; rw [if_pos hc]; rfl
  ·unfold iP; rw [← HA.out, e1.out]; simp [hc]
  ·unfold nP; rw [← HA.out, e2.out]; simp [hc]
 ·have hc : ¬ x / 4503599627370496 % 2048 = 2047 := by simp_all; omega
  have hd : x / 4503599627370496 % 2048 = 0 := by simp_all; omega
  refine bodyPost_ret (v := .tuple #[.bool ((x : Int) / 9223372036854775808 == 1), .int .i64 (-1074), .int .u64 ((x : Int) % A), .bool false, .bool false]) (by simp [results, Tryz.results107, go_sem]) rfl ⟨ret5 rfl ?_ ?_ ?_ ?_, rfl⟩
  ·unfold eP; rw [if_neg hc, if_pos hd]
  ·unfold mP; rw [if_neg hc, if_pos hd, ← HA.out, e4.out]
  ·unfold iP; simp [hc]
  ·unfold nP; simp [hc]
 ·have hc : ¬ x / 4503599627370496 % 2048 = 2047 := by simp_all; omega
  have hd : ¬ x / 4503599627370496 % 2048 = 0 := by simp_all; omega
  refine bodyPost_ret (v := .tuple #[.bool ((x : Int) / 9223372036854775808 == 1), .int .i64 ((x : Int) / 4503599627370496 % 2048 - 1075), .int .u64 (IntKind.u64.wrap ((x : Int) % A + A)), .bool false, .bool false]) (by simp [results, Tryz.results107, go_sem]) rfl ⟨ret5 rfl ?_ ?_ ?_ ?_, rfl⟩
  ·unfold eP; rw [if_neg hc, if_neg hd]; omega
  ·unfold mP; rw [if_neg hc, if_neg hd, ← HA.out, e3.out]
  ·unfold iP; simp [hc]
  ·unfold nP; simp [hc]

/-- A word, as the standard reads it, in its parts. -/
theorem read_parts (x : Nat) : Ieee.double.read x = if nP x then .nan (x / 9223372036854775808 % 2 == 1) (x % 4503599627370496) else if iP x then .infinity (x / 9223372036854775808 % 2 == 1) else .number (x / 9223372036854775808 % 2 == 1) (mP x) (eP x) := by
 unfold Ieee.Format.read nP iP mP eP
 dsimp only
 rw [show Ieee.double.signWeight = 9223372036854775808 by decide, show Ieee.double.binade = 4503599627370496 by decide, show Ieee.double.infRung = 9218868437227405312 by decide, show Ieee.double.leastPlace = -1074 by decide]
 split
 ·rename_i h
  have h1 : ¬ x / 4503599627370496 % 2048 = 2047 := by omega
  have h2 : x / 4503599627370496 % 2048 = 0 := by omega
  have h3 : x % 9223372036854775808 = x % 4503599627370496 := by omega
  simp [h2, h3]
 ·split
  ·rename_i h
   have h1 : ¬ x / 4503599627370496 % 2048 = 2047 := by omega
   have h2 : ¬ x / 4503599627370496 % 2048 = 0 := by omega
   have h3 : 4503599627370496 + x % 9223372036854775808 % 4503599627370496 = x % 4503599627370496 + 4503599627370496 := by omega
   have h4 : (-1074 : Int) + ((x % 9223372036854775808 / 4503599627370496 - 1 : Nat) : Int) = ((x / 4503599627370496 % 2048 : Nat) : Int) - 1075 := by omega
   rw [h3, h4]
   simp [h1, h2]
  ·split
   ·have h1 : x / 4503599627370496 % 2048 = 2047 := by omega
    have h2 : x % 4503599627370496 = 0 := by omega
    simp [h1, h2]
   ·have h1 : x / 4503599627370496 % 2048 = 2047 := by omega
    have h2 : ¬ x % 4503599627370496 = 0 := by omega
    have h3 : x % 9223372036854775808 - 9218868437227405312 = x % 4503599627370496 := by omega
    simp [h1, h2, h3]


theorem isN_parts (x : Nat) : isN x = nP x := by
 unfold isN
 rw [read_parts]
 cases h : nP x with
 | true => rfl
 | false =>
  rw [if_neg (by simp)]
  split <;> rfl
theorem floatB_parts (x : Nat) : floatB x = (!nP x || ((x : Int) == 9221120237041090561)) := by
 unfold floatB norm noneB
 rw [isN_parts]
 cases nP x with
 | true =>
  rw [if_pos rfl, Bool.eq_iff_iff]
  simp
  omega
 | false => simp

theorem get_tl (s : ByteArray) (i : Nat) : s.get! i = (tl s).getD i 0 := by
 have h := get_mk (tl s) i
 rwa [← mk_tl s] at h
theorem decode_low (s : ByteArray) (pos : Nat) : lowR (Utf8.decode s pos).1 = lowR ((tl s).getD pos 0).toNat ∧ 1 ≤ (Utf8.decode s pos).2 ∧ ∀ k, 1 ≤ k → k < (Utf8.decode s pos).2 → 128 ≤ ((tl s).getD (pos + k) 0).toNat := by
 have hbig : ∀ x, 128 ≤ x → lowR x = false := fun x h => by simp [lowR]; omega
 unfold Utf8.decode
 simp only [get_tl, Nat.add_zero]
 split
 ·exact ⟨rfl, Nat.le_refl _, fun k h1 h2 => by omega⟩
 ·rename_i h0
  have hb0 : lowR ((tl s).getD pos 0).toNat = false := hbig _ (by omega)
  rw [hb0]
  have he : lowR Utf8.runeError = false := by decide
  split
  ·rename_i hc
   simp only [Bool.and_eq_true, beq_iff_eq] at hc
   split
   ·exact ⟨hbig _ (by omega), by simp, fun k h1 h2 => by
     obtain rfl : k = 1 := by simp at h2; omega
     omega⟩
   ·exact ⟨he, by simp, fun k h1 h2 => by simp at h2; omega⟩
  ·split
   ·rename_i hc
    simp only [Bool.and_eq_true, beq_iff_eq] at hc
    split
    ·rename_i hd
     exact ⟨hbig _ (by simp only [Bool.and_eq_true, decide_eq_true_eq] at hd; omega), by simp, fun k h1 h2 => by
      have : k = 1 ∨ k = 2 := by simp at h2; omega
      rcases this with rfl | rfl <;> omega⟩
    ·exact ⟨he, by simp, fun k h1 h2 => by simp at h2; omega⟩
   ·split
    ·rename_i hc
     simp only [Bool.and_eq_true, beq_iff_eq] at hc
     split
     ·rename_i hd
      exact ⟨hbig _ (by simp only [Bool.and_eq_true, decide_eq_true_eq] at hd; omega), by simp, fun k h1 h2 => by
       have : k = 1 ∨ k = 2 ∨ k = 3 := by simp at h2; omega
       rcases this with rfl | rfl | rfl <;> omega⟩
     ·exact ⟨he, by simp, fun k h1 h2 => by simp at h2; omega⟩
    ·exact ⟨he, by simp, fun k h1 h2 => by simp at h2; omega⟩

theorem idx_low (s : ByteArray) : ∀ (f pos : Nat), s.size ≤ pos + f → (0 ≤ Lib.idxFuncFrom lowR true s f pos ↔ ∃ j, pos ≤ j ∧ j < s.size ∧ lowR ((tl s).getD j 0).toNat = true)
 | 0, pos, h => by
  constructor
  ·intro h0
   simp [Lib.idxFuncFrom] at h0
  ·rintro ⟨j, h1, h2, _⟩
   omega
 | f + 1, pos, h => by
  unfold Lib.idxFuncFrom
  obtain ⟨d1, d2, d3⟩ := decode_low s pos
  split
  ·rename_i hp
   split
   ·rename_i hl
    constructor
    ·intro _
     exact ⟨pos, Nat.le_refl _, hp, by rw [← d1]; exact hl⟩
    ·intro _
     omega
   ·rename_i hl
    rw [idx_low s f _ (by omega)]
    constructor
    ·rintro ⟨j, h1, h2, h3⟩
     exact ⟨j, by omega, h2, h3⟩
    ·rintro ⟨j, h1, h2, h3⟩
     refine ⟨j, ?_, h2, h3⟩
     refine Decidable.byContradiction fun hlt => ?_
     by_cases e : j = pos
     ·subst e
      rw [← d1] at h3
      exact hl h3
     ·have := d3 (j - pos) (by omega) (by omega)
      rw [show pos + (j - pos) = j by omega] at this
      have hbig : ∀ x, 128 ≤ x → lowR x = false := fun x h => by simp [lowR]; omega
      rw [hbig _ this] at h3
      cases h3
  ·constructor
   ·intro h0
    omega
   ·rintro ⟨j, h1, h2, _⟩
    omega

/-- What may stand in a string. -/
def textB (s : ByteArray) : Bool := decide (bd (tl s) 0 = s.size) && decide (∀ j (h : j < s.size), lowR s[j].toNat = false)
theorem lineB_text (s : ByteArray) : lineB s = textB s := by
 unfold lineB textB
 have hle := bd_le (tl s).length (tl s) 0 (Nat.le_refl _)
 have hl := tl_length s
 have h1 : decide (badOf (tl s) < 0) = decide (bd (tl s) 0 = s.size) := by
  unfold badOf
  rw [hl]
  split
  ·rename_i h
   simp [h]
  ·rename_i h
   simp [h]
 rw [h1]
 congr 1
 rw [Bool.eq_iff_iff]
 simp only [Bool.not_eq_true', decide_eq_false_iff_not, decide_eq_true_eq]
 have := idx_low s s.size 0 (by omega)
 unfold Lib.idxFunc
 rw [this]
 constructor
 ·intro h j hj
  cases hb : lowR s[j].toNat with
  | false => rfl
  | true =>
   refine absurd ⟨j, Nat.zero_le _, hj, ?_⟩ h
   rw [List.getD_eq_getElem?_getD, List.getElem?_eq_getElem (by rw [hl]; exact hj)]
   exact hb
 ·rintro h ⟨j, _, hj, hb⟩
  rw [List.getD_eq_getElem?_getD, List.getElem?_eq_getElem (by rw [hl]; exact hj)] at hb
  have := h j hj
  have e : (tl s)[j]'(by rw [hl]; exact hj) = s[j] := rfl
  simp only [Option.getD_some, e] at hb
  rw [this] at hb
  cases hb

set_option maxRecDepth 100000 in
set_option maxHeartbeats 4000000 in
theorem rtext_any (s : ByteArray) (hs : s.size ≤ 1000) (w : World) : Calls Tryz.prog 106 #[.string s] w fun e w' => e = .returned (.bool (lineB s)) ∧ Below w.heap.size w w' := by
 rw [lineB_text]
 have kc := fun (w : World) (s : ByteArray) => Lib.run_convert_string_bytes (P := Tryz.prog) w 9 22 5 s Tryz.underlying9 Tryz.underlying22 Tryz.underlying5
 have hb2 : Below w.heap.size w (Lib.bytesWorld w 5 s) := Go.Joins.below_bytesWorld _ _ _ _ (Nat.le_refl _)
 have hs2 : (Lib.bytesWorld w 5 s).heap.size = w.heap.size + 1 := Lib.bytesWorld_size _ _ _
 have cS := signs_any (some ⟨w.heap.size, 0, none⟩) s.size (grownCap w s.size 0 5) (tl s) (by rw [tl_length]; omega) (Lib.bytesWorld w 5 s) (by rw [hs2]; exact text_bytes w s)
 have hle := bd_le (tl s).length (tl s) 0 (Nat.le_refl _)
 rw [Nat.zero_add, tl_length] at hle
 obtain ⟨R, hR⟩ : ∃ R, textB s = R := ⟨_, rfl⟩
 rw [hR]
 have HR := Lib.hid hR
 have HS := Lib.hid hs2
 have HB2 := Lib.hid hb2
 unfold SignsPost at cS
 obtain ⟨b, hb⟩ : ∃ b, bd (tl s) 0 = b := ⟨_, rfl⟩
 rw [hb] at cS hle
 have HBD := Lib.hid hb
 clear hR hs2 hb hb2
 go_enter Tryz.func106, Tryz.ntmps106
 go_wp2_with fail
 refine cS.mono ?_
 rintro e w3 ⟨v1, v2, rfl, _, hb3⟩
 have hB3 : Below w.heap.size w w3 := HB2.out.trans (hb3.mono (by rw [HS.out]; omega))
 clear cS hb3 kc
 by_cases hlt : b < s.size
 ·have HF : Hid (R = false) := Lib.hid (by
   rw [← HR.out]
   unfold textB
   rw [HBD.out, decide_eq_false (by omega), Bool.false_and])
  go_wp2
  go_ret
  exact ⟨ret_bool HF.out.symm, hB3⟩
 ·obtain rfl : b = s.size := by omega
  clear hlt hle
  have hR2 : R = decide (∀ j (h : j < s.size), lowR s[j].toNat = false) := by
   rw [← HR.out]
   unfold textB
   rw [HBD.out, decide_eq_true rfl, Bool.true_and]
  have HR2 := Lib.hid hR2
  clear hR2 HR HBD
  go_wp2
  go_loop [6] (fun i => ∃ k : Nat, k ≤ s.size ∧ i = .int .i64 k ∧ Hid (∀ j (h : j < s.size), j < k → lowR s[j].toNat = false)) (fun i => s.size - (intOf i).toNat)
  case atStart => exact ⟨0, Nat.zero_le _, rfl, Lib.hid fun j _ h => absurd h (by omega)⟩
  case round =>
   obtain ⟨k, hk, rfl, HA⟩ := hrel
   by_cases hlt : k < s.size
   ·have hc := s[k].toNat_lt
    have hstep : lowR s[k].toNat = false → ∀ j (h : j < s.size), j < k + 1 → lowR s[j].toNat = false := fun hA j hj hjk => by
     by_cases e : j = k
     ·subst e; exact hA
     ·exact HA.out j hj (by omega)
    have hbad : lowR s[k].toNat = true → R = false := fun hA => by
     rw [HR2.out, decide_eq_false_iff_not]
     intro h
     rw [h k hlt] at hA
     cases hA
    obtain ⟨c, hcs⟩ : ∃ c, s[k] = c := ⟨_, rfl⟩
    rw [hcs] at hc hstep hbad
    have HC := Lib.hid hcs
    have HST := Lib.hid hstep
    have HBA := Lib.hid hbad
    clear hstep hbad
    by_cases h1 : c.toNat < 32
    ·have d1 : decide ((c.toNat : Int) < 32) = true := by simp; omega
     by_cases h2 : c.toNat = 10
     ·have d2 : ((c.toNat : Int) != 10) = false := by simp; omega
      have d3 : ((c.toNat : Int) == 10) = true := by simp; omega
      have h3 := Lib.hid (HST.out (by simp [lowR, h2]))
      clear h1 h2
      go_wp2
      all_goals
       go_round
       case rel => exact ⟨k + 1, by omega, by go_num, h3⟩
       case measure => simp [intOf]; omega
     ·have d2 : ((c.toNat : Int) != 10) = true := by simp; omega
      have d3 : ((c.toNat : Int) == 10) = false := by simp; omega
      have h3 := Lib.hid (HBA.out (by simp [lowR, h1, h2]))
      clear h1 h2
      go_wp2
      all_goals
       go_ret
       exact ⟨ret_bool h3.out.symm, hB3⟩
    ·have d1 : decide ((c.toNat : Int) < 32) = false := by simp; omega
     have h3 := Lib.hid (HST.out (by simp [lowR, h1]))
     clear h1
     go_wp2
     all_goals
      go_round
      case rel => exact ⟨k + 1, by omega, by go_num, h3⟩
      case measure => simp [intOf]; omega
   ·obtain rfl : k = s.size := by omega
    have HF : Hid (R = true) := Lib.hid (by rw [HR2.out, decide_eq_true_eq]; exact fun j hj => HA.out j hj hj)
    go_wp2
    go_ret
    exact ⟨ret_bool HF.out.symm, hB3⟩
end Go.Proofs.YtjbdgjbmbohfmaaGreatDoor
