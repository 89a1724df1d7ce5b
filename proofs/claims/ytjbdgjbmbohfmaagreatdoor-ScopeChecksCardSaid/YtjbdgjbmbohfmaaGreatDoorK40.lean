/- The document's answer for rows of names and of numbers, at every row of a bounded size: aliases' texts, operators, names, once, below. -/
import Derived.Test.YtjbdgjbmbohfmaaGreatDoorK39
namespace Go.Proofs.YtjbdgjbmbohfmaaGreatDoor
open Go Go.Proofs Go.RowKit
theorem rrds_at {w : World} {A : Option Addr} {xs : List ByteArray} {k : Nat} (h : RdAt w A (xs.map .string)) (hk : k < xs.length) : ∃ b off, A = some ⟨b, off, none⟩ ∧ w.cell? ⟨b, off + k, none⟩ = some (.string xs[k]) := by
 rcases h with h | ⟨b, off, e, h⟩
 ·have : xs = [] := by simpa using h
  subst this
  simp at hk
 ·exact ⟨b, off, e, h k _ (by simp [hk])⟩
theorem rtoList_inj {a b : ByteArray} (h : a.toList = b.toList) : a = b := by
 rw [ByteArray.toList_eq, ByteArray.toList_eq] at h
 exact ByteArray.ext (Array.toList_inj.1 h)

set_option maxHeartbeats 4000000 in
theorem ralias_any (s : ByteArray) (hs : s.size ≤ 1000) (w : World) : Calls Tryz.prog 53 #[.string s] w fun e w' => e = .returned (.bool (aliasB (tl s))) ∧ w = w' := by
 have hlen := tl_length s
 have hE := empty_eq s
 have hI := aliasB_iff (tl s)
 have hE2 : (s.toList != []) = decide (0 < s.size) := by
  by_cases hz : s.size = 0
  ·have hE1 : (s.toList == []) = true := by rw [hE]; simpa using hz
   simp [bne, hE1, hz]
  ·have hE1 : (s.toList == []) = false := by rw [hE]; simpa using hz
   simp [bne, hE1]
   omega
 obtain ⟨R, hR⟩ : ∃ R, aliasB (tl s) = R := ⟨_, rfl⟩
 rw [hR] at hI ⊢
 clear hR hE
 have HI := Lib.hid hI
 have HL := Lib.hid hlen
 have HE2 := Lib.hid hE2
 clear hI hlen hE2
 go_enter Tryz.func53, Tryz.ntmps53
 go_wp2
 go_loop [3] (fun i => ∃ k : Nat, k ≤ s.size ∧ i = .int .i64 k ∧ Hid (∀ j (h : j < s.size), j < k → aliAt j s[j] = true)) (fun i => s.size - (intOf i).toNat)
 case atStart => exact ⟨0, Nat.zero_le _, rfl, Lib.hid fun j _ h => absurd h (by omega)⟩
 case round =>
  obtain ⟨k, hk, rfl, HA⟩ := hrel
  by_cases hlt : k < s.size
  ·have hc := s[k].toNat_lt
   have hstep : aliAt k s[k] = true → ∀ j (h : j < s.size), j < k + 1 → aliAt j s[j] = true := fun hA j hj hjk => by
    by_cases e : j = k
    ·subst e; exact hA
    ·exact HA.out j hj (by omega)
   have hbad : aliAt k s[k] = false → R = false := fun hA => by
    cases R
    ·rfl
    ·have := (HI.out.1 rfl).2 k (by rw [HL.out]; exact hlt)
     have h2 : (tl s)[k]'(by rw [HL.out]; exact hlt) = s[k] := rfl
     rw [h2, hA] at this
     cases this
   obtain ⟨c, hcs⟩ : ∃ c, s[k] = c := ⟨_, rfl⟩
   rw [hcs] at hc hstep hbad
   have HC := Lib.hid hcs
   have HS := Lib.hid hstep
   have HB := Lib.hid hbad
   clear hstep hbad
   by_cases h65 : 65 ≤ c.toNat
   ·by_cases h90 : c.toNat ≤ 90
    ·have h3 : Hid (aliAt k c = true) := Lib.hid (by simp [aliAt, highB, smallB, digB]; omega)
     have d0 : decide ((65 : Int) ≤ c.toNat) = true := by simp; omega
     have d1 : decide ((c.toNat : Int) ≤ 90) = true := by simp; omega
     go_wp2
     all_goals
      go_round
      case rel => exact ⟨k + 1, by omega, by go_num, Lib.hid (HS.out h3.out)⟩
      case measure => simp [intOf]; omega
    ·by_cases hk0 : k = 0
     ·subst hk0
      have h3 : Hid (aliAt 0 c = false) := Lib.hid (by simp [aliAt, highB, smallB, digB]; omega)
      have d0 : decide ((65 : Int) ≤ c.toNat) = true := by simp; omega
      have d1 : decide ((c.toNat : Int) ≤ 90) = false := by simp; omega
      go_wp2
      all_goals
       go_ret
       exact ⟨ret_bool (HB.out h3.out).symm, rfl⟩
     ·by_cases h97 : c.toNat < 97
      ·by_cases h48 : c.toNat < 48
       ·have h3 : Hid (aliAt k c = false) := Lib.hid (by simp [aliAt, highB, smallB, digB]; omega)
        have d0 : decide ((65 : Int) ≤ c.toNat) = true := by simp; omega
        have d1 : decide ((c.toNat : Int) ≤ 90) = false := by simp; omega
        have d2 : ((k : Int) == 0) = false := by simp; omega
        have d3 : decide ((c.toNat : Int) < 97) = true := by simp; omega
        have d4 : decide ((c.toNat : Int) < 48) = true := by simp; omega
        go_wp2
        all_goals
         go_ret
         exact ⟨ret_bool (HB.out h3.out).symm, rfl⟩
       ·by_cases h57 : 57 < c.toNat
        ·have h3 : Hid (aliAt k c = false) := Lib.hid (by simp [aliAt, highB, smallB, digB]; omega)
         have d0 : decide ((65 : Int) ≤ c.toNat) = true := by simp; omega
         have d1 : decide ((c.toNat : Int) ≤ 90) = false := by simp; omega
         have d2 : ((k : Int) == 0) = false := by simp; omega
         have d3 : decide ((c.toNat : Int) < 97) = true := by simp; omega
         have d4 : decide ((c.toNat : Int) < 48) = false := by simp; omega
         have d5 : decide ((57 : Int) < c.toNat) = true := by simp; omega
         go_wp2
         all_goals
          go_ret
          exact ⟨ret_bool (HB.out h3.out).symm, rfl⟩
        ·have h3 : Hid (aliAt k c = true) := Lib.hid (by simp [aliAt, highB, smallB, digB]; omega)
         have d0 : decide ((65 : Int) ≤ c.toNat) = true := by simp; omega
         have d1 : decide ((c.toNat : Int) ≤ 90) = false := by simp; omega
         have d2 : ((k : Int) == 0) = false := by simp; omega
         have d3 : decide ((c.toNat : Int) < 97) = true := by simp; omega
         have d4 : decide ((c.toNat : Int) < 48) = false := by simp; omega
         have d5 : decide ((57 : Int) < c.toNat) = false := by simp; omega
         go_wp2
         all_goals
          go_round
          case rel => exact ⟨k + 1, by omega, by go_num, Lib.hid (HS.out h3.out)⟩
          case measure => simp [intOf]; omega
      ·by_cases h122 : 122 < c.toNat
       ·have h3 : Hid (aliAt k c = false) := Lib.hid (by simp [aliAt, highB, smallB, digB]; omega)
        have d0 : decide ((65 : Int) ≤ c.toNat) = true := by simp; omega
        have d1 : decide ((c.toNat : Int) ≤ 90) = false := by simp; omega
        have d2 : ((k : Int) == 0) = false := by simp; omega
        have d3 : decide ((c.toNat : Int) < 97) = false := by simp; omega
        have d4 : decide ((122 : Int) < c.toNat) = true := by simp; omega
        have d5 : decide ((c.toNat : Int) < 48) = false := by simp; omega
        have d6 : decide ((57 : Int) < c.toNat) = true := by simp; omega
        go_wp2
        all_goals
         go_ret
         exact ⟨ret_bool (HB.out h3.out).symm, rfl⟩
       ·have h3 : Hid (aliAt k c = true) := Lib.hid (by simp [aliAt, highB, smallB, digB]; omega)
        have d0 : decide ((65 : Int) ≤ c.toNat) = true := by simp; omega
        have d1 : decide ((c.toNat : Int) ≤ 90) = false := by simp; omega
        have d2 : ((k : Int) == 0) = false := by simp; omega
        have d3 : decide ((c.toNat : Int) < 97) = false := by simp; omega
        have d4 : decide ((122 : Int) < c.toNat) = false := by simp; omega
        go_wp2
        all_goals
         go_round
         case rel => exact ⟨k + 1, by omega, by go_num, Lib.hid (HS.out h3.out)⟩
         case measure => simp [intOf]; omega
   ·by_cases hk0 : k = 0
    ·subst hk0
     have h3 : Hid (aliAt 0 c = false) := Lib.hid (by simp [aliAt, highB, smallB, digB]; omega)
     have d0 : decide ((65 : Int) ≤ c.toNat) = false := by simp; omega
     go_wp2
     all_goals
      go_ret
      exact ⟨ret_bool (HB.out h3.out).symm, rfl⟩
    ·by_cases h97 : c.toNat < 97
     ·by_cases h48 : c.toNat < 48
      ·have h3 : Hid (aliAt k c = false) := Lib.hid (by simp [aliAt, highB, smallB, digB]; omega)
       have d0 : decide ((65 : Int) ≤ c.toNat) = false := by simp; omega
       have d1 : ((k : Int) == 0) = false := by simp; omega
       have d2 : decide ((c.toNat : Int) < 97) = true := by simp; omega
       have d3 : decide ((c.toNat : Int) < 48) = true := by simp; omega
       go_wp2
       all_goals
        go_ret
        exact ⟨ret_bool (HB.out h3.out).symm, rfl⟩
      ·by_cases h57 : 57 < c.toNat
       ·have h3 : Hid (aliAt k c = false) := Lib.hid (by simp [aliAt, highB, smallB, digB]; omega)
        have d0 : decide ((65 : Int) ≤ c.toNat) = false := by simp; omega
        have d1 : ((k : Int) == 0) = false := by simp; omega
        have d2 : decide ((c.toNat : Int) < 97) = true := by simp; omega
        have d3 : decide ((c.toNat : Int) < 48) = false := by simp; omega
        have d4 : decide ((57 : Int) < c.toNat) = true := by simp; omega
        go_wp2
        all_goals
         go_ret
         exact ⟨ret_bool (HB.out h3.out).symm, rfl⟩
       ·have h3 : Hid (aliAt k c = true) := Lib.hid (by simp [aliAt, highB, smallB, digB]; omega)
        have d0 : decide ((65 : Int) ≤ c.toNat) = false := by simp; omega
        have d1 : ((k : Int) == 0) = false := by simp; omega
        have d2 : decide ((c.toNat : Int) < 97) = true := by simp; omega
        have d3 : decide ((c.toNat : Int) < 48) = false := by simp; omega
        have d4 : decide ((57 : Int) < c.toNat) = false := by simp; omega
        go_wp2
        all_goals
         go_round
         case rel => exact ⟨k + 1, by omega, by go_num, Lib.hid (HS.out h3.out)⟩
         case measure => simp [intOf]; omega
     ·by_cases h122 : 122 < c.toNat
      ·have h3 : Hid (aliAt k c = false) := Lib.hid (by simp [aliAt, highB, smallB, digB]; omega)
       have d0 : decide ((65 : Int) ≤ c.toNat) = false := by simp; omega
       have d1 : ((k : Int) == 0) = false := by simp; omega
       have d2 : decide ((c.toNat : Int) < 97) = false := by simp; omega
       have d3 : decide ((122 : Int) < c.toNat) = true := by simp; omega
       have d4 : decide ((c.toNat : Int) < 48) = false := by simp; omega
       have d5 : decide ((57 : Int) < c.toNat) = true := by simp; omega
       go_wp2
       all_goals
        go_ret
        exact ⟨ret_bool (HB.out h3.out).symm, rfl⟩
      ·have h3 : Hid (aliAt k c = true) := Lib.hid (by simp [aliAt, highB, smallB, digB]; omega)
       have d0 : decide ((65 : Int) ≤ c.toNat) = false := by simp; omega
       have d1 : ((k : Int) == 0) = false := by simp; omega
       have d2 : decide ((c.toNat : Int) < 97) = false := by simp; omega
       have d3 : decide ((122 : Int) < c.toNat) = false := by simp; omega
       go_wp2
       all_goals
        go_round
        case rel => exact ⟨k + 1, by omega, by go_num, Lib.hid (HS.out h3.out)⟩
        case measure => simp [intOf]; omega
  ·obtain rfl : k = s.size := by omega
   have hfin : decide (0 < s.size) = R := by
    cases R
    ·rw [decide_eq_false_iff_not]
     intro h0
     have := HI.out.2 ⟨fun he => by have := HL.out; rw [he] at this; simp at this; omega, fun j hj => by rw [HL.out] at hj; exact HA.out j hj hj⟩
     cases this
    ·rw [decide_eq_true_eq]
     have := (HI.out.1 rfl).1
     rcases Nat.eq_zero_or_pos s.size with h0 | h0
     ·exact absurd (List.length_eq_zero_iff.1 (HL.out.trans h0)) this
     ·exact h0
   have HF : Hid ((s.toList != []) = R) := Lib.hid (HE2.out.trans hfin)
   clear hfin
   go_wp2
   go_ret
   exact ⟨ret_bool (by have := HF.out; simpa [bne] using this), rfl⟩

/-- All names. -/
def namesB (ss : List ByteArray) : Bool := decide (∀ s ∈ ss, isName (tl s) = true)
set_option maxHeartbeats 2000000 in
theorem rnames_any (A : Option Addr) (c : Nat) (ss : List ByteArray) (w : World) (hS : RdAt w A (ss.map .string)) (hn : ss.length ≤ 1000) (hsz : ∀ s ∈ ss, s.size ≤ 1000) :
 Calls Tryz.prog 109 #[.slice A ss.length c] w fun e w' => e = .returned (.bool (namesB ss)) ∧ w = w' := by
 obtain ⟨R, hR⟩ : ∃ R, namesB ss = R := ⟨_, rfl⟩
 rw [hR]
 have HR := Lib.hid hR
 have HS := Lib.hid hsz
 clear hR hsz
 go_enter Tryz.func109, Tryz.ntmps109
 go_wp2
 go_loop [4, 7] (fun _ i => ∃ k : Nat, k ≤ ss.length ∧ i = .int .i64 k ∧ Hid (∀ s ∈ ss.take k, isName (tl s) = true)) (fun _ i => ss.length - (intOf i).toNat)
 case atStart => exact ⟨0, Nat.zero_le _, rfl, Lib.hid (by simp)⟩
 case round =>
  obtain ⟨k, hk, rfl, HT⟩ := hrel
  by_cases hlt : k < ss.length
  ·obtain ⟨b, off, rfl, e1⟩ := rrds_at hS hlt
   have htk : ss.take (k + 1) = ss.take k ++ [ss[k]] := List.take_succ_eq_append_getElem hlt
   have kN := rname_any ss[k] (HS.out _ (List.getElem_mem hlt)) w
   have hbad : isName (tl ss[k]) = false → R = false := fun h => by
    rw [← HR.out]
    unfold namesB
    rw [decide_eq_false_iff_not]
    intro ha
    rw [ha _ (List.getElem_mem hlt)] at h
    cases h
   obtain ⟨s, hs⟩ : ∃ s, ss[k] = s := ⟨_, rfl⟩
   rw [hs] at e1 htk kN hbad
   obtain ⟨B, hB⟩ : ∃ B, isName (tl s) = B := ⟨_, rfl⟩
   rw [hB] at kN hbad
   have HTK := Lib.hid htk
   have HBD := Lib.hid hbad
   have HB := Lib.hid hB
   clear hs htk hbad hB hS
   cases B
   ·have HF := Lib.hid (HBD.out rfl)
    go_wp2_with (go_at_call 42; refine kN.mono ?_; rintro e w' ⟨rfl, rfl⟩)
    go_ret
    exact ⟨ret_bool HF.out.symm, rfl⟩
   ·go_wp2_with (go_at_call 42; refine kN.mono ?_; rintro e w' ⟨rfl, rfl⟩)
    go_round
    case rel => exact ⟨k + 1, by omega, by go_num, Lib.hid fun y hy => by
     rw [HTK.out] at hy
     rcases List.mem_append.1 hy with hy | hy
     ·exact HT.out y hy
     ·simp only [List.mem_singleton] at hy; subst hy; exact HB.out⟩
    case measure => simp [intOf]; omega
  ·obtain rfl : k = ss.length := by omega
   have HF : Hid (R = true) := Lib.hid (by
    rw [← HR.out]
    unfold namesB
    rw [decide_eq_true_eq]
    exact fun s hs => HT.out s (by rw [List.take_length]; exact hs))
   go_wp2
   go_ret
   exact ⟨ret_bool HF.out.symm, rfl⟩

set_option maxHeartbeats 2000000 in
theorem rbelow_any (A : Option Addr) (c : Nat) (ks : List Int) (n : Int) (w : World) (hS : RdAt w A (ks.map iv)) (hn : ks.length ≤ 1000) :
 Calls Tryz.prog 51 #[.slice A ks.length c, .int .i64 n] w fun e w' => e = .returned (.bool (decide (∀ k ∈ ks, 0 ≤ k ∧ k < n))) ∧ w = w' := by
 obtain ⟨R, hR⟩ : ∃ R, decide (∀ k ∈ ks, 0 ≤ k ∧ k < n) = R := ⟨_, rfl⟩
 rw [hR]
 have HR := Lib.hid hR
 clear hR
 go_enter Tryz.func51, Tryz.ntmps51
 go_wp2
 go_loop [6, 9] (fun _ i => ∃ k : Nat, k ≤ ks.length ∧ i = .int .i64 k ∧ Hid (∀ z ∈ ks.take k, 0 ≤ z ∧ z < n)) (fun _ i => ks.length - (intOf i).toNat)
 case atStart => exact ⟨0, Nat.zero_le _, rfl, Lib.hid (by simp)⟩
 case round =>
  obtain ⟨k, hk, rfl, HT⟩ := hrel
  by_cases hlt : k < ks.length
  ·obtain ⟨b, off, rfl, e1⟩ := rd_at hS hlt
   have htk : ks.take (k + 1) = ks.take k ++ [ks[k]] := List.take_succ_eq_append_getElem hlt
   have hbad : ¬ (0 ≤ ks[k] ∧ ks[k] < n) → R = false := fun h => by
    rw [← HR.out, decide_eq_false_iff_not]
    exact fun ha => h (ha _ (List.getElem_mem hlt))
   obtain ⟨z, hz⟩ : ∃ z, ks[k] = z := ⟨_, rfl⟩
   rw [hz] at e1 htk hbad
   have HTK := Lib.hid htk
   have HBD := Lib.hid hbad
   clear hz htk hbad hS
   by_cases h0 : z < 0
   ·have HF := Lib.hid (HBD.out (fun h => by omega))
    have d1 : decide (z < 0) = true := by simpa using h0
    go_wp2
    go_ret
    exact ⟨ret_bool HF.out.symm, rfl⟩
   ·have d1 : decide (z < 0) = false := by simpa using h0
    by_cases h1 : z < n
    ·have d2 : decide (n ≤ z) = false := by simp; omega
     have HZ : Hid (0 ≤ z ∧ z < n) := Lib.hid ⟨by omega, h1⟩
     clear h0 h1
     go_wp2
     go_round
     case rel => exact ⟨k + 1, by omega, by go_num, Lib.hid fun y hy => by
      rw [HTK.out] at hy
      rcases List.mem_append.1 hy with hy | hy
      ·exact HT.out y hy
      ·simp only [List.mem_singleton] at hy; subst hy; exact HZ.out⟩
     case measure => simp [intOf]; omega
    ·have d2 : decide (n ≤ z) = true := by simp; omega
     have HF := Lib.hid (HBD.out (fun h => h1 h.2))
     clear h0 h1
     go_wp2
     go_ret
     exact ⟨ret_bool HF.out.symm, rfl⟩
  ·obtain rfl : k = ks.length := by omega
   have HF : Hid (R = true) := Lib.hid (by
    rw [← HR.out, decide_eq_true_eq]
    exact fun s hs => HT.out s (by rw [List.take_length]; exact hs))
   go_wp2
   go_ret
   exact ⟨ret_bool HF.out.symm, rfl⟩

/-- Each of the first i is no other one of them. -/
def Apart (ss : List ByteArray) (i : Nat) : Prop := ∀ a b (ha : a < ss.length), a < i → ∀ hb : b < a, ss[a] ≠ ss[b]
theorem nodup_apart {ss : List ByteArray} : ss.Nodup ↔ Apart ss ss.length := by
 unfold Apart
 unfold List.Nodup
 rw [List.pairwise_iff_getElem]
 constructor
 ·intro h a b ha _ hb e
  exact h b a (by omega) ha hb e.symm
 ·intro h i j hi hj hij e
  exact h j i hj hj hij e.symm
set_option maxRecDepth 100000 in
set_option maxHeartbeats 4000000 in
theorem ronce_any (A : Option Addr) (c : Nat) (ss : List ByteArray) (w : World) (hS : RdAt w A (ss.map .string)) (hn : ss.length ≤ 1000) :
 Calls Tryz.prog 110 #[.slice A ss.length c] w fun e w' => e = .returned (.bool (decide ss.Nodup)) ∧ Below w.heap.size w w' := by
 obtain ⟨R, hR⟩ : ∃ R, decide ss.Nodup = R := ⟨_, rfl⟩
 rw [hR]
 have HR := Lib.hid hR
 have hB0 := Below.refl w.heap.size w
 clear hR
 go_enter Tryz.func110, Tryz.ntmps110
 go_wp2
 go_loopw [3, 4, 7] (fun _ _ i wr => ∃ k : Nat, k ≤ ss.length ∧ i = .int .i64 k ∧ Hid (Apart ss k) ∧ Below w.heap.size w wr ∧ ∃ d, wr = w.drewN d) (fun _ _ i _ => ss.length - (intOf i).toNat)
 case atStart => exact ⟨0, Nat.zero_le _, rfl, Lib.hid (fun a b _ h => absurd h (by omega)), hB0, 0, rfl⟩
 case round =>
  obtain ⟨k, hk, rfl, HT, hB, d, hwr⟩ := hrel
  by_cases hlt : k < ss.length
  ·have HW := Lib.hid hwr
   have hB1 := hB
   clear hwr
   go_wp2
   go_loopw [4] (fun i W => ∃ j : Nat, j ≤ k ∧ i = .int .i64 j ∧ Hid (∀ b (hb : b < k), b < j → ss[k] ≠ ss[b]) ∧ Below w.heap.size w W ∧ ∃ d, W = w.drewN d) (fun i _ => k - (intOf i).toNat)
   case atStart => exact ⟨0, Nat.zero_le _, rfl, Lib.hid (fun b _ h => absurd h (by omega)), hB1, by have := HW.out; exact ⟨_, this⟩⟩
   case round =>
    obtain ⟨j, hj, rfl, HJ, hB, d, hwr⟩ := hrel
    by_cases hjk : j < k
    ·have lj : j < ss.length := by omega
     obtain ⟨b, off, hA, e1⟩ := rrds_at hS hlt
     obtain ⟨b', off', hA', e2⟩ := rrds_at hS lj
     rw [hA] at hA'
     injection hA' with hA'
     injection hA' with q1 q2
     subst q1
     subst q2
     subst hA
     have f1 : wr.cell? ⟨b, off + k, none⟩ = some (.string ss[k]) := by rw [hwr]; exact e1
     have f2 : wr.cell? ⟨b, off + j, none⟩ = some (.string ss[j]) := by rw [hwr]; exact e2
     have hbad : ss[k] = ss[j] → R = false := fun h => by
      rw [← HR.out, decide_eq_false_iff_not]
      exact fun hnd => (nodup_apart.1 hnd) k j hlt (by omega) hjk h
     have hgood : ss[k] ≠ ss[j] → ∀ b (hb : b < k), b < j + 1 → ss[k] ≠ ss[b] := fun h b hb hbj => by
      by_cases e : b = j
      ·subst e; exact h
      ·exact HJ.out b hb (by omega)
     have HG := Lib.hid hgood
     have HBD := Lib.hid hbad
     obtain ⟨x, hxk⟩ : ∃ x, ss[k] = x := ⟨_, rfl⟩
     obtain ⟨y, hyk⟩ : ∃ y, ss[j] = y := ⟨_, rfl⟩
     have hyk' : ss[j]'lj = y := hyk
     rw [hxk] at f1
     rw [hyk'] at f2
     have HX := Lib.hid hxk
     have HY := Lib.hid hyk'
     have HW2 := Lib.hid hwr
     have i1 : (0 : Int) ≤ (k : Int) := by omega
     have i2 : (k : Int) < (ss.length : Int) := by omega
     have i3 : (0 : Int) ≤ (j : Int) := by omega
     have i4 : (j : Int) < (ss.length : Int) := by omega
     clear hxk hyk hyk' hgood hbad e1 e2 hwr hS
     by_cases hxy : x = y
     ·subst hxy
      have HF := Lib.hid (HBD.out (HX.out.trans HY.out.symm))
      have hq : (x.toList == x.toList) = true := by simp
      go_wp2
      go_quiet (fail)
      go_wp2
      go_ret
      exact ⟨ret_bool HF.out.symm, hB.trans (below_drewN _ _ _)⟩
     ·have HG2 := Lib.hid (HG.out (by rw [HX.out, HY.out]; exact hxy))
      have hq : (x.toList == y.toList) = false := by rw [beq_eq_false_iff_ne]; exact fun h => hxy (rtoList_inj h)
      go_wp2
      go_quiet (fail)
      go_wp2
      go_roundw
      case rel => exact ⟨j + 1, by omega, by go_num, HG2, hB.trans (below_drewN _ _ _), by have := HW2.out; subst this; exact ⟨_, drewN_two _ _ _⟩⟩
      case measure => simp [intOf]; omega
    ·obtain rfl : j = k := by omega
     have HN : Hid (Apart ss (j + 1)) := Lib.hid fun a b ha hai hb => by
      by_cases e : a = j
      ·subst e; exact HJ.out b hb hb
      ·exact HT.out a b ha (by omega) hb
     have HW2 := Lib.hid hwr
     clear hwr
     go_wp2
     go_roundw
     case rel => exact ⟨j + 1, by omega, by go_num, HN, hB, by have := HW2.out; exact ⟨_, this⟩⟩
     case measure => simp [intOf]; omega
  ·obtain rfl : k = ss.length := by omega
   have HF : Hid (R = true) := Lib.hid (by rw [← HR.out, decide_eq_true_eq]; exact nodup_apart.2 HT.out)
   clear hwr
   go_wp2
   go_ret
   exact ⟨ret_bool HF.out.symm, hB⟩

set_option maxHeartbeats 4000000 in
theorem rop_any (s : ByteArray) (w : World) : Calls Tryz.prog 108 #[.string s] w fun e w' => e = .returned (.bool (opB (tl s))) ∧ w = w' := by
 by_cases hm : tl s ∈ opsL
 ·have h1 : opB (tl s) = true := by simpa [opB] using hm
  rw [h1]
  clear h1
  have h0 := mk_tl s
  simp only [opsL, List.mem_cons, List.not_mem_nil, or_false] at hm
  rcases hm with hm | hm | hm | hm | hm | hm | hm | hm | hm | hm | hm | hm
  all_goals
   rw [hm] at h0
   subst h0
   clear hm
   go_enter Tryz.func108, Tryz.ntmps108
   go_wp2_with fail
   go_ret
   exact ⟨rfl, rfl⟩
 ·have h1 : opB (tl s) = false := by simpa [opB] using hm
  rw [h1]
  clear h1
  simp only [opsL, List.mem_cons, List.not_mem_nil, or_false, not_or] at hm
  obtain ⟨m0, m1, m2, m3, m4, m5, m6, m7, m8, m9, m10, m11⟩ := hm
  have n0 := toL_ne m0
  have n1 := toL_ne m1
  have n2 := toL_ne m2
  have n3 := toL_ne m3
  have n4 := toL_ne m4
  have n5 := toL_ne m5
  have n6 := toL_ne m6
  have n7 := toL_ne m7
  have n8 := toL_ne m8
  have n9 := toL_ne m9
  have n10 := toL_ne m10
  have n11 := toL_ne m11
  clear m0 m1 m2 m3 m4 m5 m6 m7 m8 m9 m10 m11
  go_enter Tryz.func108, Tryz.ntmps108
  go_wp2_with fail
  go_ret
  exact ⟨rfl, rfl⟩
end Go.Proofs.YtjbdgjbmbohfmaaGreatDoor
