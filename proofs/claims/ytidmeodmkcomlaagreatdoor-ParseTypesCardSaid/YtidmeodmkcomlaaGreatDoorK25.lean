/- The document's answer for rows of names and of numbers, at every row of a bounded size: aliases' texts, operators, names, once, below. What a string's token -/
import Derived.Test.YtidmeodmkcomlaaGreatDoorK24
import Derived.Shelf.Strings.FuncGrows
import Derived.Lib.ConvBytes
import Derived.Lib.SmallJoins
import Derived.LaidEqlPtr
set_option linter.unusedSimpArgs false
set_option linter.unusedVariables false
namespace Go.Proofs.YtidmeodmkcomlaaGreatDoor
open Go Go.Proofs Go.RowKit
set_option maxHeartbeats 4000000
theorem zgh {w : World} {A : Option Addr} {xs : List ByteArray} {k : Nat} (h : RdAt w A (xs.map .string)) (hk : k < xs.length) : ∃ b off, A = some ⟨b, off, none⟩ ∧ w.cell? ⟨b, off + k, none⟩ = some (.string xs[k]) := by
 rcases h with h | ⟨b, off, e, h⟩
 · have : xs = [] := by simpa using h
   subst this;simp at hk
 · exact ⟨b, off, e, h k _ (by simp [hk])⟩
theorem zkk {a b : ByteArray} (h : a.toList = b.toList) : a = b := by
 rw [ByteArray.toList_eq, ByteArray.toList_eq] at h;exact ByteArray.ext (Array.toList_inj.1 h)
theorem zm5 (s : ByteArray) (hs : s.size ≤ 1000) (w : World) : Calls Tryz.prog 33 #[.string s] w fun e w' => e = .returned (.bool (zbo (tl s))) ∧ w = w' := by
 have hlen := zab s;have hE := zdn s;have hI := zw5 (tl s)
 have hE2 : (s.toList != []) = decide (0 < s.size) := by
  by_cases hz : s.size = 0
  · have hE1 : (s.toList == []) = true := by rw [hE]; simpa using hz
    simp [bne, hE1, hz]
  · have hE1 : (s.toList == []) = false := by rw [hE]; simpa using hz
    simp [bne, hE1]
    omega
 obtain ⟨R, hR⟩ : ∃ R, zbo (tl s) = R := ⟨_, rfl⟩;rw [hR] at hI ⊢;clear hR hE;have HI := zJv hI;have HL := zJv hlen;have HE2 := zJv hE2;clear hI hlen hE2;go_enter Tryz.func33, Tryz.ntmps33
 go_wp2
 go_loop [3] (fun i => ∃ k : Nat, k ≤ s.size ∧ i = .int .i64 k ∧ Hid (∀ j (h : j < s.size), j < k → aliAt j s[j] = true)) (fun i => s.size - (intOf i).toNat)
 case atStart => exact ⟨0, zK8 _, rfl, zJv fun j _ h => absurd h (by omega)⟩
 case round =>
  obtain ⟨k, hk, rfl, HA⟩ := hrel;by_cases hlt : k < s.size
  · have hc := s[k].toNat_lt
    have hstep : aliAt k s[k] = true → ∀ j (h : j < s.size), j < k + 1 → aliAt j s[j] = true := fun hA j hj hjk => by
     by_cases e : j = k
     · subst e; exact hA
     · exact HA.out j hj (by omega)
    have hbad : aliAt k s[k] = false → R = false := fun hA => by
     cases R
     · rfl
     · have := (HI.out.1 rfl).2 k (by rw [HL.out]; exact hlt)
       have h2 : (tl s)[k]'(by rw [HL.out]; exact hlt) = s[k] := rfl;rw [h2, hA] at this;cases this
    obtain ⟨c, hcs⟩ : ∃ c, s[k] = c := ⟨_, rfl⟩;rw [hcs] at hc hstep hbad;have HC := zJv hcs;have HS := zJv hstep;have HB := zJv hbad;clear hstep hbad;by_cases h65 : 65 ≤ c.toNat
    · by_cases h90 : c.toNat ≤ 90
      · have h3 : Hid (aliAt k c = true) := zJv (by simp [aliAt, highB, zb9, digB]; omega)
        have d0 : decide ((65 : Int) ≤ c.toNat) = true := by simp; omega
        have d1 : decide ((c.toNat : Int) ≤ 90) = true := by simp; omega
        go_wp2
        all_goals
         go_round
         case rel => exact ⟨k + 1, by omega, by go_num, zJv (HS.out h3.out)⟩
         case measure => simp [intOf]; omega
      · by_cases hk0 : k = 0
        · subst hk0
          have h3 : Hid (aliAt 0 c = false) := zJv (by simp [aliAt, highB, zb9, digB]; omega);have d0 : decide ((65 : Int) ≤ c.toNat) = true := by simp; omega
          have d1 : decide ((c.toNat : Int) ≤ 90) = false := by simp; omega
          go_wp2
          all_goals
           go_ret;exact ⟨za7 (HB.out h3.out).symm, rfl⟩
        · by_cases h97 : c.toNat < 97
          · by_cases h48 : c.toNat < 48
            · have h3 : Hid (aliAt k c = false) := zJv (by simp [aliAt, highB, zb9, digB]; omega)
              have d0 : decide ((65 : Int) ≤ c.toNat) = true := by simp; omega
              have d1 : decide ((c.toNat : Int) ≤ 90) = false := by simp; omega
              have d2 : ((k : Int) == 0) = false := by simp; omega
              have d3 : decide ((c.toNat : Int) < 97) = true := by simp; omega
              have d4 : decide ((c.toNat : Int) < 48) = true := by simp; omega
              go_wp2
              all_goals
               go_ret;exact ⟨za7 (HB.out h3.out).symm, rfl⟩
            · by_cases h57 : 57 < c.toNat
              · have h3 : Hid (aliAt k c = false) := zJv (by simp [aliAt, highB, zb9, digB]; omega)
                have d0 : decide ((65 : Int) ≤ c.toNat) = true := by simp; omega
                have d1 : decide ((c.toNat : Int) ≤ 90) = false := by simp; omega
                have d2 : ((k : Int) == 0) = false := by simp; omega
                have d3 : decide ((c.toNat : Int) < 97) = true := by simp; omega
                have d4 : decide ((c.toNat : Int) < 48) = false := by simp; omega
                have d5 : decide ((57 : Int) < c.toNat) = true := by simp; omega
                go_wp2
                all_goals
                 go_ret;exact ⟨za7 (HB.out h3.out).symm, rfl⟩
              · have h3 : Hid (aliAt k c = true) := zJv (by simp [aliAt, highB, zb9, digB]; omega)
                have d0 : decide ((65 : Int) ≤ c.toNat) = true := by simp; omega
                have d1 : decide ((c.toNat : Int) ≤ 90) = false := by simp; omega
                have d2 : ((k : Int) == 0) = false := by simp; omega
                have d3 : decide ((c.toNat : Int) < 97) = true := by simp; omega
                have d4 : decide ((c.toNat : Int) < 48) = false := by simp; omega
                have d5 : decide ((57 : Int) < c.toNat) = false := by simp; omega
                go_wp2
                all_goals
                 go_round
                 case rel => exact ⟨k + 1, by omega, by go_num, zJv (HS.out h3.out)⟩
                 case measure => simp [intOf]; omega
          · by_cases h122 : 122 < c.toNat
            · have h3 : Hid (aliAt k c = false) := zJv (by simp [aliAt, highB, zb9, digB]; omega)
              have d0 : decide ((65 : Int) ≤ c.toNat) = true := by simp; omega
              have d1 : decide ((c.toNat : Int) ≤ 90) = false := by simp; omega
              have d2 : ((k : Int) == 0) = false := by simp; omega
              have d3 : decide ((c.toNat : Int) < 97) = false := by simp; omega
              have d4 : decide ((122 : Int) < c.toNat) = true := by simp; omega
              have d5 : decide ((c.toNat : Int) < 48) = false := by simp; omega
              have d6 : decide ((57 : Int) < c.toNat) = true := by simp; omega
              go_wp2
              all_goals
               go_ret;exact ⟨za7 (HB.out h3.out).symm, rfl⟩
            · have h3 : Hid (aliAt k c = true) := zJv (by simp [aliAt, highB, zb9, digB]; omega)
              have d0 : decide ((65 : Int) ≤ c.toNat) = true := by simp; omega
              have d1 : decide ((c.toNat : Int) ≤ 90) = false := by simp; omega
              have d2 : ((k : Int) == 0) = false := by simp; omega
              have d3 : decide ((c.toNat : Int) < 97) = false := by simp; omega
              have d4 : decide ((122 : Int) < c.toNat) = false := by simp; omega
              go_wp2
              all_goals
               go_round
               case rel => exact ⟨k + 1, by omega, by go_num, zJv (HS.out h3.out)⟩
               case measure => simp [intOf]; omega
    · by_cases hk0 : k = 0
      · subst hk0
        have h3 : Hid (aliAt 0 c = false) := zJv (by simp [aliAt, highB, zb9, digB]; omega);have d0 : decide ((65 : Int) ≤ c.toNat) = false := by simp; omega
        go_wp2
        all_goals
         go_ret;exact ⟨za7 (HB.out h3.out).symm, rfl⟩
      · by_cases h97 : c.toNat < 97
        · by_cases h48 : c.toNat < 48
          · have h3 : Hid (aliAt k c = false) := zJv (by simp [aliAt, highB, zb9, digB]; omega)
            have d0 : decide ((65 : Int) ≤ c.toNat) = false := by simp; omega
            have d1 : ((k : Int) == 0) = false := by simp; omega
            have d2 : decide ((c.toNat : Int) < 97) = true := by simp; omega
            have d3 : decide ((c.toNat : Int) < 48) = true := by simp; omega
            go_wp2
            all_goals
             go_ret;exact ⟨za7 (HB.out h3.out).symm, rfl⟩
          · by_cases h57 : 57 < c.toNat
            · have h3 : Hid (aliAt k c = false) := zJv (by simp [aliAt, highB, zb9, digB]; omega)
              have d0 : decide ((65 : Int) ≤ c.toNat) = false := by simp; omega
              have d1 : ((k : Int) == 0) = false := by simp; omega
              have d2 : decide ((c.toNat : Int) < 97) = true := by simp; omega
              have d3 : decide ((c.toNat : Int) < 48) = false := by simp; omega
              have d4 : decide ((57 : Int) < c.toNat) = true := by simp; omega
              go_wp2
              all_goals
               go_ret;exact ⟨za7 (HB.out h3.out).symm, rfl⟩
            · have h3 : Hid (aliAt k c = true) := zJv (by simp [aliAt, highB, zb9, digB]; omega)
              have d0 : decide ((65 : Int) ≤ c.toNat) = false := by simp; omega
              have d1 : ((k : Int) == 0) = false := by simp; omega
              have d2 : decide ((c.toNat : Int) < 97) = true := by simp; omega
              have d3 : decide ((c.toNat : Int) < 48) = false := by simp; omega
              have d4 : decide ((57 : Int) < c.toNat) = false := by simp; omega
              go_wp2
              all_goals
               go_round
               case rel => exact ⟨k + 1, by omega, by go_num, zJv (HS.out h3.out)⟩
               case measure => simp [intOf]; omega
        · by_cases h122 : 122 < c.toNat
          · have h3 : Hid (aliAt k c = false) := zJv (by simp [aliAt, highB, zb9, digB]; omega)
            have d0 : decide ((65 : Int) ≤ c.toNat) = false := by simp; omega
            have d1 : ((k : Int) == 0) = false := by simp; omega
            have d2 : decide ((c.toNat : Int) < 97) = false := by simp; omega
            have d3 : decide ((122 : Int) < c.toNat) = true := by simp; omega
            have d4 : decide ((c.toNat : Int) < 48) = false := by simp; omega
            have d5 : decide ((57 : Int) < c.toNat) = true := by simp; omega
            go_wp2
            all_goals
             go_ret;exact ⟨za7 (HB.out h3.out).symm, rfl⟩
          · have h3 : Hid (aliAt k c = true) := zJv (by simp [aliAt, highB, zb9, digB]; omega)
            have d0 : decide ((65 : Int) ≤ c.toNat) = false := by simp; omega
            have d1 : ((k : Int) == 0) = false := by simp; omega
            have d2 : decide ((c.toNat : Int) < 97) = false := by simp; omega
            have d3 : decide ((122 : Int) < c.toNat) = false := by simp; omega
            go_wp2
            all_goals
             go_round
             case rel => exact ⟨k + 1, by omega, by go_num, zJv (HS.out h3.out)⟩
             case measure => simp [intOf]; omega
  · obtain rfl : k = s.size := by omega
    have hfin : decide (0 < s.size) = R := by
     cases R
     · rw [zKs]
       intro h0;have := HI.out.2 ⟨fun he => by have := HL.out; rw [he] at this; simp at this; omega, fun j hj => by rw [HL.out] at hj; exact HA.out j hj hj⟩;cases this
     · rw [zKq]
       have := (HI.out.1 rfl).1;rcases Nat.eq_zero_or_pos s.size with h0 | h0
       · exact absurd (List.length_eq_zero_iff.1 (HL.out.trans h0)) this
       · exact h0
    have HF : Hid ((s.toList != []) = R) := zJv (HE2.out.trans hfin);clear hfin;go_wp2
    go_ret;exact ⟨za7 (by have := HF.out; simpa [bne] using this), rfl⟩
def zes (ss : List ByteArray) : Bool := decide (∀ s ∈ ss, zac (tl s) = true)
theorem zlp (A : Option Addr) (c : Nat) (ss : List ByteArray) (w : World) (hS : RdAt w A (ss.map .string)) (hn : ss.length ≤ 1000) (hsz : ∀ s ∈ ss, s.size ≤ 1000) :
 Calls Tryz.prog 64 #[.slice A ss.length c] w fun e w' => e = .returned (.bool (zes ss)) ∧ w = w' := by
 obtain ⟨R, hR⟩ : ∃ R, zes ss = R := ⟨_, rfl⟩;rw [hR];have HR := zJv hR;have HS := zJv hsz;clear hR hsz;go_enter Tryz.func64, Tryz.ntmps64
 go_wp2
 go_loop [4, 7] (fun _ i => ∃ k : Nat, k ≤ ss.length ∧ i = .int .i64 k ∧ Hid (∀ s ∈ ss.take k, zac (tl s) = true)) (fun _ i => ss.length - (intOf i).toNat)
 case atStart => exact ⟨0, zK8 _, rfl, zJv (by simp)⟩
 case round =>
  obtain ⟨k, hk, rfl, HT⟩ := hrel;by_cases hlt : k < ss.length
  · obtain ⟨b, off, rfl, e1⟩ := zgh hS hlt
    have htk : ss.take (k + 1) = ss.take k ++ [ss[k]] := zK9 hlt;have kN := zej ss[k] (HS.out _ (zKe hlt)) w
    have hbad : zac (tl ss[k]) = false → R = false := fun h => by
     rw [← HR.out];unfold zes;rw [zKs];intro ha;rw [ha _ (zKe hlt)] at h;cases h
    obtain ⟨s, hs⟩ : ∃ s, ss[k] = s := ⟨_, rfl⟩;rw [hs] at e1 htk kN hbad;obtain ⟨B, hB⟩ : ∃ B, zac (tl s) = B := ⟨_, rfl⟩;rw [hB] at kN hbad;have HTK := zJv htk;have HBD := zJv hbad;have HB := zJv hB;clear hs htk hbad hB hS;cases B
    · have HF := zJv (HBD.out rfl)
      go_wp2_with (go_at_call 59; refine kN.mono ?_; rintro e w' ⟨rfl, rfl⟩)
      go_ret;exact ⟨za7 HF.out.symm, rfl⟩
    · go_wp2_with (go_at_call 59; refine kN.mono ?_; rintro e w' ⟨rfl, rfl⟩)
      go_round
      case rel => exact ⟨k + 1, by omega, by go_num, zJv fun y hy => by
       rw [HTK.out] at hy;rcases List.mem_append.1 hy with hy | hy
       · exact HT.out y hy
       · simp only [zK7] at hy; subst hy; exact HB.out⟩
      case measure => simp [intOf]; omega
  · obtain rfl : k = ss.length := by omega
    have HF : Hid (R = true) := zJv (by
     rw [← HR.out];unfold zes;rw [zKq]
     exact fun s hs => HT.out s (by rw [List.take_length]; exact hs))
    go_wp2
    go_ret;exact ⟨za7 HF.out.symm, rfl⟩
theorem zge (A : Option Addr) (c : Nat) (ks : List Int) (n : Int) (w : World) (hS : RdAt w A (ks.map iv)) (hn : ks.length ≤ 1000) :
 Calls Tryz.prog 31 #[.slice A ks.length c, .int .i64 n] w fun e w' => e = .returned (.bool (decide (∀ k ∈ ks, 0 ≤ k ∧ k < n))) ∧ w = w' := by
 obtain ⟨R, hR⟩ : ∃ R, decide (∀ k ∈ ks, 0 ≤ k ∧ k < n) = R := ⟨_, rfl⟩;rw [hR];have HR := zJv hR;clear hR;go_enter Tryz.func31, Tryz.ntmps31
 go_wp2
 go_loop [6, 9] (fun _ i => ∃ k : Nat, k ≤ ks.length ∧ i = .int .i64 k ∧ Hid (∀ z ∈ ks.take k, 0 ≤ z ∧ z < n)) (fun _ i => ks.length - (intOf i).toNat)
 case atStart => exact ⟨0, zK8 _, rfl, zJv (by simp)⟩
 case round =>
  obtain ⟨k, hk, rfl, HT⟩ := hrel;by_cases hlt : k < ks.length
  · obtain ⟨b, off, rfl, e1⟩ := rd_at hS hlt
    have htk : ks.take (k + 1) = ks.take k ++ [ks[k]] := zK9 hlt
    have hbad : ¬ (0 ≤ ks[k] ∧ ks[k] < n) → R = false := fun h => by
     rw [← HR.out, zKs];exact fun ha => h (ha _ (zKe hlt))
    obtain ⟨z, hz⟩ : ∃ z, ks[k] = z := ⟨_, rfl⟩;rw [hz] at e1 htk hbad;have HTK := zJv htk;have HBD := zJv hbad;clear hz htk hbad hS;by_cases h0 : z < 0
    · have HF := zJv (HBD.out (fun h => by omega))
      have d1 : decide (z < 0) = true := by simpa using h0
      go_wp2
      go_ret;exact ⟨za7 HF.out.symm, rfl⟩
    · have d1 : decide (z < 0) = false := by simpa using h0
      by_cases h1 : z < n
      · have d2 : decide (n ≤ z) = false := by simp; omega
        have HZ : Hid (0 ≤ z ∧ z < n) := zJv ⟨by omega, h1⟩;clear h0 h1;go_wp2
        go_round
        case rel => exact ⟨k + 1, by omega, by go_num, zJv fun y hy => by
         rw [HTK.out] at hy;rcases List.mem_append.1 hy with hy | hy
         · exact HT.out y hy
         · simp only [zK7] at hy; subst hy; exact HZ.out⟩
        case measure => simp [intOf]; omega
      · have d2 : decide (n ≤ z) = true := by simp; omega
        have HF := zJv (HBD.out (fun h => h1 h.2));clear h0 h1;go_wp2
        go_ret;exact ⟨za7 HF.out.symm, rfl⟩
  · obtain rfl : k = ks.length := by omega
    have HF : Hid (R = true) := zJv (by
     rw [← HR.out, zKq]
     exact fun s hs => HT.out s (by rw [List.take_length]; exact hs))
    go_wp2
    go_ret;exact ⟨za7 HF.out.symm, rfl⟩
def Apart (ss : List ByteArray) (i : Nat) : Prop := ∀ a b (ha : a < ss.length), a < i → ∀ hb : b < a, ss[a] ≠ ss[b]
theorem zkn {ss : List ByteArray} : ss.Nodup ↔ Apart ss ss.length := by
 unfold Apart;unfold List.Nodup;rw [List.pairwise_iff_getElem];constructor
 · intro h a b ha _ hb e
   exact h b a (by omega) ha hb e.symm
 · intro h i j hi hj hij e
   exact h j i hj hj hij e.symm
set_option maxRecDepth 100000 in
theorem zhb (A : Option Addr) (c : Nat) (ss : List ByteArray) (w : World) (hS : RdAt w A (ss.map .string)) (hn : ss.length ≤ 1000) :
 Calls Tryz.prog 65 #[.slice A ss.length c] w fun e w' => e = .returned (.bool (decide ss.Nodup)) ∧ Below w.heap.size w w' := by
 obtain ⟨R, hR⟩ : ∃ R, decide ss.Nodup = R := ⟨_, rfl⟩;rw [hR];have HR := zJv hR;have hB0 := zJx w.heap.size w;clear hR;go_enter Tryz.func65, Tryz.ntmps65
 go_wp2
 go_loopw [3, 4, 7] (fun _ _ i wr => ∃ k : Nat, k ≤ ss.length ∧ i = .int .i64 k ∧ Hid (Apart ss k) ∧ Below w.heap.size w wr ∧ ∃ d, wr = w.drewN d) (fun _ _ i _ => ss.length - (intOf i).toNat)
 case atStart => exact ⟨0, zK8 _, rfl, zJv (fun a b _ h => absurd h (by omega)), hB0, 0, rfl⟩
 case round =>
  obtain ⟨k, hk, rfl, HT, hB, d, hwr⟩ := hrel;by_cases hlt : k < ss.length
  · have HW := zJv hwr
    have hB1 := hB;clear hwr;go_wp2
    go_loopw [4] (fun i W => ∃ j : Nat, j ≤ k ∧ i = .int .i64 j ∧ Hid (∀ b (hb : b < k), b < j → ss[k] ≠ ss[b]) ∧ Below w.heap.size w W ∧ ∃ d, W = w.drewN d) (fun i _ => k - (intOf i).toNat)
    case atStart => exact ⟨0, zK8 _, rfl, zJv (fun b _ h => absurd h (by omega)), hB1, by have := HW.out; exact ⟨_, this⟩⟩
    case round =>
     obtain ⟨j, hj, rfl, HJ, hB, d, hwr⟩ := hrel;by_cases hjk : j < k
     · have lj : j < ss.length := by omega
       obtain ⟨b, off, hA, e1⟩ := zgh hS hlt;obtain ⟨b', off', hA', e2⟩ := zgh hS lj;rw [hA] at hA';injection hA' with hA'
       injection hA' with q1 q2
       subst q1;subst q2;subst hA;have f1 : wr.cell? ⟨b, off + k, none⟩ = some (.string ss[k]) := by rw [hwr]; exact e1
       have f2 : wr.cell? ⟨b, off + j, none⟩ = some (.string ss[j]) := by rw [hwr]; exact e2
       have hbad : ss[k] = ss[j] → R = false := fun h => by
        rw [← HR.out, zKs];exact fun hnd => (zkn.1 hnd) k j hlt (by omega) hjk h
       have hgood : ss[k] ≠ ss[j] → ∀ b (hb : b < k), b < j + 1 → ss[k] ≠ ss[b] := fun h b hb hbj => by
        by_cases e : b = j
        · subst e; exact h
        · exact HJ.out b hb (by omega)
       have HG := zJv hgood;have HBD := zJv hbad;obtain ⟨x, hxk⟩ : ∃ x, ss[k] = x := ⟨_, rfl⟩;obtain ⟨y, hyk⟩ : ∃ y, ss[j] = y := ⟨_, rfl⟩;have hyk' : ss[j]'lj = y := hyk;rw [hxk] at f1;rw [hyk'] at f2;have HX := zJv hxk;have HY := zJv hyk';have HW2 := zJv hwr;have i1 : (0 : Int) ≤ (k : Int) := by omega
       have i2 : (k : Int) < (ss.length : Int) := by omega
       have i3 : (0 : Int) ≤ (j : Int) := by omega
       have i4 : (j : Int) < (ss.length : Int) := by omega
       clear hxk hyk hyk' hgood hbad e1 e2 hwr hS;by_cases hxy : x = y
       · subst hxy
         have HF := zJv (HBD.out (HX.out.trans HY.out.symm));have hq : (x.toList == x.toList) = true := by simp
         go_wp2
         go_quiet (fail)
         go_wp2
         go_ret;exact ⟨za7 HF.out.symm, hB.trans (zft _ _ _)⟩
       · have HG2 := zJv (HG.out (by rw [HX.out, HY.out]; exact hxy))
         have hq : (x.toList == y.toList) = false := by rw [zKr]; exact fun h => hxy (zkk h)
         go_wp2
         go_quiet (fail)
         go_wp2
         go_roundw
         case rel => exact ⟨j + 1, by omega, by go_num, HG2, hB.trans (zft _ _ _), by have := HW2.out; subst this; exact ⟨_, zoo _ _ _⟩⟩
         case measure => simp [intOf]; omega
     · obtain rfl : j = k := by omega
       have HN : Hid (Apart ss (j + 1)) := zJv fun a b ha hai hb => by
        by_cases e : a = j
        · subst e; exact HJ.out b hb hb
        · exact HT.out a b ha (by omega) hb
       have HW2 := zJv hwr;clear hwr;go_wp2
       go_roundw
       case rel => exact ⟨j + 1, by omega, by go_num, HN, hB, by have := HW2.out; exact ⟨_, this⟩⟩
       case measure => simp [intOf]; omega
  · obtain rfl : k = ss.length := by omega
    have HF : Hid (R = true) := zJv (by rw [← HR.out, zKq]; exact zkn.2 HT.out);clear hwr;go_wp2
    go_ret;exact ⟨za7 HF.out.symm, hB⟩
theorem zHo (s : ByteArray) (w : World) : Calls Tryz.prog 63 #[.string s] w fun e w' => e = .returned (.bool (opB (tl s))) ∧ w = w' := by
 by_cases hm : tl s ∈ opsL
 · have h1 : opB (tl s) = true := by simpa [opB] using hm
   rw [h1];clear h1;have h0 := mk_tl s;simp only [opsL, zKf, zKn, or_false] at hm;rcases hm with hm | hm | hm | hm | hm | hm | hm | hm | hm | hm | hm | hm
   all_goals
    rw [hm] at h0;subst h0;clear hm;go_enter Tryz.func63, Tryz.ntmps63
    go_wp2_with fail
    go_ret;exact ⟨rfl, rfl⟩
 · have h1 : opB (tl s) = false := by simpa [opB] using hm
   rw [h1];clear h1;simp only [opsL, zKf, zKn, or_false, not_or] at hm;obtain ⟨m0, m1, m2, m3, m4, m5, m6, m7, m8, m9, m10, m11⟩ := hm;have n0 := zal m0;have n1 := zal m1;have n2 := zal m2;have n3 := zal m3;have n4 := zal m4;have n5 := zal m5;have n6 := zal m6;have n7 := zal m7;have n8 := zal m8;have n9 := zal m9;have n10 := zal m10;have n11 := zal m11;clear m0 m1 m2 m3 m4 m5 m6 m7 m8 m9 m10 m11;go_enter Tryz.func63, Tryz.ntmps63
   go_wp2_with fail
   go_ret;exact ⟨rfl, rfl⟩
end Go.Proofs.YtidmeodmkcomlaaGreatDoor
namespace Go.Proofs.YtidmeodmkcomlaaGreatDoor
open Go Go.Proofs Go.RowKit Go.Maps Go.WideMaps
theorem zga (W : World) (s : ByteArray) : TextAt (W.heap.size + 1) (Lib.bytesWorld W 5 s) (.slice (some ⟨W.heap.size, 0, none⟩) s.size (grownCap W s.size 0 5)) (tl s) := by
 refine .inr ⟨W.heap.size, 0, _, by rw [zab], Nat.lt_succ_self _, by rw [zab]; exact grownCap_ge _ _ _ _, fun j hj => ?_⟩;rw [zab] at hj;rw [Nat.zero_add];exact Lib.bytesWorld_cell W 5 s j hj
def lowR (x : Nat) : Bool := decide (x < 32) && !decide (x = 10)
def lineB (s : ByteArray) : Bool := decide (badOf (tl s) < 0) && !decide (0 ≤ Lib.idxFunc lowR true s)
def zgs (x : Nat) : Bool := decide (norm x = x)
def evens : List ByteArray → List ByteArray
 | a :: _ :: r => a :: evens r
 | _ => []
def odds : List ByteArray → List ByteArray
 | _ :: b :: r => b :: odds r
 | _ => []
def armsB (ss : List ByteArray) : Bool := decide (ss.length % 2 = 0) && (decide (∀ s ∈ odds ss, zac (tl s) = true) && onceB tagB (evens ss))
end Go.Proofs.YtidmeodmkcomlaaGreatDoor
namespace Go.Proofs.YtidmeodmkcomlaaGreatDoor
open Go Go.Proofs Go.RowKit

def za6 (M K R T : Int) (n : Int) (kl tl : Nat) (b0 b1 b2 : Bool) : Bool :=
 decide (0 ≤ n ∧ n ≤ M ∧ K ≤ kl ∧ (kl : Int) ≤ K + R ∧ (tl : Int) = T) && (b0 && (b1 && b2))

def termB (t : TermD) : Bool :=
 if t.kind = 0 then za6 0 0 0 0 t.int t.kids.length t.types.length (zac (tl t.name)) t.names.isEmpty (decide (t.bits = 0))
 else if t.kind = 1 then za6 9223372036854775807 0 0 0 t.int t.kids.length t.types.length t.name.toList.isEmpty t.names.isEmpty (decide (t.bits = 0))
 else if t.kind = 2 then za6 1 0 0 0 t.int t.kids.length t.types.length t.name.toList.isEmpty t.names.isEmpty (decide (t.bits = 0))
 else if t.kind = 3 then za6 0 0 0 0 t.int t.kids.length t.types.length (lineB t.name) t.names.isEmpty (decide (t.bits = 0))
 else if t.kind = 4 then za6 0 0 0 0 t.int t.kids.length t.types.length t.name.toList.isEmpty t.names.isEmpty (zgs t.bits)
 else if t.kind = 5 ∨ t.kind = 13 then za6 0 1 0 0 t.int t.kids.length t.types.length (zac (tl t.name)) t.names.isEmpty (decide (t.bits = 0))
 else if t.kind = 6 then za6 0 2 0 0 t.int t.kids.length t.types.length t.name.toList.isEmpty t.names.isEmpty (decide (t.bits = 0))
 else if t.kind = 7 ∨ t.kind = 8 then za6 0 2 0 0 t.int t.kids.length t.types.length (zac (tl t.name)) t.names.isEmpty (decide (t.bits = 0))
 else if t.kind = 9 then za6 0 3 0 0 t.int t.kids.length t.types.length t.name.toList.isEmpty t.names.isEmpty (decide (t.bits = 0))
 else if t.kind = 10 then za6 0 (1 + (t.names.length : Int) / 2) 1 0 t.int t.kids.length t.types.length t.name.toList.isEmpty (armsB t.names) (decide (t.bits = 0))
 else if t.kind = 11 then za6 0 1 0 0 t.int t.kids.length t.types.length (tagB (tl t.name)) t.names.isEmpty (decide (t.bits = 0))
 else if t.kind = 12 then za6 0 (t.names.length : Int) 0 0 t.int t.kids.length t.types.length t.name.toList.isEmpty (onceB zac t.names) (decide (t.bits = 0))
 else if t.kind = 14 then za6 0 2 0 0 t.int t.kids.length t.types.length (opB (tl t.name)) t.names.isEmpty (decide (t.bits = 0))
 else if t.kind = 15 then za6 0 1 0 1 t.int t.kids.length t.types.length t.name.toList.isEmpty t.names.isEmpty (decide (t.bits = 0))
 else if t.kind = 16 then za6 0 1 0 2 t.int t.kids.length t.types.length t.name.toList.isEmpty t.names.isEmpty (decide (t.bits = 0))
 else false
def typB (t : TypD) : Bool :=
 if 0 ≤ t.kind ∧ t.kind ≤ 6 then za6 0 0 0 0 0 t.kids.length 0 t.name.toList.isEmpty t.names.isEmpty true && !t.opn
 else if t.kind = 7 then za6 0 2 0 0 0 t.kids.length 0 t.name.toList.isEmpty t.names.isEmpty true && !t.opn
 else if t.kind = 8 then za6 0 (t.names.length : Int) 0 0 0 t.kids.length 0 t.name.toList.isEmpty (onceB zac t.names) true && !t.opn
 else if t.kind = 9 then za6 0 (t.names.length : Int) 0 0 0 t.kids.length 0 t.name.toList.isEmpty (onceB tagB t.names) true
 else if t.kind = 10 then za6 0 0 0 0 0 t.kids.length 0 (zbo (tl t.name)) t.names.isEmpty true && !t.opn
 else false
def zbb (t : TermD) : Prop := t.name.size ≤ 1000 ∧ t.names.length ≤ 1000 ∧ (∀ s ∈ t.names, s.size ≤ 1000) ∧ t.kids.length ≤ 1000 ∧ t.types.length ≤ 1000
def zfg (t : TypD) : Prop := t.name.size ≤ 1000 ∧ t.names.length ≤ 1000 ∧ (∀ s ∈ t.names, s.size ≤ 1000) ∧ t.kids.length ≤ 1000
def Env4 (w : World) : Prop := Lib.Utf8Tabs 0 1 w ∧ 3 ≤ w.heap.size
theorem Env4.on {w w' : World} (h : Env4 w) (hb : Below w.heap.size w w') : Env4 w' := ⟨zgc (n₀ := w.heap.size) (by have := h.2; omega) hb h.1, zK4 h.2 hb.size⟩

end Go.Proofs.YtidmeodmkcomlaaGreatDoor
