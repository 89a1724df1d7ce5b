/- The document's answer for ints and signs, at every text of at most 2^20 bytes. -/
import Derived.Test.YtocepddgegnfaaaDoorRefC
import Derived.Test.YtocepddgegnfaaaDoorRefB
namespace Go.Proofs.YtocepddgegnfaaaDoor
open Go Go.Proofs Go.RowKit

/-- The digits make an int. -/
def okI (l : List UInt8) : Bool := decide ((digN l = 1 ∨ (l.getD 0 0).toNat ≠ 48) ∧ decV 0 (l.take (digN l)) ≤ 9223372036854775807)
theorem okI_intN (l : List UInt8) : intN l = if okI l then digN l else 0 := by
  unfold intN okI
  by_cases hc : (digN l = 1 ∨ (l.getD 0 0).toNat ≠ 48) ∧ decV 0 (l.take (digN l)) ≤ 9223372036854775807
  · rw [if_pos hc, decide_eq_true hc, if_pos rfl]
  · rw [if_neg hc, decide_eq_false hc]; rfl

theorem decV_snoc (m : List UInt8) (c : UInt8) (n : Nat) : decV n (m ++ [c]) = decV n m * 10 + (c.toNat - 48) := by
  unfold decV; rw [List.foldl_append]; rfl

theorem ret_numb {a c : Nat} {b d : Bool} (h : c = a) (h2 : d = b) : Ending.returned (.tuple #[.int .i64 (a : Nat), .bool b]) = .returned (.tuple #[.int .i64 (c : Nat), .bool d]) := by rw [h, h2]
/-- What the loop has reckoned of n digits. -/
def NumS (l : List UInt8) (a n X : Nat) (f : Bool) : Prop :=
  (f = true ∧ X = decV 0 ((l.drop a).take n) ∧ X ≤ 9223372036854775807) ∨ (f = false ∧ 9223372036854775807 < decV 0 ((l.drop a).take n) ∧ X ≤ 9223372036854775807)

theorem take_snoc (l : List UInt8) (a n : Nat) (h : a + n < l.length) : (l.drop a).take (n + 1) = (l.drop a).take n ++ [l[a + n]] := by
  rw [List.take_succ_eq_append_getElem (by rw [List.length_drop]; omega), List.getElem_drop]

set_option maxHeartbeats 4000000 in
theorem rnum_any (b off cap : Nat) (l : List UInt8) (hlen : l.length ≤ 1048576) (a : Nat) (ha : a < l.length) (hd : digB (l[a]'ha) = true) (w : World) (hh : Holds w b off l) :
    Calls Tryd.prog 43 #[.slice (some ⟨b, off, none⟩) l.length cap, .int .i64 a] w fun e w' => e = .returned (.tuple #[.int .i64 (digN (l.drop a) : Nat), .bool (okI (l.drop a))]) ∧ Below w.heap.size w w' := by
  have mixed : Tryd.prog.follows .mixedOrders = true := by kernel_rfl
  have HN := Lib.hid (spanL_at digB digB l a ha hd)
  have HH := Lib.hid hh
  have HOK : Hid (∀ f n, 1 ≤ n → digN (l.drop a) = n → (∃ X, NumS l a n X f) → okI (l.drop a) = (f && (decide (n = 1) || !decide ((l[a]'ha).toNat = 48)))) := Lib.hid (fun f n hn hdn ⟨X, hS⟩ => by
    unfold okI
    rw [hdn]
    have hg : (l.drop a).getD 0 0 = l[a] := by rw [drop_at l a ha]; rfl
    rw [hg]
    rcases hS with ⟨rfl, h1, h2⟩ | ⟨rfl, h1, _⟩
    · rw [Bool.eq_iff_iff]
      simp
      intro _
      omega
    · simp
      intro _
      exact h1)
  clear hh
  obtain ⟨R, hR⟩ : ∃ R, digN (l.drop a) = R := ⟨_, rfl⟩
  have hR' : spanN digB digB (l.drop a) = R := hR
  rw [hR'] at HN
  rw [hR] at HOK ⊢
  clear hR hR'
  obtain ⟨OK, hOK⟩ : ∃ OK, okI (l.drop a) = OK := ⟨_, rfl⟩
  rw [hOK] at HOK ⊢
  clear hOK
  go_enter Tryd.func43, Tryd.ntmps43
  obtain ⟨T, hT⟩ : ∃ T : Int, T = 922337203685477580 := ⟨_, rfl⟩
  rw [← hT]
  have HT := Lib.hid hT
  clear hT
  go_wp2_with fail
  go_loopw [6, 7, 8, 9] (fun i x f _ wr => wr = w ∧ ∃ (n X : Nat) (fb : Bool), a + n ≤ l.length ∧ i = .int .i64 n ∧ x = .int .u64 X ∧ f = .bool fb ∧ Hid (NumS l a n X fb) ∧ Hid (∀ j (hj : j < l.length), a ≤ j → j < a + n → digB (l[j]'hj) = true)) (fun i _ _ _ _ => l.length - (intOf i).toNat)
  case atStart => exact ⟨rfl, 0, 0, true, by omega, rfl, rfl, rfl, Lib.hid (.inl ⟨rfl, rfl, by decide⟩), Lib.hid (fun j hj h1 h2 => by omega)⟩
  case round =>
    obtain ⟨rfl, n, X, fb, hn, rfl, rfl, rfl, HS, HJ⟩ := hrel
    by_cases hlt : a + n < l.length
    · have hck := HH.out.at (a + n) hlt
      have ck := rdig_any (l[a + n]'hlt)
      have hc256 := (l[a + n]'hlt).toNat_lt
      cases hdi : digB (l[a + n]'hlt)
      · have hR := Lib.hid (fun h1 => HN.out n h1 hn (fun j hj q1 q2 => HJ.out j hj (by omega) q2) (.inr ⟨hlt, hdi⟩))
        have hn1 : 1 ≤ n := by
          rcases Nat.eq_zero_or_pos n with h | h
          · subst h
            rw [show l[a + 0]'hlt = l[a]'ha from rfl, hd] at hdi
            cases hdi
          · exact h
        have HX := Lib.hid (HOK.out fb n hn1 (hR.out hn1) ⟨X, HS.out⟩)
        rw [hdi] at ck
        have hca := HH.out.at a ha
        clear hdi
        cases fb
        · go_wp2_with (go_at_call 42; refine (ck _).mono ?_; rintro e w' ⟨rfl, rfl⟩)
          go_quiet (fail)
          go_wp2_with fail
          go_ret2
          exact ⟨ret_numb (hR.out hn1) (by rw [HX.out]; simp ), drewN_below _ _⟩
        · by_cases h1 : n = 1
          · subst h1
            go_wp2_with (go_at_call 42; refine (ck _).mono ?_; rintro e w' ⟨rfl, rfl⟩)
            go_quiet (fail)
            go_wp2_with fail
            go_ret2
            exact ⟨ret_numb (hR.out hn1) (by rw [HX.out]; simp), drewN_below _ _⟩
          · have h1' : ((n : Int) == 1) = false := by simp; omega
            by_cases h2 : (l[a]'ha).toNat = 48
            · have h2' : (((l[a]'ha).toNat : Int) != 48) = false := by simp; omega
              go_wp2_with (go_at_call 42; refine (ck _).mono ?_; rintro e w' ⟨rfl, rfl⟩)
              go_quiet (fail)
              go_wp2_with fail
              go_ret2
              exact ⟨ret_numb (hR.out hn1) (by rw [HX.out]; simp [h1, h2]), drewN_below _ _⟩
            · have h2' : (((l[a]'ha).toNat : Int) != 48) = true := by simp; omega
              go_wp2_with (go_at_call 42; refine (ck _).mono ?_; rintro e w' ⟨rfl, rfl⟩)
              go_quiet (fail)
              go_wp2_with fail
              go_ret2
              exact ⟨ret_numb (hR.out hn1) (by rw [HX.out]; simp [h1, h2]), drewN_below _ _⟩
      · have hdg : 48 ≤ (l[a + n]'hlt).toNat ∧ (l[a + n]'hlt).toNat ≤ 57 := by simpa [digB] using hdi
        have hsn : decV 0 ((l.drop a).take (n + 1)) = decV 0 ((l.drop a).take n) * 10 + ((l[a + n]'hlt).toNat - 48) := by rw [take_snoc l a n hlt, decV_snoc]
        rw [hdi] at ck
        have HJ2 : Hid (∀ j (hj : j < l.length), a ≤ j → j < a + (n + 1) → digB (l[j]'hj) = true) := Lib.hid (fun j hj h1 h2 => by
          by_cases h : j < a + n
          · exact HJ.out j hj h1 h
          · obtain rfl : j = a + n := by omega
            exact hdi)
        have hS := HS.out
        have hT := HT.out
        obtain ⟨c, hc⟩ : ∃ c, (l[a + n]'hlt).toNat = c := ⟨_, rfl⟩
        rw [hc] at hck ck hc256 hdg hsn
        obtain ⟨V, hV⟩ : ∃ V, decV 0 ((l.drop a).take n) = V := ⟨_, rfl⟩
        have HV := Lib.hid hV
        have HSN := Lib.hid hsn
        unfold NumS at hS
        rw [hV] at hsn hS
        have hX0 : (0 : Int) ≤ (X : Int) := by omega
        clear hV hsn hdi HJ hc HS
        by_cases g1 : T < (X : Int)
        · have HF : Hid (NumS l a (n + 1) X false) := Lib.hid (by
            unfold NumS
            right
            refine ⟨rfl, ?_, ?_⟩
            · rw [HSN.out, HV.out]
              rcases hS with ⟨_, h1, _⟩ | ⟨_, h1, _⟩ <;> omega
            · rcases hS with ⟨_, _, h2⟩ | ⟨_, _, h2⟩ <;> exact h2)
          clear hS hT HSN HV
          go_wp2_with (go_at_call 42; refine (ck _).mono ?_; rintro e w' ⟨rfl, rfl⟩)
          go_roundw
          case rel => exact ⟨trivial, n + 1, X, false, by omega, by go_num, rfl, rfl, HF, HJ2⟩
          case measure => simp [intOf]; omega
        · by_cases g2 : (X : Int) = T
          · by_cases g3 : 55 < c
            · have HF : Hid (NumS l a (n + 1) X false) := Lib.hid (by
                unfold NumS
                right
                refine ⟨rfl, ?_, ?_⟩
                · rw [HSN.out, HV.out]
                  rcases hS with ⟨_, h1, _⟩ | ⟨_, h1, _⟩ <;> omega
                · rcases hS with ⟨_, _, h2⟩ | ⟨_, _, h2⟩ <;> exact h2)
              have g1' : decide (T < (X : Int)) = false := by simpa using g1
              have g2' : ((X : Int) == T) = true := by simpa using g2
              have g3' : decide ((7 : Int) < (c : Int) - 48) = true := by simp; omega
              clear hS hT HSN HV g1 g2
              go_wp2_with (go_at_call 42; refine (ck _).mono ?_; rintro e w' ⟨rfl, rfl⟩)
              go_roundw
              case rel => exact ⟨trivial, n + 1, X, false, by omega, by go_num, rfl, rfl, HF, HJ2⟩
              case measure => simp [intOf]; omega
            · cases fb
              · have HF : Hid (NumS l a (n + 1) X false) := Lib.hid (by
                  unfold NumS
                  right
                  refine ⟨rfl, ?_, ?_⟩
                  · rw [HSN.out, HV.out]
                    rcases hS with ⟨h0, h1, _⟩ | ⟨_, h1, _⟩
                    · cases h0
                    · omega
                  · rcases hS with ⟨_, _, h2⟩ | ⟨_, _, h2⟩ <;> exact h2)
                have g1' : decide (T < (X : Int)) = false := by simpa using g1
                have g2' : ((X : Int) == T) = true := by simpa using g2
                have g3' : decide ((7 : Int) < (c : Int) - 48) = false := by simp; omega
                clear hS hT HSN HV g1 g2
                go_wp2_with (go_at_call 42; refine (ck _).mono ?_; rintro e w' ⟨rfl, rfl⟩)
                go_roundw
                case rel => exact ⟨trivial, n + 1, X, false, by omega, by go_num, rfl, rfl, HF, HJ2⟩
                case measure => simp [intOf]; omega
              · have HF : Hid (NumS l a (n + 1) (X * 10 + (c - 48)) true) := Lib.hid (by
                  unfold NumS
                  left
                  rw [HSN.out, HV.out]
                  rcases hS with ⟨h0, h1, _⟩ | ⟨h0, _⟩
                  · refine ⟨rfl, by omega, by omega⟩
                  · cases h0)
                have HW : Hid (IntKind.u64.wrap ((X : Int) * 10) = (X : Int) * 10) := Lib.hid (by
                  unfold IntKind.wrap; simp only [IntKind.bits, IntKind.signed]
                  have : (2:Int) ^ 64 = 18446744073709551616 := by decide
                  simp [this]; omega)
                have HW2 : Hid (IntKind.u64.wrap ((X : Int) * 10 + ((c : Int) - 48)) = ((X * 10 + (c - 48) : Nat) : Int)) := Lib.hid (by
                  unfold IntKind.wrap; simp only [IntKind.bits, IntKind.signed]
                  have : (2:Int) ^ 64 = 18446744073709551616 := by decide
                  simp [this]; omega)
                have g1' : decide (T < (X : Int)) = false := by simpa using g1
                have g2' : ((X : Int) == T) = true := by simpa using g2
                have g3' : decide ((7 : Int) < (c : Int) - 48) = false := by simp; omega
                clear hS hT HSN HV g1 g2
                go_wp2_with (go_at_call 42; refine (ck _).mono ?_; rintro e w' ⟨rfl, rfl⟩)
                go_roundw
                case rel => exact ⟨trivial, n + 1, X * 10 + (c - 48), true, by omega, by go_num, by rw [HW.out, HW2.out], rfl, HF, HJ2⟩
                case measure => simp [intOf]; omega
          · cases fb
            · have HF : Hid (NumS l a (n + 1) X false) := Lib.hid (by
                unfold NumS
                right
                refine ⟨rfl, ?_, ?_⟩
                · rw [HSN.out, HV.out]
                  rcases hS with ⟨h0, h1, _⟩ | ⟨_, h1, _⟩
                  · cases h0
                  · omega
                · rcases hS with ⟨_, _, h2⟩ | ⟨_, _, h2⟩ <;> exact h2)
              have g1' : decide (T < (X : Int)) = false := by simpa using g1
              have g2' : ((X : Int) == T) = false := by simpa using g2
              clear hS hT HSN HV g1 g2
              go_wp2_with (go_at_call 42; refine (ck _).mono ?_; rintro e w' ⟨rfl, rfl⟩)
              go_roundw
              case rel => exact ⟨trivial, n + 1, X, false, by omega, by go_num, rfl, rfl, HF, HJ2⟩
              case measure => simp [intOf]; omega
            · have HF : Hid (NumS l a (n + 1) (X * 10 + (c - 48)) true) := Lib.hid (by
                unfold NumS
                left
                rw [HSN.out, HV.out]
                rcases hS with ⟨h0, h1, _⟩ | ⟨h0, _⟩
                · refine ⟨rfl, by omega, by omega⟩
                · cases h0)
              have HW : Hid (IntKind.u64.wrap ((X : Int) * 10) = (X : Int) * 10) := Lib.hid (by
                unfold IntKind.wrap; simp only [IntKind.bits, IntKind.signed]
                have : (2:Int) ^ 64 = 18446744073709551616 := by decide
                simp [this]; omega)
              have HW2 : Hid (IntKind.u64.wrap ((X : Int) * 10 + ((c : Int) - 48)) = ((X * 10 + (c - 48) : Nat) : Int)) := Lib.hid (by
                unfold IntKind.wrap; simp only [IntKind.bits, IntKind.signed]
                have : (2:Int) ^ 64 = 18446744073709551616 := by decide
                simp [this]; omega)
              have g1' : decide (T < (X : Int)) = false := by simpa using g1
              have g2' : ((X : Int) == T) = false := by simpa using g2
              clear hS hT HSN HV g1 g2
              go_wp2_with (go_at_call 42; refine (ck _).mono ?_; rintro e w' ⟨rfl, rfl⟩)
              go_roundw
              case rel => exact ⟨trivial, n + 1, X * 10 + (c - 48), true, by omega, by go_num, by rw [HW.out, HW2.out], rfl, HF, HJ2⟩
              case measure => simp [intOf]; omega
    · have hn1 : 1 ≤ n := by omega
      have hR := Lib.hid (HN.out n hn1 hn (fun j hj q1 q2 => HJ.out j hj (by omega) q2) (.inl (by omega)))
      have HX := Lib.hid (HOK.out fb n hn1 hR.out ⟨X, HS.out⟩)
      have hca := HH.out.at a ha
      cases fb
      · go_wp2_with fail
        go_quiet (fail)
        go_wp2_with fail
        go_ret2
        exact ⟨ret_numb hR.out (by rw [HX.out]; simp ), drewN_below _ _⟩
      · by_cases h1 : n = 1
        · subst h1
          go_wp2_with fail
          go_quiet (fail)
          go_wp2_with fail
          go_ret2
          exact ⟨ret_numb hR.out (by rw [HX.out]; simp), drewN_below _ _⟩
        · have h1' : ((n : Int) == 1) = false := by simp; omega
          by_cases h2 : (l[a]'ha).toNat = 48
          · have h2' : (((l[a]'ha).toNat : Int) != 48) = false := by simp; omega
            go_wp2_with fail
            go_quiet (fail)
            go_wp2_with fail
            go_ret2
            exact ⟨ret_numb hR.out (by rw [HX.out]; simp [h1, h2]), drewN_below _ _⟩
          · have h2' : (((l[a]'ha).toNat : Int) != 48) = true := by simp; omega
            go_wp2_with fail
            go_quiet (fail)
            go_wp2_with fail
            go_ret2
            exact ⟨ret_numb hR.out (by rw [HX.out]; simp [h1, h2]), drewN_below _ _⟩
end Go.Proofs.YtocepddgegnfaaaDoor
