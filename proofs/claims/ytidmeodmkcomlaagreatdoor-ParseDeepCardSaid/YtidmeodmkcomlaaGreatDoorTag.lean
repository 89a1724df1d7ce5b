/- The document's answer for tags and names, at every string of at most 1000 bytes. -/
import Derived.Test.YtidmeodmkcomlaaGreatDoorRefW
namespace Go.Proofs.YtidmeodmkcomlaaGreatDoor
open Go Go.Proofs Go.RowKit

/-- A name, or a word. -/
def nmB (l : List UInt8) : Bool := decide (l ≠ []) && decide (nameN l = l.length)
theorem isName_nm (l : List UInt8) : isName l = (nmB l && !isW l) := rfl
def tagAt (i : Nat) (c : UInt8) : Bool := lowB c || (decide (0 < i) && digB c)

theorem takeWhile_len {p : UInt8 → Bool} : ∀ (l : List UInt8), (l.takeWhile p).length = l.length ↔ ∀ x ∈ l, p x = true
  | [] => by simp
  | c :: r => by
    rw [List.takeWhile_cons]
    split
    · rename_i h
      simp only [List.length_cons, Nat.add_right_cancel_iff, List.mem_cons, forall_eq_or_imp, h, true_and]
      exact takeWhile_len r
    · rename_i h
      simp only [List.length_nil, List.length_cons, List.mem_cons, forall_eq_or_imp, h, false_and, iff_false, Bool.false_eq_true]
      omega

theorem nmB_iff (l : List UInt8) : nmB l = true ↔ l ≠ [] ∧ ∀ j (h : j < l.length), tagAt j l[j] = true := by
  cases l with
  | nil => simp [nmB]
  | cons c r =>
    have hN : nameN (c :: r) = (c :: r).length ↔ lowB c = true ∧ ∀ x ∈ r, wordB' x = true := by
      show (if lowB c then (r.takeWhile wordB').length + 1 else 0) = r.length + 1 ↔ _
      split
      · rename_i h
        rw [Nat.add_right_cancel_iff, takeWhile_len]
        simp [h]
      · rename_i h
        simp [h]
    simp only [nmB, ne_eq, reduceCtorEq, not_false_eq_true, decide_true, Bool.true_and, decide_eq_true_eq, true_and]
    rw [hN]
    constructor
    · rintro ⟨h1, h2⟩ j hj
      cases j with
      | zero => simp [tagAt, h1]
      | succ j =>
        have := h2 (r[j]'(by simpa using hj)) (List.getElem_mem _)
        simp only [wordB'] at this
        simpa [tagAt] using this
    · intro h
      refine ⟨by have := h 0 (by simp); simpa [tagAt] using this, fun x hx => ?_⟩
      obtain ⟨j, hj, rfl⟩ := List.getElem_of_mem hx
      have := h (j + 1) (by simpa using hj)
      simpa [tagAt, wordB'] using this

set_option maxHeartbeats 2000000 in
theorem rtag_any (s : ByteArray) (hs : s.size ≤ 1000) (w : World) : Calls Tryz.prog 62 #[.string s] w fun e w' => e = .returned (.bool (nmB (tl s))) ∧ w = w' := by
  have hlen := tl_length s
  have hE := empty_eq s
  have hI := nmB_iff (tl s)
  have hE2 : (s.toList != []) = decide (0 < s.size) := by
    by_cases hz : s.size = 0
    · have hE1 : (s.toList == []) = true := by rw [hE]; simpa using hz
      simp [bne, hE1, hz]
    · have hE1 : (s.toList == []) = false := by rw [hE]; simpa using hz
      simp [bne, hE1]
      omega
  obtain ⟨R, hR⟩ : ∃ R, nmB (tl s) = R := ⟨_, rfl⟩
  rw [hR] at hI ⊢
  clear hR hE
  have HI := Lib.hid hI
  have HL := Lib.hid hlen
  have HE2 := Lib.hid hE2
  clear hI hlen hE2
  go_enter Tryz.func62, Tryz.ntmps62
  go_wp2
  go_loop [3] (fun i => ∃ k : Nat, k ≤ s.size ∧ i = .int .i64 k ∧ Hid (∀ j (h : j < s.size), j < k → tagAt j s[j] = true)) (fun i => s.size - (intOf i).toNat)
  case atStart => exact ⟨0, Nat.zero_le _, rfl, Lib.hid fun j _ h => absurd h (by omega)⟩
  case round =>
    obtain ⟨k, hk, rfl, HA⟩ := hrel
    by_cases hlt : k < s.size
    · have hc := s[k].toNat_lt
      have hstep : tagAt k s[k] = true → ∀ j (h : j < s.size), j < k + 1 → tagAt j s[j] = true := fun hA j hj hjk => by
        by_cases e : j = k
        · subst e; exact hA
        · exact HA.out j hj (by omega)
      have hbad : tagAt k s[k] = false → R = false := fun hA => by
        cases R
        · rfl
        · have := (HI.out.1 rfl).2 k (by rw [HL.out]; exact hlt)
          have h2 : (tl s)[k]'(by rw [HL.out]; exact hlt) = s[k] := rfl
          rw [h2, hA] at this
          cases this
      obtain ⟨c, hcs⟩ : ∃ c, s[k] = c := ⟨_, rfl⟩
      rw [hcs] at hc hstep hbad
      have HC := Lib.hid hcs
      have HS := Lib.hid hstep
      have HB := Lib.hid hbad
      clear hstep hbad
      by_cases h1 : 97 ≤ c.toNat ∧ c.toNat ≤ 122
      · obtain ⟨h1, h2⟩ := h1
        have h3 : Hid (tagAt k c = true) := Lib.hid (by simp [tagAt, lowB]; omega)
        go_wp2
        all_goals
          go_round
          case rel => exact ⟨k + 1, by omega, by go_num, Lib.hid (HS.out h3.out)⟩
          case measure => simp [intOf]; omega
      · by_cases h2 : c.toNat = 95
        · have h3 : Hid (tagAt k c = true) := Lib.hid (by simp [tagAt, lowB]; omega)
          have h4 : ((c.toNat : Int) == 95) = true := by simp; omega
          have h5 : decide ((97 : Int) ≤ c.toNat) = false := by simp; omega
          clear h1
          have h6 : c.toNat ≤ 95 := by omega
          clear h2
          go_wp2
          all_goals
            go_round
            case rel => exact ⟨k + 1, by omega, by go_num, Lib.hid (HS.out h3.out)⟩
            case measure => simp [intOf]; omega
        · have h4 : ((c.toNat : Int) == 95) = false := by simp; omega
          by_cases h7 : k = 0
          · subst h7
            have h3 : Hid (tagAt 0 c = false) := Lib.hid (by simp [tagAt, lowB]; omega)
            by_cases h8 : 97 ≤ c.toNat
            · have h9 : decide ((c.toNat : Int) ≤ 122) = false := by simp; omega
              clear h1 h2
              go_wp2
              all_goals
                go_ret
                exact ⟨ret_bool (HB.out h3.out).symm, rfl⟩
            · clear h1 h2
              go_wp2
              all_goals
                go_ret
                exact ⟨ret_bool (HB.out h3.out).symm, rfl⟩
          · have h10 : ((k : Int) == 0) = false := by simp; omega
            have h11 : 0 < k := by omega
            clear h7
            by_cases h12 : 48 ≤ c.toNat ∧ c.toNat ≤ 57
            · obtain ⟨h12, h13⟩ := h12
              have h3 : Hid (tagAt k c = true) := Lib.hid (by simp [tagAt, lowB, digB]; omega)
              clear h1 h2
              go_wp2
              all_goals
                go_round
                case rel => exact ⟨k + 1, by omega, by go_num, Lib.hid (HS.out h3.out)⟩
                case measure => simp [intOf]; omega
            · have h3 : Hid (tagAt k c = false) := Lib.hid (by simp [tagAt, lowB, digB]; omega)
              by_cases h8 : 97 ≤ c.toNat
              · have h9 : decide ((c.toNat : Int) ≤ 122) = false := by simp; omega
                clear h1 h2 h12
                go_wp2
                all_goals
                  go_ret
                  exact ⟨ret_bool (HB.out h3.out).symm, rfl⟩
              · by_cases h13 : c.toNat < 48
                · clear h1 h2 h12
                  go_wp2
                  all_goals
                    go_ret
                    exact ⟨ret_bool (HB.out h3.out).symm, rfl⟩
                · have h14 : 57 < c.toNat := by omega
                  clear h1 h2 h12
                  go_wp2
                  all_goals
                    go_ret
                    exact ⟨ret_bool (HB.out h3.out).symm, rfl⟩
    · obtain rfl : k = s.size := by omega
      have hfin : decide (0 < s.size) = R := by
        cases R
        · rw [decide_eq_false_iff_not]
          intro h0
          have := HI.out.2 ⟨fun he => by have := HL.out; rw [he] at this; simp at this; omega, fun j hj => by rw [HL.out] at hj; exact HA.out j hj hj⟩
          cases this
        · rw [decide_eq_true_eq]
          have := (HI.out.1 rfl).1
          rcases Nat.eq_zero_or_pos s.size with h0 | h0
          · exact absurd (List.length_eq_zero_iff.1 (HL.out.trans h0)) this
          · exact h0
      have HF : Hid ((s.toList != []) = R) := Lib.hid (HE2.out.trans hfin)
      clear hfin
      go_wp2
      go_ret
      exact ⟨ret_bool (by have := HF.out; simpa [bne] using this), rfl⟩

theorem rname_any (s : ByteArray) (hs : s.size ≤ 1000) (w : World) : Calls Tryz.prog 59 #[.string s] w fun e w' => e = .returned (.bool (isName (tl s))) ∧ w = w' := by
  have c1 := rtag_any s hs
  have c2 := rword_any s (by omega)
  rw [isName_nm]
  cases hn : nmB (tl s) <;> cases hw : isW (tl s)
  all_goals
    rw [hn] at c1
    rw [hw] at c2
    clear hn hw
    go_enter Tryz.func59, Tryz.ntmps59
    go_wp2_with (first | (go_at_call 62; refine (c1 _).mono ?_; rintro e w' ⟨rfl, rfl⟩) | (go_at_call 87; refine (c2 _).mono ?_; rintro e w' ⟨rfl, rfl⟩))
    go_ret
    exact ⟨rfl, rfl⟩
end Go.Proofs.YtidmeodmkcomlaaGreatDoor
