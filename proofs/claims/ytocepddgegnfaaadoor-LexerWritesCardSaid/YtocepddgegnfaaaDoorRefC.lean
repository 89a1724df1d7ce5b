/- The document's answer: which bytes are which, words, names, ints and signs, at every text. -/
import Derived.Test.YtocepddgegnfaaaDoorText
import Derived.Test.YtocepddgegnfaaaDoorEnc
import Derived.Deep.QuietTactic
import Derived.BigQuiet
namespace Go.Proofs.YtocepddgegnfaaaDoor
open Go Go.Proofs Go.RowKit

theorem rlow_any (c : UInt8) (w : World) : Calls Tryd.prog 39 #[.int .u8 (c.toNat : Int)] w fun e w' => e = .returned (.bool (lowB c)) ∧ w = w' := by
  have h := c.toNat_lt
  by_cases h1 : 97 ≤ c.toNat
  · by_cases h2 : c.toNat ≤ 122
    all_goals
      go_enter Tryd.func39, Tryd.ntmps39
      go_wp2
      go_ret
      exact ⟨ret_bool (by rw [Bool.eq_iff_iff]; simp [lowB]; omega), rfl⟩
  · go_enter Tryd.func39, Tryd.ntmps39
    go_wp2
    go_ret
    exact ⟨ret_bool (by rw [Bool.eq_iff_iff]; simp [lowB]; omega), rfl⟩
theorem rdig_any (c : UInt8) (w : World) : Calls Tryd.prog 42 #[.int .u8 (c.toNat : Int)] w fun e w' => e = .returned (.bool (digB c)) ∧ w = w' := by
  have h := c.toNat_lt
  by_cases h1 : 48 ≤ c.toNat
  all_goals
    go_enter Tryd.func42, Tryd.ntmps42
    go_wp2
    go_ret
    exact ⟨ret_bool (by rw [Bool.eq_iff_iff]; simp [digB]; omega), rfl⟩
theorem rhigh_any (c : UInt8) (w : World) : Calls Tryd.prog 41 #[.int .u8 (c.toNat : Int)] w fun e w' => e = .returned (.bool (highB c)) ∧ w = w' := by
  have h := c.toNat_lt
  by_cases h1 : 65 ≤ c.toNat
  all_goals
    go_enter Tryd.func41, Tryd.ntmps41
    go_wp2
    go_ret
    exact ⟨ret_bool (by rw [Bool.eq_iff_iff]; simp [highB]; omega), rfl⟩
theorem rhex_any (c : UInt8) (w : World) : Calls Tryd.prog 38 #[.int .u8 (c.toNat : Int)] w fun e w' => e = .returned (.bool (hexB c)) ∧ w = w' := by
  have h := c.toNat_lt
  have cD := rdig_any c
  cases hd : digB c
  · rw [hd] at cD
    by_cases h1 : 97 ≤ c.toNat
    all_goals
      go_enter Tryd.func38, Tryd.ntmps38
      go_wp2_with (go_at_call 42; refine (cD _).mono ?_; rintro e w' ⟨rfl, rfl⟩)
      go_ret
      exact ⟨ret_bool (by unfold hexB; rw [hd, Bool.eq_iff_iff]; simp; omega), rfl⟩
  · rw [hd] at cD
    go_enter Tryd.func38, Tryd.ntmps38
    go_wp2_with (go_at_call 42; refine (cD _).mono ?_; rintro e w' ⟨rfl, rfl⟩)
    go_ret
    exact ⟨ret_bool (by unfold hexB; rw [hd]; rfl), rfl⟩

/-- A byte of a text, in the memory. -/
theorem Holds.at {W : World} {b off : Nat} {l : List UInt8} (h : Holds W b off l) (j : Nat) (hj : j < l.length) : W.cell? ⟨b, off + j, none⟩ = some (.int .u8 ((l[j]'hj).toNat : Int)) := by
  rw [h j hj]; simp [List.getD_eq_getElem?_getD, List.getElem?_eq_getElem hj]

theorem drop_at (l : List UInt8) (k : Nat) (h : k < l.length) : l.drop k = l[k] :: l.drop (k + 1) := List.drop_eq_getElem_cons h
theorem spanL_at (p q : UInt8 → Bool) (l : List UInt8) (a : Nat) (ha : a < l.length) (hp : p (l[a]'ha) = true) (n : Nat) (h1 : 1 ≤ n) (h2 : a + n ≤ l.length)
    (hj : ∀ j (hj : j < l.length), a + 1 ≤ j → j < a + n → q (l[j]'hj) = true) (he : a + n = l.length ∨ ∃ hk : a + n < l.length, q (l[a + n]'hk) = false) : spanN p q (l.drop a) = n := by
  rw [drop_at l a ha, spanN_cons _ _ _ _ hp]
  have hl : (l.drop (a + 1)).length = l.length - (a + 1) := List.length_drop
  rw [tw_stop q (l.drop (a + 1)) (n - 1) (by omega)]
  · omega
  · intro j hj'
    rw [List.getElem_drop]
    exact hj _ _ (by omega) (by omega)
  · rcases he with he | ⟨hk, he⟩
    · left; omega
    · right
      refine ⟨by omega, ?_⟩
      rw [List.getElem_drop]
      simpa [show a + 1 + (n - 1) = a + n by omega] using he

set_option maxHeartbeats 2000000 in
theorem rname_any (b off cap : Nat) (l : List UInt8) (hlen : l.length ≤ 1048576) (a : Nat) (ha : a ≤ l.length) (w : World) (hh : Holds w b off l) :
    Calls Tryd.prog 40 #[.slice (some ⟨b, off, none⟩) l.length cap, .int .i64 a] w fun e w' => e = .returned (.int .i64 (nameN (l.drop a) : Nat)) ∧ w = w' := by
  by_cases hal : a < l.length
  · have hnle : ¬ l.length ≤ a := by omega
    have hc0 := hh.at a hal
    have c0 := rlow_any (l[a]'hal)
    cases hp : lowB (l[a]'hal)
    · have hN : nameN (l.drop a) = 0 := by rw [drop_at l a hal]; exact spanN_zero _ _ _ _ hp
      rw [hN]
      rw [hp] at c0
      clear hN hp hh
      go_enter Tryd.func40, Tryd.ntmps40
      go_wp2_with (go_at_call 39; refine (c0 _).mono ?_; rintro e w' ⟨rfl, rfl⟩)
      go_ret
      exact ⟨rfl, rfl⟩
    · rw [hp] at c0
      have HN := Lib.hid (spanL_at lowB wordB' l a hal hp)
      have HH := Lib.hid hh
      obtain ⟨R, hR⟩ : ∃ R, nameN (l.drop a) = R := ⟨_, rfl⟩
      have hR' : spanN lowB wordB' (l.drop a) = R := hR
      rw [hR'] at HN
      rw [hR]
      clear hR hR' hp hh
      go_enter Tryd.func40, Tryd.ntmps40
      go_wp2_with (go_at_call 39; refine (c0 _).mono ?_; rintro e w' ⟨rfl, rfl⟩)
      clear c0
      go_loopw [5] (fun i wr => wr = w ∧ ∃ n : Nat, 1 ≤ n ∧ a + n ≤ l.length ∧ i = .int .i64 n ∧ Hid (∀ j (hj : j < l.length), a + 1 ≤ j → j < a + n → wordB' (l[j]'hj) = true)) (fun i _ => l.length - (intOf i).toNat)
      case atStart => exact ⟨rfl, 1, Nat.le_refl _, hal, rfl, Lib.hid (fun j hj h1 h2 => by omega)⟩
      case round =>
        obtain ⟨rfl, n, hn1, hn2, rfl, HJ⟩ := hrel
        by_cases hlt : a + n < l.length
        · have hck := HH.out.at (a + n) hlt
          have ck := rlow_any (l[a + n]'hlt)
          have dk := rdig_any (l[a + n]'hlt)
          have hsplit : wordB' (l[a + n]'hlt) = (lowB (l[a + n]'hlt) || digB (l[a + n]'hlt)) := rfl
          cases hlo : lowB (l[a + n]'hlt)
          · cases hdi : digB (l[a + n]'hlt)
            · have hR := Lib.hid (HN.out n hn1 hn2 HJ.out (.inr ⟨hlt, by rw [hsplit, hlo, hdi]; rfl⟩))
              rw [hlo] at ck
              rw [hdi] at dk
              clear hlo hdi hsplit
              go_wp2_with (first | (go_at_call 39; refine (ck _).mono ?_; rintro e w' ⟨rfl, rfl⟩) | (go_at_call 42; refine (dk _).mono ?_; rintro e w' ⟨rfl, rfl⟩))
              go_ret
              exact ⟨ret_nat hR.out.symm, rfl⟩
            · have HJ2 : Hid (∀ j (hj : j < l.length), a + 1 ≤ j → j < a + (n + 1) → wordB' (l[j]'hj) = true) := Lib.hid (fun j hj h1 h2 => by
                by_cases h : j < a + n
                · exact HJ.out j hj h1 h
                · obtain rfl : j = a + n := by omega
                  rw [hsplit, hlo, hdi]; rfl)
              rw [hlo] at ck
              rw [hdi] at dk
              clear hlo hdi hsplit
              go_wp2_with (first | (go_at_call 39; refine (ck _).mono ?_; rintro e w' ⟨rfl, rfl⟩) | (go_at_call 42; refine (dk _).mono ?_; rintro e w' ⟨rfl, rfl⟩))
              go_roundw
              case rel => exact ⟨trivial, n + 1, by omega, by omega, by go_num, HJ2⟩
              case measure => simp [intOf]; omega
          · have HJ2 : Hid (∀ j (hj : j < l.length), a + 1 ≤ j → j < a + (n + 1) → wordB' (l[j]'hj) = true) := Lib.hid (fun j hj h1 h2 => by
              by_cases h : j < a + n
              · exact HJ.out j hj h1 h
              · obtain rfl : j = a + n := by omega
                rw [hsplit, hlo]; rfl)
            rw [hlo] at ck
            clear hlo hsplit
            go_wp2_with (first | (go_at_call 39; refine (ck _).mono ?_; rintro e w' ⟨rfl, rfl⟩) | (go_at_call 42; refine (dk _).mono ?_; rintro e w' ⟨rfl, rfl⟩))
            go_roundw
            case rel => exact ⟨trivial, n + 1, by omega, by omega, by go_num, HJ2⟩
            case measure => simp [intOf]; omega
        · have hR := Lib.hid (HN.out n hn1 hn2 HJ.out (.inl (by omega)))
          go_wp2
          go_ret
          exact ⟨ret_nat hR.out.symm, rfl⟩
  · obtain rfl : a = l.length := by omega
    have hN : nameN (l.drop l.length) = 0 := by rw [List.drop_eq_nil_of_le (Nat.le_refl _)]; rfl
    rw [hN]
    go_enter Tryd.func40, Tryd.ntmps40
    go_wp2
    go_ret
    exact ⟨rfl, rfl⟩
end Go.Proofs.YtocepddgegnfaaaDoor
