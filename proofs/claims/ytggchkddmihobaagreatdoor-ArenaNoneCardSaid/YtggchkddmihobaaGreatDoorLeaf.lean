/- The smallest of the lexer's functions: which bytes are digits, names' and aliases', and how many of them stand ahead; at every string. -/
import Derived.Test.YtggchkddmihobaaGreatDoorLex
import Derived.Test.YtggchkddmihobaaGreatDoorProg
import Derived.WalkKit
import Derived.WalkLawsBesides
import Derived.Outline
import Derived.Lib.Hide
import Derived.Below
import Derived.Laws.EntriesVeiled
import Derived.RangeFuncBox
namespace Go.Proofs.YtggchkddmihobaaGreatDoor
open Go Go.Proofs Go.RowKit

theorem ret_bool {a b : Bool} (h : a = b) : Ending.returned (.bool a) = .returned (.bool b) := by rw [h]

theorem ret_nat {k : IntKind} {a b : Nat} (h : a = b) : Ending.returned (.int k a) = .returned (.int k b) := by rw [h]
theorem digit_any (c : UInt8) (w : World) : Calls Tryz.prog 130 #[.int .u8 (c.toNat : Int)] w fun e w' => e = .returned (.bool (digB c)) ∧ w = w' := by
  have h := c.toNat_lt
  by_cases h1 : 48 ≤ c.toNat
  all_goals
    go_enter Tryz.func130, Tryz.ntmps130
    go_wp2
    go_ret
    exact ⟨ret_bool (by rw [Bool.eq_iff_iff]; simp [digB]; omega), rfl⟩

theorem low_any (c : UInt8) (w : World) : Calls Tryz.prog 127 #[.int .u8 (c.toNat : Int)] w fun e w' => e = .returned (.bool (lowB c)) ∧ w = w' := by
  have h := c.toNat_lt
  by_cases h1 : 97 ≤ c.toNat
  · by_cases h2 : c.toNat ≤ 122
    all_goals
      go_enter Tryz.func127, Tryz.ntmps127
      go_wp2
      go_ret
      exact ⟨ret_bool (by rw [Bool.eq_iff_iff]; simp [lowB]; omega), rfl⟩
  · go_enter Tryz.func127, Tryz.ntmps127
    go_wp2
    go_ret
    exact ⟨ret_bool (by rw [Bool.eq_iff_iff]; simp [lowB]; omega), rfl⟩

theorem word_any (c : UInt8) (g : Nat) (w : World) (hg : w.cell? ⟨g, 0, none⟩ = some (.func (.func 127) #[] #[])) : Calls Tryz.prog 129 #[.int .u8 (c.toNat : Int), .pointer (some ⟨g, 0, none⟩)] w fun e w' => e = .returned (.bool (wordB' c)) ∧ w = w' := by
  have h := c.toNat_lt
  have k := low_any c
  unfold wordB'
  cases h1 : lowB c
  all_goals
    rw [h1] at k
    go_enter Tryz.func129, Tryz.ntmps129
    go_wp2_with (first | (go_at_call 127; refine (k _).mono ?_; rintro e w' ⟨rfl, rfl⟩) | (go_at_call 130; refine (digit_any _ _).mono ?_; rintro e w' ⟨rfl, rfl⟩))
    go_ret
    exact ⟨rfl, rfl⟩

/-- The string's bytes. -/
def tl (s : ByteArray) : List UInt8 := s.data.toList
theorem tl_length (s : ByteArray) : (tl s).length = s.size := by simp [tl]
theorem tl_drop (s : ByteArray) (k : Nat) (h : k < s.size) : (tl s).drop k = s[k] :: (tl s).drop (k + 1) := by
  unfold tl
  rw [List.drop_eq_getElem_cons (by simpa using h)]; rfl

theorem takeWhile_all {α : Type} (p : α → Bool) (xs : List α) (h : ∀ y ∈ xs, p y = true) : xs.takeWhile p = xs := by
  have := List.takeWhile_append_of_pos (l₂ := []) h
  simpa using this
theorem takeWhile_stop {α : Type} (p : α → Bool) (xs : List α) (x : α) (ys : List α) (h : ∀ y ∈ xs, p y = true) (hx : p x = false) : (xs ++ x :: ys).takeWhile p = xs := by
  rw [List.takeWhile_append_of_pos h]
  simp [hx]
theorem tw_stop (q : UInt8 → Bool) (l : List UInt8) (k : Nat) (h : k ≤ l.length) (h2 : ∀ j (hj : j < k), q (l[j]'(by omega)) = true) (h3 : k = l.length ∨ ∃ hk : k < l.length, q (l[k]'hk) = false) : (l.takeWhile q).length = k := by
  have e : l.takeWhile q = l.take k := by
    rcases h3 with h3 | ⟨hk, h3⟩
    · subst h3
      rw [List.take_length]
      refine takeWhile_all _ _ fun x hx => ?_
      obtain ⟨j, hj, rfl⟩ := List.getElem_of_mem hx
      exact h2 j hj
    · have hs : l = l.take k ++ l[k] :: l.drop (k + 1) := by rw [List.getElem_cons_drop, List.take_append_drop]
      conv => lhs; rw [hs]
      refine takeWhile_stop _ _ _ _ (fun x hx => ?_) h3
      obtain ⟨j, hj, rfl⟩ := List.getElem_of_mem hx
      simp at hj
      simp only [List.getElem_take]
      exact h2 j (by omega)
  rw [e]; simp; omega

theorem empty_eq (s : ByteArray) : (s.toList == []) = decide (s.size = 0) := by
  rw [ByteArray.toList_eq, Bool.eq_iff_iff]
  have : s.size = s.data.toList.length := by simp
  rw [this, decide_eq_true_iff, List.length_eq_zero_iff]
  simp

theorem spanN_at (p q : UInt8 → Bool) (s : ByteArray) (hpos : 0 < s.size) (hp : p (s[0]'hpos) = true) (k : Nat) (hk1 : 1 ≤ k) (hk2 : k ≤ s.size) (hj : ∀ j (hj : j < s.size), 1 ≤ j → j < k → q (s[j]'hj) = true)
    (he : k = s.size ∨ ∃ hk : k < s.size, q (s[k]'hk) = false) : spanN p q (tl s) = k := by
  have hd := tl_drop s 0 hpos
  rw [List.drop_zero] at hd
  rw [hd, spanN_cons _ _ _ _ hp]
  have : ((tl s).drop 1).length = s.size - 1 := by rw [List.length_drop, tl_length]
  have g : ∀ j (hj : j < ((tl s).drop 1).length), ((tl s).drop 1)[j] = s[j + 1]'(by rw [this] at hj; omega) := fun j hj => by
    simp only [List.getElem_drop]
    unfold tl
    simp only [Array.getElem_toList, show 1 + j = j + 1 by omega]
    rfl
  rw [tw_stop q ((tl s).drop 1) (k - 1) (by omega)]
  · omega
  · intro j hj'
    rw [g]
    exact hj _ _ (by omega) (by omega)
  · rcases he with he | ⟨hk, he⟩
    · left; omega
    · right
      refine ⟨by omega, ?_⟩
      rw [g]
      simpa [show k - 1 + 1 = k by omega] using he

set_option maxHeartbeats 1000000 in
theorem span_name (s : ByteArray) (hs : s.size ≤ 9223372036854775807) (g : Nat) (w : World) (hg : w.cell? ⟨g, 0, none⟩ = some (.func (.func 127) #[] #[])) : Calls Tryz.prog 128 #[.string s, .func (.func 127) #[] #[], .func (.func 129) #[] #[.pointer (some ⟨g, 0, none⟩)]] w fun e w' => e = .returned (.int .i64 (nameN (tl s) : Nat)) ∧ w = w' := by
  by_cases h0 : s.size = 0
  · have he : tl s = [] := List.length_eq_zero_iff.1 (by rw [tl_length]; exact h0)
    have hS : (s.toList == []) = true := by rw [empty_eq]; simpa using h0
    have hN : nameN (tl s) = 0 := by rw [he]; rfl
    rw [hN]
    clear he hN
    go_enter Tryz.func128, Tryz.ntmps128
    go_wp2
    go_ret
    exact ⟨rfl, rfl⟩
  · have hS : (s.toList == []) = false := by rw [empty_eq]; simpa using h0
    have hpos : 0 < s.size := by omega
    have hd := tl_drop s 0 hpos
    rw [List.drop_zero] at hd
    have c0 := low_any (s[0]'hpos)
    cases hp : lowB (s[0]'hpos)
    · have hN : nameN (tl s) = 0 := by rw [hd]; exact spanN_zero _ _ _ _ hp
      rw [hN]
      rw [hp] at c0
      clear hd hN hp
      go_enter Tryz.func128, Tryz.ntmps128
      go_wp2_with (go_at_call 127; refine (c0 _).mono ?_; rintro e w' ⟨rfl, rfl⟩)
      go_ret
      exact ⟨rfl, rfl⟩
    · rw [hp] at c0
      have HN := Lib.hid (spanN_at lowB wordB' s hpos hp)
      clear hd hp
      obtain ⟨R, hR⟩ : ∃ R, nameN (tl s) = R := ⟨_, rfl⟩
      have hR' : spanN lowB wordB' (tl s) = R := hR
      rw [hR'] at HN
      rw [hR]
      clear hR hR'
      go_enter Tryz.func128, Tryz.ntmps128
      go_wp2_with (go_at_call 127; refine (c0 _).mono ?_; rintro e w' ⟨rfl, rfl⟩)
      go_loop [7] (fun i => ∃ k : Nat, 1 ≤ k ∧ k ≤ s.size ∧ i = .int .i64 k ∧ Hid (∀ j (hj : j < s.size), 1 ≤ j → j < k → wordB' (s[j]'hj) = true)) (fun i => s.size - (intOf i).toNat)
      case atStart => exact ⟨1, Nat.le_refl _, hpos, rfl, Lib.hid (fun j hj h1 h2 => by omega)⟩
      case round =>
        obtain ⟨k, hk1, hk2, rfl, HJ⟩ := hrel
        by_cases hlt : k < s.size
        · have ck := word_any (s[k]'hlt) g w hg
          cases hp : wordB' (s[k]'hlt)
          · have hR := Lib.hid (HN.out k hk1 hk2 HJ.out (.inr ⟨hlt, hp⟩))
            rw [hp] at ck
            clear hp
            go_wp2_with (go_at_call 129; refine ck.mono ?_; rintro e w' ⟨rfl, rfl⟩)
            go_ret
            exact ⟨ret_nat hR.out.symm, rfl⟩
          · have HJ2 : Hid (∀ j (hj : j < s.size), 1 ≤ j → j < k + 1 → wordB' (s[j]'hj) = true) := Lib.hid (fun j hj h1 h2 => by
              by_cases h : j < k
              · exact HJ.out j hj h1 h
              · obtain rfl : j = k := by omega
                exact hp)
            rw [hp] at ck
            clear hp
            go_wp2_with (go_at_call 129; refine ck.mono ?_; rintro e w' ⟨rfl, rfl⟩)
            go_round
            case rel => exact ⟨k + 1, by omega, by omega, by go_num, HJ2⟩
            case measure => simp [intOf]; omega
        · have hR := Lib.hid (HN.out k hk1 hk2 HJ.out (.inl (by omega)))
          go_wp2
          go_ret
          exact ⟨ret_nat hR.out.symm, rfl⟩

theorem name_any (s : ByteArray) (hs : s.size ≤ 9223372036854775807) (w : World) : Calls Tryz.prog 120 #[.string s] w fun e w' => e = .returned (.int .i64 (nameN (tl s) : Nat)) ∧ Below w.heap.size w w' := by
  have bS := Boxed.new w 198 (.func (.func 127) #[] #[])
  have k := span_name s hs w.heap.size _ bS.cell
  have hB : Below w.heap.size w (w.alloc (.cells #[.func (.func 127) #[] #[]] 198)) := (Below.refl _ w).alloc (Nat.le_refl _) _
  clear bS
  go_enter Tryz.func120, Tryz.ntmps120
  go_wp2_with (go_at_call 128; refine k.mono ?_; rintro e w' ⟨rfl, rfl⟩)
  go_ret
  exact ⟨rfl, hB⟩
end Go.Proofs.YtggchkddmihobaaGreatDoor
