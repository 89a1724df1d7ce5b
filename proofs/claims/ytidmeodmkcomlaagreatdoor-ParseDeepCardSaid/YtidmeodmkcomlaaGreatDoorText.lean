/- Which texts are words and names; how many bytes a string's token, an int's, and blanks have: at every string. -/
import Derived.Test.YtidmeodmkcomlaaGreatDoorSmall
import Derived.Test.YtidmeodmkcomlaaGreatDoorIterB
namespace Go.Proofs.YtidmeodmkcomlaaGreatDoor
open Go Go.Proofs Go.RowKit

theorem mk_tl (s : ByteArray) : s = ⟨(tl s).toArray⟩ := by simp [tl]

set_option maxHeartbeats 4000000 in
theorem isWord_any (s : ByteArray) (w : World) : Calls Tryz.prog 107 #[.string s] w fun e w' => e = .returned (.bool (isW (tl s))) ∧ w = w' := by
  by_cases hm : tl s ∈ words
  · have h1 : isW (tl s) = true := by simpa [isW] using hm
    rw [h1]
    clear h1
    have h0 := mk_tl s
    simp only [words, List.mem_cons, List.not_mem_nil, or_false] at hm
    rcases hm with hm | hm | hm | hm | hm | hm | hm | hm | hm | hm | hm | hm | hm | hm | hm | hm | hm | hm | hm | hm
    all_goals
      rw [hm] at h0
      subst h0
      clear hm
      go_enter Tryz.func107, Tryz.ntmps107
      go_wp2_with fail
      go_ret
      exact ⟨rfl, rfl⟩
  · have h1 : isW (tl s) = false := by simpa [isW] using hm
    rw [h1]
    clear h1
    simp only [words, List.mem_cons, List.not_mem_nil, or_false, not_or] at hm
    obtain ⟨m1, m2, m3, m4, m5, m6, m7, m8, m9, m10, m11, m12, m13, m14, m15, m16, m17, m18, m19, m20⟩ := hm
    have n1 := toL_ne m1
    have n2 := toL_ne m2
    have n3 := toL_ne m3
    have n4 := toL_ne m4
    have n5 := toL_ne m5
    have n6 := toL_ne m6
    have n7 := toL_ne m7
    have n8 := toL_ne m8
    have n9 := toL_ne m9
    have n10 := toL_ne m10
    have n11 := toL_ne m11
    have n12 := toL_ne m12
    have n13 := toL_ne m13
    have n14 := toL_ne m14
    have n15 := toL_ne m15
    have n16 := toL_ne m16
    have n17 := toL_ne m17
    have n18 := toL_ne m18
    have n19 := toL_ne m19
    have n20 := toL_ne m20
    clear m1 m2 m3 m4 m5 m6 m7 m8 m9 m10 m11 m12 m13 m14 m15 m16 m17 m18 m19 m20
    go_enter Tryz.func107, Tryz.ntmps107
    go_wp2_with fail
    go_ret
    exact ⟨rfl, rfl⟩

/-- The bytes are a name's. -/
def isName (l : List UInt8) : Bool := decide (l ≠ []) && decide (nameN l = l.length) && !isW l
/-- How many bytes a string's token has that begins at the place k; 0: none is right. -/
def strZ (l : List UInt8) (k : Nat) : Nat := match strV l with | none => 0 | some x => k + x.2
theorem strZ_nil (k : Nat) : strZ [] k = 0 := by unfold strZ; rw [strV_nil]
theorem strZ_end (r : List UInt8) (c : UInt8) (k : Nat) (h : c.toNat = 34) : strZ (c :: r) k = k + 1 := by
  unfold strZ; rw [strV_cons, if_pos h]
theorem strZ_low (r : List UInt8) (c : UInt8) (k : Nat) (h : c.toNat < 32) : strZ (c :: r) k = 0 := by
  unfold strZ; rw [strV_cons, if_neg (by omega), if_pos h]
theorem strZ_plain (r : List UInt8) (c : UInt8) (k : Nat) (h : ¬ c.toNat = 34) (h2 : 32 ≤ c.toNat) (h3 : ¬ c.toNat = 92) : strZ (c :: r) k = strZ r (k + 1) := by
  unfold strZ; rw [strV_cons, if_neg h, if_neg (by omega), if_neg h3]
  cases strV r with
  | none => rfl
  | some x => simp; omega
theorem strZ_last (c : UInt8) (k : Nat) (h : c.toNat = 92) : strZ [c] k = 0 := by
  unfold strZ; rw [strV_cons, if_neg (by omega), if_neg (by omega), if_pos h]
theorem strZ_esc (r : List UInt8) (c d : UInt8) (k : Nat) (h : c.toNat = 92) : strZ (c :: d :: r) k = if d ∈ ([92, 34, 110] : List UInt8) then strZ r (k + 2) else 0 := by
  have hd : ∀ x : UInt8, d = x ↔ d.toNat = x.toNat := fun x => UInt8.toNat_inj.symm
  have hm : d ∈ ([92, 34, 110] : List UInt8) ↔ d.toNat = 92 ∨ d.toNat = 34 ∨ d.toNat = 110 := by
    simp only [List.mem_cons, List.not_mem_nil, or_false, hd]; rfl
  have he : (escB d).isSome = decide (d ∈ ([92, 34, 110] : List UInt8)) := by
    rw [Bool.eq_iff_iff, decide_eq_true_iff, hm]
    unfold escB
    split
    · simp; omega
    · split
      · simp; omega
      · split
        · simp; omega
        · simp; omega
  unfold strZ; rw [strV_cons, if_neg (by omega), if_neg (by omega), if_pos h]
  dsimp only
  cases hx : escB d with
  | none =>
    rw [hx] at he
    have : ¬ d ∈ ([92, 34, 110] : List UInt8) := by simpa using he
    rw [if_neg this]
  | some e =>
    rw [hx] at he
    have : d ∈ ([92, 34, 110] : List UInt8) := by simpa using he
    rw [if_pos this]
    dsimp only
    cases strV r with
    | none => rfl
    | some x => simp; omega

set_option maxHeartbeats 2000000 in
theorem str_any (s : ByteArray) (hs : s.size ≤ 9223372036854775807) (h1 : 1 ≤ s.size) (w : World) :
    Calls Tryz.prog 102 #[.string s] w fun e w' => e = .returned (.int .i64 (strZ ((tl s).drop 1) 1 : Nat)) ∧ w = w' := by
  obtain ⟨R, hR⟩ : ∃ R, strZ ((tl s).drop 1) 1 = R := ⟨_, rfl⟩
  rw [hR]
  go_enter Tryz.func102, Tryz.ntmps102
  go_wp2_with fail
  go_loop [3, 4] (fun i _ => ∃ k : Nat, 1 ≤ k ∧ k ≤ s.size ∧ i = .int .i64 k ∧ Hid (strZ ((tl s).drop k) k = R)) (fun i _ => s.size - (intOf i).toNat)
  case atStart => exact ⟨1, Nat.le_refl _, h1, rfl, Lib.hid hR⟩
  case round =>
    obtain ⟨k, hk1, hk2, rfl, HR⟩ := hrel
    by_cases hlt : k < s.size
    · have hd := tl_drop s k hlt
      have hc := (s[k]'hlt).toNat_lt
      have hr := HR.out
      rw [hd] at hr
      by_cases c1 : (s[k]'hlt).toNat = 34
      · rw [strZ_end _ _ _ c1] at hr
        have HX := Lib.hid hr
        clear hr hd
        go_wp2_with fail
        go_ret
        exact ⟨ret_int (by have := HX.out; omega), rfl⟩
      · by_cases c2 : (s[k]'hlt).toNat < 32
        · rw [strZ_low _ _ _ c2] at hr
          have HX := Lib.hid hr
          clear hr hd
          go_wp2_with fail
          go_ret
          exact ⟨ret_int (by have := HX.out; omega), rfl⟩
        · by_cases c3 : (s[k]'hlt).toNat = 92
          · by_cases hl2 : k + 1 < s.size
            · have hd2 := tl_drop s (k + 1) hl2
              rw [hd2, strZ_esc _ _ _ _ c3] at hr
              have ci := index_any ⟨#[92, 34, 110]⟩ (s[k + 1]'hl2)
              have hn := idx_neg [92, 34, 110] (s[k + 1]'hl2)
              have hk : tl ⟨#[92, 34, 110]⟩ = [92, 34, 110] := rfl
              rw [hk] at ci
              obtain ⟨i, hi⟩ : ∃ i, Lib.indexByte [92, 34, 110] (s[k + 1]'hl2) = i := ⟨_, rfl⟩
              rw [hi] at ci hn
              clear hi hk hd hd2
              have HRR := Lib.hid hr
              clear hr
              by_cases hneg : i < 0
              · have hx := HRR.out
                rw [if_neg (hn.1 hneg)] at hx
                have HX := Lib.hid hx
                clear hx hn
                go_wp2_with (go_at_call 98; refine (ci _).mono ?_; rintro e w' ⟨rfl, rfl⟩)
                go_ret
                exact ⟨ret_int (by have := HX.out; omega), rfl⟩
              · have hx := HRR.out
                rw [if_pos (Classical.byContradiction fun h => hneg (hn.2 h))] at hx
                have HX := Lib.hid hx
                clear hx hn
                have hne : ((k : Int) + 1 == (s.size : Int)) = false := by simp; omega
                have hi0 : decide (i < 0) = false := by simpa using hneg
                go_wp2_with (go_at_call 98; refine (ci _).mono ?_; rintro e w' ⟨rfl, rfl⟩)
                go_round
                case rel => exact ⟨k + 2, by omega, by omega, by go_num, HX⟩
                case measure => simp [intOf]; omega
            · have hnil : (tl s).drop (k + 1) = [] := List.drop_eq_nil_of_le (by rw [tl_length]; omega)
              rw [hnil, strZ_last _ _ c3] at hr
              have HX := Lib.hid hr
              clear hr hd hnil
              have hke : k + 1 = s.size := by omega
              go_wp2_with fail
              go_ret
              exact ⟨ret_int (by have := HX.out; omega), rfl⟩
          · rw [strZ_plain _ _ _ c1 (by omega) c3] at hr
            have HX := Lib.hid hr
            clear hr hd
            go_wp2_with fail
            go_round
            case rel => exact ⟨k + 1, by omega, by omega, by go_num, HX⟩
            case measure => simp [intOf]; omega
    · have hr := HR.out
      have hnil : (tl s).drop k = [] := List.drop_eq_nil_of_le (by rw [tl_length]; omega)
      rw [hnil, strZ_nil] at hr
      have HX := Lib.hid hr
      clear hr hnil
      go_wp2_with fail
      go_ret
      exact ⟨ret_int (by have := HX.out; omega), rfl⟩
end Go.Proofs.YtidmeodmkcomlaaGreatDoor
