/- Texts of floats: what is written is read again; the law on texts at every word and string. -/
import Derived.Test.YtllgkkbdpabhjaaRefText
namespace Go.Proofs.Ytllgkkbdpabhjaa
open Go Go.Proofs Go.RowKit

theorem hexd_dg : ∀ d : Nat, d < 16 → hexd (UInt8.ofNat (dgN d)) = (d : Int) := by decide +kernel

theorem hexv_low (y : Nat) : ∀ k n, hexv ((lowT y k).map fun d => UInt8.ofNat d) n = some (n * 16 ^ k + y % 16 ^ k) := by
  intro k
  induction k with
  | zero => intro n; simp [lowT, hexv, Nat.mod_one]
  | succ k ih =>
    intro n
    have hd : y / 16 ^ k % 16 < 16 := Nat.mod_lt _ (by omega)
    rw [lowT, List.map_cons, hexv, hexd_dg _ hd, if_neg (by omega), ih]
    congr 1
    rw [Int.toNat_natCast, Nat.mod_pow_succ, Nat.pow_succ, Nat.add_mul, Nat.mul_assoc, Nat.mul_comm 16 (16 ^ k)]
    rw [Nat.mul_comm (y / 16 ^ k % 16)]
    omega

theorem head_txt (l : List Nat) : headB (strN (102 :: 39 :: l)) = true := by
  unfold headB
  rw [strN_size, ByteArray.toList_eq, ByteArray.toList_eq, ByteArray.data_extract]
  simp [strN, pre2]

theorem parse_txt (y : Nat) (h : y < 18446744073709551616) : parseV (strN (txt y 16)) = some y := by
  rw [txt_low]
  unfold parseV
  rw [if_pos ⟨head_txt _, by rw [strN_size]; simp [lowT_length]⟩]
  have : (strN (102 :: 39 :: lowT y 16)).data.toList.drop 2 = (lowT y 16).map fun d => UInt8.ofNat d := by simp [strN]
  rw [this, hexv_low]
  have : y % 16 ^ 16 = y := Nat.mod_eq_of_lt h
  rw [this]; simp

theorem isN_noneB : isN noneB = true := by decide +kernel
theorem norm_norm (x : Nat) : norm (norm x) = norm x := by
  unfold norm
  cases h : isN x
  · simp [h]
  · simp [isN_noneB]

theorem txt_size (y : Nat) : (strN (txt y 16)).size = 18 := by rw [strN_size, txt_length]

/-- The text of a word, and what is read of it. -/
theorem parse_text_any (y : Nat) (h : y < 18446744073709551616) (w : World) : Calls Try.prog 25 #[.string (strN (txt y 16))] w fun e w' => e = .returned (.tuple #[.int .u64 (norm y : Nat), .int .i64 0]) ∧ w = w' := by
  have := parse_any (strN (txt y 16)) (by rw [txt_size]; omega) w
  rw [parse_txt y h] at this
  exact this

set_option maxHeartbeats 1000000 in
theorem texts_long (x : Nat) (s : ByteArray) (h : 60 < s.size) (hs : s.size ≤ 9223372036854775807) (w : World) : Calls Try.prog 6 #[.int .u64 (x : Int), .string s] w fun e w' => e = .returned (.bool true) ∧ Below w.heap.size w w' := by
  go_enter Try.func6, Try.ntmps6
  go_wp2_with fail
  refine (lives_any _).mono ?_
  rintro e w1 ⟨rfl, hb1⟩
  go_wp2_with fail
  refine (lives_any _).mono ?_
  rintro e w2 ⟨rfl, hb2⟩
  go_wp2_with fail
  go_ret
  exact ⟨rfl, hb1.trans (hb2.mono hb1.size)⟩

set_option maxHeartbeats 2000000 in
theorem texts_at (x : Nat) (s : ByteArray) (hx : x < 18446744073709551616) (h60 : s.size ≤ 60) (hh : ¬ (headB s = true ∧ s.size = 18)) (w : World) : Calls Try.prog 6 #[.int .u64 (x : Int), .string s] w fun e w' => e = .returned (.bool true) ∧ Below w.heap.size w w' := by
  have hp := parse_any s (by omega)
  unfold parseV at hp
  rw [if_neg hh] at hp
  unfold ParsePost at hp
  dsimp only at hp
  have c1 := text_any x hx
  have hy := norm_lt x hx
  have c2 := parse_text_any (norm x) hy
  rw [norm_norm] at c2
  have c3 := one_any x hx
  have c4 := refText_any (norm x) hy
  generalize norm x = y at *
  generalize hT : strN (txt y 16) = T at *
  have hTT : (T.toList == T.toList) = true := by simp
  have hr : ((s.size : Int) == 18) = false ∨ (((s.size : Int) == 18) = true ∧ ((s.extract 0 2).toList == pre2.toList) = false ∧ 2 ≤ s.size) := by
    by_cases h : s.size = 18
    · right
      refine ⟨by simp; omega, ?_, by omega⟩
      have h1 : ¬ headB s = true := fun e => hh ⟨e, h⟩
      unfold headB at h1
      simp only [Bool.and_eq_true, decide_eq_true_eq] at h1
      cases e : ((s.extract 0 2).toList == pre2.toList)
      · rfl
      · exact absurd ⟨by omega, e⟩ h1
    · left; simp; omega
  have hpre : pre2.toList = [102, 39] := by rw [ByteArray.toList_eq]; rfl
  rw [hpre] at hr
  clear hh hT hpre
  rcases hr with hr | ⟨hr, hr2, hr3⟩
  all_goals
    go_enter Try.func6, Try.ntmps6
    go_wp2_with fail
    refine (lives_any _).mono ?_
    rintro e w1 ⟨rfl, hb1⟩
    go_wp2_with fail
    refine (c1 _).mono ?_
    rintro e w2 ⟨rfl, hb2⟩
    go_wp2_with fail
    refine (c2 _).mono ?_
    rintro e w3 ⟨rfl, rfl⟩
    go_wp2_with fail
    refine (c3 _).mono ?_
    rintro e w3 ⟨rfl, rfl⟩
    go_wp2_with fail
    refine (c4 _).mono ?_
    rintro e w3 ⟨rfl, rfl⟩
    go_wp2_with fail
    refine (c3 _).mono ?_
    rintro e w3 ⟨rfl, rfl⟩
    go_wp2_with fail
    refine (hp _).mono ?_
    rintro e w3 ⟨rfl, rfl⟩
    go_wp2_with fail
    go_loop [10, 12] (fun r i => r = .bool false ∧ i = .int .i64 2) (fun _ _ => 0)
    case atStart => exact ⟨rfl, rfl⟩
    case round =>
      obtain ⟨rfl, rfl⟩ := hrel
      by_cases h2 : 2 < s.size
      all_goals
        go_wp2
        go_ret
        exact ⟨rfl, hb1.trans (hb2.mono hb1.size)⟩

theorem ret_u64 {a b : Int} (h : a = b) : Value.int .u64 a = Value.int .u64 b := by rw [h]

/-- The step of the digits, in the document's words. -/
theorem hex_cases (c : UInt8) : (48 ≤ (c.toNat : Int) ∧ (c.toNat : Int) ≤ 57 ∧ hexd c = (c.toNat : Int) - 48) ∨ (57 < (c.toNat : Int) ∧ 97 ≤ (c.toNat : Int) ∧ (c.toNat : Int) ≤ 102 ∧ hexd c = (c.toNat : Int) - 87) ∨ (((c.toNat : Int) < 48 ∨ (57 < (c.toNat : Int) ∧ (c.toNat : Int) < 97) ∨ (57 < (c.toNat : Int) ∧ 102 < (c.toNat : Int))) ∧ hexd c = -1) := by
  rw [hexd_val]
  unfold hexZ
  split
  · left; omega
  · split
    · right; left; omega
    · right; right; refine ⟨by omega, rfl⟩

set_option maxHeartbeats 4000000 in
theorem texts_some (x : Nat) (s : ByteArray) (hx : x < 18446744073709551616) (hh : headB s = true) (h18 : s.size = 18) (v : Nat) (hv : hexv (s.data.toList.drop 2) 0 = some v) (w : World) : Calls Try.prog 6 #[.int .u64 (x : Int), .string s] w fun e w' => e = .returned (.bool true) ∧ Below w.heap.size w w' := by
  have hp := parse_any s (by omega)
  unfold parseV at hp
  rw [if_pos ⟨hh, h18⟩, hv] at hp
  unfold ParsePost at hp
  dsimp only at hp
  have c1 := text_any x hx
  have hy := norm_lt x hx
  have c2 := parse_text_any (norm x) hy
  rw [norm_norm] at c2
  have c3 := one_any x hx
  have c4 := refText_any (norm x) hy
  generalize norm x = y at *
  generalize hT : strN (txt y 16) = T at *
  have hTT : (T.toList == T.toList) = true := by simp
  have hpre : pre2.toList = [102, 39] := by rw [ByteArray.toList_eq]; rfl
  have hr2 : ((s.extract 0 2).toList == [102, 39]) = true := by
    unfold headB at hh
    rw [hpre, Bool.and_eq_true] at hh
    exact hh.2
  have hr1 : ((s.size : Int) == 18) = true := by simp; omega
  have hle : s.size ≤ 18 ∧ 18 ≤ s.size := by omega
  have HV := Lib.hid hv
  clear hh hT hpre h18 hv
  go_enter Try.func6, Try.ntmps6
  go_wp2_with fail
  refine (lives_any _).mono ?_
  rintro e w1 ⟨rfl, hb1⟩
  go_wp2_with fail
  refine (c1 _).mono ?_
  rintro e w2 ⟨rfl, hb2⟩
  go_wp2_with fail
  refine (c2 _).mono ?_
  rintro e w3 ⟨rfl, rfl⟩
  go_wp2_with fail
  refine (c3 _).mono ?_
  rintro e w3 ⟨rfl, rfl⟩
  go_wp2_with fail
  refine (c4 _).mono ?_
  rintro e w3 ⟨rfl, rfl⟩
  go_wp2_with fail
  refine (c3 _).mono ?_
  rintro e w3 ⟨rfl, rfl⟩
  go_wp2_with fail
  refine (hp _).mono ?_
  rintro e w3 ⟨rfl, rfl⟩
  go_wp2_with fail
  go_loop [10, 11, 12] (fun r b i => ∃ k n : Nat, r = .bool true ∧ 2 ≤ k ∧ k ≤ 18 ∧ i = .int .i64 k ∧ b = .int .u64 n ∧ n < 16 ^ (k - 2) ∧ Hid (hexv (s.data.toList.drop k) n = some v)) (fun _ _ i => 18 - (intOf i).toNat)
  case atStart => exact ⟨2, 0, rfl, by omega, by omega, rfl, rfl, by decide, HV⟩
  case round =>
    obtain ⟨k, n, rfl, hk2, hk, rfl, rfl, hn, hH⟩ := hrel
    by_cases hlt : k < 18
    · have hn15 : n < 1152921504606846976 := Nat.lt_of_lt_of_le hn (Nat.pow_le_pow_right (by omega) (by omega : k - 2 ≤ 15))
      have hsz : k < s.size := by omega
      have hd := drop_cons s k hsz
      have hc := hex_cases s[k]
      have hH2 := hH.out
      rw [hd, hexv] at hH2
      clear hd hH
      have hp : 16 ^ (k - 2) * 16 = 16 ^ (k + 1 - 2) := by rw [← Nat.pow_succ]; congr 1; omega
      rcases hc with ⟨g1, g2, e⟩ | ⟨g0, g1, g2, e⟩ | ⟨_, e⟩
      · rw [e, if_neg (by omega)] at hH2
        have hq : n * 16 + ((s[k].toNat : Int) - 48).toNat < 16 ^ (k + 1 - 2) := by rw [← hp]; omega
        have HQ := Lib.hid hq
        have HH := Lib.hid hH2
        clear hH2 e hp hn hq
        go_wp2
        go_round
        case rel => exact ⟨k + 1, n * 16 + ((s[k].toNat : Int) - 48).toNat, rfl, by omega, by omega, by go_num, ret_u64 (by omega), HQ.out, HH⟩
        case measure => simp [intOf]; omega
      · rw [e, if_neg (by omega)] at hH2
        have hq : n * 16 + ((s[k].toNat : Int) - 87).toNat < 16 ^ (k + 1 - 2) := by rw [← hp]; omega
        have HQ := Lib.hid hq
        have HH := Lib.hid hH2
        clear hH2 e hp hn hq
        go_wp2
        go_round
        case rel => exact ⟨k + 1, n * 16 + ((s[k].toNat : Int) - 87).toNat, rfl, by omega, by omega, by go_num, ret_u64 (by omega), HQ.out, HH⟩
        case measure => simp [intOf]; omega
      · rw [e, if_pos (by omega)] at hH2
        cases hH2
    · have hk18 : k = 18 := by omega
      subst hk18
      have h0 : s.data.toList.drop 18 = [] := by simp; exact hle.1
      have hH2 := hH.out
      rw [h0, hexv] at hH2
      obtain rfl := Option.some.inj hH2
      have c5 := one_any n (Nat.lt_of_lt_of_le hn (by decide))
      clear hH2 h0 hH hn
      go_wp2_with (go_at_call 14; refine (c5 _).mono ?_; rintro e w3 ⟨rfl, rfl⟩)
      go_ret
      exact ⟨rfl, hb1.trans (hb2.mono hb1.size)⟩

set_option maxHeartbeats 4000000 in
theorem texts_none (x : Nat) (s : ByteArray) (hx : x < 18446744073709551616) (hh : headB s = true) (h18 : s.size = 18) (hv : hexv (s.data.toList.drop 2) 0 = none) (w : World) : Calls Try.prog 6 #[.int .u64 (x : Int), .string s] w fun e w' => e = .returned (.bool true) ∧ Below w.heap.size w w' := by
  have hp := parse_any s (by omega)
  unfold parseV at hp
  rw [if_pos ⟨hh, h18⟩, hv] at hp
  unfold ParsePost at hp
  dsimp only at hp
  have c1 := text_any x hx
  have hy := norm_lt x hx
  have c2 := parse_text_any (norm x) hy
  rw [norm_norm] at c2
  have c3 := one_any x hx
  have c4 := refText_any (norm x) hy
  generalize norm x = y at *
  generalize hT : strN (txt y 16) = T at *
  have hTT : (T.toList == T.toList) = true := by simp
  have hpre : pre2.toList = [102, 39] := by rw [ByteArray.toList_eq]; rfl
  have hr2 : ((s.extract 0 2).toList == [102, 39]) = true := by
    unfold headB at hh
    rw [hpre, Bool.and_eq_true] at hh
    exact hh.2
  have hr1 : ((s.size : Int) == 18) = true := by simp; omega
  have hle : s.size ≤ 18 ∧ 18 ≤ s.size := by omega
  have HV := Lib.hid hv
  clear hh hT hpre h18 hv
  go_enter Try.func6, Try.ntmps6
  go_wp2_with fail
  refine (lives_any _).mono ?_
  rintro e w1 ⟨rfl, hb1⟩
  go_wp2_with fail
  refine (c1 _).mono ?_
  rintro e w2 ⟨rfl, hb2⟩
  go_wp2_with fail
  refine (c2 _).mono ?_
  rintro e w3 ⟨rfl, rfl⟩
  go_wp2_with fail
  refine (c3 _).mono ?_
  rintro e w3 ⟨rfl, rfl⟩
  go_wp2_with fail
  refine (c4 _).mono ?_
  rintro e w3 ⟨rfl, rfl⟩
  go_wp2_with fail
  refine (c3 _).mono ?_
  rintro e w3 ⟨rfl, rfl⟩
  go_wp2_with fail
  refine (hp _).mono ?_
  rintro e w3 ⟨rfl, rfl⟩
  go_wp2_with fail
  go_loop [10, 11, 12] (fun r b i => (∃ k n : Nat, r = .bool true ∧ 2 ≤ k ∧ k ≤ 18 ∧ i = .int .i64 k ∧ b = .int .u64 n ∧ n < 16 ^ (k - 2) ∧ Hid (hexv (s.data.toList.drop k) n = none)) ∨ ∃ k : Nat, r = .bool false ∧ k ≤ 19 ∧ i = .int .i64 k) (fun _ _ i => 19 - (intOf i).toNat)
  case atStart => exact .inl ⟨2, 0, rfl, by omega, by omega, rfl, rfl, by decide, HV⟩
  case round =>
    rcases hrel with ⟨k, n, rfl, hk2, hk, rfl, rfl, hn, hH⟩ | ⟨k, rfl, hk, rfl⟩
    · by_cases hlt : k < 18
      · have hn15 : n < 1152921504606846976 := Nat.lt_of_lt_of_le hn (Nat.pow_le_pow_right (by omega) (by omega : k - 2 ≤ 15))
        have hsz : k < s.size := by omega
        have hd := drop_cons s k hsz
        have hc := hex_cases s[k]
        have hH2 := hH.out
        rw [hd, hexv] at hH2
        clear hd hH
        have hp : 16 ^ (k - 2) * 16 = 16 ^ (k + 1 - 2) := by rw [← Nat.pow_succ]; congr 1; omega
        rcases hc with ⟨g1, g2, e⟩ | ⟨g0, g1, g2, e⟩ | ⟨g, e⟩
        · rw [e, if_neg (by omega)] at hH2
          have hq : n * 16 + ((s[k].toNat : Int) - 48).toNat < 16 ^ (k + 1 - 2) := by rw [← hp]; omega
          have HQ := Lib.hid hq
          have HH := Lib.hid hH2
          clear hH2 e hp hn hq
          go_wp2
          go_round
          case rel => exact .inl ⟨k + 1, n * 16 + ((s[k].toNat : Int) - 48).toNat, rfl, by omega, by omega, by go_num, ret_u64 (by omega), HQ.out, HH⟩
          case measure => simp [intOf]; omega
        · rw [e, if_neg (by omega)] at hH2
          have hq : n * 16 + ((s[k].toNat : Int) - 87).toNat < 16 ^ (k + 1 - 2) := by rw [← hp]; omega
          have HQ := Lib.hid hq
          have HH := Lib.hid hH2
          clear hH2 e hp hn hq
          go_wp2
          go_round
          case rel => exact .inl ⟨k + 1, n * 16 + ((s[k].toNat : Int) - 87).toNat, rfl, by omega, by omega, by go_num, ret_u64 (by omega), HQ.out, HH⟩
          case measure => simp [intOf]; omega
        · clear hH2 e hp hn
          rcases g with g | ⟨g0, g⟩ | ⟨g0, g⟩
          all_goals
            go_wp2
            go_round
            case rel => exact .inr ⟨k + 1, rfl, by omega, by go_num⟩
            case measure => simp [intOf]; omega
      · have hk18 : k = 18 := by omega
        subst hk18
        have h0 : s.data.toList.drop 18 = [] := by simp; exact hle.1
        have hH2 := hH.out
        rw [h0, hexv] at hH2
        cases hH2
    · by_cases hlt : k < s.size
      all_goals
        go_wp2
        go_ret
        exact ⟨rfl, hb1.trans (hb2.mono hb1.size)⟩

theorem texts_any (x : Nat) (s : ByteArray) (hx : x < 18446744073709551616) (hs : s.size ≤ 9223372036854775807) (w : World) : Calls Try.prog 6 #[.int .u64 (x : Int), .string s] w fun e w' => e = .returned (.bool true) ∧ Below w.heap.size w w' := by
  by_cases h60 : 60 < s.size
  · exact texts_long x s h60 hs w
  by_cases hh : headB s = true ∧ s.size = 18
  · cases hv : hexv (s.data.toList.drop 2) 0
    · exact texts_none x s hx hh.1 hh.2 hv w
    · exact texts_some x s hx hh.1 hh.2 _ hv w
  · exact texts_at x s hx (by omega) hh w
end Go.Proofs.Ytllgkkbdpabhjaa
