/- Which texts are words and names; how many bytes a string's token, an int's, and blanks have: at every string. The lexer's functions that the document's share. -/
import Derived.Test.YtjbdgjbmbohfmaaGreatDoorK04
import Derived.Test.YtjbdgjbmbohfmaaGreatDoorK05
import Derived.Laws.Strings2
namespace Go.Proofs.YtjbdgjbmbohfmaaGreatDoor
open Go Go.Proofs Go.RowKit
theorem mk_tl (s : ByteArray) : s = ⟨(tl s).toArray⟩ := by simp [tl]

set_option maxHeartbeats 4000000 in
theorem isWord_any (s : ByteArray) (w : World) : Calls Tryz.prog 203 #[.string s] w fun e w' => e = .returned (.bool (isW (tl s))) ∧ w = w' := by
 by_cases hm : tl s ∈ words
 ·have h1 : isW (tl s) = true := by simpa [isW] using hm
  rw [h1]
  clear h1
  have h0 := mk_tl s
  simp only [words, List.mem_cons, List.not_mem_nil, or_false] at hm
  rcases hm with hm | hm | hm | hm | hm | hm | hm | hm | hm | hm | hm | hm | hm | hm | hm | hm | hm | hm | hm | hm
  all_goals
   rw [hm] at h0
   subst h0
   clear hm
   go_enter Tryz.func203, Tryz.ntmps203
   go_wp2_with fail
   go_ret
   exact ⟨rfl, rfl⟩
 ·have h1 : isW (tl s) = false := by simpa [isW] using hm
  rw [h1]
  clear h1
  simp only [words, List.mem_cons, List.not_mem_nil, or_false, not_or] at hm
  obtain ⟨m1, m2, m3, m4, m5, m6, m7, m8, m9, m10, m11, m12, m13, m14, m15, m16, m17, m18, m19, m20⟩ := hm
  have n1 := toL_ne m1
  have n2 := toL_ne m2
  have n3 := toL_ne m3
  have n4 := toL_ne m4
  have n5 := toL_ne m5
  have n6 := toL_ne m6
  have n7 := toL_ne m7
  have n8 := toL_ne m8
  have n9 := toL_ne m9
  have n10 := toL_ne m10
  have n11 := toL_ne m11
  have n12 := toL_ne m12
  have n13 := toL_ne m13
  have n14 := toL_ne m14
  have n15 := toL_ne m15
  have n16 := toL_ne m16
  have n17 := toL_ne m17
  have n18 := toL_ne m18
  have n19 := toL_ne m19
  have n20 := toL_ne m20
  clear m1 m2 m3 m4 m5 m6 m7 m8 m9 m10 m11 m12 m13 m14 m15 m16 m17 m18 m19 m20
  go_enter Tryz.func203, Tryz.ntmps203
  go_wp2_with fail
  go_ret
  exact ⟨rfl, rfl⟩

/-- The bytes are a name's. -/
def isName (l : List UInt8) : Bool := decide (l ≠ []) && decide (nameN l = l.length) && !isW l
theorem isName_any (s : ByteArray) (hs : s.size ≤ 9223372036854775807) (w : World) : Calls Tryz.prog 246 #[.string s] w fun e w' => e = .returned (.bool (isName (tl s))) ∧ Below w.heap.size w w' := by
 have c1 := name_any s hs
 have c2 := isWord_any s
 unfold isName
 have hlen := tl_length s
 by_cases h0 : s.size = 0
 ·have he : tl s = [] := List.length_eq_zero_iff.1 (by omega)
  have hS : (s.toList == []) = true := by rw [empty_eq]; simpa using h0
  rw [he]
  clear c1 c2 he
  go_enter Tryz.func246, Tryz.ntmps246
  go_wp2_with fail
  go_ret
  exact ⟨rfl, Below.refl _ _⟩
 ·have he : ¬ tl s = [] := fun h => h0 (by rw [h] at hlen; simpa using hlen.symm)
  have hS : (s.toList == []) = false := by rw [empty_eq]; simpa using h0
  have hl := spanN_le lowB wordB' (tl s)
  rw [hlen]
  rw [hlen] at hl
  have hd : decide (tl s ≠ []) = true := by simpa using he
  rw [hd, Bool.true_and]
  obtain ⟨n, hn⟩ : ∃ n, nameN (tl s) = n := ⟨_, rfl⟩
  rw [hn] at c1 ⊢
  obtain ⟨b, hb⟩ : ∃ b, isW (tl s) = b := ⟨_, rfl⟩
  rw [hb] at c2 ⊢
  clear hd he hb
  by_cases hz : n = s.size
  ·subst hz
   clear hl hn
   go_enter Tryz.func246, Tryz.ntmps246
   go_wp2_with (first | (go_at_call 202; refine (c1 _).mono ?_; rintro e w' ⟨rfl, hb⟩) | (go_at_call 203; refine (c2 _).mono ?_; rintro e w' ⟨rfl, rfl⟩))
   go_ret
   exact ⟨ret_bool (by simp), hb⟩
  ·clear hl hn
   go_enter Tryz.func246, Tryz.ntmps246
   go_wp2_with (first | (go_at_call 202; refine (c1 _).mono ?_; rintro e w' ⟨rfl, hb⟩) | (go_at_call 203; refine (c2 _).mono ?_; rintro e w' ⟨rfl, rfl⟩))
   go_ret
   exact ⟨ret_bool (by simp [hz]), hb⟩

/-- How many bytes a string's token has that begins at the place k; 0: none is right. -/
def strZ (l : List UInt8) (k : Nat) : Nat := match strV l with | none => 0 | some x => k + x.2
theorem strZ_nil (k : Nat) : strZ [] k = 0 := by unfold strZ; rw [strV_nil]
theorem strZ_end (r : List UInt8) (c : UInt8) (k : Nat) (h : c.toNat = 34) : strZ (c :: r) k = k + 1 := by
 unfold strZ; rw [strV_cons, if_pos h]
theorem strZ_low (r : List UInt8) (c : UInt8) (k : Nat) (h : c.toNat < 32) : strZ (c :: r) k = 0 := by
 unfold strZ; rw [strV_cons, if_neg (by omega), if_pos h]
theorem strZ_plain (r : List UInt8) (c : UInt8) (k : Nat) (h : ¬ c.toNat = 34) (h2 : 32 ≤ c.toNat) (h3 : ¬ c.toNat = 92) : strZ (c :: r) k = strZ r (k + 1) := by
 unfold strZ; rw [strV_cons, if_neg h, if_neg (by omega), if_neg h3]
 cases strV r with
 | none => rfl
 | some x => simp; omega
theorem strZ_last (c : UInt8) (k : Nat) (h : c.toNat = 92) : strZ [c] k = 0 := by
 unfold strZ; rw [strV_cons, if_neg (by omega), if_neg (by omega), if_pos h]
theorem strZ_esc (r : List UInt8) (c d : UInt8) (k : Nat) (h : c.toNat = 92) : strZ (c :: d :: r) k = if d ∈ ([92, 34, 110] : List UInt8) then strZ r (k + 2) else 0 := by
 have hd : ∀ x : UInt8, d = x ↔ d.toNat = x.toNat := fun x => UInt8.toNat_inj.symm
 have hm : d ∈ ([92, 34, 110] : List UInt8) ↔ d.toNat = 92 ∨ d.toNat = 34 ∨ d.toNat = 110 := by
  simp only [List.mem_cons, List.not_mem_nil, or_false, hd]; rfl
 have he : (escB d).isSome = decide (d ∈ ([92, 34, 110] : List UInt8)) := by
  rw [Bool.eq_iff_iff, decide_eq_true_iff, hm]
  unfold escB
  split
  ·simp; omega
  ·split
   ·simp; omega
   ·split
    ·simp; omega
    ·simp; omega
 unfold strZ; rw [strV_cons, if_neg (by omega), if_neg (by omega), if_pos h]
 dsimp only
 cases hx : escB d with
 | none =>
  rw [hx] at he
  have : ¬ d ∈ ([92, 34, 110] : List UInt8) := by simpa using he
  rw [if_neg this]
 | some e =>
  rw [hx] at he
  have : d ∈ ([92, 34, 110] : List UInt8) := by simpa using he
  rw [if_pos this]
  dsimp only
  cases strV r with
  | none => rfl
  | some x => simp; omega

set_option maxHeartbeats 2000000 in
theorem str_any (s : ByteArray) (hs : s.size ≤ 9223372036854775807) (h1 : 1 ≤ s.size) (w : World) :
 Calls Tryz.prog 198 #[.string s] w fun e w' => e = .returned (.int .i64 (strZ ((tl s).drop 1) 1 : Nat)) ∧ w = w' := by
 obtain ⟨R, hR⟩ : ∃ R, strZ ((tl s).drop 1) 1 = R := ⟨_, rfl⟩
 rw [hR]
 go_enter Tryz.func198, Tryz.ntmps198
 go_wp2_with fail
 go_loop [3, 4] (fun i _ => ∃ k : Nat, 1 ≤ k ∧ k ≤ s.size ∧ i = .int .i64 k ∧ Hid (strZ ((tl s).drop k) k = R)) (fun i _ => s.size - (intOf i).toNat)
 case atStart => exact ⟨1, Nat.le_refl _, h1, rfl, Lib.hid hR⟩
 case round =>
  obtain ⟨k, hk1, hk2, rfl, HR⟩ := hrel
  by_cases hlt : k < s.size
  ·have hd := tl_drop s k hlt
   have hc := (s[k]'hlt).toNat_lt
   have hr := HR.out
   rw [hd] at hr
   by_cases c1 : (s[k]'hlt).toNat = 34
   ·rw [strZ_end _ _ _ c1] at hr
    have HX := Lib.hid hr
    clear hr hd
    go_wp2_with fail
    go_ret
    exact ⟨ret_int (by have := HX.out; omega), rfl⟩
   ·by_cases c2 : (s[k]'hlt).toNat < 32
    ·rw [strZ_low _ _ _ c2] at hr
     have HX := Lib.hid hr
     clear hr hd
     go_wp2_with fail
     go_ret
     exact ⟨ret_int (by have := HX.out; omega), rfl⟩
    ·by_cases c3 : (s[k]'hlt).toNat = 92
     ·by_cases hl2 : k + 1 < s.size
      ·have hd2 := tl_drop s (k + 1) hl2
       rw [hd2, strZ_esc _ _ _ _ c3] at hr
       have ci := index_any ⟨#[92, 34, 110]⟩ (s[k + 1]'hl2)
       have hn := idx_neg [92, 34, 110] (s[k + 1]'hl2)
       have hk : tl ⟨#[92, 34, 110]⟩ = [92, 34, 110] := rfl
       rw [hk] at ci
       obtain ⟨i, hi⟩ : ∃ i, Lib.indexByte [92, 34, 110] (s[k + 1]'hl2) = i := ⟨_, rfl⟩
       rw [hi] at ci hn
       clear hi hk hd hd2
       have HRR := Lib.hid hr
       clear hr
       by_cases hneg : i < 0
       ·have hx := HRR.out
        rw [if_neg (hn.1 hneg)] at hx
        have HX := Lib.hid hx
        clear hx hn
        go_wp2_with (go_at_call 194; refine (ci _).mono ?_; rintro e w' ⟨rfl, rfl⟩)
        go_ret
        exact ⟨ret_int (by have := HX.out; omega), rfl⟩
       ·have hx := HRR.out
        rw [if_pos (Classical.byContradiction fun h => hneg (hn.2 h))] at hx
        have HX := Lib.hid hx
        clear hx hn
        have hne : ((k : Int) + 1 == (s.size : Int)) = false := by simp; omega
        have hi0 : decide (i < 0) = false := by simpa using hneg
        go_wp2_with (go_at_call 194; refine (ci _).mono ?_; rintro e w' ⟨rfl, rfl⟩)
        go_round
        case rel => exact ⟨k + 2, by omega, by omega, by go_num, HX⟩
        case measure => simp [intOf]; omega
      ·have hnil : (tl s).drop (k + 1) = [] := List.drop_eq_nil_of_le (by rw [tl_length]; omega)
       rw [hnil, strZ_last _ _ c3] at hr
       have HX := Lib.hid hr
       clear hr hd hnil
       have hke : k + 1 = s.size := by omega
       go_wp2_with fail
       go_ret
       exact ⟨ret_int (by have := HX.out; omega), rfl⟩
     ·rw [strZ_plain _ _ _ c1 (by omega) c3] at hr
      have HX := Lib.hid hr
      clear hr hd
      go_wp2_with fail
      go_round
      case rel => exact ⟨k + 1, by omega, by omega, by go_num, HX⟩
      case measure => simp [intOf]; omega
  ·have hr := HR.out
   have hnil : (tl s).drop k = [] := List.drop_eq_nil_of_le (by rw [tl_length]; omega)
   rw [hnil, strZ_nil] at hr
   have HX := Lib.hid hr
   clear hr hnil
   go_wp2_with fail
   go_ret
   exact ⟨ret_int (by have := HX.out; omega), rfl⟩
end Go.Proofs.YtjbdgjbmbohfmaaGreatDoor
namespace Go.Proofs.YtjbdgjbmbohfmaaGreatDoor

end Go.Proofs.YtjbdgjbmbohfmaaGreatDoor
namespace Go.Proofs.YtjbdgjbmbohfmaaGreatDoor
open Go Go.Proofs Go.RowKit
/-- The words, each between blanks. -/
def WL : List UInt8 := [32, 102, 117, 110, 32, 108, 101, 116, 32, 114, 101, 99, 32, 105, 110, 32, 105, 102, 32, 116, 104, 101, 110, 32, 101, 108, 115, 101, 32, 99, 97, 115, 101, 32, 111, 102, 32, 101, 110, 100, 32, 116, 114, 117].append [101, 32, 102, 97, 108, 115, 101, 32, 105, 110, 116, 32, 98, 111, 111, 108, 32, 115, 116, 114, 32, 102, 108, 111, 97, 116, 32, 100, 121, 110, 32, 97, 110, 121, 32, 110, 111, 110, 101, 32, 116, 121, 112, 101, 32]
theorem WL_len : WL.length = 89 := by decide
theorem words_in : ∀ x ∈ words, ∃ i ∈ List.range 88, i + x.length + 2 ≤ 89 ∧ (WL.drop i).take (x.length + 2) = 32 :: (x ++ [32]) := by decide +kernel
theorem words_small : ∀ x ∈ words, x.all smallB = true := by decide
theorem words_out : ∀ i ∈ List.range 89, WL.getD i 0 = 32 → (WL.drop (i + 1)).takeWhile (fun c => decide (c ≠ 32)) ∈ words ∨ (WL.drop (i + 1)).takeWhile (fun c => decide (c ≠ 32)) = [] := by decide +kernel
theorem word_of (l : List UInt8) (h0 : l ≠ []) (hs : l.all smallB = true) (i : Nat) (hi : i + l.length + 2 ≤ 89) (h : (WL.drop i).take (l.length + 2) = 32 :: (l ++ [32])) : l ∈ words := by
 have hg : WL.getD i 0 = 32 := by
  have := congrArg (fun x => x.getD 0 0) h
  simpa [List.getD_eq_getElem?_getD] using this
 have hd : WL.drop i = 32 :: (l ++ [32]) ++ (WL.drop i).drop (l.length + 2) := by rw [← h, List.take_append_drop]
 have hd1 : WL.drop (i + 1) = l ++ 32 :: (WL.drop i).drop (l.length + 2) := by
  have : WL.drop (i + 1) = (WL.drop i).drop 1 := by rw [List.drop_drop]
  rw [this]
  conv => lhs; rw [hd]
  simp
 have ht : (WL.drop (i + 1)).takeWhile (fun c => decide (c ≠ 32)) = l := by
  rw [hd1]
  refine takeWhile_stop _ _ _ _ (fun y hy => ?_) (by decide)
  have := List.all_eq_true.1 hs y hy
  simp [smallB] at this
  simp
  rintro rfl
  simp at this
 rcases words_out i (List.mem_range.2 (by omega)) hg with h | h
 ·rwa [ht] at h
 ·rw [ht] at h; exact absurd h h0

theorem tl_append (a b : ByteArray) : tl (a ++ b) = tl a ++ tl b := by
 unfold tl
 rw [ByteArray.data_append, Array.toList_append]

set_option maxRecDepth 100000 in
set_option maxHeartbeats 4000000 in
theorem rword_any (s : ByteArray) (hs : s.size ≤ 1048576) (w : World) : Calls Tryz.prog 86 #[.string s] w fun e w' => e = .returned (.bool (isW (tl s))) ∧ w = w' := by
 have hlen := tl_length s
 by_cases h0 : s.size = 0
 ·have he : tl s = [] := List.length_eq_zero_iff.1 (by omega)
  have hS : (s.toList == []) = true := by rw [empty_eq]; simpa using h0
  have hN : isW (tl s) = false := by rw [he]; decide
  rw [hN]
  clear hN he
  go_enter Tryz.func86, Tryz.ntmps86
  go_wp2_with fail
  go_ret
  exact ⟨rfl, rfl⟩
 ·have hne : tl s ≠ [] := fun h => h0 (by rw [h] at hlen; simpa using hlen.symm)
  have hS : (s.toList == []) = false := by rw [empty_eq]; simpa using h0
  obtain ⟨WS, hWS⟩ : ∃ WS : ByteArray, ⟨([32, 102, 117, 110, 32, 108, 101, 116, 32, 114, 101, 99, 32, 105, 110, 32, 105, 102, 32, 116, 104, 101, 110, 32, 101, 108, 115, 101, 32, 99, 97, 115, 101, 32, 111, 102, 32, 101, 110, 100, 32, 116, 114, 117].append [101, 32, 102, 97, 108, 115, 101, 32, 105, 110, 116, 32, 98, 111, 111, 108, 32, 115, 116, 114, 32, 102, 108, 111, 97, 116, 32, 100, 121, 110, 32, 97, 110, 121, 32, 110, 111, 110, 101, 32, 116, 121, 112, 101, 32]).toArray⟩ = WS := ⟨_, rfl⟩
  have hwt : tl WS = WL := by rw [← hWS]; simp [tl, WL]
  have hwz : WS.size = 89 := by rw [← tl_length, hwt]; exact WL_len
  have HNE := Lib.hid hne
  obtain ⟨R, hR⟩ : ∃ R, isW (tl s) = R := ⟨_, rfl⟩
  rw [hR]
  have HR := Lib.hid hR
  clear hR hne
  go_enter Tryz.func86, Tryz.ntmps86
  rw [hWS]
  have HWT := Lib.hid hwt
  clear hWS hwt
  go_wp2_with fail
  go_loop [3] (fun i => ∃ k : Nat, k ≤ s.size ∧ i = .int .i64 k ∧ Hid (∀ j (hj : j < s.size), j < k → smallB (s[j]'hj) = true)) (fun i => s.size - (intOf i).toNat)
  case atStart => exact ⟨0, Nat.zero_le _, rfl, Lib.hid (fun j hj h => by omega)⟩
  case round =>
   obtain ⟨k, hk, rfl, HJ⟩ := hrel
   by_cases hlt : k < s.size
   ·have hc := (s[k]'hlt).toNat_lt
    have hbad : ∀ (_ : smallB (s[k]'hlt) = false), R = false := fun h => by
     rw [← HR.out]
     unfold isW
     rw [decide_eq_false_iff_not]
     intro hm
     have := List.all_eq_true.1 (words_small _ hm) (s[k]'hlt) (List.mem_of_mem_drop (by rw [tl_drop s k hlt]; exact List.mem_cons_self ..))
     rw [h] at this
     cases this
    by_cases c1 : 97 ≤ (s[k]'hlt).toNat
    ·by_cases c2 : (s[k]'hlt).toNat ≤ 122
     ·have HJ2 : Hid (∀ j (hj : j < s.size), j < k + 1 → smallB (s[j]'hj) = true) := Lib.hid (fun j hj h => by
       by_cases h' : j < k
       ·exact HJ.out j hj h'
       ·obtain rfl : j = k := by omega
        simp [smallB]; omega)
      clear hbad
      go_wp2_with fail
      go_round
      case rel => exact ⟨k + 1, by omega, by go_num, HJ2⟩
      case measure => simp [intOf]; omega
     ·have HB := Lib.hid (hbad (by simp [smallB]; omega))
      clear hbad
      go_wp2_with fail
      go_ret
      exact ⟨ret_bool HB.out.symm, rfl⟩
    ·have HB := Lib.hid (hbad (by simp [smallB]; omega))
     clear hbad
     go_wp2_with fail
     go_ret
     exact ⟨ret_bool HB.out.symm, rfl⟩
   ·have hall : (tl s).all smallB = true := by
     rw [List.all_eq_true]
     intro x hx
     obtain ⟨j, hj, rfl⟩ := List.getElem_of_mem hx
     rw [hlen] at hj
     exact HJ.out j hj (by omega)
    have HALL := Lib.hid hall
    clear hall HJ
    go_wp2_with fail
    go_loop [4] (fun i => ∃ k : Nat, k ≤ 89 ∧ i = .int .i64 k ∧ Hid (∀ j, j < k → j + (tl s).length + 2 ≤ 89 → (WL.drop j).take ((tl s).length + 2) ≠ 32 :: (tl s ++ [32]))) (fun i => 89 - (intOf i).toNat)
    case atStart => exact ⟨0, Nat.zero_le _, rfl, Lib.hid (fun j h => by omega)⟩
    case round =>
     obtain ⟨k, hk, rfl, HJ⟩ := hrel
     by_cases hlt : k + s.size + 2 ≤ 89
     ·obtain ⟨sub, hsub⟩ : ∃ sub, WS.extract k (k + s.size + 2) = sub := ⟨_, rfl⟩
      have hst : tl sub = (WL.drop k).take ((tl s).length + 2) := by
       rw [← hsub, tl_extract, HWT.out, List.drop_take, hlen]; congr 1; omega
      have hsl : ∀ w, (Instr.slice 9 (.string WS) (some (.int .i64 (k : Int))) (some (.int .i64 ((k : Int) + (s.size : Int) + 2))) none).run Tryz.prog w = .ok (.string sub) w := fun w => by
       rw [run_slice_string w 9 WS .i64 .i64 k ((k : Int) + (s.size : Int) + 2) Tryz.underlying9 (by omega) (by omega) (by omega), ← hsub]
       congr 3
      have hcat : tl ((⟨#[32]⟩ : ByteArray) ++ s ++ ⟨#[32]⟩) = 32 :: (tl s ++ [32]) := by rw [tl_append, tl_append]; rfl
      have hcmp : (sub.toList == ((⟨#[32]⟩ : ByteArray) ++ s ++ ⟨#[32]⟩).toList) = decide ((WL.drop k).take ((tl s).length + 2) = 32 :: (tl s ++ [32])) := by
       have h1 : ((⟨#[32]⟩ : ByteArray) ++ s ++ ⟨#[32]⟩).toList = 32 :: (tl s ++ [32]) := by rw [ByteArray.toList_eq]; exact hcat
       rw [h1, toL, hst]
      clear hst hsub hcat
      by_cases hw : (WL.drop k).take ((tl s).length + 2) = 32 :: (tl s ++ [32])
      ·have hm : R = true := by
        rw [← HR.out]
        have := word_of (tl s) HNE.out HALL.out k (by omega) hw
        simpa [isW] using this
       have HM := Lib.hid hm
       rw [decide_eq_true hw] at hcmp
       clear hw hm
       go_wp2_with fail
       go_ret
       exact ⟨ret_bool HM.out.symm, rfl⟩
      ·rw [decide_eq_false hw] at hcmp
       have HJ2 : Hid (∀ j, j < k + 1 → j + (tl s).length + 2 ≤ 89 → (WL.drop j).take ((tl s).length + 2) ≠ 32 :: (tl s ++ [32])) := Lib.hid (fun j h1 h2 => by
        by_cases h : j < k
        ·exact HJ.out j h h2
        ·obtain rfl : j = k := by omega
         exact hw)
       clear hw
       go_wp2_with fail
       go_round
       case rel => exact ⟨k + 1, by omega, by go_num, HJ2⟩
       case measure => simp [intOf]; omega
     ·have hm : R = false := by
       rw [← HR.out]
       unfold isW
       rw [decide_eq_false_iff_not]
       intro hmem
       obtain ⟨i, _, hi, hw⟩ := words_in _ hmem
       exact HJ.out i (by omega) hi hw
      have HM := Lib.hid hm
      clear hm
      go_wp2_with fail
      go_ret
      exact ⟨ret_bool HM.out.symm, rfl⟩
end Go.Proofs.YtjbdgjbmbohfmaaGreatDoor
