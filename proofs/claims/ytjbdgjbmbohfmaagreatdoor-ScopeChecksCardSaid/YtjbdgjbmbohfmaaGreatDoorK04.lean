/- The lexer's functions that tell how many bytes a note, a tag, a sign, a float has; words and names: at every string. -/
import Derived.Test.YtjbdgjbmbohfmaaGreatDoorK03
namespace Go.Proofs.YtjbdgjbmbohfmaaGreatDoor
open Go Go.Proofs Go.RowKit
theorem retI {k : IntKind} {a b : Int} (h : a = b) : Ending.returned (.int k a) = .returned (.int k b) := by rw [h]
theorem has2_any (s p : ByteArray) (hp : p.size = 2) (hs : s.size ≤ 9223372036854775807) (w : World) :
 Calls Tryz.prog 195 #[.string s, .string p] w fun e w' => e = .returned (.bool (decide ((tl s).take 2 = tl p))) ∧ w = w' := by
 have c : ∀ w, Calls Tryz.prog 236 #[.string s, .string p] w fun e w' => e = .returned (.bool (decide ((tl s).take 2 = tl p))) ∧ w = w' := by
  intro w
  by_cases h2 : 2 ≤ s.size
  ·have he : (s.extract 0 2).data.toList = (tl s).take 2 := by
    rw [ByteArray.data_extract, Array.toList_extract, List.extract_eq_drop_take']; simp [tl]
   have e : ((s.extract 0 2).toList == p.toList) = decide ((tl s).take 2 = tl p) := by
    rw [ByteArray.toList_eq, ByteArray.toList_eq, he, Bool.eq_iff_iff, decide_eq_true_iff]
    simp [tl]
   rw [← e]
   clear e he
   go_enter Tryz.func236, Tryz.ntmps236
   go_wp2
   go_ret
   exact ⟨rfl, rfl⟩
  ·have e : decide ((tl s).take 2 = tl p) = false := by
    simp only [decide_eq_false_iff_not]
    intro h
    have := congrArg List.length h
    rw [List.length_take, tl_length, tl_length, hp] at this
    omega
   rw [e]
   clear e
   go_enter Tryz.func236, Tryz.ntmps236
   go_wp2
   go_ret
   exact ⟨rfl, rfl⟩
 generalize decide ((tl s).take 2 = tl p) = b at c ⊢
 go_enter Tryz.func195, Tryz.ntmps195
 go_wp2_with (go_at_call 236; refine (c _).mono ?_; rintro e w' ⟨rfl, rfl⟩)
 go_ret
 exact ⟨rfl, rfl⟩

theorem index_any (s : ByteArray) (c : UInt8) (w : World) : Calls Tryz.prog 194 #[.string s, .int .u8 (c.toNat : Int)] w fun e w' => e = .returned (.int .i64 (Lib.indexByte (tl s) c)) ∧ w = w' :=
 (Tryz.strings_IndexByte s (c.toNat : Int) w).mono fun e w' ⟨h1, h2⟩ => ⟨by rw [h1]; simp [tl], h2.symm⟩

theorem idx_tw (c : UInt8) : ∀ l : List UInt8, (Lib.indexByte l c = -1 ∧ (l.takeWhile (fun x => decide (x ≠ c))).length = l.length) ∨ Lib.indexByte l c = ((l.takeWhile (fun x => decide (x ≠ c))).length : Nat)
 | [] => .inl ⟨rfl, rfl⟩
 | b :: l => by
  unfold Lib.indexByte
  by_cases h : b = c
  ·subst h
   simp
  ·have hb : (b == c) = false := by simpa using h
   have ht : (b :: l).takeWhile (fun x => decide (x ≠ c)) = b :: l.takeWhile (fun x => decide (x ≠ c)) := by simp [h]
   rw [hb, ht]
   rcases idx_tw c l with ⟨h1, h2⟩ | h1
   ·left
    rw [h1]
    refine ⟨rfl, ?_⟩
    rw [List.length_cons, List.length_cons, h2]
   ·right
    rw [h1]
    have : (((l.takeWhile (fun x => decide (x ≠ c))).length : Int) == -1) = false := by simp
    rw [this]
    simp

theorem note_any (s : ByteArray) (_hs : s.size ≤ 9223372036854775807) (w : World) : Calls Tryz.prog 196 #[.string s] w fun e w' => e = .returned (.int .i64 (noteN (tl s) : Nat)) ∧ w = w' := by
 have k := index_any s 10
 have hf : noteN (tl s) = ((tl s).takeWhile (fun x => decide (x ≠ 10))).length := by
  unfold noteN
  congr 2
  funext x
  rw [decide_eq_decide, Ne, Ne, ← UInt8.toNat_inj]
  rfl
 have hi := idx_tw 10 (tl s)
 rw [← hf] at hi
 rw [tl_length] at hi
 clear hf
 obtain ⟨n, hn⟩ : ∃ n, noteN (tl s) = n := ⟨_, rfl⟩
 obtain ⟨i, hi'⟩ : ∃ i, Lib.indexByte (tl s) 10 = i := ⟨_, rfl⟩
 rw [hn, hi'] at hi
 rw [hi'] at k
 rw [hn]
 clear hn hi'
 have k' : ∀ w, Calls Tryz.prog 194 #[.string s, .int .u8 10] w fun e w' => e = .returned (.int .i64 i) ∧ w = w' := k
 rcases hi with ⟨rfl, rfl⟩ | rfl
 all_goals
  go_enter Tryz.func196, Tryz.ntmps196
  go_wp2_with (go_at_call 194; refine (k' _).mono ?_; rintro e w' ⟨rfl, rfl⟩)
  go_ret
  exact ⟨rfl, rfl⟩

theorem tl_extract (s : ByteArray) (a b : Nat) : tl (s.extract a b) = ((tl s).take b).drop a := by
 unfold tl
 rw [ByteArray.data_extract, Array.toList_extract, List.extract_eq_drop_take', List.drop_take]
theorem tl_from (s : ByteArray) (a : Nat) : tl (s.extract a s.size) = (tl s).drop a := by
 rw [tl_extract s a s.size, ← tl_length s, List.take_length]

theorem tag_any (s : ByteArray) (hs : s.size ≤ 9223372036854775807) (h1 : 1 ≤ s.size) (w : World) :
 Calls Tryz.prog 199 #[.string s] w fun e w' => e = .returned (.int .i64 (if nameN ((tl s).drop 1) = 0 then 0 else nameN ((tl s).drop 1) + 1 : Nat)) ∧ Below w.heap.size w w' := by
 have hz : (s.extract 1 s.size).size = s.size - 1 := by simp [ByteArray.size_extract]
 have k := name_any (s.extract 1 s.size) (by rw [hz]; omega)
 have hn := spanN_le lowB wordB' (tl (s.extract 1 s.size))
 rw [tl_length, hz] at hn
 rw [← tl_from s 1]
 obtain ⟨n, hn'⟩ : ∃ n, nameN (tl (s.extract 1 s.size)) = n := ⟨_, rfl⟩
 unfold nameN at hn'
 rw [hn'] at hn
 have hn'' : nameN (tl (s.extract 1 s.size)) = n := hn'
 rw [hn''] at k ⊢
 clear hn' hn'' hz
 by_cases h0 : n = 0
 ·subst h0
  go_enter Tryz.func199, Tryz.ntmps199
  go_wp2_with (go_at_call 202; refine (k _).mono ?_; rintro e w' ⟨rfl, hb⟩)
  go_ret
  exact ⟨rfl, hb⟩
 ·rw [if_neg h0]
  go_enter Tryz.func199, Tryz.ntmps199
  go_wp2_with (go_at_call 202; refine (k _).mono ?_; rintro e w' ⟨rfl, hb⟩)
  go_ret
  exact ⟨retI (by omega), hb⟩

theorem hexd_hexB (c : UInt8) : (0 ≤ hexd c) ↔ hexB c = true := by
 have := c.toNat_lt
 rw [hexd_val]
 unfold hexZ hexB digB
 simp
 split
 ·omega
 ·split <;> omega
theorem hexv_all : ∀ (l : List UInt8) (n : Nat), (hexv l n).isSome = l.all hexB
 | [], n => rfl
 | c :: r, n => by
  rw [hexv]
  have h := hexd_hexB c
  split
  ·have : hexB c = false := by rw [← Bool.not_eq_true, ← h]; omega
   simp [this]
  ·have : hexB c = true := h.1 (by omega)
   rw [hexv_all r]; simp [this]

theorem flt_any (s : ByteArray) (hs : s.size ≤ 9223372036854775807) (hl : leadB (tl s) = true) (w : World) :
 Calls Tryz.prog 197 #[.string s] w fun e w' => e = .returned (.int .i64 (if fltB (tl s) then 18 else 0 : Nat)) ∧ w = w' := by
 by_cases h18 : s.size < 18
 ·have : fltB (tl s) = false := by unfold fltB; rw [tl_length]; simp; omega
  rw [this]
  clear this hl
  go_enter Tryz.func197, Tryz.ntmps197
  go_wp2
  go_ret
  exact ⟨rfl, rfl⟩
 ·have hz : (s.extract 0 18).size = 18 := by simp [ByteArray.size_extract]; omega
  have k := parse_any (s.extract 0 18) (by omega)
  have he : tl (s.extract 0 18) = (tl s).take 18 := by rw [tl_extract, List.drop_zero]
  have hh : headB (s.extract 0 18) = true := by
   unfold headB
   have e2 : tl ((s.extract 0 18).extract 0 2) = (tl s).take 2 := by
    rw [tl_extract, he, List.drop_zero, List.take_take]; simp
   simp only [leadB, decide_eq_true_eq] at hl
   rw [hz, ByteArray.toList_eq, ByteArray.toList_eq]
   unfold tl at e2 hl
   rw [e2, hl]
   decide
  have hf : (parseV (s.extract 0 18)).isSome = fltB (tl s) := by
   unfold parseV
   rw [if_pos ⟨hh, hz⟩, hexv_all]
   have : (s.extract 0 18).data.toList = (tl s).take 18 := he
   rw [this, List.drop_take]
   unfold fltB
   rw [tl_length]
   have : decide (18 ≤ s.size) = true := by simp; omega
   rw [this, Bool.true_and]
  rw [← hf]
  obtain ⟨v, hv⟩ : ∃ v, parseV (s.extract 0 18) = v := ⟨_, rfl⟩
  rw [hv] at k ⊢
  obtain ⟨s', hs'⟩ : ∃ s', s.extract 0 18 = s' := ⟨_, rfl⟩
  rw [hs'] at k
  have HS := Lib.hid hs'
  clear hv hf hh he hz hl
  unfold ParsePost at k
  cases v with
  | none =>
   dsimp only at k
   go_enter Tryz.func197, Tryz.ntmps197
   go_wp2_with (go_at_call 237; refine (k _).mono ?_; rintro e w' ⟨rfl, rfl⟩)
   go_ret
   exact ⟨rfl, rfl⟩
  | some n =>
   dsimp only at k
   go_enter Tryz.func197, Tryz.ntmps197
   go_wp2_with (go_at_call 237; refine (k _).mono ?_; rintro e w' ⟨rfl, rfl⟩)
   go_ret
   exact ⟨rfl, rfl⟩

theorem idx_mem (c : UInt8) : ∀ l : List UInt8, (Lib.indexByte l c = -1 ↔ ¬ c ∈ l)
 | [] => by simp [Lib.indexByte]
 | b :: l => by
  unfold Lib.indexByte
  by_cases h : b = c
  ·subst h; simp
  ·have hb : (b == c) = false := by simpa using h
   have hg := Lib.indexByte_ge l c
   have ih := idx_mem c l
   rw [hb]
   have hc : ¬ c = b := fun e => h e.symm
   by_cases hm : Lib.indexByte l c = -1
   ·have := ih.1 hm
    rw [hm]
    simp [hc, this]
   ·have h2 : c ∈ l := Classical.byContradiction fun hn => hm (ih.2 hn)
    have h3 : (Lib.indexByte l c == -1) = false := by simpa using hm
    rw [h3]
    simp only [Bool.false_eq_true, if_false, List.mem_cons, h2, or_true, not_true, iff_false]
    omega
theorem idx_neg (l : List UInt8) (c : UInt8) : (Lib.indexByte l c < 0 ↔ ¬ c ∈ l) := by
 have hg := Lib.indexByte_ge l c
 rw [← idx_mem]
 omega

theorem toL (s : ByteArray) (l : List UInt8) : (s.toList == l) = decide (tl s = l) := by
 rw [ByteArray.toList_eq, Bool.eq_iff_iff, decide_eq_true_iff]; simp [tl]
theorem toL_ne {s : ByteArray} {l : List UInt8} (h : ¬ tl s = l) : (s.toList == l) = false := by rw [toL]; simpa using h
set_option maxHeartbeats 2000000 in
theorem sign_any (s : ByteArray) (hs : s.size ≤ 9223372036854775807) (h1 : 1 ≤ s.size) (w : World) :
 Calls Tryz.prog 205 #[.string s] w fun e w' => e = .returned (.int .i64 (signN (tl s) : Nat)) ∧ w = w' := by
 have hd : (tl s).getD 0 0 = s[0] := by
  have := tl_drop s 0 h1
  rw [List.drop_zero] at this
  rw [this]; rfl
 have k := index_any ⟨ones.toArray⟩ s[0]
 have ki := idx_neg ones s[0]
 have hk : tl ⟨ones.toArray⟩ = ones := by simp [tl]
 rw [hk] at k
 have hN : signN (tl s) = if (tl s).take 2 ∈ twos then 2 else if (0 : Int) ≤ Lib.indexByte ones s[0] then 1 else 0 := by
  unfold signN
  rw [hd]
  have : ((0 : Int) ≤ Lib.indexByte ones s[0]) ↔ s[0] ∈ ones := by
   constructor
   ·intro h; exact Classical.byContradiction fun hn => by have := ki.2 hn; omega
   ·intro h; exact Int.not_lt.1 fun hn => ki.1 hn h
  simp only [this]
 rw [hN]
 clear hN ki hd hk
 obtain ⟨i, hi⟩ : ∃ i, Lib.indexByte ones s[0] = i := ⟨_, rfl⟩
 rw [hi] at k ⊢
 clear hi
 have k' : ∀ w, Calls Tryz.prog 194 #[.string ⟨#[40, 41, 123, 125, 91, 93, 44, 59, 58, 46, 61, 124, 43, 45, 42, 47, 60, 94]⟩, .int .u8 (s[0].toNat : Int)] w fun e w' => e = .returned (.int .i64 i) ∧ w = w' := k
 clear k
 by_cases h2 : 1 < s.size
 ·have he : tl (s.extract 0 2) = (tl s).take 2 := by rw [tl_extract, List.drop_zero]
  rw [← he]
  by_cases hm : tl (s.extract 0 2) ∈ twos
  ·rw [if_pos hm]
   clear he k'
   simp only [twos, List.mem_cons, List.not_mem_nil, or_false] at hm
   obtain ⟨s', hs'⟩ : ∃ s', s.extract 0 2 = s' := ⟨_, rfl⟩
   rw [hs'] at hm
   rcases hm with hm | hm | hm | hm | hm | hm | hm | hm | hm
   all_goals
    have h0 : s' = ⟨(tl s').toArray⟩ := by simp [tl]
    rw [hm] at h0
    subst h0
    clear hm
    go_enter Tryz.func205, Tryz.ntmps205
    go_wp2_with fail
    go_ret
    exact ⟨rfl, rfl⟩
  ·rw [if_neg hm]
   simp only [twos, List.mem_cons, List.not_mem_nil, or_false, not_or] at hm
   obtain ⟨m1, m2, m3, m4, m5, m6, m7, m8, m9⟩ := hm
   have n1 := toL_ne m1
   have n2 := toL_ne m2
   have n3 := toL_ne m3
   have n4 := toL_ne m4
   have n5 := toL_ne m5
   have n6 := toL_ne m6
   have n7 := toL_ne m7
   have n8 := toL_ne m8
   have n9 := toL_ne m9
   clear m1 m2 m3 m4 m5 m6 m7 m8 m9 he
   by_cases hi : 0 ≤ i
   ·rw [if_pos hi]
    go_enter Tryz.func205, Tryz.ntmps205
    go_wp2_with (go_at_call 194; refine (k' _).mono ?_; rintro e w' ⟨rfl, rfl⟩)
    go_ret
    exact ⟨rfl, rfl⟩
   ·rw [if_neg hi]
    go_enter Tryz.func205, Tryz.ntmps205
    go_wp2_with (go_at_call 194; refine (k' _).mono ?_; rintro e w' ⟨rfl, rfl⟩)
    go_ret
    exact ⟨rfl, rfl⟩
 ·have hm : ¬ (tl s).take 2 ∈ twos := by
   intro hm
   simp only [twos, List.mem_cons, List.not_mem_nil, or_false] at hm
   have hl : ((tl s).take 2).length ≤ 1 := by rw [List.length_take, tl_length]; omega
   rcases hm with hm | hm | hm | hm | hm | hm | hm | hm | hm <;> (rw [hm] at hl; simp at hl)
  rw [if_neg hm]
  clear hm
  by_cases hi : 0 ≤ i
  ·rw [if_pos hi]
   go_enter Tryz.func205, Tryz.ntmps205
   go_wp2_with (go_at_call 194; refine (k' _).mono ?_; rintro e w' ⟨rfl, rfl⟩)
   go_ret
   exact ⟨rfl, rfl⟩
  ·rw [if_neg hi]
   go_enter Tryz.func205, Tryz.ntmps205
   go_wp2_with (go_at_call 194; refine (k' _).mono ?_; rintro e w' ⟨rfl, rfl⟩)
   go_ret
   exact ⟨rfl, rfl⟩
end Go.Proofs.YtjbdgjbmbohfmaaGreatDoor
