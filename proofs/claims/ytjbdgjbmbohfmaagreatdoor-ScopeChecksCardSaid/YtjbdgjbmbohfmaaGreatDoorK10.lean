/- Where something else than blanks stands, and which token: the program's own functions, at every string of at most 2^20 bytes. A token's text of the bytes that -/
import Derived.Test.YtjbdgjbmbohfmaaGreatDoorK09
namespace Go.Proofs.YtjbdgjbmbohfmaaGreatDoor
open Go Go.Proofs Go.RowKit
theorem blank_mem (c : UInt8) : blankB c = true ↔ c ∈ ([32, 9, 10, 13] : List UInt8) := by
 have hd : ∀ x : UInt8, c = x ↔ c.toNat = x.toNat := fun x => UInt8.toNat_inj.symm
 simp only [List.mem_cons, List.not_mem_nil, or_false, hd, blankB, Bool.or_eq_true, decide_eq_true_eq]
 constructor
 ·rintro (((h | h) | h) | h)
  ·exact .inl h
  ·exact .inr (.inl h)
  ·exact .inr (.inr (.inl h))
  ·exact .inr (.inr (.inr h))
 ·rintro (h | h | h | h)
  ·exact .inl (.inl (.inl h))
  ·exact .inl (.inl (.inr h))
  ·exact .inl (.inr h)
  ·exact .inr h

set_option maxHeartbeats 2000000 in
theorem blanks_any (s : ByteArray) (hs : s.size ≤ 1099511627776) (k0 : Nat) (hk0 : k0 ≤ s.size) (w : World) :
 Calls Tryz.prog 146 #[.string s, .int .i64 k0] w fun e w' => e = .returned (.int .i64 (k0 + skipN ((tl s).drop k0) : Nat)) ∧ w = w' := by
 obtain ⟨R, hR⟩ : ∃ R, k0 + skipN ((tl s).drop k0) = R := ⟨_, rfl⟩
 rw [hR]
 have hlen := tl_length s
 go_enter Tryz.func146, Tryz.ntmps146
 go_wp2_with fail
 go_loop [1] (fun i => ∃ k : Nat, k ≤ s.size ∧ i = .int .i64 k ∧ Hid (k + skipN ((tl s).drop k) = R)) (fun i => s.size - (intOf i).toNat)
 case atStart => exact ⟨k0, hk0, rfl, Lib.hid hR⟩
 case round =>
  obtain ⟨k, hk, rfl, HR⟩ := hrel
  by_cases hlt : k < s.size
  ·have hd := tl_drop s k hlt
   have hr := HR.out
   have ci := index_any ⟨#[32, 9, 10, 13]⟩ (s[k]'hlt)
   have hn := idx_neg [32, 9, 10, 13] (s[k]'hlt)
   have hkk : tl ⟨#[32, 9, 10, 13]⟩ = [32, 9, 10, 13] := rfl
   rw [hkk] at ci
   obtain ⟨i, hi⟩ : ∃ i, Lib.indexByte [32, 9, 10, 13] (s[k]'hlt) = i := ⟨_, rfl⟩
   rw [hi] at ci hn
   rw [← blank_mem] at hn
   clear hi hkk
   by_cases hneg : i < 0
   ·have hbl : blankB (s[k]'hlt) = false := by simpa using hn.1 hneg
    have hfrom := tl_from s k
    have hez : (s.extract k s.size).size = s.size - k := by simp [ByteArray.size_extract]
    have c27 := has2_any (s.extract k s.size) ⟨#[47, 47]⟩ rfl (by omega)
    have c28 := note_any (s.extract k s.size) (by omega)
    have hnb : decide ((tl (s.extract k s.size)).take 2 = tl ⟨#[47, 47]⟩) = noteB ((tl s).drop k) := by rw [hfrom]; rfl
    rw [hnb] at c27
    rw [hfrom] at c28
    cases hb : noteB ((tl s).drop k)
    ·rw [hb] at c27
     rw [hd] at hb hr
     rw [skipN_none _ _ hbl hb] at hr
     have HX := Lib.hid hr
     clear hr hd hn hb hbl hfrom hez hnb c28
     go_wp2_with (first | (go_at_call 194; refine (ci _).mono ?_; rintro e w' ⟨rfl, rfl⟩) | (go_at_call 195; refine (c27 _).mono ?_; rintro e w' ⟨rfl, rfl⟩))
     go_ret
     exact ⟨ret_int (by have := HX.out; omega), rfl⟩
    ·rw [hb] at c27
     have hn2 := noteN_two _ hb
     have hn3 := noteN_le ((tl s).drop k)
     rw [List.length_drop, hlen] at hn3
     rw [skipN_note _ hb] at hr
     obtain ⟨n, hnn⟩ : ∃ n, noteN ((tl s).drop k) = n := ⟨_, rfl⟩
     rw [hnn] at hn2 hn3 hr c28
     rw [List.drop_drop] at hr
     have HX : Hid (k + n + skipN ((tl s).drop (k + n)) = R) := Lib.hid (by omega)
     clear hr hd hn hb hbl hfrom hez hnb hnn
     go_wp2_with (first | (go_at_call 194; refine (ci _).mono ?_; rintro e w' ⟨rfl, rfl⟩) | (go_at_call 195; refine (c27 _).mono ?_; rintro e w' ⟨rfl, rfl⟩) | (go_at_call 196; refine (c28 _).mono ?_; rintro e w' ⟨rfl, rfl⟩))
     go_round
     case rel => exact ⟨k + n, by omega, by go_num, HX⟩
     case measure => simp [intOf]; omega
   ·have hbl : blankB (s[k]'hlt) = true := by
     cases hx : blankB (s[k]'hlt)
     ·exact absurd (hn.2 (by rw [hx]; simp)) hneg
     ·rfl
    rw [hd, skipN_blank _ _ hbl] at hr
    have HX : Hid (k + 1 + skipN ((tl s).drop (k + 1)) = R) := Lib.hid (by omega)
    clear hr hd hn hbl
    have hi0 : 0 ≤ i := by omega
    go_wp2_with (first | (go_at_call 194; refine (ci _).mono ?_; rintro e w' ⟨rfl, rfl⟩))
    go_round
    case rel => exact ⟨k + 1, by omega, by go_num, HX⟩
    case measure => simp [intOf]; omega
  ·have hr := HR.out
   have hnil : (tl s).drop k = [] := List.drop_eq_nil_of_le (by omega)
   rw [hnil, skipN_nil] at hr
   have HX := Lib.hid hr
   clear hr hnil
   go_wp2_with fail
   go_ret
   exact ⟨ret_int (by have := HX.out; omega), rfl⟩

/-- What the first token is. -/
def FirstPost (l : List UInt8) (w : World) (e : Ending) (w' : World) : Prop :=
 ∃ kind size : Nat, e = .returned (.tuple #[.int .i64 kind, .int .i64 size]) ∧ ((size = 0 ∧ tok l = none) ∨ ∃ t, tok l = some ((kind, t), size)) ∧ Below w.heap.size w w'

theorem first_mk {l : List UInt8} {w w' : World} {a b : Int} (kind size : Nat) (ha : a = kind) (hb : b = size) (h : (size = 0 ∧ tok l = none) ∨ ∃ t, tok l = some ((kind, t), size)) (hw : Below w.heap.size w w') :
 FirstPost l w (.returned (.tuple #[.int .i64 a, .int .i64 b])) w' := ⟨kind, size, by rw [ha, hb], h, hw⟩

set_option maxHeartbeats 4000000 in
theorem first_any (s : ByteArray) (hs : s.size ≤ 1048576) (h1 : 1 ≤ s.size) (w : World) (hE : Env w) : Calls Tryz.prog 147 #[.string s] w (FirstPost (tl s) w) := by
 have hd := tl_drop s 0 h1
 rw [List.drop_zero] at hd
 have hlb : leadB (tl s) = decide ((tl s).take 2 = tl ⟨#[102, 39]⟩) := rfl
 have cH := has2_any s ⟨#[102, 39]⟩ rfl (by omega)
 rw [← hlb] at cH
 clear hlb
 have hc := (s[0]'h1).toNat_lt
 have ht : tok (tl s) = if leadB (tl s) then (if fltB (tl s) then some ((5, (tl s).take 18), 18) else none)
  else if (s[0]'h1).toNat = 34 then (strV ((tl s).drop 1)).map fun x => ((6, x.1), x.2 + 1)
  else if (s[0]'h1).toNat = 35 then (if nameN ((tl s).drop 1) = 0 then none else some ((3, ((tl s).drop 1).take (nameN ((tl s).drop 1))), nameN ((tl s).drop 1) + 1))
  else if digB (s[0]'h1) then (if intN (tl s) = 0 then none else some ((4, (tl s).take (intN (tl s))), intN (tl s)))
  else if lowB (s[0]'h1) then some ((if isW ((tl s).take (nameN (tl s))) then 7 else 1, (tl s).take (nameN (tl s))), nameN (tl s))
  else if highB (s[0]'h1) then some ((2, (tl s).take (aliasN (tl s))), aliasN (tl s))
  else if signN (tl s) = 0 then none
  else some ((8, (tl s).take (signN (tl s))), signN (tl s)) := by
  conv => lhs; rw [hd]
  rw [tok, ← hd]
 cases hl : leadB (tl s)
 ·rw [hl] at cH ht
  rw [if_neg (by decide)] at ht
  by_cases c34 : (s[0]'h1).toNat = 34
  ·rw [if_pos c34] at ht
   have cS := str_any s (by omega) h1
   have HT := Lib.hid ht
   obtain ⟨Z, hZ⟩ : ∃ Z, strZ ((tl s).drop 1) 1 = Z := ⟨_, rfl⟩
   rw [hZ] at cS
   have HZ := Lib.hid hZ
   clear ht hd hl hZ
   go_enter Tryz.func147, Tryz.ntmps147
   go_wp2_with (first | (go_at_call 195; refine (cH _).mono ?_; rintro e w' ⟨rfl, rfl⟩) | (go_at_call 198; refine (cS _).mono ?_; rintro e w' ⟨rfl, rfl⟩))
   go_ret2
   refine first_mk 6 Z rfl rfl ?_ (Below.refl _ _)
   rw [HT.out, ← HZ.out]
   unfold strZ
   cases strV ((tl s).drop 1) with
   | none => exact .inl ⟨rfl, rfl⟩
   | some x => exact .inr ⟨x.1, by simp; omega⟩
  ·rw [if_neg c34] at ht
   by_cases c35 : (s[0]'h1).toNat = 35
   ·rw [if_pos c35] at ht
    have cT := tag_any s (by omega) h1
    have HT := Lib.hid ht
    obtain ⟨Z, hZ⟩ : ∃ Z, (if nameN ((tl s).drop 1) = 0 then 0 else nameN ((tl s).drop 1) + 1) = Z := ⟨_, rfl⟩
    rw [hZ] at cT
    have HZ := Lib.hid hZ
    clear ht hd hl hZ
    go_enter Tryz.func147, Tryz.ntmps147
    go_wp2_with (first | (go_at_call 195; refine (cH _).mono ?_; rintro e w' ⟨rfl, rfl⟩) | (go_at_call 199; refine (cT _).mono ?_; rintro e w' ⟨rfl, hb⟩))
    go_ret2
    refine first_mk 3 Z rfl rfl ?_ hb
    rw [HT.out, ← HZ.out]
    split
    ·exact .inl ⟨rfl, rfl⟩
    ·exact .inr ⟨_, rfl⟩
   ·rw [if_neg c35] at ht
    have cD := digit_any (s[0]'h1)
    cases hdg : digB (s[0]'h1)
    ·rw [hdg] at ht cD
     rw [if_neg (by decide)] at ht
     have cN := name_any s (by omega)
     cases hlo : lowB (s[0]'h1)
     ·rw [hlo] at ht
      rw [if_neg (by decide)] at ht
      have hn0 : nameN (tl s) = 0 := by rw [hd]; exact spanN_zero _ _ _ _ hlo
      rw [hn0] at cN
      have cA := alias_any s (by omega)
      cases hhi : highB (s[0]'h1)
      ·rw [hhi] at ht
       rw [if_neg (by decide)] at ht
       have ha0 : aliasN (tl s) = 0 := by rw [hd]; exact spanN_zero _ _ _ _ hhi
       rw [ha0] at cA
       have cG := sign_any s (by omega) h1
       have HT := Lib.hid ht
       clear ht hd hl hn0 ha0 hlo hhi hdg
       go_enter Tryz.func147, Tryz.ntmps147
       go_wp2_with (first | (go_at_call 195; refine (cH _).mono ?_; rintro e w' ⟨rfl, rfl⟩) | (go_at_call 200; refine (cD _).mono ?_; rintro e w' ⟨rfl, rfl⟩) | (go_at_call 202; refine (cN _).mono ?_; rintro e w1 ⟨rfl, hb1⟩) | (go_at_call 204; refine (cA _).mono ?_; rintro e w2 ⟨rfl, hb2⟩) | (go_at_call 205; refine (cG _).mono ?_; rintro e w' ⟨rfl, rfl⟩))
       go_ret2
       refine first_mk 8 _ rfl rfl ?_ (hb1.trans (hb2.mono hb1.size))
       rw [HT.out]
       split
       ·rename_i h0; exact .inl ⟨h0, rfl⟩
       ·exact .inr ⟨_, rfl⟩
      ·rw [hhi] at ht
       rw [if_pos rfl] at ht
       have ha1 : 1 ≤ aliasN (tl s) := by rw [hd]; unfold aliasN; rw [spanN_cons _ _ _ _ hhi]; omega
       obtain ⟨a, hae⟩ : ∃ a, aliasN (tl s) = a := ⟨_, rfl⟩
       rw [hae] at cA ha1 ht
       have HT := Lib.hid ht
       clear ht hd hl hn0 hlo hhi hdg hae
       go_enter Tryz.func147, Tryz.ntmps147
       go_wp2_with (first | (go_at_call 195; refine (cH _).mono ?_; rintro e w' ⟨rfl, rfl⟩) | (go_at_call 200; refine (cD _).mono ?_; rintro e w' ⟨rfl, rfl⟩) | (go_at_call 202; refine (cN _).mono ?_; rintro e w1 ⟨rfl, hb1⟩) | (go_at_call 204; refine (cA _).mono ?_; rintro e w2 ⟨rfl, hb2⟩))
       go_ret2
       exact first_mk 2 a rfl rfl (.inr ⟨_, HT.out⟩) (hb1.trans (hb2.mono hb1.size))
     ·rw [hlo] at ht
      rw [if_pos rfl] at ht
      have hn1 : 1 ≤ nameN (tl s) := by rw [hd]; unfold nameN; rw [spanN_cons _ _ _ _ hlo]; omega
      have hn2 := spanN_le lowB wordB' (tl s)
      rw [tl_length] at hn2
      have hn2' : nameN (tl s) ≤ s.size := hn2
      obtain ⟨a, hae⟩ : ∃ a, nameN (tl s) = a := ⟨_, rfl⟩
      rw [hae] at cN hn1 ht hn2'
      have cW := isWord_any (s.extract 0 a)
      have he : tl (s.extract 0 a) = (tl s).take a := by rw [tl_extract, List.drop_zero]
      rw [he] at cW
      clear hd hl hlo hdg hae he hn2
      cases hw : isW ((tl s).take a)
      all_goals
       rw [hw] at cW ht
       have HT := Lib.hid ht
       clear ht hw
       go_enter Tryz.func147, Tryz.ntmps147
       go_wp2_with (first | (go_at_call 195; refine (cH _).mono ?_; rintro e w' ⟨rfl, rfl⟩) | (go_at_call 200; refine (cD _).mono ?_; rintro e w' ⟨rfl, rfl⟩) | (go_at_call 202; refine (cN _).mono ?_; rintro e w1 ⟨rfl, hb1⟩) | (go_at_call 203; refine (cW _).mono ?_; rintro e w2 ⟨rfl, rfl⟩))
       go_ret2
       exact first_mk _ a rfl rfl (.inr ⟨_, HT.out⟩) hb1
    ·rw [hdg] at ht cD
     rw [if_pos rfl] at ht
     have cI := int_any s hs h1 hdg w hE
     have HT := Lib.hid ht
     clear ht hd hl hdg
     go_enter Tryz.func147, Tryz.ntmps147
     go_wp2_with (first | (go_at_call 195; refine (cH _).mono ?_; rintro e w' ⟨rfl, rfl⟩) | (go_at_call 200; refine (cD _).mono ?_; rintro e w' ⟨rfl, rfl⟩) | (go_at_call 201; refine cI.mono ?_; rintro e w1 ⟨rfl, hb1⟩))
     go_ret2
     refine first_mk 4 _ rfl rfl ?_ hb1
     rw [HT.out]
     split
     ·rename_i h0; exact .inl ⟨h0, rfl⟩
     ·exact .inr ⟨_, rfl⟩
 ·rw [hl] at cH ht
  rw [if_pos rfl] at ht
  have cF := flt_any s (by omega) hl
  have HT := Lib.hid ht
  obtain ⟨Z, hZ⟩ : ∃ Z, (if fltB (tl s) then 18 else 0) = Z := ⟨_, rfl⟩
  rw [hZ] at cF
  have HZ := Lib.hid hZ
  clear ht hd hl hZ
  go_enter Tryz.func147, Tryz.ntmps147
  go_wp2_with (first | (go_at_call 195; refine (cH _).mono ?_; rintro e w' ⟨rfl, rfl⟩) | (go_at_call 197; refine (cF _).mono ?_; rintro e w' ⟨rfl, rfl⟩))
  go_ret2
  refine first_mk 5 Z rfl rfl ?_ (Below.refl _ _)
  rw [HT.out, ← HZ.out]
  split
  ·exact .inr ⟨_, rfl⟩
  ·exact .inl ⟨rfl, rfl⟩
/-- A string's token stands by itself. -/
theorem strV_take : ∀ (m : Nat) (l v : List UInt8) (n : Nat), l.length ≤ m → strV l = some (v, n) → strV (l.take n) = some (v, n)
 | 0, l, v, n, h, hs => by
  obtain rfl : l = [] := List.length_eq_zero_iff.1 (by omega)
  rw [strV_nil] at hs; cases hs
 | m + 1, [], v, n, h, hs => by rw [strV_nil] at hs; cases hs
 | m + 1, c :: r, v, n, h, hs => by
  simp only [List.length_cons] at h
  rw [strV_cons] at hs
  split at hs
  ·rename_i c34
   cases hs
   rw [List.take_succ_cons, strV_cons, if_pos c34]
  ·rename_i c34
   split at hs
   ·cases hs
   ·rename_i c32
    split at hs
    ·rename_i c92
     match r, hs, h with
     | [], hs, _ => cases hs
     | d :: r', hs, h =>
      dsimp only at hs
      cases he : escB d with
      | none => rw [he] at hs; cases hs
      | some e =>
       rw [he] at hs
       simp only [Option.map_eq_some_iff, Prod.mk.injEq] at hs
       obtain ⟨y, hy, rfl, rfl⟩ := hs
       have := strV_take m r' y.1 y.2 (by simp at h; omega) hy
       rw [List.take_succ_cons, List.take_succ_cons, strV_cons, if_neg c34, if_neg c32, if_pos c92]
       dsimp only
       rw [he, this]
       rfl
    ·rename_i c92
     simp only [Option.map_eq_some_iff, Prod.mk.injEq] at hs
     obtain ⟨y, hy, rfl, rfl⟩ := hs
     have := strV_take m r y.1 y.2 (by omega) hy
     rw [List.take_succ_cons, strV_cons, if_neg c34, if_neg c32, if_neg c92, this]
     rfl

theorem tok_cases {l : List UInt8} {k : Nat} {t : List UInt8} {n : Nat} (h : tok l = some ((k, t), n)) :
 (k = 3 ∧ t = (l.take n).drop 1) ∨ (k = 6 ∧ 2 ≤ n ∧ strV ((l.take n).drop 1) = some (t, n - 1)) ∨ (k ≠ 3 ∧ k ≠ 6 ∧ t = l.take n) := by
 match l, h with
 | [], h => simp [tok] at h
 | c :: r, h =>
  rw [tok] at h
  split at h
  ·split at h
   ·cases h; exact .inr (.inr ⟨by decide, by decide, rfl⟩)
   ·cases h
  split at h
  ·simp only [Option.map_eq_some_iff] at h
   obtain ⟨x, hx, e⟩ := h
   have h1 := strV_le r.length r x (Nat.le_refl _) hx
   have h2 := strV_take r.length r x.1 x.2 (Nat.le_refl _) hx
   cases e
   right; left
   refine ⟨rfl, by omega, ?_⟩
   rw [List.take_succ_cons, List.drop_succ_cons, List.drop_zero, Nat.add_sub_cancel]
   exact h2
  split at h
  ·split at h
   ·cases h
   ·cases h
    left
    exact ⟨rfl, by rw [List.take_succ_cons]; rfl⟩
  split at h
  ·split at h
   ·cases h
   ·cases h; exact .inr (.inr ⟨by decide, by decide, rfl⟩)
  split at h
  ·cases h
   right; right
   refine ⟨?_, ?_, rfl⟩ <;> (split <;> decide)
  split at h
  ·cases h; exact .inr (.inr ⟨by decide, by decide, rfl⟩)
  split at h
  ·cases h
  ·cases h; exact .inr (.inr ⟨by decide, by decide, rfl⟩)

theorem ret_str {a b : ByteArray} (h : a = b) : Ending.returned (.string a) = .returned (.string b) := by rw [h]

set_option maxHeartbeats 2000000 in
theorem textOf_any (l : List UInt8) (k : Nat) (t : List UInt8) (n : Nat) (h : tok l = some ((k, t), n)) (s : ByteArray) (hs : s.size ≤ 1048576) (he : tl s = l.take n) (w : World) :
 Calls Tryz.prog 148 #[.int .i64 k, .string s] w fun e w' => e = .returned (.string ⟨t.toArray⟩) ∧ Below w.heap.size w w' := by
 have hle := tok_le h
 have hsz : s.size = n := by rw [← tl_length, he, List.length_take]; omega
 have hc := tok_cases h
 rw [← he] at hc
 have hm := mk_tl s
 rcases hc with ⟨rfl, rfl⟩ | ⟨rfl, h2, hv⟩ | ⟨h3, h6, rfl⟩
 ·have HX : Hid (s.extract 1 n = ⟨((tl s).drop 1).toArray⟩) := Lib.hid (by rw [← tl_from, hsz]; exact mk_tl _)
  obtain ⟨T, hT⟩ : ∃ T : ByteArray, ⟨((tl s).drop 1).toArray⟩ = T := ⟨_, rfl⟩
  rw [hT] at HX ⊢
  clear hT hm he h
  go_enter Tryz.func148, Tryz.ntmps148
  go_wp2_with fail
  go_ret
  exact ⟨ret_str HX.out, Below.refl _ _⟩
 ·have cU := unq_any s (by omega) (by omega) t (by rw [hv, hsz]) w
  clear hm he h hv
  go_enter Tryz.func148, Tryz.ntmps148
  go_wp2_with (first | (go_at_call 206; refine cU.mono ?_; rintro e w1 ⟨rfl, hb1⟩))
  go_ret
  exact ⟨rfl, hb1⟩
 ·have e3 : ((k : Int) == 3) = false := by simp; omega
  have e6 : ((k : Int) == 6) = false := by simp; omega
  rw [← hm]
  clear hm he h h3 h6
  go_enter Tryz.func148, Tryz.ntmps148
  go_wp2_with fail
  go_ret
  exact ⟨rfl, Below.refl _ _⟩

/-- The cells of tokens. -/
def tkV (ts : List Tk) : List Value := ts.flatMap fun t => [.int .i64 (t.1 : Int), .string ⟨t.2.1.toArray⟩, .int .i64 (t.2.2 : Int)]
theorem tkV_append (a b : List Tk) : tkV (a ++ b) = tkV a ++ tkV b := by simp [tkV]
theorem info31 : (Tryz.prog.info? 94).map (fun i => (i.zero, i.size, i.bytes)) = some (some (.agg #[.int .i64 0, .string ⟨#[]⟩, .int .i64 0]), 3, 32) := by kernel_rfl
end Go.Proofs.YtjbdgjbmbohfmaaGreatDoor
