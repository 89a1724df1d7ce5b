/- Where something else than blanks stands, and which token: the program's own functions, at every string of at most 2^20 bytes. -/
import Derived.Test.YtocepddgegnfaaaDoorInt
import Derived.Test.YtocepddgegnfaaaDoorUnq
namespace Go.Proofs.YtocepddgegnfaaaDoor
open Go Go.Proofs Go.RowKit

theorem blank_mem (c : UInt8) : blankB c = true ↔ c ∈ ([32, 9, 10, 13] : List UInt8) := by
  have hd : ∀ x : UInt8, c = x ↔ c.toNat = x.toNat := fun x => UInt8.toNat_inj.symm
  simp only [List.mem_cons, List.not_mem_nil, or_false, hd, blankB, Bool.or_eq_true, decide_eq_true_eq]
  constructor
  · rintro (((h | h) | h) | h)
    · exact .inl h
    · exact .inr (.inl h)
    · exact .inr (.inr (.inl h))
    · exact .inr (.inr (.inr h))
  · rintro (h | h | h | h)
    · exact .inl (.inl (.inl h))
    · exact .inl (.inl (.inr h))
    · exact .inl (.inr h)
    · exact .inr h

set_option maxHeartbeats 2000000 in
theorem blanks_any (s : ByteArray) (hs : s.size ≤ 1099511627776) (k0 : Nat) (hk0 : k0 ≤ s.size) (w : World) :
    Calls Tryd.prog 17 #[.string s, .int .i64 k0] w fun e w' => e = .returned (.int .i64 (k0 + skipN ((tl s).drop k0) : Nat)) ∧ w = w' := by
  obtain ⟨R, hR⟩ : ∃ R, k0 + skipN ((tl s).drop k0) = R := ⟨_, rfl⟩
  rw [hR]
  have hlen := tl_length s
  go_enter Tryd.func17, Tryd.ntmps17
  go_wp2_with fail
  go_loop [1] (fun i => ∃ k : Nat, k ≤ s.size ∧ i = .int .i64 k ∧ Hid (k + skipN ((tl s).drop k) = R)) (fun i => s.size - (intOf i).toNat)
  case atStart => exact ⟨k0, hk0, rfl, Lib.hid hR⟩
  case round =>
    obtain ⟨k, hk, rfl, HR⟩ := hrel
    by_cases hlt : k < s.size
    · have hd := tl_drop s k hlt
      have hr := HR.out
      have ci := index_any ⟨#[32, 9, 10, 13]⟩ (s[k]'hlt)
      have hn := idx_neg [32, 9, 10, 13] (s[k]'hlt)
      have hkk : tl ⟨#[32, 9, 10, 13]⟩ = [32, 9, 10, 13] := rfl
      rw [hkk] at ci
      obtain ⟨i, hi⟩ : ∃ i, Lib.indexByte [32, 9, 10, 13] (s[k]'hlt) = i := ⟨_, rfl⟩
      rw [hi] at ci hn
      rw [← blank_mem] at hn
      clear hi hkk
      by_cases hneg : i < 0
      · have hbl : blankB (s[k]'hlt) = false := by simpa using hn.1 hneg
        have hfrom := tl_from s k
        have hez : (s.extract k s.size).size = s.size - k := by simp [ByteArray.size_extract]
        have c27 := has2_any (s.extract k s.size) ⟨#[47, 47]⟩ rfl (by omega)
        have c28 := note_any (s.extract k s.size) (by omega)
        have hnb : decide ((tl (s.extract k s.size)).take 2 = tl ⟨#[47, 47]⟩) = noteB ((tl s).drop k) := by rw [hfrom]; rfl
        rw [hnb] at c27
        rw [hfrom] at c28
        cases hb : noteB ((tl s).drop k)
        · rw [hb] at c27
          rw [hd] at hb hr
          rw [skipN_none _ _ hbl hb] at hr
          have HX := Lib.hid hr
          clear hr hd hn hb hbl hfrom hez hnb c28
          go_wp2_with (first | (go_at_call 26; refine (ci _).mono ?_; rintro e w' ⟨rfl, rfl⟩) | (go_at_call 27; refine (c27 _).mono ?_; rintro e w' ⟨rfl, rfl⟩))
          go_ret
          exact ⟨ret_int (by have := HX.out; omega), rfl⟩
        · rw [hb] at c27
          have hn2 := noteN_two _ hb
          have hn3 := noteN_le ((tl s).drop k)
          rw [List.length_drop, hlen] at hn3
          rw [skipN_note _ hb] at hr
          obtain ⟨n, hnn⟩ : ∃ n, noteN ((tl s).drop k) = n := ⟨_, rfl⟩
          rw [hnn] at hn2 hn3 hr c28
          rw [List.drop_drop] at hr
          have HX : Hid (k + n + skipN ((tl s).drop (k + n)) = R) := Lib.hid (by omega)
          clear hr hd hn hb hbl hfrom hez hnb hnn
          go_wp2_with (first | (go_at_call 26; refine (ci _).mono ?_; rintro e w' ⟨rfl, rfl⟩) | (go_at_call 27; refine (c27 _).mono ?_; rintro e w' ⟨rfl, rfl⟩) | (go_at_call 28; refine (c28 _).mono ?_; rintro e w' ⟨rfl, rfl⟩))
          go_round
          case rel => exact ⟨k + n, by omega, by go_num, HX⟩
          case measure => simp [intOf]; omega
      · have hbl : blankB (s[k]'hlt) = true := by
          cases hx : blankB (s[k]'hlt)
          · exact absurd (hn.2 (by rw [hx]; simp)) hneg
          · rfl
        rw [hd, skipN_blank _ _ hbl] at hr
        have HX : Hid (k + 1 + skipN ((tl s).drop (k + 1)) = R) := Lib.hid (by omega)
        clear hr hd hn hbl
        have hi0 : 0 ≤ i := by omega
        go_wp2_with (first | (go_at_call 26; refine (ci _).mono ?_; rintro e w' ⟨rfl, rfl⟩))
        go_round
        case rel => exact ⟨k + 1, by omega, by go_num, HX⟩
        case measure => simp [intOf]; omega
    · have hr := HR.out
      have hnil : (tl s).drop k = [] := List.drop_eq_nil_of_le (by omega)
      rw [hnil, skipN_nil] at hr
      have HX := Lib.hid hr
      clear hr hnil
      go_wp2_with fail
      go_ret
      exact ⟨ret_int (by have := HX.out; omega), rfl⟩

/-- What the first token is. -/
def FirstPost (l : List UInt8) (w : World) (e : Ending) (w' : World) : Prop :=
  ∃ kind size : Nat, e = .returned (.tuple #[.int .i64 kind, .int .i64 size]) ∧ ((size = 0 ∧ tok l = none) ∨ ∃ t, tok l = some ((kind, t), size)) ∧ Below w.heap.size w w'

theorem first_mk {l : List UInt8} {w w' : World} {a b : Int} (kind size : Nat) (ha : a = kind) (hb : b = size) (h : (size = 0 ∧ tok l = none) ∨ ∃ t, tok l = some ((kind, t), size)) (hw : Below w.heap.size w w') :
    FirstPost l w (.returned (.tuple #[.int .i64 a, .int .i64 b])) w' := ⟨kind, size, by rw [ha, hb], h, hw⟩

set_option maxHeartbeats 4000000 in
theorem first_any (s : ByteArray) (hs : s.size ≤ 1048576) (h1 : 1 ≤ s.size) (w : World) (hE : Env w) : Calls Tryd.prog 18 #[.string s] w (FirstPost (tl s) w) := by
  have hd := tl_drop s 0 h1
  rw [List.drop_zero] at hd
  have hlb : leadB (tl s) = decide ((tl s).take 2 = tl ⟨#[102, 39]⟩) := rfl
  have cH := has2_any s ⟨#[102, 39]⟩ rfl (by omega)
  rw [← hlb] at cH
  clear hlb
  have hc := (s[0]'h1).toNat_lt
  have ht : tok (tl s) = if leadB (tl s) then (if fltB (tl s) then some ((5, (tl s).take 18), 18) else none)
    else if (s[0]'h1).toNat = 34 then (strV ((tl s).drop 1)).map fun x => ((6, x.1), x.2 + 1)
    else if (s[0]'h1).toNat = 35 then (if nameN ((tl s).drop 1) = 0 then none else some ((3, ((tl s).drop 1).take (nameN ((tl s).drop 1))), nameN ((tl s).drop 1) + 1))
    else if digB (s[0]'h1) then (if intN (tl s) = 0 then none else some ((4, (tl s).take (intN (tl s))), intN (tl s)))
    else if lowB (s[0]'h1) then some ((if isW ((tl s).take (nameN (tl s))) then 7 else 1, (tl s).take (nameN (tl s))), nameN (tl s))
    else if highB (s[0]'h1) then some ((2, (tl s).take (aliasN (tl s))), aliasN (tl s))
    else if signN (tl s) = 0 then none
    else some ((8, (tl s).take (signN (tl s))), signN (tl s)) := by
    conv => lhs; rw [hd]
    rw [tok, ← hd]
  cases hl : leadB (tl s)
  · rw [hl] at cH ht
    rw [if_neg (by decide)] at ht
    by_cases c34 : (s[0]'h1).toNat = 34
    · rw [if_pos c34] at ht
      have cS := str_any s (by omega) h1
      have HT := Lib.hid ht
      obtain ⟨Z, hZ⟩ : ∃ Z, strZ ((tl s).drop 1) 1 = Z := ⟨_, rfl⟩
      rw [hZ] at cS
      have HZ := Lib.hid hZ
      clear ht hd hl hZ
      go_enter Tryd.func18, Tryd.ntmps18
      go_wp2_with (first | (go_at_call 27; refine (cH _).mono ?_; rintro e w' ⟨rfl, rfl⟩) | (go_at_call 30; refine (cS _).mono ?_; rintro e w' ⟨rfl, rfl⟩))
      go_ret2
      refine first_mk 6 Z rfl rfl ?_ (Below.refl _ _)
      rw [HT.out, ← HZ.out]
      unfold strZ
      cases strV ((tl s).drop 1) with
      | none => exact .inl ⟨rfl, rfl⟩
      | some x => exact .inr ⟨x.1, by simp; omega⟩
    · rw [if_neg c34] at ht
      by_cases c35 : (s[0]'h1).toNat = 35
      · rw [if_pos c35] at ht
        have cT := tag_any s (by omega) h1
        have HT := Lib.hid ht
        obtain ⟨Z, hZ⟩ : ∃ Z, (if nameN ((tl s).drop 1) = 0 then 0 else nameN ((tl s).drop 1) + 1) = Z := ⟨_, rfl⟩
        rw [hZ] at cT
        have HZ := Lib.hid hZ
        clear ht hd hl hZ
        go_enter Tryd.func18, Tryd.ntmps18
        go_wp2_with (first | (go_at_call 27; refine (cH _).mono ?_; rintro e w' ⟨rfl, rfl⟩) | (go_at_call 31; refine (cT _).mono ?_; rintro e w' ⟨rfl, hb⟩))
        go_ret2
        refine first_mk 3 Z rfl rfl ?_ hb
        rw [HT.out, ← HZ.out]
        split
        · exact .inl ⟨rfl, rfl⟩
        · exact .inr ⟨_, rfl⟩
      · rw [if_neg c35] at ht
        have cD := digit_any (s[0]'h1)
        cases hdg : digB (s[0]'h1)
        · rw [hdg] at ht cD
          rw [if_neg (by decide)] at ht
          have cN := name_any s (by omega)
          cases hlo : lowB (s[0]'h1)
          · rw [hlo] at ht
            rw [if_neg (by decide)] at ht
            have hn0 : nameN (tl s) = 0 := by rw [hd]; exact spanN_zero _ _ _ _ hlo
            rw [hn0] at cN
            have cA := alias_any s (by omega)
            cases hhi : highB (s[0]'h1)
            · rw [hhi] at ht
              rw [if_neg (by decide)] at ht
              have ha0 : aliasN (tl s) = 0 := by rw [hd]; exact spanN_zero _ _ _ _ hhi
              rw [ha0] at cA
              have cG := sign_any s (by omega) h1
              have HT := Lib.hid ht
              clear ht hd hl hn0 ha0 hlo hhi hdg
              go_enter Tryd.func18, Tryd.ntmps18
              go_wp2_with (first | (go_at_call 27; refine (cH _).mono ?_; rintro e w' ⟨rfl, rfl⟩) | (go_at_call 32; refine (cD _).mono ?_; rintro e w' ⟨rfl, rfl⟩) | (go_at_call 23; refine (cN _).mono ?_; rintro e w1 ⟨rfl, hb1⟩) | (go_at_call 34; refine (cA _).mono ?_; rintro e w2 ⟨rfl, hb2⟩) | (go_at_call 35; refine (cG _).mono ?_; rintro e w' ⟨rfl, rfl⟩))
              go_ret2
              refine first_mk 8 _ rfl rfl ?_ (hb1.trans (hb2.mono hb1.size))
              rw [HT.out]
              split
              · rename_i h0; exact .inl ⟨h0, rfl⟩
              · exact .inr ⟨_, rfl⟩
            · rw [hhi] at ht
              rw [if_pos rfl] at ht
              have ha1 : 1 ≤ aliasN (tl s) := by rw [hd]; unfold aliasN; rw [spanN_cons _ _ _ _ hhi]; omega
              obtain ⟨a, hae⟩ : ∃ a, aliasN (tl s) = a := ⟨_, rfl⟩
              rw [hae] at cA ha1 ht
              have HT := Lib.hid ht
              clear ht hd hl hn0 hlo hhi hdg hae
              go_enter Tryd.func18, Tryd.ntmps18
              go_wp2_with (first | (go_at_call 27; refine (cH _).mono ?_; rintro e w' ⟨rfl, rfl⟩) | (go_at_call 32; refine (cD _).mono ?_; rintro e w' ⟨rfl, rfl⟩) | (go_at_call 23; refine (cN _).mono ?_; rintro e w1 ⟨rfl, hb1⟩) | (go_at_call 34; refine (cA _).mono ?_; rintro e w2 ⟨rfl, hb2⟩))
              go_ret2
              exact first_mk 2 a rfl rfl (.inr ⟨_, HT.out⟩) (hb1.trans (hb2.mono hb1.size))
          · rw [hlo] at ht
            rw [if_pos rfl] at ht
            have hn1 : 1 ≤ nameN (tl s) := by rw [hd]; unfold nameN; rw [spanN_cons _ _ _ _ hlo]; omega
            have hn2 := spanN_le lowB wordB' (tl s)
            rw [tl_length] at hn2
            have hn2' : nameN (tl s) ≤ s.size := hn2
            obtain ⟨a, hae⟩ : ∃ a, nameN (tl s) = a := ⟨_, rfl⟩
            rw [hae] at cN hn1 ht hn2'
            have cW := isWord_any (s.extract 0 a)
            have he : tl (s.extract 0 a) = (tl s).take a := by rw [tl_extract, List.drop_zero]
            rw [he] at cW
            clear hd hl hlo hdg hae he hn2
            cases hw : isW ((tl s).take a)
            all_goals
              rw [hw] at cW ht
              have HT := Lib.hid ht
              clear ht hw
              go_enter Tryd.func18, Tryd.ntmps18
              go_wp2_with (first | (go_at_call 27; refine (cH _).mono ?_; rintro e w' ⟨rfl, rfl⟩) | (go_at_call 32; refine (cD _).mono ?_; rintro e w' ⟨rfl, rfl⟩) | (go_at_call 23; refine (cN _).mono ?_; rintro e w1 ⟨rfl, hb1⟩) | (go_at_call 13; refine (cW _).mono ?_; rintro e w2 ⟨rfl, rfl⟩))
              go_ret2
              exact first_mk _ a rfl rfl (.inr ⟨_, HT.out⟩) hb1
        · rw [hdg] at ht cD
          rw [if_pos rfl] at ht
          have cI := int_any s hs h1 hdg w hE
          have HT := Lib.hid ht
          clear ht hd hl hdg
          go_enter Tryd.func18, Tryd.ntmps18
          go_wp2_with (first | (go_at_call 27; refine (cH _).mono ?_; rintro e w' ⟨rfl, rfl⟩) | (go_at_call 32; refine (cD _).mono ?_; rintro e w' ⟨rfl, rfl⟩) | (go_at_call 33; refine cI.mono ?_; rintro e w1 ⟨rfl, hb1⟩))
          go_ret2
          refine first_mk 4 _ rfl rfl ?_ hb1
          rw [HT.out]
          split
          · rename_i h0; exact .inl ⟨h0, rfl⟩
          · exact .inr ⟨_, rfl⟩
  · rw [hl] at cH ht
    rw [if_pos rfl] at ht
    have cF := flt_any s (by omega) hl
    have HT := Lib.hid ht
    obtain ⟨Z, hZ⟩ : ∃ Z, (if fltB (tl s) then 18 else 0) = Z := ⟨_, rfl⟩
    rw [hZ] at cF
    have HZ := Lib.hid hZ
    clear ht hd hl hZ
    go_enter Tryd.func18, Tryd.ntmps18
    go_wp2_with (first | (go_at_call 27; refine (cH _).mono ?_; rintro e w' ⟨rfl, rfl⟩) | (go_at_call 29; refine (cF _).mono ?_; rintro e w' ⟨rfl, rfl⟩))
    go_ret2
    refine first_mk 5 Z rfl rfl ?_ (Below.refl _ _)
    rw [HT.out, ← HZ.out]
    split
    · exact .inr ⟨_, rfl⟩
    · exact .inl ⟨rfl, rfl⟩
end Go.Proofs.YtocepddgegnfaaaDoor
