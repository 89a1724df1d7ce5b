/- What a string's token stands for, and the token of a string: the program's own two functions, at every string of at most 2^40 bytes. -/
import Derived.Test.YtocepddgegnfaaaDoorText
import Derived.Test.YtocepddgegnfaaaDoorEnc
import Derived.Maps.AppendAt
import Derived.Laws.Strings2
namespace Go.Proofs.YtocepddgegnfaaaDoor
open Go Go.Proofs Go.RowKit

theorem conv_text {n₀ : Nat} {W : World} {v : Value} {l : List UInt8} (h : TextAt n₀ W v l) (h0 : l = [] → v = .slice none 0 0) : (convert 22 9 v).run Tryd.prog W = .ok (.string ⟨l.toArray⟩) W := by
  rcases h with ⟨a, cap, _, rfl, rfl⟩ | ⟨b, off, cap, rfl, _, _, hh⟩
  · have := h0 rfl
    cases this
    rw [Go.run_convert_bytes_string (P := Tryd.prog) W 22 9 5 none 0 0 Tryd.underlying22 Tryd.underlying5 Tryd.underlying9]
    unfold Conv.bytesToString
    simp [go_sem]
    rfl
  · by_cases hl : l = []
    · have := h0 hl
      cases this
    · refine run_convert_bytes_back W 22 9 5 ⟨b, off, none⟩ _ l Tryd.underlying22 Tryd.underlying5 Tryd.underlying9 (fun j hj => ?_)
      rw [add_none, hh j hj]
      simp [List.getD_eq_getElem?_getD, List.getElem?_eq_getElem hj]

theorem strV_end (q : UInt8) (v : List UInt8) (n : Nat) (h : strV [q] = some (v, n)) : v = [] := by
  rw [strV_cons] at h
  split at h
  · cases h; rfl
  · split at h
    · cases h
    · split at h
      · cases h
      · rw [strV_nil] at h; cases h
theorem strV_one (c q : UInt8) (r v : List UInt8) (h : strV (c :: (r ++ [q])) = some (v, r.length + 2)) :
    (c.toNat = 92 ∧ ∃ d r' e v', r = d :: r' ∧ escB d = some e ∧ v = e :: v' ∧ strV (r' ++ [q]) = some (v', r'.length + 1)) ∨
    (¬ c.toNat = 92 ∧ ∃ v', v = c :: v' ∧ strV (r ++ [q]) = some (v', r.length + 1)) := by
  rw [strV_cons] at h
  split at h
  · cases h
  · split at h
    · cases h
    · split at h
      · rename_i h92
        left
        refine ⟨h92, ?_⟩
        match r, h with
        | [], h =>
          simp only [List.nil_append] at h
          cases he : escB q with
          | none => rw [he] at h; cases h
          | some e => rw [he, strV_nil] at h; cases h
        | d :: r', h =>
          simp only [List.cons_append] at h
          cases he : escB d with
          | none => rw [he] at h; cases h
          | some e =>
            rw [he] at h
            simp only [Option.map_eq_some_iff, Prod.mk.injEq] at h
            obtain ⟨y, hy, h1, h2⟩ := h
            refine ⟨d, r', e, y.1, rfl, he, h1.symm, ?_⟩
            rw [hy]
            have : y.2 = r'.length + 1 := by simp at h2; omega
            rw [← this]
      · rename_i h92
        right
        simp only [Option.map_eq_some_iff, Prod.mk.injEq] at h
        obtain ⟨y, hy, h1, h2⟩ := h
        refine ⟨h92, y.1, h1.symm, ?_⟩
        rw [hy]
        have : y.2 = r.length + 1 := by omega
        rw [← this]
theorem escB_cases {d e : UInt8} (h : escB d = some e) : (d = 92 ∧ e = 92) ∨ (d = 34 ∧ e = 34) ∨ (d = 110 ∧ e = 10) := by
  unfold escB at h
  split at h
  · rename_i c; left; cases h; exact ⟨UInt8.toNat_inj.1 c, rfl⟩
  · split at h
    · rename_i c; right; left; cases h; exact ⟨UInt8.toNat_inj.1 c, rfl⟩
    · split at h
      · rename_i c; right; right; cases h; exact ⟨UInt8.toNat_inj.1 c, rfl⟩
      · cases h

theorem own_text {w : World} {B : Nat} {v : Value} {l : List UInt8} (h : w.ownsRow B 5 1 v l.length (cells8 l)) (hn : l = [] → v = .slice none 0 0) : (convert 22 9 v).run Tryd.prog w = .ok (.string ⟨l.toArray⟩) w :=
  conv_text (text_of_owns h) hn

set_option maxRecDepth 100000 in
set_option maxHeartbeats 4000000 in
theorem unq_any (s : ByteArray) (hs : s.size ≤ 1099511627776) (h2 : 2 ≤ s.size) (v : List UInt8) (hv : strV ((tl s).drop 1) = some (v, s.size - 1)) (w : World) :
    Calls Tryd.prog 36 #[.string s] w fun e w' => e = .returned (.string ⟨v.toArray⟩) ∧ Below w.heap.size w w' := by
  obtain ⟨i, hi⟩ : ∃ i, s.extract 1 (s.size - 1) = i := ⟨_, rfl⟩
  have hz : i.size = s.size - 2 := by rw [← hi]; simp [ByteArray.size_extract]; omega
  obtain ⟨q, hq⟩ : ∃ q, (tl s).drop 1 = tl i ++ [q] := by
    rw [← hi, tl_extract]
    have hl := tl_length s
    refine ⟨(tl s)[s.size - 1]'(by omega), ?_⟩
    have e1 : (tl s).take (s.size - 1) ++ [(tl s)[s.size - 1]'(by omega)] = tl s := by
      rw [← List.take_succ_eq_append_getElem (by omega), show s.size - 1 + 1 = (tl s).length by omega, List.take_length]
    conv => lhs; rw [← e1]
    rw [List.drop_append_of_le_length (by rw [List.length_take, hl]; omega)]
  rw [hq] at hv
  have hil := tl_length i
  have HV : Hid (strV ((tl i).drop 0 ++ [q]) = some (v, i.size - 0 + 1)) := Lib.hid (by rw [List.drop_zero, hv, hz]; congr 2; omega)
  have hsz : i.size + 2 = s.size := by omega
  obtain ⟨i5, hi5, hz0, hz1, hz2⟩ := info_parts info5
  clear hq hv
  obtain ⟨m, hm⟩ : ∃ m, s.size - 1 = m := ⟨_, rfl⟩
  have hm1 : 1 ≤ m := by omega
  have hm2 : m ≤ s.size := by omega
  have hlow : ((s.size : Int) - 1) = (m : Int) := by omega
  rw [hm] at hi
  clear hm
  have hsl : ∀ w, (Instr.slice 9 (.string s) (some (.int .i64 1)) (some (.int .i64 (m : Int))) none).run Tryd.prog w = .ok (.string i) w := fun w => by
    rw [run_slice_string w 9 s .i64 .i64 1 m Tryd.underlying9 (by omega) (by omega) (by omega), ← hi]; rfl
  go_enter Tryd.func36, Tryd.ntmps36
  go_wp2_with fail
  go_loopw [4, 5, 6] (fun b j _ wr => ∃ (k : Nat) (pre v' : List UInt8), k ≤ i.size ∧ pre.length ≤ k ∧ j = .int .i64 k ∧ Hid (v = pre ++ v' ∧ strV ((tl i).drop k ++ [q]) = some (v', i.size - k + 1)) ∧ Hid (wr.ownsRow w.heap.size 5 1 b pre.length (cells8 pre) ∧ (pre = [] → b = .slice none 0 0)) ∧ Below w.heap.size w wr)
    (fun _ j _ _ => i.size - (intOf j).toNat)
  case atStart => exact ⟨0, [], v, Nat.zero_le _, Nat.le_refl _, rfl, Lib.hid ⟨rfl, HV.out⟩, Lib.hid ⟨World.ownsRow_nil _ _ _ _, fun _ => rfl⟩, Below.refl _ _⟩
  case round =>
    obtain ⟨k, pre, v', hk, hpk, rfl, HS, HR, hB⟩ := hrel
    have hBs := hB.size
    by_cases hlt : k < i.size
    · have hd := tl_drop i k hlt
      have hst := HS.out.2
      rw [hd, List.cons_append] at hst
      have hlen : ((tl i).drop (k + 1)).length = i.size - k - 1 := by rw [List.length_drop, hil]; omega
      have hone := strV_one (i[k]'hlt) q ((tl i).drop (k + 1)) v' (by rw [hst, show ((tl i).drop (k + 1)).length + 2 = i.size - k + 1 by omega])
      have hc := (i[k]'hlt).toNat_lt
      rcases hone with ⟨c92, d, r', e, v'', hr, he, hvv, hs'⟩ | ⟨c92, v'', hvv, hs'⟩
      · have hl2 : k + 1 < i.size := by
          have := congrArg List.length hr
          rw [hlen] at this
          simp at this
          omega
        have hd2 := tl_drop i (k + 1) hl2
        rw [hr] at hd2
        obtain ⟨rfl, hr2⟩ : d = i[k + 1]'hl2 ∧ r' = (tl i).drop (k + 2) := by
          simp only [List.cons.injEq] at hd2
          exact hd2
        have hlen2 : ((tl i).drop (k + 2)).length = i.size - k - 2 := by rw [List.length_drop, hil]; omega
        rw [hr2, hlen2] at hs'
        have HS2 : Hid (v = (pre ++ [e]) ++ v'' ∧ strV ((tl i).drop (k + 2) ++ [q]) = some (v'', i.size - (k + 2) + 1)) := Lib.hid ⟨by rw [HS.out.1, hvv]; simp, by rw [hs', show i.size - k - 2 + 1 = i.size - (k + 2) + 1 by omega]⟩
        have ci : ∃ j : Int, (∀ w, Calls Tryd.prog 26 #[.string ⟨#[92, 34, 110]⟩, .int .u8 ((i[k + 1]'hl2).toNat : Int)] w fun e w' => e = .returned (.int .i64 j) ∧ w = w') ∧ ((j = 0 ∧ e = 92) ∨ (j = 1 ∧ e = 34) ∨ (j = 2 ∧ e = 10)) := by
          refine ⟨_, index_any ⟨#[92, 34, 110]⟩ _, ?_⟩
          rcases escB_cases he with ⟨h1, h2⟩ | ⟨h1, h2⟩ | ⟨h1, h2⟩
          · left; rw [h1]; exact ⟨rfl, h2⟩
          · right; left; rw [h1]; exact ⟨rfl, h2⟩
          · right; right; rw [h1]; exact ⟨rfl, h2⟩
        obtain ⟨j, ci, hj⟩ := ci
        clear hd hst hlen hr hd2 hr2 hlen2 hs' he hvv HS
        rcases hj with ⟨rfl, rfl⟩ | ⟨rfl, rfl⟩ | ⟨rfl, rfl⟩
        all_goals
          go_wp2_with (first | (go_at_call 26; refine (ci _).mono ?_; rintro e w' ⟨rfl, rfl⟩) | (at_builtin; refine wpList_append_own_at _ rfl _ _ 22 rfl w.heap.size 5 i5 (.int .u8 0) 1 1 Tryd.underlying22 hi5 hz0 hz1 hz2 rfl (by decide) _ pre.length (cells8 pre) rfl (HR.out.1.alloc _) ⟨wr.heap.size, 0, none⟩ 1 1 [_] rfl rfl (cell_one_new _ _ _) (by simp [Value.oneCell']) (by unfold maxLen; omega) (by omega) (by simp; omega) ?_))
          intro b' W1 hown hg _ _
          have hbW1 : Below w.heap.size w W1 := (hB.alloc hBs _).grown hg (by simp; omega) (fun g hg => (HR.out.1.lt g hg).1)
          have HO := Lib.hid hown
          have hsW1 := hbW1.size
          clear hown hg
          go_wp2_with fail
          go_roundw
          case rel => exact ⟨k + 2, _, _, by omega, by simp; omega, by go_num, HS2, Lib.hid ⟨by rw [cells8_append, List.length_append]; exact HO.out, by simp⟩, hbW1⟩
          case measure => simp [intOf]; omega
      · rw [hlen] at hs'
        have HS2 : Hid (v = (pre ++ [i[k]'hlt]) ++ v'' ∧ strV ((tl i).drop (k + 1) ++ [q]) = some (v'', i.size - (k + 1) + 1)) := Lib.hid ⟨by rw [HS.out.1, hvv]; simp, by rw [hs', show i.size - k - 1 + 1 = i.size - (k + 1) + 1 by omega]⟩
        clear hd hst hlen hs' hvv HS
        go_wp2_with (at_builtin; refine wpList_append_own_at _ rfl _ _ 22 rfl w.heap.size 5 i5 (.int .u8 0) 1 1 Tryd.underlying22 hi5 hz0 hz1 hz2 rfl (by decide) _ pre.length (cells8 pre) rfl (HR.out.1.alloc _) ⟨wr.heap.size, 0, none⟩ 1 1 [_] rfl rfl (cell_one_new _ _ _) (by simp [Value.oneCell']) (by unfold maxLen; omega) (by omega) (by simp; omega) ?_)
        intro b' W1 hown hg _ _
        have hbW1 : Below w.heap.size w W1 := (hB.alloc hBs _).grown hg (by simp; omega) (fun g hg => (HR.out.1.lt g hg).1)
        have HO := Lib.hid hown
        have hsW1 := hbW1.size
        clear hown hg
        go_wp2_with fail
        go_roundw
        case rel => exact ⟨k + 1, _, _, by omega, by simp; omega, by go_num, HS2, Lib.hid ⟨by simpa [cells8] using HO.out, by simp⟩, hbW1⟩
        case measure => simp [intOf]; omega
    · obtain rfl : k = i.size := by omega
      have hnil : (tl i).drop i.size = [] := List.drop_eq_nil_of_le (by omega)
      have hst := HS.out.2
      rw [hnil, List.nil_append] at hst
      have hv0 := strV_end q v' _ hst
      have hvp : v = pre := by rw [HS.out.1, hv0, List.append_nil]
      subst hvp
      have hcv := own_text HR.out.1 HR.out.2
      clear hnil hst hv0 HS
      go_wp2_with fail
      go_ret
      exact ⟨rfl, hB⟩
end Go.Proofs.YtocepddgegnfaaaDoor
