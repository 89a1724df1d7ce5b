/- The token of a string, and a token written: the program's own two functions. -/
import Derived.Test.YtocepddgegnfaaaDoorNamesLaw
import Derived.Test.YtocepddgegnfaaaDoorWritten
namespace Go.Proofs.YtocepddgegnfaaaDoor
open Go Go.Proofs Go.RowKit

theorem cell_two_new (w : World) (x y : Value) (t : TypeId) : ∀ j u, [x, y][j]? = some u → (w.alloc (.cells #[x, y] t)).cell? ((⟨w.heap.size, 0, none⟩ : Addr).add j) = some u := by
  intro j u hj
  have hn := World.alloc_heap_new w (.cells #[x, y] t)
  rw [add_none]
  match j, hj with
  | 0, hj => simp at hj; subst hj; simp only [World.cell?, hn]; rfl
  | 1, hj => simp at hj; subst hj; simp only [World.cell?, hn]; rfl
theorem idx_meant (c : UInt8) : ∃ j : Int, (∀ w, Calls Tryd.prog 26 #[.string ⟨#[92, 34, 10]⟩, .int .u8 (c.toNat : Int)] w fun e w' => e = .returned (.int .i64 j) ∧ w = w') ∧ ((j = 0 ∧ c = 92) ∨ (j = 1 ∧ c = 34) ∨ (j = 2 ∧ c = 10) ∨ (j = -1 ∧ c ≠ 92 ∧ c ≠ 34 ∧ c ≠ 10)) := by
  refine ⟨_, index_any ⟨#[92, 34, 10]⟩ _, ?_⟩
  by_cases h1 : c = 92
  · subst h1; exact .inl ⟨rfl, rfl⟩
  by_cases h2 : c = 34
  · subst h2; exact .inr (.inl ⟨rfl, rfl⟩)
  by_cases h3 : c = 10
  · subst h3; exact .inr (.inr (.inl ⟨rfl, rfl⟩))
  refine .inr (.inr (.inr ⟨?_, h1, h2, h3⟩))
  have e : tl ⟨#[92, 34, 10]⟩ = [92, 34, 10] := rfl
  rw [e]
  simp [Lib.indexByte, Ne.symm h1, Ne.symm h2, Ne.symm h3]

set_option maxRecDepth 100000 in
set_option maxHeartbeats 4000000 in
theorem quote_any (s : ByteArray) (hs : s.size ≤ 1048576) (w : World) :
    Calls Tryd.prog 22 #[.string s] w fun e w' => e = .returned (.string ⟨(34 :: (quoteL (tl s) ++ [34])).toArray⟩) ∧ Below w.heap.size w w' := by
  have hil := tl_length s
  obtain ⟨i5, hi5, hz0, hz1, hz2⟩ := info_parts info5
  go_enter Tryd.func22, Tryd.ntmps22
  go_wp2_with fail
  have h0 : (w.alloc (.cells #[.int .u8 34] 5)).ownsRow w.heap.size 5 1 (.slice (some ⟨w.heap.size, 0, none⟩) 1 1) 1 (cells8 [34]) :=
    World.ownsRow_lit w #[.int .u8 34] 1 (Nat.le_refl _) (by unfold maxLen; omega) rfl
  go_loopw [3, 4, 5, 9] (fun b _ _ i wr => ∃ (k : Nat) (pre : List UInt8), k ≤ s.size ∧ pre.length ≤ 2 * k ∧ i = .int .i64 k ∧ Hid (pre = quoteL ((tl s).take k)) ∧ Hid (wr.ownsRow w.heap.size 5 1 b (pre.length + 1) (cells8 (34 :: pre))) ∧ Below w.heap.size w wr)
    (fun _ _ _ i _ => s.size - (intOf i).toNat)
  case atStart => exact ⟨0, [], Nat.zero_le _, Nat.zero_le _, rfl, Lib.hid rfl, Lib.hid h0, (Below.refl _ _).alloc (Nat.le_refl _) _⟩
  case round =>
    obtain ⟨k, pre, hk, hpk, rfl, HS, HR, hB⟩ := hrel
    have hBs := hB.size
    by_cases hlt : k < s.size
    · have hc := (s[k]'hlt).toNat_lt
      have HS2 : Hid (pre ++ quoteB (s[k]'hlt) = quoteL ((tl s).take (k + 1))) := Lib.hid (by
        have e : (tl s).take (k + 1) = (tl s).take k ++ [s[k]'hlt] := by
          rw [List.take_succ_eq_append_getElem (by omega)]
          congr 2
        rw [e, quoteL_append, ← HS.out]
        simp [quoteL])
      obtain ⟨j, ci, hj⟩ := idx_meant (s[k]'hlt)
      rcases hj with ⟨rfl, e⟩ | ⟨rfl, e⟩ | ⟨rfl, e⟩ | ⟨rfl, e1, e2, e3⟩
      · rw [e] at HS2
        clear e
        go_wp2_with (first | (go_at_call 26; refine (ci _).mono ?_; rintro e w' ⟨rfl, rfl⟩) | (at_builtin; refine wpList_append_own_at _ rfl _ _ 22 rfl w.heap.size 5 i5 (.int .u8 0) 1 1 Tryd.underlying22 hi5 hz0 hz1 hz2 rfl (by decide) _ (pre.length + 1) (cells8 (34 :: pre)) rfl (HR.out.alloc _) ⟨wr.heap.size, 0, none⟩ 2 2 [_, _] rfl rfl (cell_two_new _ _ _ _) (by simp [Value.oneCell']) (by unfold maxLen; omega) (by omega) (by simp; omega) ?_))
        intro b' W1 hown hg _ _
        have hbW1 : Below w.heap.size w W1 := (hB.alloc hBs _).grown hg (by simp; omega) (fun g hg => (HR.out.lt g hg).1)
        have HO := Lib.hid hown
        have hsW1 := hbW1.size
        clear hown hg
        go_wp2_with fail
        go_roundw
        case rel => exact ⟨k + 1, pre ++ [92, 92], by omega, by simp; omega, by go_num, HS2, Lib.hid (by
          have h := HO.out
          have e : cells8 (34 :: (pre ++ [92, 92])) = cells8 (34 :: pre) ++ [.int .u8 92, .int .u8 92] := by simp [cells8]
          rw [e, List.length_append]
          exact h), hbW1⟩
        case measure => simp [intOf]; omega
      · rw [e] at HS2
        clear e
        go_wp2_with (first | (go_at_call 26; refine (ci _).mono ?_; rintro e w' ⟨rfl, rfl⟩) | (at_builtin; refine wpList_append_own_at _ rfl _ _ 22 rfl w.heap.size 5 i5 (.int .u8 0) 1 1 Tryd.underlying22 hi5 hz0 hz1 hz2 rfl (by decide) _ (pre.length + 1) (cells8 (34 :: pre)) rfl (HR.out.alloc _) ⟨wr.heap.size, 0, none⟩ 2 2 [_, _] rfl rfl (cell_two_new _ _ _ _) (by simp [Value.oneCell']) (by unfold maxLen; omega) (by omega) (by simp; omega) ?_))
        intro b' W1 hown hg _ _
        have hbW1 : Below w.heap.size w W1 := (hB.alloc hBs _).grown hg (by simp; omega) (fun g hg => (HR.out.lt g hg).1)
        have HO := Lib.hid hown
        have hsW1 := hbW1.size
        clear hown hg
        go_wp2_with fail
        go_roundw
        case rel => exact ⟨k + 1, pre ++ [92, 34], by omega, by simp; omega, by go_num, HS2, Lib.hid (by
          have h := HO.out
          have e : cells8 (34 :: (pre ++ [92, 34])) = cells8 (34 :: pre) ++ [.int .u8 92, .int .u8 34] := by simp [cells8]
          rw [e, List.length_append]
          exact h), hbW1⟩
        case measure => simp [intOf]; omega
      · rw [e] at HS2
        clear e
        go_wp2_with (first | (go_at_call 26; refine (ci _).mono ?_; rintro e w' ⟨rfl, rfl⟩) | (at_builtin; refine wpList_append_own_at _ rfl _ _ 22 rfl w.heap.size 5 i5 (.int .u8 0) 1 1 Tryd.underlying22 hi5 hz0 hz1 hz2 rfl (by decide) _ (pre.length + 1) (cells8 (34 :: pre)) rfl (HR.out.alloc _) ⟨wr.heap.size, 0, none⟩ 2 2 [_, _] rfl rfl (cell_two_new _ _ _ _) (by simp [Value.oneCell']) (by unfold maxLen; omega) (by omega) (by simp; omega) ?_))
        intro b' W1 hown hg _ _
        have hbW1 : Below w.heap.size w W1 := (hB.alloc hBs _).grown hg (by simp; omega) (fun g hg => (HR.out.lt g hg).1)
        have HO := Lib.hid hown
        have hsW1 := hbW1.size
        clear hown hg
        go_wp2_with fail
        go_roundw
        case rel => exact ⟨k + 1, pre ++ [92, 110], by omega, by simp; omega, by go_num, HS2, Lib.hid (by
          have h := HO.out
          have e : cells8 (34 :: (pre ++ [92, 110])) = cells8 (34 :: pre) ++ [.int .u8 92, .int .u8 110] := by simp [cells8]
          rw [e, List.length_append]
          exact h), hbW1⟩
        case measure => simp [intOf]; omega
      · have eq1 : quoteB (s[k]'hlt) = [s[k]'hlt] := by
          unfold quoteB
          rw [if_neg (show ¬ (s[k]'hlt).toNat = 92 from fun h => e1 (UInt8.toNat_inj.1 h)), if_neg (show ¬ (s[k]'hlt).toNat = 34 from fun h => e2 (UInt8.toNat_inj.1 h)), if_neg (show ¬ (s[k]'hlt).toNat = 10 from fun h => e3 (UInt8.toNat_inj.1 h))]
        rw [eq1] at HS2
        clear eq1 e1 e2 e3
        go_wp2_with (first | (go_at_call 26; refine (ci _).mono ?_; rintro e w' ⟨rfl, rfl⟩) | (at_builtin; refine wpList_append_own_at _ rfl _ _ 22 rfl w.heap.size 5 i5 (.int .u8 0) 1 1 Tryd.underlying22 hi5 hz0 hz1 hz2 rfl (by decide) _ (pre.length + 1) (cells8 (34 :: pre)) rfl (HR.out.alloc _) ⟨wr.heap.size, 0, none⟩ 1 1 [_] rfl rfl (cell_one_new _ _ _) (by simp [Value.oneCell']) (by unfold maxLen; omega) (by omega) (by simp; omega) ?_))
        intro b' W1 hown hg _ _
        have hbW1 : Below w.heap.size w W1 := (hB.alloc hBs _).grown hg (by simp; omega) (fun g hg => (HR.out.lt g hg).1)
        have HO := Lib.hid hown
        have hsW1 := hbW1.size
        clear hown hg
        go_wp2_with fail
        go_roundw
        case rel => exact ⟨k + 1, pre ++ [s[k]'hlt], by omega, by simp; omega, by go_num, HS2, Lib.hid (by
          have h := HO.out
          have e : cells8 (34 :: (pre ++ [s[k]'hlt])) = cells8 (34 :: pre) ++ [.int .u8 ((s[k]'hlt).toNat : Int)] := by simp [cells8]
          rw [e, List.length_append]
          exact h), hbW1⟩
        case measure => simp [intOf]; omega
    · obtain rfl : k = s.size := by omega
      have hq : pre = quoteL (tl s) := by rw [HS.out, List.take_of_length_le (by omega)]
      subst hq
      clear HS
      go_wp2_with (at_builtin; refine wpList_append_own_at _ rfl _ _ 22 rfl w.heap.size 5 i5 (.int .u8 0) 1 1 Tryd.underlying22 hi5 hz0 hz1 hz2 rfl (by decide) _ ((quoteL (tl s)).length + 1) (cells8 (34 :: quoteL (tl s))) rfl (HR.out.alloc _) ⟨wr.heap.size, 0, none⟩ 1 1 [_] rfl rfl (cell_one_new _ _ _) (by simp [Value.oneCell']) (by unfold maxLen; omega) (by omega) (by simp; omega) ?_)
      intro b' W1 hown hg _ _
      have hbW1 : Below w.heap.size w W1 := (hB.alloc hBs _).grown hg (by simp; omega) (fun g hg => (HR.out.lt g hg).1)
      have hcv := own_text (w := W1) (B := w.heap.size) (v := b') (l := 34 :: (quoteL (tl s) ++ [34])) (by
        have e : cells8 (34 :: (quoteL (tl s) ++ [34])) = cells8 (34 :: quoteL (tl s)) ++ [.int .u8 34] := by simp [cells8]
        rw [e, List.length_cons, List.length_append]
        exact hown) (by simp)
      clear hown hg HR
      go_wp2_with fail
      go_ret
      exact ⟨rfl, hbW1⟩

set_option maxRecDepth 100000 in
set_option maxHeartbeats 4000000 in
theorem write_any (k p : Nat) (s : ByteArray) (hs : s.size ≤ 1048576) (w : World) :
    Calls Tryd.prog 12 #[.agg #[.int .i64 (k : Int), .string s, .int .i64 (p : Int)]] w fun e w' => e = .returned (.string ⟨(writeL k (tl s)).toArray⟩) ∧ Below w.heap.size w w' := by
  have cQ := fun W hW => (quote_any s hs W).mono fun e W' (h : e = .returned (.string ⟨(34 :: (quoteL (tl s) ++ [34])).toArray⟩) ∧ Below W.heap.size W W') => (⟨h.1, Below.trans hW (h.2.mono hW.size)⟩ : e = .returned (.string ⟨(34 :: (quoteL (tl s) ++ [34])).toArray⟩) ∧ Below w.heap.size w W')
  by_cases h3 : k = 3
  · subst h3
    have e : (⟨#[35]⟩ : ByteArray) ++ s = ⟨(writeL 3 (tl s)).toArray⟩ := by
      rw [mk_tl (⟨#[35]⟩ ++ s), tl_append]; rfl
    rw [← e]
    clear e
    go_enter Tryd.func12, Tryd.ntmps12
    go_wp2_with fail
    go_ret
    exact ⟨rfl, (Below.refl _ _).alloc (Nat.le_refl _) _⟩
  · by_cases h6 : k = 6
    · subst h6
      have e : writeL 6 (tl s) = 34 :: (quoteL (tl s) ++ [34]) := rfl
      rw [e]
      clear e h3
      go_enter Tryd.func12, Tryd.ntmps12
      go_wp2_with (go_at_call 22; with_reducible refine (cQ _ ((Below.refl _ _).alloc (Nat.le_refl _) _)).mono ?_; rintro e w1 ⟨rfl, hb1⟩)
      go_ret
      exact ⟨rfl, hb1⟩
    · have e : writeL k (tl s) = tl s := by unfold writeL; rw [if_neg h3, if_neg h6]
      have e3 : ((k : Int) == 3) = false := by simp; omega
      have e6 : ((k : Int) == 6) = false := by simp; omega
      rw [e, ← mk_tl s]
      clear e h3 h6 cQ
      go_enter Tryd.func12, Tryd.ntmps12
      go_wp2_with fail
      go_ret
      exact ⟨rfl, (Below.refl _ _).alloc (Nat.le_refl _) _⟩
end Go.Proofs.YtocepddgegnfaaaDoor
