/- What stands behind a token, or blanks, changes neither: as plain functions; no condition. -/
import Derived.Test.YtocepddgegnfaaaDoorNameMath
namespace Go.Proofs.YtocepddgegnfaaaDoor

/-- A byte that goes on no token: a line feed, a blank. -/
def isEnd (d : UInt8) : Prop := d = 10 ∨ d = 32
theorem end_word {d : UInt8} (h : isEnd d) : wordB' d = false ∧ aliB d = false ∧ digB d = false ∧ hexB d = false := by
  rcases h with rfl | rfl <;> decide

theorem tw_append (q : UInt8 → Bool) (l t : List UInt8) (d : UInt8) (h : q d = false) : ((l ++ d :: t).takeWhile q).length = (l.takeWhile q).length := by
  induction l with
  | nil => simp [h]
  | cons c r ih =>
    by_cases hc : q c = true
    · simp [hc]
      simpa using ih
    · simp [hc]
theorem span_append (p q : UInt8 → Bool) (l t : List UInt8) (d : UInt8) (hp : p d = false) (hq : q d = false) : spanN p q (l ++ d :: t) = spanN p q l := by
  cases l with
  | nil => simp [spanN, hp]
  | cons c r =>
    rw [List.cons_append]
    cases hc : p c
    · rw [spanN_zero _ _ _ _ hc, spanN_zero _ _ _ _ hc]
    · rw [spanN_cons _ _ _ _ hc, spanN_cons _ _ _ _ hc, tw_append q r t d hq]
theorem take_app (l t : List UInt8) (n : Nat) (h : n ≤ l.length) : (l ++ t).take n = l.take n := by
  rw [List.take_append_of_le_length h]
theorem nameN_append (l t : List UInt8) (d : UInt8) (h : isEnd d) : nameN (l ++ d :: t) = nameN l := span_append _ _ _ _ _ (by rcases h with rfl | rfl <;> decide) (end_word h).1
theorem aliasN_append (l t : List UInt8) (d : UInt8) (h : isEnd d) : aliasN (l ++ d :: t) = aliasN l := span_append _ _ _ _ _ (by rcases h with rfl | rfl <;> decide) (end_word h).2.1
theorem digN_append (l t : List UInt8) (d : UInt8) (h : isEnd d) : digN (l ++ d :: t) = digN l := span_append _ _ _ _ _ (end_word h).2.2.1 (end_word h).2.2.1
theorem intN_append (c : UInt8) (r t : List UInt8) (d : UInt8) (h : isEnd d) : intN (c :: r ++ d :: t) = intN (c :: r) := by
  unfold intN
  have hb : digN (c :: r) ≤ (c :: r).length := spanN_le _ _ _
  rw [digN_append _ _ _ h, take_app _ _ _ hb]
  rfl
theorem signN_append (c : UInt8) (r t : List UInt8) (d : UInt8) (h : isEnd d) : signN (c :: r ++ d :: t) = signN (c :: r) := by
  unfold signN
  have hg : (c :: r ++ d :: t).getD 0 0 = (c :: r).getD 0 0 := rfl
  rw [hg]
  cases r with
  | cons e r => simp [List.take_succ_cons]
  | nil =>
    have h1 : ¬ ([c, d] ∈ twos) := by
      rcases h with rfl | rfl
      · simp [twos]
      · simp [twos]
    have h2 : ¬ ([c] ∈ twos) := by simp [twos]
    simp [List.take_succ_cons, h1, h2]
theorem leadB_append (c : UInt8) (r t : List UInt8) (d : UInt8) (h : isEnd d) : leadB (c :: r ++ d :: t) = leadB (c :: r) := by
  unfold leadB
  cases r with
  | cons e r => simp [List.take_succ_cons]
  | nil => rcases h with rfl | rfl <;> simp [List.take_succ_cons]
theorem noteB_append (c : UInt8) (r t : List UInt8) (d : UInt8) (h : isEnd d) : noteB (c :: r ++ d :: t) = noteB (c :: r) := by
  unfold noteB
  cases r with
  | cons e r => simp [List.take_succ_cons]
  | nil => rcases h with rfl | rfl <;> simp [List.take_succ_cons]
theorem fltB_append (l t : List UInt8) (d : UInt8) (h2 : 2 ≤ l.length) (h : isEnd d) : fltB (l ++ d :: t) = fltB l := by
  unfold fltB
  by_cases h18 : 18 ≤ l.length
  · have e : ((l ++ d :: t).drop 2).take 16 = (l.drop 2).take 16 := by
      rw [List.drop_append_of_le_length (by omega), take_app _ _ _ (by rw [List.length_drop]; omega)]
    rw [e, decide_eq_true h18, decide_eq_true (by simp; omega)]
  · rw [decide_eq_false h18, Bool.false_and, Bool.and_eq_false_iff]
    right
    rw [List.all_eq_false]
    refine ⟨d, ?_, by rw [(end_word h).2.2.2]; simp⟩
    rw [List.drop_append_of_le_length (by omega)]
    have hl : (l.drop 2).length < 16 := by rw [List.length_drop]; omega
    rw [List.take_append, List.take_of_length_le (by omega)]
    refine List.mem_append_right _ ?_
    have : 16 - (l.drop 2).length = (16 - (l.drop 2).length - 1) + 1 := by omega
    rw [this, List.take_succ_cons]
    exact List.mem_cons_self ..

theorem strV_more : ∀ (m : Nat) (l t : List UInt8) (x : List UInt8 × Nat), l.length ≤ m → strV l = some x → strV (l ++ t) = some x
  | 0, l, t, x, h, hs => by
    obtain rfl : l = [] := List.length_eq_zero_iff.1 (by omega)
    rw [strV_nil] at hs; cases hs
  | m + 1, [], t, x, h, hs => by rw [strV_nil] at hs; cases hs
  | m + 1, c :: r, t, x, h, hs => by
    simp only [List.length_cons] at h
    rw [List.cons_append, strV_cons]
    rw [strV_cons] at hs
    split at hs
    · rename_i c1; rw [if_pos c1]; exact hs
    · rename_i c1
      split at hs
      · cases hs
      · rename_i c2
        split at hs
        · rename_i c3
          rw [if_neg c1, if_neg c2, if_pos c3]
          match r, hs, h with
          | [], hs, _ => cases hs
          | d :: r', hs, h =>
            dsimp only [List.cons_append] at hs ⊢
            cases he : escB d with
            | none => rw [he] at hs; cases hs
            | some e =>
              rw [he] at hs
              dsimp only at hs ⊢
              simp only [Option.map_eq_some_iff] at hs
              obtain ⟨y, hy, rfl⟩ := hs
              rw [strV_more m r' t y (by simp at h; omega) hy]
              rfl
        · rename_i c3
          rw [if_neg c1, if_neg c2, if_neg c3]
          simp only [Option.map_eq_some_iff] at hs
          obtain ⟨y, hy, rfl⟩ := hs
          rw [strV_more m r t y (by omega) hy]
          rfl
theorem strV_feed : ∀ (m : Nat) (l t : List UInt8), l.length ≤ m → strV l = none → strV (l ++ 10 :: t) = none
  | 0, l, t, h, hs => by
    obtain rfl : l = [] := List.length_eq_zero_iff.1 (by omega)
    rw [List.nil_append, strV_cons]; rfl
  | m + 1, [], t, h, hs => by rw [List.nil_append, strV_cons]; rfl
  | m + 1, c :: r, t, h, hs => by
    simp only [List.length_cons] at h
    rw [List.cons_append, strV_cons]
    rw [strV_cons] at hs
    split at hs
    · cases hs
    · rename_i c1
      rw [if_neg c1]
      split at hs
      · rename_i c2; rw [if_pos c2]
      · rename_i c2
        rw [if_neg c2]
        split at hs
        · rename_i c3
          rw [if_pos c3]
          match r, hs, h with
          | [], _, _ => dsimp only [List.nil_append]; rfl
          | d :: r', hs, h =>
            dsimp only [List.cons_append] at hs ⊢
            cases he : escB d with
            | none => rfl
            | some e =>
              rw [he] at hs
              dsimp only at hs ⊢
              rw [Option.map_eq_none_iff] at hs ⊢
              exact strV_feed m r' t (by simp at h; omega) hs
        · rename_i c3
          rw [if_neg c3]
          rw [Option.map_eq_none_iff] at hs ⊢
          exact strV_feed m r t (by omega) hs

/-- A token stays that token, whatever blank follows. -/
theorem tok_more (l t : List UInt8) (d : UInt8) (h : isEnd d) (x : (Nat × List UInt8) × Nat) (hx : tok l = some x) : tok (l ++ d :: t) = some x := by
  match l, hx with
  | [], hx => simp [tok] at hx
  | c :: r, hx =>
    have hn := nameN_append (c :: r) t d h
    have hal := aliasN_append (c :: r) t d h
    have hnr := nameN_append r t d h
    have hle1 : nameN (c :: r) ≤ (c :: r).length := spanN_le _ _ _
    have hle2 : aliasN (c :: r) ≤ (c :: r).length := spanN_le _ _ _
    have hle3 : nameN r ≤ r.length := spanN_le _ _ _
    have hi := intN_append c r t d h
    have hs := signN_append c r t d h
    have hld := leadB_append c r t d h
    have htk : tok (c :: r ++ d :: t) = tok (c :: (r ++ d :: t)) := rfl
    rw [htk, tok]
    rw [tok] at hx
    rw [← List.cons_append, hld, hi, hn, hal, hs, hnr]
    split at hx
    · rename_i c1
      rw [if_pos c1]
      split at hx
      · rename_i c2
        have h2 : 18 ≤ (c :: r).length := by simp [fltB] at c2; simp; omega
        rw [fltB_append _ _ _ (by omega) h, if_pos c2, take_app _ _ _ h2]
        exact hx
      · cases hx
    rename_i c1
    rw [if_neg c1]
    split at hx
    · rename_i c2
      rw [if_pos c2]
      simp only [Option.map_eq_some_iff] at hx
      obtain ⟨y, hy, rfl⟩ := hx
      rw [strV_more r.length r _ y (Nat.le_refl _) hy]
      rfl
    rename_i c2
    rw [if_neg c2]
    split at hx
    · rename_i c3
      rw [if_pos c3]
      split at hx
      · cases hx
      · rename_i c4
        rw [if_neg c4, take_app _ _ _ hle3]
        exact hx
    rename_i c3
    rw [if_neg c3]
    split at hx
    · rename_i c4
      rw [if_pos c4]
      split at hx
      · cases hx
      · rename_i c5
        rw [if_neg c5, take_app _ _ _ (intN_le _)]
        exact hx
    rename_i c4
    rw [if_neg c4]
    split at hx
    · rename_i c5
      rw [if_pos c5, take_app _ _ _ hle1]
      exact hx
    rename_i c5
    rw [if_neg c5]
    split at hx
    · rename_i c6
      rw [if_pos c6, take_app _ _ _ hle2]
      exact hx
    rename_i c6
    rw [if_neg c6]
    split at hx
    · cases hx
    · rename_i c7
      rw [if_neg c7, take_app _ _ _ (signN_le c r)]
      exact hx
theorem tok_feed (c : UInt8) (r t : List UInt8) (hx : tok (c :: r) = none) : tok (c :: r ++ 10 :: t) = none := by
  have h : isEnd 10 := .inl rfl
  have hnr := nameN_append r t 10 h
  have hi := intN_append c r t 10 h
  have hs := signN_append c r t 10 h
  have hld := leadB_append c r t 10 h
  have htk : tok (c :: r ++ 10 :: t) = tok (c :: (r ++ 10 :: t)) := rfl
  rw [htk, tok]
  rw [tok] at hx
  rw [← List.cons_append, hld, hi, hs, hnr]
  split at hx
  · rename_i c1
    rw [if_pos c1]
    split at hx
    · cases hx
    · rename_i c2
      have h2 : 2 ≤ (c :: r).length := by
        unfold leadB at c1
        rw [decide_eq_true_eq] at c1
        have := congrArg List.length c1
        rw [List.length_take] at this
        simp only [List.length_cons, List.length_nil] at this ⊢
        omega
      rw [fltB_append _ _ _ h2 h, if_neg c2]
  rename_i c1
  rw [if_neg c1]
  split at hx
  · rename_i c2
    rw [if_pos c2]
    rw [Option.map_eq_none_iff] at hx ⊢
    exact strV_feed r.length r t (Nat.le_refl _) hx
  rename_i c2
  rw [if_neg c2]
  split at hx
  · rename_i c3
    rw [if_pos c3]
    split at hx
    · rename_i c4; rw [if_pos c4]
    · cases hx
  rename_i c3
  rw [if_neg c3]
  split at hx
  · rename_i c4
    rw [if_pos c4]
    split at hx
    · rename_i c5; rw [if_pos c5]
    · cases hx
  rename_i c4
  rw [if_neg c4]
  split at hx
  · cases hx
  rename_i c5
  rw [if_neg c5]
  split at hx
  · cases hx
  rename_i c6
  rw [if_neg c6]
  split at hx
  · rename_i c7; rw [if_pos c7]
  · cases hx
end Go.Proofs.YtocepddgegnfaaaDoor
