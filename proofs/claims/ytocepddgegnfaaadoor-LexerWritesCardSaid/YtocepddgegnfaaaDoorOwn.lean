/- Tokens written with blanks between them are those tokens again: as plain functions; no condition. -/
import Derived.Test.YtocepddgegnfaaaDoorCont
namespace Go.Proofs.YtocepddgegnfaaaDoor

theorem tw_take (q : UInt8 → Bool) (r : List UInt8) : ((r.take (r.takeWhile q).length).takeWhile q).length = (r.takeWhile q).length ∧ ∀ x ∈ r.take (r.takeWhile q).length, q x = true := by
  induction r with
  | nil => simp
  | cons c r ih =>
    cases hc : q c
    · simp [hc]
    · simp only [List.takeWhile_cons, hc, if_true, List.length_cons, List.take_succ_cons]
      refine ⟨by rw [ih.1], fun x hx => ?_⟩
      rcases List.mem_cons.1 hx with rfl | hx
      · exact hc
      · exact ih.2 x hx
theorem span_take (p q : UInt8 → Bool) (l : List UInt8) : spanN p q (l.take (spanN p q l)) = spanN p q l := by
  cases l with
  | nil => rfl
  | cons c r =>
    cases hc : p c
    · rw [spanN_zero _ _ _ _ hc]; rfl
    · rw [spanN_cons _ _ _ _ hc, List.take_succ_cons, spanN_cons _ _ _ _ hc, (tw_take q r).1]
theorem span_all (p q : UInt8 → Bool) (l : List UInt8) : ∀ x ∈ l.take (spanN p q l), p x = true ∨ q x = true := by
  cases l with
  | nil => simp
  | cons c r =>
    cases hc : p c
    · rw [spanN_zero _ _ _ _ hc]; simp
    · rw [spanN_cons _ _ _ _ hc, List.take_succ_cons]
      intro x hx
      rcases List.mem_cons.1 hx with rfl | hx
      · exact .inl hc
      · exact .inr ((tw_take q r).2 x hx)
theorem lead_take (l : List UInt8) (n : Nat) (h : leadB l = false) : leadB (l.take n) = false := by
  unfold leadB at *
  rw [decide_eq_false_iff_not] at *
  intro e
  rw [List.take_take] at e
  have hl := congrArg List.length e
  rw [List.length_take] at hl
  simp only [List.length_cons, List.length_nil] at hl
  have : min 2 n = 2 := by omega
  rw [this] at e
  exact h e
theorem dig_low (x : UInt8) (h : digB x = true) : x.toNat < 128 := by
  have h' : 48 ≤ x.toNat ∧ x.toNat ≤ 57 := by simpa [digB] using h
  omega
theorem word_low (x : UInt8) (h : lowB x = true ∨ wordB' x = true) : x.toNat < 128 := by
  rcases h with h | h
  · exact (low_plain x h).1
  · exact (word_plain x h).1
theorem alias_low (x : UInt8) (h : highB x = true ∨ aliB x = true) : x.toNat < 128 := by
  rcases h with h | h
  · have h' : 65 ≤ x.toNat ∧ x.toNat ≤ 90 := by simpa [highB] using h
    omega
  · have h' : ((65 ≤ x.toNat ∧ x.toNat ≤ 90) ∨ (97 ≤ x.toNat ∧ x.toNat ≤ 122)) ∨ (48 ≤ x.toNat ∧ x.toNat ≤ 57) := by simpa [aliB, highB, smallB, digB] using h
    omega
theorem hex_low (x : UInt8) (h : hexB x = true) : x.toNat < 128 := by
  have h' : (48 ≤ x.toNat ∧ x.toNat ≤ 57) ∨ (97 ≤ x.toNat ∧ x.toNat ≤ 102) := by simpa [hexB, digB] using h
  omega
theorem int_take (l : List UInt8) (h : intN l ≠ 0) : intN l = digN l ∧ intN (l.take (digN l)) = digN l := by
  unfold intN at *
  split at h
  · rename_i hc
    rw [if_pos hc]
    have hs : digN (l.take (digN l)) = digN l := span_take _ _ _
    refine ⟨rfl, ?_⟩
    rw [hs, List.take_take, Nat.min_self, if_pos]
    refine ⟨?_, hc.2⟩
    rcases hc.1 with h1 | h1
    · exact .inl h1
    · right
      rw [List.getD_eq_getElem?_getD, List.getElem?_take_of_lt (by omega), ← List.getD_eq_getElem?_getD]
      exact h1
  · exact absurd rfl h
theorem sign_take (c : UInt8) (r : List UInt8) : signN ((c :: r).take (signN (c :: r))) = signN (c :: r) ∧ ∀ x ∈ (c :: r).take (signN (c :: r)), x.toNat < 128 := by
  unfold signN
  split
  · rename_i h
    rw [List.take_take, Nat.min_self, if_pos h]
    refine ⟨rfl, ?_⟩
    revert h
    generalize List.take 2 (c :: r) = z
    intro h
    have : ∀ z ∈ twos, ∀ x ∈ z, x.toNat < 128 := by decide
    exact this z h
  · rename_i h
    split
    · rename_i h2
      have e : (c :: r).getD 0 0 = c := rfl
      rw [e] at h2
      have : List.take 1 (c :: r) = [c] := rfl
      rw [this]
      have h3 : List.take 2 [c] = [c] := rfl
      have h4 : [c].getD 0 0 = c := rfl
      have h1 : ¬ ([c] ∈ twos) := by simp [twos]
      rw [h3, if_neg h1, h4, if_pos h2]
      refine ⟨rfl, fun x hx => ?_⟩
      rw [List.mem_singleton] at hx
      subst hx
      have : ∀ z ∈ ones, z.toNat < 128 := by decide
      exact this _ h2
    · rw [List.take_zero]
      simp [twos, ones]
theorem getD_take (l : List UInt8) (n : Nat) (h : 0 < n) : (l.take n).getD 0 0 = l.getD 0 0 := by
  rw [List.getD_eq_getElem?_getD, List.getElem?_take_of_lt h, ← List.getD_eq_getElem?_getD]

/-- A token that is no string stands by itself, and is plain. -/
theorem tok_own {l : List UInt8} {k : Nat} {t : List UInt8} {n : Nat} (h : tok l = some ((k, t), n)) (h6 : k ≠ 6) :
    tok (l.take n) = some ((k, t), n) ∧ (if k = 3 then 35 :: t else t) = l.take n ∧ ∀ c ∈ l.take n, c.toNat < 128 := by
  match l, h with
  | [], h => simp [tok] at h
  | c :: r, h =>
    have hlen := tok_le h
    rw [tok] at h
    split at h
    · rename_i c1
      split at h
      · rename_i c2
        cases h
        have c1' : (c :: r).take 2 = [102, 39] := by simpa [leadB] using c1
        have c2' : 18 ≤ (c :: r).length ∧ (((c :: r).drop 2).take 16).all hexB = true := by simpa only [fltB, Bool.and_eq_true, decide_eq_true_eq] using c2
        refine ⟨?_, rfl, ?_⟩
        · rw [List.take_succ_cons, tok, ← List.take_succ_cons]
          have h1 : leadB ((c :: r).take (17 + 1)) = true := by unfold leadB; rw [List.take_take, show min 2 (17 + 1) = 2 from rfl, c1']; rfl
          have h2 : fltB ((c :: r).take (17 + 1)) = true := by
            unfold fltB
            rw [List.drop_take, List.take_take, show min 16 (17 + 1 - 2) = 16 from rfl, c2'.2, List.length_take, Nat.min_eq_left c2'.1]
            rfl
          rw [if_pos h1, if_pos h2, List.take_take, Nat.min_self]
        · intro x hx
          have e : (c :: r).take 18 = (c :: r).take 2 ++ ((c :: r).drop 2).take 16 := by
            rw [← List.take_add]
          rw [e, c1', List.mem_append] at hx
          rcases hx with hx | hx
          · have : ∀ z ∈ [(102 : UInt8), 39], z.toNat < 128 := by decide
            exact this x hx
          · exact hex_low x (List.all_eq_true.1 c2'.2 x hx)
      · cases h
    rename_i c1
    have c1' : leadB (c :: r) = false := by simpa using c1
    split at h
    · simp only [Option.map_eq_some_iff] at h
      obtain ⟨x, hx, e⟩ := h
      cases e
      exact absurd rfl h6
    rename_i c2
    split at h
    · rename_i c3
      split at h
      · cases h
      · rename_i c4
        cases h
        have hc : c = 35 := UInt8.toNat_inj.1 c3
        have hs : nameN (r.take (nameN r)) = nameN r := span_take _ _ _
        refine ⟨?_, ?_, ?_⟩
        · have hl := lead_take (c :: r) (nameN r + 1) c1'
          rw [List.take_succ_cons] at hl ⊢
          rw [tok, hl, if_neg (by decide), if_neg c2, if_pos c3, hs, if_neg c4, List.take_take, Nat.min_self]
        · rw [if_pos rfl, List.take_succ_cons, hc]
        · intro x hx
          rw [List.take_succ_cons] at hx
          rcases List.mem_cons.1 hx with rfl | hx
          · omega
          · exact word_low x (span_all _ _ _ x hx)
    rename_i c3
    split at h
    · rename_i c4
      split at h
      · cases h
      · rename_i c5
        cases h
        obtain ⟨i1, i2⟩ := int_take _ c5
        refine ⟨?_, rfl, ?_⟩
        · have hl := lead_take (c :: r) (intN (c :: r)) c1'
          obtain ⟨m, hm⟩ : ∃ m, intN (c :: r) = m + 1 := ⟨intN (c :: r) - 1, by omega⟩
          have i3 : intN ((c :: r).take (m + 1)) = m + 1 := by rw [← hm, i1, i2]
          rw [hm] at hl ⊢
          rw [List.take_succ_cons] at hl i3 ⊢
          rw [tok, hl, if_neg (by decide), if_neg c2, if_neg c3, c4, if_pos rfl, i3, if_neg (by omega), ← List.take_succ_cons, List.take_take, Nat.min_self]
        · rw [i1]
          intro x hx
          rcases span_all _ _ _ x hx with h | h <;> exact dig_low x h
    rename_i c4
    split at h
    · rename_i c5
      cases h
      refine ⟨?_, by rw [if_neg (by split <;> decide)], fun x hx => word_low x (span_all _ _ _ x hx)⟩
      have hl := lead_take (c :: r) (nameN (c :: r)) c1'
      have i3 : nameN ((c :: r).take (nameN (c :: r))) = nameN (c :: r) := span_take _ _ _
      obtain ⟨m, hm⟩ : ∃ m, nameN (c :: r) = m + 1 := ⟨nameN (c :: r) - 1, by omega⟩
      rw [hm] at hl i3 ⊢
      rw [List.take_succ_cons] at hl i3 ⊢
      rw [tok, hl, if_neg (by decide), if_neg c2, if_neg c3, if_neg c4, c5, if_pos rfl, i3, ← List.take_succ_cons, List.take_take, Nat.min_self]
    rename_i c5
    split at h
    · rename_i c6
      cases h
      refine ⟨?_, rfl, fun x hx => alias_low x (span_all _ _ _ x hx)⟩
      have hl := lead_take (c :: r) (aliasN (c :: r)) c1'
      have i3 : aliasN ((c :: r).take (aliasN (c :: r))) = aliasN (c :: r) := span_take _ _ _
      obtain ⟨m, hm⟩ : ∃ m, aliasN (c :: r) = m + 1 := ⟨aliasN (c :: r) - 1, by omega⟩
      rw [hm] at hl i3 ⊢
      rw [List.take_succ_cons] at hl i3 ⊢
      rw [tok, hl, if_neg (by decide), if_neg c2, if_neg c3, if_neg c4, if_neg c5, c6, if_pos rfl, i3, ← List.take_succ_cons, List.take_take, Nat.min_self]
    rename_i c6
    split at h
    · cases h
    · rename_i c7
      cases h
      obtain ⟨i3, i4⟩ := sign_take c r
      refine ⟨?_, rfl, i4⟩
      have hl := lead_take (c :: r) (signN (c :: r)) c1'
      obtain ⟨m, hm⟩ : ∃ m, signN (c :: r) = m + 1 := ⟨signN (c :: r) - 1, by omega⟩
      rw [hm] at hl i3 ⊢
      rw [List.take_succ_cons] at hl i3 ⊢
      rw [tok, hl, if_neg (by decide), if_neg c2, if_neg c3, if_neg c4, if_neg c5, if_neg c6, i3, if_neg (by omega), ← List.take_succ_cons, List.take_take, Nat.min_self]
end Go.Proofs.YtocepddgegnfaaaDoor
