/- Blanks and notes about a text: as plain functions; no condition. -/
import Derived.Test.YtocepddgegnfaaaDoorCont
namespace Go.Proofs.YtocepddgegnfaaaDoor

theorem noteN_append (l t : List UInt8) : noteN (l ++ 10 :: t) = noteN l := tw_append _ l t 10 (by decide)
/-- Blanks behind go on the blanks ahead, or change them not. -/
theorem skip_feed (t : List UInt8) : ∀ (n : Nat) (l : List UInt8), l.length ≤ n →
    (l.drop (skipN l) = [] → (l ++ 10 :: t).drop (skipN (l ++ 10 :: t)) = (10 :: t).drop (skipN (10 :: t))) ∧ (l.drop (skipN l) ≠ [] → skipN (l ++ 10 :: t) = skipN l)
  | 0, l, h => by
    obtain rfl : l = [] := List.length_eq_zero_iff.1 (by omega)
    exact ⟨fun _ => rfl, fun h => absurd (by simp) h⟩
  | n + 1, [], h => ⟨fun _ => rfl, fun h => absurd (by simp) h⟩
  | n + 1, c :: r, h => by
    simp only [List.length_cons] at h
    by_cases hb : blankB c = true
    · obtain ⟨i1, i2⟩ := skip_feed t n r (by omega)
      rw [List.cons_append, skipN_blank c r hb, skipN_blank c _ hb]
      exact ⟨i1, fun h0 => by rw [i2 h0]⟩
    · by_cases hn : noteB (c :: r) = true
      · have hn' : noteB (c :: r ++ 10 :: t) = true := by rw [noteB_append c r t 10 (.inl rfl)]; exact hn
        have hle := noteN_le (c :: r)
        have h2 := noteN_two _ hn
        obtain ⟨i1, i2⟩ := skip_feed t n ((c :: r).drop (noteN (c :: r))) (by rw [List.length_drop, List.length_cons]; omega)
        rw [skipN_note _ hn', skipN_note _ hn, noteN_append, List.drop_append_of_le_length hle]
        constructor
        · intro h0
          rw [← List.drop_drop] at h0
          rw [← List.drop_drop, List.drop_append_of_le_length hle, i1 h0]
        · intro h0
          rw [← List.drop_drop] at h0
          rw [i2 h0]
      · have hn' : noteB (c :: r ++ 10 :: t) = false := by rw [noteB_append c r t 10 (.inl rfl)]; simpa using hn
        rw [skipN_none c r (by simpa using hb) (by simpa using hn)]
        rw [List.cons_append] at hn' ⊢
        rw [skipN_none c _ (by simpa using hb) hn']
        exact ⟨fun h0 => absurd h0 (by simp), fun _ => rfl⟩

/-- Tokens further on, but for the last; or nothing in both. -/
def Near (j : Nat) : Except Nat (List Tk) → Except Nat (List Tk) → Prop
  | .ok ts, .ok us => ∃ a y z, ts = a ++ [y] ∧ us = a.map (fun x => (x.1, x.2.1, x.2.2 + j)) ++ [z]
  | .error _, .error _ => True
  | _, _ => False
theorem near_prep (j : Nat) (p : Tk) (q : Tk) (hq : q = (p.1, p.2.1, p.2.2 + j)) : ∀ (x y : Except Nat (List Tk)), Near j x y → Near j (prep [p] x) (prep [q] y)
  | .ok ts, .ok us, ⟨a, y, z, h1, h2⟩ => ⟨p :: a, y, z, by simp [h1], by simp [h2, hq]⟩
  | .error _, .error _, _ => trivial
  | .ok _, .error _, h => h
  | .error _, .ok _, h => h
theorem lex_feed (j : Nat) (t : List UInt8) (ht : (10 :: t).drop (skipN (10 :: t)) = []) : ∀ (n : Nat) (l : List UInt8) (k : Nat), l.length ≤ n → Near j (lexR l k) (lexR (l ++ 10 :: t) (k + j)) := by
  intro n
  induction n with
  | zero =>
    intro l k h
    obtain rfl : l = [] := List.length_eq_zero_iff.1 (by omega)
    rw [lexR_end [] k (by simp), List.nil_append, lexR_end _ _ ht]
    exact ⟨[], _, _, rfl, rfl⟩
  | succ n ih =>
    intro l k h
    obtain ⟨s1, s2⟩ := skip_feed t l.length l (Nat.le_refl _)
    by_cases h0 : l.drop (skipN l) = []
    · rw [lexR_end _ _ h0, lexR_end _ _ (by rw [s1 h0]; exact ht)]
      exact ⟨[], _, _, rfl, rfl⟩
    · have hs := s2 h0
      have hle := skipN_le l.length l (Nat.le_refl _)
      have hd : (l ++ 10 :: t).drop (skipN (l ++ 10 :: t)) = l.drop (skipN l) ++ 10 :: t := by rw [hs, List.drop_append_of_le_length hle]
      cases hx : tok (l.drop (skipN l)) with
      | none =>
        rw [lexR_none _ _ h0 hx]
        have hx' : tok (l.drop (skipN l) ++ 10 :: t) = none := by
          match he : l.drop (skipN l), h0, hx with
          | c :: r, _, hx => exact tok_feed c r t hx
        rw [lexR_none _ _ (by rw [hd]; simp) (by rw [hd]; exact hx')]
        trivial
      | some x =>
        obtain ⟨y, m⟩ := x
        have hm := tok_le hx
        rw [List.length_drop] at hm
        have hx' := tok_more _ t 10 (.inl rfl) _ hx
        rw [lexR_some _ _ y m hx, lexR_some (l ++ 10 :: t) (k + j) y m (by rw [hd]; exact hx'), hs, List.drop_append_of_le_length (by omega)]
        have e : k + j + skipN l = k + skipN l + j := by omega
        have e2 : k + j + skipN l + m = k + skipN l + m + j := by omega
        rw [e2, e]
        exact near_prep j _ _ rfl _ _ (ih _ _ (by rw [List.length_drop]; omega))

def aheadL : List UInt8 := [9, 32, 47, 47, 32, 110, 111, 116, 101, 10]
def behindL : List UInt8 := [10, 32, 13, 47, 47, 32, 34, 63]
theorem behind_skip : behindL.drop (skipN behindL) = [] := by
  have h : skipN behindL = 8 := by
    unfold behindL
    rw [skipN_blank _ _ (by decide), skipN_blank _ _ (by decide), skipN_blank _ _ (by decide), skipN_note _ (by decide)]
    have : noteN [47, 47, 32, 34, 63] = 5 := by decide
    rw [this]
    have : List.drop 5 [(47 : UInt8), 47, 32, 34, 63] = [] := rfl
    rw [this, skipN_nil]
  rw [h]; rfl
theorem ahead_skip (l : List UInt8) (k : Nat) : lexR (aheadL ++ l) k = lexR l (k + 10) := by
  unfold aheadL
  simp only [List.cons_append, List.nil_append]
  rw [lexR_blank _ _ _ (by decide), lexR_blank _ _ _ (by decide), lexR_note _ _ (by simp [noteB])]
  have h : noteN (47 :: 47 :: 32 :: 110 :: 111 :: 116 :: 101 :: 10 :: l) = 7 := by simp [noteN]
  rw [h]
  have e : List.drop 7 (47 :: 47 :: 32 :: 110 :: 111 :: 116 :: 101 :: 10 :: l) = 10 :: l := rfl
  rw [e, lexR_blank _ _ _ (by decide)]
theorem okU_about (l : List UInt8) : okU (aheadL ++ l ++ behindL) ↔ okU l := by
  constructor
  · intro h
    rw [List.append_assoc] at h
    have h1 := okU_behind aheadL _ (by decide) h
    exact okU_head l.length l behindL (Nat.le_refl _) (fun c r e => by unfold behindL at e; cases e; decide) h1
  · intro h
    exact okU_append _ _ (okU_append _ _ (okU_all _ (by decide)) h) (okU_all _ (by decide))

/-- Tokens about blanks and notes: the same, ten bytes further on; or nothing. -/
theorem lex_about (l : List UInt8) (hl : l.length ≤ 1000) : match lexA l with
    | .ok ts => ∃ a y z, ts = a ++ [y] ∧ lexA (aheadL ++ l ++ behindL) = .ok (a.map (fun x => (x.1, x.2.1, x.2.2 + 10)) ++ [z])
    | .error _ => ∃ c p, lexA (aheadL ++ l ++ behindL) = .error (c, p) := by
  have hlen : (aheadL ++ l ++ behindL).length = l.length + 18 := by simp [aheadL, behindL]
  have hN := lex_feed 10 _ behind_skip l.length l 0 (Nat.le_refl _)
  have hA : lexR (aheadL ++ l ++ behindL) 0 = lexR (l ++ behindL) (0 + 10) := by rw [List.append_assoc, ahead_skip]
  unfold behindL at hA
  rw [← hA] at hN
  have hO := okU_about l
  have b1 := bd_le' l 0
  have b2 := bd_le' (aheadL ++ l ++ behindL) 0
  unfold okU at hO
  unfold lexA
  rw [if_neg (show ¬ 1048576 < l.length by omega), if_neg (show ¬ 1048576 < (aheadL ++ l ++ behindL).length by omega)]
  by_cases h1 : bd l 0 < l.length
  · rw [if_pos h1, if_pos (show bd (aheadL ++ l ++ behindL) 0 < (aheadL ++ l ++ behindL).length by omega)]
    exact ⟨_, _, rfl⟩
  · rw [if_neg h1, if_neg (show ¬ bd (aheadL ++ l ++ behindL) 0 < (aheadL ++ l ++ behindL).length by omega)]
    unfold behindL
    revert hN
    cases lexR l 0 <;> cases lexR (aheadL ++ l ++ [10, 32, 13, 47, 47, 32, 34, 63]) 0 <;> intro hN
    · exact ⟨_, _, rfl⟩
    · exact hN.elim
    · exact hN.elim
    · obtain ⟨a, y, z, h1, h2⟩ := hN
      exact ⟨a, y, z, h1, by rw [h2]⟩
end Go.Proofs.YtocepddgegnfaaaDoor
