/- Which bytes are well-formed, and what of them stays so: as plain functions; no condition. -/
import Derived.Test.YtocepddgegnfaaaDoorLex
namespace Go.Proofs.YtocepddgegnfaaaDoor

/-- The bytes are a text. -/
def okU (l : List UInt8) : Prop := bd l 0 = l.length
theorem okU_nil : okU [] := by unfold okU; rw [bd_nil [] 0 rfl]; rfl
theorem D_ascii (c : UInt8) (r : List UInt8) (h : c.toNat < 128) : D (c :: r) = (c.toNat, 1) := by
  unfold D Go.Lib.decodeN
  simp only [List.getD_cons_zero, List.length_cons]
  repeat' split
  all_goals first | rfl | (exfalso; omega)
theorem D_other (c : UInt8) (r : List UInt8) (h : 128 ≤ c.toNat) (hb : ¬ isBad (c :: r)) : 2 ≤ (D (c :: r)).2 := by
  revert hb
  unfold isBad D Go.Lib.decodeN
  simp only [List.getD_cons_zero, List.length_cons]
  repeat' split
  all_goals (dsimp only; intro hb; first | omega | (exfalso; omega))
theorem bd_le' : ∀ (l : List UInt8) (k : Nat), k ≤ bd l k ∧ bd l k ≤ k + l.length := fun l k => bd_le l.length l k (Nat.le_refl _)
theorem bd_shift (l : List UInt8) (j : Nat) : bd l j = bd l 0 + j := by
  have := (sg_shift l.length l 0 j (Nat.le_refl _)).2
  rwa [Nat.zero_add] at this
theorem ascii_good (c : UInt8) (r : List UInt8) (h : c.toNat < 128) : ¬ isBad (c :: r) := by
  unfold isBad
  rw [D_ascii c r h]
  rintro ⟨h1, _⟩
  dsimp only at h1
  omega
theorem bd_ascii (c : UInt8) (r : List UInt8) (h : c.toNat < 128) : bd (c :: r) 0 = bd r 0 + 1 := by
  rw [bd_cons _ _ (by simp) (ascii_good c r h), D_ascii c r h]
  dsimp only [List.drop]
  rw [bd_shift]
theorem okU_ascii (c : UInt8) (r : List UInt8) (h : c.toNat < 128) : okU (c :: r) ↔ okU r := by
  unfold okU
  rw [bd_ascii c r h, List.length_cons]
  omega
theorem okU_append (a b : List UInt8) (ha : okU a) (hb : okU b) : okU (a ++ b) := by
  unfold okU at *
  have := (sg_append a.length a b 0 (Nat.le_refl _) (by rw [ha]; omega)).2
  rw [this, bd_shift, hb, List.length_append]
  omega
theorem okU_all (l : List UInt8) (h : ∀ c ∈ l, c.toNat < 128) : okU l := by
  induction l with
  | nil => exact okU_nil
  | cons c r ih => exact (okU_ascii c r (h c (List.mem_cons_self ..))).2 (ih fun x hx => h x (List.mem_cons_of_mem _ hx))
theorem okU_behind (a b : List UInt8) (ha : ∀ c ∈ a, c.toNat < 128) (h : okU (a ++ b)) : okU b := by
  induction a with
  | nil => exact h
  | cons c r ih => exact ih (fun x hx => ha x (List.mem_cons_of_mem _ hx)) ((okU_ascii c _ (ha c (List.mem_cons_self ..))).1 h)

set_option maxRecDepth 100000 in
set_option maxHeartbeats 4000000 in
theorem decodeN_less (n m b0 b1 b2 b3 c1 c2 c3 : Nat) (_hm : m ≤ n) (h1 : 1 < m → c1 = b1) (h2 : 2 < m → c2 = b2) (h3 : 3 < m → c3 = b3)
    (hg : ¬ ((Go.Lib.decodeN n b0 b1 b2 b3).1 = 65533 ∧ (Go.Lib.decodeN n b0 b1 b2 b3).2 = 1)) (hw : (Go.Lib.decodeN n b0 b1 b2 b3).2 ≤ m) : Go.Lib.decodeN m b0 c1 c2 c3 = Go.Lib.decodeN n b0 b1 b2 b3 := by
  by_cases a1 : 1 < m <;> by_cases a2 : 2 < m <;> by_cases a3 : 3 < m
  all_goals first | (exfalso; omega) | skip
  all_goals (try (have e1 := h1 a1; subst e1))
  all_goals (try (have e2 := h2 a2; subst e2))
  all_goals (try (have e3 := h3 a3; subst e3))
  all_goals (revert hg hw; unfold Go.Lib.decodeN)
  all_goals (repeat' split)
  all_goals (intro hg hw; first | rfl | (exfalso; omega) | (exfalso; simp at hg))
theorem D_take (l : List UInt8) (m : Nat) (hm : m ≤ l.length) (hb : ¬ isBad l) (hw : (D l).2 ≤ m) (h0 : 0 < m) : D (l.take m) = D l := by
  have g : ∀ i, i < m → (l.take m).getD i 0 = l.getD i 0 := fun i hi => by simp [List.getD_eq_getElem?_getD, hi]
  have hl : (l.take m).length = m := by simp; omega
  unfold D at hw ⊢
  rw [hl, g 0 h0]
  exact decodeN_less _ _ _ _ _ _ _ _ _ hm (fun h => by rw [g 1 h]) (fun h => by rw [g 2 h]) (fun h => by rw [g 3 h]) hb hw
set_option maxRecDepth 100000 in
set_option maxHeartbeats 4000000 in
theorem decodeN_high (n b0 b1 b2 b3 : Nat) (h : 2 ≤ (Go.Lib.decodeN n b0 b1 b2 b3).2) : 128 ≤ b0 ∧ (1 < (Go.Lib.decodeN n b0 b1 b2 b3).2 → 128 ≤ b1) ∧ (2 < (Go.Lib.decodeN n b0 b1 b2 b3).2 → 128 ≤ b2) ∧ (3 < (Go.Lib.decodeN n b0 b1 b2 b3).2 → 128 ≤ b3) := by
  revert h
  unfold Go.Lib.decodeN
  repeat' split
  all_goals (dsimp only; intro h; refine ⟨?_, fun h => ?_, fun h => ?_, fun h => ?_⟩ <;> omega)

/-- A text begins with a byte below 128, or with a sign of bytes above. -/
theorem okU_cases (l : List UInt8) (h : okU l) : l = [] ∨ (∃ c r, l = c :: r ∧ c.toNat < 128 ∧ okU r) ∨ (∃ s t, l = s ++ t ∧ s ≠ [] ∧ (∀ c ∈ s, 128 ≤ c.toNat) ∧ okU s ∧ okU t) := by
  match l, h with
  | [], _ => exact .inl rfl
  | c :: r, h =>
    by_cases hc : c.toNat < 128
    · exact .inr (.inl ⟨c, r, rfl, hc, (okU_ascii c r hc).1 h⟩)
    · right; right
      have hb : ¬ isBad (c :: r) := by
        intro hb
        unfold okU at h
        rw [bd_bad _ _ hb] at h
        simp at h
      have h2 := D_other c r (by omega) hb
      have hd := D_bounds (c :: r) (by simp)
      obtain ⟨m, hm⟩ : ∃ m, (D (c :: r)).2 = m := ⟨_, rfl⟩
      rw [hm] at h2 hd
      have hs : okU ((c :: r).drop m) := by
        unfold okU at h ⊢
        rw [bd_cons _ _ (by simp) hb, hm, Nat.zero_add, bd_shift] at h
        rw [List.length_drop]
        omega
      have hl : ((c :: r).take m).length = m := by rw [List.length_take]; omega
      have hD := D_take (c :: r) m (by omega) hb (by omega) (by omega)
      have hg : ¬ isBad ((c :: r).take m) := by unfold isBad at hb ⊢; rw [hD]; exact hb
      refine ⟨(c :: r).take m, (c :: r).drop m, (List.take_append_drop _ _).symm, ?_, ?_, ?_, hs⟩
      · intro e; rw [e] at hl; simp at hl; omega
      · intro x hx
        obtain ⟨i, hi, rfl⟩ := List.getElem_of_mem hx
        rw [hl] at hi
        have hh := decodeN_high (c :: r).length ((c :: r).getD 0 0).toNat ((c :: r).getD 1 0).toNat ((c :: r).getD 2 0).toNat ((c :: r).getD 3 0).toNat (by have := hm; unfold D at this; omega)
        have hm' := hm
        unfold D at hm'
        rw [hm'] at hh
        have hg2 : ((c :: r).take m)[i] = (c :: r).getD i 0 := by
          rw [List.getElem_take, List.getD_eq_getElem?_getD, List.getElem?_eq_getElem (by omega)]
          rfl
        rw [hg2]
        have : i = 0 ∨ i = 1 ∨ i = 2 ∨ i = 3 := by omega
        rcases this with rfl | rfl | rfl | rfl
        · exact hh.1
        · exact hh.2.1 (by omega)
        · exact hh.2.2.1 (by omega)
        · exact hh.2.2.2 (by omega)
      · unfold okU
        rw [bd_cons _ _ (by rw [hl]; omega) hg, hD, hm, bd_nil _ _ (by simp), hl, Nat.zero_add]

theorem okU_head : ∀ (n : Nat) (a b : List UInt8), a.length ≤ n → (∀ c r, b = c :: r → c.toNat < 128) → okU (a ++ b) → okU a
  | 0, a, b, h, _, _ => by
    obtain rfl : a = [] := List.length_eq_zero_iff.1 (by omega)
    exact okU_nil
  | n + 1, [], b, h, _, _ => okU_nil
  | n + 1, x :: a, b, h, hb, ho => by
    rcases okU_cases _ ho with e | ⟨c, r, e, hc, hr⟩ | ⟨s, t, e, hs0, hs, hos, hot⟩
    · simp at e
    · simp only [List.cons_append, List.cons.injEq] at e
      obtain ⟨rfl, rfl⟩ := e
      exact (okU_ascii x a hc).2 (okU_head n a b (by simp at h; omega) hb hr)
    · have hle : s.length ≤ (x :: a).length := by
        rcases Nat.lt_or_ge (x :: a).length s.length with hl | hl
        · exfalso
          match b, hb, e with
          | [], _, e =>
            have := congrArg List.length e
            simp only [List.append_nil, List.length_append] at this
            omega
          | c :: r, hb, e =>
            have h1 : ((x :: a) ++ c :: r)[(x :: a).length]? = some c := by simp
            rw [e, List.getElem?_append_left hl] at h1
            have hm := List.mem_of_getElem? h1
            have := hs c hm
            have := hb c r rfl
            omega
        · exact hl
      obtain ⟨a', ha'⟩ : ∃ a', x :: a = s ++ a' := by
        have h1 : (x :: a).take s.length = s := by
          have := congrArg (List.take s.length) e
          rwa [List.take_append_of_le_length hle, List.take_append_of_le_length (Nat.le_refl _), List.take_length] at this
        exact ⟨(x :: a).drop s.length, by conv => rhs; rw [← h1]
                                          rw [List.length_take, Nat.min_eq_left hle, List.take_append_drop]⟩
      rw [ha', List.append_assoc] at e
      have ht : t = a' ++ b := (List.append_cancel_left e).symm
      have hl : a'.length ≤ n := by
        have := congrArg List.length ha'
        have h1 : 0 < s.length := List.length_pos_iff.2 hs0
        rw [List.length_append] at this
        omega
      rw [ha']
      exact okU_append s a' hos (okU_head n a' b hl hb (by rw [← ht]; exact hot))
end Go.Proofs.YtocepddgegnfaaaDoor
