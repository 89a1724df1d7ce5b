/- Names as tokens; what stands behind a token changes it not: as plain functions; no condition. -/
import Derived.Test.YtocepddgegnfaaaDoorTex
import Derived.Test.YtocepddgegnfaaaDoorValid
namespace Go.Proofs.YtocepddgegnfaaaDoor

theorem low_word (c : UInt8) (h : lowB c = true) : wordB' c = true := by unfold wordB'; rw [h]; rfl
theorem low_plain (c : UInt8) (h : lowB c = true) : c.toNat < 128 ∧ blankB c = false ∧ c.toNat ≠ 47 ∧ c.toNat ≠ 34 ∧ c.toNat ≠ 35 ∧ digB c = false := by
  have h' : (97 ≤ c.toNat ∧ c.toNat ≤ 122) ∨ c.toNat = 95 := by simpa [lowB] using h
  refine ⟨by omega, ?_, by omega, by omega, by omega, ?_⟩
  · simp [blankB]; omega
  · simp [digB]; omega
theorem word_plain (c : UInt8) (h : wordB' c = true) : c.toNat < 128 ∧ c.toNat ≠ 39 := by
  have h' : ((97 ≤ c.toNat ∧ c.toNat ≤ 122) ∨ c.toNat = 95) ∨ (48 ≤ c.toNat ∧ c.toNat ≤ 57) := by simpa [wordB', lowB, digB] using h
  omega
theorem noteB_first (c : UInt8) (r : List UInt8) (h : c.toNat ≠ 47) : noteB (c :: r) = false := by
  unfold noteB
  rw [decide_eq_false_iff_not, List.take_succ_cons]
  intro e
  simp only [List.cons.injEq] at e
  rw [e.1] at h
  exact h rfl
theorem leadB_first (c : UInt8) (r : List UInt8) (h : c.toNat ≠ 102) : leadB (c :: r) = false := by
  unfold leadB
  rw [decide_eq_false_iff_not, List.take_succ_cons]
  intro e
  simp only [List.cons.injEq] at e
  rw [e.1] at h
  exact h rfl

/-- All of a name's bytes. -/
theorem name_all (l : List UInt8) (h : nameN l = l.length) (h0 : l ≠ []) : ∃ c r, l = c :: r ∧ lowB c = true ∧ ∀ x ∈ r, wordB' x = true := by
  match l, h0 with
  | c :: r, _ =>
    unfold nameN at h
    cases hc : lowB c
    · rw [spanN_zero _ _ _ _ hc] at h; simp at h
    · rw [spanN_cons _ _ _ _ hc] at h
      refine ⟨c, r, rfl, hc, fun x hx => ?_⟩
      have hl : (r.takeWhile wordB').length = r.length := by simp at h; exact h
      have he : r.takeWhile wordB' = r := (List.takeWhile_sublist wordB').eq_of_length hl
      rw [← he] at hx
      exact List.all_eq_true.1 (List.all_takeWhile (p := wordB') (l := r)) x hx

theorem leadB_name (c : UInt8) (r : List UInt8) (h : ∀ x ∈ r, wordB' x = true) : leadB (c :: r) = false := by
  unfold leadB
  rw [decide_eq_false_iff_not, List.take_succ_cons]
  intro e
  simp only [List.cons.injEq] at e
  match r, h, e with
  | [], _, e => simp at e
  | d :: r, h, e =>
    rw [List.take_succ_cons] at e
    simp only [List.cons.injEq] at e
    have := (word_plain d (h d (List.mem_cons_self ..))).2
    rw [e.2.1] at this
    exact this rfl

theorem tok_name (c : UInt8) (r : List UInt8) (hl : leadB (c :: r) = false) (hc : lowB c = true) : tok (c :: r) = some ((if isW ((c :: r).take (nameN (c :: r))) then 7 else 1, (c :: r).take (nameN (c :: r))), nameN (c :: r)) := by
  obtain ⟨_, _, _, h34, h35, hd⟩ := low_plain c hc
  rw [tok, hl, if_neg (by decide), if_neg h34, if_neg h35, hd, if_neg (by decide), hc, if_pos rfl]

theorem lex_name (l : List UInt8) (h : nameN l = l.length) (h0 : l ≠ []) (hlen : l.length ≤ 1048576) : lexA l = .ok [(if isW l then 7 else 1, l, 0), (0, [], l.length)] := by
  obtain ⟨c, r, rfl, hc, hr⟩ := name_all l h h0
  obtain ⟨h128, hbl, h47, _⟩ := low_plain c hc
  have hok : okU (c :: r) := okU_all _ fun x hx => by
    rcases List.mem_cons.1 hx with rfl | hx
    · exact h128
    · exact (word_plain x (hr x hx)).1
  have ht := tok_name c r (leadB_name c r hr) hc
  rw [h, List.take_length] at ht
  have hz := skipN_none c r hbl (noteB_first c r h47)
  have hx := lexR_some (c :: r) 0 _ _ (by rw [hz]; exact ht)
  simp only [hz, Nat.zero_add] at hx
  rw [List.drop_eq_nil_of_le (Nat.le_refl _)] at hx
  have hR : lexR (c :: r) 0 = .ok [(if isW (c :: r) then 7 else 1, c :: r, 0), (0, [], (c :: r).length)] := by
    rw [hx, lexR_end [] _ (by rw [skipN_nil]; rfl), skipN_nil]
    simp [prep]
  unfold lexA
  unfold okU at hok
  rw [if_neg (by omega), if_neg (by omega), hR]

/-- A token of the kind of names. -/
theorem tok_one {l t : List UInt8} {n : Nat} (h : tok l = some ((1, t), n)) : t = l.take n ∧ n = nameN l ∧ isW t = false := by
  match l, h with
  | [], h => simp [tok] at h
  | c :: r, h =>
    rw [tok] at h
    split at h
    · split at h <;> cases h
    split at h
    · simp only [Option.map_eq_some_iff, Prod.mk.injEq] at h
      obtain ⟨x, _, ⟨h1, _⟩, _⟩ := h
      cases h1
    split at h
    · split at h
      · cases h
      · simp only [Option.some.injEq, Prod.mk.injEq] at h
        obtain ⟨⟨h1, _⟩, _⟩ := h
        cases h1
    split at h
    · split at h
      · cases h
      · simp only [Option.some.injEq, Prod.mk.injEq] at h
        obtain ⟨⟨h1, _⟩, _⟩ := h
        cases h1
    split at h
    · simp only [Option.some.injEq, Prod.mk.injEq] at h
      obtain ⟨⟨h1, h2⟩, h3⟩ := h
      subst h2 h3
      cases hw : isW ((c :: r).take (nameN (c :: r)))
      · exact ⟨rfl, rfl, rfl⟩
      · rw [hw] at h1; cases h1
    split at h
    · simp only [Option.some.injEq, Prod.mk.injEq] at h
      obtain ⟨⟨h1, _⟩, _⟩ := h
      cases h1
    split at h
    · cases h
    · simp only [Option.some.injEq, Prod.mk.injEq] at h
      obtain ⟨⟨h1, _⟩, _⟩ := h
      cases h1

/-- What the document asks of a name, of a text's tokens. -/
theorem name_lex (l : List UInt8) (ts : List Tk) (h : lexA l = .ok ts) (p q : Tk) (hts : ts = [p, q]) (hk : p.1 = 1) (ht : p.2.1 = l) : l ≠ [] ∧ nameN l = l.length ∧ isW l = false := by
  have hR : lexR l 0 = .ok ts := by
    unfold lexA at h
    split at h
    · cases h
    · split at h
      · cases h
      · cases hx : lexR l 0 with
        | error e => rw [hx] at h; cases h
        | ok ts' => rw [hx] at h; cases h; rfl
  by_cases h0 : l.drop (skipN l) = []
  · rw [lexR_end _ _ h0, hts] at hR
    cases hR
  · cases hx : tok (l.drop (skipN l)) with
    | none => rw [lexR_none _ _ h0 hx] at hR; cases hR
    | some x =>
      obtain ⟨⟨k, t⟩, n⟩ := x
      have hle := tok_le hx
      rw [lexR_some _ _ (k, t) n hx] at hR
      cases hy : lexR (l.drop (skipN l + n)) (0 + skipN l + n) with
      | error e => rw [hy] at hR; cases hR
      | ok ts' =>
        rw [hy, hts] at hR
        simp only [prep, List.singleton_append, Except.ok.injEq, List.cons.injEq] at hR
        obtain ⟨hp, _⟩ := hR
        rw [← hp] at hk ht
        dsimp only at hk ht
        subst hk ht
        obtain ⟨h1, h2, h3⟩ := tok_one hx
        have hlen := congrArg List.length h1
        rw [List.length_take, List.length_drop] at hlen
        rw [List.length_drop] at hle
        have hs : skipN t = 0 := by omega
        rw [hs, List.drop_zero] at h2
        exact ⟨fun e => by rw [e] at hle; simp at hle; omega, by omega, h3⟩
end Go.Proofs.YtocepddgegnfaaaDoor
