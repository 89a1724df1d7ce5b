/- The tokens of a text, written with blanks between them, are those tokens again: as plain functions; no condition. -/
import Derived.Test.YtocepddgegnfaaaDoorQuoted
namespace Go.Proofs.YtocepddgegnfaaaDoor

/-- A token, written. -/
def writeL (k : Nat) (v : List UInt8) : List UInt8 := if k = 3 then 35 :: v else if k = 6 then 34 :: (quoteL v ++ [34]) else v
def textL (ts : List Tk) : List UInt8 := ts.flatMap fun t => writeL t.1 t.2.1 ++ [32]
theorem textL_cons (t : Tk) (ts : List Tk) : textL (t :: ts) = writeL t.1 t.2.1 ++ 32 :: textL ts := by simp [textL]
theorem textL_append (a b : List Tk) : textL (a ++ b) = textL a ++ textL b := by simp [textL]
theorem tok_str {l v : List UInt8} {n : Nat} (h : tok l = some ((6, v), n)) : ∃ r m, l = 34 :: r ∧ strV r = some (v, m) ∧ n = m + 1 := by
  match l, h with
  | [], h => simp [tok] at h
  | c :: r, h =>
    rw [tok] at h
    split at h
    · split at h <;> cases h
    split at h
    · rename_i c2
      simp only [Option.map_eq_some_iff] at h
      obtain ⟨x, hx, e⟩ := h
      cases e
      have : c = 34 := UInt8.toNat_inj.1 c2
      subst this
      exact ⟨r, x.2, rfl, hx, rfl⟩
    split at h
    · split at h <;> cases h
    split at h
    · split at h <;> cases h
    split at h
    · simp only [Option.some.injEq, Prod.mk.injEq] at h
      obtain ⟨⟨h1, _⟩, _⟩ := h
      revert h1
      split <;> intro h1 <;> cases h1
    split at h
    · cases h
    split at h <;> cases h
theorem note_take (l : List UInt8) (n : Nat) (h : noteB l = false) : noteB (l.take n) = false := by
  unfold noteB at *
  rw [decide_eq_false_iff_not] at *
  intro e
  rw [List.take_take] at e
  have hl := congrArg List.length e
  rw [List.length_take] at hl
  simp only [List.length_cons, List.length_nil] at hl
  have : min 2 n = 2 := by omega
  rw [this] at e
  exact h e
/-- A token written is that token. -/
theorem write_tok (c : UInt8) (r : List UInt8) (hb : blankB c = false) (hn : noteB (c :: r) = false) (ho : okU (c :: r)) (k : Nat) (v : List UInt8) (n : Nat) (h : tok (c :: r) = some ((k, v), n)) :
    tok (writeL k v) = some ((k, v), (writeL k v).length) ∧ okU (writeL k v) ∧ okU ((c :: r).drop n) ∧ (writeL k v).length ≤ 2 * n ∧ ∃ d q, writeL k v = d :: q ∧ blankB d = false ∧ noteB (d :: q) = false := by
  have hle := tok_le h
  by_cases h6 : k = 6
  · subst h6
    obtain ⟨r', m, e, hs, rfl⟩ := tok_str h
    cases e
    have hr := (okU_ascii 34 r (by decide)).1 ho
    obtain ⟨v1, v2⟩ := strV_vals r.length r v m (Nat.le_refl _) hs
    obtain ⟨o1, o2⟩ := strV_ok r.length r v m (Nat.le_refl _) hr hs
    have hq := strV_quote v [] v1
    have hw : writeL 6 v = 34 :: (quoteL v ++ [34]) := rfl
    have hl := quoteL_len v
    rw [hw]
    refine ⟨?_, ?_, ?_, ?_, 34, _, rfl, by decide, noteB_first _ _ (by decide)⟩
    · rw [tok, leadB_first _ _ (by decide), if_neg (by decide), if_pos (by decide), hq]
      simp
    · exact (okU_ascii 34 _ (by decide)).2 (okU_append _ _ (quote_ok v.length v (Nat.le_refl _) o1) (okU_all _ (by decide)))
    · exact o2
    · simp only [List.length_cons, List.length_append, List.length_nil]; omega
  · obtain ⟨h1, h2, h3⟩ := tok_own h h6
    have hw : writeL k v = (c :: r).take n := by unfold writeL; rw [if_neg h6]; exact h2
    have hl : ((c :: r).take n).length = n := by rw [List.length_take]; omega
    rw [hw, hl]
    obtain ⟨m, rfl⟩ : ∃ m, n = m + 1 := ⟨n - 1, by omega⟩
    refine ⟨h1, okU_all _ h3, okU_behind _ _ h3 (by rw [List.take_append_drop]; exact ho), by omega, c, r.take m, by rw [List.take_succ_cons], hb, ?_⟩
    have := note_take (c :: r) (m + 1) hn
    rwa [List.take_succ_cons] at this

def kt (x : Tk) : Nat × List UInt8 := (x.1, x.2.1)
theorem lex_write : ∀ (n : Nat) (l : List UInt8) (k : Nat) (ts : List Tk), l.length ≤ n → okU l → lexR l k = .ok ts →
    (∀ j, ∃ us, lexR (textL ts) j = .ok us ∧ us.map kt = ts.map kt) ∧ okU (textL ts) ∧ (textL ts).length ≤ 3 * l.length + 1 := by
  intro n
  induction n with
  | zero =>
    intro l k ts h ho hr
    obtain rfl : l = [] := List.length_eq_zero_iff.1 (by omega)
    rw [lexR_end [] k (by simp)] at hr
    cases hr
    have e : textL [(0, [], k + skipN [])] = [32] := rfl
    rw [e]
    refine ⟨fun j => ⟨[(0, [], j + 1 + skipN [])], by rw [lexR_blank _ _ _ (by decide), lexR_end [] _ (by simp)], rfl⟩, okU_all _ (by decide), by simp⟩
  | succ n ih =>
    intro l k ts h ho hr
    by_cases h0 : l.drop (skipN l) = []
    · rw [lexR_end _ _ h0] at hr
      cases hr
      have e : textL [(0, [], k + skipN l)] = [32] := rfl
      rw [e]
      exact ⟨fun j => ⟨[(0, [], j + 1 + skipN [])], by rw [lexR_blank _ _ _ (by decide), lexR_end [] _ (by simp)], rfl⟩, okU_all _ (by decide), by simp⟩
    · have hsk := skipN_le l.length l (Nat.le_refl _)
      have hos := okU_skip l.length l (Nat.le_refl _) ho
      cases hx : tok (l.drop (skipN l)) with
      | none => rw [lexR_none _ _ h0 hx] at hr; cases hr
      | some x =>
        obtain ⟨⟨k', v⟩, m⟩ := x
        have hle := tok_le hx
        rw [List.length_drop] at hle
        rw [lexR_some _ _ (k', v) m hx] at hr
        cases hy : lexR (l.drop (skipN l + m)) (k + skipN l + m) with
        | error e => rw [hy] at hr; cases hr
        | ok ts' =>
          rw [hy] at hr
          cases hr
          rcases skipN_stop l.length l (Nat.le_refl _) with e | ⟨c, r, e, hb, hn⟩
          · exact absurd e h0
          · rw [e] at hx hos
            obtain ⟨t1, t2, t3, t4, d, q, t5, t6, t7⟩ := write_tok c r hb hn hos k' v m hx
            rw [← e, List.drop_drop] at t3
            obtain ⟨i1, i2, i3⟩ := ih _ _ _ (by rw [List.length_drop]; omega) t3 hy
            rw [List.length_drop] at i3
            simp only [List.singleton_append]
            rw [textL_cons]
            dsimp only
            refine ⟨fun j => ?_, okU_append _ _ t2 ((okU_ascii 32 _ (by decide)).2 i2), ?_⟩
            · have hz : skipN (writeL k' v ++ 32 :: textL ts') = 0 := by
                have hn' := noteB_append d q (textL ts') 32 (.inr rfl)
                rw [t7] at hn'
                rw [t5, List.cons_append] at *
                exact skipN_none d _ t6 hn'
              have ht := tok_more _ (textL ts') 32 (.inr rfl) _ t1
              obtain ⟨us, u1, u2⟩ := i1 (j + (writeL k' v).length + 1)
              refine ⟨(k', v, j) :: us, ?_, by simp [u2, kt]⟩
              rw [lexR_some _ j (k', v) (writeL k' v).length (by rw [hz]; exact ht), hz, Nat.zero_add, List.drop_left, lexR_blank _ _ _ (by decide), Nat.add_zero, u1]
              rfl
            · rw [List.length_append, List.length_cons]
              omega

/-- Of a text's tokens, written: the tokens, but for their places. -/
theorem lex_written (l : List UInt8) (ts : List Tk) (hl : l.length ≤ 500) (h : lexA l = .ok ts) : (∃ us, lexA (textL ts) = .ok us ∧ us.map kt = ts.map kt) ∧ (textL ts).length ≤ 1501 := by
  unfold lexA at h
  split at h
  · cases h
  · split at h
    · cases h
    · rename_i hb
      cases hx : lexR l 0 with
      | error e => rw [hx] at h; cases h
      | ok ts' =>
        rw [hx] at h
        cases h
        have b1 := bd_le' l 0
        obtain ⟨h1, h2, h3⟩ := lex_write l.length l 0 _ (Nat.le_refl _) (by unfold okU; omega) hx
        obtain ⟨us, u1, u2⟩ := h1 0
        refine ⟨⟨us, ?_, u2⟩, by omega⟩
        unfold okU at h2
        unfold lexA
        rw [if_neg (by omega), if_neg (by omega), u1]
end Go.Proofs.YtocepddgegnfaaaDoor
