/- Strings quoted, and the tokens of a text written: as plain functions; no condition. -/
import Derived.Test.YtocepddgegnfaaaDoorOwn
namespace Go.Proofs.YtocepddgegnfaaaDoor

def quoteB (c : UInt8) : List UInt8 := if c.toNat = 92 then [92, 92] else if c.toNat = 34 then [92, 34] else if c.toNat = 10 then [92, 110] else [c]
def quoteL (v : List UInt8) : List UInt8 := v.flatMap quoteB
theorem quoteL_cons (c : UInt8) (v : List UInt8) : quoteL (c :: v) = quoteB c ++ quoteL v := by simp [quoteL]
theorem quoteL_append (a b : List UInt8) : quoteL (a ++ b) = quoteL a ++ quoteL b := by simp [quoteL]
theorem quoteB_len (c : UInt8) : (quoteB c).length ≤ 2 := by
  unfold quoteB
  repeat' split
  all_goals simp
theorem quoteL_len (v : List UInt8) : (quoteL v).length ≤ 2 * v.length := by
  induction v with
  | nil => simp [quoteL]
  | cons c r ih =>
    have := quoteB_len c
    rw [quoteL_cons, List.length_append, List.length_cons]
    omega
/-- What a string stands for has no sign below a blank, but line feeds; it is shorter. -/
theorem strV_vals : ∀ (m : Nat) (l v : List UInt8) (n : Nat), l.length ≤ m → strV l = some (v, n) → (∀ c ∈ v, 32 ≤ c.toNat ∨ c.toNat = 10) ∧ v.length + 1 ≤ n
  | 0, l, v, n, h, hs => by
    obtain rfl : l = [] := List.length_eq_zero_iff.1 (by omega)
    rw [strV_nil] at hs; cases hs
  | m + 1, [], v, n, h, hs => by rw [strV_nil] at hs; cases hs
  | m + 1, c :: r, v, n, h, hs => by
    simp only [List.length_cons] at h
    rw [strV_cons] at hs
    split at hs
    · cases hs; simp
    · split at hs
      · cases hs
      · rename_i c32
        split at hs
        · match r, hs, h with
          | [], hs, _ => cases hs
          | d :: r', hs, h =>
            dsimp only at hs
            cases he : escB d with
            | none => rw [he] at hs; cases hs
            | some e =>
              rw [he] at hs
              simp only [Option.map_eq_some_iff, Prod.mk.injEq] at hs
              obtain ⟨y, hy, rfl, rfl⟩ := hs
              obtain ⟨i1, i2⟩ := strV_vals m r' y.1 y.2 (by simp at h; omega) hy
              refine ⟨fun x hx => ?_, by simp; omega⟩
              rcases List.mem_cons.1 hx with rfl | hx
              · unfold escB at he
                split at he
                · cases he; decide
                · split at he
                  · cases he; decide
                  · split at he
                    · cases he; decide
                    · cases he
              · exact i1 x hx
        · simp only [Option.map_eq_some_iff, Prod.mk.injEq] at hs
          obtain ⟨y, hy, rfl, rfl⟩ := hs
          obtain ⟨i1, i2⟩ := strV_vals m r y.1 y.2 (by omega) hy
          refine ⟨fun x hx => ?_, by simp; omega⟩
          rcases List.mem_cons.1 hx with rfl | hx
          · exact .inl (by omega)
          · exact i1 x hx
/-- A text quoted stands for the text. -/
theorem strV_quote (v t : List UInt8) (h : ∀ c ∈ v, 32 ≤ c.toNat ∨ c.toNat = 10) : strV (quoteL v ++ 34 :: t) = some (v, (quoteL v).length + 1) := by
  induction v with
  | nil => simp only [quoteL, List.flatMap_nil, List.nil_append]; rw [strV_cons]; rfl
  | cons c r ih =>
    have hr := ih fun x hx => h x (List.mem_cons_of_mem _ hx)
    have hc := h c (List.mem_cons_self ..)
    rw [quoteL_cons, List.append_assoc, List.length_append]
    unfold quoteB
    split
    · rename_i e
      have : c = 92 := UInt8.toNat_inj.1 e
      subst this
      rw [List.cons_append, List.cons_append, List.nil_append, strV_cons, if_neg (by decide), if_neg (by decide), if_pos (by decide)]
      dsimp only
      rw [show escB 92 = some 92 from rfl, hr]
      simp; omega
    · rename_i n92
      split
      · rename_i e
        have : c = 34 := UInt8.toNat_inj.1 e
        subst this
        rw [List.cons_append, List.cons_append, List.nil_append, strV_cons, if_neg (by decide), if_neg (by decide), if_pos (by decide)]
        dsimp only
        rw [show escB 34 = some 34 from rfl, hr]
        simp; omega
      · rename_i n34
        split
        · rename_i e
          have : c = 10 := UInt8.toNat_inj.1 e
          subst this
          rw [List.cons_append, List.cons_append, List.nil_append, strV_cons, if_neg (by decide), if_neg (by decide), if_pos (by decide)]
          dsimp only
          rw [show escB 110 = some 10 from rfl, hr]
          simp; omega
        · rename_i n10
          rw [List.cons_append, List.nil_append, strV_cons, if_neg n34, if_neg (by omega), if_neg n92, hr]
          simp; omega

theorem okU_tail (a b : List UInt8) (ha : okU a) (h : okU (a ++ b)) : okU b := by
  unfold okU at *
  have := (sg_append a.length a b 0 (Nat.le_refl _) (by rw [ha]; omega)).2
  rw [this, bd_shift, List.length_append] at h
  omega
theorem okU_skip : ∀ (n : Nat) (l : List UInt8), l.length ≤ n → okU l → okU (l.drop (skipN l))
  | 0, l, h, ho => by
    obtain rfl : l = [] := List.length_eq_zero_iff.1 (by omega)
    simpa using ho
  | n + 1, [], h, ho => by simpa using ho
  | n + 1, c :: r, h, ho => by
    simp only [List.length_cons] at h
    by_cases hb : blankB c = true
    · have hc : c.toNat < 128 := by
        have h' : ((c.toNat = 32 ∨ c.toNat = 9) ∨ c.toNat = 10) ∨ c.toNat = 13 := by simpa [blankB] using hb
        omega
      rw [skipN_blank c r hb]
      exact okU_skip n r (by omega) ((okU_ascii c r hc).1 ho)
    · by_cases hn : noteB (c :: r) = true
      · have h2 := noteN_two _ hn
        rw [skipN_note _ hn, ← List.drop_drop]
        refine okU_skip n _ (by rw [List.length_drop, List.length_cons]; omega) ?_
        have hdw : ∀ (q : UInt8 → Bool) (z : List UInt8), z.drop (z.takeWhile q).length = z.dropWhile q := by
          intro q z
          induction z with
          | nil => rfl
          | cons a b ih => cases hq : q a <;> simp [hq, ih]
        have hd0 : (c :: r).drop (noteN (c :: r)) = (c :: r).dropWhile (fun x => decide (x.toNat ≠ 10)) := hdw _ _
        have hd : ∀ x y, (c :: r).dropWhile (fun x => decide (x.toNat ≠ 10)) = x :: y → x.toNat < 128 := by
          intro x y e
          have hx := List.head?_dropWhile_not (fun x : UInt8 => decide (x.toNat ≠ 10)) (c :: r)
          rw [e] at hx
          simp at hx
          omega
        rw [hd0]
        rw [← List.takeWhile_append_dropWhile (p := fun x => decide (x.toNat ≠ 10)) (l := c :: r)] at ho
        exact okU_tail _ _ (okU_head _ _ _ (Nat.le_refl _) hd ho) ho
      · rw [skipN_none c r (by simpa using hb) (by simpa using hn)]
        exact ho
theorem strV_high (s t : List UInt8) (hs : ∀ c ∈ s, 128 ≤ c.toNat) : strV (s ++ t) = (strV t).map fun x => (s ++ x.1, x.2 + s.length) := by
  induction s with
  | nil => cases h : strV t <;> simp [h]
  | cons c r ih =>
    have hc := hs c (List.mem_cons_self ..)
    rw [List.cons_append, strV_cons, if_neg (by omega), if_neg (by omega), if_neg (by omega), ih fun x hx => hs x (List.mem_cons_of_mem _ hx)]
    cases h : strV t
    · rfl
    · simp; omega
/-- What a string in a text stands for is a text; so is what follows it. -/
theorem strV_ok : ∀ (m : Nat) (l v : List UInt8) (n : Nat), l.length ≤ m → okU l → strV l = some (v, n) → okU v ∧ okU (l.drop n)
  | 0, l, v, n, h, ho, hs => by
    obtain rfl : l = [] := List.length_eq_zero_iff.1 (by omega)
    rw [strV_nil] at hs; cases hs
  | m + 1, l, v, n, h, ho, hs => by
    rcases okU_cases l ho with rfl | ⟨c, r, rfl, hc, hr⟩ | ⟨s, t, rfl, hs0, hsh, hos, hot⟩
    · rw [strV_nil] at hs; cases hs
    · simp only [List.length_cons] at h
      rw [strV_cons] at hs
      split at hs
      · cases hs; exact ⟨okU_nil, hr⟩
      · split at hs
        · cases hs
        · split at hs
          · match r, hs, h, hr with
            | [], hs, _, _ => cases hs
            | d :: r', hs, h, hr =>
              dsimp only at hs
              cases he : escB d with
              | none => rw [he] at hs; cases hs
              | some e =>
                rw [he] at hs
                simp only [Option.map_eq_some_iff, Prod.mk.injEq] at hs
                obtain ⟨y, hy, rfl, rfl⟩ := hs
                have hde : d.toNat < 128 ∧ e.toNat < 128 := by
                  unfold escB at he
                  split at he
                  · cases he; exact ⟨by omega, by decide⟩
                  · split at he
                    · cases he; exact ⟨by omega, by decide⟩
                    · split at he
                      · cases he; exact ⟨by omega, by decide⟩
                      · cases he
                obtain ⟨i1, i2⟩ := strV_ok m r' y.1 y.2 (by simp at h; omega) ((okU_ascii d r' hde.1).1 hr) hy
                exact ⟨(okU_ascii e _ hde.2).2 i1, i2⟩
          · simp only [Option.map_eq_some_iff, Prod.mk.injEq] at hs
            obtain ⟨y, hy, rfl, rfl⟩ := hs
            obtain ⟨i1, i2⟩ := strV_ok m r y.1 y.2 (by omega) hr hy
            exact ⟨(okU_ascii c _ hc).2 i1, i2⟩
    · rw [strV_high s t hsh] at hs
      simp only [Option.map_eq_some_iff, Prod.mk.injEq] at hs
      obtain ⟨y, hy, rfl, rfl⟩ := hs
      have h1 : 0 < s.length := List.length_pos_iff.2 hs0
      rw [List.length_append] at h
      obtain ⟨i1, i2⟩ := strV_ok m t y.1 y.2 (by omega) hot hy
      refine ⟨okU_append _ _ hos i1, ?_⟩
      rw [Nat.add_comm, ← List.drop_drop, List.drop_left]
      exact i2
theorem quote_ok : ∀ (m : Nat) (v : List UInt8), v.length ≤ m → okU v → okU (quoteL v)
  | 0, v, h, ho => by
    obtain rfl : v = [] := List.length_eq_zero_iff.1 (by omega)
    exact ho
  | m + 1, v, h, ho => by
    rcases okU_cases v ho with rfl | ⟨c, r, rfl, hc, hr⟩ | ⟨s, t, rfl, hs0, hsh, hos, hot⟩
    · exact ho
    · rw [quoteL_cons]
      refine okU_append _ _ (okU_all _ ?_) (quote_ok m r (by simpa using h) hr)
      unfold quoteB
      repeat' split
      · decide
      · decide
      · decide
      · intro x hx
        rw [List.mem_singleton] at hx
        rw [hx]; exact hc
    · have hq : quoteL s = s := by
        clear hs0 hos h ho
        induction s with
        | nil => rfl
        | cons c r ih =>
          have hc := hsh c (List.mem_cons_self ..)
          rw [quoteL_cons, ih fun x hx => hsh x (List.mem_cons_of_mem _ hx)]
          unfold quoteB
          rw [if_neg (by omega), if_neg (by omega), if_neg (by omega)]
          rfl
      have h1 : 0 < s.length := List.length_pos_iff.2 hs0
      rw [List.length_append] at h
      rw [quoteL_append, hq]
      exact okU_append _ _ hos (quote_ok m t (by omega) hot)
end Go.Proofs.YtocepddgegnfaaaDoor
