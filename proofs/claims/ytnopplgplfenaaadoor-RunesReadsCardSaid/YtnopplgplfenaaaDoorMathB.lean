/- Lines and columns of the places of a list of bytes, as plain functions; no condition. -/
import Derived.Test.YtnopplgplfenaaaDoorMath
namespace Go.Proofs.YtnopplgplfenaaaDoor

/-- One sign on: behind a line feed a new line begins. -/
def step (s : Int × Int) (nl : Bool) : Int × Int := if nl then (s.1 + 1, 1) else (s.1, s.2 + 1)
/-- The line and the column behind signs, of each of which is told whether it is a line feed. -/
def lc (bs : List Bool) : Int × Int := bs.foldl step (1, 1)
theorem lc_snoc (bs : List Bool) (x : Bool) : lc (bs ++ [x]) = step (lc bs) x := by simp [lc]
theorem lc_bounds (bs : List Bool) : 1 ≤ (lc bs).1 ∧ (lc bs).1 ≤ bs.length + 1 ∧ 1 ≤ (lc bs).2 ∧ (lc bs).2 ≤ bs.length + 1 := by
  have h : ∀ (n : Nat) (bs : List Bool), bs.length = n → 1 ≤ (lc bs).1 ∧ (lc bs).1 ≤ bs.length + 1 ∧ 1 ≤ (lc bs).2 ∧ (lc bs).2 ≤ bs.length + 1 := by
    intro n
    induction n with
    | zero => intro bs hb; rw [List.length_eq_zero_iff.1 hb]; decide
    | succ n ih =>
      intro bs hb
      obtain ⟨ys, y, rfl⟩ : ∃ ys y, bs = ys ++ [y] := ⟨_, _, (List.dropLast_concat_getLast (by intro e; rw [e] at hb; simp at hb)).symm⟩
      have hl : ys.length = n := by simp at hb; omega
      have := ih ys hl
      rw [lc_snoc, List.length_append, List.length_singleton]
      unfold step
      split <;> (dsimp only; omega)
  exact h bs.length bs rfl

/-- Of each sign: its place, and whether it is a line feed; from the first place on that bears none each byte counts. -/
def tailMarks (l : List UInt8) (k j : Nat) : List (Nat × Bool) := (List.range j).map fun i => (k + i, decide ((l.getD (k + i) 0).toNat = 10))
def signMarks (xs : List (Nat × Nat)) : List (Nat × Bool) := xs.map fun x => (x.1, decide (x.2 = 10))
def marks (l : List UInt8) : List (Nat × Bool) := signMarks (sg l 0) ++ tailMarks l (bd l 0) (l.length - bd l 0)
/-- The line and the column of a place. -/
def whereOf (l : List UInt8) (q : Int) : Int × Int := lc (((marks l).takeWhile fun m => decide ((m.1 : Int) < q)).map Prod.snd)

theorem tailMarks_succ (l : List UInt8) (k j : Nat) : tailMarks l k (j + 1) = tailMarks l k j ++ [(k + j, decide ((l.getD (k + j) 0).toNat = 10))] := by
  simp [tailMarks, List.range_succ]

theorem takeWhile_all {α : Type} (p : α → Bool) (xs : List α) (h : ∀ y ∈ xs, p y = true) : xs.takeWhile p = xs := by
  have := List.takeWhile_append_of_pos (l₂ := []) h
  simpa using this

theorem takeWhile_stop {α : Type} (p : α → Bool) (xs : List α) (x : α) (ys : List α) (h : ∀ y ∈ xs, p y = true) (hx : p x = false) : (xs ++ x :: ys).takeWhile p = xs := by
  rw [List.takeWhile_append_of_pos h]
  simp [hx]

theorem whereOf_stop (l : List UInt8) (q : Int) (xs : List (Nat × Nat)) (x : Nat × Nat) (rest : List (Nat × Nat)) (hs : sg l 0 = xs ++ x :: rest) (h : ∀ y ∈ xs, (y.1 : Int) < q) (hx : ¬ (x.1 : Int) < q) :
    whereOf l q = lc ((signMarks xs).map Prod.snd) := by
  unfold whereOf marks
  rw [hs]
  have : signMarks (xs ++ x :: rest) ++ tailMarks l (bd l 0) (l.length - bd l 0) = signMarks xs ++ (x.1, decide (x.2 = 10)) :: (signMarks rest ++ tailMarks l (bd l 0) (l.length - bd l 0)) := by simp [signMarks]
  rw [this, takeWhile_stop]
  · intro y hy
    simp only [signMarks, List.mem_map] at hy
    obtain ⟨z, hz, rfl⟩ := hy
    simpa using h z hz
  · simpa using hx

theorem tail_split (l : List UInt8) (k j n : Nat) (hj : j ≤ n) : ∃ rest, tailMarks l k n = tailMarks l k j ++ rest ∧ (j < n → ∃ c r', rest = (k + j, c) :: r') := by
  induction n with
  | zero => obtain rfl : j = 0 := by omega
            exact ⟨[], by simp [tailMarks], fun h => absurd h (by omega)⟩
  | succ n ih =>
    by_cases h : j = n + 1
    · subst h; exact ⟨[], by simp, fun h => absurd h (by omega)⟩
    · obtain ⟨rest, he, hc⟩ := ih (by omega)
      refine ⟨rest ++ [(k + n, decide ((l.getD (k + n) 0).toNat = 10))], by rw [tailMarks_succ, he]; simp, fun _ => ?_⟩
      by_cases h2 : j < n
      · obtain ⟨c, r', hr⟩ := hc h2
        exact ⟨c, r' ++ [(k + n, decide ((l.getD (k + n) 0).toNat = 10))], by rw [hr]; simp⟩
      · obtain rfl : j = n := by omega
        have : rest = [] := by
          have := congrArg List.length he
          simp [tailMarks] at this
          exact this
        subst this
        exact ⟨_, [], rfl⟩

theorem whereOf_tail (l : List UInt8) (q : Int) (j : Nat) (hs : ∀ y ∈ sg l 0, (y.1 : Int) < q) (hb : bd l 0 + j ≤ l.length) (hj : ∀ i, i < j → ((bd l 0 + i : Nat) : Int) < q) (hend : bd l 0 + j = l.length ∨ ¬ ((bd l 0 + j : Nat) : Int) < q) :
    whereOf l q = lc ((signMarks (sg l 0) ++ tailMarks l (bd l 0) j).map Prod.snd) := by
  unfold whereOf marks
  obtain ⟨rest, he, hc⟩ := tail_split l (bd l 0) j (l.length - bd l 0) (by omega)
  have hall : ∀ y ∈ signMarks (sg l 0) ++ tailMarks l (bd l 0) j, decide ((y.1 : Int) < q) = true := by
    intro y hy
    rcases List.mem_append.1 hy with hy | hy
    · simp only [signMarks, List.mem_map] at hy
      obtain ⟨z, hz, rfl⟩ := hy
      simpa using hs z hz
    · simp only [tailMarks, List.mem_map, List.mem_range] at hy
      obtain ⟨i, hi, rfl⟩ := hy
      simpa using hj i hi
  rw [he, ← List.append_assoc]
  rcases hend with h | h
  · have : rest = [] := by
      have := congrArg List.length he
      simp [tailMarks] at this
      exact List.length_eq_zero_iff.1 (by omega)
    rw [this, List.append_nil, takeWhile_all _ _ hall]
  · by_cases h2 : j < l.length - bd l 0
    · obtain ⟨c, r', hr⟩ := hc h2
      rw [hr, takeWhile_stop _ _ _ _ hall (by simpa using h)]
    · have : rest = [] := by
        have := congrArg List.length he
        simp [tailMarks] at this
        exact List.length_eq_zero_iff.1 (by omega)
      rw [this, List.append_nil, takeWhile_all _ _ hall]

/-- Of all that stands ahead of the place p, which is none within the signs: which are line feeds. -/
def upTo (l : List UInt8) (p : Nat) : List Bool := (signMarks (sg l 0) ++ tailMarks l (bd l 0) (p - bd l 0)).map Prod.snd
theorem upTo_bd (l : List UInt8) : upTo l (bd l 0) = (signMarks (sg l 0)).map Prod.snd := by simp [upTo, tailMarks]
theorem upTo_succ (l : List UInt8) (p : Nat) (h : bd l 0 ≤ p) : upTo l (p + 1) = upTo l p ++ [decide ((l.getD p 0).toNat = 10)] := by
  unfold upTo
  rw [show p + 1 - bd l 0 = (p - bd l 0) + 1 by omega, tailMarks_succ, show bd l 0 + (p - bd l 0) = p by omega]
  simp
theorem whereOf_upTo (l : List UInt8) (q : Int) (p : Nat) (hs : ∀ y ∈ sg l 0, (y.1 : Int) < q) (h0 : bd l 0 ≤ p) (h1 : p ≤ l.length) (hj : ∀ i, bd l 0 ≤ i → i < p → (i : Int) < q) (hend : p = l.length ∨ ¬ (p : Int) < q) : whereOf l q = lc (upTo l p) := by
  have := whereOf_tail l q (p - bd l 0) hs (by omega) (fun i hi => hj _ (by omega) (by omega)) (by rw [show bd l 0 + (p - bd l 0) = p by omega]; exact hend)
  exact this
theorem sg_length : ∀ (n : Nat) (l : List UInt8) (k : Nat), l.length ≤ n → (sg l k).length ≤ l.length
  | 0, l, k, h => by rw [sg_nil l k (by omega)]; simp
  | n + 1, l, k, h => by
    by_cases h0 : 0 < l.length
    · by_cases hb : isBad l
      · rw [sg_bad l k hb]; simp
      · have hd := D_bounds l h0
        have ih := sg_length n (l.drop (D l).2) (k + (D l).2) (by simp only [List.length_drop]; omega)
        rw [sg_cons l k h0 hb, List.length_cons]
        simp only [List.length_drop] at ih
        omega
    · rw [sg_nil l k (by omega)]; simp
theorem upTo_length (l : List UInt8) (p : Nat) : (upTo l p).length ≤ l.length + p := by
  have := sg_length l.length l 0 (Nat.le_refl _)
  simp [upTo, signMarks, tailMarks]
  omega

end Go.Proofs.YtnopplgplfenaaaDoor
