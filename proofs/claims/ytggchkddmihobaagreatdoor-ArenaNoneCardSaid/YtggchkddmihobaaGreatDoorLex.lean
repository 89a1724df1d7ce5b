/- The tokens of a text, as plain functions on lists of bytes; no condition. -/
import Derived.Test.YtggchkddmihobaaGreatDoorMath
namespace Go.Proofs.YtggchkddmihobaaGreatDoor

def lowB (c : UInt8) : Bool := (decide (97 ≤ c.toNat) && decide (c.toNat ≤ 122)) || decide (c.toNat = 95)
def smallB (c : UInt8) : Bool := decide (97 ≤ c.toNat) && decide (c.toNat ≤ 122)
def digB (c : UInt8) : Bool := decide (48 ≤ c.toNat) && decide (c.toNat ≤ 57)
def highB (c : UInt8) : Bool := decide (65 ≤ c.toNat) && decide (c.toNat ≤ 90)
def hexB (c : UInt8) : Bool := digB c || (decide (97 ≤ c.toNat) && decide (c.toNat ≤ 102))
def blankB (c : UInt8) : Bool := decide (c.toNat = 32) || decide (c.toNat = 9) || decide (c.toNat = 10) || decide (c.toNat = 13)
def wordB' (c : UInt8) : Bool := lowB c || digB c
def aliB (c : UInt8) : Bool := highB c || smallB c || digB c

/-- How many bytes there are: one of the first kind, then of the second. -/
def spanN (p q : UInt8 → Bool) : List UInt8 → Nat
  | [] => 0
  | c :: r => if p c then (r.takeWhile q).length + 1 else 0
def nameN (l : List UInt8) : Nat := spanN lowB wordB' l
def aliasN (l : List UInt8) : Nat := spanN highB aliB l
def digN (l : List UInt8) : Nat := spanN digB digB l
theorem spanN_le (p q : UInt8 → Bool) (l : List UInt8) : spanN p q l ≤ l.length := by
  cases l with
  | nil => exact Nat.le_refl _
  | cons c r =>
    have := (List.takeWhile_sublist q (l := r)).length_le
    rw [spanN, List.length_cons]
    split <;> omega

/-- A note begins. -/
def noteB (l : List UInt8) : Bool := decide (l.take 2 = [47, 47])
def noteN (l : List UInt8) : Nat := (l.takeWhile fun c => decide (c.toNat ≠ 10)).length
theorem noteN_le (l : List UInt8) : noteN l ≤ l.length := (List.takeWhile_sublist _).length_le
theorem noteN_two (l : List UInt8) (h : noteB l = true) : 2 ≤ noteN l := by
  match l, h with
  | a :: b :: r, h =>
    simp [noteB] at h
    obtain ⟨rfl, rfl⟩ := h
    simp [noteN]
  | [a], h => simp [noteB] at h
  | [], h => simp [noteB] at h

/-- How many blanks, notes among them, stand ahead. -/
def skipN (l : List UInt8) : Nat :=
  match l with
  | [] => 0
  | c :: r => if blankB c then skipN r + 1 else if _hn : noteB (c :: r) then noteN (c :: r) + skipN ((c :: r).drop (noteN (c :: r))) else 0
termination_by l.length
decreasing_by
  · simp
  · have := noteN_two _ _hn
    simp only [List.length_drop, List.length_cons]
    omega

theorem skipN_nil : skipN [] = 0 := by rw [skipN]
theorem skipN_blank (c : UInt8) (r : List UInt8) (h : blankB c = true) : skipN (c :: r) = skipN r + 1 := by rw [skipN]; simp [h]
theorem skipN_note (l : List UInt8) (h : noteB l = true) : skipN l = noteN l + skipN (l.drop (noteN l)) := by
  match l, h with
  | c :: r, h =>
    have hb : blankB c = false := by
      match r, h with
      | b :: r, h =>
        simp [noteB] at h
        obtain ⟨rfl, rfl⟩ := h
        decide
      | [], h => simp [noteB] at h
    rw [skipN]; simp only [hb, h]; simp
  | [], h => simp [noteB] at h
theorem skipN_none (c : UInt8) (r : List UInt8) (h : blankB c = false) (hn : noteB (c :: r) = false) : skipN (c :: r) = 0 := by
  rw [skipN]; simp [h, hn]
theorem skipN_le : ∀ (n : Nat) (l : List UInt8), l.length ≤ n → skipN l ≤ l.length
  | 0, l, h => by
    obtain rfl : l = [] := List.length_eq_zero_iff.1 (by omega)
    rw [skipN_nil]; exact Nat.le_refl _
  | n + 1, [], h => by rw [skipN_nil]; exact Nat.le_refl _
  | n + 1, c :: r, h => by
    by_cases hb : blankB c = true
    · rw [skipN_blank c r hb]
      have := skipN_le n r (by simp at h; omega)
      simp; omega
    · by_cases hn : noteB (c :: r) = true
      · rw [skipN_note _ hn]
        have h2 := noteN_two _ hn
        have h3 := noteN_le (c :: r)
        have := skipN_le n ((c :: r).drop (noteN (c :: r))) (by simp only [List.length_drop]; simp at h ⊢; omega)
        simp only [List.length_drop] at this
        omega
      · rw [skipN_none c r (by simpa using hb) (by simpa using hn)]
        exact Nat.zero_le _
/-- Behind the blanks nothing stands, or what begins no blank. -/
theorem skipN_stop : ∀ (n : Nat) (l : List UInt8), l.length ≤ n → l.drop (skipN l) = [] ∨ ∃ c r, l.drop (skipN l) = c :: r ∧ blankB c = false ∧ noteB (c :: r) = false
  | 0, l, h => by
    obtain rfl : l = [] := List.length_eq_zero_iff.1 (by omega)
    exact .inl (by simp)
  | n + 1, [], h => .inl (by simp)
  | n + 1, c :: r, h => by
    by_cases hb : blankB c = true
    · rw [skipN_blank c r hb]
      exact skipN_stop n r (by simp at h; omega)
    · by_cases hn : noteB (c :: r) = true
      · rw [skipN_note _ hn]
        have h2 := noteN_two _ hn
        have := skipN_stop n ((c :: r).drop (noteN (c :: r))) (by simp only [List.length_drop]; simp at h ⊢; omega)
        rw [List.drop_drop] at this
        exact this
      · rw [skipN_none c r (by simpa using hb) (by simpa using hn)]
        exact .inr ⟨c, r, rfl, by simpa using hb, by simpa using hn⟩

def escB (d : UInt8) : Option UInt8 := if d.toNat = 92 then some 92 else if d.toNat = 34 then some 34 else if d.toNat = 110 then some 10 else none
/-- Behind a quote: what the string stands for, and how many bytes there are up to the quote that ends it. -/
def strV : List UInt8 → Option (List UInt8 × Nat)
  | [] => none
  | c :: r =>
    if c.toNat = 34 then some ([], 1)
    else if c.toNat < 32 then none
    else if c.toNat = 92 then
      match r with
      | [] => none
      | d :: r' => match escB d with
        | none => none
        | some e => (strV r').map fun x => (e :: x.1, x.2 + 2)
    else (strV r).map fun x => (c :: x.1, x.2 + 1)

/-- The number that digits spell, behind one. -/
def decV (n : Nat) (l : List UInt8) : Nat := l.foldl (fun a c => a * 10 + (c.toNat - 48)) n
/-- How many digits make an int. -/
def intN (l : List UInt8) : Nat := if (digN l = 1 ∨ (l.getD 0 0).toNat ≠ 48) ∧ decV 0 (l.take (digN l)) ≤ 9223372036854775807 then digN l else 0
/-- A float's begin. -/
def leadB (l : List UInt8) : Bool := decide (l.take 2 = [102, 39])
def fltB (l : List UInt8) : Bool := decide (18 ≤ l.length) && ((l.drop 2).take 16).all hexB
def words : List (List UInt8) := [[102, 117, 110], [108, 101, 116], [114, 101, 99], [105, 110], [105, 102], [116, 104, 101, 110], [101, 108, 115, 101], [99, 97, 115, 101], [111, 102], [101, 110, 100], [116, 114, 117, 101], [102, 97, 108, 115, 101], [105, 110, 116], [98, 111, 111, 108], [115, 116, 114], [102, 108, 111, 97, 116], [100, 121, 110], [97, 110, 121], [110, 111, 110, 101], [116, 121, 112, 101]]
def isW (l : List UInt8) : Bool := decide (l ∈ words)
def twos : List (List UInt8) := [[61, 62], [45, 62], [61, 61], [46, 46], [43, 46], [45, 46], [42, 46], [47, 46], [60, 46]]
def ones : List UInt8 := [40, 41, 123, 125, 91, 93, 44, 59, 58, 46, 61, 124, 43, 45, 42, 47, 60, 94]
def signN (l : List UInt8) : Nat := if l.take 2 ∈ twos then 2 else if l.getD 0 0 ∈ ones then 1 else 0

/-- A token's kind, its text, and how many bytes it is written in. -/
def tok : List UInt8 → Option ((Nat × List UInt8) × Nat)
  | [] => none
  | c :: r =>
    if leadB (c :: r) then (if fltB (c :: r) then some ((5, (c :: r).take 18), 18) else none)
    else if c.toNat = 34 then (strV r).map fun x => ((6, x.1), x.2 + 1)
    else if c.toNat = 35 then (if nameN r = 0 then none else some ((3, r.take (nameN r)), nameN r + 1))
    else if digB c then (if intN (c :: r) = 0 then none else some ((4, (c :: r).take (intN (c :: r))), intN (c :: r)))
    else if lowB c then some ((if isW ((c :: r).take (nameN (c :: r))) then 7 else 1, (c :: r).take (nameN (c :: r))), nameN (c :: r))
    else if highB c then some ((2, (c :: r).take (aliasN (c :: r))), aliasN (c :: r))
    else if signN (c :: r) = 0 then none
    else some ((8, (c :: r).take (signN (c :: r))), signN (c :: r))

theorem strV_nil : strV [] = none := by rw [strV.eq_def]
theorem strV_cons (c : UInt8) (r : List UInt8) : strV (c :: r) =
    (if c.toNat = 34 then some ([], 1)
    else if c.toNat < 32 then none
    else if c.toNat = 92 then
      match r with
      | [] => none
      | d :: r' => match escB d with
        | none => none
        | some e => (strV r').map fun x => (e :: x.1, x.2 + 2)
    else (strV r).map fun x => (c :: x.1, x.2 + 1)) := by rw [strV.eq_def]
theorem strV_le : ∀ (n : Nat) (l : List UInt8) (x : List UInt8 × Nat), l.length ≤ n → strV l = some x → 1 ≤ x.2 ∧ x.2 ≤ l.length
  | 0, l, x, h, hs => by
    obtain rfl : l = [] := List.length_eq_zero_iff.1 (by omega)
    rw [strV_nil] at hs
    cases hs
  | n + 1, [], x, h, hs => by rw [strV_nil] at hs; cases hs
  | n + 1, c :: r, x, h, hs => by
    simp only [List.length_cons] at h
    rw [strV_cons] at hs
    split at hs
    · cases hs; simp
    · split at hs
      · cases hs
      · split at hs
        · match r, hs, h with
          | [], hs, _ => cases hs
          | d :: r', hs, h =>
            dsimp only at hs
            cases he : escB d with
            | none => rw [he] at hs; cases hs
            | some e =>
              rw [he] at hs
              simp only [Option.map_eq_some_iff] at hs
              obtain ⟨y, hy, rfl⟩ := hs
              have := strV_le n r' y (by simp at h; omega) hy
              simp; omega
        · simp only [Option.map_eq_some_iff] at hs
          obtain ⟨y, hy, rfl⟩ := hs
          have := strV_le n r y (by omega) hy
          simp; omega

theorem spanN_cons (p q : UInt8 → Bool) (c : UInt8) (r : List UInt8) (h : p c = true) : spanN p q (c :: r) = (r.takeWhile q).length + 1 := by simp [spanN, h]
theorem spanN_zero (p q : UInt8 → Bool) (c : UInt8) (r : List UInt8) (h : p c = false) : spanN p q (c :: r) = 0 := by simp [spanN, h]
theorem signN_le (c : UInt8) (r : List UInt8) : signN (c :: r) ≤ (c :: r).length := by
  unfold signN
  split
  · rename_i h
    match r, h with
    | [], h => simp [twos] at h
    | _ :: _, _ => simp
  · split <;> simp
theorem intN_le (l : List UInt8) : intN l ≤ l.length := by
  unfold intN
  split
  · exact spanN_le _ _ _
  · exact Nat.zero_le _

theorem tok_le {l : List UInt8} {t : Nat × List UInt8} {n : Nat} (h : tok l = some (t, n)) : 1 ≤ n ∧ n ≤ l.length := by
  match l, h with
  | [], h => simp [tok] at h
  | c :: r, h =>
    have a1 := spanN_le lowB wordB' (c :: r)
    have a2 := spanN_le highB aliB (c :: r)
    have a3 := spanN_le lowB wordB' r
    have a4 := signN_le c r
    have a5 := intN_le (c :: r)
    rw [tok] at h
    split at h
    · split at h
      · rename_i hf
        simp [fltB] at hf
        cases h
        simp; omega
      · cases h
    split at h
    · simp only [Option.map_eq_some_iff] at h
      obtain ⟨x, hx, e⟩ := h
      have := strV_le r.length r x (Nat.le_refl _) hx
      cases e
      simp; omega
    split at h
    · split at h
      · cases h
      · cases h
        simp only [nameN, List.length_cons] at *; omega
    split at h
    · split at h
      · cases h
      · cases h; omega
    split at h
    · rename_i hl
      cases h
      have := spanN_cons lowB wordB' c r hl
      simp only [nameN] at *; omega
    split at h
    · rename_i hl
      cases h
      have := spanN_cons highB aliB c r hl
      simp only [aliasN] at *; omega
    split at h
    · cases h
    · cases h; omega

/-- A token: its kind, its text, its place. -/
abbrev Tk := Nat × List UInt8 × Nat
def prep (pre : List Tk) : Except Nat (List Tk) → Except Nat (List Tk)
  | .ok l => .ok (pre ++ l)
  | .error e => .error e
/-- The tokens of bytes that stand at the place k; or where none stands. -/
def lexR (l : List UInt8) (k : Nat) : Except Nat (List Tk) :=
  match l.drop (skipN l) with
  | [] => .ok [(0, [], k + skipN l)]
  | _ :: _ =>
    match _ht : tok (l.drop (skipN l)) with
    | none => .error (k + skipN l)
    | some (t, n) => prep [(t.1, t.2, k + skipN l)] (lexR (l.drop (skipN l + n)) (k + skipN l + n))
termination_by l.length
decreasing_by
  have := tok_le _ht
  simp only [List.length_drop] at this ⊢
  omega

theorem lexR_end (l : List UInt8) (k : Nat) (h : l.drop (skipN l) = []) : lexR l k = .ok [(0, [], k + skipN l)] := by
  rw [lexR, h]
theorem lexR_none (l : List UInt8) (k : Nat) (h : l.drop (skipN l) ≠ []) (ht : tok (l.drop (skipN l)) = none) : lexR l k = .error (k + skipN l) := by
  rw [lexR]
  split
  · rename_i e; exact absurd e h
  · split
    · rfl
    · rename_i e; rw [ht] at e; cases e
theorem lexR_some (l : List UInt8) (k : Nat) (t : Nat × List UInt8) (n : Nat) (ht : tok (l.drop (skipN l)) = some (t, n)) : lexR l k = prep [(t.1, t.2, k + skipN l)] (lexR (l.drop (skipN l + n)) (k + skipN l + n)) := by
  rw [lexR]
  split
  · rename_i e; rw [e] at ht; simp [tok] at ht
  · split
    · rename_i e; rw [ht] at e; cases e
    · rename_i e; rw [ht] at e; cases e; rfl

theorem prep_nil (x : Except Nat (List Tk)) : prep [] x = x := by cases x <;> rfl
theorem prep_prep (a b : List Tk) (x : Except Nat (List Tk)) : prep a (prep b x) = prep (a ++ b) x := by cases x <;> simp [prep]

theorem lexR_blank (c : UInt8) (r : List UInt8) (k : Nat) (h : blankB c = true) : lexR (c :: r) k = lexR r (k + 1) := by
  have hs := skipN_blank c r h
  have hd : ∀ j, (c :: r).drop (skipN r + 1 + j) = r.drop (skipN r + j) := fun j => by rw [show skipN r + 1 + j = (skipN r + j) + 1 by omega]; rfl
  by_cases h0 : r.drop (skipN r) = []
  · rw [lexR_end _ _ h0, lexR_end (c :: r) k (by rw [hs]; exact h0), hs]
    congr 4; omega
  · cases ht : tok (r.drop (skipN r)) with
    | none =>
      rw [lexR_none _ _ h0 ht, lexR_none (c :: r) k (by rw [hs]; exact h0) (by rw [hs]; exact ht), hs]
      congr 1; omega
    | some x =>
      rw [lexR_some _ _ x.1 x.2 ht, lexR_some (c :: r) k x.1 x.2 (by rw [hs]; exact ht), hs, hd, show k + (skipN r + 1) = k + 1 + skipN r by omega]
theorem lexR_note (l : List UInt8) (k : Nat) (h : noteB l = true) : lexR l k = lexR (l.drop (noteN l)) (k + noteN l) := by
  have hs := skipN_note l h
  obtain ⟨m, hm⟩ : ∃ m, noteN l = m := ⟨_, rfl⟩
  rw [hm] at hs ⊢
  by_cases h0 : (l.drop m).drop (skipN (l.drop m)) = []
  · rw [lexR_end _ _ h0, lexR_end l k (by rw [hs, ← List.drop_drop]; exact h0), hs, Nat.add_assoc]
  · cases ht : tok ((l.drop m).drop (skipN (l.drop m))) with
    | none =>
      rw [lexR_none _ _ h0 ht, lexR_none l k (by rw [hs, ← List.drop_drop]; exact h0) (by rw [hs, ← List.drop_drop]; exact ht), hs, Nat.add_assoc]
    | some x =>
      rw [lexR_some _ _ x.1 x.2 ht, lexR_some l k x.1 x.2 (by rw [hs, ← List.drop_drop]; exact ht), hs, List.drop_drop]
      simp only [Nat.add_assoc]

/-- All that is told of bytes: the tokens; or what is wrong, and where. -/
def lexA (l : List UInt8) : Except (Nat × Nat) (List Tk) :=
  if 1048576 < l.length then .error (6, 0)
  else if bd l 0 < l.length then .error (2, bd l 0)
  else match lexR l 0 with
    | .ok ts => .ok ts
    | .error p => .error (3, p)

end Go.Proofs.YtggchkddmihobaaGreatDoor
