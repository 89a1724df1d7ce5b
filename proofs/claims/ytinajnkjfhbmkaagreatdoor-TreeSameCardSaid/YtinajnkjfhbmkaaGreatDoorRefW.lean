/- The small functions of the lexer and of the document that tell signs, words and names. -/
import Derived.Test.YtinajnkjfhbmkaaGreatDoorMath
import Derived.Test.YtinajnkjfhbmkaaGreatDoorProg
import Derived.WalkKit
import Derived.WalkLawsBesides
import Derived.Outline
import Derived.Lib.Hide
import Derived.Below
import Derived.Laws.EntriesVeiled
import Derived.RangeFuncBox
import Derived.Laws.Strings2
namespace Go.Proofs.YtinajnkjfhbmkaaGreatDoor

def lowB (c : UInt8) : Bool := (decide (97 ≤ c.toNat) && decide (c.toNat ≤ 122)) || decide (c.toNat = 95)
def smallB (c : UInt8) : Bool := decide (97 ≤ c.toNat) && decide (c.toNat ≤ 122)
def digB (c : UInt8) : Bool := decide (48 ≤ c.toNat) && decide (c.toNat ≤ 57)
def highB (c : UInt8) : Bool := decide (65 ≤ c.toNat) && decide (c.toNat ≤ 90)
def hexB (c : UInt8) : Bool := digB c || (decide (97 ≤ c.toNat) && decide (c.toNat ≤ 102))
def blankB (c : UInt8) : Bool := decide (c.toNat = 32) || decide (c.toNat = 9) || decide (c.toNat = 10) || decide (c.toNat = 13)
def wordB' (c : UInt8) : Bool := lowB c || digB c
def aliB (c : UInt8) : Bool := highB c || smallB c || digB c

/-- How many bytes there are: one of the first kind, then of the second. -/
def spanN (p q : UInt8 → Bool) : List UInt8 → Nat
  | [] => 0
  | c :: r => if p c then (r.takeWhile q).length + 1 else 0
def nameN (l : List UInt8) : Nat := spanN lowB wordB' l
def aliasN (l : List UInt8) : Nat := spanN highB aliB l
def digN (l : List UInt8) : Nat := spanN digB digB l
theorem spanN_le (p q : UInt8 → Bool) (l : List UInt8) : spanN p q l ≤ l.length := by
  cases l with
  | nil => exact Nat.le_refl _
  | cons c r =>
    have := (List.takeWhile_sublist q (l := r)).length_le
    rw [spanN, List.length_cons]
    split <;> omega

/-- A note begins. -/
def noteB (l : List UInt8) : Bool := decide (l.take 2 = [47, 47])
def noteN (l : List UInt8) : Nat := (l.takeWhile fun c => decide (c.toNat ≠ 10)).length
theorem noteN_le (l : List UInt8) : noteN l ≤ l.length := (List.takeWhile_sublist _).length_le
theorem noteN_two (l : List UInt8) (h : noteB l = true) : 2 ≤ noteN l := by
  match l, h with
  | a :: b :: r, h =>
    simp [noteB] at h
    obtain ⟨rfl, rfl⟩ := h
    simp [noteN]
  | [a], h => simp [noteB] at h
  | [], h => simp [noteB] at h

/-- How many blanks, notes among them, stand ahead. -/
def skipN (l : List UInt8) : Nat :=
  match l with
  | [] => 0
  | c :: r => if blankB c then skipN r + 1 else if _hn : noteB (c :: r) then noteN (c :: r) + skipN ((c :: r).drop (noteN (c :: r))) else 0
termination_by l.length
decreasing_by
  · simp
  · have := noteN_two _ _hn
    simp only [List.length_drop, List.length_cons]
    omega

theorem skipN_nil : skipN [] = 0 := by rw [skipN]
theorem skipN_blank (c : UInt8) (r : List UInt8) (h : blankB c = true) : skipN (c :: r) = skipN r + 1 := by rw [skipN]; simp [h]
theorem skipN_note (l : List UInt8) (h : noteB l = true) : skipN l = noteN l + skipN (l.drop (noteN l)) := by
  match l, h with
  | c :: r, h =>
    have hb : blankB c = false := by
      match r, h with
      | b :: r, h =>
        simp [noteB] at h
        obtain ⟨rfl, rfl⟩ := h
        decide
      | [], h => simp [noteB] at h
    rw [skipN]; simp only [hb, h]; simp
  | [], h => simp [noteB] at h
theorem skipN_none (c : UInt8) (r : List UInt8) (h : blankB c = false) (hn : noteB (c :: r) = false) : skipN (c :: r) = 0 := by
  rw [skipN]; simp [h, hn]
theorem skipN_le : ∀ (n : Nat) (l : List UInt8), l.length ≤ n → skipN l ≤ l.length
  | 0, l, h => by
    obtain rfl : l = [] := List.length_eq_zero_iff.1 (by omega)
    rw [skipN_nil]; exact Nat.le_refl _
  | n + 1, [], h => by rw [skipN_nil]; exact Nat.le_refl _
  | n + 1, c :: r, h => by
    by_cases hb : blankB c = true
    · rw [skipN_blank c r hb]
      have := skipN_le n r (by simp at h; omega)
      simp; omega
    · by_cases hn : noteB (c :: r) = true
      · rw [skipN_note _ hn]
        have h2 := noteN_two _ hn
        have h3 := noteN_le (c :: r)
        have := skipN_le n ((c :: r).drop (noteN (c :: r))) (by simp only [List.length_drop]; simp at h ⊢; omega)
        simp only [List.length_drop] at this
        omega
      · rw [skipN_none c r (by simpa using hb) (by simpa using hn)]
        exact Nat.zero_le _
/-- Behind the blanks nothing stands, or what begins no blank. -/
theorem skipN_stop : ∀ (n : Nat) (l : List UInt8), l.length ≤ n → l.drop (skipN l) = [] ∨ ∃ c r, l.drop (skipN l) = c :: r ∧ blankB c = false ∧ noteB (c :: r) = false
  | 0, l, h => by
    obtain rfl : l = [] := List.length_eq_zero_iff.1 (by omega)
    exact .inl (by simp)
  | n + 1, [], h => .inl (by simp)
  | n + 1, c :: r, h => by
    by_cases hb : blankB c = true
    · rw [skipN_blank c r hb]
      exact skipN_stop n r (by simp at h; omega)
    · by_cases hn : noteB (c :: r) = true
      · rw [skipN_note _ hn]
        have h2 := noteN_two _ hn
        have := skipN_stop n ((c :: r).drop (noteN (c :: r))) (by simp only [List.length_drop]; simp at h ⊢; omega)
        rw [List.drop_drop] at this
        exact this
      · rw [skipN_none c r (by simpa using hb) (by simpa using hn)]
        exact .inr ⟨c, r, rfl, by simpa using hb, by simpa using hn⟩

def escB (d : UInt8) : Option UInt8 := if d.toNat = 92 then some 92 else if d.toNat = 34 then some 34 else if d.toNat = 110 then some 10 else none
/-- Behind a quote: what the string stands for, and how many bytes there are up to the quote that ends it. -/
def strV : List UInt8 → Option (List UInt8 × Nat)
  | [] => none
  | c :: r =>
    if c.toNat = 34 then some ([], 1)
    else if c.toNat < 32 then none
    else if c.toNat = 92 then
      match r with
      | [] => none
      | d :: r' => match escB d with
        | none => none
        | some e => (strV r').map fun x => (e :: x.1, x.2 + 2)
    else (strV r).map fun x => (c :: x.1, x.2 + 1)

/-- The number that digits spell, behind one. -/
def decV (n : Nat) (l : List UInt8) : Nat := l.foldl (fun a c => a * 10 + (c.toNat - 48)) n
/-- How many digits make an int. -/
def intN (l : List UInt8) : Nat := if (digN l = 1 ∨ (l.getD 0 0).toNat ≠ 48) ∧ decV 0 (l.take (digN l)) ≤ 9223372036854775807 then digN l else 0
/-- A float's begin. -/
def leadB (l : List UInt8) : Bool := decide (l.take 2 = [102, 39])
def fltB (l : List UInt8) : Bool := decide (18 ≤ l.length) && ((l.drop 2).take 16).all hexB
def words : List (List UInt8) := [[102, 117, 110], [108, 101, 116], [114, 101, 99], [105, 110], [105, 102], [116, 104, 101, 110], [101, 108, 115, 101], [99, 97, 115, 101], [111, 102], [101, 110, 100], [116, 114, 117, 101], [102, 97, 108, 115, 101], [105, 110, 116], [98, 111, 111, 108], [115, 116, 114], [102, 108, 111, 97, 116], [100, 121, 110], [97, 110, 121], [110, 111, 110, 101], [116, 121, 112, 101]]
def isW (l : List UInt8) : Bool := decide (l ∈ words)
def twos : List (List UInt8) := [[61, 62], [45, 62], [61, 61], [46, 46], [43, 46], [45, 46], [42, 46], [47, 46], [60, 46]]
def ones : List UInt8 := [40, 41, 123, 125, 91, 93, 44, 59, 58, 46, 61, 124, 43, 45, 42, 47, 60, 94]
def signN (l : List UInt8) : Nat := if l.take 2 ∈ twos then 2 else if l.getD 0 0 ∈ ones then 1 else 0

/-- A token's kind, its text, and how many bytes it is written in. -/
def tok : List UInt8 → Option ((Nat × List UInt8) × Nat)
  | [] => none
  | c :: r =>
    if leadB (c :: r) then (if fltB (c :: r) then some ((5, (c :: r).take 18), 18) else none)
    else if c.toNat = 34 then (strV r).map fun x => ((6, x.1), x.2 + 1)
    else if c.toNat = 35 then (if nameN r = 0 then none else some ((3, r.take (nameN r)), nameN r + 1))
    else if digB c then (if intN (c :: r) = 0 then none else some ((4, (c :: r).take (intN (c :: r))), intN (c :: r)))
    else if lowB c then some ((if isW ((c :: r).take (nameN (c :: r))) then 7 else 1, (c :: r).take (nameN (c :: r))), nameN (c :: r))
    else if highB c then some ((2, (c :: r).take (aliasN (c :: r))), aliasN (c :: r))
    else if signN (c :: r) = 0 then none
    else some ((8, (c :: r).take (signN (c :: r))), signN (c :: r))

theorem strV_nil : strV [] = none := by rw [strV.eq_def]
theorem strV_cons (c : UInt8) (r : List UInt8) : strV (c :: r) =
    (if c.toNat = 34 then some ([], 1)
    else if c.toNat < 32 then none
    else if c.toNat = 92 then
      match r with
      | [] => none
      | d :: r' => match escB d with
        | none => none
        | some e => (strV r').map fun x => (e :: x.1, x.2 + 2)
    else (strV r).map fun x => (c :: x.1, x.2 + 1)) := by rw [strV.eq_def]
theorem strV_le : ∀ (n : Nat) (l : List UInt8) (x : List UInt8 × Nat), l.length ≤ n → strV l = some x → 1 ≤ x.2 ∧ x.2 ≤ l.length
  | 0, l, x, h, hs => by
    obtain rfl : l = [] := List.length_eq_zero_iff.1 (by omega)
    rw [strV_nil] at hs
    cases hs
  | n + 1, [], x, h, hs => by rw [strV_nil] at hs; cases hs
  | n + 1, c :: r, x, h, hs => by
    simp only [List.length_cons] at h
    rw [strV_cons] at hs
    split at hs
    · cases hs; simp
    · split at hs
      · cases hs
      · split at hs
        · match r, hs, h with
          | [], hs, _ => cases hs
          | d :: r', hs, h =>
            dsimp only at hs
            cases he : escB d with
            | none => rw [he] at hs; cases hs
            | some e =>
              rw [he] at hs
              simp only [Option.map_eq_some_iff] at hs
              obtain ⟨y, hy, rfl⟩ := hs
              have := strV_le n r' y (by simp at h; omega) hy
              simp; omega
        · simp only [Option.map_eq_some_iff] at hs
          obtain ⟨y, hy, rfl⟩ := hs
          have := strV_le n r y (by omega) hy
          simp; omega

theorem spanN_cons (p q : UInt8 → Bool) (c : UInt8) (r : List UInt8) (h : p c = true) : spanN p q (c :: r) = (r.takeWhile q).length + 1 := by simp [spanN, h]
theorem spanN_zero (p q : UInt8 → Bool) (c : UInt8) (r : List UInt8) (h : p c = false) : spanN p q (c :: r) = 0 := by simp [spanN, h]
theorem signN_le (c : UInt8) (r : List UInt8) : signN (c :: r) ≤ (c :: r).length := by
  unfold signN
  split
  · rename_i h
    match r, h with
    | [], h => simp [twos] at h
    | _ :: _, _ => simp
  · split <;> simp
theorem intN_le (l : List UInt8) : intN l ≤ l.length := by
  unfold intN
  split
  · exact spanN_le _ _ _
  · exact Nat.zero_le _

theorem tok_le {l : List UInt8} {t : Nat × List UInt8} {n : Nat} (h : tok l = some (t, n)) : 1 ≤ n ∧ n ≤ l.length := by
  match l, h with
  | [], h => simp [tok] at h
  | c :: r, h =>
    have a1 := spanN_le lowB wordB' (c :: r)
    have a2 := spanN_le highB aliB (c :: r)
    have a3 := spanN_le lowB wordB' r
    have a4 := signN_le c r
    have a5 := intN_le (c :: r)
    rw [tok] at h
    split at h
    · split at h
      · rename_i hf
        simp [fltB] at hf
        cases h
        simp; omega
      · cases h
    split at h
    · simp only [Option.map_eq_some_iff] at h
      obtain ⟨x, hx, e⟩ := h
      have := strV_le r.length r x (Nat.le_refl _) hx
      cases e
      simp; omega
    split at h
    · split at h
      · cases h
      · cases h
        simp only [nameN, List.length_cons] at *; omega
    split at h
    · split at h
      · cases h
      · cases h; omega
    split at h
    · rename_i hl
      cases h
      have := spanN_cons lowB wordB' c r hl
      simp only [nameN] at *; omega
    split at h
    · rename_i hl
      cases h
      have := spanN_cons highB aliB c r hl
      simp only [aliasN] at *; omega
    split at h
    · cases h
    · cases h; omega

/-- A token: its kind, its text, its place. -/
abbrev Tk := Nat × List UInt8 × Nat
def prep (pre : List Tk) : Except Nat (List Tk) → Except Nat (List Tk)
  | .ok l => .ok (pre ++ l)
  | .error e => .error e
/-- The tokens of bytes that stand at the place k; or where none stands. -/
def lexR (l : List UInt8) (k : Nat) : Except Nat (List Tk) :=
  match l.drop (skipN l) with
  | [] => .ok [(0, [], k + skipN l)]
  | _ :: _ =>
    match _ht : tok (l.drop (skipN l)) with
    | none => .error (k + skipN l)
    | some (t, n) => prep [(t.1, t.2, k + skipN l)] (lexR (l.drop (skipN l + n)) (k + skipN l + n))
termination_by l.length
decreasing_by
  have := tok_le _ht
  simp only [List.length_drop] at this ⊢
  omega

theorem lexR_end (l : List UInt8) (k : Nat) (h : l.drop (skipN l) = []) : lexR l k = .ok [(0, [], k + skipN l)] := by
  rw [lexR, h]
theorem lexR_none (l : List UInt8) (k : Nat) (h : l.drop (skipN l) ≠ []) (ht : tok (l.drop (skipN l)) = none) : lexR l k = .error (k + skipN l) := by
  rw [lexR]
  split
  · rename_i e; exact absurd e h
  · split
    · rfl
    · rename_i e; rw [ht] at e; cases e
theorem lexR_some (l : List UInt8) (k : Nat) (t : Nat × List UInt8) (n : Nat) (ht : tok (l.drop (skipN l)) = some (t, n)) : lexR l k = prep [(t.1, t.2, k + skipN l)] (lexR (l.drop (skipN l + n)) (k + skipN l + n)) := by
  rw [lexR]
  split
  · rename_i e; rw [e] at ht; simp [tok] at ht
  · split
    · rename_i e; rw [ht] at e; cases e
    · rename_i e; rw [ht] at e; cases e; rfl

theorem prep_nil (x : Except Nat (List Tk)) : prep [] x = x := by cases x <;> rfl
theorem prep_prep (a b : List Tk) (x : Except Nat (List Tk)) : prep a (prep b x) = prep (a ++ b) x := by cases x <;> simp [prep]

theorem lexR_blank (c : UInt8) (r : List UInt8) (k : Nat) (h : blankB c = true) : lexR (c :: r) k = lexR r (k + 1) := by
  have hs := skipN_blank c r h
  have hd : ∀ j, (c :: r).drop (skipN r + 1 + j) = r.drop (skipN r + j) := fun j => by rw [show skipN r + 1 + j = (skipN r + j) + 1 by omega]; rfl
  by_cases h0 : r.drop (skipN r) = []
  · rw [lexR_end _ _ h0, lexR_end (c :: r) k (by rw [hs]; exact h0), hs]
    congr 4; omega
  · cases ht : tok (r.drop (skipN r)) with
    | none =>
      rw [lexR_none _ _ h0 ht, lexR_none (c :: r) k (by rw [hs]; exact h0) (by rw [hs]; exact ht), hs]
      congr 1; omega
    | some x =>
      rw [lexR_some _ _ x.1 x.2 ht, lexR_some (c :: r) k x.1 x.2 (by rw [hs]; exact ht), hs, hd, show k + (skipN r + 1) = k + 1 + skipN r by omega]
theorem lexR_note (l : List UInt8) (k : Nat) (h : noteB l = true) : lexR l k = lexR (l.drop (noteN l)) (k + noteN l) := by
  have hs := skipN_note l h
  obtain ⟨m, hm⟩ : ∃ m, noteN l = m := ⟨_, rfl⟩
  rw [hm] at hs ⊢
  by_cases h0 : (l.drop m).drop (skipN (l.drop m)) = []
  · rw [lexR_end _ _ h0, lexR_end l k (by rw [hs, ← List.drop_drop]; exact h0), hs, Nat.add_assoc]
  · cases ht : tok ((l.drop m).drop (skipN (l.drop m))) with
    | none =>
      rw [lexR_none _ _ h0 ht, lexR_none l k (by rw [hs, ← List.drop_drop]; exact h0) (by rw [hs, ← List.drop_drop]; exact ht), hs, Nat.add_assoc]
    | some x =>
      rw [lexR_some _ _ x.1 x.2 ht, lexR_some l k x.1 x.2 (by rw [hs, ← List.drop_drop]; exact ht), hs, List.drop_drop]
      simp only [Nat.add_assoc]

/-- All that is told of bytes: the tokens; or what is wrong, and where. -/
def lexA (l : List UInt8) : Except (Nat × Nat) (List Tk) :=
  if 1048576 < l.length then .error (6, 0)
  else if bd l 0 < l.length then .error (2, bd l 0)
  else match lexR l 0 with
    | .ok ts => .ok ts
    | .error p => .error (3, p)

end Go.Proofs.YtinajnkjfhbmkaaGreatDoor

namespace Go.Proofs.YtinajnkjfhbmkaaGreatDoor
open Go Go.Proofs Go.RowKit

theorem ret_bool {a b : Bool} (h : a = b) : Ending.returned (.bool a) = .returned (.bool b) := by rw [h]

theorem ret_nat {k : IntKind} {a b : Nat} (h : a = b) : Ending.returned (.int k a) = .returned (.int k b) := by rw [h]
theorem digit_any (c : UInt8) (w : World) : Calls Tryz.prog 102 #[.int .u8 (c.toNat : Int)] w fun e w' => e = .returned (.bool (digB c)) ∧ w = w' := by
  have h := c.toNat_lt
  by_cases h1 : 48 ≤ c.toNat
  all_goals
    go_enter Tryz.func102, Tryz.ntmps102
    go_wp2
    go_ret
    exact ⟨ret_bool (by rw [Bool.eq_iff_iff]; simp [digB]; omega), rfl⟩

theorem low_any (c : UInt8) (w : World) : Calls Tryz.prog 99 #[.int .u8 (c.toNat : Int)] w fun e w' => e = .returned (.bool (lowB c)) ∧ w = w' := by
  have h := c.toNat_lt
  by_cases h1 : 97 ≤ c.toNat
  · by_cases h2 : c.toNat ≤ 122
    all_goals
      go_enter Tryz.func99, Tryz.ntmps99
      go_wp2
      go_ret
      exact ⟨ret_bool (by rw [Bool.eq_iff_iff]; simp [lowB]; omega), rfl⟩
  · go_enter Tryz.func99, Tryz.ntmps99
    go_wp2
    go_ret
    exact ⟨ret_bool (by rw [Bool.eq_iff_iff]; simp [lowB]; omega), rfl⟩

theorem word_any (c : UInt8) (g : Nat) (w : World) (hg : w.cell? ⟨g, 0, none⟩ = some (.func (.func 99) #[] #[])) : Calls Tryz.prog 101 #[.int .u8 (c.toNat : Int), .pointer (some ⟨g, 0, none⟩)] w fun e w' => e = .returned (.bool (wordB' c)) ∧ w = w' := by
  have h := c.toNat_lt
  have k := low_any c
  unfold wordB'
  cases h1 : lowB c
  all_goals
    rw [h1] at k
    go_enter Tryz.func101, Tryz.ntmps101
    go_wp2_with (first | (go_at_call 99; refine (k _).mono ?_; rintro e w' ⟨rfl, rfl⟩) | (go_at_call 102; refine (digit_any _ _).mono ?_; rintro e w' ⟨rfl, rfl⟩))
    go_ret
    exact ⟨rfl, rfl⟩

/-- The string's bytes. -/
def tl (s : ByteArray) : List UInt8 := s.data.toList
theorem tl_length (s : ByteArray) : (tl s).length = s.size := by simp [tl]
theorem tl_drop (s : ByteArray) (k : Nat) (h : k < s.size) : (tl s).drop k = s[k] :: (tl s).drop (k + 1) := by
  unfold tl
  rw [List.drop_eq_getElem_cons (by simpa using h)]; rfl

theorem takeWhile_all {α : Type} (p : α → Bool) (xs : List α) (h : ∀ y ∈ xs, p y = true) : xs.takeWhile p = xs := by
  have := List.takeWhile_append_of_pos (l₂ := []) h
  simpa using this
theorem takeWhile_stop {α : Type} (p : α → Bool) (xs : List α) (x : α) (ys : List α) (h : ∀ y ∈ xs, p y = true) (hx : p x = false) : (xs ++ x :: ys).takeWhile p = xs := by
  rw [List.takeWhile_append_of_pos h]
  simp [hx]
theorem tw_stop (q : UInt8 → Bool) (l : List UInt8) (k : Nat) (h : k ≤ l.length) (h2 : ∀ j (hj : j < k), q (l[j]'(by omega)) = true) (h3 : k = l.length ∨ ∃ hk : k < l.length, q (l[k]'hk) = false) : (l.takeWhile q).length = k := by
  have e : l.takeWhile q = l.take k := by
    rcases h3 with h3 | ⟨hk, h3⟩
    · subst h3
      rw [List.take_length]
      refine takeWhile_all _ _ fun x hx => ?_
      obtain ⟨j, hj, rfl⟩ := List.getElem_of_mem hx
      exact h2 j hj
    · have hs : l = l.take k ++ l[k] :: l.drop (k + 1) := by rw [List.getElem_cons_drop, List.take_append_drop]
      conv => lhs; rw [hs]
      refine takeWhile_stop _ _ _ _ (fun x hx => ?_) h3
      obtain ⟨j, hj, rfl⟩ := List.getElem_of_mem hx
      simp at hj
      simp only [List.getElem_take]
      exact h2 j (by omega)
  rw [e]; simp; omega

theorem empty_eq (s : ByteArray) : (s.toList == []) = decide (s.size = 0) := by
  rw [ByteArray.toList_eq, Bool.eq_iff_iff]
  have : s.size = s.data.toList.length := by simp
  rw [this, decide_eq_true_iff, List.length_eq_zero_iff]
  simp

theorem spanN_at (p q : UInt8 → Bool) (s : ByteArray) (hpos : 0 < s.size) (hp : p (s[0]'hpos) = true) (k : Nat) (hk1 : 1 ≤ k) (hk2 : k ≤ s.size) (hj : ∀ j (hj : j < s.size), 1 ≤ j → j < k → q (s[j]'hj) = true)
    (he : k = s.size ∨ ∃ hk : k < s.size, q (s[k]'hk) = false) : spanN p q (tl s) = k := by
  have hd := tl_drop s 0 hpos
  rw [List.drop_zero] at hd
  rw [hd, spanN_cons _ _ _ _ hp]
  have : ((tl s).drop 1).length = s.size - 1 := by rw [List.length_drop, tl_length]
  have g : ∀ j (hj : j < ((tl s).drop 1).length), ((tl s).drop 1)[j] = s[j + 1]'(by rw [this] at hj; omega) := fun j hj => by
    simp only [List.getElem_drop]
    unfold tl
    simp only [Array.getElem_toList, show 1 + j = j + 1 by omega]
    rfl
  rw [tw_stop q ((tl s).drop 1) (k - 1) (by omega)]
  · omega
  · intro j hj'
    rw [g]
    exact hj _ _ (by omega) (by omega)
  · rcases he with he | ⟨hk, he⟩
    · left; omega
    · right
      refine ⟨by omega, ?_⟩
      rw [g]
      simpa [show k - 1 + 1 = k by omega] using he

set_option maxHeartbeats 1000000 in
theorem span_name (s : ByteArray) (hs : s.size ≤ 9223372036854775807) (g : Nat) (w : World) (hg : w.cell? ⟨g, 0, none⟩ = some (.func (.func 99) #[] #[])) : Calls Tryz.prog 100 #[.string s, .func (.func 99) #[] #[], .func (.func 101) #[] #[.pointer (some ⟨g, 0, none⟩)]] w fun e w' => e = .returned (.int .i64 (nameN (tl s) : Nat)) ∧ w = w' := by
  by_cases h0 : s.size = 0
  · have he : tl s = [] := List.length_eq_zero_iff.1 (by rw [tl_length]; exact h0)
    have hS : (s.toList == []) = true := by rw [empty_eq]; simpa using h0
    have hN : nameN (tl s) = 0 := by rw [he]; rfl
    rw [hN]
    clear he hN
    go_enter Tryz.func100, Tryz.ntmps100
    go_wp2
    go_ret
    exact ⟨rfl, rfl⟩
  · have hS : (s.toList == []) = false := by rw [empty_eq]; simpa using h0
    have hpos : 0 < s.size := by omega
    have hd := tl_drop s 0 hpos
    rw [List.drop_zero] at hd
    have c0 := low_any (s[0]'hpos)
    cases hp : lowB (s[0]'hpos)
    · have hN : nameN (tl s) = 0 := by rw [hd]; exact spanN_zero _ _ _ _ hp
      rw [hN]
      rw [hp] at c0
      clear hd hN hp
      go_enter Tryz.func100, Tryz.ntmps100
      go_wp2_with (go_at_call 99; refine (c0 _).mono ?_; rintro e w' ⟨rfl, rfl⟩)
      go_ret
      exact ⟨rfl, rfl⟩
    · rw [hp] at c0
      have HN := Lib.hid (spanN_at lowB wordB' s hpos hp)
      clear hd hp
      obtain ⟨R, hR⟩ : ∃ R, nameN (tl s) = R := ⟨_, rfl⟩
      have hR' : spanN lowB wordB' (tl s) = R := hR
      rw [hR'] at HN
      rw [hR]
      clear hR hR'
      go_enter Tryz.func100, Tryz.ntmps100
      go_wp2_with (go_at_call 99; refine (c0 _).mono ?_; rintro e w' ⟨rfl, rfl⟩)
      go_loop [7] (fun i => ∃ k : Nat, 1 ≤ k ∧ k ≤ s.size ∧ i = .int .i64 k ∧ Hid (∀ j (hj : j < s.size), 1 ≤ j → j < k → wordB' (s[j]'hj) = true)) (fun i => s.size - (intOf i).toNat)
      case atStart => exact ⟨1, Nat.le_refl _, hpos, rfl, Lib.hid (fun j hj h1 h2 => by omega)⟩
      case round =>
        obtain ⟨k, hk1, hk2, rfl, HJ⟩ := hrel
        by_cases hlt : k < s.size
        · have ck := word_any (s[k]'hlt) g w hg
          cases hp : wordB' (s[k]'hlt)
          · have hR := Lib.hid (HN.out k hk1 hk2 HJ.out (.inr ⟨hlt, hp⟩))
            rw [hp] at ck
            clear hp
            go_wp2_with (go_at_call 101; refine ck.mono ?_; rintro e w' ⟨rfl, rfl⟩)
            go_ret
            exact ⟨ret_nat hR.out.symm, rfl⟩
          · have HJ2 : Hid (∀ j (hj : j < s.size), 1 ≤ j → j < k + 1 → wordB' (s[j]'hj) = true) := Lib.hid (fun j hj h1 h2 => by
              by_cases h : j < k
              · exact HJ.out j hj h1 h
              · obtain rfl : j = k := by omega
                exact hp)
            rw [hp] at ck
            clear hp
            go_wp2_with (go_at_call 101; refine ck.mono ?_; rintro e w' ⟨rfl, rfl⟩)
            go_round
            case rel => exact ⟨k + 1, by omega, by omega, by go_num, HJ2⟩
            case measure => simp [intOf]; omega
        · have hR := Lib.hid (HN.out k hk1 hk2 HJ.out (.inl (by omega)))
          go_wp2
          go_ret
          exact ⟨ret_nat hR.out.symm, rfl⟩

theorem name_any (s : ByteArray) (hs : s.size ≤ 9223372036854775807) (w : World) : Calls Tryz.prog 92 #[.string s] w fun e w' => e = .returned (.int .i64 (nameN (tl s) : Nat)) ∧ Below w.heap.size w w' := by
  have bS := Boxed.new w 120 (.func (.func 99) #[] #[])
  have k := span_name s hs w.heap.size _ bS.cell
  have hB : Below w.heap.size w (w.alloc (.cells #[.func (.func 99) #[] #[]] 120)) := (Below.refl _ w).alloc (Nat.le_refl _) _
  clear bS
  go_enter Tryz.func92, Tryz.ntmps92
  go_wp2_with (go_at_call 100; refine k.mono ?_; rintro e w' ⟨rfl, rfl⟩)
  go_ret
  exact ⟨rfl, hB⟩
end Go.Proofs.YtinajnkjfhbmkaaGreatDoor

namespace Go.Proofs.YtinajnkjfhbmkaaGreatDoor
open Go Go.Proofs Go.RowKit

theorem order_self_nan {d : Ieee.Datum} : d.order d = none ↔ d.isNaN = true := by
  cases d <;> simp [Ieee.Datum.order, Ieee.Datum.isNaN]
theorem order_self_eq {d : Ieee.Datum} (h : d.isNaN = false) : d.order d = some .eq := by
  cases d <;> simp_all [Ieee.Datum.order, Ieee.Datum.isNaN]

/-- The word is that of one that is none. -/
def isN (x : Nat) : Bool := (Ieee.double.read x).isNaN
def noneB : Nat := 9221120237041090561
/-- The word, or that of the one that is none. -/
def norm (x : Nat) : Nat := if isN x then noneB else x

theorem neq_self (x : Nat) : (Ieee.double.order x x != some .eq) = isN x := by
  unfold Ieee.Format.order isN
  cases h : (Ieee.double.read x).isNaN
  · rw [order_self_eq h]; rfl
  · rw [order_self_nan.2 h]; rfl

theorem enter_bits (x : Nat) (w : World) : (callFunc 107 #[.int .u64 (x : Int)]).run Tryz.prog w = .ok (.value (.float .f64 x)) w := by
  rw [run_callFunc_extern Tryz.func107 (by kernel_rfl) (by kernel_rfl) (by kernel_rfl) (e := Extern.MathFloatBits.float64frombits) (by kernel_rfl)]
  rfl
theorem enter_word (x : Nat) (w : World) : (callFunc 112 #[.float .f64 x]).run Tryz.prog w = .ok (.value (.int .u64 (x : Int))) w := by
  rw [run_callFunc_extern Tryz.func112 (by kernel_rfl) (by kernel_rfl) (by kernel_rfl) (e := Extern.MathFloatBits.float64bits) (by kernel_rfl)]
  rfl

theorem isNaN_any (x : Nat) (w : World) : Calls Tryz.prog 111 #[.float .f64 x] w fun e w' => e = .returned (.bool (isN x)) ∧ w = w' := by
  go_enter Tryz.func111, Tryz.ntmps111
  go_wp2
  go_ret
  exact ⟨by rw [← neq_self]; rfl, rfl⟩

theorem of_any (x : Nat) (w : World) : Calls Tryz.prog 106 #[.float .f64 x] w fun e w' => e = .returned (.int .u64 (norm x : Nat)) ∧ w = w' := by
  have k := enter_word
  have c := isNaN_any x
  unfold norm
  cases h : isN x
  · rw [h] at c
    clear h
    go_enter Tryz.func106, Tryz.ntmps106
    go_wp2_with (go_at_call 111; refine (c _).mono ?_; rintro e w' ⟨rfl, rfl⟩)
    go_ret
    exact ⟨rfl, rfl⟩
  · rw [h] at c
    clear h
    go_enter Tryz.func106, Tryz.ntmps106
    go_wp2_with (go_at_call 111; refine (c _).mono ?_; rintro e w' ⟨rfl, rfl⟩)
    go_ret
    exact ⟨rfl, rfl⟩

theorem ofBits_any (x : Nat) (w : World) : Calls Tryz.prog 97 #[.int .u64 (x : Int)] w fun e w' => e = .returned (.int .u64 (norm x : Nat)) ∧ w = w' := by
  have k := enter_bits
  go_enter Tryz.func97, Tryz.ntmps97
  go_wp2_with (go_at_call 106; refine (of_any _ _).mono ?_; rintro e w' ⟨rfl, rfl⟩)
  go_ret
  exact ⟨rfl, rfl⟩

theorem retI {k : IntKind} {a b : Int} (h : a = b) : Ending.returned (.int k a) = .returned (.int k b) := by rw [h]
theorem tl_extract (s : ByteArray) (a b : Nat) : tl (s.extract a b) = ((tl s).take b).drop a := by
  unfold tl
  rw [ByteArray.data_extract, Array.toList_extract, List.extract_eq_drop_take', List.drop_take]
theorem tl_from (s : ByteArray) (a : Nat) : tl (s.extract a s.size) = (tl s).drop a := by
  rw [tl_extract s a s.size, ← tl_length s, List.take_length]

theorem toL (s : ByteArray) (l : List UInt8) : (s.toList == l) = decide (tl s = l) := by
  rw [ByteArray.toList_eq, Bool.eq_iff_iff, decide_eq_true_iff]; simp [tl]
theorem toL_ne {s : ByteArray} {l : List UInt8} (h : ¬ tl s = l) : (s.toList == l) = false := by rw [toL]; simpa using h
theorem toL_eq {s : ByteArray} {l : List UInt8} (h : tl s = l) : (s.toList == l) = true := by rw [toL]; simpa using h

theorem mk_tl (s : ByteArray) : s = ⟨(tl s).toArray⟩ := by simp [tl]

set_option maxHeartbeats 4000000 in
theorem isWord_any (s : ByteArray) (w : World) : Calls Tryz.prog 93 #[.string s] w fun e w' => e = .returned (.bool (isW (tl s))) ∧ w = w' := by
  by_cases hm : tl s ∈ words
  · have h1 : isW (tl s) = true := by simpa [isW] using hm
    rw [h1]
    clear h1
    have h0 := mk_tl s
    simp only [words, List.mem_cons, List.not_mem_nil, or_false] at hm
    rcases hm with hm | hm | hm | hm | hm | hm | hm | hm | hm | hm | hm | hm | hm | hm | hm | hm | hm | hm | hm | hm
    all_goals
      rw [hm] at h0
      subst h0
      clear hm
      go_enter Tryz.func93, Tryz.ntmps93
      go_wp2_with fail
      go_ret
      exact ⟨rfl, rfl⟩
  · have h1 : isW (tl s) = false := by simpa [isW] using hm
    rw [h1]
    clear h1
    simp only [words, List.mem_cons, List.not_mem_nil, or_false, not_or] at hm
    obtain ⟨m1, m2, m3, m4, m5, m6, m7, m8, m9, m10, m11, m12, m13, m14, m15, m16, m17, m18, m19, m20⟩ := hm
    have n1 := toL_ne m1
    have n2 := toL_ne m2
    have n3 := toL_ne m3
    have n4 := toL_ne m4
    have n5 := toL_ne m5
    have n6 := toL_ne m6
    have n7 := toL_ne m7
    have n8 := toL_ne m8
    have n9 := toL_ne m9
    have n10 := toL_ne m10
    have n11 := toL_ne m11
    have n12 := toL_ne m12
    have n13 := toL_ne m13
    have n14 := toL_ne m14
    have n15 := toL_ne m15
    have n16 := toL_ne m16
    have n17 := toL_ne m17
    have n18 := toL_ne m18
    have n19 := toL_ne m19
    have n20 := toL_ne m20
    clear m1 m2 m3 m4 m5 m6 m7 m8 m9 m10 m11 m12 m13 m14 m15 m16 m17 m18 m19 m20
    go_enter Tryz.func93, Tryz.ntmps93
    go_wp2_with fail
    go_ret
    exact ⟨rfl, rfl⟩

/-- The bytes are a name's. -/
def isName (l : List UInt8) : Bool := decide (l ≠ []) && decide (nameN l = l.length) && !isW l
theorem isName_any (s : ByteArray) (hs : s.size ≤ 9223372036854775807) (w : World) : Calls Tryz.prog 79 #[.string s] w fun e w' => e = .returned (.bool (isName (tl s))) ∧ Below w.heap.size w w' := by
  have c1 := name_any s hs
  have c2 := isWord_any s
  unfold isName
  have hlen := tl_length s
  by_cases h0 : s.size = 0
  · have he : tl s = [] := List.length_eq_zero_iff.1 (by omega)
    have hS : (s.toList == []) = true := by rw [empty_eq]; simpa using h0
    rw [he]
    clear c1 c2 he
    go_enter Tryz.func79, Tryz.ntmps79
    go_wp2_with fail
    go_ret
    exact ⟨rfl, Below.refl _ _⟩
  · have he : ¬ tl s = [] := fun h => h0 (by rw [h] at hlen; simpa using hlen.symm)
    have hS : (s.toList == []) = false := by rw [empty_eq]; simpa using h0
    have hl := spanN_le lowB wordB' (tl s)
    rw [hlen]
    rw [hlen] at hl
    have hd : decide (tl s ≠ []) = true := by simpa using he
    rw [hd, Bool.true_and]
    obtain ⟨n, hn⟩ : ∃ n, nameN (tl s) = n := ⟨_, rfl⟩
    rw [hn] at c1 ⊢
    obtain ⟨b, hb⟩ : ∃ b, isW (tl s) = b := ⟨_, rfl⟩
    rw [hb] at c2 ⊢
    clear hd he hb
    by_cases hz : n = s.size
    · subst hz
      clear hl hn
      go_enter Tryz.func79, Tryz.ntmps79
      go_wp2_with (first | (go_at_call 92; refine (c1 _).mono ?_; rintro e w' ⟨rfl, hb⟩) | (go_at_call 93; refine (c2 _).mono ?_; rintro e w' ⟨rfl, rfl⟩))
      go_ret
      exact ⟨ret_bool (by simp), hb⟩
    · clear hl hn
      go_enter Tryz.func79, Tryz.ntmps79
      go_wp2_with (first | (go_at_call 92; refine (c1 _).mono ?_; rintro e w' ⟨rfl, hb⟩) | (go_at_call 93; refine (c2 _).mono ?_; rintro e w' ⟨rfl, rfl⟩))
      go_ret
      exact ⟨ret_bool (by simp [hz]), hb⟩

end Go.Proofs.YtinajnkjfhbmkaaGreatDoor

namespace Go.Proofs.YtinajnkjfhbmkaaGreatDoor
open Go Go.Proofs Go.RowKit

/-- The words, each between blanks. -/
def WL : List UInt8 := [32, 102, 117, 110, 32, 108, 101, 116, 32, 114, 101, 99, 32, 105, 110, 32, 105, 102, 32, 116, 104, 101, 110, 32, 101, 108, 115, 101, 32, 99, 97, 115, 101, 32, 111, 102, 32, 101, 110, 100, 32, 116, 114, 117].append [101, 32, 102, 97, 108, 115, 101, 32, 105, 110, 116, 32, 98, 111, 111, 108, 32, 115, 116, 114, 32, 102, 108, 111, 97, 116, 32, 100, 121, 110, 32, 97, 110, 121, 32, 110, 111, 110, 101, 32, 116, 121, 112, 101, 32]
theorem WL_len : WL.length = 89 := by decide
theorem words_in : ∀ x ∈ words, ∃ i ∈ List.range 88, i + x.length + 2 ≤ 89 ∧ (WL.drop i).take (x.length + 2) = 32 :: (x ++ [32]) := by decide +kernel
theorem words_small : ∀ x ∈ words, x.all smallB = true := by decide
theorem words_out : ∀ i ∈ List.range 89, WL.getD i 0 = 32 → (WL.drop (i + 1)).takeWhile (fun c => decide (c ≠ 32)) ∈ words ∨ (WL.drop (i + 1)).takeWhile (fun c => decide (c ≠ 32)) = [] := by decide +kernel
theorem word_of (l : List UInt8) (h0 : l ≠ []) (hs : l.all smallB = true) (i : Nat) (hi : i + l.length + 2 ≤ 89) (h : (WL.drop i).take (l.length + 2) = 32 :: (l ++ [32])) : l ∈ words := by
  have hg : WL.getD i 0 = 32 := by
    have := congrArg (fun x => x.getD 0 0) h
    simpa [List.getD_eq_getElem?_getD] using this
  have hd : WL.drop i = 32 :: (l ++ [32]) ++ (WL.drop i).drop (l.length + 2) := by rw [← h, List.take_append_drop]
  have hd1 : WL.drop (i + 1) = l ++ 32 :: (WL.drop i).drop (l.length + 2) := by
    have : WL.drop (i + 1) = (WL.drop i).drop 1 := by rw [List.drop_drop]
    rw [this]
    conv => lhs; rw [hd]
    simp
  have ht : (WL.drop (i + 1)).takeWhile (fun c => decide (c ≠ 32)) = l := by
    rw [hd1]
    refine takeWhile_stop _ _ _ _ (fun y hy => ?_) (by decide)
    have := List.all_eq_true.1 hs y hy
    simp [smallB] at this
    simp
    rintro rfl
    simp at this
  rcases words_out i (List.mem_range.2 (by omega)) hg with h | h
  · rwa [ht] at h
  · rw [ht] at h; exact absurd h h0

theorem tl_append (a b : ByteArray) : tl (a ++ b) = tl a ++ tl b := by
  unfold tl
  rw [ByteArray.data_append, Array.toList_append]

set_option maxRecDepth 100000 in
set_option maxHeartbeats 4000000 in
theorem rword_any (s : ByteArray) (hs : s.size ≤ 1048576) (w : World) : Calls Tryz.prog 70 #[.string s] w fun e w' => e = .returned (.bool (isW (tl s))) ∧ w = w' := by
  have hlen := tl_length s
  by_cases h0 : s.size = 0
  · have he : tl s = [] := List.length_eq_zero_iff.1 (by omega)
    have hS : (s.toList == []) = true := by rw [empty_eq]; simpa using h0
    have hN : isW (tl s) = false := by rw [he]; decide
    rw [hN]
    clear hN he
    go_enter Tryz.func70, Tryz.ntmps70
    go_wp2_with fail
    go_ret
    exact ⟨rfl, rfl⟩
  · have hne : tl s ≠ [] := fun h => h0 (by rw [h] at hlen; simpa using hlen.symm)
    have hS : (s.toList == []) = false := by rw [empty_eq]; simpa using h0
    obtain ⟨WS, hWS⟩ : ∃ WS : ByteArray, ⟨([32, 102, 117, 110, 32, 108, 101, 116, 32, 114, 101, 99, 32, 105, 110, 32, 105, 102, 32, 116, 104, 101, 110, 32, 101, 108, 115, 101, 32, 99, 97, 115, 101, 32, 111, 102, 32, 101, 110, 100, 32, 116, 114, 117].append [101, 32, 102, 97, 108, 115, 101, 32, 105, 110, 116, 32, 98, 111, 111, 108, 32, 115, 116, 114, 32, 102, 108, 111, 97, 116, 32, 100, 121, 110, 32, 97, 110, 121, 32, 110, 111, 110, 101, 32, 116, 121, 112, 101, 32]).toArray⟩ = WS := ⟨_, rfl⟩
    have hwt : tl WS = WL := by rw [← hWS]; simp [tl, WL]
    have hwz : WS.size = 89 := by rw [← tl_length, hwt]; exact WL_len
    have HNE := Lib.hid hne
    obtain ⟨R, hR⟩ : ∃ R, isW (tl s) = R := ⟨_, rfl⟩
    rw [hR]
    have HR := Lib.hid hR
    clear hR hne
    go_enter Tryz.func70, Tryz.ntmps70
    rw [hWS]
    have HWT := Lib.hid hwt
    clear hWS hwt
    go_wp2_with fail
    go_loop [3] (fun i => ∃ k : Nat, k ≤ s.size ∧ i = .int .i64 k ∧ Hid (∀ j (hj : j < s.size), j < k → smallB (s[j]'hj) = true)) (fun i => s.size - (intOf i).toNat)
    case atStart => exact ⟨0, Nat.zero_le _, rfl, Lib.hid (fun j hj h => by omega)⟩
    case round =>
      obtain ⟨k, hk, rfl, HJ⟩ := hrel
      by_cases hlt : k < s.size
      · have hc := (s[k]'hlt).toNat_lt
        have hbad : ∀ (_ : smallB (s[k]'hlt) = false), R = false := fun h => by
          rw [← HR.out]
          unfold isW
          rw [decide_eq_false_iff_not]
          intro hm
          have := List.all_eq_true.1 (words_small _ hm) (s[k]'hlt) (List.mem_of_mem_drop (by rw [tl_drop s k hlt]; exact List.mem_cons_self ..))
          rw [h] at this
          cases this
        by_cases c1 : 97 ≤ (s[k]'hlt).toNat
        · by_cases c2 : (s[k]'hlt).toNat ≤ 122
          · have HJ2 : Hid (∀ j (hj : j < s.size), j < k + 1 → smallB (s[j]'hj) = true) := Lib.hid (fun j hj h => by
              by_cases h' : j < k
              · exact HJ.out j hj h'
              · obtain rfl : j = k := by omega
                simp [smallB]; omega)
            clear hbad
            go_wp2_with fail
            go_round
            case rel => exact ⟨k + 1, by omega, by go_num, HJ2⟩
            case measure => simp [intOf]; omega
          · have HB := Lib.hid (hbad (by simp [smallB]; omega))
            clear hbad
            go_wp2_with fail
            go_ret
            exact ⟨ret_bool HB.out.symm, rfl⟩
        · have HB := Lib.hid (hbad (by simp [smallB]; omega))
          clear hbad
          go_wp2_with fail
          go_ret
          exact ⟨ret_bool HB.out.symm, rfl⟩
      · have hall : (tl s).all smallB = true := by
          rw [List.all_eq_true]
          intro x hx
          obtain ⟨j, hj, rfl⟩ := List.getElem_of_mem hx
          rw [hlen] at hj
          exact HJ.out j hj (by omega)
        have HALL := Lib.hid hall
        clear hall HJ
        go_wp2_with fail
        go_loop [4] (fun i => ∃ k : Nat, k ≤ 89 ∧ i = .int .i64 k ∧ Hid (∀ j, j < k → j + (tl s).length + 2 ≤ 89 → (WL.drop j).take ((tl s).length + 2) ≠ 32 :: (tl s ++ [32]))) (fun i => 89 - (intOf i).toNat)
        case atStart => exact ⟨0, Nat.zero_le _, rfl, Lib.hid (fun j h => by omega)⟩
        case round =>
          obtain ⟨k, hk, rfl, HJ⟩ := hrel
          by_cases hlt : k + s.size + 2 ≤ 89
          · obtain ⟨sub, hsub⟩ : ∃ sub, WS.extract k (k + s.size + 2) = sub := ⟨_, rfl⟩
            have hst : tl sub = (WL.drop k).take ((tl s).length + 2) := by
              rw [← hsub, tl_extract, HWT.out, List.drop_take, hlen]; congr 1; omega
            have hsl : ∀ w, (Instr.slice 9 (.string WS) (some (.int .i64 (k : Int))) (some (.int .i64 ((k : Int) + (s.size : Int) + 2))) none).run Tryz.prog w = .ok (.string sub) w := fun w => by
              rw [run_slice_string w 9 WS .i64 .i64 k ((k : Int) + (s.size : Int) + 2) Tryz.underlying9 (by omega) (by omega) (by omega), ← hsub]
              congr 3
            have hcat : tl ((⟨#[32]⟩ : ByteArray) ++ s ++ ⟨#[32]⟩) = 32 :: (tl s ++ [32]) := by rw [tl_append, tl_append]; rfl
            have hcmp : (sub.toList == ((⟨#[32]⟩ : ByteArray) ++ s ++ ⟨#[32]⟩).toList) = decide ((WL.drop k).take ((tl s).length + 2) = 32 :: (tl s ++ [32])) := by
              have h1 : ((⟨#[32]⟩ : ByteArray) ++ s ++ ⟨#[32]⟩).toList = 32 :: (tl s ++ [32]) := by rw [ByteArray.toList_eq]; exact hcat
              rw [h1, toL, hst]
            clear hst hsub hcat
            by_cases hw : (WL.drop k).take ((tl s).length + 2) = 32 :: (tl s ++ [32])
            · have hm : R = true := by
                rw [← HR.out]
                have := word_of (tl s) HNE.out HALL.out k (by omega) hw
                simpa [isW] using this
              have HM := Lib.hid hm
              rw [decide_eq_true hw] at hcmp
              clear hw hm
              go_wp2_with fail
              go_ret
              exact ⟨ret_bool HM.out.symm, rfl⟩
            · rw [decide_eq_false hw] at hcmp
              have HJ2 : Hid (∀ j, j < k + 1 → j + (tl s).length + 2 ≤ 89 → (WL.drop j).take ((tl s).length + 2) ≠ 32 :: (tl s ++ [32])) := Lib.hid (fun j h1 h2 => by
                by_cases h : j < k
                · exact HJ.out j h h2
                · obtain rfl : j = k := by omega
                  exact hw)
              clear hw
              go_wp2_with fail
              go_round
              case rel => exact ⟨k + 1, by omega, by go_num, HJ2⟩
              case measure => simp [intOf]; omega
          · have hm : R = false := by
              rw [← HR.out]
              unfold isW
              rw [decide_eq_false_iff_not]
              intro hmem
              obtain ⟨i, _, hi, hw⟩ := words_in _ hmem
              exact HJ.out i (by omega) hi hw
            have HM := Lib.hid hm
            clear hm
            go_wp2_with fail
            go_ret
            exact ⟨ret_bool HM.out.symm, rfl⟩
end Go.Proofs.YtinajnkjfhbmkaaGreatDoor
