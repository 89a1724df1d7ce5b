/- The tokens of a text, as plain -/
import Derived.Test.YtidmeodmkcomlaaGreatDoorL01
import Derived.Test.YtidmeodmkcomlaaGreatDoorProg
import Derived.WalkKit
import Derived.WalkLawsBesides
import Derived.Outline
import Derived.Laws.EntriesVeiled
import Derived.RangeFuncBox
namespace Go.Proofs.YtidmeodmkcomlaaGreatDoor
def lowB (c : UInt8) : Bool := (decide (97 ≤ c.toNat) && decide (c.toNat ≤ 122)) || decide (c.toNat = 95)
def zb9 (c : UInt8) : Bool := decide (97 ≤ c.toNat) && decide (c.toNat ≤ 122)
def digB (c : UInt8) : Bool := decide (48 ≤ c.toNat) && decide (c.toNat ≤ 57)
def highB (c : UInt8) : Bool := decide (65 ≤ c.toNat) && decide (c.toNat ≤ 90)
def hexB (c : UInt8) : Bool := digB c || (decide (97 ≤ c.toNat) && decide (c.toNat ≤ 102))
def zc3 (c : UInt8) : Bool := decide (c.toNat = 32) || decide (c.toNat = 9) || decide (c.toNat = 10) || decide (c.toNat = 13)
def zbj (c : UInt8) : Bool := lowB c || digB c
def aliB (c : UInt8) : Bool := highB c || zb9 c || digB c
def spanN (p q : UInt8 → Bool) : List UInt8 → Nat
 | [] => 0
 | c :: r => if p c then (r.takeWhile q).length + 1 else 0
def nameN (l : List UInt8) : Nat := spanN lowB zbj l
def zc4 (l : List UInt8) : Nat := spanN highB aliB l
def digN (l : List UInt8) : Nat := spanN digB digB l
theorem zcl (p q : UInt8 → Bool) (l : List UInt8) : spanN p q l ≤ l.length := by
 cases l with
 | nil => exact zJw _
 | cons c r =>
  have := (List.takeWhile_sublist q (l := r)).length_le;rw [spanN, zK2];split <;> omega
def noteB (l : List UInt8) : Bool := decide (l.take 2 = [47, 47])
def noteN (l : List UInt8) : Nat := (l.takeWhile fun c => decide (c.toNat ≠ 10)).length
theorem zij (l : List UInt8) : noteN l ≤ l.length := (List.takeWhile_sublist _).length_le
theorem zey (l : List UInt8) (h : noteB l = true) : 2 ≤ noteN l := by
 match l, h with
 | a :: b :: r, h =>
  simp [noteB] at h
  obtain ⟨rfl, rfl⟩ := h;simp [noteN]
 | [a], h => simp [noteB] at h
 | [], h => simp [noteB] at h
def skipN (l : List UInt8) : Nat :=
 match l with
 | [] => 0
 | c :: r => if zc3 c then skipN r + 1 else if _hn : noteB (c :: r) then noteN (c :: r) + skipN ((c :: r).drop (noteN (c :: r))) else 0
termination_by l.length
decreasing_by
 · simp
 · have := zey _ _hn
   simp only [zKa, zK2];omega
theorem zax : skipN [] = 0 := by rw [skipN]
theorem zen (c : UInt8) (r : List UInt8) (h : zc3 c = true) : skipN (c :: r) = skipN r + 1 := by rw [skipN]; simp [h]
theorem zfa (l : List UInt8) (h : noteB l = true) : skipN l = noteN l + skipN (l.drop (noteN l)) := by
 match l, h with
 | c :: r, h =>
  have hb : zc3 c = false := by
   match r, h with
   | b :: r, h =>
    simp [noteB] at h
    obtain ⟨rfl, rfl⟩ := h;decide
   | [], h => simp [noteB] at h
  rw [skipN]; simp only [hb, h]; simp
 | [], h => simp [noteB] at h
theorem zcx (c : UInt8) (r : List UInt8) (h : zc3 c = false) (hn : noteB (c :: r) = false) : skipN (c :: r) = 0 := by
 rw [skipN]; simp [h, hn]
theorem zh8 : ∀ (n : Nat) (l : List UInt8), l.length ≤ n → skipN l ≤ l.length
 | 0, l, h => by
  obtain rfl : l = [] := List.length_eq_zero_iff.1 (by omega);rw [zax]; exact zJw _
 | n + 1, [], h => by rw [zax]; exact zJw _
 | n + 1, c :: r, h => by
  by_cases hb : zc3 c = true
  · rw [zen c r hb]
    have := zh8 n r (by simp at h; omega);simp; omega
  · by_cases hn : noteB (c :: r) = true
    · rw [zfa _ hn]
      have h2 := zey _ hn;have h3 := zij (c :: r);have := zh8 n ((c :: r).drop (noteN (c :: r))) (by simp only [zKa]; simp at h ⊢; omega);simp only [zKa] at this;omega
    · rw [zcx c r (by simpa using hb) (by simpa using hn)]
      exact zK8 _
theorem zif : ∀ (n : Nat) (l : List UInt8), l.length ≤ n → l.drop (skipN l) = [] ∨ ∃ c r, l.drop (skipN l) = c :: r ∧ zc3 c = false ∧ noteB (c :: r) = false
 | 0, l, h => by
  obtain rfl : l = [] := List.length_eq_zero_iff.1 (by omega);exact .inl (by simp)
 | n + 1, [], h => .inl (by simp)
 | n + 1, c :: r, h => by
  by_cases hb : zc3 c = true
  · rw [zen c r hb]
    exact zif n r (by simp at h; omega)
  · by_cases hn : noteB (c :: r) = true
    · rw [zfa _ hn]
      have h2 := zey _ hn;have := zif n ((c :: r).drop (noteN (c :: r))) (by simp only [zKa]; simp at h ⊢; omega);rw [List.drop_drop] at this;exact this
    · rw [zcx c r (by simpa using hb) (by simpa using hn)]
      exact .inr ⟨c, r, rfl, by simpa using hb, by simpa using hn⟩
def escB (d : UInt8) : Option UInt8 := if d.toNat = 92 then some 92 else if d.toNat = 34 then some 34 else if d.toNat = 110 then some 10 else none
def strV : List UInt8 → Option (List UInt8 × Nat)
 | [] => none
 | c :: r =>
  if c.toNat = 34 then some ([], 1)
  else if c.toNat < 32 then none
  else if c.toNat = 92 then
   match r with
   | [] => none
   | d :: r' => match escB d with
    | none => none
    | some e => (strV r').map fun x => (e :: x.1, x.2 + 2)
  else (strV r).map fun x => (c :: x.1, x.2 + 1)
def decV (n : Nat) (l : List UInt8) : Nat := l.foldl (fun a c => a * 10 + (c.toNat - 48)) n
def intN (l : List UInt8) : Nat := if (digN l = 1 ∨ (l.getD 0 0).toNat ≠ 48) ∧ decV 0 (l.take (digN l)) ≤ 9223372036854775807 then digN l else 0
def leadB (l : List UInt8) : Bool := decide (l.take 2 = [102, 39])
def fltB (l : List UInt8) : Bool := decide (18 ≤ l.length) && ((l.drop 2).take 16).all hexB
def words : List (List UInt8) := [[102, 117, 110], [108, 101, 116], [114, 101, 99], [105, 110], [105, 102], [116, 104, 101, 110], [101, 108, 115, 101], [99, 97, 115, 101], [111, 102], [101, 110, 100], [116, 114, 117, 101], [102, 97, 108, 115, 101], [105, 110, 116], [98, 111, 111, 108], [115, 116, 114], [102, 108, 111, 97, 116], [100, 121, 110], [97, 110, 121], [110, 111, 110, 101], [116, 121, 112, 101]]
def isW (l : List UInt8) : Bool := decide (l ∈ words)
def twos : List (List UInt8) := [[61, 62], [45, 62], [61, 61], [46, 46], [43, 46], [45, 46], [42, 46], [47, 46], [60, 46]]
def ones : List UInt8 := [40, 41, 123, 125, 91, 93, 44, 59, 58, 46, 61, 124, 43, 45, 42, 47, 60, 94]
def signN (l : List UInt8) : Nat := if l.take 2 ∈ twos then 2 else if l.getD 0 0 ∈ ones then 1 else 0
def tok : List UInt8 → Option ((Nat × List UInt8) × Nat)
 | [] => none
 | c :: r =>
  if leadB (c :: r) then (if fltB (c :: r) then some ((5, (c :: r).take 18), 18) else none)
  else if c.toNat = 34 then (strV r).map fun x => ((6, x.1), x.2 + 1)
  else if c.toNat = 35 then (if nameN r = 0 then none else some ((3, r.take (nameN r)), nameN r + 1))
  else if digB c then (if intN (c :: r) = 0 then none else some ((4, (c :: r).take (intN (c :: r))), intN (c :: r)))
  else if lowB c then some ((if isW ((c :: r).take (nameN (c :: r))) then 7 else 1, (c :: r).take (nameN (c :: r))), nameN (c :: r))
  else if highB c then some ((2, (c :: r).take (zc4 (c :: r))), zc4 (c :: r))
  else if signN (c :: r) = 0 then none
  else some ((8, (c :: r).take (signN (c :: r))), signN (c :: r))
theorem zck : strV [] = none := by rw [strV.eq_def]
theorem zbd (c : UInt8) (r : List UInt8) : strV (c :: r) =
 (if c.toNat = 34 then some ([], 1)
 else if c.toNat < 32 then none
 else if c.toNat = 92 then
  match r with
  | [] => none
  | d :: r' => match escB d with
   | none => none
   | some e => (strV r').map fun x => (e :: x.1, x.2 + 2)
 else (strV r).map fun x => (c :: x.1, x.2 + 1)) := by rw [strV.eq_def]
theorem zk7 : ∀ (n : Nat) (l : List UInt8) (x : List UInt8 × Nat), l.length ≤ n → strV l = some x → 1 ≤ x.2 ∧ x.2 ≤ l.length
 | 0, l, x, h, hs => by
  obtain rfl : l = [] := List.length_eq_zero_iff.1 (by omega);rw [zck] at hs;cases hs
 | n + 1, [], x, h, hs => by rw [zck] at hs; cases hs
 | n + 1, c :: r, x, h, hs => by
  simp only [zK2] at h;rw [zbd] at hs;split at hs
  · cases hs; simp
  · split at hs
    · cases hs
    · split at hs
      · match r, hs, h with
        | [], hs, _ => cases hs
        | d :: r', hs, h =>
         dsimp only at hs
         cases he : escB d with
         | none => rw [he] at hs; cases hs
         | some e =>
          rw [he] at hs;simp only [zKg] at hs;obtain ⟨y, hy, rfl⟩ := hs;have := zk7 n r' y (by simp at h; omega) hy;simp; omega
      · simp only [zKg] at hs
        obtain ⟨y, hy, rfl⟩ := hs;have := zk7 n r y (by omega) hy;simp; omega
theorem zdg (p q : UInt8 → Bool) (c : UInt8) (r : List UInt8) (h : p c = true) : spanN p q (c :: r) = (r.takeWhile q).length + 1 := by simp [spanN, h]
theorem zdz (p q : UInt8 → Bool) (c : UInt8) (r : List UInt8) (h : p c = false) : spanN p q (c :: r) = 0 := by simp [spanN, h]
theorem zqu (c : UInt8) (r : List UInt8) : signN (c :: r) ≤ (c :: r).length := by
 unfold signN;split
 · rename_i h
   match r, h with
   | [], h => simp [twos] at h
   | _ :: _, _ => simp
 · split <;> simp
theorem ztm (l : List UInt8) : intN l ≤ l.length := by
 unfold intN;split
 · exact zcl _ _ _
 · exact zK8 _
theorem zg2 {l : List UInt8} {t : Nat × List UInt8} {n : Nat} (h : tok l = some (t, n)) : 1 ≤ n ∧ n ≤ l.length := by
 match l, h with
 | [], h => simp [tok] at h
 | c :: r, h =>
  have a1 := zcl lowB zbj (c :: r);have a2 := zcl highB aliB (c :: r);have a3 := zcl lowB zbj r;have a4 := zqu c r;have a5 := ztm (c :: r);rw [tok] at h;split at h
  · split at h
    · rename_i hf
      simp [fltB] at hf
      cases h
      simp; omega
    · cases h
  split at h
  · simp only [zKg] at h
    obtain ⟨x, hx, e⟩ := h;have := zk7 r.length r x (zJw _) hx;cases e
    simp; omega
  split at h
  · split at h
    · cases h
    · cases h
      simp only [nameN, zK2] at *; omega
  split at h
  · split at h
    · cases h
    · cases h; omega
  split at h
  · rename_i hl
    cases h
    have := zdg lowB zbj c r hl;simp only [nameN] at *; omega
  split at h
  · rename_i hl
    cases h
    have := zdg highB aliB c r hl;simp only [zc4] at *; omega
  split at h
  · cases h
  · cases h; omega
abbrev Tk := Nat × List UInt8 × Nat
def prep (pre : List Tk) : Except Nat (List Tk) → Except Nat (List Tk)
 | .ok l => .ok (pre ++ l)
 | .error e => .error e
def lexR (l : List UInt8) (k : Nat) : Except Nat (List Tk) :=
 match l.drop (skipN l) with
 | [] => .ok [(0, [], k + skipN l)]
 | _ :: _ =>
  match _ht : tok (l.drop (skipN l)) with
  | none => .error (k + skipN l)
  | some (t, n) => prep [(t.1, t.2, k + skipN l)] (lexR (l.drop (skipN l + n)) (k + skipN l + n))
termination_by l.length
decreasing_by
 have := zg2 _ht;simp only [zKa] at this ⊢;omega
theorem zaz (l : List UInt8) (k : Nat) (h : l.drop (skipN l) = []) : lexR l k = .ok [(0, [], k + skipN l)] := by
 rw [lexR, h]
theorem zcd (l : List UInt8) (k : Nat) (h : l.drop (skipN l) ≠ []) (ht : tok (l.drop (skipN l)) = none) : lexR l k = .error (k + skipN l) := by
 rw [lexR];split
 · rename_i e; exact absurd e h
 · split
   · rfl
   · rename_i e; rw [ht] at e; cases e
theorem zbw (l : List UInt8) (k : Nat) (t : Nat × List UInt8) (n : Nat) (ht : tok (l.drop (skipN l)) = some (t, n)) : lexR l k = prep [(t.1, t.2, k + skipN l)] (lexR (l.drop (skipN l + n)) (k + skipN l + n)) := by
 rw [lexR];split
 · rename_i e; rw [e] at ht; simp [tok] at ht
 · split
   · rename_i e; rw [ht] at e; cases e
   · rename_i e; rw [ht] at e; cases e; rfl
theorem zic (x : Except Nat (List Tk)) : prep [] x = x := by cases x <;> rfl
theorem zjk (a b : List Tk) (x : Except Nat (List Tk)) : prep a (prep b x) = prep (a ++ b) x := by cases x <;> simp [prep]
theorem zbf (c : UInt8) (r : List UInt8) (k : Nat) (h : zc3 c = true) : lexR (c :: r) k = lexR r (k + 1) := by
 have hs := zen c r h;have hd : ∀ j, (c :: r).drop (skipN r + 1 + j) = r.drop (skipN r + j) := fun j => by rw [show skipN r + 1 + j = (skipN r + j) + 1 by omega]; rfl
 by_cases h0 : r.drop (skipN r) = []
 · rw [zaz _ _ h0, zaz (c :: r) k (by rw [hs]; exact h0), hs]
   congr 4; omega
 · cases ht : tok (r.drop (skipN r)) with
   | none =>
    rw [zcd _ _ h0 ht, zcd (c :: r) k (by rw [hs]; exact h0) (by rw [hs]; exact ht), hs];congr 1; omega
   | some x =>
    rw [zbw _ _ x.1 x.2 ht, zbw (c :: r) k x.1 x.2 (by rw [hs]; exact ht), hs, hd, show k + (skipN r + 1) = k + 1 + skipN r by omega]
def lexA (l : List UInt8) : Except (Nat × Nat) (List Tk) :=
 if 1048576 < l.length then .error (6, 0)
 else if bd l 0 < l.length then .error (2, bd l 0)
 else match lexR l 0 with
  | .ok ts => .ok ts
  | .error p => .error (3, p)
end Go.Proofs.YtidmeodmkcomlaaGreatDoor
namespace Go.Proofs.YtidmeodmkcomlaaGreatDoor
open Go Go.Proofs Go.RowKit
set_option maxHeartbeats 1000000
theorem za7 {a b : Bool} (h : a = b) : Ending.returned (.bool a) = .returned (.bool b) := by rw [h]
theorem zgl {k : IntKind} {a b : Nat} (h : a = b) : Ending.returned (.int k a) = .returned (.int k b) := by rw [h]
theorem zeg (c : UInt8) (w : World) : Calls Tryz.prog 104 #[.int .u8 (c.toNat : Int)] w fun e w' => e = .returned (.bool (digB c)) ∧ w = w' := by
 have h := c.toNat_lt;by_cases h1 : 48 ≤ c.toNat
 all_goals
  go_enter Tryz.func104, Tryz.ntmps104
  go_wp2
  go_ret;exact ⟨za7 (by rw [zJz]; simp [digB]; omega), rfl⟩
theorem ztn (c : UInt8) (w : World) : Calls Tryz.prog 131 #[.int .u8 (c.toNat : Int)] w fun e w' => e = .returned (.bool (lowB c)) ∧ w = w' := by
 have h := c.toNat_lt;by_cases h1 : 97 ≤ c.toNat
 · by_cases h2 : c.toNat ≤ 122
   all_goals
    go_enter Tryz.func131, Tryz.ntmps131
    go_wp2
    go_ret;exact ⟨za7 (by rw [zJz]; simp [lowB]; omega), rfl⟩
 · go_enter Tryz.func131, Tryz.ntmps131
   go_wp2
   go_ret;exact ⟨za7 (by rw [zJz]; simp [lowB]; omega), rfl⟩
theorem zqn (c : UInt8) (w : World) : Calls Tryz.prog 133 #[.int .u8 (c.toNat : Int)] w fun e w' => e = .returned (.bool (highB c)) ∧ w = w' := by
 have h := c.toNat_lt;by_cases h1 : 65 ≤ c.toNat
 all_goals
  go_enter Tryz.func133, Tryz.ntmps133
  go_wp2
  go_ret;exact ⟨za7 (by rw [zJz]; simp [highB]; omega), rfl⟩
theorem zCq (c : UInt8) (g : Nat) (w : World) (hg : w.cell? ⟨g, 0, none⟩ = some (.func (.func 131) #[] #[])) : Calls Tryz.prog 132 #[.int .u8 (c.toNat : Int), .pointer (some ⟨g, 0, none⟩)] w fun e w' => e = .returned (.bool (zbj c)) ∧ w = w' := by
 have h := c.toNat_lt;have k := ztn c;unfold zbj;cases h1 : lowB c
 all_goals
  rw [h1] at k;go_enter Tryz.func132, Tryz.ntmps132
  go_wp2_with (first | (go_at_call 131; refine (k _).mono ?_; rintro e w' ⟨rfl, rfl⟩) | (go_at_call 104; refine (zeg _ _).mono ?_; rintro e w' ⟨rfl, rfl⟩))
  go_ret;exact ⟨rfl, rfl⟩
theorem zG6 (c : UInt8) (g : Nat) (w : World) (hg : w.cell? ⟨g, 0, none⟩ = some (.func (.func 133) #[] #[])) : Calls Tryz.prog 134 #[.int .u8 (c.toNat : Int), .pointer (some ⟨g, 0, none⟩)] w fun e w' => e = .returned (.bool (aliB c)) ∧ w = w' := by
 have h := c.toNat_lt;have k := zqn c;unfold aliB;cases h1 : highB c
 · rw [h1] at k
   by_cases h2 : 97 ≤ c.toNat
   · by_cases h3 : c.toNat ≤ 122
     all_goals
      go_enter Tryz.func134, Tryz.ntmps134
      go_wp2_with (first | (go_at_call 133; refine (k _).mono ?_; rintro e w' ⟨rfl, rfl⟩) | (go_at_call 104; refine (zeg _ _).mono ?_; rintro e w' ⟨rfl, rfl⟩))
      go_ret;exact ⟨za7 (by rw [zJz]; simp [zb9, digB]; omega), rfl⟩
   · go_enter Tryz.func134, Tryz.ntmps134
     go_wp2_with (first | (go_at_call 133; refine (k _).mono ?_; rintro e w' ⟨rfl, rfl⟩) | (go_at_call 104; refine (zeg _ _).mono ?_; rintro e w' ⟨rfl, rfl⟩))
     go_ret;exact ⟨za7 (by rw [zJz]; simp [zb9, digB]; omega), rfl⟩
 · rw [h1] at k
   go_enter Tryz.func134, Tryz.ntmps134
   go_wp2_with (first | (go_at_call 133; refine (k _).mono ?_; rintro e w' ⟨rfl, rfl⟩) | (go_at_call 104; refine (zeg _ _).mono ?_; rintro e w' ⟨rfl, rfl⟩))
   go_ret;exact ⟨rfl, rfl⟩
def tl (s : ByteArray) : List UInt8 := s.data.toList
theorem zab (s : ByteArray) : (tl s).length = s.size := by simp [tl]
theorem zd6 (s : ByteArray) (k : Nat) (h : k < s.size) : (tl s).drop k = s[k] :: (tl s).drop (k + 1) := by
 unfold tl;rw [List.drop_eq_getElem_cons (by simpa using h)]; rfl
theorem ziz {α : Type} (p : α → Bool) (xs : List α) (h : ∀ y ∈ xs, p y = true) : xs.takeWhile p = xs := by
 have := List.takeWhile_append_of_pos (l₂ := []) h;simpa using this
theorem zi2 {α : Type} (p : α → Bool) (xs : List α) (x : α) (ys : List α) (h : ∀ y ∈ xs, p y = true) (hx : p x = false) : (xs ++ x :: ys).takeWhile p = xs := by
 rw [List.takeWhile_append_of_pos h];simp [hx]
theorem zGe (q : UInt8 → Bool) (l : List UInt8) (k : Nat) (h : k ≤ l.length) (h2 : ∀ j (hj : j < k), q (l[j]'(by omega)) = true) (h3 : k = l.length ∨ ∃ hk : k < l.length, q (l[k]'hk) = false) : (l.takeWhile q).length = k := by
 have e : l.takeWhile q = l.take k := by
  rcases h3 with h3 | ⟨hk, h3⟩
  · subst h3
    rw [List.take_length];refine ziz _ _ fun x hx => ?_;obtain ⟨j, hj, rfl⟩ := zKo hx;exact h2 j hj
  · have hs : l = l.take k ++ l[k] :: l.drop (k + 1) := by rw [List.getElem_cons_drop, List.take_append_drop]
    conv => lhs; rw [hs]
    refine zi2 _ _ _ _ (fun x hx => ?_) h3;obtain ⟨j, hj, rfl⟩ := zKo hx;simp at hj
    simp only [List.getElem_take];exact h2 j (by omega)
 rw [e]; simp; omega
theorem zdn (s : ByteArray) : (s.toList == []) = decide (s.size = 0) := by
 rw [ByteArray.toList_eq, zJz];have : s.size = s.data.toList.length := by simp
 rw [this, decide_eq_true_iff, List.length_eq_zero_iff];simp
theorem zl1 (p q : UInt8 → Bool) (s : ByteArray) (hpos : 0 < s.size) (hp : p (s[0]'hpos) = true) (k : Nat) (hk1 : 1 ≤ k) (hk2 : k ≤ s.size) (hj : ∀ j (hj : j < s.size), 1 ≤ j → j < k → q (s[j]'hj) = true)
 (he : k = s.size ∨ ∃ hk : k < s.size, q (s[k]'hk) = false) : spanN p q (tl s) = k := by
 have hd := zd6 s 0 hpos;rw [List.drop_zero] at hd;rw [hd, zdg _ _ _ _ hp];have : ((tl s).drop 1).length = s.size - 1 := by rw [zKa, zab]
 have g : ∀ j (hj : j < ((tl s).drop 1).length), ((tl s).drop 1)[j] = s[j + 1]'(by rw [this] at hj; omega) := fun j hj => by
  simp only [List.getElem_drop];unfold tl;simp only [Array.getElem_toList, show 1 + j = j + 1 by omega];rfl
 rw [zGe q ((tl s).drop 1) (k - 1) (by omega)]
 · omega
 · intro j hj'
   rw [g];exact hj _ _ (by omega) (by omega)
 · rcases he with he | ⟨hk, he⟩
   · left; omega
   · right
     refine ⟨by omega, ?_⟩;rw [g];simpa [show k - 1 + 1 = k by omega] using he
theorem zEa (s : ByteArray) (hs : s.size ≤ 9223372036854775807) (w : World) : Calls Tryz.prog 129 #[.string s, .func (.func 104) #[] #[], .func (.func 104) #[] #[]] w fun e w' => e = .returned (.int .i64 (digN (tl s) : Nat)) ∧ w = w' := by
 by_cases h0 : s.size = 0
 · have he : tl s = [] := List.length_eq_zero_iff.1 (by rw [zab]; exact h0)
   have hS : (s.toList == []) = true := by rw [zdn]; simpa using h0
   have hN : digN (tl s) = 0 := by rw [he]; rfl
   rw [hN];clear he hN;go_enter Tryz.func129, Tryz.ntmps129
   go_wp2
   go_ret;exact ⟨rfl, rfl⟩
 · have hS : (s.toList == []) = false := by rw [zdn]; simpa using h0
   have hpos : 0 < s.size := by omega
   have hd := zd6 s 0 hpos;rw [List.drop_zero] at hd;have c0 := zeg (s[0]'hpos);cases hp : digB (s[0]'hpos)
   · have hN : digN (tl s) = 0 := by rw [hd]; exact zdz _ _ _ _ hp
     rw [hN];rw [hp] at c0;clear hd hN hp;go_enter Tryz.func129, Tryz.ntmps129
     go_wp2_with (go_at_call 104; refine (c0 _).mono ?_; rintro e w' ⟨rfl, rfl⟩)
     go_ret;exact ⟨rfl, rfl⟩
   · rw [hp] at c0
     have HN := zJv (zl1 digB digB s hpos hp);clear hd hp;obtain ⟨R, hR⟩ : ∃ R, digN (tl s) = R := ⟨_, rfl⟩;have hR' : spanN digB digB (tl s) = R := hR;rw [hR'] at HN;rw [hR];clear hR hR';go_enter Tryz.func129, Tryz.ntmps129
     go_wp2_with (go_at_call 104; refine (c0 _).mono ?_; rintro e w' ⟨rfl, rfl⟩)
     go_loop [7] (fun i => ∃ k : Nat, 1 ≤ k ∧ k ≤ s.size ∧ i = .int .i64 k ∧ Hid (∀ j (hj : j < s.size), 1 ≤ j → j < k → digB (s[j]'hj) = true)) (fun i => s.size - (intOf i).toNat)
     case atStart => exact ⟨1, zJw _, hpos, rfl, zJv (fun j hj h1 h2 => by omega)⟩
     case round =>
      obtain ⟨k, hk1, hk2, rfl, HJ⟩ := hrel;by_cases hlt : k < s.size
      · have ck := zeg (s[k]'hlt)
        cases hp : digB (s[k]'hlt)
        · have hR := zJv (HN.out k hk1 hk2 HJ.out (.inr ⟨hlt, hp⟩))
          rw [hp] at ck;clear hp;go_wp2_with (go_at_call 104; refine (ck _).mono ?_; rintro e w' ⟨rfl, rfl⟩)
          go_ret;exact ⟨zgl hR.out.symm, rfl⟩
        · have HJ2 : Hid (∀ j (hj : j < s.size), 1 ≤ j → j < k + 1 → digB (s[j]'hj) = true) := zJv (fun j hj h1 h2 => by
           by_cases h : j < k
           · exact HJ.out j hj h1 h
           · obtain rfl : j = k := by omega
             exact hp)
          rw [hp] at ck;clear hp;go_wp2_with (go_at_call 104; refine (ck _).mono ?_; rintro e w' ⟨rfl, rfl⟩)
          go_round
          case rel => exact ⟨k + 1, by omega, by omega, by go_num, HJ2⟩
          case measure => simp [intOf]; omega
      · have hR := zJv (HN.out k hk1 hk2 HJ.out (.inl (by omega)))
        go_wp2
        go_ret;exact ⟨zgl hR.out.symm, rfl⟩
theorem zAs (s : ByteArray) (hs : s.size ≤ 9223372036854775807) (g : Nat) (w : World) (hg : w.cell? ⟨g, 0, none⟩ = some (.func (.func 131) #[] #[])) : Calls Tryz.prog 129 #[.string s, .func (.func 131) #[] #[], .func (.func 132) #[] #[.pointer (some ⟨g, 0, none⟩)]] w fun e w' => e = .returned (.int .i64 (nameN (tl s) : Nat)) ∧ w = w' := by
 by_cases h0 : s.size = 0
 · have he : tl s = [] := List.length_eq_zero_iff.1 (by rw [zab]; exact h0)
   have hS : (s.toList == []) = true := by rw [zdn]; simpa using h0
   have hN : nameN (tl s) = 0 := by rw [he]; rfl
   rw [hN];clear he hN;go_enter Tryz.func129, Tryz.ntmps129
   go_wp2
   go_ret;exact ⟨rfl, rfl⟩
 · have hS : (s.toList == []) = false := by rw [zdn]; simpa using h0
   have hpos : 0 < s.size := by omega
   have hd := zd6 s 0 hpos;rw [List.drop_zero] at hd;have c0 := ztn (s[0]'hpos);cases hp : lowB (s[0]'hpos)
   · have hN : nameN (tl s) = 0 := by rw [hd]; exact zdz _ _ _ _ hp
     rw [hN];rw [hp] at c0;clear hd hN hp;go_enter Tryz.func129, Tryz.ntmps129
     go_wp2_with (go_at_call 131; refine (c0 _).mono ?_; rintro e w' ⟨rfl, rfl⟩)
     go_ret;exact ⟨rfl, rfl⟩
   · rw [hp] at c0
     have HN := zJv (zl1 lowB zbj s hpos hp);clear hd hp;obtain ⟨R, hR⟩ : ∃ R, nameN (tl s) = R := ⟨_, rfl⟩;have hR' : spanN lowB zbj (tl s) = R := hR;rw [hR'] at HN;rw [hR];clear hR hR';go_enter Tryz.func129, Tryz.ntmps129
     go_wp2_with (go_at_call 131; refine (c0 _).mono ?_; rintro e w' ⟨rfl, rfl⟩)
     go_loop [7] (fun i => ∃ k : Nat, 1 ≤ k ∧ k ≤ s.size ∧ i = .int .i64 k ∧ Hid (∀ j (hj : j < s.size), 1 ≤ j → j < k → zbj (s[j]'hj) = true)) (fun i => s.size - (intOf i).toNat)
     case atStart => exact ⟨1, zJw _, hpos, rfl, zJv (fun j hj h1 h2 => by omega)⟩
     case round =>
      obtain ⟨k, hk1, hk2, rfl, HJ⟩ := hrel;by_cases hlt : k < s.size
      · have ck := zCq (s[k]'hlt) g w hg
        cases hp : zbj (s[k]'hlt)
        · have hR := zJv (HN.out k hk1 hk2 HJ.out (.inr ⟨hlt, hp⟩))
          rw [hp] at ck;clear hp;go_wp2_with (go_at_call 132; refine ck.mono ?_; rintro e w' ⟨rfl, rfl⟩)
          go_ret;exact ⟨zgl hR.out.symm, rfl⟩
        · have HJ2 : Hid (∀ j (hj : j < s.size), 1 ≤ j → j < k + 1 → zbj (s[j]'hj) = true) := zJv (fun j hj h1 h2 => by
           by_cases h : j < k
           · exact HJ.out j hj h1 h
           · obtain rfl : j = k := by omega
             exact hp)
          rw [hp] at ck;clear hp;go_wp2_with (go_at_call 132; refine ck.mono ?_; rintro e w' ⟨rfl, rfl⟩)
          go_round
          case rel => exact ⟨k + 1, by omega, by omega, by go_num, HJ2⟩
          case measure => simp [intOf]; omega
      · have hR := zJv (HN.out k hk1 hk2 HJ.out (.inl (by omega)))
        go_wp2
        go_ret;exact ⟨zgl hR.out.symm, rfl⟩
theorem zwg (s : ByteArray) (hs : s.size ≤ 9223372036854775807) (g : Nat) (w : World) (hg : w.cell? ⟨g, 0, none⟩ = some (.func (.func 133) #[] #[])) : Calls Tryz.prog 129 #[.string s, .func (.func 133) #[] #[], .func (.func 134) #[] #[.pointer (some ⟨g, 0, none⟩)]] w fun e w' => e = .returned (.int .i64 (zc4 (tl s) : Nat)) ∧ w = w' := by
 by_cases h0 : s.size = 0
 · have he : tl s = [] := List.length_eq_zero_iff.1 (by rw [zab]; exact h0)
   have hS : (s.toList == []) = true := by rw [zdn]; simpa using h0
   have hN : zc4 (tl s) = 0 := by rw [he]; rfl
   rw [hN];clear he hN;go_enter Tryz.func129, Tryz.ntmps129
   go_wp2
   go_ret;exact ⟨rfl, rfl⟩
 · have hS : (s.toList == []) = false := by rw [zdn]; simpa using h0
   have hpos : 0 < s.size := by omega
   have hd := zd6 s 0 hpos;rw [List.drop_zero] at hd;have c0 := zqn (s[0]'hpos);cases hp : highB (s[0]'hpos)
   · have hN : zc4 (tl s) = 0 := by rw [hd]; exact zdz _ _ _ _ hp
     rw [hN];rw [hp] at c0;clear hd hN hp;go_enter Tryz.func129, Tryz.ntmps129
     go_wp2_with (go_at_call 133; refine (c0 _).mono ?_; rintro e w' ⟨rfl, rfl⟩)
     go_ret;exact ⟨rfl, rfl⟩
   · rw [hp] at c0
     have HN := zJv (zl1 highB aliB s hpos hp);clear hd hp;obtain ⟨R, hR⟩ : ∃ R, zc4 (tl s) = R := ⟨_, rfl⟩;have hR' : spanN highB aliB (tl s) = R := hR;rw [hR'] at HN;rw [hR];clear hR hR';go_enter Tryz.func129, Tryz.ntmps129
     go_wp2_with (go_at_call 133; refine (c0 _).mono ?_; rintro e w' ⟨rfl, rfl⟩)
     go_loop [7] (fun i => ∃ k : Nat, 1 ≤ k ∧ k ≤ s.size ∧ i = .int .i64 k ∧ Hid (∀ j (hj : j < s.size), 1 ≤ j → j < k → aliB (s[j]'hj) = true)) (fun i => s.size - (intOf i).toNat)
     case atStart => exact ⟨1, zJw _, hpos, rfl, zJv (fun j hj h1 h2 => by omega)⟩
     case round =>
      obtain ⟨k, hk1, hk2, rfl, HJ⟩ := hrel;by_cases hlt : k < s.size
      · have ck := zG6 (s[k]'hlt) g w hg
        cases hp : aliB (s[k]'hlt)
        · have hR := zJv (HN.out k hk1 hk2 HJ.out (.inr ⟨hlt, hp⟩))
          rw [hp] at ck;clear hp;go_wp2_with (go_at_call 134; refine ck.mono ?_; rintro e w' ⟨rfl, rfl⟩)
          go_ret;exact ⟨zgl hR.out.symm, rfl⟩
        · have HJ2 : Hid (∀ j (hj : j < s.size), 1 ≤ j → j < k + 1 → aliB (s[j]'hj) = true) := zJv (fun j hj h1 h2 => by
           by_cases h : j < k
           · exact HJ.out j hj h1 h
           · obtain rfl : j = k := by omega
             exact hp)
          rw [hp] at ck;clear hp;go_wp2_with (go_at_call 134; refine ck.mono ?_; rintro e w' ⟨rfl, rfl⟩)
          go_round
          case rel => exact ⟨k + 1, by omega, by omega, by go_num, HJ2⟩
          case measure => simp [intOf]; omega
      · have hR := zJv (HN.out k hk1 hk2 HJ.out (.inl (by omega)))
        go_wp2
        go_ret;exact ⟨zgl hR.out.symm, rfl⟩
theorem zsa (s : ByteArray) (hs : s.size ≤ 9223372036854775807) (w : World) : Calls Tryz.prog 106 #[.string s] w fun e w' => e = .returned (.int .i64 (nameN (tl s) : Nat)) ∧ Below w.heap.size w w' := by
 have bS := Boxed.new w 41 (.func (.func 131) #[] #[]);have k := zAs s hs w.heap.size _ bS.cell;have hB : Below w.heap.size w (w.alloc (.cells #[.func (.func 131) #[] #[]] 41)) := (zJx _ w).alloc (zJw _) _;clear bS;go_enter Tryz.func106, Tryz.ntmps106
 go_wp2_with (go_at_call 129; refine k.mono ?_; rintro e w' ⟨rfl, rfl⟩)
 go_ret;exact ⟨rfl, hB⟩
theorem zy8 (s : ByteArray) (hs : s.size ≤ 9223372036854775807) (w : World) : Calls Tryz.prog 108 #[.string s] w fun e w' => e = .returned (.int .i64 (zc4 (tl s) : Nat)) ∧ Below w.heap.size w w' := by
 have bS := Boxed.new w 41 (.func (.func 133) #[] #[]);have k := zwg s hs w.heap.size _ bS.cell;have hB : Below w.heap.size w (w.alloc (.cells #[.func (.func 133) #[] #[]] 41)) := (zJx _ w).alloc (zJw _) _;clear bS;go_enter Tryz.func108, Tryz.ntmps108
 go_wp2_with (go_at_call 129; refine k.mono ?_; rintro e w' ⟨rfl, rfl⟩)
 go_ret;exact ⟨rfl, hB⟩
end Go.Proofs.YtidmeodmkcomlaaGreatDoor
