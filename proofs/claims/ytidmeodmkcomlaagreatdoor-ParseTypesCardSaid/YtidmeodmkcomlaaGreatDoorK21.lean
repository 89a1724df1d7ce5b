/- The machine of the document's parser never goes back; a simple type, test by test. -/
import Derived.Test.YtidmeodmkcomlaaGreatDoorK20
set_option linter.unusedSimpArgs false
set_option linter.unusedVariables false
namespace Go.Proofs.YtidmeodmkcomlaaGreatDoor
open Go Go.Proofs Go.RowKit
section
variable {ts : List Tk}
theorem on_mn (s : Dst) : s.k ≤ (onS ts s).k := by unfold onS; split; exact Nat.le_succ _; exact zJw _
theorem on_op (s : Dst) : (onS ts s).op = s.op := by unfold onS; split <;> rfl
theorem zMg (e q : Nat) (s : Dst) : (stopS e q s).k = s.k ∧ (stopS e q s).op = s.op := by unfold stopS; split <;> exact ⟨rfl, rfl⟩
theorem zN2 (x : List UInt8) (s : Dst) : s.k ≤ (mustS ts x s).k ∧ (mustS ts x s).op = s.op := by
 unfold mustS;split
 · exact ⟨on_mn s, on_op s⟩
 · exact ⟨Nat.le_of_eq (zMg _ _ s).1.symm, (zMg _ _ s).2⟩
theorem zQ0 (k : Nat) (s : Dst) : s.k ≤ (textS ts k s).2.k ∧ (textS ts k s).2.op = s.op := by
 unfold textS;split
 · exact ⟨Nat.le_of_eq (zMg _ _ s).1.symm, (zMg _ _ s).2⟩
 · exact ⟨on_mn s, on_op s⟩
theorem zN5 (ns : List (List UInt8)) (k : Nat) (s : Dst) : s.k ≤ (zM0 ts ns k s).2.k ∧ (zM0 ts ns k s).2.op = s.op := by
 have h := zQ0 (ts := ts) k s;unfold zM0;dsimp only;split
 · rw [(zMg _ _ _).1, (zMg _ _ _).2]; exact h
 · exact h
theorem zO4 (x : TypD) (s : Dst) : s.k ≤ (typS x s).2.k ∧ (typS x s).2.op = s.op := by
 unfold typS;split
 · exact ⟨zJw _, rfl⟩
 split
 · exact ⟨Nat.le_of_eq (zMg _ _ s).1.symm, (zMg _ _ s).2⟩
 · exact ⟨zJw _, rfl⟩
def Mn (P : Dst → Option (Nat × Dst)) : Prop := ∀ s i s', P s = some (i, s') → s.k ≤ s'.k ∧ s'.op = s.op
theorem zQ4 {P : Dst → Option (Nat × Dst)} (hP : Mn P) : ∀ (f : Nat) (ns : List (List UInt8)) (ks : List Int) (s : Dst) (r : List (List UInt8) × List Int) (s' : Dst), rowS ts P f ns ks s = some (r, s') → s.k ≤ s'.k ∧ s'.op = s.op := by
 intro f
 induction f with
 | zero => intro ns ks s r s' h; cases h
 | succ f ih =>
  intro ns ks s r s' h;unfold rowS at h
  cases hp : P (mustS ts [58] (zM0 ts ns 1 s).2) with
  | none => rw [hp] at h; cases h
  | some y =>
   rw [hp] at h;obtain ⟨i, s2⟩ := y;have h1 := hP _ _ _ hp;have h2 := zN2 (ts := ts) [58] (zM0 ts ns 1 s).2;have h3 := zN5 (ts := ts) ns 1 s;have h4 : s.k ≤ s2.k ∧ s2.op = s.op := ⟨by omega, by omega⟩;have h : (if seeS ts [44] s2 = true then rowS ts P f (ns ++ [(zM0 ts ns 1 s).1]) (ks ++ [(i : Int)]) (onS ts s2) else some ((ns ++ [(zM0 ts ns 1 s).1], ks ++ [(i : Int)]), s2)) = some (r, s') := h;split at h
   · have h5 := ih _ _ _ _ _ h
     have h6 := on_mn (ts := ts) s2;have h7 := on_op (ts := ts) s2;exact ⟨by omega, by omega⟩
   · injection h with h
     injection h with _ h
     subst h;exact h4
theorem zP5 {P : Dst → Option (Nat × Dst)} (hP : Mn P) : ∀ (f : Nat) (ns : List (List UInt8)) (ks : List Int) (s : Dst) (r : List (List UInt8) × List Int × Bool) (s' : Dst), zM9 ts P f ns ks s = some (r, s') → s.k ≤ s'.k ∧ s'.op = s.op := by
 intro f
 induction f with
 | zero => intro ns ks s r s' h; cases h
 | succ f ih =>
  intro ns ks s r s' h;unfold zM9 at h;split at h
  · injection h with h
    injection h with _ h
    subst h;exact ⟨on_mn s, on_op s⟩
  cases hp : P (zM0 ts ns 3 s).2 with
  | none => rw [hp] at h; cases h
  | some y =>
   rw [hp] at h;obtain ⟨i, s2⟩ := y;have h1 := hP _ _ _ hp;have h3 := zN5 (ts := ts) ns 3 s;have h4 : s.k ≤ s2.k ∧ s2.op = s.op := ⟨by omega, by omega⟩;have h : (if seeS ts [124] s2 = true then zM9 ts P f (ns ++ [(zM0 ts ns 3 s).1]) (ks ++ [(i : Int)]) (onS ts s2) else some ((ns ++ [(zM0 ts ns 3 s).1], ks ++ [(i : Int)], false), s2)) = some (r, s') := h;split at h
   · have h5 := ih _ _ _ _ _ h
     have h6 := on_mn (ts := ts) s2;have h7 := on_op (ts := ts) s2;exact ⟨by omega, by omega⟩
   · injection h with h
     injection h with _ h
     subst h;exact h4
theorem zM4 {α β : Type} {O : Option α} {F : α → Option β} {b : β} (h : O.bind F = some b) : ∃ a, O = some a ∧ F a = some b := by
 cases O with
 | none => cases h
 | some a => exact ⟨a, rfl, h⟩
theorem zN8 {T : Dst → Option (Nat × Dst)} (hT : Mn T) : ∀ g : Nat, Mn (zM2 ts T g) := by
 intro g
 induction g with
 | zero =>
  intro s i s' h;unfold zM2 at h;split at h
  · cases h; exact ⟨zJw _, rfl⟩
  · cases h
 | succ g ih =>
  intro s i s' h;have ho := on_mn (ts := ts) s;have hq := on_op (ts := ts) s;have ho2 := on_mn (ts := ts) (onS ts s);have hq2 := on_op (ts := ts) (onS ts s)
  have hty : ∀ (x : TypD) (s1 : Dst) , s.k ≤ s1.k ∧ s1.op = s.op → some (typS x s1) = some (i, s') → s.k ≤ s'.k ∧ s'.op = s.op := fun x s1 h1 h2 => by
   have := zO4 x s1;injection h2 with h2
   rw [h2] at this;exact ⟨zK4 h1.1 this.1, this.2.trans h1.2⟩
  unfold zM2 at h;split at h
  · cases h; exact ⟨zJw _, rfl⟩
  split at h
  · exact hty _ _ ⟨ho, hq⟩ h
  split at h
  · obtain ⟨y, hy, h⟩ := zM4 h
    injection h with h
    injection h with _ h
    subst h;have h1 := hT _ _ _ hy;have h2 := zN2 (ts := ts) [41] y.2;exact ⟨by omega, by omega⟩
  split at h
  · split at h
    · exact hty _ _ ⟨by omega, by omega⟩ h
    · obtain ⟨y, hy, h⟩ := zM4 h
      have h1 := zQ4 hT _ _ _ _ _ _ hy;have h2 := zN2 (ts := ts) [125] y.2;exact hty _ _ ⟨by omega, by omega⟩ h
  split at h
  · split at h
    · exact hty _ _ ⟨by omega, by omega⟩ h
    · obtain ⟨y, hy, h⟩ := zM4 h
      have h1 := zP5 ih _ _ _ _ _ _ hy;have h2 := zN2 (ts := ts) [93] y.2;exact hty _ _ ⟨by omega, by omega⟩ h
  · injection h with h
    injection h with _ h
    subst h;exact ⟨Nat.le_of_eq (zMg _ _ s).1.symm, (zMg _ _ s).2⟩
theorem zNq : ∀ f : Nat, Mn (typeS ts f) := by
 intro f
 induction f with
 | zero =>
  intro s i s' h;unfold typeS at h;split at h
  · cases h; exact ⟨zJw _, rfl⟩
  · cases h
 | succ f ih =>
  intro s i s' h;unfold typeS at h;split at h
  · cases h; exact ⟨zJw _, rfl⟩
  split at h
  · injection h with h
    injection h with _ h
    subst h;exact ⟨Nat.le_of_eq (zMg _ _ s).1.symm, (zMg _ _ s).2⟩
  obtain ⟨y, hy, h⟩ := zM4 h;have h1 := zN8 ih ts.length _ _ _ hy;have h1k : s.k ≤ y.2.k := h1.1;have h1o : y.2.op = s.op + 1 := h1.2;split at h
  · obtain ⟨z, hz, h⟩ := zM4 h
    have h2 := ih _ _ _ hz;have h3 := on_mn (ts := ts) y.2;have h4 := on_op (ts := ts) y.2;have h5 := zO4 ⟨7, (posS ts y.2 : Nat), bs [], [], [(y.1 : Int), (z.1 : Int)], false⟩ z.2;injection h with h
    injection h with _ h
    subst h;exact ⟨by show s.k ≤ (typS _ z.2).2.k; omega, by show (typS _ z.2).2.op - 1 = s.op; omega⟩
  · injection h with h
    injection h with _ h
    subst h;exact ⟨h1k, by show y.2.op - 1 = s.op; omega⟩
theorem zO3 {T : Dst → Option (Nat × Dst)} {g : Nat} {s : Dst} (hb : s.bad = false) : zM2 ts T (g + 1) s =
 (let ty := fun (n : Int) => some (typS ⟨n, (posS ts s : Nat), bs [], [], [], false⟩ (onS ts s))
 if seeS ts [105, 110, 116] s = true then ty 0 else if seeS ts [98, 111, 111, 108] s = true then ty 1 else if seeS ts [115, 116, 114] s = true then ty 2 else if seeS ts [102, 108, 111, 97, 116] s = true then ty 3
 else if seeS ts [100, 121, 110] s = true then ty 4 else if seeS ts [97, 110, 121] s = true then ty 5 else if seeS ts [110, 111, 110, 101] s = true then ty 6
 else if (tkA ts s.k).1 = 2 then some (typS ⟨10, (posS ts s : Nat), bs (tkA ts s.k).2.1, [], [], false⟩ (onS ts s))
 else if seeS ts [40] s = true then (T (onS ts s)).bind fun y => some (y.1, mustS ts [41] y.2)
  else if seeS ts [123] s = true then
   if seeS ts [125] (onS ts s) = true then some (typS ⟨8, (posS ts s : Nat), bs [], [], [], false⟩ (onS ts (onS ts s)))
   else (rowS ts T ts.length [] [] (onS ts s)).bind fun y => some (typS ⟨8, (posS ts s : Nat), bs [], bss y.1.1, y.1.2, false⟩ (mustS ts [125] y.2))
  else if seeS ts [91] s = true then
   if seeS ts [93] (onS ts s) = true then some (typS ⟨9, (posS ts s : Nat), bs [], [], [], false⟩ (onS ts (onS ts s)))
   else (zM9 ts (zM2 ts T g) ts.length [] [] (onS ts s)).bind fun y => some (typS ⟨9, (posS ts s : Nat), bs [], bss y.1.1, y.1.2.1, y.1.2.2⟩ (mustS ts [93] y.2))
  else some (0, stopS 4 (posS ts s) s)) := by
 have hs : ∀ x, seeS ts x s = za2 (tkA ts s.k) [x] := fun x => by show (!s.bad && _) = _; rw [hb]; rfl
 dsimp only;conv => lhs; unfold zM2
 rw [hb, if_neg (by simp)];simp only [hs];unfold zNj;by_cases h0 : za2 (tkA ts s.k) [[105, 110, 116]] = true
 · rw [if_pos h0]
   obtain ⟨k1, k2⟩ := zMl h0;have : za2 (tkA ts s.k) wordsY = true := by unfold za2; rw [k2]; rcases k1 with k1 | k1 <;> rw [k1] <;> decide
   rw [if_pos this, k2]; rfl
 rw [if_neg h0];by_cases h1 : za2 (tkA ts s.k) [[98, 111, 111, 108]] = true
 · rw [if_pos h1]
   obtain ⟨k1, k2⟩ := zMl h1;have : za2 (tkA ts s.k) wordsY = true := by unfold za2; rw [k2]; rcases k1 with k1 | k1 <;> rw [k1] <;> decide
   rw [if_pos this, k2]; rfl
 rw [if_neg h1];by_cases h2 : za2 (tkA ts s.k) [[115, 116, 114]] = true
 · rw [if_pos h2]
   obtain ⟨k1, k2⟩ := zMl h2;have : za2 (tkA ts s.k) wordsY = true := by unfold za2; rw [k2]; rcases k1 with k1 | k1 <;> rw [k1] <;> decide
   rw [if_pos this, k2]; rfl
 rw [if_neg h2];by_cases h3 : za2 (tkA ts s.k) [[102, 108, 111, 97, 116]] = true
 · rw [if_pos h3]
   obtain ⟨k1, k2⟩ := zMl h3;have : za2 (tkA ts s.k) wordsY = true := by unfold za2; rw [k2]; rcases k1 with k1 | k1 <;> rw [k1] <;> decide
   rw [if_pos this, k2]; rfl
 rw [if_neg h3];by_cases h4 : za2 (tkA ts s.k) [[100, 121, 110]] = true
 · rw [if_pos h4]
   obtain ⟨k1, k2⟩ := zMl h4;have : za2 (tkA ts s.k) wordsY = true := by unfold za2; rw [k2]; rcases k1 with k1 | k1 <;> rw [k1] <;> decide
   rw [if_pos this, k2]; rfl
 rw [if_neg h4];by_cases h5 : za2 (tkA ts s.k) [[97, 110, 121]] = true
 · rw [if_pos h5]
   obtain ⟨k1, k2⟩ := zMl h5;have : za2 (tkA ts s.k) wordsY = true := by unfold za2; rw [k2]; rcases k1 with k1 | k1 <;> rw [k1] <;> decide
   rw [if_pos this, k2]; rfl
 rw [if_neg h5];by_cases h6 : za2 (tkA ts s.k) [[110, 111, 110, 101]] = true
 · rw [if_pos h6]
   obtain ⟨k1, k2⟩ := zMl h6;have : za2 (tkA ts s.k) wordsY = true := by unfold za2; rw [k2]; rcases k1 with k1 | k1 <;> rw [k1] <;> decide
   rw [if_pos this, k2]; rfl
 rw [if_neg h6]
 have hw : za2 (tkA ts s.k) wordsY = false := by
  cases hk : (((tkA ts s.k).1 == 7) || ((tkA ts s.k).1 == 8)) with
  | false => unfold za2; rw [hk]; rfl
  | true =>
   unfold za2 at h0 h1 h2 h3 h4 h5 h6 ⊢;rw [hk] at h0 h1 h2 h3 h4 h5 h6 ⊢;simp only [Bool.true_and, List.any_cons, List.any_nil, Bool.or_false] at h0 h1 h2 h3 h4 h5 h6;simp only [Bool.true_and, wordsY, List.any_cons, List.any_nil, Bool.or_false];simp only [h0, h1, h2, h3, h4, h5, h6, Bool.not_eq_true] at *;simp [h0, h1, h2, h3, h4, h5, h6]
 rw [hw, if_neg (by simp)];by_cases hk : (tkA ts s.k).1 = 2
 · rw [if_pos hk, if_pos hk]
 · rw [if_neg hk, if_neg hk]
end
end Go.Proofs.YtidmeodmkcomlaaGreatDoor
