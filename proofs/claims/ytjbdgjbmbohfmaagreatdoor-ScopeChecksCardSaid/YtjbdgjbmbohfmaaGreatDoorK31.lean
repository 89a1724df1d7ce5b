/- Scope: what a type stands for, over plain trees. Scope: which aliases come back to themselves, by -/
import Derived.Test.YtjbdgjbmbohfmaaGreatDoorK07
namespace Go.Proofs.YtjbdgjbmbohfmaaGreatDoor
open Go Go.Proofs Go.RowKit
/-- The first alias of a name. -/
def firstA : List AliD → ByteArray → Option Nat
 | [], _ => none
 | a :: r, s => if a.name = s then some 0 else (firstA r s).map (· + 1)
theorem firstA_some : ∀ {al : List AliD} {s : ByteArray} {k : Nat}, firstA al s = some k → ∃ a, al[k]? = some a ∧ a.name = s ∧ ∀ j, j < k → ∀ b, al[j]? = some b → b.name ≠ s
 | [], _, _, h => by cases h
 | a :: r, s, k, h => by
  unfold firstA at h
  split at h
  ·rename_i e
   injection h with h
   subst h
   exact ⟨a, rfl, e, fun j hj => absurd hj (by omega)⟩
  ·rename_i e
   cases hr : firstA r s with
   | none => rw [hr] at h; cases h
   | some m =>
    rw [hr] at h
    injection h with h
    subst h
    obtain ⟨b, h1, h2, h3⟩ := firstA_some hr
    refine ⟨b, by simpa using h1, h2, fun j hj b' hb' => ?_⟩
    cases j with
    | zero =>
     simp only [List.getElem?_cons_zero, Option.some.injEq] at hb'
     rw [← hb']; exact e
    | succ j =>
     simp only [List.getElem?_cons_succ] at hb'
     exact h3 j (Nat.lt_of_succ_lt_succ hj) b' hb'
theorem firstA_none : ∀ {al : List AliD} {s : ByteArray}, firstA al s = none → ∀ b ∈ al, b.name ≠ s
 | [], _, _ => by simp
 | a :: r, s, h => by
  unfold firstA at h
  split at h
  ·cases h
  ·rename_i e
   cases hr : firstA r s with
   | some m => rw [hr] at h; cases h
   | none =>
    intro b hb
    rcases List.mem_cons.1 hb with rfl | hb
    ·exact e
    ·exact firstA_none hr b hb
theorem firstA_lt {al : List AliD} {s : ByteArray} {k : Nat} (h : firstA al s = some k) : k < al.length := by
 obtain ⟨a, h1, _⟩ := firstA_some h
 exact (List.getElem?_eq_some_iff.1 h1).1

/-- The type for which a name stands, one step on. -/
def stp (t : TreeD) (i : Nat) : Option Nat := match t.types[i]? with
 | none => none
 | some n => if n.kind ≠ 10 then none else match firstA t.aliases n.name with
  | none => none
  | some a => (t.aliases[a]?).map (·.type.toNat)
/-- n steps on. -/
def stpN (t : TreeD) : Nat → Nat → Option Nat
 | 0, i => some i
 | n + 1, i => (stp t i).bind (stpN t n)
theorem stpN_snoc {t : TreeD} : ∀ {n i j k : Nat}, stpN t n i = some j → stp t j = some k → stpN t (n + 1) i = some k
 | 0, i, j, k, h, hk => by
  injection h with h
  subst h
  unfold stpN
  rw [hk]
  rfl
 | n + 1, i, j, k, h, hk => by
  unfold stpN at h ⊢
  cases hs : stp t i with
  | none => rw [hs] at h; cases h
  | some m =>
   rw [hs] at h
   exact stpN_snoc h hk

/-- Is a name in a row? -/
def inB (l : List ByteArray) (s : ByteArray) : Bool := l.any (fun x => decide (x = s))
theorem nodup_le {α : Type} [DecidableEq α] : ∀ {l m : List α}, l.Nodup → (∀ x ∈ l, x ∈ m) → l.length ≤ m.length
 | [], _, _, _ => Nat.zero_le _
 | a :: l, m, hn, hs => by
  have ha := hs a (by simp)
  rw [List.nodup_cons] at hn
  have h1 := nodup_le (l := l) (m := m.erase a) hn.2 (fun x hx => (List.mem_erase_of_ne (by rintro rfl; exact hn.1 hx)).2 (hs x (by simp [hx])))
  rw [List.length_erase_of_mem ha] at h1
  have := List.length_pos_of_mem ha
  simp only [List.length_cons]
  omega

structure Seen (t : TreeD) (i : Nat) (seen : List ByteArray) : Prop where
 nod : seen.Nodup
 al : ∀ s ∈ seen, s ∈ t.aliases.map (·.name)
 came : ∀ s ∈ seen, ∃ x n y, t.types[x]? = some n ∧ n.kind = 10 ∧ n.name = s ∧ stpN t (y + 1) x = some i
theorem Seen.le {t : TreeD} {i : Nat} {seen : List ByteArray} (h : Seen t i seen) : seen.length ≤ t.aliases.length := by
 have := nodup_le h.nod h.al
 rwa [List.length_map] at this
theorem Seen.on {t : TreeD} {i j : Nat} {seen : List ByteArray} {n : TypD} {a : Nat} (h : Seen t i seen) (hn : t.types[i]? = some n) (hk : n.kind = 10) (ha : firstA t.aliases n.name = some a) (hs : n.name ∉ seen) (hj : stp t i = some j) : Seen t j (seen ++ [n.name]) where
 nod := by
  rw [List.nodup_append]
  refine ⟨h.nod, by simp, fun x hx y hy => ?_⟩
  simp only [List.mem_singleton] at hy
  subst hy
  rintro rfl
  exact hs hx
 al := fun s h1 => by
  rcases List.mem_append.1 h1 with h1 | h1
  ·exact h.al s h1
  ·simp only [List.mem_singleton] at h1
   subst h1
   obtain ⟨b, h2, h3, _⟩ := firstA_some ha
   exact List.mem_map.2 ⟨b, List.mem_of_getElem? h2, h3⟩
 came := fun s h1 => by
  rcases List.mem_append.1 h1 with h1 | h1
  ·obtain ⟨x, m, y, e1, e2, e3, e4⟩ := h.came s h1
   exact ⟨x, m, y + 1, e1, e2, e3, stpN_snoc e4 hj⟩
  ·simp only [List.mem_singleton] at h1
   subst h1
   exact ⟨i, n, 0, hn, hk, rfl, by unfold stpN; rw [hj]; rfl⟩
/-- A name looked through twice: a round. -/
theorem Seen.round {t : TreeD} {i : Nat} {seen : List ByteArray} {n : TypD} (h : Seen t i seen) (hn : t.types[i]? = some n) (hk : n.kind = 10) (hs : n.name ∈ seen) : ∃ y, stpN t (y + 1) i = some i := by
 obtain ⟨x, m, y, e1, e2, e3, e4⟩ := h.came _ hs
 have e : stp t x = stp t i := by
  unfold stp
  rw [e1, hn]
  dsimp only
  rw [if_neg (by simp [e2]), if_neg (by simp [hk]), e3]
 refine ⟨y, ?_⟩
 unfold stpN at e4 ⊢
 rw [← e]
 exact e4
/-- One step on in a row of numbers; -1: there is none. -/
def nx (l : List Int) (i : Nat) : Option Nat := match l[i]? with
 | none => none
 | some v => if v < 0 then none else some v.toNat
def nxN (l : List Int) : Nat → Nat → Option Nat
 | 0, i => some i
 | n + 1, i => (nx l i).bind (nxN l n)
def Cyc (l : List Int) (i : Nat) : Prop := ∃ n, nxN l (n + 1) i = some i
theorem nxN_add {l : List Int} : ∀ {n m i j : Nat}, nxN l n i = some j → nxN l (n + m) i = nxN l m j
 | 0, m, i, j, h => by
  injection h with h
  rw [h, Nat.zero_add]
 | n + 1, m, i, j, h => by
  unfold nxN at h
  cases hs : nx l i with
  | none => rw [hs] at h; cases h
  | some k =>
   rw [hs] at h
   rw [show n + 1 + m = n + m + 1 by omega, nxN, hs]
   exact nxN_add h
theorem nxN_snoc {l : List Int} {n i j k : Nat} (h : nxN l n i = some j) (hk : nx l j = some k) : nxN l (n + 1) i = some k := by
 rw [nxN_add h, nxN, hk]
 rfl
theorem nxN_none {l : List Int} {n i j : Nat} (h : nxN l n i = some j) (hk : nx l j = none) : nxN l (n + 1) i = none := by
 rw [nxN_add h, nxN, hk]
 rfl
/-- What ends doesn't come back. -/
theorem not_cyc_end {l : List Int} {n i : Nat} (h : nxN l n i = none) : ¬ Cyc l i := by
 rintro ⟨m, hm⟩
 have h2 : ∀ k, ∃ j, nxN l k i = some j := by
  intro k
  induction k using Nat.strongRecOn with
  | _ k ih =>
   by_cases hk : k < m + 1
   ·have e : m + 1 = k + (m + 1 - k) := by omega
    cases hk2 : nxN l k i with
    | some j => exact ⟨j, rfl⟩
    | none =>
     exfalso
     have : ∀ {k d i : Nat}, nxN l k i = none → nxN l (k + d) i = none := by
      intro k
      induction k with
      | zero => intro d i h; cases h
      | succ k ih =>
       intro d i h
       rw [show k + 1 + d = k + d + 1 by omega]
       unfold nxN at h ⊢
       cases hs : nx l i with
       | none => rfl
       | some j =>
        rw [hs] at h
        exact ih h
     rw [e, this hk2] at hm
     cases hm
   ·obtain ⟨j, hj⟩ := ih (k - (m + 1)) (by omega)
    exact ⟨j, by rw [show k = m + 1 + (k - (m + 1)) by omega, nxN_add hm]; exact hj⟩
 obtain ⟨j, hj⟩ := h2 n
 rw [h] at hj
 cases hj
theorem cyc_step {l : List Int} {i j : Nat} (h : Cyc l i) (hj : nx l i = some j) : Cyc l j := by
 obtain ⟨n, hn⟩ := h
 have e : nxN l n j = some i := by
  unfold nxN at hn
  rw [hj] at hn
  exact hn
 exact ⟨n, nxN_snoc e hj⟩
theorem cyc_some {l : List Int} {i : Nat} (h : Cyc l i) : ∃ j, nx l i = some j := by
 obtain ⟨n, hn⟩ := h
 unfold nxN at hn
 cases hs : nx l i with
 | none => rw [hs] at hn; cases hn
 | some j => exact ⟨j, rfl⟩
theorem cyc_steps {l : List Int} : ∀ {n i j : Nat}, Cyc l i → nxN l n i = some j → Cyc l j
 | 0, i, j, h, hj => by injection hj with hj; rw [← hj]; exact h
 | n + 1, i, j, h, hj => by
  obtain ⟨k, hk⟩ := cyc_some h
  unfold nxN at hj
  rw [hk] at hj
  exact cyc_steps (cyc_step h hk) hj
/-- In a round, what is come to comes back. -/
theorem cyc_back {l : List Int} {n i j : Nat} (h : Cyc l i) (hj : nxN l n i = some j) : ∃ m, nxN l m j = some i := by
 obtain ⟨a, ha⟩ := h
 have hm : ∀ k, nxN l (k * (a + 1)) i = some i := by
  intro k
  induction k with
  | zero => rw [Nat.zero_mul]; rfl
  | succ k ih => rw [Nat.succ_mul, nxN_add ih]; exact ha
 have h1 := hm (n + 1)
 have e : (n + 1) * (a + 1) = n + ((n + 1) * (a + 1) - n) := by
  have : n + 1 ≤ (n + 1) * (a + 1) := Nat.le_mul_of_pos_right _ (by omega)
  omega
 rw [e, nxN_add hj] at h1
 exact ⟨_, h1⟩
/-- What is closed keeps who is in it. -/
theorem closed_steps {l : List Int} {P : Nat → Prop} (hP : ∀ j k, P j → nx l j = some k → P k) : ∀ {n i j : Nat}, P i → nxN l n i = some j → P j
 | 0, i, j, h, hj => by injection hj with hj; rw [← hj]; exact h
 | n + 1, i, j, h, hj => by
  unfold nxN at hj
  cases hs : nx l i with
  | none => rw [hs] at hj; cases hj
  | some k =>
   rw [hs] at hj
   exact closed_steps hP (hP _ _ h hs) hj

/-- The mark of a place. -/
def mrk (w : List Int) (i : Nat) : Int := w.getD i 0
theorem mrk_set {w : List Int} {i : Nat} (hi : i < w.length) (v : Int) (j : Nat) : mrk (w.set i v) j = if j = i then v else mrk w j := by
 unfold mrk
 rw [List.getD_eq_getElem?_getD, List.getD_eq_getElem?_getD, List.getElem?_set]
 by_cases h : j = i
 ·subst h
  rw [if_pos rfl, if_pos rfl, if_pos hi]
  rfl
 ·rw [if_neg (fun e => h e.symm), if_neg h]

/-- Ahead of the i-th walk. -/
structure Mk (l w : List Int) (i : Nat) (out : List Nat) : Prop where
 len : w.length = l.length
 nod : out.Nodup
 rng : ∀ j, mrk w j = -1 ∨ (0 ≤ mrk w j ∧ mrk w j ≤ (i : Int))
 clo : ∀ j k, mrk w j ≠ 0 → nx l j = some k → mrk w k ≠ 0
 cyc : ∀ j, mrk w j = -1 ↔ mrk w j ≠ 0 ∧ Cyc l j
 out : ∀ m, m ∈ out ↔ mrk w m = -1
 met : ∀ j, j < i → mrk w j ≠ 0
/-- Within the i-th walk: at 'a' (none: nowhere). -/
structure MkA (l w0 w : List Int) (i : Nat) (a : Option Nat) : Prop where
 len : w.length = l.length
 old : ∀ j, mrk w0 j ≠ 0 → mrk w j = mrk w0 j
 new : ∀ j, mrk w0 j = 0 → mrk w j = 0 ∨ mrk w j = (i + 1 : Nat)
 me : mrk w i ≠ 0 ∨ a = some i
 nxt : ∀ j, mrk w j = (i + 1 : Nat) → nx l j = a ∨ ∃ k, nx l j = some k ∧ mrk w k = (i + 1 : Nat)
 go : ∀ j, mrk w j = (i + 1 : Nat) → ∃ n, nxN l (n + 1) j = a

section
variable {l w0 w : List Int} {i : Nat} {out : List Nat}
theorem Mk.start (h : Mk l w i out) : MkA l w w i (some i) where
 len := h.len
 old := fun _ _ => rfl
 new := fun _ h0 => .inl h0
 me := .inr rfl
 nxt := fun j hj => absurd hj (by rcases h.rng j with e | e <;> omega)
 go := fun j hj => absurd hj (by rcases h.rng j with e | e <;> omega)
theorem MkA.step {a : Nat} (h : MkA l w0 w i (some a)) (ha : a < l.length) (h0 : mrk w a = 0) : MkA l w0 (w.set a ((i + 1 : Nat) : Int)) i (nx l a) := by
 have hs := mrk_set (w := w) (i := a) (by rw [h.len]; exact ha) ((i + 1 : Nat) : Int)
 refine ⟨by rw [List.length_set]; exact h.len, fun j hj => ?_, fun j hj => ?_, ?_, fun j hj => ?_, fun j hj => ?_⟩
 ·rw [hs, if_neg (by rintro rfl; have := h.old j hj; omega)]
  exact h.old j hj
 ·rw [hs]
  split
  ·exact .inr rfl
  ·exact h.new j hj
 ·rcases h.me with e | e
  ·left
   rw [hs]
   split
   ·omega
   ·exact e
  ·injection e with e
   left
   rw [hs, if_pos e.symm]
   omega
 ·rw [hs] at hj
  by_cases e : j = a
  ·exact .inl (by rw [e])
  ·rw [if_neg e] at hj
   rcases h.nxt j hj with e2 | ⟨k, e2, e3⟩
   ·exact .inr ⟨a, e2, by rw [hs, if_pos rfl]⟩
   ·refine .inr ⟨k, e2, ?_⟩
    rw [hs]
    split
    ·rfl
    ·exact e3
 ·rw [hs] at hj
  by_cases e : j = a
  ·exact ⟨0, by rw [e, nxN]; cases nx l a <;> rfl⟩
  ·rw [if_neg e] at hj
   obtain ⟨n, hn⟩ := h.go j hj
   refine ⟨n + 1, ?_⟩
   cases hx : nx l a with
   | none => exact nxN_none hn hx
   | some k => exact nxN_snoc hn hx
/-- The walk ends nowhere, or at what an elder walk met: nothing comes back. -/
theorem MkA.ended {a : Option Nat} (H : Mk l w0 i out) (h : MkA l w0 w i a) (ha : a = none ∨ ∃ k, a = some k ∧ mrk w k ≠ 0 ∧ mrk w k ≠ (i + 1 : Nat)) : Mk l w (i + 1) out := by
 have hnc : ∀ j, mrk w j = (i + 1 : Nat) → ¬ Cyc l j := by
  intro j hj hc
  obtain ⟨n, hn⟩ := h.go j hj
  rcases ha with rfl | ⟨k, rfl, hk0, hk1⟩
  ·exact not_cyc_end hn hc
  ·have hk : mrk w0 k ≠ 0 := by
    intro e
    rcases h.new k e with e2 | e2
    ·exact hk0 e2
    ·exact hk1 e2
   obtain ⟨m, hm⟩ := cyc_back hc hn
   have hj0 : mrk w0 j ≠ 0 := closed_steps (P := fun j => mrk w0 j ≠ 0) (fun j k h1 h2 => H.clo j k h1 h2) hk hm
   have := h.old j hj0
   rcases H.rng j with e | e <;> omega
 have hcase : ∀ j, mrk w j = mrk w0 j ∧ mrk w0 j ≠ 0 ∨ mrk w j = 0 ∧ mrk w0 j = 0 ∨ mrk w j = (i + 1 : Nat) ∧ mrk w0 j = 0 := by
  intro j
  by_cases hj : mrk w0 j = 0
  ·rcases h.new j hj with e | e
   ·exact .inr (.inl ⟨e, hj⟩)
   ·exact .inr (.inr ⟨e, hj⟩)
  ·exact .inl ⟨h.old j hj, hj⟩
 refine ⟨h.len, H.nod, fun j => ?_, fun j k hj hk => ?_, fun j => ?_, fun m => ?_, fun j hj => ?_⟩
 ·rcases hcase j with ⟨e, _⟩ | ⟨e, _⟩ | ⟨e, _⟩
  ·rw [e]
   rcases H.rng j with e | e <;> omega
  ·omega
  ·omega
 ·rcases hcase j with ⟨e, e2⟩ | ⟨e, _⟩ | ⟨e, _⟩
  ·have := H.clo j k e2 hk
   rw [h.old k this]
   exact this
  ·exact absurd e hj
  ·rcases h.nxt j e with e2 | ⟨k2, e2, e3⟩
   ·rcases ha with e3 | ⟨k2, e3, e4, _⟩
    ·rw [e2, e3] at hk; cases hk
    ·rw [e2, e3] at hk
     injection hk with hk
     rw [← hk]; exact e4
   ·rw [e2] at hk
    injection hk with hk
    rw [← hk]; omega
 ·rcases hcase j with ⟨e, _⟩ | ⟨e, _⟩ | ⟨e, _⟩
  ·rw [e]; exact H.cyc j
  ·constructor
   ·intro e2; omega
   ·intro e2; exact absurd e e2.1
  ·constructor
   ·intro e2; omega
   ·intro e2; exact absurd e2.2 (hnc j e)
 ·rw [H.out m]
  rcases hcase m with ⟨e, _⟩ | ⟨e, e2⟩ | ⟨e, e2⟩ <;> omega
 ·rcases Nat.lt_succ_iff_lt_or_eq.1 hj with hj | rfl
  ·have := H.met j hj
   rw [h.old j this]; exact this
  ·rcases h.me with e | e
   ·exact e
   ·rcases ha with e2 | ⟨k, e2, e3, _⟩
    ·rw [e] at e2; cases e2
    ·rw [e] at e2
     injection e2 with e2
     rw [e2]; exact e3

/-- Within a round, being told from s on: at 'a', which is n steps on. -/
structure MkB (l w1 w : List Int) (i s : Nat) (new : List Nat) (a : Nat) : Prop where
 len : w.length = l.length
 same : ∀ j, mrk w j = mrk w1 j ∨ (mrk w1 j = (i + 1 : Nat) ∧ mrk w j = -1)
 told : ∀ j, j ∈ new ↔ (mrk w1 j = (i + 1 : Nat) ∧ mrk w j = -1)
 on : ∃ n, nxN l n s = some a
 nxt : ∀ j k, j ∈ new → nx l j = some k → k ∈ new ∨ k = a
 first : s ∈ new ∨ a = s
 cyc : ∀ j, j ∈ new → Cyc l j
 nod : new.Nodup
theorem MkB.start {s : Nat} (hw : w.length = l.length) (h1 : ∀ j, mrk w j = (i + 1 : Nat) → True) : MkB l w w i s [] s := by
 have _ := h1
 refine ⟨hw, fun _ => .inl rfl, fun j => ?_, ⟨0, rfl⟩, by simp, .inr rfl, by simp, by simp⟩
 constructor
 ·intro h; cases h
 ·rintro ⟨e1, e2⟩; omega
theorem MkB.step {w1 : List Int} {s a b : Nat} {new : List Nat} (h : MkB l w1 w i s new a) (hc : Cyc l s) (ha : a < l.length) (h0 : mrk w a = (i + 1 : Nat)) (hb : nx l a = some b) : MkB l w1 (w.set a (-1)) i s (new ++ [a]) b := by
 have hs := mrk_set (w := w) (i := a) (by rw [h.len]; exact ha) (-1)
 have h1 : mrk w1 a = (i + 1 : Nat) := by
  rcases h.same a with e | ⟨e, _⟩
  ·rw [← e]; exact h0
  ·exact e
 obtain ⟨n, hn⟩ := h.on
 refine ⟨by rw [List.length_set]; exact h.len, fun j => ?_, fun j => ?_, ⟨n + 1, nxN_snoc hn hb⟩, fun j k hj hk => ?_, ?_, fun j hj => ?_, ?_⟩
 ·rw [hs]
  split
  ·rename_i e; subst e; exact .inr ⟨h1, rfl⟩
  ·exact h.same j
 ·rw [hs, List.mem_append, List.mem_singleton, h.told j]
  by_cases e : j = a
  ·subst e
   rw [if_pos rfl]
   exact ⟨fun _ => ⟨h1, rfl⟩, fun _ => .inr rfl⟩
  ·rw [if_neg e]
   exact ⟨fun h => h.elim id (fun e2 => absurd e2 e), fun h => .inl h⟩
 ·rw [List.mem_append, List.mem_singleton] at hj
  rw [List.mem_append, List.mem_singleton]
  rcases hj with hj | rfl
  ·rcases h.nxt j k hj hk with e | e
   ·exact .inl (.inl e)
   ·exact .inl (.inr e)
  ·rw [hb] at hk
   injection hk with hk
   exact .inr hk.symm
 ·rcases h.first with e | e
  ·exact .inl (List.mem_append_left _ e)
  ·exact .inl (by rw [← e]; simp)
 ·rw [List.mem_append, List.mem_singleton] at hj
  rcases hj with hj | rfl
  ·exact h.cyc j hj
  ·exact cyc_steps hc hn
 ·rw [List.nodup_append]
  refine ⟨h.nod, by simp, fun x hx y hy => ?_⟩
  simp only [List.mem_singleton] at hy
  subst hy
  rintro rfl
  have := ((h.told x).1 hx).2
  omega
/-- The round is told. -/
theorem MkB.ended {w1 : List Int} {s a : Nat} {new : List Nat} (H : Mk l w0 i out) (hA : MkA l w0 w1 i (some s)) (hs1 : mrk w1 s = (i + 1 : Nat)) (h : MkB l w1 w i s new a) (h0 : mrk w a ≠ (i + 1 : Nat)) : Mk l w (i + 1) (out ++ new) := by
 have hc : Cyc l s := by
  obtain ⟨n, hn⟩ := hA.go s hs1
  exact ⟨n, hn⟩
 -- what the walk met goes on in what it met
 have hclo : ∀ j k, mrk w1 j = (i + 1 : Nat) → nx l j = some k → mrk w1 k = (i + 1 : Nat) := by
  intro j k hj hk
  rcases hA.nxt j hj with e | ⟨k2, e, e2⟩
  ·rw [e] at hk
   injection hk with hk
   rw [← hk]; exact hs1
  ·rw [e] at hk
   injection hk with hk
   rw [← hk]; exact e2
 have ha1 : mrk w1 a = (i + 1 : Nat) := by
  obtain ⟨n, hn⟩ := h.on
  exact closed_steps (P := fun j => mrk w1 j = (i + 1 : Nat)) hclo hs1 hn
 have han : a ∈ new := by
  rw [h.told a]
  refine ⟨ha1, ?_⟩
  rcases h.same a with e | ⟨_, e⟩
  ·exact absurd (e.trans ha1) h0
  ·exact e
 have hcn : ∀ j k, j ∈ new → nx l j = some k → k ∈ new := by
  intro j k hj hk
  rcases h.nxt j k hj hk with e | e
  ·exact e
  ·rw [e]; exact han
 have hsn : s ∈ new := by
  rcases h.first with e | e
  ·exact e
  ·rw [← e]; exact han
 have hall : ∀ j, mrk w1 j = (i + 1 : Nat) → Cyc l j → j ∈ new := by
  intro j hj hcj
  obtain ⟨n, hn⟩ := hA.go j hj
  obtain ⟨m, hm⟩ := cyc_back hcj hn
  exact closed_steps (P := fun j => j ∈ new) hcn hsn hm
 have hcase : ∀ j, mrk w j = mrk w0 j ∧ mrk w0 j ≠ 0 ∧ j ∉ new ∨ mrk w j = 0 ∧ mrk w0 j = 0 ∧ j ∉ new ∨ mrk w j = (i + 1 : Nat) ∧ mrk w0 j = 0 ∧ mrk w1 j = (i + 1 : Nat) ∧ j ∉ new ∨ mrk w j = -1 ∧ mrk w0 j = 0 ∧ mrk w1 j = (i + 1 : Nat) ∧ j ∈ new := by
  intro j
  have ht := h.told j
  by_cases hj : mrk w0 j = 0
  ·rcases hA.new j hj with e | e
   ·rcases h.same j with e2 | ⟨e2, e3⟩
    ·exact .inr (.inl ⟨by omega, hj, fun hm => by have := (ht.1 hm).1; omega⟩)
    ·omega
   ·rcases h.same j with e2 | ⟨e2, e3⟩
    ·exact .inr (.inr (.inl ⟨by omega, hj, e, fun hm => by have := (ht.1 hm).2; omega⟩))
    ·exact .inr (.inr (.inr ⟨e3, hj, e, ht.2 ⟨e, e3⟩⟩))
  ·have e := hA.old j hj
   have hr := H.rng j
   rcases h.same j with e2 | ⟨e2, e3⟩
   ·exact .inl ⟨by omega, hj, fun hm => by have := (ht.1 hm).1; omega⟩
   ·omega
 have hnod : (out ++ new).Nodup := by
  rw [List.nodup_append]
  refine ⟨H.nod, h.nod, fun x hx y hy => ?_⟩
  rintro rfl
  have h1 := (H.out x).1 hx
  have h2 := ((h.told x).1 hy).1
  have h3 := hA.old x (by omega)
  omega
 refine ⟨h.len, hnod, fun j => ?_, fun j k hj hk => ?_, fun j => ?_, fun m => ?_, fun j hj => ?_⟩
 ·rcases hcase j with ⟨e, _⟩ | ⟨e, _⟩ | ⟨e, _⟩ | ⟨e, _⟩
  ·rw [e]
   rcases H.rng j with e | e <;> omega
  ·omega
  ·omega
  ·omega
 ·have hk0 : mrk w1 k = (i + 1 : Nat) → mrk w k ≠ 0 := fun e => by
   rcases h.same k with e2 | ⟨_, e2⟩ <;> omega
  rcases hcase j with ⟨e, e2, _⟩ | ⟨e, _⟩ | ⟨e, _, e2, _⟩ | ⟨e, _, e2, _⟩
  ·have := H.clo j k e2 hk
   rcases hcase k with ⟨f, f2, _⟩ | ⟨f, f2, _⟩ | ⟨f, f2, _⟩ | ⟨f, f2, _⟩
   ·rw [f]; exact this
   ·exact absurd f2 this
   ·exact absurd f2 this
   ·exact absurd f2 this
  ·exact absurd e hj
  ·exact hk0 (hclo j k e2 hk)
  ·exact hk0 (hclo j k e2 hk)
 ·rcases hcase j with ⟨e, _⟩ | ⟨e, _⟩ | ⟨e, _, e2, e3⟩ | ⟨e, _, e2, e3⟩
  ·rw [e]; exact H.cyc j
  ·exact ⟨fun e2 => by omega, fun e2 => absurd e e2.1⟩
  ·exact ⟨fun e4 => by omega, fun e4 => absurd (hall j e2 e4.2) e3⟩
  ·exact ⟨fun _ => ⟨by omega, h.cyc j e3⟩, fun _ => e⟩
 ·rw [List.mem_append, H.out m]
  rcases hcase m with ⟨e, _, e3⟩ | ⟨e, e2, e3⟩ | ⟨e, e2, _, e3⟩ | ⟨e, e2, _, e3⟩
  ·rw [e]; exact ⟨fun h => h.elim id (fun h => absurd h e3), .inl⟩
  ·exact ⟨fun h => h.elim (fun h => by omega) (fun h => absurd h e3), fun h => by omega⟩
  ·exact ⟨fun h => h.elim (fun h => by omega) (fun h => absurd h e3), fun h => by omega⟩
  ·exact ⟨fun _ => e, fun _ => .inr e3⟩
 ·rcases Nat.lt_succ_iff_lt_or_eq.1 hj with hj | rfl
  ·have h2 := H.met j hj
   rcases hcase j with ⟨e, _⟩ | ⟨e, e2, _⟩ | ⟨e, _⟩ | ⟨e, _⟩
   ·rw [e]; exact h2
   ·exact absurd e2 h2
   ·omega
   ·omega
  ·have hm : mrk w1 j ≠ 0 := by
    rcases hA.me with e | e
    ·exact e
    ·injection e with e
     rw [← e]; omega
   rcases h.same j with e | ⟨_, e⟩
   ·rw [e]; exact hm
   ·omega
theorem Mk.all (h : Mk l w l.length out) (m : Nat) : m ∈ out ↔ m < l.length ∧ Cyc l m := by
 rw [h.out m, h.cyc m]
 constructor
 ·rintro ⟨h1, h2⟩
  refine ⟨?_, h2⟩
  obtain ⟨j, hj⟩ := cyc_some h2
  unfold nx at hj
  split at hj
  ·cases hj
  ·rename_i v hv
   exact (List.getElem?_eq_some_iff.1 hv).1
 ·rintro ⟨h1, h2⟩
  exact ⟨h.met m h1, h2⟩
theorem Mk.le (h : Mk l w i out) : out.length ≤ l.length := by
 have := nodup_le (m := List.range l.length) h.nod (fun m hm => by
  rw [List.mem_range]
  have h1 := (h.out m).1 hm
  refine Decidable.byContradiction fun hn => ?_
  unfold mrk at h1
  rw [List.getD_eq_getElem?_getD, List.getElem?_eq_none (by rw [h.len]; omega)] at h1
  cases h1)
 rwa [List.length_range] at this
theorem Mk.zero (l : List Int) : Mk l (List.replicate l.length 0) 0 [] := by
 have h0 : ∀ j, mrk (List.replicate l.length 0) j = 0 := fun j => by
  unfold mrk
  rw [List.getD_eq_getElem?_getD, List.getElem?_replicate]
  split <;> rfl
 refine ⟨by simp, by simp, fun j => .inr (by rw [h0]; omega), fun j k h => absurd (h0 j) h, fun j => ?_, fun m => ?_, fun j hj => absurd hj (by omega)⟩
 ·rw [h0]
  exact ⟨fun h => by omega, fun h => absurd rfl h.1⟩
 ·rw [h0]
  exact ⟨fun h => (by cases h), fun h => by omega⟩
end
end Go.Proofs.YtjbdgjbmbohfmaaGreatDoor
