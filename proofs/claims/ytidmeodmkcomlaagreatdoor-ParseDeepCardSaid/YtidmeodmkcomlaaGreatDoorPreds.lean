/- Tags, aliases, operators; names that are there once: at every text of at most 1000 bytes. -/
import Derived.Test.YtidmeodmkcomlaaGreatDoorAllU
import Derived.Maps.OwnSet
import Derived.Maps.AppendAt
import Derived.OwnWalk
import Derived.Laws.EntriesVeiled
namespace Go.Proofs.YtidmeodmkcomlaaGreatDoor
open Go Go.Proofs Go.RowKit Go.Maps Go.WideMaps

def tagB (l : List UInt8) : Bool := isName l || isW l

/-- An alias's text. -/
def aliasB : List UInt8 → Bool
  | [] => false
  | c :: r => highB c && r.all aliB

def aliAt (i : Nat) (c : UInt8) : Bool := highB c || (decide (0 < i) && (smallB c || digB c))
theorem aliasB_iff (l : List UInt8) : aliasB l = true ↔ l ≠ [] ∧ ∀ j (h : j < l.length), aliAt j l[j] = true := by
  cases l with
  | nil => simp [aliasB]
  | cons c r =>
    simp only [aliasB, Bool.and_eq_true, List.all_eq_true, ne_eq, reduceCtorEq, not_false_eq_true, true_and]
    constructor
    · rintro ⟨h1, h2⟩ j hj
      cases j with
      | zero => simp [aliAt, h1]
      | succ j =>
        have := h2 (r[j]'(by simpa using hj)) (List.getElem_mem _)
        simp only [aliB, Bool.or_assoc] at this
        simpa [aliAt] using this
    · intro h
      refine ⟨by have := h 0 (by simp); simpa [aliAt] using this, fun x hx => ?_⟩
      obtain ⟨j, hj, rfl⟩ := List.getElem_of_mem hx
      have := h (j + 1) (by simpa using hj)
      simpa [aliAt, aliB, Bool.or_assoc] using this
theorem tl_get (s : ByteArray) (k : Nat) (h : k < s.size) : (tl s)[k]'(by rw [tl_length]; exact h) = s[k] := rfl

/-- The operators. -/
def opsL : List (List UInt8) := [[43], [45], [42], [47], [43, 46], [45, 46], [42, 46], [47, 46], [60], [60, 46], [61, 61], [94]]
def opB (l : List UInt8) : Bool := decide (l ∈ opsL)
theorem addKey_len : ∀ (xs acc : List Lit), (∀ x ∈ xs, WideAt.IsKeyLit x) → ((xs.foldl addKey acc).length ≤ acc.length + xs.length ∧ ((xs.foldl addKey acc).length = acc.length + xs.length ↔ (xs.Nodup ∧ ∀ x ∈ xs, ¬ x ∈ acc)))
  | [], acc, _ => by simp
  | x :: xs, acc, h => by
    have hx := h x (by simp)
    have ih := addKey_len xs (addKey acc x) (fun y hy => h y (by simp [hy]))
    have hany : (acc.any fun y => y.sameKey x) = true ↔ x ∈ acc := by
      rw [List.any_eq_true]
      constructor
      · rintro ⟨y, hy, hs⟩
        have := (WideAt.sameKey_iff hx).1 hs
        subst this
        exact hy
      · intro hm
        exact ⟨x, hm, WideAt.sameKey_self hx⟩
    simp only [List.foldl_cons]
    by_cases hm : x ∈ acc
    · have e : addKey acc x = acc := by unfold addKey; rw [if_pos (hany.2 hm)]
      rw [e] at ih ⊢
      refine ⟨by simp; omega, ⟨fun h' => ?_, fun h' => absurd hm (h'.2 x (by simp))⟩⟩
      have := ih.1
      simp at h'
      omega
    · have e : addKey acc x = acc ++ [x] := by unfold addKey; rw [if_neg (fun h' => hm (hany.1 h'))]
      rw [e] at ih ⊢
      simp only [List.length_append, List.length_singleton] at ih
      refine ⟨by simp; omega, ?_⟩
      rw [show acc.length + (x :: xs).length = acc.length + 1 + xs.length by simp; omega, ih.2]
      rw [List.nodup_cons]
      constructor
      · rintro ⟨h1, h2⟩
        refine ⟨⟨fun h' => h2 x h' (by simp), h1⟩, fun y hy => ?_⟩
        rcases List.mem_cons.1 hy with rfl | hy
        · exact hm
        · exact fun h' => h2 y hy (by simp [h'])
      · rintro ⟨⟨h1, h2⟩, h3⟩
        refine ⟨h2, fun y hy hya => ?_⟩
        rcases List.mem_append.1 hya with hya | hya
        · exact h3 y (by simp [hy]) hya
        · simp at hya
          subst hya
          exact h1 hy

/-- Names as keys. -/
def keysOf (ss : List ByteArray) : List Lit := ss.map fun s => .string s.data.toList
theorem keysOf_nodup (ss : List ByteArray) : (keysOf ss).Nodup ↔ ss.Nodup := by
  unfold keysOf
  constructor
  · intro h
    exact (List.pairwise_map.1 h).imp fun hab e => hab (by rw [e])
  · intro h
    refine List.pairwise_map.2 (h.imp fun hab e => hab ?_)
    injection e with e
    exact ByteArray.ext (Array.ext' e)
theorem size_keys (ss : List ByteArray) : (size (setOf (H := Unit) (.agg []) (keysOf ss)) = ss.length ↔ ss.Nodup) ∧ size (setOf (H := Unit) (.agg []) (keysOf ss)) ≤ ss.length := by
  have hk : ∀ x ∈ keysOf ss, WideAt.IsKeyLit x := by
    intro x hx
    obtain ⟨s, _, rfl⟩ := List.mem_map.1 hx
    trivial
  rw [size_setOf _ _ hk]
  have h := addKey_len (keysOf ss) [] hk
  simp only [List.length_nil, Nat.zero_add, List.not_mem_nil, not_false_eq_true, implies_true, and_true] at h
  rw [keysOf_nodup, show (keysOf ss).length = ss.length by simp [keysOf]] at h
  exact ⟨h.2, h.1⟩
theorem set_succ (ss : List ByteArray) (k : Nat) (h : k < ss.length) : setOf (H := Unit) (.agg []) (keysOf (ss.take (k + 1))) = (setOf (.agg []) (keysOf (ss.take k))).put (.string ss[k].data.toList) (.agg []) := by
  rw [List.take_succ_eq_append_getElem h]
  unfold keysOf
  rw [List.map_append, List.map_singleton, setOf_snoc]

/-- Each is what p asks, and there once. -/
def onceB (p : List UInt8 → Bool) (ss : List ByteArray) : Bool := decide ((∀ s ∈ ss, p (tl s) = true) ∧ ss.Nodup)
theorem onceB_no {p : List UInt8 → Bool} {ss : List ByteArray} {k : Nat} (h : k < ss.length) (hp : p (tl ss[k]) = false) : onceB p ss = false := by
  unfold onceB
  rw [decide_eq_false_iff_not]
  intro hh
  have := hh.1 _ (List.getElem_mem h)
  rw [hp] at this
  cases this
theorem law9 : Keyed Tryz.prog 9 := string_keyed Tryz.underlying9


end Go.Proofs.YtidmeodmkcomlaaGreatDoor
