/- What a tree that may be is like: its numbers are in their bounds. -/
import Derived.Test.YtinajnkjfhbmkaaGreatDoorCheck
namespace Go.Proofs.YtinajnkjfhbmkaaGreatDoor
open Go Go.Proofs Go.RowKit

theorem takeF_range : ∀ (ks us : List Int) (e : Int), (takeF us ks e).1 = true → ∀ k ∈ ks, 0 ≤ k ∧ k < e
  | [], _, _, _ => by simp
  | k :: ks, us, e, h => by
    unfold takeF at h
    split at h
    · cases h
    · rename_i h1
      split at h
      · cases h
      · intro x hx
        rcases List.mem_cons.1 hx with rfl | hx
        · omega
        · exact takeF_range ks _ e h x hx
theorem termsF_range (nt : Int) : ∀ (ns : List TermD) (i : Nat) (us ts : List Int), (termsF nt i ns us ts).1 = true → ∀ j (x : TermD), ns[j]? = some x → (∀ k ∈ x.kids, 0 ≤ k ∧ k < ((i + j : Nat) : Int)) ∧ (∀ k ∈ x.types, 0 ≤ k ∧ k < nt) ∧ termB x = true
  | [], _, _, _, _ => by simp
  | n :: ns, i, us, ts, h => by
    unfold termsF at h
    split at h
    · rename_i h1
      split at h
      · rename_i h2
        split at h
        · rename_i h3
          intro j x hx
          cases j with
          | zero =>
            simp only [List.getElem?_cons_zero, Option.some.injEq] at hx
            subst hx
            exact ⟨takeF_range _ _ _ h1, takeF_range _ _ _ h2, h3⟩
          | succ j =>
            simp only [List.getElem?_cons_succ] at hx
            have := termsF_range nt ns (i + 1) _ _ h j x hx
            rw [show i + (j + 1) = i + 1 + j by omega]
            exact this
        · cases h
      · cases h
    · cases h
theorem typsF_range : ∀ (ns : List TypD) (i : Nat) (us : List Int), (typsF i ns us).1 = true → ∀ j (x : TypD), ns[j]? = some x → (∀ k ∈ x.kids, 0 ≤ k ∧ k < ((i + j : Nat) : Int)) ∧ typB x = true
  | [], _, _, _ => by simp
  | n :: ns, i, us, h => by
    unfold typsF at h
    split at h
    · rename_i h1
      split at h
      · rename_i h2
        intro j x hx
        cases j with
        | zero =>
          simp only [List.getElem?_cons_zero, Option.some.injEq] at hx
          subst hx
          exact ⟨takeF_range _ _ _ h1, h2⟩
        | succ j =>
          simp only [List.getElem?_cons_succ] at hx
          have := typsF_range ns (i + 1) _ h j x hx
          rw [show i + (j + 1) = i + 1 + j by omega]
          exact this
      · cases h
    · cases h
theorem alisF_range (nt : Int) : ∀ (ns : List AliD) (us : List Int), (alisF nt ns us).1 = true → ∀ x ∈ ns, 0 ≤ x.type ∧ x.type < nt ∧ aliasB (tl x.name) = true
  | [], _, _ => by simp
  | n :: ns, us, h => by
    unfold alisF at h
    split at h
    · rename_i h1
      split at h
      · rename_i h2
        intro x hx
        rcases List.mem_cons.1 hx with rfl | hx
        · have := takeF_range _ _ _ h2 x.type (by simp)
          exact ⟨this.1, this.2, h1⟩
        · exact alisF_range nt ns _ h x hx
      · cases h
    · cases h

/-- The numbers of a tree are in their bounds, and each part has what its kind asks. -/
structure Rng (t : TreeD) : Prop where
  one : 1 ≤ t.nodes.length
  nod : ∀ (j : Nat) (x : TermD), t.nodes[j]? = some x → (∀ k ∈ x.kids, 0 ≤ k ∧ k < (j : Int)) ∧ (∀ k ∈ x.types, 0 ≤ k ∧ k < (t.types.length : Int)) ∧ termB x = true
  typ : ∀ (j : Nat) (x : TypD), t.types[j]? = some x → (∀ k ∈ x.kids, 0 ≤ k ∧ k < (j : Int)) ∧ typB x = true
  ali : ∀ x ∈ t.aliases, 0 ≤ x.type ∧ x.type < (t.types.length : Int) ∧ aliasB (tl x.name) = true
theorem Rng.of {t : TreeD} (h : checkF t = true) : Rng t := by
  unfold checkF at h
  simp only [Bool.and_eq_true, decide_eq_true_eq] at h
  obtain ⟨⟨h1, h2, h3⟩, h4, h5, h6, _⟩ := h
  exact ⟨h1, fun j x hx => by have := termsF_range _ _ _ _ _ h4 j x hx; rwa [Nat.zero_add] at this, fun j x hx => by have := typsF_range _ _ _ h5 j x hx; rwa [Nat.zero_add] at this, alisF_range _ _ _ h6⟩

/-- Kids by number. -/
def tyK (t : TreeD) (i : Nat) : List Nat := match t.types[i]? with | some x => x.kids.map Int.toNat | none => []
def tmK (t : TreeD) (i : Nat) : List Nat := match t.nodes[i]? with | some x => x.kids.map Int.toNat | none => []
def tmT (t : TreeD) (i : Nat) : List Nat := match t.nodes[i]? with | some x => x.types.map Int.toNat | none => []
/-- The depth of a type, of a term. -/
def dTy (t : TreeD) (i : Nat) : Nat := depth (fun _ => 0) (tyK t) i
def dTm (t : TreeD) (i : Nat) : Nat := depth (fun i => most ((tmT t i).map (dTy t))) (tmK t) i
def depthP (t : TreeD) : Nat := max (dTm t (t.nodes.length - 1)) (most (t.aliases.map fun a => dTy t a.type.toNat))

theorem Rng.dnT {t : TreeD} (h : Rng t) : Dn (tyK t) t.types.length := fun i hi k hk => by
  unfold tyK at hk
  rw [List.getElem?_eq_getElem hi] at hk
  obtain ⟨z, hz, rfl⟩ := List.mem_map.1 hk
  have := (h.typ i _ (List.getElem?_eq_getElem hi)).1 z hz
  omega
theorem Rng.dnN {t : TreeD} (h : Rng t) : Dn (tmK t) t.nodes.length := fun i hi k hk => by
  unfold tmK at hk
  rw [List.getElem?_eq_getElem hi] at hk
  obtain ⟨z, hz, rfl⟩ := List.mem_map.1 hk
  have := (h.nod i _ (List.getElem?_eq_getElem hi)).1 z hz
  omega
theorem dTy_eq {t : TreeD} (h : Rng t) (i : Nat) (hi : i < t.types.length) : dTy t i = 1 + most (t.types[i].kids.map fun k => dTy t k.toNat) := by
  show depth _ _ i = _
  rw [depth_eq h.dnT hi]
  have : tyK t i = t.types[i].kids.map Int.toNat := by unfold tyK; rw [List.getElem?_eq_getElem hi]
  rw [this, List.map_map, Nat.max_zero]
  rfl
theorem dTm_eq {t : TreeD} (h : Rng t) (i : Nat) (hi : i < t.nodes.length) : dTm t i = 1 + max (most (t.nodes[i].kids.map fun k => dTm t k.toNat)) (most (t.nodes[i].types.map fun k => dTy t k.toNat)) := by
  show depth _ _ i = _
  rw [depth_eq h.dnN hi]
  have h1 : tmK t i = t.nodes[i].kids.map Int.toNat := by unfold tmK; rw [List.getElem?_eq_getElem hi]
  have h2 : tmT t i = t.nodes[i].types.map Int.toNat := by unfold tmT; rw [List.getElem?_eq_getElem hi]
  rw [h1, h2, List.map_map, List.map_map]
  rfl
theorem dTy_le {t : TreeD} (h : Rng t) (i : Nat) (hi : i < t.types.length) : dTy t i ≤ t.types.length := by
  have := depth_le (base := fun _ => 0) (c := 0) h.dnT (fun _ _ => Nat.le_refl _) (i + 1) i (by omega) hi
  show depth _ _ i ≤ _
  omega
theorem mostTy_le {t : TreeD} (h : Rng t) (ks : List Int) (hk : ∀ k ∈ ks, 0 ≤ k ∧ k < (t.types.length : Int)) : most (ks.map fun k => dTy t k.toNat) ≤ t.types.length :=
  most_of_le fun a ha => by
    obtain ⟨k, hk', rfl⟩ := List.mem_map.1 ha
    have := hk k hk'
    exact dTy_le h _ (by omega)
theorem dTm_le {t : TreeD} (h : Rng t) (i : Nat) (hi : i < t.nodes.length) : dTm t i ≤ t.nodes.length + t.types.length := by
  have := depth_le (base := fun i => most ((tmT t i).map (dTy t))) (c := t.types.length) h.dnN (fun j hj => by
    have h2 : tmT t j = t.nodes[j].types.map Int.toNat := by unfold tmT; rw [List.getElem?_eq_getElem hj]
    rw [h2, List.map_map]
    exact mostTy_le h _ (h.nod j _ (List.getElem?_eq_getElem hj)).2.1) (i + 1) i (by omega) hi
  show depth _ _ i ≤ _
  omega
theorem mostTm_le {t : TreeD} (h : Rng t) (ks : List Int) (hk : ∀ k ∈ ks, 0 ≤ k ∧ k < (t.nodes.length : Int)) : most (ks.map fun k => dTm t k.toNat) ≤ t.nodes.length + t.types.length :=
  most_of_le fun a ha => by
    obtain ⟨k, hk', rfl⟩ := List.mem_map.1 ha
    have := hk k hk'
    exact dTm_le h _ (by omega)
end Go.Proofs.YtinajnkjfhbmkaaGreatDoor
