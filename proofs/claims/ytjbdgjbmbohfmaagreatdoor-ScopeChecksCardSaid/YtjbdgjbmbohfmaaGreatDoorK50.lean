/- Whether a tree may be: the document's answer, at every tree of parts of a bounded size. -/
import Derived.Test.YtjbdgjbmbohfmaaGreatDoorK48
import Derived.Test.YtjbdgjbmbohfmaaGreatDoorK49
namespace Go.Proofs.YtjbdgjbmbohfmaaGreatDoor
open Go Go.Proofs Go.RowKit
theorem info32 : (Tryz.prog.info? 49).map (fun i => (i.zero, i.size, i.bytes)) = some (some (.slice none 0 0), 1, 24) := by kernel_rfl

def NodOk (t : TreeD) (k : Nat) : Prop := ∀ (j : Nat) (x : TermD), j < k → t.nodes[j]? = some x → InR x.kids j ∧ InR x.types t.types.length ∧ termB x = true
def TypsOk (t : TreeD) (k : Nat) : Prop := ∀ (j : Nat) (x : TypD), j < k → t.types[j]? = some x → InR x.kids j ∧ typB x = true
def AlisOk (t : TreeD) (k : Nat) : Prop := ∀ (j : Nat) (x : AliD), j < k → t.aliases[j]? = some x → aliasB (tl x.name) = true ∧ InR [x.type] t.types.length
theorem nodOk_of {t : TreeD} (h : checkF t = true) : NodOk t t.nodes.length := fun j x _ hx => (Rng.of h).nod j x hx
theorem typsOk_of {t : TreeD} (h : checkF t = true) : TypsOk t t.types.length := fun j x _ hx => (Rng.of h).typ j x hx
theorem alisOk_of {t : TreeD} (h : checkF t = true) : AlisOk t t.aliases.length := fun j x _ hx => by
 have := (Rng.of h).ali x (List.mem_of_getElem? hx)
 exact ⟨this.2.2, fun k hk => by simp only [List.mem_singleton] at hk; subst hk; exact ⟨this.1, this.2.1⟩⟩
theorem nodOk_step {t : TreeD} {k : Nat} {x : TermD} (h : NodOk t k) (hx : t.nodes[k]? = some x) (h1 : InR x.kids k) (h2 : InR x.types t.types.length) (h3 : termB x = true) : NodOk t (k + 1) := fun j y hj hy => by
 by_cases e : j = k
 ·subst e; rw [hx] at hy; cases hy; exact ⟨h1, h2, h3⟩
 ·exact h j y (by omega) hy
theorem typsOk_step {t : TreeD} {k : Nat} {x : TypD} (h : TypsOk t k) (hx : t.types[k]? = some x) (h1 : InR x.kids k) (h3 : typB x = true) : TypsOk t (k + 1) := fun j y hj hy => by
 by_cases e : j = k
 ·subst e; rw [hx] at hy; cases hy; exact ⟨h1, h3⟩
 ·exact h j y (by omega) hy
theorem alisOk_step {t : TreeD} {k : Nat} {x : AliD} (h : AlisOk t k) (hx : t.aliases[k]? = some x) (h1 : aliasB (tl x.name) = true) (h3 : InR [x.type] t.types.length) : AlisOk t (k + 1) := fun j y hj hy => by
 by_cases e : j = k
 ·subst e; rw [hx] at hy; cases hy; exact ⟨h1, h3⟩
 ·exact h j y (by omega) hy

theorem kids_in {t : TreeD} (h : NodOk t t.nodes.length) : ∀ k ∈ kidsAll t, 0 ≤ k ∧ k < (t.nodes.length : Int) - 1 := fun k hk => by
 obtain ⟨x, hx, hk⟩ := List.mem_flatMap.1 hk
 obtain ⟨j, hj, rfl⟩ := List.getElem_of_mem hx
 have := (h j _ hj (List.getElem?_eq_getElem hj)).1 k hk
 omega
theorem uses_in {t : TreeD} (h : NodOk t t.nodes.length) (h2 : TypsOk t t.types.length) (h3 : AlisOk t t.aliases.length) : InR (usesAll t) t.types.length := fun k hk => by
 unfold usesAll at hk
 rcases List.mem_append.1 hk with hk | hk
 ·obtain ⟨x, hx, hk⟩ := List.mem_flatMap.1 hk
  obtain ⟨j, hj, rfl⟩ := List.getElem_of_mem hx
  exact (h j _ hj (List.getElem?_eq_getElem hj)).2.1 k hk
 ·rcases List.mem_append.1 hk with hk | hk
  ·obtain ⟨x, hx, hk⟩ := List.mem_flatMap.1 hk
   obtain ⟨j, hj, rfl⟩ := List.getElem_of_mem hx
   have := (h2 j _ hj (List.getElem?_eq_getElem hj)).1 k hk
   omega
  ·obtain ⟨x, hx, rfl⟩ := List.mem_map.1 hk
   obtain ⟨j, hj, rfl⟩ := List.getElem_of_mem hx
   exact (h3 j _ hj (List.getElem?_eq_getElem hj)).2 _ (by simp)

theorem right_iff {t : TreeD} (hn : 1 ≤ t.nodes.length) (hb1 : t.nodes.length ≤ 1000) (hb2 : t.types.length ≤ 1000) (h1 : NodOk t t.nodes.length) (h2 : TypsOk t t.types.length) (h3 : AlisOk t t.aliases.length) :
 checkF t = true ↔ Ones t.nodes.length (((t.nodes.length - 1 : Nat) : Int) :: kidsAll t) ∧ Ones t.types.length (usesAll t) := by
 have hk := kids_in h1
 have hu := uses_in h1 h2 h3
 have hk2 : InR (((t.nodes.length - 1 : Nat) : Int) :: kidsAll t) t.nodes.length := fun k hk' => by
  rcases List.mem_cons.1 hk' with rfl | hk'
  ·omega
  ·have := hk k hk'; omega
 rw [ones_nats hk2, ones_nats hu, checkF_iff]
 have hno : (t.nodes.length - 1) ∉ nats (kidsAll t) := fun hm => by
  obtain ⟨z, hz, e⟩ := List.mem_map.1 hm
  have := hk z hz
  omega
 have hc : nats (((t.nodes.length - 1 : Nat) : Int) :: kidsAll t) = (t.nodes.length - 1) :: nats (kidsAll t) := by
  unfold nats
  rw [List.map_cons, Int.toNat_natCast]
 rw [hc, List.nodup_cons]
 constructor
 ·intro hW
  refine ⟨⟨⟨hno, hW.onceN⟩, fun j hj => ?_⟩, hW.onceT, hW.allT⟩
  by_cases e : j = t.nodes.length - 1
  ·rw [e]; exact List.mem_cons_self
  ·exact List.mem_cons_of_mem _ (hW.allN j (by omega))
 ·rintro ⟨⟨⟨_, g1⟩, g2⟩, g3, g4⟩
  refine ⟨⟨hn, fun j x hx => ?_, fun j x hx => ?_, fun x hx => ?_⟩, by omega, by omega, g1, g3, fun j hj => ?_, g4⟩
  ·exact h1 j x (List.getElem?_eq_some_iff.1 hx).1 hx
  ·exact h2 j x (List.getElem?_eq_some_iff.1 hx).1 hx
  ·obtain ⟨j, hj, rfl⟩ := List.getElem_of_mem hx
   have := h3 j _ hj (List.getElem?_eq_getElem hj)
   have h4 := this.2 t.aliases[j].type (by simp)
   exact ⟨h4.1, h4.2, this.1⟩
  ·rcases List.mem_cons.1 (g2 j (by omega)) with e | h
   ·omega
   ·exact h
end Go.Proofs.YtjbdgjbmbohfmaaGreatDoor
