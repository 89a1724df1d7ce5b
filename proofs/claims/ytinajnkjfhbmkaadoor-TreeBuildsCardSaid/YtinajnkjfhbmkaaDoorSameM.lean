/- Whether two trees are the same, as the program asks it: rows of parts, side by side. -/
import Derived.Test.YtinajnkjfhbmkaaDoorOnce
namespace Go.Proofs.YtinajnkjfhbmkaaDoor
open Go Go.Proofs Go.RowKit

/-- Two terms, two types, but for places and numbers. -/
def smT (x y : TermD) : Bool := decide (x.kind = y.kind ∧ x.name = y.name ∧ x.int = y.int ∧ x.bits = y.bits ∧ x.names = y.names ∧ x.kids.length = y.kids.length)
def smY (x y : TypD) : Bool := decide (x.kind = y.kind ∧ x.name = y.name ∧ x.opn = y.opn ∧ x.names = y.names)
def smA (x y : AliD) : Bool := decide (x.name = y.name)
def atT (a b : TreeD) (i j : Nat) : Bool := match a.nodes[i]?, b.nodes[j]? with | some x, some y => smT x y | _, _ => false
def atY (a b : TreeD) (i j : Nat) : Bool := match a.types[i]?, b.types[j]? with | some x, some y => smY x y | _, _ => false
/-- All terms, all types, each ahead of its kids. -/
def termsL (t : TreeD) : List Nat := walk (tmK t) (t.nodes.length - 1)
def typesIn (t : TreeD) (i : Nat) : List Int := match t.nodes[i]? with | some x => x.types | none => []
def rootsL (t : TreeD) (l : List Nat) : List Int := l.flatMap (typesIn t) ++ t.aliases.map (·.type)
def typesL (t : TreeD) (l : List Nat) : List Nat := (nats (rootsL t l)).flatMap (walk (tyK t))
def sameB (a b : TreeD) : Bool :=
  checkF a && (checkF b && (all2 (atT a b) (termsL a) (termsL b) && (all2 smA a.aliases b.aliases && all2 (atY a b) (typesL a (termsL a)) (typesL b (termsL b)))))

theorem smT_refl (x : TermD) : smT x x = true := by simp [smT]
theorem smY_refl (x : TypD) : smY x x = true := by simp [smY]
theorem smA_refl (x : AliD) : smA x x = true := by simp [smA]

theorem walk_lt {kids : Nat → List Nat} {n i : Nat} (hd : Dn kids n) (hi : i < n) : ∀ j ∈ walk kids i, j < n := fun j hj => by
  have := walk_le hd (i + 1) i (by omega) hi j hj
  omega
theorem termsL_lt {t : TreeD} (h : Rng t) : ∀ i ∈ termsL t, i < t.nodes.length := walk_lt h.dnN (by have := h.one; omega)
theorem typesIn_lt {t : TreeD} (h : Rng t) (i : Nat) : ∀ k ∈ typesIn t i, 0 ≤ k ∧ k < (t.types.length : Int) := fun k hk => by
  unfold typesIn at hk
  split at hk
  · rename_i x hx
    exact (h.nod i x hx).2.1 k hk
  · cases hk
theorem rootsL_lt {t : TreeD} (h : Rng t) (l : List Nat) : ∀ k ∈ rootsL t l, 0 ≤ k ∧ k < (t.types.length : Int) := fun k hk => by
  unfold rootsL at hk
  rcases List.mem_append.1 hk with hk | hk
  · obtain ⟨i, _, hk⟩ := List.mem_flatMap.1 hk
    exact typesIn_lt h i k hk
  · obtain ⟨x, hx, rfl⟩ := List.mem_map.1 hk
    exact ⟨(h.ali x hx).1, (h.ali x hx).2.1⟩
theorem typesL_lt {t : TreeD} (h : Rng t) (l : List Nat) : ∀ j ∈ typesL t l, j < t.types.length := fun j hj => by
  unfold typesL at hj
  obtain ⟨r, hr, hj⟩ := List.mem_flatMap.1 hj
  obtain ⟨k, hk, rfl⟩ := List.mem_map.1 hr
  have := rootsL_lt h l k hk
  exact walk_lt h.dnT (by omega) j hj

theorem flat_le {α β : Type} {f : α → List β} {c : Nat} : ∀ {l : List α}, (∀ a ∈ l, (f a).length ≤ c) → (l.flatMap f).length ≤ l.length * c
  | [], _ => by simp
  | a :: l, h => by
    rw [List.flatMap_cons, List.length_append, List.length_cons, Nat.add_mul]
    have := h a (by simp)
    have := flat_le (f := f) (c := c) (l := l) (fun b hb => h b (by simp [hb]))
    omega
theorem typesIn_len {t : TreeD} (hF : TreeFew t) (i : Nat) : (typesIn t i).length ≤ 1000 := by
  unfold typesIn
  split
  · rename_i x hx
    exact (hF.1 x (List.mem_of_getElem? hx)).2.2.2.2
  · simp
theorem rootsL_len {t : TreeD} (hF : TreeFew t) {l : List Nat} (hl : l.length ≤ 1000) : (rootsL t l).length ≤ 1001000 := by
  unfold rootsL
  have h1 : (l.flatMap (typesIn t)).length ≤ l.length * 1000 := flat_le fun i _ => typesIn_len hF i
  have := hF.2.2.2.1
  simp only [List.length_append, List.length_map]
  omega
theorem walks_len {t : TreeD} (h : Whole t) (hF : TreeFew t) : ∀ (l : List Nat), (∀ k ∈ l, k < t.types.length) → (l.flatMap (walk (tyK t))).length ≤ l.length * 1000 := fun l hl =>
  flat_le fun k hk => by have := h.walkT (hl k hk); have := hF.2.2.2.2.2; omega
theorem termsL_len {t : TreeD} (h : Whole t) (hF : TreeFew t) : (termsL t).length ≤ 1000 := by
  have := h.walkN (i := t.nodes.length - 1) (by have := h.rng.one; omega)
  have := hF.2.2.2.2.1
  unfold termsL
  omega
theorem typesL_len {t : TreeD} (h : Whole t) (hF : TreeFew t) {l : List Nat} (hl : l.length ≤ 1000) : (typesL t l).length ≤ 1001000000 := by
  have h1 := rootsL_len hF hl
  have h2 : (nats (rootsL t l)).length = (rootsL t l).length := List.length_map _
  have h3 := walks_len h hF (nats (rootsL t l)) (fun k hk => by
    obtain ⟨z, hz, rfl⟩ := List.mem_map.1 hk
    have := rootsL_lt h.rng l z hz
    omega)
  unfold typesL
  omega

theorem sameB_refl {t : TreeD} (h : checkF t = true) : sameB t t = true := by
  have hR := Rng.of h
  unfold sameB
  rw [h, all2_refl (r := atT t t) (fun i hi => by
    have hl := termsL_lt hR i hi
    unfold atT
    rw [List.getElem?_eq_getElem hl]
    exact smT_refl _), all2_refl (r := smA) (fun x _ => smA_refl x), all2_refl (r := atY t t) (fun i hi => by
    have hl := typesL_lt hR _ i hi
    unfold atY
    rw [List.getElem?_eq_getElem hl]
    exact smY_refl _)]
  rfl
end Go.Proofs.YtinajnkjfhbmkaaDoor
