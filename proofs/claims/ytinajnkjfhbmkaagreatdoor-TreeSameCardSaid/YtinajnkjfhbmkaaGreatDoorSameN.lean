/- Whether two trees are the same, as the document asks it, is what the program asks; and it is so the other way round. -/
import Derived.Test.YtinajnkjfhbmkaaGreatDoorSameD
namespace Go.Proofs.YtinajnkjfhbmkaaGreatDoor
open Go Go.Proofs Go.RowKit

/-- Two types with all in them; two terms, and the types in them. -/
def sY (a b : TreeD) : Nat → Nat → Bool := same (atY a b) (tyK a) (tyK b)
def rT (a b : TreeD) (i j : Nat) : Bool := atT a b i j && all2 (same (atY a b) (tyK a) (tyK b)) (tmT a i) (tmT b j)

theorem all2_imp {α β : Type} {r s : α → β → Bool} : ∀ {l : List α} {m : List β}, (∀ a ∈ l, ∀ b ∈ m, r a b = true → s a b = true) → all2 r l m = true → all2 s l m = true
  | [], [], _, _ => rfl
  | a :: l, b :: m, h, hr => by
    simp only [all2, Bool.and_eq_true] at hr ⊢
    exact ⟨h a (by simp) b (by simp) hr.1, all2_imp (fun a ha b hb => h a (by simp [ha]) b (by simp [hb])) hr.2⟩
  | [], _ :: _, _, hr => by simp [all2] at hr
  | _ :: _, [], _, hr => by simp [all2] at hr

theorem all2_const {α β : Type} : ∀ {l : List α} {m : List β}, l.length = m.length → all2 (fun _ _ => true) l m = true
  | [], [], _ => rfl
  | _ :: l, _ :: m, h => by
    simp only [all2, Bool.true_and]
    exact all2_const (by simpa using h)
  | [], _ :: _, h => by simp at h
  | _ :: _, [], h => by simp at h
theorem holdsB_len {M K R T n : Int} {kl tl : Nat} {b0 b1 b2 : Bool} (h : holdsB M K R T n kl tl b0 b1 b2 = true) : K ≤ kl ∧ (kl : Int) ≤ K + R ∧ (tl : Int) = T := by
  unfold holdsB at h
  simp only [Bool.and_eq_true, decide_eq_true_eq] at h
  exact ⟨h.1.2.2.1, h.1.2.2.2.1, h.1.2.2.2.2⟩

theorem termB_types {x y : TermD} (hx : termB x = true) (hy : termB y = true) (hk : x.kind = y.kind) : x.types.length = y.types.length := by
  have key : ∀ z : TermD, termB z = true → (z.types.length : Int) = if z.kind = 15 then 1 else if z.kind = 16 then 2 else 0 := by
    intro z hz
    unfold termB at hz
    by_cases k0 : z.kind = 0
    · rw [if_pos k0] at hz
      rw [if_neg (by omega), if_neg (by omega)]
      exact (holdsB_len hz).2.2
    rw [if_neg k0] at hz
    by_cases k1 : z.kind = 1
    · rw [if_pos k1] at hz
      rw [if_neg (by omega), if_neg (by omega)]
      exact (holdsB_len hz).2.2
    rw [if_neg k1] at hz
    by_cases k2 : z.kind = 2
    · rw [if_pos k2] at hz
      rw [if_neg (by omega), if_neg (by omega)]
      exact (holdsB_len hz).2.2
    rw [if_neg k2] at hz
    by_cases k3 : z.kind = 3
    · rw [if_pos k3] at hz
      rw [if_neg (by omega), if_neg (by omega)]
      exact (holdsB_len hz).2.2
    rw [if_neg k3] at hz
    by_cases k4 : z.kind = 4
    · rw [if_pos k4] at hz
      rw [if_neg (by omega), if_neg (by omega)]
      exact (holdsB_len hz).2.2
    rw [if_neg k4] at hz
    by_cases k5 : z.kind = 5 ∨ z.kind = 13
    · rw [if_pos k5] at hz
      rw [if_neg (by omega), if_neg (by omega)]
      exact (holdsB_len hz).2.2
    rw [if_neg k5] at hz
    by_cases k6 : z.kind = 6
    · rw [if_pos k6] at hz
      rw [if_neg (by omega), if_neg (by omega)]
      exact (holdsB_len hz).2.2
    rw [if_neg k6] at hz
    by_cases k7 : z.kind = 7 ∨ z.kind = 8
    · rw [if_pos k7] at hz
      rw [if_neg (by omega), if_neg (by omega)]
      exact (holdsB_len hz).2.2
    rw [if_neg k7] at hz
    by_cases k8 : z.kind = 9
    · rw [if_pos k8] at hz
      rw [if_neg (by omega), if_neg (by omega)]
      exact (holdsB_len hz).2.2
    rw [if_neg k8] at hz
    by_cases k9 : z.kind = 10
    · rw [if_pos k9] at hz
      rw [if_neg (by omega), if_neg (by omega)]
      exact (holdsB_len hz).2.2
    rw [if_neg k9] at hz
    by_cases k10 : z.kind = 11
    · rw [if_pos k10] at hz
      rw [if_neg (by omega), if_neg (by omega)]
      exact (holdsB_len hz).2.2
    rw [if_neg k10] at hz
    by_cases k11 : z.kind = 12
    · rw [if_pos k11] at hz
      rw [if_neg (by omega), if_neg (by omega)]
      exact (holdsB_len hz).2.2
    rw [if_neg k11] at hz
    by_cases k12 : z.kind = 14
    · rw [if_pos k12] at hz
      rw [if_neg (by omega), if_neg (by omega)]
      exact (holdsB_len hz).2.2
    rw [if_neg k12] at hz
    by_cases k13 : z.kind = 15
    · rw [if_pos k13] at hz
      rw [if_pos k13]
      exact (holdsB_len hz).2.2
    rw [if_neg k13] at hz
    by_cases k14 : z.kind = 16
    · rw [if_pos k14] at hz
      rw [if_neg (by omega), if_pos k14]
      exact (holdsB_len hz).2.2
    rw [if_neg k14] at hz
    cases hz
  have h1 := key x hx
  have h2 := key y hy
  rw [hk] at h1
  omega
theorem typB_kids {x y : TypD} (hx : typB x = true) (hy : typB y = true) (hk : x.kind = y.kind) (hn : x.names = y.names) : x.kids.length = y.kids.length := by
  have key : ∀ z : TypD, typB z = true → (z.kids.length : Int) = if z.kind = 7 then 2 else if z.kind = 8 ∨ z.kind = 9 then (z.names.length : Int) else 0 := by
    intro z hz
    unfold typB at hz
    by_cases k0 : 0 ≤ z.kind ∧ z.kind ≤ 6
    · rw [if_pos k0] at hz
      rw [Bool.and_eq_true] at hz
      have h := holdsB_len hz.1
      rw [if_neg (by omega), if_neg (by omega)]
      omega
    rw [if_neg k0] at hz
    by_cases k1 : z.kind = 7
    · rw [if_pos k1] at hz
      rw [Bool.and_eq_true] at hz
      have h := holdsB_len hz.1
      rw [if_pos k1]
      omega
    rw [if_neg k1] at hz
    by_cases k2 : z.kind = 8
    · rw [if_pos k2] at hz
      rw [Bool.and_eq_true] at hz
      have h := holdsB_len hz.1
      rw [if_neg (by omega), if_pos (by omega)]
      omega
    rw [if_neg k2] at hz
    by_cases k3 : z.kind = 9
    · rw [if_pos k3] at hz
      have h := holdsB_len hz
      rw [if_neg (by omega), if_pos (by omega)]
      omega
    rw [if_neg k3] at hz
    by_cases k4 : z.kind = 10
    · rw [if_pos k4] at hz
      rw [Bool.and_eq_true] at hz
      have h := holdsB_len hz.1
      rw [if_neg (by omega), if_neg (by omega)]
      omega
    rw [if_neg k4] at hz
    cases hz
  have h1 := key x hx
  have h2 := key y hy
  rw [hk, hn] at h1
  omega

theorem typesIn_nats (t : TreeD) (i : Nat) : nats (typesIn t i) = tmT t i := by
  unfold typesIn tmT
  cases t.nodes[i]? <;> rfl

theorem rT_kids {a b : TreeD} {i j : Nat} (h : atT a b i j = true) : (tmK a i).length = (tmK b j).length := by
  unfold atT at h
  split at h
  · rename_i x y hx hy
    unfold tmK
    rw [hx, hy]
    simp only [List.length_map]
    unfold smT at h
    simp only [decide_eq_true_eq] at h
    exact h.2.2.2.2.2
  · cases h
theorem atT_types {a b : TreeD} (ha : Rng a) (hb : Rng b) {i j : Nat} (h : atT a b i j = true) : (tmT a i).length = (tmT b j).length := by
  unfold atT at h
  split at h
  · rename_i x y hx hy
    unfold tmT
    rw [hx, hy]
    simp only [List.length_map]
    unfold smT at h
    simp only [decide_eq_true_eq] at h
    exact termB_types (ha.nod i x hx).2.2 (hb.nod j y hy).2.2 h.1
  · cases h
theorem atY_kids {a b : TreeD} (ha : Rng a) (hb : Rng b) {i j : Nat} (h : atY a b i j = true) : (tyK a i).length = (tyK b j).length := by
  unfold atY at h
  split at h
  · rename_i x y hx hy
    unfold tyK
    rw [hx, hy]
    simp only [List.length_map]
    unfold smY at h
    simp only [decide_eq_true_eq] at h
    exact typB_kids (ha.typ i x hx).2 (hb.typ j y hy).2 h.1 h.2.2.2
  · cases h

theorem sameB_ref {a b : TreeD} (hA : Whole a) (hB : Whole b) :
    sameB a b = (all2 (fun x y => smA x y && same (atY a b) (tyK a) (tyK b) x.type.toNat y.type.toNat) a.aliases b.aliases && same (rT a b) (tmK a) (tmK b) (a.nodes.length - 1) (b.nodes.length - 1)) := by
  have ra := hA.rng
  have rb := hB.rng
  have na : a.nodes.length - 1 < a.nodes.length := by have := ra.one; omega
  have nb : b.nodes.length - 1 < b.nodes.length := by have := rb.one; omega
  have e1 : same (rT a b) (tmK a) (tmK b) (a.nodes.length - 1) (b.nodes.length - 1) = (all2 (atT a b) (termsL a) (termsL b) && all2 (fun i j => all2 (same (atY a b) (tyK a) (tyK b)) (tmT a i) (tmT b j)) (termsL a) (termsL b)) := by
    rw [← walk_same1 ra.dnN rb.dnN (fun i j _ _ h => rT_kids (by unfold rT at h; rw [Bool.and_eq_true] at h; exact h.1)) na nb]
    exact all2_and
  rw [e1, all2_and]
  unfold sameB
  rw [(checkF_iff a).2 hA, (checkF_iff b).2 hB]
  simp only [Bool.true_and]
  cases hP : all2 (atT a b) (termsL a) (termsL b) with
  | false => simp
  | true =>
    cases hQ : all2 smA a.aliases b.aliases with
    | false => simp
    | true =>
      have hal := all2_length hQ
      have htl := all2_length hP
      have hlen : all2 (fun i j => decide ((tmT a i).length = (tmT b j).length)) (termsL a) (termsL b) = true := all2_imp (fun i _ j _ h => by rw [decide_eq_true_eq]; exact atT_types ra rb h) hP
      have hf := all2_flat (r := same (atY a b) (tyK a) (tyK b)) htl hlen
      have eA : nats (rootsL a (termsL a)) = (termsL a).flatMap (tmT a) ++ a.aliases.map (fun x => x.type.toNat) := by
        unfold rootsL
        rw [nats_append, nats_flat, show (fun i => nats (typesIn a i)) = tmT a from funext fun i => typesIn_nats a i]
        unfold nats
        rw [List.map_map]
        rfl
      have eB : nats (rootsL b (termsL b)) = (termsL b).flatMap (tmT b) ++ b.aliases.map (fun x => x.type.toNat) := by
        unfold rootsL
        rw [nats_append, nats_flat, show (fun i => nats (typesIn b i)) = tmT b from funext fun i => typesIn_nats b i]
        unfold nats
        rw [List.map_map]
        rfl
      have hfl : ((termsL a).flatMap (tmT a)).length = ((termsL b).flatMap (tmT b)).length := by
        have h := all2_length (r := fun (_ _ : Nat) => true) (l := (termsL a).flatMap (tmT a)) (m := (termsL b).flatMap (tmT b)) (by
          rw [all2_flat htl hlen]
          refine all2_imp (fun i _ j _ h => ?_) hlen
          rw [decide_eq_true_eq] at h
          exact all2_const h)
        exact h
      have hY : all2 (atY a b) (typesL a (termsL a)) (typesL b (termsL b)) = (all2 (fun i j => all2 (same (atY a b) (tyK a) (tyK b)) (tmT a i) (tmT b j)) (termsL a) (termsL b) && all2 (fun x y => same (atY a b) (tyK a) (tyK b) x.type.toNat y.type.toNat) a.aliases b.aliases) := by
        unfold typesL
        rw [walks_same ra.dnT rb.dnT (fun i j _ _ h => atY_kids ra rb h) _ _ (fun k hk => by
          obtain ⟨z, hz, rfl⟩ := List.mem_map.1 hk
          have := rootsL_lt ra _ z hz
          omega) (fun k hk => by
          obtain ⟨z, hz, rfl⟩ := List.mem_map.1 hk
          have := rootsL_lt rb _ z hz
          omega) (by rw [eA, eB, List.length_append, List.length_append, List.length_map, List.length_map, hfl, hal]), eA, eB, all2_append hfl, hf, all2_map]
      rw [hY]
      simp only [Bool.true_and]
      exact Bool.and_comm _ _

theorem sameB_swap (a b : TreeD) : sameB a b = sameB b a := by
  unfold sameB
  have h1 : all2 (atT a b) (termsL a) (termsL b) = all2 (atT b a) (termsL b) (termsL a) := by
    rw [all2_swap]
    refine all2_congr fun j _ i _ => ?_
    unfold atT
    cases a.nodes[i]? <;> cases b.nodes[j]? <;> try rfl
    rename_i x y
    unfold smT
    rw [decide_eq_decide]
    constructor <;> (intro h; exact ⟨h.1.symm, h.2.1.symm, h.2.2.1.symm, h.2.2.2.1.symm, h.2.2.2.2.1.symm, h.2.2.2.2.2.symm⟩)
  have h2 : all2 smA a.aliases b.aliases = all2 smA b.aliases a.aliases := by
    rw [all2_swap]
    refine all2_congr fun y _ x _ => ?_
    unfold smA
    rw [decide_eq_decide]
    exact eq_comm
  have h3 : all2 (atY a b) (typesL a (termsL a)) (typesL b (termsL b)) = all2 (atY b a) (typesL b (termsL b)) (typesL a (termsL a)) := by
    rw [all2_swap]
    refine all2_congr fun j _ i _ => ?_
    unfold atY
    cases a.types[i]? <;> cases b.types[j]? <;> try rfl
    rename_i x y
    unfold smY
    rw [decide_eq_decide]
    constructor <;> (intro h; exact ⟨h.1.symm, h.2.1.symm, h.2.2.1.symm, h.2.2.2.symm⟩)
  rw [h1, h2, h3]
  cases checkF a <;> cases checkF b <;> rfl
end Go.Proofs.YtinajnkjfhbmkaaGreatDoor
