/- A function around a tree: what it says of whether it may be, its depth, its walk; plain mathematics. -/
import Derived.Test.YtinajnkjfhbmkaaDoorWalk
namespace Go.Proofs.YtinajnkjfhbmkaaDoor
open Go Go.Proofs Go.RowKit

theorem depth_congr {base base' : Nat → Nat} {kids kids' : Nat → List Nat} {n : Nat} (hd : Dn kids n) (hd' : Dn kids' n) (hb : ∀ i, i < n → base i = base' i) (hk : ∀ i, i < n → kids i = kids' i) : ∀ b i, i < b → i < n → depth base kids i = depth base' kids' i
  | 0, _, h, _ => by omega
  | b + 1, i, hb', hi => by
    rw [depth_eq hd hi, depth_eq hd' hi, hb i hi, hk i hi]
    congr 3
    refine List.map_congr_left fun k hk' => ?_
    have := hd' i hi k hk'
    exact depth_congr hd hd' hb hk b k (by omega) (by omega)
theorem walk_congr {kids kids' : Nat → List Nat} {n : Nat} (hd : Dn kids n) (hd' : Dn kids' n) (hk : ∀ i, i < n → kids i = kids' i) : ∀ b i, i < b → i < n → walk kids i = walk kids' i
  | 0, _, h, _ => by omega
  | b + 1, i, hb', hi => by
    rw [walk_eq hd hi, walk_eq hd' hi, hk i hi]
    congr 1
    refine flat_congr fun k hk' => ?_
    have := hd' i hi k hk'
    exact walk_congr hd hd' hk b k (by omega) (by omega)

/-- A function around the last term. -/
def funT (n : Nat) (name : ByteArray) : TermD := ⟨5, 0, name, 0, 0, [], [((n - 1 : Nat) : Int)], []⟩
def around (t : TreeD) (name : ByteArray) : TreeD := ⟨t.nodes ++ [funT t.nodes.length name], t.types, t.aliases⟩

theorem fun_may (n : Nat) (name : ByteArray) : termB (funT n name) = isName (tl name) := by
  unfold termB funT holdsB
  simp

theorem around_iff (t : TreeD) (name : ByteArray) (h1 : 1 ≤ t.nodes.length) (h2 : t.nodes.length ≤ 1000) : checkF (around t name) = (checkF t && isName (tl name)) := by
  rw [Bool.eq_iff_iff, Bool.and_eq_true, checkF_iff, checkF_iff]
  have hlen : (around t name).nodes.length = t.nodes.length + 1 := by simp [around]
  have hka : kidsAll (around t name) = kidsAll t ++ [((t.nodes.length - 1 : Nat) : Int)] := by simp [kidsAll, around, funT]
  have hua : usesAll (around t name) = usesAll t := by simp [usesAll, around, funT]
  have hnat : nats [((t.nodes.length - 1 : Nat) : Int)] = [t.nodes.length - 1] := by simp [nats]
  have hnew : (around t name).nodes[t.nodes.length]? = some (funT t.nodes.length name) := by simp [around]
  have hold : ∀ j x, t.nodes[j]? = some x → (around t name).nodes[j]? = some x := fun j x hx => by
    have := (List.getElem?_eq_some_iff.1 hx).1
    rw [show (around t name).nodes = t.nodes ++ [funT t.nodes.length name] from rfl, List.getElem?_append_left this]
    exact hx
  constructor
  · intro h
    have hr : Rng t := ⟨h1, fun j x hx => h.rng.nod j x (hold j x hx), h.rng.typ, h.rng.ali⟩
    have hno := h.onceN
    rw [hka, nats_append, List.nodup_append] at hno
    refine ⟨⟨hr, by have := h.big; omega, h.bigT, hno.1, by have := h.onceT; rwa [hua] at this, fun j hj => ?_, fun j hj => by have := h.allT j hj; rwa [hua] at this⟩, ?_⟩
    · have := h.allN j (by omega)
      rw [hka, nats_append, hnat] at this
      rcases List.mem_append.1 this with h3 | h3
      · exact h3
      · simp only [List.mem_singleton] at h3
        omega
    · have := (h.rng.nod _ _ hnew).2.2
      rwa [fun_may] at this
  · rintro ⟨h, hn⟩
    have hr : Rng (around t name) := by
      refine ⟨by omega, fun j x hx => ?_, h.rng.typ, h.rng.ali⟩
      by_cases hj : j < t.nodes.length
      · rw [show (around t name).nodes = t.nodes ++ [funT t.nodes.length name] from rfl, List.getElem?_append_left hj] at hx
        exact h.rng.nod j x hx
      · have hj' := (List.getElem?_eq_some_iff.1 hx).1
        obtain rfl : j = t.nodes.length := by omega
        rw [hnew] at hx
        cases hx
        refine ⟨fun k hk => ?_, fun k hk => by simp [funT] at hk, by rw [fun_may]; exact hn⟩
        simp only [funT, List.mem_singleton] at hk
        omega
    refine ⟨hr, by omega, h.bigT, ?_, by rw [hua]; exact h.onceT, fun j hj => ?_, fun j hj => by rw [hua]; exact h.allT j hj⟩
    · rw [hka, nats_append, hnat, List.nodup_append]
      refine ⟨h.onceN, by simp, fun a ha b hb => ?_⟩
      simp only [List.mem_singleton] at hb
      subst hb
      rintro rfl
      obtain ⟨k, hk, e⟩ := List.mem_map.1 ha
      obtain ⟨x, hx, hkx⟩ := List.mem_flatMap.1 hk
      obtain ⟨j, hj, rfl⟩ := List.mem_iff_getElem.1 hx
      have := (h.rng.nod j _ (List.getElem?_eq_getElem hj)).1 k hkx
      omega
    · rw [hka, nats_append, hnat]
      rcases Nat.lt_or_ge j (t.nodes.length - 1) with h3 | h3
      · exact List.mem_append_left _ (h.allN j h3)
      · exact List.mem_append_right _ (by simp; omega)

theorem around_tmK {t : TreeD} {name : ByteArray} {i : Nat} (hi : i < t.nodes.length) : tmK (around t name) i = tmK t i := by
  unfold tmK
  rw [show (around t name).nodes = t.nodes ++ [funT t.nodes.length name] from rfl, List.getElem?_append_left hi]
theorem around_dn {t : TreeD} {name : ByteArray} (h : Rng t) : Dn (tmK (around t name)) t.nodes.length := fun i hi k hk => by
  rw [around_tmK hi] at hk
  exact h.dnN i hi k hk
theorem around_dTm {t : TreeD} {name : ByteArray} (h : Rng t) {i : Nat} (hi : i < t.nodes.length) : dTm (around t name) i = dTm t i := by
  refine depth_congr (around_dn h) h.dnN (fun j hj => ?_) (fun j hj => around_tmK hj) (i + 1) i (by omega) hi
  have : tmT (around t name) j = tmT t j := by
    unfold tmT
    rw [show (around t name).nodes = t.nodes ++ [funT t.nodes.length name] from rfl, List.getElem?_append_left hj]
  rw [this]
  rfl
section
variable {t : TreeD} {name : ByteArray} (h : Rng t) (hu : Rng (around t name))
include h hu

theorem around_last : dTm (around t name) t.nodes.length = 1 + dTm t (t.nodes.length - 1) := by
  have h1 := h.one
  rw [dTm_eq hu _ (by simp [around])]
  have : (around t name).nodes[t.nodes.length]'(by simp [around]) = funT t.nodes.length name := by simp [around]
  rw [this]
  simp only [funT, List.map_cons, List.map_nil, Int.toNat_natCast]
  rw [around_dTm h (by omega)]
  simp [most]
theorem around_depth : depthP (around t name) = depthP t ∨ depthP (around t name) = depthP t + 1 := by
  unfold depthP
  have e : (around t name).nodes.length - 1 = t.nodes.length := by simp [around]
  have e2 : (around t name).aliases.map (fun a => dTy (around t name) a.type.toNat) = t.aliases.map fun a => dTy t a.type.toNat := rfl
  rw [e, e2, around_last h hu]
  omega
theorem around_walk : walk (tmK (around t name)) t.nodes.length = t.nodes.length :: walk (tmK t) (t.nodes.length - 1) := by
  have h1 := h.one
  rw [walk_eq hu.dnN (by simp [around])]
  have e : tmK (around t name) t.nodes.length = [t.nodes.length - 1] := by
    unfold tmK
    rw [show (around t name).nodes = t.nodes ++ [funT t.nodes.length name] from rfl, List.getElem?_append_right (Nat.le_refl _)]
    simp [funT]
  rw [e]
  simp only [List.flatMap_cons, List.flatMap_nil, List.append_nil]
  rw [walk_congr (around_dn h) h.dnN (fun j hj => around_tmK hj) (t.nodes.length) (t.nodes.length - 1) (by omega) (by omega)]
end
theorem around_few {t : TreeD} {name : ByteArray} (h : TreeFew t) (hn : name.size ≤ 1000) (h2 : t.nodes.length ≤ 999) : TreeFew (around t name) := by
  obtain ⟨a, b, c, d, e, f⟩ := h
  refine ⟨fun x hx => ?_, b, c, d, by simp [around]; omega, f⟩
  rcases List.mem_append.1 hx with hx | hx
  · exact a x hx
  · simp only [List.mem_singleton] at hx
    subst hx
    exact ⟨hn, by simp [funT], fun s hs => by simp [funT] at hs, by simp [funT], by simp [funT]⟩
end Go.Proofs.YtinajnkjfhbmkaaDoor
