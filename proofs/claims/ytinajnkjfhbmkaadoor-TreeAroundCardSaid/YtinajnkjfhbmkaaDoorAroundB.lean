/- A tree with a function around it, laid into new memory: the laws for its statement. -/
import Derived.Test.YtinajnkjfhbmkaaDoorAroundA
import Derived.Deep.RegionHeld3
import Derived.Deep.RegionLaw
import Derived.Deep.Cut
namespace Go.Proofs.YtinajnkjfhbmkaaDoor
open Go Go.Proofs Go.RowKit

theorem below_al {a w : World} (h : Below a.heap.size a w) (o : Obj) : Below a.heap.size a (w.alloc o) := h.alloc h.size o
theorem below_gr {a w w' : World} {row : Option Nat} (h : Below a.heap.size a w) (hg : w.grownBy w' row) (hr : ∀ g, row = some g → a.heap.size ≤ g) : Below a.heap.size a w' := h.grown hg h.size hr
theorem Blk.new' (w : World) (t : TypeId) (cs : Array Value) (g : Nat) (h : g = w.heap.size) : Blk (w.alloc (.cells cs t)) g t cs := h ▸ Blk.new w t cs
theorem blk_gr {w w' : World} {g : Nat} {t : TypeId} {cs : Array Value} {row : Option Nat} (h : Blk w g t cs) (hb : w.grownBy w' row) (hg : row ≠ some g) : Blk w' g t cs := h.grown hb (fun e => hg e.symm)

/-- The terms of a tree as a row of cells. -/
theorem nodes_rd {Pb : Nat → Prop} {w : World} {A : Option Addr} {ts : List TermD} (h : NodesAt Pb w A ts) : ∃ r : List (TermD × Ptr3), r.map (·.1) = ts ∧ RdAt w A (tmCells r) ∧ (∀ x ∈ r, TermOk Pb w x.1 x.2) ∧ (r = [] ∨ ∃ b off, A = some ⟨b, off, none⟩ ∧ Pb b) := by
  rcases Nat.eq_zero_or_pos ts.length with h0 | h0
  · have : ts = [] := List.eq_nil_of_length_eq_zero h0
    subst this
    exact ⟨[], rfl, .inl rfl, fun x hx => by simp at hx, .inl rfl⟩
  · obtain ⟨b, off, rfl, hb, hc⟩ := h h0
    have key : ∀ k, k ≤ ts.length → ∃ r : List (TermD × Ptr3), r.map (·.1) = ts.take k ∧ (∀ i x, r[i]? = some x → ∀ j u, (termCells x.1 x.2)[j]? = some u → w.cell? ⟨b, off + i * 8 + j, none⟩ = some u) ∧ ∀ x ∈ r, TermOk Pb w x.1 x.2 := by
      intro k
      induction k with
      | zero => exact fun _ => ⟨[], rfl, fun i x hx => by simp at hx, fun x hx => by simp at hx⟩
      | succ k ih =>
        intro hk
        obtain ⟨r, h1, h2, h3⟩ := ih (by omega)
        have hkl : k < ts.length := by omega
        obtain ⟨q, hq, hcq⟩ := hc k _ (List.getElem?_eq_getElem hkl)
        have hrl : r.length = k := by have := congrArg List.length h1; simp at this; omega
        refine ⟨r ++ [(ts[k], q)], by rw [List.map_append, h1, List.take_succ_eq_append_getElem hkl]; rfl, fun i x hx => ?_, fun x hx => ?_⟩
        · by_cases hi : i < r.length
          · rw [List.getElem?_append_left hi] at hx
            exact h2 i x hx
          · have hi2 := (List.getElem?_eq_some_iff.1 hx).1
            simp only [List.length_append, List.length_singleton] at hi2
            obtain rfl : i = k := by omega
            rw [List.getElem?_append_right (by omega), hrl, Nat.sub_self] at hx
            simp only [List.getElem?_cons_zero, Option.some.injEq] at hx
            subst hx
            exact hcq
        · rcases List.mem_append.1 hx with hx | hx
          · exact h3 x hx
          · simp only [List.mem_singleton] at hx
            subst hx
            exact hq
    obtain ⟨r, h1, h2, h3⟩ := key ts.length (Nat.le_refl _)
    rw [List.take_length] at h1
    refine ⟨r, h1, .inr ⟨b, off, rfl, fun j u hu => ?_⟩, h3, .inr ⟨b, off, rfl, hb⟩⟩
    have hj := (List.getElem?_eq_some_iff.1 hu).1
    rw [flat_len (fun x : TermD × Ptr3 => termCells x.1 x.2) 8 (fun a => rfl)] at hj
    have hi : j / 8 < r.length := by omega
    have hg := flat_get (fun x : TermD × Ptr3 => termCells x.1 x.2) 8 (fun a => rfl) r (j / 8) r[j / 8] (j % 8) (List.getElem?_eq_getElem hi) (by omega)
    rw [show j / 8 * 8 + j % 8 = j by omega] at hg
    have hu' : (termCells r[j / 8].1 r[j / 8].2)[j % 8]? = some u := hg.symm.trans hu
    have := h2 (j / 8) _ (List.getElem?_eq_getElem hi) (j % 8) u hu'
    rw [show off + j / 8 * 8 + j % 8 = off + j by omega] at this
    exact this
theorem rd_on {B : Nat} {w W : World} {A : Option Addr} {r : List (TermD × Ptr3)} (h : RdAt w A (tmCells r)) (hA : r = [] ∨ ∃ b off, A = some ⟨b, off, none⟩ ∧ b < B) (hb : Below B w W) : RdAt W A (tmCells r) := by
  rcases hA with rfl | ⟨b, off, rfl, hlt⟩
  · exact .inl rfl
  · rcases h with h | ⟨b', off', e, h⟩
    · exact .inl h
    · injection e with e
      injection e with e1 e2
      subst e1 e2
      exact .inr ⟨b, off, rfl, fun j u hu => (hb.cell (p := ⟨b, off + j, none⟩) hlt).trans (h j u hu)⟩

theorem cells_one (r : List (TermD × Ptr3)) : ∀ u ∈ tmCells r, u.oneCell' = true := fun u hu => by
  obtain ⟨a, _, ha⟩ := List.mem_flatMap.1 hu
  simp only [termCells, List.mem_cons, List.not_mem_nil, or_false] at ha
  rcases ha with rfl | rfl | rfl | rfl | rfl | rfl | rfl | rfl <;> rfl

section
variable {w w3 : World} {ops : Array Oper} {o : Oper} {a : Act} {K : Act → World → Prop} {Q : Exit → Act → World → Prop} {E : Prop}
/-- The tree's terms onto a row of none. -/
theorem step_first (hgd : o.guard = none) (s x : Operand) (ho : o.op = .call { callee := .builtin .append, args := #[s, x], argTypes := #[22, 22] }) (g n c : Nat) (A : Option Addr) (r : List (TermD × Ptr3))
    (hs : a.eval s = .slice (some ⟨g, 0, none⟩) 0 0) (hx : a.eval x = .slice A n c) (hb : Blk w g 33 #[]) (hg : w3.heap.size ≤ g) (hr : r.length = n) (hn : n ≤ 1000) (hrd : RdAt w A (tmCells r)) (hz : w3.heap.size ≤ w.heap.size)
    (h : ∀ v' w', w'.ownsRow w3.heap.size 33 8 v' n (tmCells r) → w.grownBy w' (some g) → K (a.put o.dst v') w') : if Region.wanted o (yielded ops a.tmps) = true then Oper.wp Tryd.prog o a w K Q else E := by
  obtain ⟨i0, hi, hz0, hz1, hz2⟩ := info_parts info33
  refine step_app w hgd s x 22 ho w3.heap.size 33 i0 _ 8 120 Tryd.underlying22 hi hz0 hz1 hz2 rfl (by decide) _ 0 [] hs ⟨rfl, .inr ⟨g, 0, #[], rfl, hg, hb, Nat.le_refl _, by decide, rfl, rfl⟩⟩ A n c (tmCells r) hx ?_ hrd (cells_one r) (by unfold maxLen; omega) (by omega) hz fun v' w' h1 h2 _ => h v' w' (by simpa using h1) h2
  rw [flat_len (fun x : TermD × Ptr3 => termCells x.1 x.2) 8 (fun a => rfl), hr]
/-- One term more; the block of its kids, and the box that waits for the tree, stay. -/
theorem step_second (hgd : o.guard = none) (s x : Operand) (ho : o.op = .call { callee := .builtin .append, args := #[s, x], argTypes := #[22, 22] }) (g n c gk : Nat) (v : Value) (r : List (TermD × Ptr3)) (y : TermD) (ks : Array Value)
    (hs : a.eval s = v) (hx : a.eval x = .slice (some ⟨g, 0, none⟩) 1 c) (hb : Blk w g 33 (termCells y ⟨none, 0, some ⟨gk, 0, none⟩, 1, none, 0⟩).toArray) (hown : w.ownsRow w3.heap.size 33 8 v n (tmCells r)) (hn : n ≤ 1000) (hz : w3.heap.size ≤ w.heap.size)
    (hk : Blk w gk 3 ks) (h6 : a.eval (.tmp 6) = undef ∨ ∃ u, a.eval (.tmp 6) = .pointer (some ⟨u, 0, none⟩) ∧ Blk w u 26 #[.slice none 0 0, .slice none 0 0, .slice none 0 0])
    (h : ∀ A' c' w', w'.ownsRow w3.heap.size 33 8 (.slice A' (n + 1) c') (n + 1) (tmCells (r ++ [(y, ⟨none, 0, some ⟨gk, 0, none⟩, 1, none, 0⟩)])) → Below w3.heap.size w w' → Blk w' gk 3 ks → (∀ u, a.eval (.tmp 6) = .pointer (some ⟨u, 0, none⟩) → Blk w' u 26 #[.slice none 0 0, .slice none 0 0, .slice none 0 0]) → K (a.put o.dst (.slice A' (n + 1) c')) w') :
    if Region.wanted o (yielded ops a.tmps) = true then Oper.wp Tryd.prog o a w K Q else E := by
  obtain ⟨i0, hi, hz0, hz1, hz2⟩ := info_parts info33
  have e : tmCells (r ++ [(y, ⟨none, 0, some ⟨gk, 0, none⟩, 1, none, 0⟩)]) = tmCells r ++ termCells y ⟨none, 0, some ⟨gk, 0, none⟩, 1, none, 0⟩ := by simp [tmCells]
  refine step_app w hgd s x 22 ho w3.heap.size 33 i0 _ 8 120 Tryd.underlying22 hi hz0 hz1 hz2 rfl (by decide) v n (tmCells r) hs hown (some ⟨g, 0, none⟩) 1 c (termCells y ⟨none, 0, some ⟨gk, 0, none⟩, 1, none, 0⟩) hx rfl (.inr ⟨g, 0, rfl, fun j u hu => ?_⟩) ?_ (by unfold maxLen; omega) (by omega) hz fun v' w' h1 h2 _ => ?_
  · rw [hb.cell, Nat.zero_add]
    simpa using hu
  · have := cells_one [(y, ⟨none, 0, some ⟨gk, 0, none⟩, 1, none, 0⟩)]
    simpa [tmCells] using this
  · obtain ⟨A', c', rfl⟩ := own_form h1
    refine h A' c' w' (by rw [e]; exact h1) ((Below.refl _ w).grown h2 hz (own_base hown)) (blk_gr hk h2 (own_blk_ne hown hk (by decide))) fun u hu => ?_
    rcases h6 with h6 | ⟨u', h6, hbu⟩
    · rw [h6] at hu; cases hu
    · rw [h6] at hu
      cases hu
      exact blk_gr hbu h2 (own_blk_ne hown hbu (by decide))

/-- What the call has laid of a tree with a function around it. -/
structure LaidU (t : TreeD) (p : Ptr6) (name : ByteArray) (w3 : World) (Bu : Nat) (pu : Ptr6) (W : World) : Prop where
  blk : Blk W Bu 26 #[.slice pu.a1 (t.nodes.length + 1) pu.c1, .slice p.a2 t.types.length p.c2, .slice p.a3 t.aliases.length p.c3]
  own : ∃ r gk, r.map (·.1) = t.nodes ∧ (∀ x ∈ r, TermOk (Lt w3.heap.size) w3 x.1 x.2) ∧ W.ownsRow w3.heap.size 33 8 (.slice pu.a1 (t.nodes.length + 1) pu.c1) (t.nodes.length + 1) (tmCells (r ++ [(funT t.nodes.length name, ⟨none, 0, some ⟨gk, 0, none⟩, 1, none, 0⟩)])) ∧ Blk W gk 3 #[.int .i64 ((t.nodes.length - 1 : Nat) : Int)]
  below : Below w3.heap.size w3 W
  new : w3.heap.size ≤ Bu
end
end Go.Proofs.YtinajnkjfhbmkaaDoor
