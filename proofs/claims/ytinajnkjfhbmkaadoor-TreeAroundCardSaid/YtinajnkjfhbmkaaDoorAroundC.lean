/- What the call has laid of a tree with a function around it, read as a tree. -/
import Derived.Test.YtinajnkjfhbmkaaDoorAroundB
namespace Go.Proofs.YtinajnkjfhbmkaaDoor
open Go Go.Proofs Go.RowKit

theorem LaidU.tree {t : TreeD} {p : Ptr6} {name : ByteArray} {w3 W : World} {Bu : Nat} {pu : Ptr6} (h : LaidU t p name w3 Bu pu W) (hT : TreeAt (Lt w3.heap.size) w3 t p) : TreeAt (Lt W.heap.size) W (around t name) ⟨pu.a1, pu.c1, p.a2, p.c2, p.a3, p.c3⟩ := by
  obtain ⟨r, gk, hr, hok, hown, hk⟩ := h.own
  have hT' := tree_on hT h.below
  refine ⟨fun hl => ?_, hT'.2.1, hT'.2.2⟩
  have hrl : r.length = t.nodes.length := by rw [← hr, List.length_map]
  have hlen : (r ++ [(funT t.nodes.length name, (⟨none, 0, some ⟨gk, 0, none⟩, 1, none, 0⟩ : Ptr3))]).length = t.nodes.length + 1 := by simp [hrl]
  obtain ⟨g, hA, hb, hg, hc⟩ := own_at (fun x : TermD × Ptr3 => termCells x.1 x.2) 8 (by decide) (fun a => rfl) hlen hown (by omega)
  refine ⟨g, 0, hA, hg, fun i x hx => ?_⟩
  have hxm : (around t name).nodes = (r ++ [(funT t.nodes.length name, (⟨none, 0, some ⟨gk, 0, none⟩, 1, none, 0⟩ : Ptr3))]).map (·.1) := by
    rw [List.map_append, hr]; rfl
  rw [hxm] at hx
  simp only [List.getElem?_map, Option.map_eq_some_iff] at hx
  obtain ⟨y, hy, rfl⟩ := hx
  refine ⟨y.2, ?_, hc i y hy⟩
  rcases List.mem_append.1 (List.mem_of_getElem? hy) with hm | hm
  · exact ((hok y hm).keep (keep_below h.below)).imp (lt_mono h.below.size)
  · simp only [List.mem_singleton] at hm
    subst hm
    refine ⟨SlAt.nil, ⟨rfl, fun _ => ⟨gk, 0, rfl, hk.lt, fun j u hu => ?_⟩⟩, SlAt.nil⟩
    rw [hk.cell, Nat.zero_add]
    simpa [funT] using hu

theorem LaidU.end {t : TreeD} {p : Ptr6} {name : ByteArray} {w3 W : World} {Bu : Nat} {A : Option Addr} {c gk : Nat} {r : List (TermD × Ptr3)} {a b d : Value} (hr : r.map (·.1) = t.nodes) (hok : ∀ x ∈ r, TermOk (Lt w3.heap.size) w3 x.1 x.2)
    (hown : W.ownsRow w3.heap.size 33 8 (.slice A (t.nodes.length + 1) c) (t.nodes.length + 1) (tmCells (r ++ [(funT t.nodes.length name, ⟨none, 0, some ⟨gk, 0, none⟩, 1, none, 0⟩)]))) (hk : Blk W gk 3 #[.int .i64 ((t.nodes.length - 1 : Nat) : Int)]) (hb : Below w3.heap.size w3 W)
    (hX : Blk W Bu 26 #[a, b, d]) (hn : w3.heap.size ≤ Bu) :
    LaidU t p name w3 Bu ⟨A, c, p.a2, p.c2, p.a3, p.c3⟩ (((W.setCell ⟨Bu, 0, none⟩ (.slice A (t.nodes.length + 1) c)).setCell ⟨Bu, 1, none⟩ (.slice p.a2 t.types.length p.c2)).setCell ⟨Bu, 2, none⟩ (.slice p.a3 t.aliases.length p.c3)) := by
  have hne : gk ≠ Bu := fun e => by
    subst e
    have := hk.symm.trans hX
    simp at this
  have hon : ∀ (V : World) (o : Nat) (v : Value), V.grownBy (V.setCell ⟨Bu, o, none⟩ v) (some Bu) := fun V o v => only_setCell (only_refl V (some Bu)) (.inl rfl) v
  have hno : (Value.slice A (t.nodes.length + 1) c).ownBlock ≠ some Bu := own_blk_ne hown hX (by decide)
  refine ⟨?_, ⟨r, gk, hr, hok, ?_, ?_⟩, ?_, hn⟩
  · have := ((hX.set_ 0 (.slice A (t.nodes.length + 1) c)).set_ 1 (.slice p.a2 t.types.length p.c2)).set_ 2 (.slice p.a3 t.aliases.length p.c3)
    exact this
  · exact ((hown.kept (hon _ 0 _) (.inr hno)).kept (hon _ 1 _) (.inr hno)).kept (hon _ 2 _) (.inr hno)
  · exact ((hk.far (p := ⟨Bu, 0, none⟩) hne _).far (p := ⟨Bu, 1, none⟩) hne _).far (p := ⟨Bu, 2, none⟩) hne _
  · exact ((hb.setCell (p := ⟨Bu, 0, none⟩) hn _).setCell (p := ⟨Bu, 1, none⟩) hn _).setCell (p := ⟨Bu, 2, none⟩) hn _
end Go.Proofs.YtinajnkjfhbmkaaDoor
