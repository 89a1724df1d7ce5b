/- A term and all in it, as the program's Walk tells them: at every tree of parts of a bounded size. -/
import Derived.Test.YtinajnkjfhbmkaaDoorAhead
import Derived.Test.YtinajnkjfhbmkaaDoorMayMath
namespace Go.Proofs.YtinajnkjfhbmkaaDoor
open Go Go.Proofs Go.RowKit Go.Shelf

theorem nz_tmK {t : TreeD} (h : Rng t) {i : Nat} {x : TermD} (hx : t.nodes[i]? = some x) : nz (tmK t i) = x.kids ∧ (tmK t i).length = x.kids.length := by
  unfold tmK
  rw [hx]
  refine ⟨?_, by simp⟩
  show (x.kids.map Int.toNat).map (fun k : Nat => (k : Int)) = x.kids
  rw [List.map_map]
  conv => rhs; rw [← List.map_id x.kids]
  refine List.map_congr_left fun k hk => ?_
  have := ((h.nod i x hx).1 k hk).1
  show ((k.toNat : Nat) : Int) = k
  omega
theorem nz_tyK {t : TreeD} (h : Rng t) {i : Nat} {x : TypD} (hx : t.types[i]? = some x) : nz (tyK t i) = x.kids ∧ (tyK t i).length = x.kids.length := by
  unfold tyK
  rw [hx]
  refine ⟨?_, by simp⟩
  show (x.kids.map Int.toNat).map (fun k : Nat => (k : Int)) = x.kids
  rw [List.map_map]
  conv => rhs; rw [← List.map_id x.kids]
  refine List.map_congr_left fun k hk => ?_
  have := ((h.typ i x hx).1 k hk).1
  show ((k.toNat : Nat) : Int) = k
  omega

theorem kidT_any (t : TreeD) (p : Ptr6) (B T i : Nat) (W : World) (hX : Blk W T 26 #[.slice p.a1 t.nodes.length p.c1, .slice p.a2 t.types.length p.c2, .slice p.a3 t.aliases.length p.c3]) (hN : NodesAt (Lt B) W p.a1 t.nodes) (hi : i < t.nodes.length) (hb : t.nodes.length ≤ 1000) (hr : Rng t) :
    Calls Tryd.prog 48 #[.int .i64 (i : Int), .pointer (some ⟨T, 0, none⟩)] W (KidsPost B (tmK t i) W) := by
  obtain ⟨a1, c1, a2, c2, a3, c3⟩ := p
  dsimp only at *
  obtain ⟨b, off, rfl, hbB, hcell⟩ := hN (by omega)
  have hx := List.getElem?_eq_getElem hi
  obtain ⟨q, hq, hcq⟩ := hcell i _ hx
  obtain ⟨k1, k2⟩ := nz_tmK hr hx
  have hS := hq.2.1
  rw [← k1, List.length_map] at hS
  have e6 := hcq 6 (.slice q.a6 (tmK t i).length q.c6) (by rw [k2]; rfl)
  obtain ⟨m, hm⟩ : ∃ m, (tmK t i).length = m := ⟨_, rfl⟩
  have x0 := hX.cell 0
  simp only [List.getElem?_toArray, List.getElem?_cons_zero] at x0
  unfold KidsPost
  rw [hm] at hS e6 ⊢
  have HS := Lib.hid hS
  obtain ⟨A6, hA6⟩ : ∃ A6, q.a6 = A6 := ⟨_, rfl⟩
  obtain ⟨C6, hC6⟩ : ∃ C6, q.c6 = C6 := ⟨_, rfl⟩
  rw [hA6] at e6 HS
  rw [hC6] at e6
  clear hX hN hcell hcq hq hS hx k1 k2 hr hm hA6 hC6
  go_enter Tryd.func48, Tryd.ntmps48
  go_wp2
  go_ret
  exact ⟨⟨_, _, rfl, HS.out⟩, rfl⟩

theorem kidY_any (t : TreeD) (p : Ptr6) (B T i : Nat) (W : World) (hX : Blk W T 26 #[.slice p.a1 t.nodes.length p.c1, .slice p.a2 t.types.length p.c2, .slice p.a3 t.aliases.length p.c3]) (hN : TypsAt (Lt B) W p.a2 t.types) (hi : i < t.types.length) (hb : t.types.length ≤ 1000) (hr : Rng t) :
    Calls Tryd.prog 60 #[.int .i64 (i : Int), .pointer (some ⟨T, 0, none⟩)] W (KidsPost B (tyK t i) W) := by
  obtain ⟨a1, c1, a2, c2, a3, c3⟩ := p
  dsimp only at *
  obtain ⟨b, off, rfl, hbB, hcell⟩ := hN (by omega)
  have hx := List.getElem?_eq_getElem hi
  obtain ⟨q, hq, hcq⟩ := hcell i _ hx
  obtain ⟨k1, k2⟩ := nz_tyK hr hx
  have hS := hq.2
  rw [← k1, List.length_map] at hS
  have e6 := hcq 4 (.slice q.a4 (tyK t i).length q.c4) (by rw [k2]; rfl)
  obtain ⟨m, hm⟩ : ∃ m, (tyK t i).length = m := ⟨_, rfl⟩
  have x0 := hX.cell 1
  simp only [List.getElem?_toArray, List.getElem?_cons_zero, List.getElem?_cons_succ] at x0
  unfold KidsPost
  rw [hm] at hS e6 ⊢
  have HS := Lib.hid hS
  obtain ⟨A6, hA6⟩ : ∃ A6, q.a4 = A6 := ⟨_, rfl⟩
  obtain ⟨C6, hC6⟩ : ∃ C6, q.c4 = C6 := ⟨_, rfl⟩
  rw [hA6] at e6 HS
  rw [hC6] at e6
  clear hX hN hcell hcq hq hS hx k1 k2 hr hm hA6 hC6
  go_enter Tryd.func60, Tryd.ntmps60
  go_wp2
  go_ret
  exact ⟨⟨_, _, rfl, HS.out⟩, rfl⟩

theorem mkKidT_any (t : TreeD) (p : Ptr6) (w : World) : Calls Tryd.prog 29 #[treeV t p] w fun e w' => e = .returned (.func (.func 48) #[] #[.pointer (some ⟨w.heap.size, 0, none⟩)]) ∧
    w' = w.alloc (.cells #[.slice p.a1 t.nodes.length p.c1, .slice p.a2 t.types.length p.c2, .slice p.a3 t.aliases.length p.c3] 26) := by
  go_enter Tryd.func29, Tryd.ntmps29
  go_wp2
  go_ret
  exact ⟨rfl, rfl⟩
theorem mkKidY_any (t : TreeD) (p : Ptr6) (w : World) : Calls Tryd.prog 54 #[treeV t p] w fun e w' => e = .returned (.func (.func 60) #[] #[.pointer (some ⟨w.heap.size, 0, none⟩)]) ∧
    w' = w.alloc (.cells #[.slice p.a1 t.nodes.length p.c1, .slice p.a2 t.types.length p.c2, .slice p.a3 t.aliases.length p.c3] 26) := by
  go_enter Tryd.func54, Tryd.ntmps54
  go_wp2
  go_ret
  exact ⟨rfl, rfl⟩
end Go.Proofs.YtinajnkjfhbmkaaDoor
