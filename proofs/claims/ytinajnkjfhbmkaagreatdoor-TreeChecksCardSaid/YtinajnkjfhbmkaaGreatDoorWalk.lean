/- A term and all in it, as the program tells them, at every tree of parts of a bounded size. -/
import Derived.Test.YtinajnkjfhbmkaaGreatDoorAhead
import Derived.Test.YtinajnkjfhbmkaaGreatDoorMayMath
import Derived.Test.YtinajnkjfhbmkaaGreatDoorOnce
namespace Go.Proofs.YtinajnkjfhbmkaaGreatDoor
open Go Go.Proofs Go.RowKit Go.Shelf

theorem nz_tmK {t : TreeD} (h : Rng t) {i : Nat} {x : TermD} (hx : t.nodes[i]? = some x) : nz (tmK t i) = x.kids ∧ (tmK t i).length = x.kids.length := by
  unfold tmK
  rw [hx]
  refine ⟨?_, by simp⟩
  show (x.kids.map Int.toNat).map (fun k : Nat => (k : Int)) = x.kids
  rw [List.map_map]
  conv => rhs; rw [← List.map_id x.kids]
  refine List.map_congr_left fun k hk => ?_
  have := ((h.nod i x hx).1 k hk).1
  show ((k.toNat : Nat) : Int) = k
  omega
theorem nz_tyK {t : TreeD} (h : Rng t) {i : Nat} {x : TypD} (hx : t.types[i]? = some x) : nz (tyK t i) = x.kids ∧ (tyK t i).length = x.kids.length := by
  unfold tyK
  rw [hx]
  refine ⟨?_, by simp⟩
  show (x.kids.map Int.toNat).map (fun k : Nat => (k : Int)) = x.kids
  rw [List.map_map]
  conv => rhs; rw [← List.map_id x.kids]
  refine List.map_congr_left fun k hk => ?_
  have := ((h.typ i x hx).1 k hk).1
  show ((k.toNat : Nat) : Int) = k
  omega

theorem kidT_any (t : TreeD) (p : Ptr6) (B T i : Nat) (W : World) (hX : Blk W T 26 #[.slice p.a1 t.nodes.length p.c1, .slice p.a2 t.types.length p.c2, .slice p.a3 t.aliases.length p.c3]) (hN : NodesAt (Lt B) W p.a1 t.nodes) (hi : i < t.nodes.length) (hb : t.nodes.length ≤ 1000) (hr : Rng t) :
    Calls Tryz.prog 63 #[.int .i64 (i : Int), .pointer (some ⟨T, 0, none⟩)] W (KidsPost B (tmK t i) W) := by
  obtain ⟨a1, c1, a2, c2, a3, c3⟩ := p
  dsimp only at *
  obtain ⟨b, off, rfl, hbB, hcell⟩ := hN (by omega)
  have hx := List.getElem?_eq_getElem hi
  obtain ⟨q, hq, hcq⟩ := hcell i _ hx
  obtain ⟨k1, k2⟩ := nz_tmK hr hx
  have hS := hq.2.1
  rw [← k1, List.length_map] at hS
  have e6 := hcq 6 (.slice q.a6 (tmK t i).length q.c6) (by rw [k2]; rfl)
  obtain ⟨m, hm⟩ : ∃ m, (tmK t i).length = m := ⟨_, rfl⟩
  have x0 := hX.cell 0
  simp only [List.getElem?_toArray, List.getElem?_cons_zero] at x0
  unfold KidsPost
  rw [hm] at hS e6 ⊢
  have HS := Lib.hid hS
  obtain ⟨A6, hA6⟩ : ∃ A6, q.a6 = A6 := ⟨_, rfl⟩
  obtain ⟨C6, hC6⟩ : ∃ C6, q.c6 = C6 := ⟨_, rfl⟩
  rw [hA6] at e6 HS
  rw [hC6] at e6
  clear hX hN hcell hcq hq hS hx k1 k2 hr hm hA6 hC6
  go_enter Tryz.func63, Tryz.ntmps63
  go_wp2
  go_ret
  exact ⟨⟨_, _, rfl, HS.out⟩, rfl⟩

theorem kidY_any (t : TreeD) (p : Ptr6) (B T i : Nat) (W : World) (hX : Blk W T 26 #[.slice p.a1 t.nodes.length p.c1, .slice p.a2 t.types.length p.c2, .slice p.a3 t.aliases.length p.c3]) (hN : TypsAt (Lt B) W p.a2 t.types) (hi : i < t.types.length) (hb : t.types.length ≤ 1000) (hr : Rng t) :
    Calls Tryz.prog 77 #[.int .i64 (i : Int), .pointer (some ⟨T, 0, none⟩)] W (KidsPost B (tyK t i) W) := by
  obtain ⟨a1, c1, a2, c2, a3, c3⟩ := p
  dsimp only at *
  obtain ⟨b, off, rfl, hbB, hcell⟩ := hN (by omega)
  have hx := List.getElem?_eq_getElem hi
  obtain ⟨q, hq, hcq⟩ := hcell i _ hx
  obtain ⟨k1, k2⟩ := nz_tyK hr hx
  have hS := hq.2
  rw [← k1, List.length_map] at hS
  have e6 := hcq 4 (.slice q.a4 (tyK t i).length q.c4) (by rw [k2]; rfl)
  obtain ⟨m, hm⟩ : ∃ m, (tyK t i).length = m := ⟨_, rfl⟩
  have x0 := hX.cell 1
  simp only [List.getElem?_toArray, List.getElem?_cons_zero, List.getElem?_cons_succ] at x0
  unfold KidsPost
  rw [hm] at hS e6 ⊢
  have HS := Lib.hid hS
  obtain ⟨A6, hA6⟩ : ∃ A6, q.a4 = A6 := ⟨_, rfl⟩
  obtain ⟨C6, hC6⟩ : ∃ C6, q.c4 = C6 := ⟨_, rfl⟩
  rw [hA6] at e6 HS
  rw [hC6] at e6
  clear hX hN hcell hcq hq hS hx k1 k2 hr hm hA6 hC6
  go_enter Tryz.func77, Tryz.ntmps77
  go_wp2
  go_ret
  exact ⟨⟨_, _, rfl, HS.out⟩, rfl⟩

theorem mkKidT_any (t : TreeD) (p : Ptr6) (w : World) : Calls Tryz.prog 33 #[treeV t p] w fun e w' => e = .returned (.func (.func 63) #[] #[.pointer (some ⟨w.heap.size, 0, none⟩)]) ∧
    w' = w.alloc (.cells #[.slice p.a1 t.nodes.length p.c1, .slice p.a2 t.types.length p.c2, .slice p.a3 t.aliases.length p.c3] 26) := by
  go_enter Tryz.func33, Tryz.ntmps33
  go_wp2
  go_ret
  exact ⟨rfl, rfl⟩
theorem mkKidY_any (t : TreeD) (p : Ptr6) (w : World) : Calls Tryz.prog 66 #[treeV t p] w fun e w' => e = .returned (.func (.func 77) #[] #[.pointer (some ⟨w.heap.size, 0, none⟩)]) ∧
    w' = w.alloc (.cells #[.slice p.a1 t.nodes.length p.c1, .slice p.a2 t.types.length p.c2, .slice p.a3 t.aliases.length p.c3] 26) := by
  go_enter Tryz.func66, Tryz.ntmps66
  go_wp2
  go_ret
  exact ⟨rfl, rfl⟩
end Go.Proofs.YtinajnkjfhbmkaaGreatDoor

namespace Go.Proofs.YtinajnkjfhbmkaaGreatDoor
open Go Go.Proofs Go.RowKit Go.Shelf

/-- What is told of a term and all in it. -/
def walkL (t : TreeD) (root : Int) : List Int := if 0 ≤ root ∧ root < t.nodes.length ∧ checkF t = true then nz (walk (tmK t) root.toNat) else []
def WalkPost (l : List Int) (w : World) (e : Ending) (w' : World) : Prop :=
  ∃ Bs b A c, e = .returned (.func (.func 64) #[] #[.pointer (some ⟨Bs, 0, none⟩)]) ∧ Bs < w'.heap.size ∧ b < w'.heap.size ∧ w'.cell? ⟨Bs, 0, none⟩ = some (.slice A l.length c) ∧ SlAt (fun k => k = b) w' A l.length (l.map iv) ∧ Below w.heap.size w w'

theorem walkL_len (t : TreeD) (root : Int) : (walkL t root).length ≤ 65536 := by
  unfold walkL
  split
  · rename_i h
    have hW := (checkF_iff t).1 h.2.2
    rw [List.length_map]
    have := hW.walkN (i := root.toNat) (by omega)
    have := hW.big
    omega
  · simp

set_option maxRecDepth 100000 in
set_option maxHeartbeats 4000000 in
theorem walk_any (t : TreeD) (p : Ptr6) (root : Int) (w : World) (hE : Env w) (hT : TreeAt (Lt w.heap.size) w t p) (hF : TreeFew t) :
    Calls Tryz.prog 11 #[treeV t p, .int .i64 root] w (WalkPost (walkL t root) w) := by
  have hn : t.nodes.length ≤ 1000 := hF.2.2.2.2.1
  obtain ⟨W1, hW1⟩ : ∃ W1, w.alloc (.cells #[.slice p.a1 t.nodes.length p.c1, .slice p.a2 t.types.length p.c2, .slice p.a3 t.aliases.length p.c3] 26) = W1 := ⟨_, rfl⟩
  have hB1 : Below w.heap.size w W1 := by rw [← hW1]; exact (Below.refl _ _).alloc (Nat.le_refl _) _
  have hX : Blk W1 w.heap.size 26 #[.slice p.a1 t.nodes.length p.c1, .slice p.a2 t.types.length p.c2, .slice p.a3 t.aliases.length p.c3] := by rw [← hW1]; exact Blk.new w 26 _
  have hT1 : TreeAt (Lt W1.heap.size) W1 t p := (hT.keep (keep_below hB1)).imp (lt_mono hB1.size)
  have kC := check_any t p W1 (hE.on hB1) hT1 hF
  have x0 := hX.cell 0
  have x1 := hX.cell 1
  have x2 := hX.cell 2
  simp only [List.getElem?_toArray, List.getElem?_cons_zero, List.getElem?_cons_succ] at x0 x1 x2
  have HX := Lib.hid hX
  have HT := Lib.hid hT1
  have hXl := hX.lt
  obtain ⟨l, hl⟩ : ∃ l, walkL t root = l := ⟨_, rfl⟩
  rw [hl]
  have HL := Lib.hid hl
  have hF2 := Lib.hid hF
  clear hX hT1 hT hl hF
  by_cases hr : 0 ≤ root ∧ root < t.nodes.length
  · obtain ⟨h1, h2⟩ := hr
    by_cases hc : checkF t = true
    · rw [if_pos hc] at kC
      have hWh := (checkF_iff t).1 hc
      have hll : l = nz (walk (tmK t) root.toNat) := by rw [← HL.out]; unfold walkL; rw [if_pos ⟨h1, h2, hc⟩]
      obtain ⟨r, hr⟩ : ∃ r : Nat, root = (r : Int) := ⟨root.toNat, by omega⟩
      subst hr
      rw [Int.toNat_natCast] at hll
      have hrn : r < t.nodes.length := by omega
      obtain ⟨L, hLw⟩ : ∃ L, walk (tmK t) r = L := ⟨_, rfl⟩
      have hLn : L.length ≤ 65536 := by rw [← hLw]; have := hWh.walkN hrn; omega
      rw [hLw] at hll
      subst hll
      have HWh := Lib.hid hWh
      have HLW := Lib.hid hLw
      clear hc hWh hLw HL
      go_enter Tryz.func11, Tryz.ntmps11
      go_wp2_with fail
      refine kC.mono ?_
      rintro e w2 ⟨rfl, hb2⟩
      have hz2 := hb2.size
      have hX2 := HX.out.below hb2 hXl
      have hT2 : TreeAt (Lt w2.heap.size) w2 t p := (HT.out.keep (keep_below hb2)).imp (lt_mono hb2.size)
      have y0 := hX2.cell 0
      have y1 := hX2.cell 1
      have y2 := hX2.cell 2
      simp only [List.getElem?_toArray, List.getElem?_cons_zero, List.getElem?_cons_succ] at y0 y1 y2
      have hBw2 : Below w.heap.size w w2 := hB1.trans (hb2.mono (by omega))
      have kM := mkKidT_any t p w2
      obtain ⟨W3, hW3⟩ : ∃ W3, w2.alloc (.cells #[.slice p.a1 t.nodes.length p.c1, .slice p.a2 t.types.length p.c2, .slice p.a3 t.aliases.length p.c3] 26) = W3 := ⟨_, rfl⟩
      rw [hW3] at kM
      have hB3 : Below w2.heap.size w2 W3 := by rw [← hW3]; exact (Below.refl _ _).alloc (Nat.le_refl _) _
      have hX3 : Blk W3 w2.heap.size 26 #[.slice p.a1 t.nodes.length p.c1, .slice p.a2 t.types.length p.c2, .slice p.a3 t.aliases.length p.c3] := by rw [← hW3]; exact Blk.new w2 26 _
      have hT3 : TreeAt (Lt W3.heap.size) W3 t p := (hT2.keep (keep_below hB3)).imp (lt_mono hB3.size)
      have hz3 := hX3.lt
      have kA := ahead_any 63 (.inl rfl) (.pointer (some ⟨w2.heap.size, 0, none⟩)) (tmK t) t.nodes.length r W3 HWh.out.rng.dnN hrn L HLW.out hLn (by omega) (fun i W hi hW => by
        exact kidT_any t p W3.heap.size w2.heap.size i W (hX3.below hW hz3) (hT3.1.keep (keep_below hW)) hi hn HWh.out.rng)
      have hBw3 : Below w.heap.size w W3 := hBw2.trans (hB3.mono (by omega))
      clear kC x0 x1 x2 hX2 hT2 hW3 hB3 hX3 hT3 hb2
      go_wp2_with fail
      refine kM.mono ?_
      rintro e W4 ⟨rfl, rfl⟩
      clear kM
      go_wp2_with fail
      refine kA.mono ?_
      rintro e w4 ⟨A, c, rfl, hS, hb4⟩
      have kV := mkValues_any A L.length c w4
      have hz4 := hb4.size
      have hBw4 : Below w.heap.size w w4 := hBw3.trans (hb4.mono (by omega))
      obtain ⟨b, hb, hSb⟩ := (SlAt.imp (Qb := Lt w4.heap.size) hS fun b hb => hb.2).named (by omega)
      have HSb := Lib.hid hSb
      have hb5 : Below w4.heap.size w4 (w4.alloc (.cells #[.slice A L.length c] 32)) := (Below.refl _ _).alloc (Nat.le_refl _) _
      have hX5 : Blk (w4.alloc (.cells #[.slice A L.length c] 32)) w4.heap.size 32 #[.slice A L.length c] := Blk.new _ _ _
      have HB5 := Lib.hid hb5
      have HX5 := Lib.hid hX5
      clear kA hS hSb hb4 hb5 hX5
      go_wp2_with fail
      refine kV.mono ?_
      rintro e w5 ⟨rfl, rfl⟩
      clear kV
      go_wp2
      go_ret
      have hll : (nz L).length = L.length := List.length_map _
      refine ⟨w4.heap.size, b, A, c, rfl, by simp, by simp; omega, ?_, ?_, hBw4.trans (HB5.out.mono (by omega))⟩
      · rw [hll]; exact (HX5.out.cell 0).trans rfl
      · rw [hll]; exact HSb.out.block (HB5.out.block b (by omega))
    · rw [if_neg hc] at kC
      have hll : l = [] := by rw [← HL.out]; unfold walkL; rw [if_neg (fun h => hc h.2.2)]
      subst hll
      obtain ⟨r, hr⟩ : ∃ r : Nat, root = (r : Int) := ⟨root.toNat, by omega⟩
      subst hr
      have hrn : r < t.nodes.length := by omega
      clear hc HL
      go_enter Tryz.func11, Tryz.ntmps11
      go_wp2_with fail
      refine kC.mono ?_
      rintro e w2 ⟨rfl, hb2⟩
      have kV := mkValues_any none 0 0 w2
      have hBw2 : Below w.heap.size w w2 := hB1.trans (hb2.mono (by omega))
      have hz2 := hBw2.size
      have hz1 := hb2.size
      have HB5 := Lib.hid (show Below w2.heap.size w2 (w2.alloc (.cells #[.slice none 0 0] 32)) from (Below.refl _ _).alloc (Nat.le_refl _) _)
      have HX5 := Lib.hid (Blk.new w2 32 #[.slice none 0 0])
      clear kC x0 x1 x2
      go_wp2_with fail
      refine kV.mono ?_
      rintro e w5 ⟨rfl, rfl⟩
      clear kV
      go_wp2
      go_ret
      exact ⟨w2.heap.size, 0, none, 0, rfl, by simp, by simp, (HX5.out.cell 0).trans rfl, SlAt.nil, hBw2.trans (HB5.out.mono hz2)⟩
  · have hll : l = [] := by rw [← HL.out]; unfold walkL; rw [if_neg (fun h => hr ⟨h.1, h.2.1⟩)]
    subst hll
    have kV := mkValues_any none 0 0 W1
    have hz1 := hB1.size
    have HB5 := Lib.hid (show Below W1.heap.size W1 (W1.alloc (.cells #[.slice none 0 0] 32)) from (Below.refl _ _).alloc (Nat.le_refl _) _)
    have HX5 := Lib.hid (Blk.new W1 32 #[.slice none 0 0])
    clear HL kC
    by_cases h1 : 0 ≤ root
    · have h2 : (t.nodes.length : Int) ≤ root := by omega
      clear hr
      go_enter Tryz.func11, Tryz.ntmps11
      go_wp2_with fail
      refine kV.mono ?_
      rintro e w5 ⟨rfl, rfl⟩
      clear kV
      go_wp2
      go_ret
      exact ⟨W1.heap.size, 0, none, 0, rfl, by simp, by simp, (HX5.out.cell 0).trans rfl, SlAt.nil, hB1.trans (HB5.out.mono hz1)⟩
    · clear hr
      go_enter Tryz.func11, Tryz.ntmps11
      go_wp2_with fail
      refine kV.mono ?_
      rintro e w5 ⟨rfl, rfl⟩
      clear kV
      go_wp2
      go_ret
      exact ⟨W1.heap.size, 0, none, 0, rfl, by simp, by simp, (HX5.out.cell 0).trans rfl, SlAt.nil, hB1.trans (HB5.out.mono hz1)⟩
end Go.Proofs.YtinajnkjfhbmkaaGreatDoor
