/- TreeSame returns true at every two trees and every number. -/
import Derived.Test.YtinajnkjfhbmkaaGreatDoorDepth
import Derived.Test.YtinajnkjfhbmkaaGreatDoorBuilder
import Derived.Test.YtinajnkjfhbmkaaGreatDoorRefSm
import Derived.Test.YtinajnkjfhbmkaaGreatDoorCloneW
import Derived.Test.YtinajnkjfhbmkaaGreatDoorFew
namespace Go.Proofs.YtinajnkjfhbmkaaGreatDoor
open Go Go.Proofs Go.RowKit

def tm0 : TermD := ⟨0, 0, ⟨#[120]⟩, 0, 0, [], [], []⟩
def tm1 : TermD := ⟨5, 0, ⟨#[120]⟩, 0, 0, [], [0], []⟩
def tree2 : TreeD := ⟨[tm0, tm1], [], []⟩
theorem tree2_may : checkF tree2 = true := by decide +kernel
theorem tree2_depth : depthP tree2 = 2 := by decide +kernel
theorem tree2_few : TreeFew tree2 := by
  refine ⟨fun x hx => ?_, fun x hx => by simp [tree2] at hx, fun x hx => by simp [tree2] at hx, by decide, by decide, by decide⟩
  simp only [tree2, List.mem_cons, List.not_mem_nil, or_false] at hx
  rcases hx with rfl | rfl
  · exact ⟨by decide, by decide, fun s hs => by simp [tm0] at hs, by decide, by decide⟩
  · exact ⟨by decide, by decide, fun s hs => by simp [tm1] at hs, by decide, by decide⟩

set_option maxRecDepth 100000 in
set_option maxHeartbeats 4000000 in
theorem lives_any (w : World) (hE : Env w) : Calls Tryz.prog 5 #[] w fun e w' => e = .returned (.bool true) ∧ Below w.heap.size w w' := by
  have kN := new_any w
  go_enter Tryz.func5, Tryz.ntmps5
  go_wp2_with fail
  refine kN.mono ?_
  rintro e w1 ⟨rfl, hT1, hb1⟩
  clear kN
  obtain ⟨B, hB⟩ : ∃ B, w.heap.size = B := ⟨_, rfl⟩
  rw [hB] at hT1 hb1 ⊢
  have h3 : 3 ≤ B := by rw [← hB]; exact hE.2
  have HE := Lib.hid hE
  have HT1 := Lib.hid hT1
  have HBB := Lib.hid hB
  have hz1 := hT1.blk.lt
  have kA := term_any B B tm0 ⟨none, 0, none, 0, none, 0⟩ w1 hT1 (by decide) ⟨SlAt.nil, SlAt.nil, SlAt.nil⟩ (by decide) (by decide) (by decide)
  clear hE hT1 hB
  go_wp2_with fail
  refine kA.mono ?_
  rintro e w2 ⟨p0, v2, rfl, hT2, hk2⟩
  have hb2 := hk2 B (Nat.le_refl _) (by omega)
  have HT2 := Lib.hid hT2
  have hBw2 : Below B w w2 := hb1.trans hb2
  have hz2 := hb2.size
  clear kA hk2 hb2 hb1 hT2
  obtain ⟨w3, hw3⟩ : ∃ w3, w2.alloc (.cells #[.int .i64 0] 3) = w3 := ⟨_, rfl⟩
  have hb3 : Below w2.heap.size w2 w3 := by rw [← hw3]; exact (Below.refl _ _).alloc (Nat.le_refl _) _
  have hX3 : Blk w3 w2.heap.size 3 #[.int .i64 0] := by rw [← hw3]; exact Blk.new w2 3 _
  have hT3 := HT2.out.below hb3
  have kB := term_any B B tm1 ⟨none, 0, some ⟨w2.heap.size, 0, none⟩, 1, none, 0⟩ w3 hT3 (by simp) ⟨SlAt.nil, ⟨rfl, fun _ => ⟨_, _, rfl, hX3.lt, fun j u hu => by rw [hX3.cell, Nat.zero_add]; simpa [tm1] using hu⟩⟩, SlAt.nil⟩ (by decide) (by decide) (by decide)
  have hBw3 : Below B w w3 := hBw2.trans (hb3.mono (by omega))
  have hz3 := hb3.size
  clear hb3 hX3 hT3
  go_wp2_with fail
  refine kB.mono ?_
  rintro e w4 ⟨p1, v4, rfl, hT4, hk4⟩
  have hb4 := hk4 B (Nat.le_refl _) (by omega)
  have hBw4 : Below B w w4 := hBw3.trans hb4
  have hz4 := hb4.size
  have kT := tree_any B B w4 hT4 (by simp) (by simp) (by simp) (fun x hx => by
    simp only [List.nil_append, List.cons_append, List.mem_cons, List.not_mem_nil, or_false] at hx
    rcases hx with rfl | rfl <;> simp [tm0, tm1]) (fun x hx => by simp at hx)
  have kT2 : Calls Tryz.prog 20 #[.pointer (some ⟨B, 0, none⟩)] w4 (CloneTreePost w4 tree2) := kT
  obtain ⟨T, hT⟩ : ∃ T, tree2 = T := ⟨_, rfl⟩
  rw [hT] at kT2
  have HTT := Lib.hid hT
  clear kB kT hT4 hk4 hb4 hT hw3
  go_wp2_with fail
  refine kT2.mono ?_
  rintro e w5 ⟨p5, rfl, hat, hb5⟩
  obtain ⟨a1, c1, a2, c2, a3, c3⟩ := p5
  have hBw5 : Below B w w5 := hBw4.trans (hb5.mono (by omega))
  have hz5 := hb5.size
  obtain ⟨w6, hw6⟩ : ∃ w6, w5.alloc (.cells #[.slice a1 T.nodes.length c1, .slice a2 T.types.length c2, .slice a3 T.aliases.length c3] 26) = w6 := ⟨_, rfl⟩
  have hb6 : Below w5.heap.size w5 w6 := by rw [← hw6]; exact (Below.refl _ _).alloc (Nat.le_refl _) _
  have hX6 : Blk w6 w5.heap.size 26 #[.slice a1 T.nodes.length c1, .slice a2 T.types.length c2, .slice a3 T.aliases.length c3] := by rw [← hw6]; exact Blk.new w5 26 _
  have hBw6 : Below B w w6 := hBw5.trans (hb6.mono (by omega))
  have hat6 : TreeAt (Lt w6.heap.size) w6 T ⟨a1, c1, a2, c2, a3, c3⟩ := (hat.keep (fun b o hb => hb6.cell (p := ⟨b, o, none⟩) hb.2)).imp (fun b hb => Nat.lt_of_lt_of_le hb.2 hb6.size)
  have hE6 : Env w6 := HE.out.on (by rw [HBB.out]; exact hBw6)
  have kC := check_any T ⟨a1, c1, a2, c2, a3, c3⟩ w6 hE6 hat6 (HTT.out ▸ tree2_few)
  rw [← HTT.out, tree2_may] at kC
  rw [HTT.out] at kC
  have x0 := hX6.cell 0
  have x1 := hX6.cell 1
  have x2 := hX6.cell 2
  simp only [List.getElem?_toArray, List.getElem?_cons_zero, List.getElem?_cons_succ] at x0 x1 x2
  have HX6 := Lib.hid hX6
  have HAT := Lib.hid hat6
  have hlx := hX6.lt
  have hBs := hBw6.size
  clear kT2 hat hb5 hb6 hX6 hat6 hBw5 hBw4 hBw3 hBw2
  go_wp2_with fail
  refine kC.mono ?_
  rintro e w7 ⟨rfl, hb7⟩
  have hX7 := HX6.out.below hb7 hlx
  have kD := depth_any T ⟨a1, c1, a2, c2, a3, c3⟩ w7 (hE6.on hb7) ((HAT.out.keep (keep_below hb7)).imp (lt_mono hb7.size)) (HTT.out ▸ tree2_few)
  rw [← HTT.out, tree2_may, tree2_depth] at kD
  rw [HTT.out] at kD
  have y0 := hX7.cell 0
  have y1 := hX7.cell 1
  have y2 := hX7.cell 2
  simp only [List.getElem?_toArray, List.getElem?_cons_zero, List.getElem?_cons_succ] at y0 y1 y2
  have hBw7 : Below B w w7 := hBw6.trans (hb7.mono (by rw [← HBB.out]; exact hBs))
  clear kC hX7 x0 x1 x2 hb7 hw6
  go_wp2_with (go_at_call 9; refine kD.mono ?_; rintro e w8 ⟨rfl, hb8⟩)
  go_ret
  exact ⟨rfl, by rw [HBB.out]; exact hBw7.trans (hb8.mono (by have := hBw7.size; rw [HBB.out] at this; exact this))⟩
end Go.Proofs.YtinajnkjfhbmkaaGreatDoor

namespace Go.Proofs.YtinajnkjfhbmkaaGreatDoor
open Go Go.Proofs Go.RowKit

attribute [local irreducible] Blk

/-- The rows in Pt may have changed, and hold something still; nothing else has. -/
structure Sk (lo : Nat) (Pt : Nat → Prop) (w w' : World) : Prop where
  bel : Below lo w w'
  siz : w'.heap.size = w.heap.size
  oth : ∀ b, ¬ Pt b → w'.heap[b]? = w.heap[b]?
  cel : ∀ b o v, w.cell? ⟨b, o, none⟩ = some v → ∃ v', w'.cell? ⟨b, o, none⟩ = some v'
  wrt : ∀ b, Wr w b → Wr w' b
theorem Sk.refl (lo : Nat) (Pt : Nat → Prop) (w : World) : Sk lo Pt w w := ⟨Below.refl _ _, rfl, fun _ _ => rfl, fun _ _ v h => ⟨v, h⟩, fun _ h => h⟩
theorem Sk.set {lo : Nat} {Pt : Nat → Prop} {w w' : World} (h : Sk lo Pt w w') {b o : Nat} (hb : Pt b) (hl : lo ≤ b) (v : Value) : Sk lo Pt w (w'.setCell ⟨b, o, none⟩ v) :=
  ⟨h.bel.setCell (p := ⟨b, o, none⟩) hl v, by rw [← h.siz]; simp, fun c hc => (Below.heap_setCell w' ⟨b, o, none⟩ v c (fun e => hc (by rw [e]; exact hb))).trans (h.oth c hc),
   fun c k u hu => by
     obtain ⟨u', hu'⟩ := h.cel c k u hu
     by_cases he : (⟨b, o, none⟩ : Addr) = ⟨c, k, none⟩
     · exact ⟨v, by rw [← he] at hu' ⊢; exact World.cell?_setCell_same _ _ _ hu'⟩
     · exact ⟨u', (World.cell?_setCell_other _ _ _ _ he).trans hu'⟩,
   fun c hc => (h.wrt c hc).set _ _⟩
theorem Sk.cell {lo : Nat} {Pt : Nat → Prop} {w w' : World} (h : Sk lo Pt w w') {b o : Nat} (hb : ¬ Pt b) : w'.cell? ⟨b, o, none⟩ = w.cell? ⟨b, o, none⟩ := World.cell?_of_block (a := ⟨b, o, none⟩) (h.oth b hb)
theorem WNodes.gen {Pt : Nat → Prop} {lo : Nat} {w : World} {A : Option Addr} {ts : List TermD} (h : WNodes Pt lo w A ts) (hn : 0 < ts.length) : ∃ b off, A = some ⟨b, off, none⟩ ∧ (lo ≤ b ∧ b < w.heap.size ∧ ¬ Pt b) ∧ ∀ i t, ts[i]? = some t → ∃ q, TermOk (fun b => lo ≤ b ∧ b < w.heap.size ∧ Pt b ∧ Wr w b) w t q ∧ ∀ j u, (termCells t q)[j]? = some u → w.cell? ⟨b, off + i * 8 + j, none⟩ = some u := by
  obtain ⟨b, h1, h2, h3⟩ := h hn
  exact ⟨b, 0, h1, h2, h3⟩
theorem WTyps.gen {Pt : Nat → Prop} {lo : Nat} {w : World} {A : Option Addr} {ts : List TypD} (h : WTyps Pt lo w A ts) (hn : 0 < ts.length) : ∃ b off, A = some ⟨b, off, none⟩ ∧ (lo ≤ b ∧ b < w.heap.size ∧ ¬ Pt b) ∧ ∀ i t, ts[i]? = some t → ∃ q, TypOk (fun b => lo ≤ b ∧ b < w.heap.size ∧ Pt b ∧ Wr w b) w t q ∧ ∀ j u, (typCells t q)[j]? = some u → w.cell? ⟨b, off + i * 6 + j, none⟩ = some u := by
  obtain ⟨b, h1, h2, h3⟩ := h hn
  exact ⟨b, 0, h1, h2, h3⟩

set_option maxRecDepth 100000 in
set_option maxHeartbeats 40000000 in
theorem tsame_nota (a b : TreeD) (p q : Ptr6) (at_ : Int) (w : World) (hE : Env w) (hTa : TreeAt (Lt w.heap.size) w a p) (hTb : TreeAt (Lt w.heap.size) w b q) (m1 : a.nodes.length ≤ 9223372036854775807) (m2 : a.types.length ≤ 9223372036854775807) (m3 : a.aliases.length ≤ 9223372036854775807) (hGa : fewB a = false) :
    Calls Tryz.prog 4 #[treeV a p, treeV b q, .int .i64 at_] w fun e w' => e = .returned (.bool true) ∧ Below w.heap.size w w' := by
  have HBB := Lib.hid (And.intro m1 (And.intro m2 m3))
  clear m1 m2 m3
  obtain ⟨a1, c1, a2, c2, a3, c3⟩ := p
  obtain ⟨b1, d1, b2, d2, b3, d3⟩ := q
  obtain ⟨W1, hW1⟩ : ∃ W1, (w.alloc (.cells #[.slice a1 a.nodes.length c1, .slice a2 a.types.length c2, .slice a3 a.aliases.length c3] 26)).alloc (.cells #[.slice b1 b.nodes.length d1, .slice b2 b.types.length d2, .slice b3 b.aliases.length d3] 26) = W1 := ⟨_, rfl⟩
  have hB1 : Below w.heap.size w W1 := by rw [← hW1]; exact ((Below.refl _ _).alloc (Nat.le_refl _) _).alloc (by simp) _
  have hX : Blk W1 w.heap.size 26 #[.slice a1 a.nodes.length c1, .slice a2 a.types.length c2, .slice a3 a.aliases.length c3] := by rw [← hW1]; exact (Blk.new w 26 _).alloc _
  have hY : Blk W1 (w.heap.size + 1) 26 #[.slice b1 b.nodes.length d1, .slice b2 b.types.length d2, .slice b3 b.aliases.length d3] := by
    rw [← hW1]
    have := Blk.new (w.alloc (.cells #[.slice a1 a.nodes.length c1, .slice a2 a.types.length c2, .slice a3 a.aliases.length c3] 26)) 26 #[.slice b1 b.nodes.length d1, .slice b2 b.types.length d2, .slice b3 b.aliases.length d3]
    rwa [World.size_alloc] at this
  have kL := lives_any W1 (hE.on hB1)
  have HX1 := Lib.hid hX
  have HY1 := Lib.hid hY
  have HE := Lib.hid hE
  have HTa := Lib.hid hTa
  have HTb := Lib.hid hTb
  have HGa := Lib.hid hGa
  clear hX hY hE hTa hTb hGa
  go_enter Tryz.func4, Tryz.ntmps4
  go_wp2_with fail
  refine kL.mono ?_
  rintro e w2 ⟨rfl, hb2⟩
  have hB2 : Below w.heap.size w w2 := hB1.trans (hb2.mono hB1.size)
  have HX2 := Lib.hid (HX1.out.below hb2 HX1.out.lt)
  have HY2 := Lib.hid (HY1.out.below hb2 HY1.out.lt)
  clear HX1 HY1 kL
  have x0 := HX2.out.cell 0
  have x1 := HX2.out.cell 1
  have x2 := HX2.out.cell 2
  simp only [List.getElem?_toArray, List.getElem?_cons_zero, List.getElem?_cons_succ] at x0 x1 x2
  have y0 := HY2.out.cell 0
  have y1 := HY2.out.cell 1
  have y2 := HY2.out.cell 2
  simp only [List.getElem?_toArray, List.getElem?_cons_zero, List.getElem?_cons_succ] at y0 y1 y2
  have kF := few_any a ⟨a1, c1, a2, c2, a3, c3⟩ w2 (tree_up HTa.out hB2) (by have := HBB.out.1; omega) (by have := HBB.out.2.1; omega) (by have := HBB.out.2.2; omega)
  rw [HGa.out] at kF
  clear hb2
  go_wp2_with fail
  refine kF.mono ?_
  rintro e w3 ⟨rfl, hb3⟩
  have hB3 : Below w.heap.size w w3 := hB2.trans (hb3.mono hB2.size)
  clear kF
  have kL := lives_any w3 (HE.out.on hB3)
  clear x0 x1 x2 y0 y1 y2
  go_wp2_with (go_at_call 5; refine kL.mono ?_; rintro e w9 ⟨rfl, hb9⟩)
  go_ret
  exact ⟨rfl, hB3.trans (hb9.mono hB3.size)⟩

set_option maxRecDepth 100000 in
set_option maxHeartbeats 40000000 in
theorem tsame_notb (a b : TreeD) (p q : Ptr6) (at_ : Int) (w : World) (hE : Env w) (hTa : TreeAt (Lt w.heap.size) w a p) (hTb : TreeAt (Lt w.heap.size) w b q) (n1 : b.nodes.length ≤ 9223372036854775807) (n2 : b.types.length ≤ 9223372036854775807) (n3 : b.aliases.length ≤ 9223372036854775807) (hGa : fewB a = true) (hGb : fewB b = false) :
    Calls Tryz.prog 4 #[treeV a p, treeV b q, .int .i64 at_] w fun e w' => e = .returned (.bool true) ∧ Below w.heap.size w w' := by
  have HBB := Lib.hid (And.intro n1 (And.intro n2 n3))
  clear n1 n2 n3
  obtain ⟨_, _, _, F4, F5, F6⟩ := few_of hGa
  obtain ⟨a1, c1, a2, c2, a3, c3⟩ := p
  obtain ⟨b1, d1, b2, d2, b3, d3⟩ := q
  obtain ⟨W1, hW1⟩ : ∃ W1, (w.alloc (.cells #[.slice a1 a.nodes.length c1, .slice a2 a.types.length c2, .slice a3 a.aliases.length c3] 26)).alloc (.cells #[.slice b1 b.nodes.length d1, .slice b2 b.types.length d2, .slice b3 b.aliases.length d3] 26) = W1 := ⟨_, rfl⟩
  have hB1 : Below w.heap.size w W1 := by rw [← hW1]; exact ((Below.refl _ _).alloc (Nat.le_refl _) _).alloc (by simp) _
  have hX : Blk W1 w.heap.size 26 #[.slice a1 a.nodes.length c1, .slice a2 a.types.length c2, .slice a3 a.aliases.length c3] := by rw [← hW1]; exact (Blk.new w 26 _).alloc _
  have hY : Blk W1 (w.heap.size + 1) 26 #[.slice b1 b.nodes.length d1, .slice b2 b.types.length d2, .slice b3 b.aliases.length d3] := by
    rw [← hW1]
    have := Blk.new (w.alloc (.cells #[.slice a1 a.nodes.length c1, .slice a2 a.types.length c2, .slice a3 a.aliases.length c3] 26)) 26 #[.slice b1 b.nodes.length d1, .slice b2 b.types.length d2, .slice b3 b.aliases.length d3]
    rwa [World.size_alloc] at this
  have kL := lives_any W1 (hE.on hB1)
  have HX1 := Lib.hid hX
  have HY1 := Lib.hid hY
  have HE := Lib.hid hE
  have HTa := Lib.hid hTa
  have HTb := Lib.hid hTb
  have HGa := Lib.hid hGa
  have HGb := Lib.hid hGb
  clear hX hY hE hTa hTb hGa hGb
  go_enter Tryz.func4, Tryz.ntmps4
  go_wp2_with fail
  refine kL.mono ?_
  rintro e w2 ⟨rfl, hb2⟩
  have hB2 : Below w.heap.size w w2 := hB1.trans (hb2.mono hB1.size)
  have HX2 := Lib.hid (HX1.out.below hb2 HX1.out.lt)
  have HY2 := Lib.hid (HY1.out.below hb2 HY1.out.lt)
  clear HX1 HY1 kL
  have x0 := HX2.out.cell 0
  have x1 := HX2.out.cell 1
  have x2 := HX2.out.cell 2
  simp only [List.getElem?_toArray, List.getElem?_cons_zero, List.getElem?_cons_succ] at x0 x1 x2
  have y0 := HY2.out.cell 0
  have y1 := HY2.out.cell 1
  have y2 := HY2.out.cell 2
  simp only [List.getElem?_toArray, List.getElem?_cons_zero, List.getElem?_cons_succ] at y0 y1 y2
  have kF := few_any a ⟨a1, c1, a2, c2, a3, c3⟩ w2 (tree_up HTa.out hB2) (by omega) (by omega) (by omega)
  rw [HGa.out] at kF
  clear hb2
  go_wp2_with fail
  refine kF.mono ?_
  rintro e w3 ⟨rfl, hb3⟩
  have hB3 : Below w.heap.size w w3 := hB2.trans (hb3.mono hB2.size)
  have HX3 := Lib.hid (HX2.out.below hb3 HX2.out.lt)
  have HY3 := Lib.hid (HY2.out.below hb3 HY2.out.lt)
  clear x0 x1 x2 y0 y1 y2 HX2 HY2
  have x0 := HX3.out.cell 0
  have x1 := HX3.out.cell 1
  have x2 := HX3.out.cell 2
  simp only [List.getElem?_toArray, List.getElem?_cons_zero, List.getElem?_cons_succ] at x0 x1 x2
  have y0 := HY3.out.cell 0
  have y1 := HY3.out.cell 1
  have y2 := HY3.out.cell 2
  simp only [List.getElem?_toArray, List.getElem?_cons_zero, List.getElem?_cons_succ] at y0 y1 y2
  clear kF
  have kF := few_any b ⟨b1, d1, b2, d2, b3, d3⟩ w3 (tree_up HTb.out hB3) (by have := HBB.out.1; omega) (by have := HBB.out.2.1; omega) (by have := HBB.out.2.2; omega)
  rw [HGb.out] at kF
  clear hb3
  go_wp2_with fail
  refine kF.mono ?_
  rintro e w4 ⟨rfl, hb4⟩
  have hB4 : Below w.heap.size w w4 := hB3.trans (hb4.mono hB3.size)
  clear kF
  have kL := lives_any w4 (HE.out.on hB4)
  clear x0 x1 x2 y0 y1 y2
  go_wp2_with (go_at_call 5; refine kL.mono ?_; rintro e w9 ⟨rfl, hb9⟩)
  go_ret
  exact ⟨rfl, hB4.trans (hb9.mono hB4.size)⟩

set_option maxRecDepth 100000 in
set_option maxHeartbeats 40000000 in
theorem tsame_yes (a b : TreeD) (p q : Ptr6) (at_ : Int) (w : World) (hE : Env w) (hTa : TreeAt (Lt w.heap.size) w a p) (hTb : TreeAt (Lt w.heap.size) w b q) (hIa : ∀ x ∈ a.nodes, x.int ≤ 9223372036854775807) (hIb : ∀ x ∈ b.nodes, x.int ≤ 9223372036854775807) (hGa : fewB a = true) (hGb : fewB b = true) :
    Calls Tryz.prog 4 #[treeV a p, treeV b q, .int .i64 at_] w fun e w' => e = .returned (.bool true) ∧ Below w.heap.size w w' := by
  have hFa := few_of hGa
  have hFb := few_of hGb
  obtain ⟨F1, F2, F3, F4, F5, F6⟩ := few_of hGa
  obtain ⟨_, _, _, G4, G5, G6⟩ := few_of hGb
  obtain ⟨a1, c1, a2, c2, a3, c3⟩ := p
  obtain ⟨b1, d1, b2, d2, b3, d3⟩ := q
  obtain ⟨W1, hW1⟩ : ∃ W1, (w.alloc (.cells #[.slice a1 a.nodes.length c1, .slice a2 a.types.length c2, .slice a3 a.aliases.length c3] 26)).alloc (.cells #[.slice b1 b.nodes.length d1, .slice b2 b.types.length d2, .slice b3 b.aliases.length d3] 26) = W1 := ⟨_, rfl⟩
  have hB1 : Below w.heap.size w W1 := by rw [← hW1]; exact ((Below.refl _ _).alloc (Nat.le_refl _) _).alloc (by simp) _
  have hX : Blk W1 w.heap.size 26 #[.slice a1 a.nodes.length c1, .slice a2 a.types.length c2, .slice a3 a.aliases.length c3] := by rw [← hW1]; exact (Blk.new w 26 _).alloc _
  have hY : Blk W1 (w.heap.size + 1) 26 #[.slice b1 b.nodes.length d1, .slice b2 b.types.length d2, .slice b3 b.aliases.length d3] := by
    rw [← hW1]
    have := Blk.new (w.alloc (.cells #[.slice a1 a.nodes.length c1, .slice a2 a.types.length c2, .slice a3 a.aliases.length c3] 26)) 26 #[.slice b1 b.nodes.length d1, .slice b2 b.types.length d2, .slice b3 b.aliases.length d3]
    rwa [World.size_alloc] at this
  have kL := lives_any W1 (hE.on hB1)
  have HX1 := Lib.hid hX
  have HY1 := Lib.hid hY
  have HE := Lib.hid hE
  have HTa := Lib.hid hTa
  have HTb := Lib.hid hTb
  have HGa := Lib.hid hGa
  have HGb := Lib.hid hGb
  have HFa := Lib.hid hFa
  have HFb := Lib.hid hFb
  have HIa := Lib.hid hIa
  have HIb := Lib.hid hIb
  clear hX hY hE hTa hTb hGa hGb hFa hFb hIa hIb F1 F2 F3
  go_enter Tryz.func4, Tryz.ntmps4
  go_wp2_with fail
  refine kL.mono ?_
  rintro e w2 ⟨rfl, hb2⟩
  have hB2 : Below w.heap.size w w2 := hB1.trans (hb2.mono hB1.size)
  have HX2 := Lib.hid (HX1.out.below hb2 HX1.out.lt)
  have HY2 := Lib.hid (HY1.out.below hb2 HY1.out.lt)
  clear HX1 HY1 kL
  have x0 := HX2.out.cell 0
  have x1 := HX2.out.cell 1
  have x2 := HX2.out.cell 2
  simp only [List.getElem?_toArray, List.getElem?_cons_zero, List.getElem?_cons_succ] at x0 x1 x2
  have y0 := HY2.out.cell 0
  have y1 := HY2.out.cell 1
  have y2 := HY2.out.cell 2
  simp only [List.getElem?_toArray, List.getElem?_cons_zero, List.getElem?_cons_succ] at y0 y1 y2
  have kF := few_any a ⟨a1, c1, a2, c2, a3, c3⟩ w2 (tree_up HTa.out hB2) (by omega) (by omega) (by omega)
  rw [HGa.out] at kF
  clear hb2
  go_wp2_with fail
  refine kF.mono ?_
  rintro e w3 ⟨rfl, hb3⟩
  have hB3 : Below w.heap.size w w3 := hB2.trans (hb3.mono hB2.size)
  have HX3 := Lib.hid (HX2.out.below hb3 HX2.out.lt)
  have HY3 := Lib.hid (HY2.out.below hb3 HY2.out.lt)
  clear x0 x1 x2 y0 y1 y2 HX2 HY2
  have x0 := HX3.out.cell 0
  have x1 := HX3.out.cell 1
  have x2 := HX3.out.cell 2
  simp only [List.getElem?_toArray, List.getElem?_cons_zero, List.getElem?_cons_succ] at x0 x1 x2
  have y0 := HY3.out.cell 0
  have y1 := HY3.out.cell 1
  have y2 := HY3.out.cell 2
  simp only [List.getElem?_toArray, List.getElem?_cons_zero, List.getElem?_cons_succ] at y0 y1 y2
  clear kF
  have kF := few_any b ⟨b1, d1, b2, d2, b3, d3⟩ w3 (tree_up HTb.out hB3) (by omega) (by omega) (by omega)
  rw [HGb.out] at kF
  clear hb3
  go_wp2_with fail
  refine kF.mono ?_
  rintro e w4 ⟨rfl, hb4⟩
  have hB4 : Below w.heap.size w w4 := hB3.trans (hb4.mono hB3.size)
  have HX4 := Lib.hid (HX3.out.below hb4 HX3.out.lt)
  have HY4 := Lib.hid (HY3.out.below hb4 HY3.out.lt)
  clear x0 x1 x2 y0 y1 y2 HX3 HY3
  have x0 := HX4.out.cell 0
  have x1 := HX4.out.cell 1
  have x2 := HX4.out.cell 2
  simp only [List.getElem?_toArray, List.getElem?_cons_zero, List.getElem?_cons_succ] at x0 x1 x2
  have y0 := HY4.out.cell 0
  have y1 := HY4.out.cell 1
  have y2 := HY4.out.cell 2
  simp only [List.getElem?_toArray, List.getElem?_cons_zero, List.getElem?_cons_succ] at y0 y1 y2
  clear kF hb4 hW1
  have hs4 := hB4.size
  have hxl := HX4.out.lt
  have hyl := HY4.out.lt
  have HT4 := Lib.hid (tree_up HTa.out hB4)
  have HU4 := Lib.hid (tree_up HTb.out hB4)
  obtain ⟨s, hs⟩ : ∃ s, sameB a b = s := ⟨_, rfl⟩
  have HSV := Lib.hid hs
  clear hs
  have KS : Hid (∀ W, Below w4.heap.size w4 W → Calls Tryz.prog 12 #[.agg #[.slice a1 a.nodes.length c1, .slice a2 a.types.length c2, .slice a3 a.aliases.length c3], .agg #[.slice b1 b.nodes.length d1, .slice b2 b.types.length d2, .slice b3 b.aliases.length d3]] W fun e w' => e = .returned (.bool s) ∧ Below w4.heap.size w4 w') := Lib.hid fun W hW => by
    have h := same19_any a b ⟨a1, c1, a2, c2, a3, c3⟩ ⟨b1, d1, b2, d2, b3, d3⟩ W (HE.out.on (hB4.trans (hW.mono hs4))) (tree_up HT4.out hW) (tree_up HU4.out hW) HFa.out HFb.out
    rw [HSV.out] at h
    exact h.mono fun e w' h => ⟨h.1, hW.trans (h.2.mono hW.size)⟩
  have KR : Hid (∀ W, Below w4.heap.size w4 W → Calls Tryz.prog 16 #[.agg #[.slice a1 a.nodes.length c1, .slice a2 a.types.length c2, .slice a3 a.aliases.length c3], .agg #[.slice b1 b.nodes.length d1, .slice b2 b.types.length d2, .slice b3 b.aliases.length d3]] W fun e w' => e = .returned (.bool s) ∧ Below w4.heap.size w4 w') := Lib.hid fun W hW => by
    have h := rsame_any a b ⟨a1, c1, a2, c2, a3, c3⟩ ⟨b1, d1, b2, d2, b3, d3⟩ W (tree_up HT4.out hW) (tree_up HU4.out hW) HFa.out HFb.out HIa.out HIb.out
    rw [HSV.out] at h
    exact h.mono fun e w' h => ⟨h.1, hW.trans (h.2.mono hW.size)⟩
  have KB : Hid (∀ W, Below w4.heap.size w4 W → Calls Tryz.prog 12 #[.agg #[.slice b1 b.nodes.length d1, .slice b2 b.types.length d2, .slice b3 b.aliases.length d3], .agg #[.slice a1 a.nodes.length c1, .slice a2 a.types.length c2, .slice a3 a.aliases.length c3]] W fun e w' => e = .returned (.bool s) ∧ Below w4.heap.size w4 w') := Lib.hid fun W hW => by
    have h := same19_any b a ⟨b1, d1, b2, d2, b3, d3⟩ ⟨a1, c1, a2, c2, a3, c3⟩ W (HE.out.on (hB4.trans (hW.mono hs4))) (tree_up HU4.out hW) (tree_up HT4.out hW) HFb.out HFa.out
    rw [← sameB_swap, HSV.out] at h
    exact h.mono fun e w' h => ⟨h.1, hW.trans (h.2.mono hW.size)⟩
  have HS : Hid (∀ W, Below w4.heap.size w4 W → (fun W : World => W.cell? ⟨w.heap.size, 0, none⟩ = some (.slice a1 a.nodes.length c1) ∧ W.cell? ⟨w.heap.size, 1, none⟩ = some (.slice a2 a.types.length c2) ∧ W.cell? ⟨w.heap.size, 2, none⟩ = some (.slice a3 a.aliases.length c3) ∧ W.cell? ⟨w.heap.size + 1, 0, none⟩ = some (.slice b1 b.nodes.length d1) ∧ W.cell? ⟨w.heap.size + 1, 1, none⟩ = some (.slice b2 b.types.length d2) ∧ W.cell? ⟨w.heap.size + 1, 2, none⟩ = some (.slice b3 b.aliases.length d3) ∧ Below w4.heap.size w4 W) W) := Lib.hid fun W hW => by
    have A := HX4.out.below hW hxl
    have B := HY4.out.below hW hyl
    have A0 := A.cell 0
    have A1 := A.cell 1
    have A2 := A.cell 2
    have B0 := B.cell 0
    have B1 := B.cell 1
    have B2 := B.cell 2
    simp only [List.getElem?_toArray, List.getElem?_cons_zero, List.getElem?_cons_succ] at A0 A1 A2 B0 B1 B2
    exact ⟨A0, A1, A2, B0, B1, B2, hW⟩
  have hB0 := Below.refl w4.heap.size w4
  clear x0 x1 x2 y0 y1 y2
  go_wp2_with fail
  refine wp_region_noPanic ?_
  refine wp_region_held_drew (S := fun W => W.cell? ⟨w.heap.size, 0, none⟩ = some (.slice a1 a.nodes.length c1) ∧ W.cell? ⟨w.heap.size, 1, none⟩ = some (.slice a2 a.types.length c2) ∧ W.cell? ⟨w.heap.size, 2, none⟩ = some (.slice a3 a.aliases.length c3) ∧ W.cell? ⟨w.heap.size + 1, 0, none⟩ = some (.slice b1 b.nodes.length d1) ∧ W.cell? ⟨w.heap.size + 1, 1, none⟩ = some (.slice b2 b.types.length d2) ∧ W.cell? ⟨w.heap.size + 1, 2, none⟩ = some (.slice b3 b.aliases.length d3) ∧ Below w4.heap.size w4 W) (by kernel_rfl) (HS.out _ (Below.drew hB0)) (fun hHeld => ?_)
  refine wpAnyH_take (i := 0) (v := ?vs1) (by simp only [List.getElem?_toArray, List.getElem?_cons_zero]; rfl) (by kernel_rfl) (by kernel_rfl) (by kernel_rfl) (fun _ _ _ h => h) (Or.inl ⟨by rfl, ?hys1⟩) (by assumption) ?rests1
  case hys1 => (intro w hSw; (try dsimp only at hSw); go_simp; try with_reducible rfl)
  try simp only [Act.put, List.setIfInBounds_toArray, List.set_cons_zero, List.set_cons_succ]
  refine wpAnyH_take (i := 1) (v := ?vs2) (by simp only [List.getElem?_toArray, List.getElem?_cons_zero, List.getElem?_cons_succ]; rfl) (by kernel_rfl) (by kernel_rfl) (by kernel_rfl) (fun _ _ _ h => h) (Or.inl ⟨by rfl, ?hys2⟩) (by assumption) ?rests2
  case hys2 => (intro w hSw; (try dsimp only at hSw); go_simp; try with_reducible rfl)
  try simp only [Act.put, List.setIfInBounds_toArray, List.set_cons_zero, List.set_cons_succ]
  refine wpAnyH_take (i := 3) (v := ?vs3) (by simp only [List.getElem?_toArray, List.getElem?_cons_zero, List.getElem?_cons_succ]; rfl) (by kernel_rfl) (by kernel_rfl) (by kernel_rfl) (fun _ _ _ h => h) (Or.inl ⟨by rfl, ?hys3⟩) (by assumption) ?rests3
  case hys3 => (intro w hSw; (try dsimp only at hSw); go_simp; try with_reducible rfl)
  try simp only [Act.put, List.setIfInBounds_toArray, List.set_cons_zero, List.set_cons_succ]
  refine wpAnyH_take (i := 4) (v := ?vs4) (by simp only [List.getElem?_toArray, List.getElem?_cons_zero, List.getElem?_cons_succ]; rfl) (by kernel_rfl) (by kernel_rfl) (by kernel_rfl) (fun _ _ _ h => h) (Or.inl ⟨by rfl, ?hys4⟩) (by assumption) ?rests4
  case hys4 => (intro w hSw; (try dsimp only at hSw); go_simp; try with_reducible rfl)
  try simp only [Act.put, List.setIfInBounds_toArray, List.set_cons_zero, List.set_cons_succ]
  refine wpAnyH_ready (rs := [2]) (by kernel_rfl) (by simp) ?_
  refine AllReadyH.cons (by simp only [List.getElem?_toArray, List.getElem?_cons_zero, List.getElem?_cons_succ]; rfl) (fun K hK => ?steps5) AllReadyH.nil
  go_simp; go_at_call 12; (with_reducible refine (KS.out _ (Below.drew hB0)).mono ?_); rintro e w5 ⟨rfl, b5⟩
  go_wp2_with fail
  refine hK.out _ _ ?hSs5 (fun hHeld => ?_)
  case hSs5 => exact HS.out _ b5
  clear hK K
  try simp only [Act.put, List.setIfInBounds_toArray, List.set_cons_zero, List.set_cons_succ]
  refine wpAnyH_ready (rs := [5]) (by kernel_rfl) (by simp) ?_
  refine AllReadyH.cons (by simp only [List.getElem?_toArray, List.getElem?_cons_zero, List.getElem?_cons_succ]; rfl) (fun K hK => ?steps6) AllReadyH.nil
  go_simp; go_at_call 16; (with_reducible refine (KR.out _ b5).mono ?_); rintro e w6 ⟨rfl, b6⟩
  go_wp2_with fail
  refine hK.out _ _ ?hSs6 (fun hHeld => ?_)
  case hSs6 => exact HS.out _ b6
  clear hK K
  try simp only [Act.put, List.setIfInBounds_toArray, List.set_cons_zero, List.set_cons_succ]
  refine wpAnyH_take (i := 6) (v := ?vs7) (by simp only [List.getElem?_toArray, List.getElem?_cons_zero, List.getElem?_cons_succ]; rfl) (by kernel_rfl) (by kernel_rfl) (by kernel_rfl) (fun _ _ _ h => h) (Or.inl ⟨by rfl, ?hys7⟩) (by assumption) ?rests7
  case hys7 => (intro w hSw; (try dsimp only at hSw); go_simp; try with_reducible rfl)
  try simp only [Act.put, List.setIfInBounds_toArray, List.set_cons_zero, List.set_cons_succ]
  refine wpAnyH_take (i := 7) (v := ?vs8) (by simp only [List.getElem?_toArray, List.getElem?_cons_zero, List.getElem?_cons_succ]; rfl) (by kernel_rfl) (by kernel_rfl) (by kernel_rfl) (fun _ _ _ h => h) (Or.inl ⟨by rfl, ?hys8⟩) (by assumption) ?rests8
  case hys8 => (intro w hSw; (try dsimp only at hSw); go_simp; try with_reducible rfl)
  try simp only [Act.put, List.setIfInBounds_toArray, List.set_cons_zero, List.set_cons_succ]
  refine wpAnyH_take (i := 8) (v := ?vs9) (by simp only [List.getElem?_toArray, List.getElem?_cons_zero, List.getElem?_cons_succ]; rfl) (by kernel_rfl) (by kernel_rfl) (by kernel_rfl) (fun _ _ _ h => h) (Or.inl ⟨by rfl, ?hys9⟩) (by assumption) ?rests9
  case hys9 => (intro w hSw; (try dsimp only at hSw); go_simp; try with_reducible rfl)
  try simp only [Act.put, List.setIfInBounds_toArray, List.set_cons_zero, List.set_cons_succ]
  refine wpAnyH_take (i := 9) (v := ?vs10) (by simp only [List.getElem?_toArray, List.getElem?_cons_zero, List.getElem?_cons_succ]; rfl) (by kernel_rfl) (by kernel_rfl) (by kernel_rfl) (fun _ _ _ h => h) (Or.inl ⟨by rfl, ?hys10⟩) (by assumption) ?rests10
  case hys10 => (intro w hSw; (try dsimp only at hSw); go_simp; try with_reducible rfl)
  try simp only [Act.put, List.setIfInBounds_toArray, List.set_cons_zero, List.set_cons_succ]
  refine wpAnyH_take (i := 11) (v := ?vs11) (by simp only [List.getElem?_toArray, List.getElem?_cons_zero, List.getElem?_cons_succ]; rfl) (by kernel_rfl) (by kernel_rfl) (by kernel_rfl) (fun _ _ _ h => h) (Or.inl ⟨by rfl, ?hys11⟩) (by assumption) ?rests11
  case hys11 => (intro w hSw; (try dsimp only at hSw); go_simp; try with_reducible rfl)
  try simp only [Act.put, List.setIfInBounds_toArray, List.set_cons_zero, List.set_cons_succ]
  refine wpAnyH_take (i := 12) (v := ?vs12) (by simp only [List.getElem?_toArray, List.getElem?_cons_zero, List.getElem?_cons_succ]; rfl) (by kernel_rfl) (by kernel_rfl) (by kernel_rfl) (fun _ _ _ h => h) (Or.inl ⟨by rfl, ?hys12⟩) (by assumption) ?rests12
  case hys12 => (intro w hSw; (try dsimp only at hSw); go_simp; try with_reducible rfl)
  try simp only [Act.put, List.setIfInBounds_toArray, List.set_cons_zero, List.set_cons_succ]
  refine wpAnyH_ready (rs := [10]) (by kernel_rfl) (by simp) ?_
  refine AllReadyH.cons (by simp only [List.getElem?_toArray, List.getElem?_cons_zero, List.getElem?_cons_succ]; rfl) (fun K hK => ?steps13) AllReadyH.nil
  go_simp; go_at_call 12; (with_reducible refine (KS.out _ b6).mono ?_); rintro e w7 ⟨rfl, b7⟩
  go_wp2_with fail
  refine hK.out _ _ ?hSs13 (fun hHeld => ?_)
  case hSs13 => exact HS.out _ b7
  clear hK K
  try simp only [Act.put, List.setIfInBounds_toArray, List.set_cons_zero, List.set_cons_succ]
  refine wpAnyH_ready (rs := [13]) (by kernel_rfl) (by simp) ?_
  refine AllReadyH.cons (by simp only [List.getElem?_toArray, List.getElem?_cons_zero, List.getElem?_cons_succ]; rfl) (fun K hK => ?steps14) AllReadyH.nil
  go_simp; go_at_call 12; (with_reducible refine (KB.out _ b7).mono ?_); rintro e w8 ⟨rfl, b8⟩
  go_wp2_with fail
  refine hK.out _ _ ?hSs14 (fun hHeld => ?_)
  case hSs14 => exact HS.out _ b8
  clear hK K
  try simp only [Act.put, List.setIfInBounds_toArray, List.set_cons_zero, List.set_cons_succ]
  refine wpAnyH_take (i := 14) (v := ?vs15) (by simp only [List.getElem?_toArray, List.getElem?_cons_zero, List.getElem?_cons_succ]; rfl) (by kernel_rfl) (by kernel_rfl) (by kernel_rfl) (fun _ _ _ h => h) (Or.inl ⟨by rfl, ?hys15⟩) (by assumption) ?rests15
  case hys15 => (intro w hSw; (try dsimp only at hSw); go_simp; try with_reducible rfl)
  try simp only [Act.put, List.setIfInBounds_toArray, List.set_cons_zero, List.set_cons_succ]
  refine wpAnyH_take (i := 15) (v := ?vs16) (by simp only [List.getElem?_toArray, List.getElem?_cons_zero, List.getElem?_cons_succ]; rfl) (by kernel_rfl) (by kernel_rfl) (by kernel_rfl) (fun _ _ _ h => h) (Or.inl ⟨by rfl, ?hys16⟩) (by assumption) ?rests16
  case hys16 => (intro w hSw; (try dsimp only at hSw); go_simp; try with_reducible rfl)
  try simp only [Act.put, List.setIfInBounds_toArray, List.set_cons_zero, List.set_cons_succ]
  refine wpAnyH_done (by kernel_rfl) ?_ _
  refine NoPanic.normal ?_
  have hB8 : Below w.heap.size w w8 := hB4.trans (b8.mono hs4)
  have HX8 := Lib.hid (HX4.out.below b8 hxl)
  clear HX4 HY4 KS KR KB HS hB0 b5 b6 b7 b8 HT4 HU4 hxl hyl
  have x0 := HX8.out.cell 0
  have x1 := HX8.out.cell 1
  have x2 := HX8.out.cell 2
  simp only [List.getElem?_toArray, List.getElem?_cons_zero, List.getElem?_cons_succ] at x0 x1 x2
  have kR := right_any a ⟨a1, c1, a2, c2, a3, c3⟩ w8 (tree_up HTa.out hB8) HFa.out HIa.out
  obtain ⟨C, hC⟩ : ∃ C, checkF a = C := ⟨_, rfl⟩
  rw [hC] at kR
  have HC := Lib.hid hC
  unfold treeV at kR
  dsimp only at kR
  clear hC
  go_wp2_with fail
  refine kR.mono ?_
  rintro e w9 ⟨rfl, hb9⟩
  have hB9 : Below w.heap.size w w9 := hB8.trans (hb9.mono hB8.size)
  clear kR
  cases C
  case false =>
    go_wp2
    go_ret
    exact ⟨rfl, hB9⟩
  case true =>
  have HX9 := Lib.hid (HX8.out.below hb9 HX8.out.lt)
  clear HX8 hb9 x0 x1 x2
  have x0 := HX9.out.cell 0
  have x1 := HX9.out.cell 1
  have x2 := HX9.out.cell 2
  simp only [List.getElem?_toArray, List.getElem?_cons_zero, List.getElem?_cons_succ] at x0 x1 x2
  have kC := cloneW_any a ⟨a1, c1, a2, c2, a3, c3⟩ w9 (tree_up HTa.out hB9) (by omega) (by omega) (by omega) (fun x hx => by have h := HFa.out.1 x hx; exact ⟨by have := h.2.1; omega, by have := h.2.2.2.1; omega, by have := h.2.2.2.2; omega⟩) (fun x hx => by have h := HFa.out.2.1 x hx; exact ⟨by have := h.2.1; omega, by have := h.2.2.2; omega⟩)
  unfold treeV at kC
  dsimp only at kC
  go_wp2_with fail
  refine kC.mono ?_
  rintro e wA ⟨⟨r1, g1, r2, g2, r3, g3⟩, Pt, rfl, hTC, hWN, hWT, hPt, hbA⟩
  have hBA : Below w.heap.size w wA := hB9.trans (hbA.mono hB9.size)
  have HXA := Lib.hid (HX9.out.below hbA HX9.out.lt)
  have HTC := Lib.hid (hTC.imp (Qb := Lt wA.heap.size) (fun b h => h.2))
  have HWN := Lib.hid hWN
  have HWT := Lib.hid hWT
  have HPt := Lib.hid hPt
  have hs9 := hB9.size
  have hsA := hbA.size
  have hxlo9 := HX9.out.lt
  clear kC HX9 hTC hWN hWT hPt hbA x0 x1 x2
  have x0 := HXA.out.cell 0
  have x1 := HXA.out.cell 1
  have x2 := HXA.out.cell 2
  simp only [List.getElem?_toArray, List.getElem?_cons_zero, List.getElem?_cons_succ] at x0 x1 x2
  obtain ⟨WZ, hWZ⟩ : ∃ WZ, wA.alloc (.cells #[.slice r1 a.nodes.length g1, .slice r2 a.types.length g2, .slice r3 a.aliases.length g3] 26) = WZ := ⟨_, rfl⟩
  have hBz : Below wA.heap.size wA WZ := by rw [← hWZ]; exact (Below.refl _ _).alloc (Nat.le_refl _) _
  have hZ : Blk WZ wA.heap.size 26 #[.slice r1 a.nodes.length g1, .slice r2 a.types.length g2, .slice r3 a.aliases.length g3] := by rw [← hWZ]; exact Blk.new wA 26 _
  have HXZ := Lib.hid (HXA.out.below hBz HXA.out.lt)
  have HZZ := Lib.hid hZ
  have hBZ : Below w.heap.size w WZ := hBA.trans (hBz.mono hBA.size)
  have kS := same19_any a a ⟨a1, c1, a2, c2, a3, c3⟩ ⟨r1, g1, r2, g2, r3, g3⟩ WZ (HE.out.on hBZ) (tree_up HTa.out hBZ) (tree_up HTC.out hBz) HFa.out HFa.out
  rw [sameB_refl HC.out] at kS
  unfold treeV at kS
  dsimp only at kS
  have HWN2 := Lib.hid (HWN.out.below hBz)
  have HWT2 := Lib.hid (HWT.out.below hBz)
  have HBz := Lib.hid hBz
  obtain ⟨lo, hlo⟩ : ∃ lo, w9.heap.size = lo := ⟨_, rfl⟩
  obtain ⟨z, hz⟩ : ∃ z, wA.heap.size = z := ⟨_, rfl⟩
  rw [hlo] at HWN2 HWT2 HPt hs9 hsA hxlo9
  rw [hz] at HPt hZ HZZ hsA
  clear HXA HWN HWT hZ hlo
  have x0 := HXZ.out.cell 0
  have x1 := HXZ.out.cell 1
  have x2 := HXZ.out.cell 2
  simp only [List.getElem?_toArray, List.getElem?_cons_zero, List.getElem?_cons_succ] at x0 x1 x2
  have z0 := HZZ.out.cell 0
  have z1 := HZZ.out.cell 1
  have z2 := HZZ.out.cell 2
  simp only [List.getElem?_toArray, List.getElem?_cons_zero, List.getElem?_cons_succ] at z0 z1 z2
  go_wp2_with fail
  refine kS.mono ?_
  rintro e w0 ⟨rfl, hb0⟩
  have hB0 : Below w.heap.size w w0 := hBZ.trans (hb0.mono hBZ.size)
  have HX0 := Lib.hid (HXZ.out.below hb0 HXZ.out.lt)
  have HZ0 := Lib.hid (HZZ.out.below hb0 HZZ.out.lt)
  have HN := Lib.hid (HWN2.out.below hb0)
  have HT := Lib.hid (HWT2.out.below hb0)
  have HZP : Hid (¬ Pt z) := Lib.hid fun h => by have := (HPt.out z h).2; omega
  have hlo9 : w.heap.size ≤ lo := hs9
  have hxlo : w.heap.size < lo := hxlo9
  clear kS HXZ HZZ HWN2 HWT2 hb0 hWZ x0 x1 x2 z0 z1 z2
  have x0 := HX0.out.cell 0
  have x1 := HX0.out.cell 1
  have x2 := HX0.out.cell 2
  simp only [List.getElem?_toArray, List.getElem?_cons_zero, List.getElem?_cons_succ] at x0 x1 x2
  have z0 := HZ0.out.cell 0
  have z1 := HZ0.out.cell 1
  have z2 := HZ0.out.cell 2
  simp only [List.getElem?_toArray, List.getElem?_cons_zero, List.getElem?_cons_succ] at z0 z1 z2
  have HZC := Lib.hid z0
  have HZD := Lib.hid z1
  have HX0C := Lib.hid (And.intro x0 (And.intro x1 x2))
  go_wp2
  go_loopw [8, 9, 10, 54] (fun _ _ _ i0 wr => ∃ (i : Nat), i ≤ a.nodes.length ∧ i0 = .int .i64 i ∧ Sk lo Pt w0 wr) (fun _ _ _ i0 _ => a.nodes.length - (intOf i0).toNat)
  case atStart => exact ⟨0, Nat.zero_le _, rfl, Sk.refl _ _ _⟩
  case round =>
    obtain ⟨i, hi, rfl, hS⟩ := hrel
    by_cases hlt : i < a.nodes.length
    · obtain ⟨gb, of, rfl, hgb, hcn⟩ := HN.out.gen (by omega)
      obtain ⟨⟨q5, d5, q6, d6, q7, d7⟩, hq, hcq⟩ := hcn i _ (List.getElem?_eq_getElem hlt)
      have hfew := HFa.out.1 _ (List.getElem_mem hlt)
      obtain ⟨x, hx⟩ : ∃ x, a.nodes[i] = x := ⟨_, rfl⟩
      rw [hx] at hq hcq hfew
      have HGP := Lib.hid hgb.2.2
      have HN5 := Lib.hid (hcq 5 _ rfl)
      have HN6 := Lib.hid (hcq 6 _ rfl)
      have HQ5 := Lib.hid hq.1
      have HQ6 := Lib.hid hq.2.1
      have y0 := (hS.cell HZP.out).trans HZC.out
      have n6 := (hS.cell HGP.out).trans HN6.out
      have i1 : (0 : Int) ≤ (i : Int) := by omega
      have i2 : (i : Int) < (a.nodes.length : Int) := by omega
      have hl1 := hfew.2.1
      have hl2 := hfew.2.2.2.1
      clear hx hq hcq hfew hgb hcn z0 z1 z2
      go_wp2
      go_loopw [9, 64] (fun _ k0 wx => ∃ (k : Nat), k ≤ x.kids.length ∧ k0 = .int .i64 k ∧ Sk lo Pt w0 wx) (fun _ k0 _ => x.kids.length - (intOf k0).toNat)
      case atStart => exact ⟨0, Nat.zero_le _, rfl, hS⟩
      case round =>
        obtain ⟨k, hk, rfl, hSk⟩ := hrel
        by_cases hlk : k < x.kids.length
        · obtain ⟨b6, o6, rfl, hp6, hc6⟩ := HQ6.out.at_ hlk
          obtain ⟨v6, hv6⟩ := hSk.cel b6 (o6 + k) _ (hc6 k (iv x.kids[k]) (by simp [hlk]))
          have fz := hSk.wrt b6 hp6.2.2.2 (o6 + k)
          have y0 := (hSk.cell HZP.out).trans HZC.out
          have n6 := (hSk.cell HGP.out).trans HN6.out
          have i3 : (0 : Int) ≤ (k : Int) := by omega
          have i4 : (k : Int) < (x.kids.length : Int) := by omega
          have HPP := Lib.hid hp6
          have HSk := Lib.hid hSk
          clear hc6 hp6 hSk hS
          go_wp2
          go_roundw
          case rel => exact ⟨k + 1, by omega, by go_num, HSk.out.set HPP.out.2.2.1 HPP.out.1 _⟩
          case measure => simp [intOf]; omega
        · obtain rfl : k = x.kids.length := by omega
          have y0 := (hSk.cell HZP.out).trans HZC.out
          have n5 := (hSk.cell HGP.out).trans HN5.out
          clear hS
          have hS := hSk
          clear hSk
          go_wp2
          go_loopw [10, 83] (fun _ k0 wx => ∃ (k : Nat), k ≤ x.names.length ∧ k0 = .int .i64 k ∧ Sk lo Pt w0 wx) (fun _ k0 _ => x.names.length - (intOf k0).toNat)
          case atStart => exact ⟨0, Nat.zero_le _, rfl, hS⟩
          case round =>
            obtain ⟨k, hk, rfl, hSn⟩ := hrel
            by_cases hlk : k < x.names.length
            · obtain ⟨b6, o6, rfl, hp6, hc6⟩ := HQ5.out.at_ hlk
              obtain ⟨v6, hv6⟩ := hSn.cel b6 (o6 + k) _ (hc6 k (.string x.names[k]) (by simp [hlk]))
              have fz := hSn.wrt b6 hp6.2.2.2 (o6 + k)
              have y0 := (hSn.cell HZP.out).trans HZC.out
              have n6 := (hSn.cell HGP.out).trans HN5.out
              have i3 : (0 : Int) ≤ (k : Int) := by omega
              have i4 : (k : Int) < (x.names.length : Int) := by omega
              have HPP := Lib.hid hp6
              have HSn := Lib.hid hSn
              clear hc6 hp6 hSn hS
              go_wp2
              go_roundw
              case rel => exact ⟨k + 1, by omega, by go_num, HSn.out.set HPP.out.2.2.1 HPP.out.1 _⟩
              case measure => simp [intOf]; omega
            · obtain rfl : k = x.names.length := by omega
              have y0 := (hSn.cell HZP.out).trans HZC.out
              clear hS
              go_wp2
              go_roundw
              case rel => exact ⟨i + 1, by omega, by go_num, hSn⟩
              case measure => simp [intOf]; omega
    · obtain rfl : i = a.nodes.length := by omega
      have y1 := (hS.cell HZP.out).trans HZD.out
      clear z0 z1 z2
      go_wp2
      go_loopw [11, 12, 99] (fun _ _ i0 wr => ∃ (i : Nat), i ≤ a.types.length ∧ i0 = .int .i64 i ∧ Sk lo Pt w0 wr) (fun _ _ i0 _ => a.types.length - (intOf i0).toNat)
      case atStart => exact ⟨0, Nat.zero_le _, rfl, hS⟩
      case round =>
        clear hS
        obtain ⟨i, hi, rfl, hS⟩ := hrel
        by_cases hlt : i < a.types.length
        · obtain ⟨gb, of, rfl, hgb, hcn⟩ := HT.out.gen (by omega)
          obtain ⟨⟨q3, d3', q4, d4⟩, hq, hcq⟩ := hcn i _ (List.getElem?_eq_getElem hlt)
          have hfew := HFa.out.2.1 _ (List.getElem_mem hlt)
          obtain ⟨x, hx⟩ : ∃ x, a.types[i] = x := ⟨_, rfl⟩
          rw [hx] at hq hcq hfew
          have HGP := Lib.hid hgb.2.2
          have HN4 := Lib.hid (hcq 4 _ rfl)
          have HQ4 := Lib.hid hq.2
          have y1 := (hS.cell HZP.out).trans HZD.out
          have n6 := (hS.cell HGP.out).trans HN4.out
          have i1 : (0 : Int) ≤ (i : Int) := by omega
          have i2 : (i : Int) < (a.types.length : Int) := by omega
          have hl2 := hfew.2.2.2
          clear hx hq hcq hfew hgb hcn
          go_wp2
          go_loopw [12, 109] (fun _ k0 wx => ∃ (k : Nat), k ≤ x.kids.length ∧ k0 = .int .i64 k ∧ Sk lo Pt w0 wx) (fun _ k0 _ => x.kids.length - (intOf k0).toNat)
          case atStart => exact ⟨0, Nat.zero_le _, rfl, hS⟩
          case round =>
            obtain ⟨k, hk, rfl, hSk⟩ := hrel
            by_cases hlk : k < x.kids.length
            · obtain ⟨b6, o6, rfl, hp6, hc6⟩ := HQ4.out.at_ hlk
              obtain ⟨v6, hv6⟩ := hSk.cel b6 (o6 + k) _ (hc6 k (iv x.kids[k]) (by simp [hlk]))
              have fz := hSk.wrt b6 hp6.2.2.2 (o6 + k)
              have y1 := (hSk.cell HZP.out).trans HZD.out
              have n6 := (hSk.cell HGP.out).trans HN4.out
              have i3 : (0 : Int) ≤ (k : Int) := by omega
              have i4 : (k : Int) < (x.kids.length : Int) := by omega
              have HPP := Lib.hid hp6
              have HSk := Lib.hid hSk
              clear hc6 hp6 hSk hS
              go_wp2
              go_roundw
              case rel => exact ⟨k + 1, by omega, by go_num, HSk.out.set HPP.out.2.2.1 HPP.out.1 _⟩
              case measure => simp [intOf]; omega
            · obtain rfl : k = x.kids.length := by omega
              have y1 := (hSk.cell HZP.out).trans HZD.out
              clear hS
              go_wp2
              go_roundw
              case rel => exact ⟨i + 1, by omega, by go_num, hSk⟩
              case measure => simp [intOf]; omega
        · obtain rfl : i = a.types.length := by omega
          have hBr : Below w.heap.size w wr := hB0.trans (hS.bel.mono hlo9)
          have hxP : ¬ Pt w.heap.size := fun h => by have := (HPt.out _ h).1; omega
          have x0 := (hS.cell hxP).trans HX0C.out.1
          have x1 := (hS.cell hxP).trans HX0C.out.2.1
          have x2 := (hS.cell hxP).trans HX0C.out.2.2
          have kR := right_any a ⟨a1, c1, a2, c2, a3, c3⟩ wr (tree_up HTa.out hBr) HFa.out HIa.out
          rw [HC.out] at kR
          unfold treeV at kR
          dsimp only at kR
          clear hxP
          go_wp2_with (go_at_call 7; (with_reducible refine kR.mono ?_); rintro e wY ⟨rfl, hbY⟩)
          go_ret
          exact ⟨rfl, hBr.trans (hbY.mono hBr.size)⟩

theorem tsame_any (a b : TreeD) (p q : Ptr6) (at_ : Int) (w : World) (hE : Env w) (hTa : TreeAt (Lt w.heap.size) w a p) (hTb : TreeAt (Lt w.heap.size) w b q) (hIa : ∀ x ∈ a.nodes, x.int ≤ 9223372036854775807) (hIb : ∀ x ∈ b.nodes, x.int ≤ 9223372036854775807)
    (m1 : a.nodes.length ≤ maxLen) (m2 : a.types.length ≤ maxLen) (m3 : a.aliases.length ≤ maxLen) (n1 : b.nodes.length ≤ maxLen) (n2 : b.types.length ≤ maxLen) (n3 : b.aliases.length ≤ maxLen) :
    Calls Tryz.prog 4 #[treeV a p, treeV b q, .int .i64 at_] w fun e w' => e = .returned (.bool true) ∧ Below w.heap.size w w' := by
  unfold maxLen at m1 m2 m3 n1 n2 n3
  by_cases hGa : fewB a = true
  · by_cases hGb : fewB b = true
    · exact tsame_yes a b p q at_ w hE hTa hTb hIa hIb hGa hGb
    · exact tsame_notb a b p q at_ w hE hTa hTb (by omega) (by omega) (by omega) hGa (by simpa using hGb)
  · exact tsame_nota a b p q at_ w hE hTa hTb (by omega) (by omega) (by omega) (by simpa using hGa)
end Go.Proofs.YtinajnkjfhbmkaaGreatDoor
