/- The chapter's example holds. -/
import Derived.Test.YtinajnkjfhbmkaaDoorDepth
import Derived.Test.YtinajnkjfhbmkaaDoorBuilder
namespace Go.Proofs.YtinajnkjfhbmkaaDoor
open Go Go.Proofs Go.RowKit

def tm0 : TermD := ⟨0, 0, ⟨#[120]⟩, 0, 0, [], [], []⟩
def tm1 : TermD := ⟨5, 0, ⟨#[120]⟩, 0, 0, [], [0], []⟩
def tree2 : TreeD := ⟨[tm0, tm1], [], []⟩
theorem tree2_may : checkF tree2 = true := by decide +kernel
theorem tree2_depth : depthP tree2 = 2 := by decide +kernel
theorem tree2_few : TreeFew tree2 := by
  refine ⟨fun x hx => ?_, fun x hx => by simp [tree2] at hx, fun x hx => by simp [tree2] at hx, by decide, by decide, by decide⟩
  simp only [tree2, List.mem_cons, List.not_mem_nil, or_false] at hx
  rcases hx with rfl | rfl
  · exact ⟨by decide, by decide, fun s hs => by simp [tm0] at hs, by decide, by decide⟩
  · exact ⟨by decide, by decide, fun s hs => by simp [tm1] at hs, by decide, by decide⟩

set_option maxRecDepth 100000 in
set_option maxHeartbeats 4000000 in
theorem lives_any (w : World) (hE : Env w) : Calls Tryd.prog 6 #[] w fun e w' => e = .returned (.bool true) ∧ Below w.heap.size w w' := by
  have kN := new_any w
  go_enter Tryd.func6, Tryd.ntmps6
  go_wp2_with fail
  refine kN.mono ?_
  rintro e w1 ⟨rfl, hT1, hb1⟩
  clear kN
  obtain ⟨B, hB⟩ : ∃ B, w.heap.size = B := ⟨_, rfl⟩
  rw [hB] at hT1 hb1 ⊢
  have h3 : 3 ≤ B := by rw [← hB]; exact hE.2
  have HE := Lib.hid hE
  have HT1 := Lib.hid hT1
  have HBB := Lib.hid hB
  have hz1 := hT1.blk.lt
  have kA := term_any B B tm0 ⟨none, 0, none, 0, none, 0⟩ w1 hT1 (by decide) ⟨SlAt.nil, SlAt.nil, SlAt.nil⟩ (by decide) (by decide) (by decide)
  clear hE hT1 hB
  go_wp2_with fail
  refine kA.mono ?_
  rintro e w2 ⟨p0, v2, rfl, hT2, hk2⟩
  have hb2 := hk2 B (Nat.le_refl _) (by omega)
  have HT2 := Lib.hid hT2
  have hBw2 : Below B w w2 := hb1.trans hb2
  have hz2 := hb2.size
  clear kA hk2 hb2 hb1 hT2
  obtain ⟨w3, hw3⟩ : ∃ w3, w2.alloc (.cells #[.int .i64 0] 3) = w3 := ⟨_, rfl⟩
  have hb3 : Below w2.heap.size w2 w3 := by rw [← hw3]; exact (Below.refl _ _).alloc (Nat.le_refl _) _
  have hX3 : Blk w3 w2.heap.size 3 #[.int .i64 0] := by rw [← hw3]; exact Blk.new w2 3 _
  have hT3 := HT2.out.below hb3
  have kB := term_any B B tm1 ⟨none, 0, some ⟨w2.heap.size, 0, none⟩, 1, none, 0⟩ w3 hT3 (by simp) ⟨SlAt.nil, ⟨rfl, fun _ => ⟨_, _, rfl, hX3.lt, fun j u hu => by rw [hX3.cell, Nat.zero_add]; simpa [tm1] using hu⟩⟩, SlAt.nil⟩ (by decide) (by decide) (by decide)
  have hBw3 : Below B w w3 := hBw2.trans (hb3.mono (by omega))
  have hz3 := hb3.size
  clear hb3 hX3 hT3
  go_wp2_with fail
  refine kB.mono ?_
  rintro e w4 ⟨p1, v4, rfl, hT4, hk4⟩
  have hb4 := hk4 B (Nat.le_refl _) (by omega)
  have hBw4 : Below B w w4 := hBw3.trans hb4
  have hz4 := hb4.size
  have kT := tree_any B B w4 hT4 (by simp) (by simp) (by simp) (fun x hx => by
    simp only [List.nil_append, List.cons_append, List.mem_cons, List.not_mem_nil, or_false] at hx
    rcases hx with rfl | rfl <;> simp [tm0, tm1]) (fun x hx => by simp at hx)
  have kT2 : Calls Tryd.prog 18 #[.pointer (some ⟨B, 0, none⟩)] w4 (CloneTreePost w4 tree2) := kT
  obtain ⟨T, hT⟩ : ∃ T, tree2 = T := ⟨_, rfl⟩
  rw [hT] at kT2
  have HTT := Lib.hid hT
  clear kB kT hT4 hk4 hb4 hT hw3
  go_wp2_with fail
  refine kT2.mono ?_
  rintro e w5 ⟨p5, rfl, hat, hb5⟩
  obtain ⟨a1, c1, a2, c2, a3, c3⟩ := p5
  have hBw5 : Below B w w5 := hBw4.trans (hb5.mono (by omega))
  have hz5 := hb5.size
  obtain ⟨w6, hw6⟩ : ∃ w6, w5.alloc (.cells #[.slice a1 T.nodes.length c1, .slice a2 T.types.length c2, .slice a3 T.aliases.length c3] 26) = w6 := ⟨_, rfl⟩
  have hb6 : Below w5.heap.size w5 w6 := by rw [← hw6]; exact (Below.refl _ _).alloc (Nat.le_refl _) _
  have hX6 : Blk w6 w5.heap.size 26 #[.slice a1 T.nodes.length c1, .slice a2 T.types.length c2, .slice a3 T.aliases.length c3] := by rw [← hw6]; exact Blk.new w5 26 _
  have hBw6 : Below B w w6 := hBw5.trans (hb6.mono (by omega))
  have hat6 : TreeAt (Lt w6.heap.size) w6 T ⟨a1, c1, a2, c2, a3, c3⟩ := (hat.keep (fun b o hb => hb6.cell (p := ⟨b, o, none⟩) hb.2)).imp (fun b hb => Nat.lt_of_lt_of_le hb.2 hb6.size)
  have hE6 : Env w6 := HE.out.on (by rw [HBB.out]; exact hBw6)
  have kC := check_any T ⟨a1, c1, a2, c2, a3, c3⟩ w6 hE6 hat6 (HTT.out ▸ tree2_few)
  rw [← HTT.out, tree2_may] at kC
  rw [HTT.out] at kC
  have x0 := hX6.cell 0
  have x1 := hX6.cell 1
  have x2 := hX6.cell 2
  simp only [List.getElem?_toArray, List.getElem?_cons_zero, List.getElem?_cons_succ] at x0 x1 x2
  have HX6 := Lib.hid hX6
  have HAT := Lib.hid hat6
  have hlx := hX6.lt
  have hBs := hBw6.size
  clear kT2 hat hb5 hb6 hX6 hat6 hBw5 hBw4 hBw3 hBw2
  go_wp2_with fail
  refine kC.mono ?_
  rintro e w7 ⟨rfl, hb7⟩
  have hX7 := HX6.out.below hb7 hlx
  have kD := depth_any T ⟨a1, c1, a2, c2, a3, c3⟩ w7 (hE6.on hb7) ((HAT.out.keep (keep_below hb7)).imp (lt_mono hb7.size)) (HTT.out ▸ tree2_few)
  rw [← HTT.out, tree2_may, tree2_depth] at kD
  rw [HTT.out] at kD
  have y0 := hX7.cell 0
  have y1 := hX7.cell 1
  have y2 := hX7.cell 2
  simp only [List.getElem?_toArray, List.getElem?_cons_zero, List.getElem?_cons_succ] at y0 y1 y2
  have hBw7 : Below B w w7 := hBw6.trans (hb7.mono (by rw [← HBB.out]; exact hBs))
  clear kC hX7 x0 x1 x2 hb7 hw6
  go_wp2_with (go_at_call 10; refine kD.mono ?_; rintro e w8 ⟨rfl, hb8⟩)
  go_ret
  exact ⟨rfl, by rw [HBB.out]; exact hBw7.trans (hb8.mono (by have := hBw7.size; rw [HBB.out] at this; exact this))⟩
end Go.Proofs.YtinajnkjfhbmkaaDoor
