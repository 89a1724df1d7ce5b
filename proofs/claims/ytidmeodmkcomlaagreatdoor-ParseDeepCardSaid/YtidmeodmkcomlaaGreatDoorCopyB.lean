/- A copy of a type, in new memory: whatever order is taken. -/
import Derived.Test.YtidmeodmkcomlaaGreatDoorCopyA
namespace Go.Proofs.YtidmeodmkcomlaaGreatDoor
open Go Go.Proofs Go.RowKit

def ClonePost (w : World) (t : TypD) (e : Ending) (w' : World) : Prop := ∃ p, e = .returned (.agg (typCells t p).toArray) ∧ TypOk (New w w') w' t p ∧ Below w.heap.size w w'

set_option maxRecDepth 100000 in
set_option maxHeartbeats 8000000 in
theorem cloneType_any (t : TypD) (p : Ptr2) (w : World) (hP : TypOk (Lt w.heap.size) w t p) (h1 : t.names.length ≤ 65536) (h2 : t.kids.length ≤ 65536) :
    Calls Tryz.prog 113 #[.agg (typCells t p).toArray] w (ClonePost w t) := by
  have kS := fun W (hW : Below w.heap.size w W) => copyS_any p.a3 p.c3 t.names W (hP.1.rd (keep_below hW)) h1
  have kI := fun W (hW : Below w.heap.size w W) => copyI_any p.a4 p.c4 t.kids W (hP.2.rd (keep_below hW)) h2
  clear hP
  obtain ⟨kd, pos, nm, nms, kids, o⟩ := t
  obtain ⟨a3, c3, a4, c4⟩ := p
  unfold typCells at *
  dsimp only at *
  go_enter Tryz.func113, Tryz.ntmps113
  go_wp2
  obtain ⟨W1, hW1⟩ : ∃ W1, (w.alloc (.cells #[.int .i64 kd, .int .i64 pos, .string nm, .slice a3 nms.length c3, .slice a4 kids.length c4, .bool o] 40)).alloc (.cells #[.int .i64 0, .int .i64 0, .string ⟨#[]⟩, .slice none 0 0, .slice none 0 0, .bool false] 40) = W1 := ⟨_, rfl⟩
  have hB1 : Below w.heap.size w W1 := by rw [← hW1]; exact ((Below.refl _ _).alloc (Nat.le_refl _) _).alloc (by simp) _
  have hX : Blk W1 w.heap.size 40 #[.int .i64 kd, .int .i64 pos, .string nm, .slice a3 nms.length c3, .slice a4 kids.length c4, .bool o] := by rw [← hW1]; exact (Blk.new w 40 _).alloc _
  have hY : Blk W1 (w.heap.size + 1) 40 #[.int .i64 0, .int .i64 0, .string ⟨#[]⟩, .slice none 0 0, .slice none 0 0, .bool false] := by
    rw [← hW1]
    have := Blk.new (w.alloc (.cells #[.int .i64 kd, .int .i64 pos, .string nm, .slice a3 nms.length c3, .slice a4 kids.length c4, .bool o] 40)) 40 #[.int .i64 0, .int .i64 0, .string ⟨#[]⟩, .slice none 0 0, .slice none 0 0, .bool false]
    rwa [World.size_alloc] at this
  rw [hW1]
  clear hW1
  have hzX := hX.lt
  have hzY := hY.lt
  have x3 := hX.cell 3
  have x4 := hX.cell 4
  simp only [List.getElem?_toArray, List.getElem?_cons_zero, List.getElem?_cons_succ] at x3 x4
  have f3 := hX.frozen 3
  have f4 := hX.frozen 4
  go_region_with (first
      | (go_at_call 135; refine (kS _ (by first | exact hB1 | exact hB1.drew)).mono ?_; rintro e w2 ⟨A0, d0, rfl, hs2, hb2⟩; have bz1 : Below w.heap.size w w2 := hB1.drew.trans (hb2.mono (by exact hB1.drew.size)); have l2 : w.heap.size < w2.heap.size := (Nat.lt_of_lt_of_le hzX hb2.size); have q2_3 := (hb2.cell (p := ⟨w.heap.size, 3, none⟩) hzX).trans x3; have q2_4 := (hb2.cell (p := ⟨w.heap.size, 4, none⟩) hzX).trans x4; have g2_3 := (hb2.frozen (p := ⟨w.heap.size, 3, none⟩) hzX).trans f3; have g2_4 := (hb2.frozen (p := ⟨w.heap.size, 4, none⟩) hzX).trans f4)
      | (go_at_call 136; refine (kI _ (by exact bz1)).mono ?_; rintro e w3 ⟨A1, d1, rfl, hs3, hb3⟩; have bz2 : Below w.heap.size w w3 := bz1.trans (hb3.mono (by exact bz1.size)); have l3 : w.heap.size < w3.heap.size := (Nat.lt_of_lt_of_le l2 hb3.size); have q3_3 := (hb3.cell (p := ⟨w.heap.size, 3, none⟩) l2).trans q2_3; have q3_4 := (hb3.cell (p := ⟨w.heap.size, 4, none⟩) l2).trans q2_4; have g3_3 := (hb3.frozen (p := ⟨w.heap.size, 3, none⟩) l2).trans g2_3; have g3_4 := (hb3.frozen (p := ⟨w.heap.size, 4, none⟩) l2).trans g2_4))
  all_goals
    obtain ⟨WF, hWF⟩ : ∃ WF, ((w3.setCell ⟨w.heap.size, 3, none⟩ (.slice A0 nms.length d0)).setCell ⟨w.heap.size, 4, none⟩ (.slice A1 kids.length d1)) = WF := ⟨_, rfl⟩
    have hX2 := hX.drew.below hb2 hzX
    have hY2 := hY.drew.below hb2 hzY
    have m2 : w.heap.size + 1 < w2.heap.size := Nat.lt_of_lt_of_le hzY hb2.size
    have hX3 := hX2.below hb3 l2
    have hY3 := hY2.below hb3 m2
    have m3 : w.heap.size + 1 < w3.heap.size := Nat.lt_of_lt_of_le m2 hb3.size
    have hZ : Blk WF w.heap.size 40 #[.int .i64 kd, .int .i64 pos, .string nm, .slice A0 nms.length d0, .slice A1 kids.length d1, .bool o] := by
      rw [← hWF]
      have := ((hX3.set_ 3 (.slice A0 nms.length d0)).set_ 4 (.slice A1 kids.length d1))
      simpa using this
    have hY9 : Blk WF (w.heap.size + 1) 40 #[.int .i64 0, .int .i64 0, .string ⟨#[]⟩, .slice none 0 0, .slice none 0 0, .bool false] := by
      rw [← hWF]
      exact ((hY3.far (p := ⟨w.heap.size, 3, none⟩) (by dsimp only; omega) _).far (p := ⟨w.heap.size, 4, none⟩) (by dsimp only; omega) _)
    have hBF : Below w.heap.size w WF := by
      rw [← hWF]
      exact ((bz2.setCell (p := ⟨w.heap.size, 3, none⟩) (Nat.le_refl _) _).setCell (p := ⟨w.heap.size, 4, none⟩) (Nat.le_refl _) _)
    have hzF : WF.heap.size = w3.heap.size := by rw [← hWF]; simp
    have hkF : ∀ b o, W1.heap.size ≤ b → WF.cell? ⟨b, o, none⟩ = w3.cell? ⟨b, o, none⟩ := fun b o hb => by
      rw [← hWF, World.cell?_setCell_other _ _ _ _ (by intro e; injection e; omega), World.cell?_setCell_other _ _ _ _ (by intro e; injection e; omega)]
    have hle : W1.heap.size ≤ w2.heap.size := hb2.size
    have hle1 := hb3.size
    have hok : TypOk (fun b => w.heap.size + 2 ≤ b ∧ b < WF.heap.size) WF ⟨kd, pos, nm, nms, kids, o⟩ ⟨A0, d0, A1, d1⟩ :=
      ⟨((hs2.keep (w' := w3) (fun b o hb => hb3.cell (p := ⟨b, o, none⟩) hb.2)).keep (fun b o hb => hkF b o (by have : W1.heap.size ≤ b := hb.1; omega))).imp (fun b hb => ⟨by have : W1.heap.size ≤ b := hb.1; omega, by have := hb.2; have := hb3.size; omega⟩),
       (hs3.keep (fun b o hb => hkF b o (by have := hb.1; omega))).imp (fun b hb => ⟨by have := hb.1; omega, by have := hb.2;  omega⟩)⟩
    rw [hWF]
    have HOK := Lib.hid hok
    clear hWF hkF hok hX hY hB1 kS kI hzF hle hle1 hs2 hb2 hX2 hY2 bz1 l2 m2 q2_3 q2_4 g2_3 g2_4 hs3 hb3 hX3 hY3 bz2 l3 m3 q3_3 q3_4 g3_3 g3_4 x3 x4 f3 f4
    have z0 := hZ.cell 0
    have y0 := hY9.cell 0
    have v0 := hY9.frozen 0
    have z1 := hZ.cell 1
    have y1 := hY9.cell 1
    have v1 := hY9.frozen 1
    have z2 := hZ.cell 2
    have y2 := hY9.cell 2
    have v2 := hY9.frozen 2
    have z3 := hZ.cell 3
    have y3 := hY9.cell 3
    have v3 := hY9.frozen 3
    have z4 := hZ.cell 4
    have y4 := hY9.cell 4
    have v4 := hY9.frozen 4
    have z5 := hZ.cell 5
    have y5 := hY9.cell 5
    have v5 := hY9.frozen 5
    simp only [List.getElem?_toArray, List.getElem?_cons_zero, List.getElem?_cons_succ] at z0 y0 z1 y1 z2 y2 z3 y3 z4 y4 z5 y5
    go_wp2
    obtain ⟨WE, hWE⟩ : ∃ WE, ((((((WF.setCell ⟨w.heap.size + 1, 0, none⟩ (.int .i64 kd)).setCell ⟨w.heap.size + 1, 1, none⟩ (.int .i64 pos)).setCell ⟨w.heap.size + 1, 2, none⟩ (.string nm)).setCell ⟨w.heap.size + 1, 3, none⟩ (.slice A0 nms.length d0)).setCell ⟨w.heap.size + 1, 4, none⟩ (.slice A1 kids.length d1)).setCell ⟨w.heap.size + 1, 5, none⟩ (.bool o)) = WE := ⟨_, rfl⟩
    have hR : Blk WE (w.heap.size + 1) 40 #[.int .i64 kd, .int .i64 pos, .string nm, .slice A0 nms.length d0, .slice A1 kids.length d1, .bool o] := by
      rw [← hWE]
      have := ((((((hY9.set_ 0 (.int .i64 kd)).set_ 1 (.int .i64 pos)).set_ 2 (.string nm)).set_ 3 (.slice A0 nms.length d0)).set_ 4 (.slice A1 kids.length d1)).set_ 5 (.bool o))
      simpa using this
    have hBE : Below w.heap.size w WE := by
      rw [← hWE]
      exact ((((((hBF.setCell (p := ⟨w.heap.size + 1, 0, none⟩) (Nat.le_succ _) _).setCell (p := ⟨w.heap.size + 1, 1, none⟩) (Nat.le_succ _) _).setCell (p := ⟨w.heap.size + 1, 2, none⟩) (Nat.le_succ _) _).setCell (p := ⟨w.heap.size + 1, 3, none⟩) (Nat.le_succ _) _).setCell (p := ⟨w.heap.size + 1, 4, none⟩) (Nat.le_succ _) _).setCell (p := ⟨w.heap.size + 1, 5, none⟩) (Nat.le_succ _) _)
    have hzE : WE.heap.size = WF.heap.size := by rw [← hWE]; simp
    have hkE : ∀ b o, w.heap.size + 2 ≤ b → WE.cell? ⟨b, o, none⟩ = WF.cell? ⟨b, o, none⟩ := fun b o hb => by
      rw [← hWE, World.cell?_setCell_other _ _ _ _ (by intro e; injection e; omega), World.cell?_setCell_other _ _ _ _ (by intro e; injection e; omega), World.cell?_setCell_other _ _ _ _ (by intro e; injection e; omega), World.cell?_setCell_other _ _ _ _ (by intro e; injection e; omega), World.cell?_setCell_other _ _ _ _ (by intro e; injection e; omega), World.cell?_setCell_other _ _ _ _ (by intro e; injection e; omega)]
    rw [hWE]
    clear hWE z0 y0 v0 z1 y1 v1 z2 y2 v2 z3 y3 v3 z4 y4 v4 z5 y5 v5
    have r0 := hR.cell 0
    have r1 := hR.cell 1
    have r2 := hR.cell 2
    have r3 := hR.cell 3
    have r4 := hR.cell 4
    have r5 := hR.cell 5
    simp only [List.getElem?_toArray, List.getElem?_cons_zero, List.getElem?_cons_succ] at r0 r1 r2 r3 r4 r5
    refine bodyPost_ret (v := .agg (typCells ⟨kd, pos, nm, nms, kids, o⟩ ⟨A0, d0, A1, d1⟩).toArray) (by simp [results, Tryz.results113, go_sem, typCells, r0, r1, r2, r3, r4, r5]) rfl ⟨_, rfl, ?_, hBE⟩
    have := (HOK.out.keep (fun b o hb => hkE b o hb.1)).imp (Qb := New w WE) (fun b hb => ⟨by have := hb.1; omega, by have := hb.2; rw [hzE]; exact hb.2⟩)
    exact this

end Go.Proofs.YtidmeodmkcomlaaGreatDoor
