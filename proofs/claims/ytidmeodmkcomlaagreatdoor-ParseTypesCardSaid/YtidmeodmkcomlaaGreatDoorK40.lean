/- Types that are words, or names; simple types; types: what the rules give, or what is wrong. -/
import Derived.Test.YtidmeodmkcomlaaGreatDoorK37
set_option linter.unusedSimpArgs false
set_option linter.unusedVariables false
namespace Go.Proofs.YtidmeodmkcomlaaGreatDoor
open Go Go.Proofs Go.RowKit
set_option maxHeartbeats 8000000
abbrev nP2 : Ptr2 := ⟨none, 0, none, 0⟩
abbrev zTyp : List Value := [.int .i64 0, .int .i64 0, .string ⟨#[]⟩, .slice none 0 0, .slice none 0 0, .bool false]
abbrev tyWordsV : List Value := [.string ⟨#[105, 110, 116]⟩, .string ⟨#[98, 111, 111, 108]⟩, .string ⟨#[115, 116, 114]⟩, .string ⟨#[102, 108, 111, 97, 116]⟩, .string ⟨#[100, 121, 110]⟩, .string ⟨#[97, 110, 121]⟩, .string ⟨#[110, 111, 110, 101]⟩]
theorem zfp {W : World} {g : Nat} {t : TypeId} {z0 z1 z2 z3 z4 z5 : Value} (h : Blk W g t [z0, z1, z2, z3, z4, z5].toArray) (v0 v1 v2 v3 v4 v5 : Value) : Blk ((((((W.setCell ⟨g, 0, none⟩ v0).setCell ⟨g, 1, none⟩ v1).setCell ⟨g, 2, none⟩ v2).setCell ⟨g, 3, none⟩ v3).setCell ⟨g, 4, none⟩ v4).setCell ⟨g, 5, none⟩ v5) g t [v0, v1, v2, v3, v4, v5].toArray := by
 have := (((((h.set_ 0 v0).set_ 1 v1).set_ 2 v2).set_ 3 v3).set_ 4 v4).set_ 5 v5;simpa using this
theorem zfb {w W : World} {n g : Nat} (h : Below n w W) (hg : n ≤ g) (v0 v1 v2 v3 v4 v5 : Value) : Below n w ((((((W.setCell ⟨g, 0, none⟩ v0).setCell ⟨g, 1, none⟩ v1).setCell ⟨g, 2, none⟩ v2).setCell ⟨g, 3, none⟩ v3).setCell ⟨g, 4, none⟩ v4).setCell ⟨g, 5, none⟩ v5) :=
 (((((h.setCell (p := ⟨g, 0, none⟩) hg _).setCell (p := ⟨g, 1, none⟩) hg _).setCell (p := ⟨g, 2, none⟩) hg _).setCell (p := ⟨g, 3, none⟩) hg _).setCell (p := ⟨g, 4, none⟩) hg _).setCell (p := ⟨g, 5, none⟩) hg _
set_option maxRecDepth 100000 in
theorem zta {B : PE} {w : World} {s : St} (h : PS B w s) (hk : s.k < B.ts.length) (h2 : (tkA B.ts s.k).1 = 2) :
 Calls Tryz.prog 80 #[B.ptr] w fun e w' => e = .returned (.agg #[.int .i64 10, .int .i64 ((tkA B.ts s.k).2.2 : Int), .string (bs (tkA B.ts s.k).2.1), .slice none 0 0, .slice none 0 0, .bool false]) ∧ Below w.heap.size w w' := by
 obtain ⟨W0, hW0⟩ : ∃ W0, w.alloc (.cells zTyp.toArray 40) = W0 := ⟨_, rfl⟩;have hB0 : Below w.heap.size w W0 := by rw [← hW0]; exact (zJx _ _).alloc (zJw _) _
 have hX0 : Blk W0 w.heap.size 40 zTyp.toArray := by rw [← hW0]; exact Blk.new w 40 _
 have cN := zbe (h.below hB0) hk;have cW := fun (W : World) (hW : Below w.heap.size w W) => zct (h.below hW) hk 4;have l0 := hX0.lt;generalize tkA B.ts s.k = t at cN cW h2 ⊢;have X0 := zJv hX0;have B0 := zJv hB0;clear h hX0 hB0;have e2 : ((t.1 : Int) == 2) = true := by simp; omega
 go_enter Tryz.func80, Tryz.ntmps80
 go_wp2_with fail
 refine cN.mono ?_;rintro e w1 ⟨rfl, hb1⟩;obtain ⟨W2, hW2⟩ : ∃ W2, w1.alloc (.cells (tokL t).toArray 77) = W2 := ⟨_, rfl⟩;have hB2 : Below w1.heap.size w1 W2 := by rw [← hW2]; exact (zJx _ _).alloc (zJw _) _
 have hT2 : Blk W2 w1.heap.size 77 (tokL t).toArray := by rw [← hW2]; exact Blk.new w1 77 _
 have t0 := hT2.cell 0;have t1 := hT2.cell 1;have t2 := hT2.cell 2;simp only [gA, gB, gC] at t0 t1 t2;have hB02 : Below w.heap.size w W2 := (B0.out.trans (hb1.mono B0.out.size)).trans (hB2.mono (zK4 B0.out.size hb1.size));have hY3 := X0.out.below (hb1.trans (hB2.mono hb1.size)) l0;have Y3 := zJv hY3;have B3 := zJv hB02;have x0 := hY3.cell 0;have x1 := hY3.cell 1;have x2 := hY3.cell 2;have x3 := hY3.cell 3;have x4 := hY3.cell 4;have x5 := hY3.cell 5;have y0 := hY3.frozen 0;have y1 := hY3.frozen 1;have y2 := hY3.frozen 2;have y3 := hY3.frozen 3;have y4 := hY3.frozen 4;have y5 := hY3.frozen 5;simp only [gA, gB, gC] at x0 x1 x2 x3 x4 x5;clear hT2 hB02 hY3 hB2 hb1 cN cW h2;go_wp2_with fail
 have hZ := zfp Y3.out (.int .i64 10) (.int .i64 (t.2.2 : Int)) (.string (bs t.2.1)) (.slice none 0 0) (.slice none 0 0) (.bool false);have q0 := hZ.cell 0;have q1 := hZ.cell 1;have q2 := hZ.cell 2;have q3 := hZ.cell 3;have q4 := hZ.cell 4;have q5 := hZ.cell 5;simp only [gA, gB, gC] at q0 q1 q2 q3 q4 q5;exact bodyPost_ret (v := .agg [.int .i64 10, .int .i64 (t.2.2 : Int), .string (bs t.2.1), .slice none 0 0, .slice none 0 0, .bool false].toArray) (by simp [results, Tryz.results80, go_sem, q0, q1, q2, q3, q4, q5]) rfl ⟨rfl, zfb B3.out (zJw _) _ _ _ _ _ _⟩
set_option maxRecDepth 100000 in
theorem zwt {B : PE} {w : World} {s : St} (h : PS B w s) (hk : s.k < B.ts.length) (h7 : (tkA B.ts s.k).1 = 7) (ha : wordsY.any (fun x => x == (tkA B.ts s.k).2.1) = true) :
 Calls Tryz.prog 80 #[B.ptr] w fun e w' => e = .returned (.agg #[.int .i64 ((wordsY.findIdx (fun x => x == (tkA B.ts s.k).2.1) : Nat) : Int), .int .i64 ((tkA B.ts s.k).2.2 : Int), .string ⟨#[]⟩, .slice none 0 0, .slice none 0 0, .bool false]) ∧ Below w.heap.size w w' := by
 obtain ⟨W0, hW0⟩ : ∃ W0, w.alloc (.cells zTyp.toArray 40) = W0 := ⟨_, rfl⟩;have hB0 : Below w.heap.size w W0 := by rw [← hW0]; exact (zJx _ _).alloc (zJw _) _
 have hX0 : Blk W0 w.heap.size 40 zTyp.toArray := by rw [← hW0]; exact Blk.new w 40 _
 have cN := zbe (h.below hB0) hk;have cW := fun (W : World) (hW : Below w.heap.size w W) => zct (h.below hW) hk 4;have l0 := hX0.lt;generalize tkA B.ts s.k = t at cN cW h7 ha ⊢;have X0 := zJv hX0;have B0 := zJv hB0;clear h hX0 hB0;have e2 : ((t.1 : Int) == 2) = false := by rw [zKr]; omega
 have e7 : ((t.1 : Int) == 7) = true := by simp; omega
 have hge : decide ((0 : Int) ≤ ((wordsY.findIdx (fun x => x == t.2.1) : Nat) : Int)) = true := by simp
 go_enter Tryz.func80, Tryz.ntmps80
 go_wp2_with fail
 refine cN.mono ?_;rintro e w1 ⟨rfl, hb1⟩;obtain ⟨W2, hW2⟩ : ∃ W2, w1.alloc (.cells (tokL t).toArray 77) = W2 := ⟨_, rfl⟩;have hB2 : Below w1.heap.size w1 W2 := by rw [← hW2]; exact (zJx _ _).alloc (zJw _) _
 have hT2 : Blk W2 w1.heap.size 77 (tokL t).toArray := by rw [← hW2]; exact Blk.new w1 77 _
 obtain ⟨W3, hW3⟩ : ∃ W3, W2.alloc (.cells tyWordsV.toArray 132) = W3 := ⟨_, rfl⟩;have hB3 : Below W2.heap.size W2 W3 := by rw [← hW3]; exact (zJx _ _).alloc (zJw _) _
 have hX3 : Blk W3 W2.heap.size 132 tyWordsV.toArray := by rw [← hW3]; exact Blk.new W2 132 _
 have hT3 := hT2.below hB3 hT2.lt;have t0 := hT3.cell 0;have t1 := hT3.cell 1;have t2 := hT3.cell 2;simp only [gA, gB, gC] at t0 t1 t2;have r0 := hT2.cell 0;simp only [gA, gB] at r0;have hB02 : Below w.heap.size w W3 := (B0.out.trans (hb1.mono B0.out.size)).trans ((hB2.trans (hB3.mono hB2.size)).mono (zK4 B0.out.size hb1.size));have hY3 := X0.out.below (hb1.trans ((hB2.trans (hB3.mono hB2.size)).mono hb1.size)) l0
 have cI := fun (W : World) (hW : Below W3.heap.size W3 W) => zgz W2.heap.size 7 7 wordsY t.2.1 W rfl (by decide) (fun j x hx => by
  rw [hW.cell (p := ⟨W2.heap.size, j, none⟩) hX3.lt, hX3.cell j]
  match j, hx with
  | 0, hx => simp [wordsY] at hx; subst hx; rfl
  | 1, hx => simp [wordsY] at hx; subst hx; rfl
  | 2, hx => simp [wordsY] at hx; subst hx; rfl
  | 3, hx => simp [wordsY] at hx; subst hx; rfl
  | 4, hx => simp [wordsY] at hx; subst hx; rfl
  | 5, hx => simp [wordsY] at hx; subst hx; rfl
  | 6, hx => simp [wordsY] at hx; subst hx; rfl
  | j + 7, hx => simp [wordsY] at hx)
 rw [show ixS wordsY t.2.1 = ((wordsY.findIdx (fun x => x == t.2.1) : Nat) : Int) from by unfold ixS; rw [if_pos ha]] at cI;have Y3 := zJv hY3;have B3 := zJv hB02;have x0 := hY3.cell 0;have x1 := hY3.cell 1;have x2 := hY3.cell 2;have x3 := hY3.cell 3;have x4 := hY3.cell 4;have x5 := hY3.cell 5;have y0 := hY3.frozen 0;have y1 := hY3.frozen 1;have y2 := hY3.frozen 2;have y3 := hY3.frozen 3;have y4 := hY3.frozen 4;have y5 := hY3.frozen 5;simp only [gA, gB, gC] at x0 x1 x2 x3 x4 x5;clear hT3 hT2 hX3 hB02 hY3 hB2 hB3 hb1 cN h7 ha;go_wp2_with fail
 go_region_with (refine (cI _ (by exact (zJx _ W3).drew)).mono ?_; rintro e w4 ⟨rfl, rfl⟩)
 all_goals
  clear cI hW0 hW2 hW3 r0;have B4 : Hid (Below w.heap.size w W3.drew) := zJv B3.out.drew;have Y4 : Hid (Blk W3.drew w.heap.size 40 zTyp.toArray) := zJv (show Blk W3.drew w.heap.size 40 zTyp.toArray from Y3.out);have t0 : W3.drew.cell? ⟨w1.heap.size, 0, none⟩ = _ := t0;have t2 : W3.drew.cell? ⟨w1.heap.size, 2, none⟩ = _ := t2;have x0 : W3.drew.cell? ⟨w.heap.size, 0, none⟩ = _ := x0;have x1 : W3.drew.cell? ⟨w.heap.size, 1, none⟩ = _ := x1;have x2 : W3.drew.cell? ⟨w.heap.size, 2, none⟩ = _ := x2;have x3 : W3.drew.cell? ⟨w.heap.size, 3, none⟩ = _ := x3;have x4 : W3.drew.cell? ⟨w.heap.size, 4, none⟩ = _ := x4;have x5 : W3.drew.cell? ⟨w.heap.size, 5, none⟩ = _ := x5;have y0 : W3.drew.frozen? ⟨w.heap.size, 0, none⟩ = _ := y0;have y1 : W3.drew.frozen? ⟨w.heap.size, 1, none⟩ = _ := y1;have y2 : W3.drew.frozen? ⟨w.heap.size, 2, none⟩ = _ := y2;have y3 : W3.drew.frozen? ⟨w.heap.size, 3, none⟩ = _ := y3;have y4 : W3.drew.frozen? ⟨w.heap.size, 4, none⟩ = _ := y4;have y5 : W3.drew.frozen? ⟨w.heap.size, 5, none⟩ = _ := y5;clear B3 Y3;generalize W3.drew = W4 at *;generalize hZe : ((wordsY.findIdx (fun x => x == t.2.1) : Nat) : Int) = Z at hge ⊢;go_wp2_with fail
  have hZ := zfp (W := W4) Y4.out (.int .i64 Z) (.int .i64 (t.2.2 : Int)) (.string ⟨#[]⟩) (.slice none 0 0) (.slice none 0 0) (.bool false);have q0 := hZ.cell 0;have q1 := hZ.cell 1;have q2 := hZ.cell 2;have q3 := hZ.cell 3;have q4 := hZ.cell 4;have q5 := hZ.cell 5;simp only [gA, gB, gC] at q0 q1 q2 q3 q4 q5;exact bodyPost_ret (v := .agg [.int .i64 Z, .int .i64 (t.2.2 : Int), .string ⟨#[]⟩, .slice none 0 0, .slice none 0 0, .bool false].toArray) (by simp [results, Tryz.results80, go_sem, q0, q1, q2, q3, q4, q5]) rfl ⟨by rw [← hZe], zfb B4.out (zJw _) _ _ _ _ _ _⟩
set_option maxRecDepth 100000 in
theorem zr7 {B : PE} {w : World} {s : St} (h : PS B w s) (hk : s.k < B.ts.length) (h2 : (tkA B.ts s.k).1 ≠ 2) (h7 : (tkA B.ts s.k).1 ≠ 7) :
 Calls Tryz.prog 80 #[B.ptr] w fun e w' => e = zbi 4 (tkA B.ts s.k).2.2 ∧ Below w.heap.size w w' := by
 obtain ⟨W0, hW0⟩ : ∃ W0, w.alloc (.cells zTyp.toArray 40) = W0 := ⟨_, rfl⟩;have hB0 : Below w.heap.size w W0 := by rw [← hW0]; exact (zJx _ _).alloc (zJw _) _
 have hX0 : Blk W0 w.heap.size 40 zTyp.toArray := by rw [← hW0]; exact Blk.new w 40 _
 have cN := zbe (h.below hB0) hk;have cW := fun (W : World) (hW : Below w.heap.size w W) => zct (h.below hW) hk 4;have l0 := hX0.lt;generalize tkA B.ts s.k = t at cN cW h2 h7 ⊢;have X0 := zJv hX0;have B0 := zJv hB0;clear h hX0 hB0;have e2 : ((t.1 : Int) == 2) = false := by rw [zKr]; omega
 have e7 : ((t.1 : Int) == 7) = false := by rw [zKr]; omega
 go_enter Tryz.func80, Tryz.ntmps80
 go_wp2_with fail
 refine cN.mono ?_;rintro e w1 ⟨rfl, hb1⟩;obtain ⟨W2, hW2⟩ : ∃ W2, w1.alloc (.cells (tokL t).toArray 77) = W2 := ⟨_, rfl⟩;have hB2 : Below w1.heap.size w1 W2 := by rw [← hW2]; exact (zJx _ _).alloc (zJw _) _
 have hT2 : Blk W2 w1.heap.size 77 (tokL t).toArray := by rw [← hW2]; exact Blk.new w1 77 _
 obtain ⟨W3, hW3⟩ : ∃ W3, W2.alloc (.cells tyWordsV.toArray 132) = W3 := ⟨_, rfl⟩;have hB3 : Below W2.heap.size W2 W3 := by rw [← hW3]; exact (zJx _ _).alloc (zJw _) _
 have hX3 : Blk W3 W2.heap.size 132 tyWordsV.toArray := by rw [← hW3]; exact Blk.new W2 132 _
 have hT3 := hT2.below hB3 hT2.lt;have t0 := hT3.cell 0;have t1 := hT3.cell 1;have t2 := hT3.cell 2;simp only [gA, gB, gC] at t0 t1 t2;have r0 := hT2.cell 0;simp only [gA, gB] at r0;have hB02 : Below w.heap.size w W3 := (B0.out.trans (hb1.mono B0.out.size)).trans ((hB2.trans (hB3.mono hB2.size)).mono (zK4 B0.out.size hb1.size));have hY3 := X0.out.below (hb1.trans ((hB2.trans (hB3.mono hB2.size)).mono hb1.size)) l0
 have cI := fun (W : World) (hW : Below W3.heap.size W3 W) => zgz W2.heap.size 7 7 wordsY t.2.1 W rfl (by decide) (fun j x hx => by
  rw [hW.cell (p := ⟨W2.heap.size, j, none⟩) hX3.lt, hX3.cell j]
  match j, hx with
  | 0, hx => simp [wordsY] at hx; subst hx; rfl
  | 1, hx => simp [wordsY] at hx; subst hx; rfl
  | 2, hx => simp [wordsY] at hx; subst hx; rfl
  | 3, hx => simp [wordsY] at hx; subst hx; rfl
  | 4, hx => simp [wordsY] at hx; subst hx; rfl
  | 5, hx => simp [wordsY] at hx; subst hx; rfl
  | 6, hx => simp [wordsY] at hx; subst hx; rfl
  | j + 7, hx => simp [wordsY] at hx)
 generalize ixS wordsY t.2.1 = Z at cI;have Y3 := zJv hY3;have B3 := zJv hB02;have x0 := hY3.cell 0;have x1 := hY3.cell 1;have x2 := hY3.cell 2;have x3 := hY3.cell 3;have x4 := hY3.cell 4;have x5 := hY3.cell 5;have y0 := hY3.frozen 0;have y1 := hY3.frozen 1;have y2 := hY3.frozen 2;have y3 := hY3.frozen 3;have y4 := hY3.frozen 4;have y5 := hY3.frozen 5;simp only [gA, gB, gC] at x0 x1 x2 x3 x4 x5;clear hT3 hT2 hX3 hB02 hY3 hB2 hB3 hb1 cN h2 h7;go_wp2_with fail
 go_region_with (refine (cI _ (by exact (zJx _ W3).drew)).mono ?_; rintro e w4 ⟨rfl, rfl⟩)
 all_goals
  clear cI hW0 hW2 hW3 r0;have B4 : Hid (Below w.heap.size w W3.drew) := zJv B3.out.drew;have Y4 : Hid (Blk W3.drew w.heap.size 40 zTyp.toArray) := zJv (show Blk W3.drew w.heap.size 40 zTyp.toArray from Y3.out);have t0 : W3.drew.cell? ⟨w1.heap.size, 0, none⟩ = _ := t0;have t2 : W3.drew.cell? ⟨w1.heap.size, 2, none⟩ = _ := t2;have x0 : W3.drew.cell? ⟨w.heap.size, 0, none⟩ = _ := x0;have x1 : W3.drew.cell? ⟨w.heap.size, 1, none⟩ = _ := x1;have x2 : W3.drew.cell? ⟨w.heap.size, 2, none⟩ = _ := x2;have x3 : W3.drew.cell? ⟨w.heap.size, 3, none⟩ = _ := x3;have x4 : W3.drew.cell? ⟨w.heap.size, 4, none⟩ = _ := x4;have x5 : W3.drew.cell? ⟨w.heap.size, 5, none⟩ = _ := x5;have y0 : W3.drew.frozen? ⟨w.heap.size, 0, none⟩ = _ := y0;have y1 : W3.drew.frozen? ⟨w.heap.size, 1, none⟩ = _ := y1;have y2 : W3.drew.frozen? ⟨w.heap.size, 2, none⟩ = _ := y2;have y3 : W3.drew.frozen? ⟨w.heap.size, 3, none⟩ = _ := y3;have y4 : W3.drew.frozen? ⟨w.heap.size, 4, none⟩ = _ := y4;have y5 : W3.drew.frozen? ⟨w.heap.size, 5, none⟩ = _ := y5;clear B3 Y3;generalize W3.drew = W4 at *;rcases hz : decide ((0 : Int) ≤ Z) with _ | _
  · go_wp2_with fail
    refine (cW W4 B4.out).mono ?_;rintro e w5 ⟨rfl, hb5⟩;have B5 := zJv (B4.out.trans (hb5.mono B4.out.size));clear hb5 cW;go_wp2_with fail
    exact ⟨rfl, rfl, B5.out⟩
  · go_wp2_with fail
    refine (cW W4 B4.out).mono ?_;rintro e w5 ⟨rfl, hb5⟩;have B5 := zJv (B4.out.trans (hb5.mono B4.out.size));clear hb5 cW;go_wp2_with fail
    exact ⟨rfl, rfl, B5.out⟩
set_option maxRecDepth 100000 in
theorem zvf {B : PE} {w : World} {s : St} (h : PS B w s) (hk : s.k < B.ts.length) (h2 : (tkA B.ts s.k).1 ≠ 2) (ha : wordsY.any (fun x => x == (tkA B.ts s.k).2.1) = false) :
 Calls Tryz.prog 80 #[B.ptr] w fun e w' => e = zbi 4 (tkA B.ts s.k).2.2 ∧ Below w.heap.size w w' := by
 obtain ⟨W0, hW0⟩ : ∃ W0, w.alloc (.cells zTyp.toArray 40) = W0 := ⟨_, rfl⟩;have hB0 : Below w.heap.size w W0 := by rw [← hW0]; exact (zJx _ _).alloc (zJw _) _
 have hX0 : Blk W0 w.heap.size 40 zTyp.toArray := by rw [← hW0]; exact Blk.new w 40 _
 have cN := zbe (h.below hB0) hk;have cW := fun (W : World) (hW : Below w.heap.size w W) => zct (h.below hW) hk 4;have l0 := hX0.lt;generalize tkA B.ts s.k = t at cN cW h2 ha ⊢;have X0 := zJv hX0;have B0 := zJv hB0;clear h hX0 hB0;have e2 : ((t.1 : Int) == 2) = false := by rw [zKr]; omega
 go_enter Tryz.func80, Tryz.ntmps80
 go_wp2_with fail
 refine cN.mono ?_;rintro e w1 ⟨rfl, hb1⟩;obtain ⟨W2, hW2⟩ : ∃ W2, w1.alloc (.cells (tokL t).toArray 77) = W2 := ⟨_, rfl⟩;have hB2 : Below w1.heap.size w1 W2 := by rw [← hW2]; exact (zJx _ _).alloc (zJw _) _
 have hT2 : Blk W2 w1.heap.size 77 (tokL t).toArray := by rw [← hW2]; exact Blk.new w1 77 _
 obtain ⟨W3, hW3⟩ : ∃ W3, W2.alloc (.cells tyWordsV.toArray 132) = W3 := ⟨_, rfl⟩;have hB3 : Below W2.heap.size W2 W3 := by rw [← hW3]; exact (zJx _ _).alloc (zJw _) _
 have hX3 : Blk W3 W2.heap.size 132 tyWordsV.toArray := by rw [← hW3]; exact Blk.new W2 132 _
 have hT3 := hT2.below hB3 hT2.lt;have t0 := hT3.cell 0;have t1 := hT3.cell 1;have t2 := hT3.cell 2;simp only [gA, gB, gC] at t0 t1 t2;have r0 := hT2.cell 0;simp only [gA, gB] at r0;have hB02 : Below w.heap.size w W3 := (B0.out.trans (hb1.mono B0.out.size)).trans ((hB2.trans (hB3.mono hB2.size)).mono (zK4 B0.out.size hb1.size));have hY3 := X0.out.below (hb1.trans ((hB2.trans (hB3.mono hB2.size)).mono hb1.size)) l0
 have cI := fun (W : World) (hW : Below W3.heap.size W3 W) => zgz W2.heap.size 7 7 wordsY t.2.1 W rfl (by decide) (fun j x hx => by
  rw [hW.cell (p := ⟨W2.heap.size, j, none⟩) hX3.lt, hX3.cell j]
  match j, hx with
  | 0, hx => simp [wordsY] at hx; subst hx; rfl
  | 1, hx => simp [wordsY] at hx; subst hx; rfl
  | 2, hx => simp [wordsY] at hx; subst hx; rfl
  | 3, hx => simp [wordsY] at hx; subst hx; rfl
  | 4, hx => simp [wordsY] at hx; subst hx; rfl
  | 5, hx => simp [wordsY] at hx; subst hx; rfl
  | 6, hx => simp [wordsY] at hx; subst hx; rfl
  | j + 7, hx => simp [wordsY] at hx)
 rw [show ixS wordsY t.2.1 = -1 from by unfold ixS; rw [if_neg (by rw [ha]; decide)]] at cI;have Y3 := zJv hY3;have B3 := zJv hB02;have x0 := hY3.cell 0;have x1 := hY3.cell 1;have x2 := hY3.cell 2;have x3 := hY3.cell 3;have x4 := hY3.cell 4;have x5 := hY3.cell 5;have y0 := hY3.frozen 0;have y1 := hY3.frozen 1;have y2 := hY3.frozen 2;have y3 := hY3.frozen 3;have y4 := hY3.frozen 4;have y5 := hY3.frozen 5;simp only [gA, gB, gC] at x0 x1 x2 x3 x4 x5;clear hT3 hT2 hX3 hB02 hY3 hB2 hB3 hb1 cN h2 ha;go_wp2_with fail
 go_region_with (refine (cI _ (by exact (zJx _ W3).drew)).mono ?_; rintro e w4 ⟨rfl, rfl⟩)
 all_goals
  clear cI hW0 hW2 hW3 r0;have B4 : Hid (Below w.heap.size w W3.drew) := zJv B3.out.drew;have Y4 : Hid (Blk W3.drew w.heap.size 40 zTyp.toArray) := zJv (show Blk W3.drew w.heap.size 40 zTyp.toArray from Y3.out);have t0 : W3.drew.cell? ⟨w1.heap.size, 0, none⟩ = _ := t0;have t2 : W3.drew.cell? ⟨w1.heap.size, 2, none⟩ = _ := t2;have x0 : W3.drew.cell? ⟨w.heap.size, 0, none⟩ = _ := x0;have x1 : W3.drew.cell? ⟨w.heap.size, 1, none⟩ = _ := x1;have x2 : W3.drew.cell? ⟨w.heap.size, 2, none⟩ = _ := x2;have x3 : W3.drew.cell? ⟨w.heap.size, 3, none⟩ = _ := x3;have x4 : W3.drew.cell? ⟨w.heap.size, 4, none⟩ = _ := x4;have x5 : W3.drew.cell? ⟨w.heap.size, 5, none⟩ = _ := x5;have y0 : W3.drew.frozen? ⟨w.heap.size, 0, none⟩ = _ := y0;have y1 : W3.drew.frozen? ⟨w.heap.size, 1, none⟩ = _ := y1;have y2 : W3.drew.frozen? ⟨w.heap.size, 2, none⟩ = _ := y2;have y3 : W3.drew.frozen? ⟨w.heap.size, 3, none⟩ = _ := y3;have y4 : W3.drew.frozen? ⟨w.heap.size, 4, none⟩ = _ := y4;have y5 : W3.drew.frozen? ⟨w.heap.size, 5, none⟩ = _ := y5;clear B3 Y3;generalize W3.drew = W4 at *;go_wp2_with fail
  refine (cW W4 B4.out).mono ?_;rintro e w5 ⟨rfl, hb5⟩;have B5 := zJv (B4.out.trans (hb5.mono B4.out.size));clear hb5 cW;go_wp2_with fail
  exact ⟨rfl, rfl, B5.out⟩
theorem zjq (t : Tk) : (∃ x, zc0 t = some x ∧ t.1 = 2 ∧ x = ⟨10, (t.2.2 : Nat), bs t.2.1, [], [], false⟩) ∨ (∃ x, zc0 t = some x ∧ t.1 = 7 ∧ wordsY.any (fun x => x == t.2.1) = true ∧ x = ⟨(wordsY.findIdx (fun x => x == t.2.1) : Nat), (t.2.2 : Nat), bs [], [], [], false⟩) ∨ (zc0 t = none ∧ t.1 ≠ 2 ∧ (t.1 ≠ 7 ∨ wordsY.any (fun x => x == t.2.1) = false)) := by
 unfold zc0;by_cases h2 : t.1 = 2
 · rw [if_pos h2]
   exact .inl ⟨_, rfl, h2, rfl⟩
 rw [if_neg h2];by_cases h7 : t.1 = 7 ∧ wordsY.any (fun x => x == t.2.1) = true
 · rw [if_pos h7]
   exact .inr (.inl ⟨_, rfl, h7.1, h7.2, rfl⟩)
 · rw [if_neg h7]
   refine .inr (.inr ⟨rfl, h2, ?_⟩);by_cases h : t.1 = 7
   · refine .inr ?_
     cases hx : wordsY.any (fun x => x == t.2.1) with
     | false => rfl
     | true => exact absurd ⟨h, hx⟩ h7
   · exact .inl h
theorem zwl {ts : List Tk} {B : PE} {w : World} {s : St} (hBts : B.ts = ts) (h : PS B w s) (hk : s.k < ts.length) :
 Calls Tryz.prog 80 #[B.ptr] w fun e w' => (match zc0 (tkA ts s.k) with
  | some x => e = .returned (.agg (za4 x nP2).toArray)
  | none => e = zbi 4 (posA ts s)) ∧ Below w.heap.size w w' := by
 subst hBts;rcases zjq (tkA B.ts s.k) with ⟨x, e, h2, rfl⟩ | ⟨x, e, h7, ha, rfl⟩ | ⟨e, h2, h⟩
 · rw [e]
   exact zta h hk h2
 · rw [e]
   exact zwt h hk h7 ha
 · rw [e]
   rcases h with h7 | ha
   · exact zr7 (by assumption) hk h2 h7
   · exact zvf (by assumption) hk h2 ha
end Go.Proofs.YtidmeodmkcomlaaGreatDoor
