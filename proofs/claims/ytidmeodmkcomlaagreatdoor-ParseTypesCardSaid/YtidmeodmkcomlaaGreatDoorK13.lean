/- The term that a token is. -/
import Derived.Test.YtidmeodmkcomlaaGreatDoorK12
set_option linter.unusedSimpArgs false
set_option linter.unusedVariables false
namespace Go.Proofs.YtidmeodmkcomlaaGreatDoor
open Go Go.Proofs Go.RowKit
set_option maxHeartbeats 8000000
abbrev nP3 : Ptr3 := ⟨none, 0, none, 0, none, 0⟩
abbrev zTerm : List Value := [.int .i64 0, .int .i64 0, .string ⟨#[]⟩, .int .i64 0, .int .u64 0, .slice none 0 0, .slice none 0 0, .slice none 0 0]
theorem zcm (l : List UInt8) : (bs l).size = l.length := by simp [bs, ByteArray.size]
theorem zn6 (l : List UInt8) : (bs l).data.toList = l := by simp [bs]
theorem zd7 {W : World} {g : Nat} {t : TypeId} {z0 z1 z2 z3 z4 z5 z6 z7 : Value} (h : Blk W g t [z0, z1, z2, z3, z4, z5, z6, z7].toArray) (v0 v1 v2 v3 v4 v5 v6 v7 : Value) : Blk ((((((((W.setCell ⟨g, 0, none⟩ v0).setCell ⟨g, 1, none⟩ v1).setCell ⟨g, 2, none⟩ v2).setCell ⟨g, 3, none⟩ v3).setCell ⟨g, 4, none⟩ v4).setCell ⟨g, 5, none⟩ v5).setCell ⟨g, 6, none⟩ v6).setCell ⟨g, 7, none⟩ v7) g t [v0, v1, v2, v3, v4, v5, v6, v7].toArray := by
 have := (((((((h.set_ 0 v0).set_ 1 v1).set_ 2 v2).set_ 3 v3).set_ 4 v4).set_ 5 v5).set_ 6 v6).set_ 7 v7;simpa using this
theorem zc9 {w W : World} {n g : Nat} (h : Below n w W) (hg : n ≤ g) (v0 v1 v2 v3 v4 v5 v6 v7 : Value) : Below n w ((((((((W.setCell ⟨g, 0, none⟩ v0).setCell ⟨g, 1, none⟩ v1).setCell ⟨g, 2, none⟩ v2).setCell ⟨g, 3, none⟩ v3).setCell ⟨g, 4, none⟩ v4).setCell ⟨g, 5, none⟩ v5).setCell ⟨g, 6, none⟩ v6).setCell ⟨g, 7, none⟩ v7) :=
 (((((((h.setCell (p := ⟨g, 0, none⟩) hg _).setCell (p := ⟨g, 1, none⟩) hg _).setCell (p := ⟨g, 2, none⟩) hg _).setCell (p := ⟨g, 3, none⟩) hg _).setCell (p := ⟨g, 4, none⟩) hg _).setCell (p := ⟨g, 5, none⟩) hg _).setCell (p := ⟨g, 6, none⟩) hg _).setCell (p := ⟨g, 7, none⟩) hg _
theorem zb5 {B : PE} {w : World} {s : St} (h : PS B w s) (hk : s.k < B.ts.length) (xs : List (List UInt8)) (n : Nat) (hn : xs.length = n) (hb : n ≤ 70000) (V : Array Value) (hV : V = (xs.map fun x => Value.string (bs x)).toArray) :
 Calls Tryz.prog 47 #[B.ptr, .slice (some ⟨w.heap.size, 0, none⟩) n n] (w.alloc (.cells V 9)) fun e w' => e = .returned (.bool (za2 (tkA B.ts s.k) xs)) ∧ Below w.heap.size w w' := by
 have hB0 : Below w.heap.size w (w.alloc (.cells V 9)) := (zJx _ _).alloc (zJw _) _;have hX : Blk (w.alloc (.cells V 9)) w.heap.size 9 V := Blk.new w 9 V;refine (zdu (h.below hB0) hk w.heap.size n n xs hn hb hX.lt (fun j x hx => ?_)).mono (fun e w' q => ⟨q.1, hB0.trans (q.2.mono hB0.size)⟩);rw [hX.cell j, hV];simp [hx]
abbrev zao (e : Nat) (p : Nat) : Value := .agg #[.int .i64 (e : Int), .int .i64 (p : Int), .string ⟨#[]⟩]
abbrev zbi (e p : Nat) : Ending := .panicked [{ v := .iface 30 (zao e p), recovered := false }]
theorem zct {B : PE} {w : World} {s : St} (h : PS B w s) (hk : s.k < B.ts.length) (c : Nat) : Calls Tryz.prog 71 #[B.ptr, .int .i64 (c : Int)] w fun e w' => e = .returned (zao c (tkA B.ts s.k).2.2) ∧ Below w.heap.size w w' := by
 obtain ⟨W0, hW0⟩ : ∃ W0, w.alloc (.cells #[.int .i64 0, .int .i64 0, .string ⟨#[]⟩] 30) = W0 := ⟨_, rfl⟩;have hB0 : Below w.heap.size w W0 := by rw [← hW0]; exact (zJx _ _).alloc (zJw _) _
 have hX0 : Blk W0 w.heap.size 30 #[.int .i64 0, .int .i64 0, .string ⟨#[]⟩] := by rw [← hW0]; exact Blk.new w 30 _
 have cN := zbe (h.below hB0) hk;generalize tkA B.ts s.k = t at cN ⊢;have hfd := tokF2;have X0 := zJv hX0;have B0 := zJv hB0;have l0 := hX0.lt;clear h hX0 hB0;go_enter Tryz.func71, Tryz.ntmps71
 go_wp2_with fail
 with_reducible refine cN.mono ?_
 rintro e w1 ⟨rfl, hb1⟩;have hX1 := X0.out.below hb1 l0;have x0 := hX1.cell 0;have x1 := hX1.cell 1;have x2 := hX1.cell 2;have y0 := hX1.frozen 0;have y1 := hX1.frozen 1;have y2 := hX1.frozen 2;simp only [gA, gB, gC] at x0 x1 x2;have X1 := zJv hX1;have B1 := zJv (B0.out.trans (hb1.mono B0.out.size));clear hX1 hb1 cN hW0;go_wp2_with fail
 have hZ := ((X1.out.set_ 0 (.int .i64 (c : Int))).set_ 1 (.int .i64 (t.2.2 : Int))).set_ 2 (.string ⟨#[]⟩);have q0 := hZ.cell 0;have q1 := hZ.cell 1;have q2 := hZ.cell 2;simp only [sA, sB, sC, gA, gB, gC] at q0 q1 q2;have h0 : w.heap.size ≤ w.heap.size := zJw _;exact bodyPost_ret (v := zao c t.2.2) (by simp [results, Tryz.results71, go_sem, q0, q1, q2]) rfl ⟨rfl, ((B1.out.setCell (p := ⟨w.heap.size, 0, none⟩) h0 _).setCell (p := ⟨w.heap.size, 1, none⟩) h0 _).setCell (p := ⟨w.heap.size, 2, none⟩) h0 _⟩
set_option maxRecDepth 100000 in
theorem zkx {B : PE} {w : World} {s : St} (h : PS B w s) (hk : s.k < B.ts.length) (x : TermD) (hx : leafM (tkA B.ts s.k) = some x) (hlen : (tkA B.ts s.k).2.1.length ≤ 1048576)
 (hint : (tkA B.ts s.k).1 = 4 → ∃ v, Lib.parseIntB 64 (tkA B.ts s.k).2.1 = .ok v) (hflt : (tkA B.ts s.k).1 = 5 → ∃ v, zdd (bs (tkA B.ts s.k).2.1) = some v) :
 Calls Tryz.prog 175 #[B.ptr] w fun e w' => e = .returned (.agg (za1 x nP3).toArray) ∧ Below w.heap.size w w' := by
 obtain ⟨W0, hW0⟩ : ∃ W0, w.alloc (.cells zTerm.toArray 38) = W0 := ⟨_, rfl⟩;have hB0 : Below w.heap.size w W0 := by rw [← hW0]; exact (zJx _ _).alloc (zJw _) _
 have hX0 : Blk W0 w.heap.size 38 zTerm.toArray := by rw [← hW0]; exact Blk.new w 38 _
 have cN := zbe (h.below hB0) hk;have cS := fun (x : List UInt8) (W : World) (hW : Below W0.heap.size W0 W) => zb5 ((h.below hB0).below hW) hk [x] 1 rfl (by decide) #[.string ⟨x.toArray⟩] rfl;have cW := fun (W : World) (hW : Below W0.heap.size W0 W) => zct ((h.below hB0).below hW) hk 4;have l0 := hX0.lt;generalize tkA B.ts s.k = t at cN hx hlen hint hflt cS cW;have hX := zJv hx;clear hx h;go_enter Tryz.func175, Tryz.ntmps175
 go_wp2_with fail
 with_reducible refine cN.mono ?_
 rintro e w1 ⟨rfl, hb1⟩;obtain ⟨W2, hW2⟩ : ∃ W2, w1.alloc (.cells (tokL t).toArray 77) = W2 := ⟨_, rfl⟩;have hB2 : Below W0.heap.size W0 W2 := by rw [← hW2]; exact hb1.alloc hb1.size _
 have hT2 : Blk W2 w1.heap.size 77 (tokL t).toArray := by rw [← hW2]; exact Blk.new w1 77 _
 have hX2 := hX0.below hB2 l0;have t0 := hT2.cell 0;have t1 := hT2.cell 1;have t2 := hT2.cell 2;simp only [gA, gB, gC] at t0 t1 t2;have x0 := hX2.cell 0;have x1 := hX2.cell 1;have x2 := hX2.cell 2;have x3 := hX2.cell 3;have x4 := hX2.cell 4;have x5 := hX2.cell 5;have x6 := hX2.cell 6;have x7 := hX2.cell 7;have y0 := hX2.frozen 0;have y1 := hX2.frozen 1;have y2 := hX2.frozen 2;have y3 := hX2.frozen 3;have y4 := hX2.frozen 4;have y5 := hX2.frozen 5;have y6 := hX2.frozen 6;have y7 := hX2.frozen 7;simp only [gA, gB, gC] at x0 x1 x2 x3 x4 x5 x6 x7;have XX := zJv hX2;have TT := zJv hT2;have BB := zJv (hB0.trans (hB2.mono hB0.size));have B2 := zJv hB2;clear hX2 hT2 hB2 hX0 hB0 cN hb1;by_cases e1 : t.1 = 1
 · have hx := hX.out
   unfold leafM at hx;rw [if_pos e1] at hx;have e1' : (t.1 : Int) = 1 := by omega
   rw [e1'] at t0;injection hx with hx
   subst hx;clear e1 e1' hX cS cW;go_wp2_with fail
   have hZ := zd7 XX.out (.int .i64 0) (.int .i64 (t.2.2 : Int)) (.string (bs t.2.1)) (.int .i64 0) (.int .u64 0) (.slice none 0 0) (.slice none 0 0) (.slice none 0 0);have q0 := hZ.cell 0;have q1 := hZ.cell 1;have q2 := hZ.cell 2;have q3 := hZ.cell 3;have q4 := hZ.cell 4;have q5 := hZ.cell 5;have q6 := hZ.cell 6;have q7 := hZ.cell 7;simp only [gA, gB, gC] at q0 q1 q2 q3 q4 q5 q6 q7;exact bodyPost_ret (v := .agg [.int .i64 0, .int .i64 (t.2.2 : Int), .string (bs t.2.1), .int .i64 0, .int .u64 0, .slice none 0 0, .slice none 0 0, .slice none 0 0].toArray) (by simp [results, Tryz.results175, go_sem, q0, q1, q2, q3, q4, q5, q6, q7]) rfl ⟨rfl, zc9 BB.out (zJw _) _ _ _ _ _ _ _ _⟩
 by_cases e6 : t.1 = 6
 · have hx := hX.out
   unfold leafM at hx;rw [if_neg e1, if_pos e6] at hx;have e6' : (t.1 : Int) = 6 := by omega
   rw [e6'] at t0;injection hx with hx
   subst hx;clear e6 e6' hX cS cW;go_wp2_with fail
   have hZ := zd7 XX.out (.int .i64 3) (.int .i64 (t.2.2 : Int)) (.string (bs t.2.1)) (.int .i64 0) (.int .u64 0) (.slice none 0 0) (.slice none 0 0) (.slice none 0 0);have q0 := hZ.cell 0;have q1 := hZ.cell 1;have q2 := hZ.cell 2;have q3 := hZ.cell 3;have q4 := hZ.cell 4;have q5 := hZ.cell 5;have q6 := hZ.cell 6;have q7 := hZ.cell 7;simp only [gA, gB, gC] at q0 q1 q2 q3 q4 q5 q6 q7;exact bodyPost_ret (v := .agg [.int .i64 3, .int .i64 (t.2.2 : Int), .string (bs t.2.1), .int .i64 0, .int .u64 0, .slice none 0 0, .slice none 0 0, .slice none 0 0].toArray) (by simp [results, Tryz.results175, go_sem, q0, q1, q2, q3, q4, q5, q6, q7]) rfl ⟨rfl, zc9 BB.out (zJw _) _ _ _ _ _ _ _ _⟩
 by_cases e4 : t.1 = 4
 · have hx := hX.out
   unfold leafM at hx;rw [if_neg e1, if_neg e6, if_pos e4] at hx;have e4' : (t.1 : Int) = 4 := by omega
   rw [e4'] at t0;obtain ⟨v, hp⟩ := hint e4;rw [hp] at hx;injection hx with hx
   subst hx;have cP := fun (W : World) => Tryz.strconv_ParseInt_10_at64_ok (bs t.2.1) (by rw [zcm]; omega) v (by rw [zn6]; exact hp) W;clear e1 e6 e4 e4' hX hp cS cW;go_wp2_with fail
   with_reducible refine (cP W2).mono ?_
   rintro e w4 ⟨rfl, hw4⟩
   have hb4 : Below W2.heap.size W2 w4 := by
    rcases hw4 with rfl | ⟨b, rfl⟩
    · exact zJx _ _
    · exact Go.Joins.below_bytesWorld _ _ _ _ (zJw _)
   have X4 := XX.out.below hb4 XX.out.lt;have l1 : w1.heap.size < W2.heap.size := by rw [← hW2]; simp
   have BB4 := zJv (BB.out.trans (hb4.mono BB.out.size));have r0 := (hb4.cell (p := ⟨w1.heap.size, 0, none⟩) l1).trans t0;have r1 := (hb4.cell (p := ⟨w1.heap.size, 1, none⟩) l1).trans t1;have r2 := (hb4.cell (p := ⟨w1.heap.size, 2, none⟩) l1).trans t2;clear x0 x1 x2 x3 x4 x5 x6 x7 y0 y1 y2 y3 y4 y5 y6 y7 t0 t1 t2;have x0 := X4.cell 0;have x1 := X4.cell 1;have x2 := X4.cell 2;have x3 := X4.cell 3;have x4 := X4.cell 4;have x5 := X4.cell 5;have x6 := X4.cell 6;have x7 := X4.cell 7;have y0 := X4.frozen 0;have y1 := X4.frozen 1;have y2 := X4.frozen 2;have y3 := X4.frozen 3;have y4 := X4.frozen 4;have y5 := X4.frozen 5;have y6 := X4.frozen 6;have y7 := X4.frozen 7;simp only [gA, gB, gC] at x0 x1 x2 x3 x4 x5 x6 x7;have XX4 := zJv X4;clear X4 hw4 hb4 cP;go_wp2_with fail
   have hZ := zd7 XX4.out (.int .i64 1) (.int .i64 (t.2.2 : Int)) (.string ⟨#[]⟩) (.int .i64 v) (.int .u64 0) (.slice none 0 0) (.slice none 0 0) (.slice none 0 0);have q0 := hZ.cell 0;have q1 := hZ.cell 1;have q2 := hZ.cell 2;have q3 := hZ.cell 3;have q4 := hZ.cell 4;have q5 := hZ.cell 5;have q6 := hZ.cell 6;have q7 := hZ.cell 7;simp only [gA, gB, gC] at q0 q1 q2 q3 q4 q5 q6 q7;exact bodyPost_ret (v := .agg [.int .i64 1, .int .i64 (t.2.2 : Int), .string ⟨#[]⟩, .int .i64 v, .int .u64 0, .slice none 0 0, .slice none 0 0, .slice none 0 0].toArray) (by simp [results, Tryz.results175, go_sem, q0, q1, q2, q3, q4, q5, q6, q7]) rfl ⟨rfl, zc9 BB4.out (zJw _) _ _ _ _ _ _ _ _⟩
 by_cases e5 : t.1 = 5
 · have hx := hX.out
   unfold leafM at hx;rw [if_neg e1, if_neg e6, if_neg e4, if_pos e5] at hx;have e5' : (t.1 : Int) = 5 := by omega
   rw [e5'] at t0;obtain ⟨v, hp⟩ := hflt e5;rw [hp] at hx;injection hx with hx
   subst hx;have cP := fun (W : World) => zpc (bs t.2.1) (by rw [zcm]; omega) W;rw [hp] at cP;unfold zf1 at cP;dsimp only at cP;clear e1 e6 e4 e5 e5' hX hp cS cW;go_wp2_with fail
   with_reducible refine (cP W2).mono ?_
   rintro e w4 ⟨rfl, rfl⟩;go_wp2_with fail
   have hZ := zd7 XX.out (.int .i64 4) (.int .i64 (t.2.2 : Int)) (.string ⟨#[]⟩) (.int .i64 0) (.int .u64 (norm v : Nat)) (.slice none 0 0) (.slice none 0 0) (.slice none 0 0);have q0 := hZ.cell 0;have q1 := hZ.cell 1;have q2 := hZ.cell 2;have q3 := hZ.cell 3;have q4 := hZ.cell 4;have q5 := hZ.cell 5;have q6 := hZ.cell 6;have q7 := hZ.cell 7;simp only [gA, gB, gC] at q0 q1 q2 q3 q4 q5 q6 q7;exact bodyPost_ret (v := .agg [.int .i64 4, .int .i64 (t.2.2 : Int), .string ⟨#[]⟩, .int .i64 0, .int .u64 (norm v : Nat), .slice none 0 0, .slice none 0 0, .slice none 0 0].toArray) (by simp [results, Tryz.results175, go_sem, q0, q1, q2, q3, q4, q5, q6, q7]) rfl ⟨rfl, zc9 BB.out (zJw _) _ _ _ _ _ _ _ _⟩
 by_cases htrue : za2 t [[116, 114, 117, 101]] = true
 · have hx := hX.out
   unfold leafM at hx;rw [if_neg e1, if_neg e6, if_neg e4, if_neg e5, if_pos htrue] at hx;injection hx with hx
   subst hx
   have e78 : t.1 = 7 ∨ t.1 = 8 := by
    unfold za2 at htrue;simp at htrue
    exact htrue.1
   have cA := cS [116, 114, 117, 101] W2 B2.out;rw [htrue] at cA;obtain ⟨kd, hkd⟩ : ∃ kd : Int, kd = (t.1 : Int) := ⟨_, rfl⟩;have k1 : (kd == 1) = false := by rw [zKr]; omega
   have k6 : (kd == 6) = false := by rw [zKr]; omega
   have k4 : (kd == 4) = false := by rw [zKr]; omega
   have k5 : (kd == 5) = false := by rw [zKr]; omega
   rw [← hkd] at t0;clear hX e1 e4 e5 e6 e78 hint hflt cW hkd;clear hW0;go_wp2_with fail
   refine cA.mono ?_;rintro e w4 ⟨rfl, hb4⟩;have X4 := XX.out.below hb4 XX.out.lt;have l1 : w1.heap.size < W2.heap.size := by rw [← hW2]; simp
   have BB4 := zJv (BB.out.trans (hb4.mono BB.out.size));have r0 := (hb4.cell (p := ⟨w1.heap.size, 0, none⟩) l1).trans t0;have r1 := (hb4.cell (p := ⟨w1.heap.size, 1, none⟩) l1).trans t1;have r2 := (hb4.cell (p := ⟨w1.heap.size, 2, none⟩) l1).trans t2;clear x0 x1 x2 x3 x4 x5 x6 x7 y0 y1 y2 y3 y4 y5 y6 y7 t0 t1 t2;have x0 := X4.cell 0;have x1 := X4.cell 1;have x2 := X4.cell 2;have x3 := X4.cell 3;have x4 := X4.cell 4;have x5 := X4.cell 5;have x6 := X4.cell 6;have x7 := X4.cell 7;have y0 := X4.frozen 0;have y1 := X4.frozen 1;have y2 := X4.frozen 2;have y3 := X4.frozen 3;have y4 := X4.frozen 4;have y5 := X4.frozen 5;have y6 := X4.frozen 6;have y7 := X4.frozen 7;simp only [gA, gB, gC] at x0 x1 x2 x3 x4 x5 x6 x7;have XX4 := zJv X4;clear X4 hb4 cA cS;go_wp2_with fail
   have hZ := zd7 XX4.out (.int .i64 2) (.int .i64 (t.2.2 : Int)) (.string ⟨#[]⟩) (.int .i64 1) (.int .u64 0) (.slice none 0 0) (.slice none 0 0) (.slice none 0 0);have q0 := hZ.cell 0;have q1 := hZ.cell 1;have q2 := hZ.cell 2;have q3 := hZ.cell 3;have q4 := hZ.cell 4;have q5 := hZ.cell 5;have q6 := hZ.cell 6;have q7 := hZ.cell 7;simp only [gA, gB, gC] at q0 q1 q2 q3 q4 q5 q6 q7;exact bodyPost_ret (v := .agg [.int .i64 2, .int .i64 (t.2.2 : Int), .string ⟨#[]⟩, .int .i64 1, .int .u64 0, .slice none 0 0, .slice none 0 0, .slice none 0 0].toArray) (by simp [results, Tryz.results175, go_sem, q0, q1, q2, q3, q4, q5, q6, q7]) rfl ⟨rfl, zc9 BB4.out (zJw _) _ _ _ _ _ _ _ _⟩
 by_cases hfalse : za2 t [[102, 97, 108, 115, 101]] = true
 · have hx := hX.out
   unfold leafM at hx;rw [if_neg e1, if_neg e6, if_neg e4, if_neg e5, if_neg htrue, if_pos hfalse] at hx;injection hx with hx
   subst hx
   have e78 : t.1 = 7 ∨ t.1 = 8 := by
    unfold za2 at hfalse;simp at hfalse
    exact hfalse.1
   have cA := cS [116, 114, 117, 101] W2 B2.out;rw [show za2 t [[116, 114, 117, 101]] = false by simpa using htrue] at cA;have cB := fun W hW => cS [102, 97, 108, 115, 101] W hW;rw [hfalse] at cB;obtain ⟨kd, hkd⟩ : ∃ kd : Int, kd = (t.1 : Int) := ⟨_, rfl⟩;have k1 : (kd == 1) = false := by rw [zKr]; omega
   have k6 : (kd == 6) = false := by rw [zKr]; omega
   have k4 : (kd == 4) = false := by rw [zKr]; omega
   have k5 : (kd == 5) = false := by rw [zKr]; omega
   rw [← hkd] at t0;clear hX e1 e4 e5 e6 e78 hint hflt cW hkd;clear hW0;go_wp2_with fail
   refine cA.mono ?_;rintro e w4 ⟨rfl, hb4⟩;have hb04 := B2.out.trans (hb4.mono B2.out.size);go_wp2_with fail
   refine (cB w4 hb04).mono ?_;rintro e w5 ⟨rfl, hb5'⟩;replace hb4 := hb4.trans (hb5'.mono hb4.size)
   clear hb04 hb5';have X4 := XX.out.below hb4 XX.out.lt;have l1 : w1.heap.size < W2.heap.size := by rw [← hW2]; simp
   have BB4 := zJv (BB.out.trans (hb4.mono BB.out.size));have r0 := (hb4.cell (p := ⟨w1.heap.size, 0, none⟩) l1).trans t0;have r1 := (hb4.cell (p := ⟨w1.heap.size, 1, none⟩) l1).trans t1;have r2 := (hb4.cell (p := ⟨w1.heap.size, 2, none⟩) l1).trans t2;clear x0 x1 x2 x3 x4 x5 x6 x7 y0 y1 y2 y3 y4 y5 y6 y7 t0 t1 t2;have x0 := X4.cell 0;have x1 := X4.cell 1;have x2 := X4.cell 2;have x3 := X4.cell 3;have x4 := X4.cell 4;have x5 := X4.cell 5;have x6 := X4.cell 6;have x7 := X4.cell 7;have y0 := X4.frozen 0;have y1 := X4.frozen 1;have y2 := X4.frozen 2;have y3 := X4.frozen 3;have y4 := X4.frozen 4;have y5 := X4.frozen 5;have y6 := X4.frozen 6;have y7 := X4.frozen 7;simp only [gA, gB, gC] at x0 x1 x2 x3 x4 x5 x6 x7;have XX4 := zJv X4;clear X4 hb4 cA cB cS;go_wp2_with fail
   have hZ := zd7 XX4.out (.int .i64 2) (.int .i64 (t.2.2 : Int)) (.string ⟨#[]⟩) (.int .i64 0) (.int .u64 0) (.slice none 0 0) (.slice none 0 0) (.slice none 0 0);have q0 := hZ.cell 0;have q1 := hZ.cell 1;have q2 := hZ.cell 2;have q3 := hZ.cell 3;have q4 := hZ.cell 4;have q5 := hZ.cell 5;have q6 := hZ.cell 6;have q7 := hZ.cell 7;simp only [gA, gB, gC] at q0 q1 q2 q3 q4 q5 q6 q7;exact bodyPost_ret (v := .agg [.int .i64 2, .int .i64 (t.2.2 : Int), .string ⟨#[]⟩, .int .i64 0, .int .u64 0, .slice none 0 0, .slice none 0 0, .slice none 0 0].toArray) (by simp [results, Tryz.results175, go_sem, q0, q1, q2, q3, q4, q5, q6, q7]) rfl ⟨rfl, zc9 BB4.out (zJw _) _ _ _ _ _ _ _ _⟩
 exfalso
 have hx := hX.out;unfold leafM at hx;rw [if_neg e1, if_neg e6, if_neg e4, if_neg e5, if_neg htrue, if_neg hfalse] at hx;cases hx
set_option maxRecDepth 100000 in
theorem zDy {B : PE} {w : World} {s : St} (h : PS B w s) (hk : s.k < B.ts.length) (hx : leafM (tkA B.ts s.k) = none) :
 Calls Tryz.prog 175 #[B.ptr] w fun e w' => e = zbi 4 (tkA B.ts s.k).2.2 ∧ Below w.heap.size w w' := by
 obtain ⟨W0, hW0⟩ : ∃ W0, w.alloc (.cells zTerm.toArray 38) = W0 := ⟨_, rfl⟩;have hB0 : Below w.heap.size w W0 := by rw [← hW0]; exact (zJx _ _).alloc (zJw _) _
 have hX0 : Blk W0 w.heap.size 38 zTerm.toArray := by rw [← hW0]; exact Blk.new w 38 _
 have cN := zbe (h.below hB0) hk;have cS := fun (x : List UInt8) (W : World) (hW : Below W0.heap.size W0 W) => zb5 ((h.below hB0).below hW) hk [x] 1 rfl (by decide) #[.string ⟨x.toArray⟩] rfl;have cW := fun (W : World) (hW : Below W0.heap.size W0 W) => zct ((h.below hB0).below hW) hk 4;have l0 := hX0.lt;generalize tkA B.ts s.k = t at cN hx cS cW ⊢;have hX := zJv hx;clear hx h;go_enter Tryz.func175, Tryz.ntmps175
 go_wp2_with fail
 with_reducible refine cN.mono ?_
 rintro e w1 ⟨rfl, hb1⟩;obtain ⟨W2, hW2⟩ : ∃ W2, w1.alloc (.cells (tokL t).toArray 77) = W2 := ⟨_, rfl⟩;have hB2 : Below W0.heap.size W0 W2 := by rw [← hW2]; exact hb1.alloc hb1.size _
 have hT2 : Blk W2 w1.heap.size 77 (tokL t).toArray := by rw [← hW2]; exact Blk.new w1 77 _
 have hX2 := hX0.below hB2 l0;have t0 := hT2.cell 0;have t1 := hT2.cell 1;have t2 := hT2.cell 2;simp only [gA, gB, gC] at t0 t1 t2;have x0 := hX2.cell 0;have x1 := hX2.cell 1;have x2 := hX2.cell 2;have x3 := hX2.cell 3;have x4 := hX2.cell 4;have x5 := hX2.cell 5;have x6 := hX2.cell 6;have x7 := hX2.cell 7;have y0 := hX2.frozen 0;have y1 := hX2.frozen 1;have y2 := hX2.frozen 2;have y3 := hX2.frozen 3;have y4 := hX2.frozen 4;have y5 := hX2.frozen 5;have y6 := hX2.frozen 6;have y7 := hX2.frozen 7;simp only [gA, gB, gC] at x0 x1 x2 x3 x4 x5 x6 x7;have XX := zJv hX2;have TT := zJv hT2;have BB := zJv (hB0.trans (hB2.mono hB0.size));have B2 := zJv hB2;clear hX2 hT2 hB2 hX0 hB0 cN hb1;have hx := hX.out;unfold leafM at hx;have e1 : t.1 ≠ 1 := fun e => by simp [e] at hx
 have e6 : t.1 ≠ 6 := fun e => by simp [e] at hx
 have e4 : t.1 ≠ 4 := fun e => by simp [e] at hx
 have e5 : t.1 ≠ 5 := fun e => by simp [e] at hx
 rw [if_neg e1, if_neg e6, if_neg e4, if_neg e5] at hx
 have htrue : za2 t [[116, 114, 117, 101]] = false := by
  by_cases q : za2 t [[116, 114, 117, 101]] = true
  · rw [if_pos q] at hx; cases hx
  · simpa using q
 rw [htrue] at hx
 have hfalse : za2 t [[102, 97, 108, 115, 101]] = false := by
  by_cases q : za2 t [[102, 97, 108, 115, 101]] = true
  · rw [if_pos q] at hx; simp at hx
  · simpa using q
 have cA := cS [116, 114, 117, 101] W2 B2.out;rw [htrue] at cA;have cB := fun W hW => cS [102, 97, 108, 115, 101] W hW;rw [hfalse] at cB;obtain ⟨kd, hkd⟩ : ∃ kd : Int, kd = (t.1 : Int) := ⟨_, rfl⟩;have k1 : (kd == 1) = false := by rw [zKr]; omega
 have k6 : (kd == 6) = false := by rw [zKr]; omega
 have k4 : (kd == 4) = false := by rw [zKr]; omega
 have k5 : (kd == 5) = false := by rw [zKr]; omega
 rw [← hkd] at t0;clear hX hx e1 e4 e5 e6 htrue hfalse hkd cS hW0;go_wp2_with fail
 refine cA.mono ?_;rintro e w4 ⟨rfl, hb4⟩;have hb04 := B2.out.trans (hb4.mono B2.out.size);go_wp2_with fail
 refine (cB w4 hb04).mono ?_;rintro e w5 ⟨rfl, hb5⟩;have hb05 := hb04.trans (hb5.mono hb04.size);go_wp2_with fail
 refine (cW w5 hb05).mono ?_;rintro e w6 ⟨rfl, hb6⟩;have BB6 := zJv (((BB.out.trans (hb4.mono BB.out.size)).trans (hb5.mono (zK4 BB.out.size hb4.size))).trans (hb6.mono (zK4 BB.out.size (zK4 hb4.size hb5.size))));clear hb4 hb04 hb5 hb05 hb6 cA cB cW;go_wp2_with fail
 exact ⟨rfl, rfl, BB6.out⟩
end Go.Proofs.YtidmeodmkcomlaaGreatDoor
