/- parse.Text and parse.Type, at texts that are parsed. A word or a sign that must stand there; a rule that is opened too -/
import Derived.Test.YtjbdgjbmbohfmaaGreatDoorK19
namespace Go.Proofs.YtjbdgjbmbohfmaaGreatDoor
open Go Go.Proofs Go.RowKit
theorem row_cells {W : World} {B : Nat} {e : TypeId} {k : Nat} {v : Value} {n : Nat} {xs : List Value} (h : W.ownsRow B e k v n xs) (h0 : 0 < n) :
 ∃ g cap, v = .slice (some ⟨g, 0, none⟩) n cap ∧ B ≤ g ∧ g < W.heap.size ∧ n ≤ cap ∧ ∀ j u, xs[j]? = some u → W.cell? ⟨g, j, none⟩ = some u := by
 rcases h.2 with ⟨_, e⟩ | ⟨g, cap, cur, e, hb, hg, hn, _⟩
 ·omega
 ·refine ⟨g, cap, e, hb, (Array.getElem?_eq_some_iff.1 hg).1, hn, fun j u hu => ?_⟩
  have := h.cells (g := g) (by rw [e]; rfl) j u hu
  rwa [add_none, Nat.zero_add] at this

set_option maxRecDepth 100000 in
set_option maxHeartbeats 8000000 in
theorem parsed19 {l : List UInt8} {ts : List Tk} {i : Nat} {s' : St} (hA : lexA l = .ok ts) (hT : TsOk ts) (hlen : ts.length ≤ 2097152) (M : St → PR) (hR : Rule0 ts 57 M) (hM : M ⟨0, 0, [], []⟩ = .ok i s') (hE : (tkA ts s'.k).1 = 0) (hk' : s'.k < ts.length)
 (a : Option Addr) (len cap : Nat) (w : World) (hl : l.length = len) (hEnv : Env w) (hI : TextAt w.heap.size w (.slice a len cap) l) :
 Calls Tryz.prog 43 #[.slice a len cap, .func (.func 57) #[] #[]] w fun e w' => ∃ p', e = .returned (.tuple #[treeV ⟨s'.t1, s'.t2, []⟩ p', .agg #[.int .i64 0, .int .i64 0, .string ⟨#[]⟩]]) ∧ TreeAt (fun b => w.heap.size ≤ b ∧ b < w'.heap.size) w' ⟨s'.t1, s'.t2, []⟩ p' ∧ Below w.heap.size w w' := by
 obtain ⟨W0, hW0⟩ : ∃ W0, w.alloc (.cells #[.slice none 0 0, .slice none 0 0, .slice none 0 0] 28) = W0 := ⟨_, rfl⟩
 obtain ⟨W1, hW1⟩ : ∃ W1, W0.alloc (.cells #[.int .i64 0, .int .i64 0, .string ⟨#[]⟩] 31) = W1 := ⟨_, rfl⟩
 have hB0 : Below w.heap.size w W0 := by rw [← hW0]; exact (Below.refl _ _).alloc (Nat.le_refl _) _
 have hB1 : Below W0.heap.size W0 W1 := by rw [← hW1]; exact (Below.refl _ _).alloc (Nat.le_refl _) _
 have hX0 : Blk W0 w.heap.size 28 #[.slice none 0 0, .slice none 0 0, .slice none 0 0] := by rw [← hW0]; exact Blk.new w 28 _
 have hX1 : Blk W1 W0.heap.size 31 #[.int .i64 0, .int .i64 0, .string ⟨#[]⟩] := by rw [← hW1]; exact Blk.new W0 31 _
 have hB01 : Below w.heap.size w W1 := hB0.trans (hB1.mono hB0.size)
 have cL := lex_any a len cap l W1 (hEnv.on hB01) hl (TextAt.more hB01.size (hI.below hB01))
 have hmf : ∀ (fn : Fn) (first cap : Array Value) (w : World), (Instr.makeFunc fn first cap).run Tryz.prog w = .ok (.func fn first cap) w := fun _ _ _ _ => rfl
 unfold LexPost at cL
 rw [hA] at cL
 dsimp only at cL
 have hmm := @run_makeMap Tryz.prog
 go_enter_defers Tryz.func43, Tryz.ntmps43
 go_wp2_with fail
 refine cL.mono ?_
 rintro e w1 ⟨⟨v, rfl, hrow⟩, hb1⟩
 obtain ⟨g, c, rfl, hg1, hg2, hg3, hgc⟩ := row_cells hrow hT.pos
 go_wp2_with fail
 obtain ⟨W2, hW2⟩ : ∃ W2, w1.alloc (.cells #[.int .i64 0, .int .i64 0, .string ⟨#[]⟩] 31) = W2 := ⟨_, rfl⟩
 obtain ⟨W3, hW3⟩ : ∃ W3, W2.alloc (.map #[] 0) = W3 := ⟨_, rfl⟩
 have hb2 : Below w1.heap.size w1 W2 := by rw [← hW2]; exact (Below.refl _ _).alloc (Nat.le_refl _) _
 have hb3 : Below W2.heap.size W2 W3 := by rw [← hW3]; exact (Below.refl _ _).alloc (Nat.le_refl _) _
 have hb13 : Below w1.heap.size w1 W3 := hb2.trans (hb3.mono hb2.size)
 have hb3' : Below W1.heap.size W1 W3 := hb1.trans (hb13.mono hb1.size)
 have cNew := new_any W3
 rw [hW2, hW3]
 clear cL hrow
 refine cNew.mono ?_
 rintro e w4 ⟨rfl, hTO, hb4⟩
 have hz2 : W2.heap.size = w1.heap.size + 1 := by rw [← hW2]; simp
 rw [← hz2]
 clear hz2
 obtain ⟨W5, hW5⟩ : ∃ W5, w4.alloc (.cells #[.slice (some ⟨g, 0, none⟩) ts.length c, .int .i64 0, .int .i64 0, .map (some W2.heap.size), .pointer (some ⟨W3.heap.size, 0, none⟩)] 117) = W5 := ⟨_, rfl⟩
 have hb5 : Below w4.heap.size w4 W5 := by rw [← hW5]; exact (Below.refl _ _).alloc (Nat.le_refl _) _
 have hX5 : Blk W5 w4.heap.size 117 #[.slice (some ⟨g, 0, none⟩) ts.length c, .int .i64 0, .int .i64 0, .map (some W2.heap.size), .pointer (some ⟨W3.heap.size, 0, none⟩)] := by rw [← hW5]; exact Blk.new w4 117 _
 have hb35 : Below W3.heap.size W3 W5 := hb4.trans (hb5.mono hb4.size)
 have hs1 := hB0.size
 have hs2 := hB1.size
 have hs3 := hb1.size
 have hs4 := hb13.size
 have hs5 := hb4.size
 have hs6 := hb5.size
 have hb15 : Below w1.heap.size w1 W5 := hb13.trans (hb35.mono hs4)
 have hbW5 : Below w.heap.size w W5 := (hB01.trans (hb1.mono hB01.size)).trans (hb15.mono (by omega))
 have p5 : PS ⟨g, c, w4.heap.size, W3.heap.size, W3.heap.size, .map (some W2.heap.size), ts, fun _ => False⟩ W5 ⟨0, 0, [], []⟩ :=
  {env := hEnv.on hbW5
   blk := hX5
   tok := fun j u hu => (hb15.cell (p := ⟨g, j, none⟩) hg2).trans (hgc j u hu)
   gb := by show g < W3.heap.size; omega
   b6 := by show 7 ≤ W3.heap.size; have := hEnv.size; omega
   bw := hb35.size
   pbb := hs5
   cap := hg3
   built := ⟨_, _, [], [], ⟨hTO.below hb5, fun x hx => by simp at hx, fun x hx => by simp at hx⟩, rfl, rfl⟩
   n1 := by simp
   n2 := by simp
   f1 := fun x hx => by simp at hx
   f2 := fun x hx => by simp at hx
   kb := by simp
   ob := by simp
   lb := hlen
   ll := fun b hb => hb.elim }
 have cR := hR _ W5 _ i s' rfl p5 hT.pos hM
 go_wp2_with fail
 obtain ⟨B, HBe⟩ : ∃ B : PE, Hid ((⟨g, c, w4.heap.size, W3.heap.size, W3.heap.size, .map (some W2.heap.size), ts, fun _ => False⟩ : PE) = B) := ⟨_, Lib.hid rfl⟩
 have HBts : Hid (B.ts = ts) := Lib.hid (by rw [← HBe.out])
 have HBpb : Hid (w4.heap.size = B.pb) := Lib.hid (by rw [← HBe.out])
 have HBb : Hid (W3.heap.size = B.base) := Lib.hid (by rw [← HBe.out])
 have HBcb : Hid (W3.heap.size = B.cb) := Lib.hid (by rw [← HBe.out])
 rw [HBe.out] at cR p5
 unfold PE.ptr at cR
 rw [← HBpb.out] at cR
 have hX0' : Blk W5 w.heap.size 28 #[.slice none 0 0, .slice none 0 0, .slice none 0 0] := (((hX0.below hB1 hX0.lt).below hb1 (Nat.lt_of_lt_of_le hX0.lt hB1.size)).below hb15 (Nat.lt_of_lt_of_le (Nat.lt_of_lt_of_le hX0.lt hB1.size) hb1.size))
 have hX1' : Blk W5 W0.heap.size 31 #[.int .i64 0, .int .i64 0, .string ⟨#[]⟩] := (hX1.below hb1 hX1.lt).below hb15 (Nat.lt_of_lt_of_le hX1.lt hb1.size)
 have hl0 := hX0.lt
 have hl1 := hX1.lt
 refine cR.mono ?_
 rintro e w6 ⟨rfl, a6⟩
 have A6 := Lib.hid a6
 have P5 := Lib.hid p5
 have HX0' := Lib.hid hX0'
 have HX1' := Lib.hid hX1'
 have HbW5 := Lib.hid hbW5
 have HMM := Lib.hid hmm
 have cK : Calls Tryz.prog 90 #[.pointer (some ⟨w4.heap.size, 0, none⟩), .int .i64 0] w6 fun e w' => e = .returned (tokV (tkA ts s'.k)) ∧ Aft B w6 (s'.on 1) w' := by
  have := token_any a6.ps (by rw [HBts.out]; exact hk') 0 (by rw [HBts.out]; exact hE)
  rw [HBts.out] at this
  rw [HBpb.out]
  exact this
 go_wp2_with fail
 refine cK.mono ?_
 rintro e w7 ⟨rfl, a7⟩
 have a67 := a6.trans a7
 obtain ⟨v1, v2, r1, r2, hBI, e1, e2⟩ := a7.ps.built
 have cT := tree_any B.base B.cb w7 hBI.tr (by have := a7.ps.n1; rw [← e1] at this; simpa using this) (by have := a7.ps.n2; rw [← e2] at this; simpa using this) (by simp)
  (fun x hx => a7.ps.f1 _ (by rw [← e1]; exact List.mem_map_of_mem hx)) (fun x hx => a7.ps.f2 _ (by rw [← e2]; exact List.mem_map_of_mem hx))
 rw [e1, e2] at cT
 have c4 := a7.ps.blk.cell 4
 simp only [PE.cells, List.getElem?_toArray, List.getElem?_cons_zero, List.getElem?_cons_succ] at c4
 rw [← HBpb.out] at c4
 have hX0'' := hX0'.below a67.bel (by rw [← HBb.out]; omega)
 have hX1'' := hX1'.below a67.bel (by rw [← HBb.out]; omega)
 have hbW7 : Below w.heap.size w w7 := hbW5.trans (a67.bel.mono (by rw [← HBb.out]; omega))
 have l7 := a67.bel.size
 clear cK cR a6 a7 hBI e1 e2
 go_wp2_with fail
 refine cT.mono ?_
 rintro e w8 ⟨p', rfl, hTA, hb8⟩
 have hX0a := hX0''.below hb8 (by omega)
 have hX1a := hX1''.below hb8 (by omega)
 have x0 := hX0a.cell 0
 have x1 := hX0a.cell 1
 have x2 := hX0a.cell 2
 have y0 := hX0a.frozen 0
 have y1 := hX0a.frozen 1
 have y2 := hX0a.frozen 2
 have x3 := hX1a.cell 0
 have x4 := hX1a.cell 1
 have x5 := hX1a.cell 2
 have y3 := hX1a.frozen 0
 have y4 := hX1a.frozen 1
 have y5 := hX1a.frozen 2
 simp only [List.getElem?_toArray, List.getElem?_cons_zero, List.getElem?_cons_succ] at x0 x1 x2 x3 x4 x5
 have hne1 : (w.heap.size = W0.heap.size) = False := eq_false (by omega)
 have hne2 : (W0.heap.size = w.heap.size) = False := eq_false (by omega)
 have HX0 := Lib.hid hX0a
 have HX1 := Lib.hid hX1a
 have HB7 := Lib.hid hbW7
 have HB8 := Lib.hid hb8
 have HTA := Lib.hid hTA
 have HP7 := Lib.hid a67.ps
 clear cT hX0 hX1 hX0' hX1' hX0'' hX1'' hX0a hX1a hb8 hbW7 hTA a67 p5 hb35 hb15 hbW5 hb13 hb3' hb3 hb2 hb1 hb4 hb5 hB01 hB0 hB1 hW0 hW1 hW2 hW3 hW5 hX5 hTO hgc
 go_wp2_with fail
 have hZ0 := (((HX0.out.set_ 0 (.slice p'.a1 s'.t1.length p'.c1)).set_ 1 (.slice p'.a2 s'.t2.length p'.c2)).set_ 2 (.slice p'.a3 0 p'.c3)).far (p := ⟨W0.heap.size, 0, none⟩) (by dsimp only; omega) (.int .i64 0) |>.far (p := ⟨W0.heap.size, 1, none⟩) (by dsimp only; omega) (.int .i64 0) |>.far (p := ⟨W0.heap.size, 2, none⟩) (by dsimp only; omega) (.string ⟨#[]⟩)
 have hZ1 := ((((((HX1.out.far (p := ⟨w.heap.size, 0, none⟩) (by dsimp only; omega) (.slice p'.a1 s'.t1.length p'.c1)).far (p := ⟨w.heap.size, 1, none⟩) (by dsimp only; omega) (.slice p'.a2 s'.t2.length p'.c2)).far (p := ⟨w.heap.size, 2, none⟩) (by dsimp only; omega) (.slice p'.a3 0 p'.c3)).set_ 0 (.int .i64 0)).set_ 1 (.int .i64 0)).set_ 2 (.string ⟨#[]⟩))
 have q0 := hZ0.cell 0
 have q1 := hZ0.cell 1
 have q2 := hZ0.cell 2
 have q3 := hZ1.cell 0
 have q4 := hZ1.cell 1
 have q5 := hZ1.cell 2
 simp only [List.setIfInBounds_toArray, List.set_cons_zero, List.set_cons_succ, List.getElem?_toArray, List.getElem?_cons_zero, List.getElem?_cons_succ] at q0 q1 q2 q3 q4 q5
 refine leaves_cons (f := 88) (args := #[.pointer (some ⟨W0.heap.size, 0, none⟩)]) (by simp) (by simp [go_sem]) ?_
 refine (catch_idle ⟨W0.heap.size, 0, none⟩ _).mono ?_
 rintro e u' w9 ⟨rfl, rfl, rfl⟩
 refine ⟨.tuple #[treeV ⟨s'.t1, s'.t2, []⟩ p', .agg #[.int .i64 0, .int .i64 0, .string ⟨#[]⟩]], by simp [results, Tryz.results43, go_sem, St.on, q0, q1, q2, q3, q4, q5], p', rfl, ?_, ?_⟩
 ·have hw8 := HB8.out.size
  refine (HTA.out.keep (fun b o hb => ?_)).imp (fun b hb => ⟨by have := hb.1; omega, by simpa using hb.2⟩)
  have hb1 := hb.1
  rw [World.cell?_setCell_other _ _ _ _ (by intro e; injection e; omega), World.cell?_setCell_other _ _ _ _ (by intro e; injection e; omega), World.cell?_setCell_other _ _ _ _ (by intro e; injection e; omega), World.cell?_setCell_other _ _ _ _ (by intro e; injection e; omega), World.cell?_setCell_other _ _ _ _ (by intro e; injection e; omega), World.cell?_setCell_other _ _ _ _ (by intro e; injection e; omega)]
 ·have h0 : w.heap.size ≤ w.heap.size := Nat.le_refl _
  exact ((((((HB7.out.trans (HB8.out.mono (by omega))).setCell (p := ⟨w.heap.size, 0, none⟩) h0 _).setCell (p := ⟨w.heap.size, 1, none⟩) h0 _).setCell (p := ⟨w.heap.size, 2, none⟩) h0 _).setCell (p := ⟨W0.heap.size, 0, none⟩) hs1 _).setCell (p := ⟨W0.heap.size, 1, none⟩) hs1 _).setCell (p := ⟨W0.heap.size, 2, none⟩) hs1 _
set_option maxRecDepth 100000 in
set_option maxHeartbeats 8000000 in
theorem ptext_any {l : List UInt8} {ts : List Tk} {i : Nat} {s' : St} (hA : lexA l = .ok ts) (hT : TsOk ts) (hlen : ts.length ≤ 2097152) (M : St → PR) (hR : Rule0 ts 57 M) (hM : M ⟨0, 0, [], []⟩ = .ok i s') (hE : (tkA ts s'.k).1 = 0) (hk' : s'.k < ts.length)
 (a : Option Addr) (len cap : Nat) (w : World) (hl : l.length = len) (hEnv : Env w) (hI : TextAt w.heap.size w (.slice a len cap) l) :
 Calls Tryz.prog 23 #[.slice a len cap] w fun e w' => ∃ p', e = .returned (.tuple #[treeV ⟨s'.t1, s'.t2, []⟩ p', .agg #[.int .i64 0, .int .i64 0, .string ⟨#[]⟩]]) ∧ TreeAt (fun b => w.heap.size ≤ b ∧ b < w'.heap.size) w' ⟨s'.t1, s'.t2, []⟩ p' ∧ Below w.heap.size w w' := by
 obtain ⟨W0, hW0⟩ : ∃ W0, w.alloc (.cells #[.slice none 0 0, .slice none 0 0, .slice none 0 0] 28) = W0 := ⟨_, rfl⟩
 obtain ⟨W1, hW1⟩ : ∃ W1, W0.alloc (.cells #[.int .i64 0, .int .i64 0, .string ⟨#[]⟩] 31) = W1 := ⟨_, rfl⟩
 have hB0 : Below w.heap.size w W0 := by rw [← hW0]; exact (Below.refl _ _).alloc (Nat.le_refl _) _
 have hB1 : Below W0.heap.size W0 W1 := by rw [← hW1]; exact (Below.refl _ _).alloc (Nat.le_refl _) _
 have hX0 : Blk W0 w.heap.size 28 #[.slice none 0 0, .slice none 0 0, .slice none 0 0] := by rw [← hW0]; exact Blk.new w 28 _
 have hX1 : Blk W1 W0.heap.size 31 #[.int .i64 0, .int .i64 0, .string ⟨#[]⟩] := by rw [← hW1]; exact Blk.new W0 31 _
 have hB01 : Below w.heap.size w W1 := hB0.trans (hB1.mono hB0.size)
 have cP := parsed19 hA hT hlen M hR hM hE hk' a len cap W1 hl (hEnv.on hB01) (TextAt.more hB01.size (hI.below hB01))
 have hl0 := hX0.lt
 have hl1 := hX1.lt
 have hs1 := hB0.size
 have hs2 := hB1.size
 have HX0 := Lib.hid (hX0.below hB1 hl0)
 have HX1 := Lib.hid hX1
 have HB01 := Lib.hid hB01
 clear hA hT hR hM hE hk' hI hB0 hB1 hX0 hX1 hB01
 go_enter Tryz.func23, Tryz.ntmps23
 go_wp2_with fail
 refine cP.mono ?_
 rintro e w8 ⟨p', rfl, hTA, hb8⟩
 have hX0a := HX0.out.below hb8 (by omega)
 have hX1a := HX1.out.below hb8 hl1
 have x0 := hX0a.cell 0
 have x1 := hX0a.cell 1
 have x2 := hX0a.cell 2
 have y0 := hX0a.frozen 0
 have y1 := hX0a.frozen 1
 have y2 := hX0a.frozen 2
 have x3 := hX1a.cell 0
 have x4 := hX1a.cell 1
 have x5 := hX1a.cell 2
 have y3 := hX1a.frozen 0
 have y4 := hX1a.frozen 1
 have y5 := hX1a.frozen 2
 simp only [List.getElem?_toArray, List.getElem?_cons_zero, List.getElem?_cons_succ] at x0 x1 x2 x3 x4 x5
 have hne1 : (w.heap.size = W0.heap.size) = False := eq_false (by omega)
 have hne2 : (W0.heap.size = w.heap.size) = False := eq_false (by omega)
 have HX0a := Lib.hid hX0a
 have HX1a := Lib.hid hX1a
 have HB8 := Lib.hid hb8
 have HTA := Lib.hid hTA
 clear hX0a hX1a hb8 hTA cP hW0 hW1
 go_wp2_with fail
 have hZ0 := (((HX0a.out.set_ 0 (.slice p'.a1 s'.t1.length p'.c1)).set_ 1 (.slice p'.a2 s'.t2.length p'.c2)).set_ 2 (.slice p'.a3 0 p'.c3)).far (p := ⟨W0.heap.size, 0, none⟩) (by dsimp only; omega) (.int .i64 0) |>.far (p := ⟨W0.heap.size, 1, none⟩) (by dsimp only; omega) (.int .i64 0) |>.far (p := ⟨W0.heap.size, 2, none⟩) (by dsimp only; omega) (.string ⟨#[]⟩)
 have hZ1 := ((((((HX1a.out.far (p := ⟨w.heap.size, 0, none⟩) (by dsimp only; omega) (.slice p'.a1 s'.t1.length p'.c1)).far (p := ⟨w.heap.size, 1, none⟩) (by dsimp only; omega) (.slice p'.a2 s'.t2.length p'.c2)).far (p := ⟨w.heap.size, 2, none⟩) (by dsimp only; omega) (.slice p'.a3 0 p'.c3)).set_ 0 (.int .i64 0)).set_ 1 (.int .i64 0)).set_ 2 (.string ⟨#[]⟩))
 have q0 := hZ0.cell 0
 have q1 := hZ0.cell 1
 have q2 := hZ0.cell 2
 have q3 := hZ1.cell 0
 have q4 := hZ1.cell 1
 have q5 := hZ1.cell 2
 simp only [List.setIfInBounds_toArray, List.set_cons_zero, List.set_cons_succ, List.getElem?_toArray, List.getElem?_cons_zero, List.getElem?_cons_succ] at q0 q1 q2 q3 q4 q5
 refine bodyPost_ret (v := .tuple #[treeV ⟨s'.t1, s'.t2, []⟩ p', .agg #[.int .i64 0, .int .i64 0, .string ⟨#[]⟩]]) (by simp [results, Tryz.results23, go_sem, q0, q1, q2, q3, q4, q5]) rfl ⟨p', rfl, ?_, ?_⟩
 ·have hw8 := HB8.out.size
  refine (HTA.out.keep (fun b o hb => ?_)).imp (fun b hb => ⟨by have := hb.1; omega, by simpa using hb.2⟩)
  have hb1 := hb.1
  rw [World.cell?_setCell_other _ _ _ _ (by intro e; injection e; omega), World.cell?_setCell_other _ _ _ _ (by intro e; injection e; omega), World.cell?_setCell_other _ _ _ _ (by intro e; injection e; omega), World.cell?_setCell_other _ _ _ _ (by intro e; injection e; omega), World.cell?_setCell_other _ _ _ _ (by intro e; injection e; omega), World.cell?_setCell_other _ _ _ _ (by intro e; injection e; omega)]
 ·have h0 : w.heap.size ≤ w.heap.size := Nat.le_refl _
  exact ((((((HB01.out.trans (HB8.out.mono (by omega))).setCell (p := ⟨w.heap.size, 0, none⟩) h0 _).setCell (p := ⟨w.heap.size, 1, none⟩) h0 _).setCell (p := ⟨w.heap.size, 2, none⟩) h0 _).setCell (p := ⟨W0.heap.size, 0, none⟩) hs1 _).setCell (p := ⟨W0.heap.size, 1, none⟩) hs1 _).setCell (p := ⟨W0.heap.size, 2, none⟩) hs1 _
theorem takes_yes {B : PE} {w : World} {s : St} (h : PS B w s) (hk : s.k < B.ts.length) (x : List UInt8) (hx : standsB (tkA B.ts s.k) [x] = true) :
 Calls Tryz.prog 122 #[B.ptr, .string ⟨x.toArray⟩] w fun e w' => e = .returned (.bool true) ∧ Aft B w (s.on 1) w' := by
 have cS := stands_new h hk [x] 1 rfl (by decide) #[.string ⟨x.toArray⟩] rfl
 rw [hx] at cS
 have H := Lib.hid h
 clear h
 go_enter Tryz.func122, Tryz.ntmps122
 go_wp2_with fail
 refine cS.mono ?_
 rintro e w1 ⟨rfl, hb1⟩
 have p1 := H.out.below hb1
 have c1 := p1.blk.cell 1
 have g1 := p1.blk.frozen 1
 simp only [PE.cells, List.getElem?_toArray, List.getElem?_cons_zero, List.getElem?_cons_succ] at c1
 have a2 := p1.on1 hk
 have hl := p1.lb
 have A2 := Lib.hid ((H.out.aft hb1).trans a2)
 clear a2 p1 hb1 cS
 go_wp2_with fail
 go_ret
 exact ⟨rfl, A2.out⟩

theorem must_yes {B : PE} {w : World} {s : St} (h : PS B w s) (hk : s.k < B.ts.length) (x : List UInt8) (hx : standsB (tkA B.ts s.k) [x] = true) :
 Calls Tryz.prog 123 #[B.ptr, .string ⟨x.toArray⟩] w fun e w' => e = .returned (.tuple #[]) ∧ Aft B w (s.on 1) w' := by
 have cT := takes_yes h hk x hx
 clear h
 go_enter Tryz.func123, Tryz.ntmps123
 go_wp2_with fail
 refine cT.mono ?_
 rintro e w1 ⟨rfl, a1⟩
 have A1 := Lib.hid a1
 clear a1 cT
 go_wp2_with fail
 go_end0
 exact ⟨rfl, A1.out⟩

/-- What is wrong, and where. -/
abbrev wrongV (e : Nat) (p : Nat) : Value := .agg #[.int .i64 (e : Int), .int .i64 (p : Int), .string ⟨#[]⟩]
abbrev panicV (e p : Nat) : Ending := .panicked [{ v := .iface 31 (wrongV e p), recovered := false }]

set_option maxHeartbeats 4000000 in
theorem wrong_any {B : PE} {w : World} {s : St} (h : PS B w s) (hk : s.k < B.ts.length) (c : Nat) : Calls Tryz.prog 150 #[B.ptr, .int .i64 (c : Int)] w fun e w' => e = .returned (wrongV c (tkA B.ts s.k).2.2) ∧ Below w.heap.size w w' := by
 obtain ⟨W0, hW0⟩ : ∃ W0, w.alloc (.cells #[.int .i64 0, .int .i64 0, .string ⟨#[]⟩] 31) = W0 := ⟨_, rfl⟩
 have hB0 : Below w.heap.size w W0 := by rw [← hW0]; exact (Below.refl _ _).alloc (Nat.le_refl _) _
 have hX0 : Blk W0 w.heap.size 31 #[.int .i64 0, .int .i64 0, .string ⟨#[]⟩] := by rw [← hW0]; exact Blk.new w 31 _
 have cN := now_any (h.below hB0) hk
 generalize tkA B.ts s.k = t at cN ⊢
 have hfd := tokF2
 have X0 := Lib.hid hX0
 have B0 := Lib.hid hB0
 have l0 := hX0.lt
 clear h hX0 hB0
 go_enter Tryz.func150, Tryz.ntmps150
 go_wp2_with fail
 with_reducible refine cN.mono ?_
 rintro e w1 ⟨rfl, hb1⟩
 have hX1 := X0.out.below hb1 l0
 have x0 := hX1.cell 0
 have x1 := hX1.cell 1
 have x2 := hX1.cell 2
 have y0 := hX1.frozen 0
 have y1 := hX1.frozen 1
 have y2 := hX1.frozen 2
 simp only [List.getElem?_toArray, List.getElem?_cons_zero, List.getElem?_cons_succ] at x0 x1 x2
 have X1 := Lib.hid hX1
 have B1 := Lib.hid (B0.out.trans (hb1.mono B0.out.size))
 clear hX1 hb1 cN hW0
 go_wp2_with fail
 have hZ := ((X1.out.set_ 0 (.int .i64 (c : Int))).set_ 1 (.int .i64 (t.2.2 : Int))).set_ 2 (.string ⟨#[]⟩)
 have q0 := hZ.cell 0
 have q1 := hZ.cell 1
 have q2 := hZ.cell 2
 simp only [List.setIfInBounds_toArray, List.set_cons_zero, List.set_cons_succ, List.getElem?_toArray, List.getElem?_cons_zero, List.getElem?_cons_succ] at q0 q1 q2
 have h0 : w.heap.size ≤ w.heap.size := Nat.le_refl _
 exact bodyPost_ret (v := wrongV c t.2.2) (by simp [results, Tryz.results150, go_sem, q0, q1, q2]) rfl ⟨rfl, ((B1.out.setCell (p := ⟨w.heap.size, 0, none⟩) h0 _).setCell (p := ⟨w.heap.size, 1, none⟩) h0 _).setCell (p := ⟨w.heap.size, 2, none⟩) h0 _⟩

theorem begin_bad {B : PE} {w : World} {s : St} (h : PS B w s) (hk : s.k < B.ts.length) (ho : s.op = 256) : Calls Tryz.prog 92 #[B.ptr] w fun e w' => e = panicV 5 (tkA B.ts s.k).2.2 ∧ Below w.heap.size w w' := by
 have hp := h.blk.lt
 have c2 := h.blk.cell 2
 simp only [PE.cells, List.getElem?_toArray, List.getElem?_cons_zero, List.getElem?_cons_succ] at c2
 rw [ho] at c2
 have cW : Calls Tryz.prog 150 #[B.ptr, .int .i64 5] w fun e w' => e = .returned (wrongV 5 (tkA B.ts s.k).2.2) ∧ Below w.heap.size w w' := wrong_any h hk 5
 generalize tkA B.ts s.k = t at cW ⊢
 clear h
 go_enter Tryz.func92, Tryz.ntmps92
 go_wp2_with fail
 refine cW.mono ?_
 rintro e w1 ⟨rfl, hb1⟩
 go_wp2_with fail
 exact ⟨rfl, rfl, hb1⟩
end Go.Proofs.YtjbdgjbmbohfmaaGreatDoor
