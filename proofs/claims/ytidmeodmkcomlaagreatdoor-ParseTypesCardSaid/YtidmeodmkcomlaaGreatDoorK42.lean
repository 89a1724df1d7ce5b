/- parse.Text and parse.Type: what they give, or what is wrong. -/
import Derived.Test.YtidmeodmkcomlaaGreatDoorK41
import Derived.Recover
set_option linter.unusedSimpArgs false
set_option linter.unusedVariables false
namespace Go.Proofs.YtidmeodmkcomlaaGreatDoor
open Go Go.Proofs Go.RowKit
set_option maxHeartbeats 8000000
def Rule0 (ts : List Tk) (f : FuncId) (M : St → R3 Unit) : Prop :=
 ∀ (B : PE) (w : World) (s : St), B.ts = ts → PS B w s → s.k < ts.length → M s ≠ .un → Calls Tryz.prog f #[B.ptr] w (Res (fun _ => .tuple #[]) B w s (M s))
abbrev St.zero : St := ⟨0, 0, [], [], [], []⟩
theorem zcs {W : World} {B : Nat} {e : TypeId} {k : Nat} {v : Value} {n : Nat} {xs : List Value} (h : W.ownsRow B e k v n xs) (h0 : 0 < n) :
 ∃ g cap, v = .slice (some ⟨g, 0, none⟩) n cap ∧ B ≤ g ∧ g < W.heap.size ∧ n ≤ cap ∧ ∀ j u, xs[j]? = some u → W.cell? ⟨g, j, none⟩ = some u := by
 rcases h.2 with ⟨_, e⟩ | ⟨g, cap, cur, e, hb, hg, hn, _⟩
 · omega
 · refine ⟨g, cap, e, hb, (Array.getElem?_eq_some_iff.1 hg).1, hn, fun j u hu => ?_⟩
   have := h.cells (g := g) (by rw [e]; rfl) j u hu;rwa [zdo, Nat.zero_add] at this
theorem zem (p : Addr) (w : World) :
 CallsD Tryz.prog 36 #[.pointer (some p)] .returning w fun e u' w' => e = .returned (.tuple #[]) ∧ u' = .returning ∧ w' = w := by
 refine callsD_of_wpS Tryz.func36 rfl fun c₀ cs hu => ?_;apply wpS_seq
 apply wpS_region
 simp [wpOpsS, go_sem, recoverD, hu, Tryz.ntmps36, Exit.thenS]
 apply wpS_seq
 apply wpS_region
 simp [wpOpsS, go_sem, Exit.thenS]
 refine wpS_cond (t := false) (by simp [Act.eval, Array.replicate]) ?_;simp only [Bool.false_eq_true, if_false];refine wpS_of_wp (wp_skip ?_);cases c₀
 simp_all [bodyPostS, results, Tryz.results36]
theorem zhq (v : Value) (w : World) : (Instr.typeAssert (.iface 30 v) 20 30 false).run Tryz.prog w = .ok v w := by kernel_rfl
theorem zez (b c q : Nat) (x0 x1 x2 : Value) (w : World) (hX : Blk w b 30 #[x0, x1, x2]) :
 CallsD Tryz.prog 36 #[.pointer (some ⟨b, 0, none⟩)] (.panicking [{ v := .iface 30 (zao c q), recovered := false }]) w fun e u' w' =>
  e = .returned (.tuple #[]) ∧ u' = .panicking [{ v := .iface 30 (zao c q), recovered := true }] ∧ w' = ((w.setCell ⟨b, 0, none⟩ (.int .i64 (c : Int))).setCell ⟨b, 1, none⟩ (.int .i64 (q : Int))).setCell ⟨b, 2, none⟩ (.string ⟨#[]⟩) := by
 have c0 := hX.cell 0;have c1 := hX.cell 1;have c2 := hX.cell 2;have g0 := hX.frozen 0;have g1 := hX.frozen 1;have g2 := hX.frozen 2;simp only [gA, gB, gC] at c0 c1 c2;refine callsD_of_wpS Tryz.func36 rfl fun c₀ cs hu => ?_;apply wpS_seq
 apply wpS_region
 simp [wpOpsS, go_sem, recoverD, hu, Tryz.ntmps36, Exit.thenS]
 apply wpS_seq
 apply wpS_region
 simp [wpOpsS, go_sem, Exit.thenS]
 refine wpS_cond (t := true) (by simp [Act.eval, Array.replicate]) ?_;simp only [if_true];apply wpS_region
 simp [wpOpsS, go_sem, Array.replicate, zhq, c0, c1, c2, g0, g1, g2, bodyPostS, results, Tryz.results36]
theorem TreeOwn.based {w : World} {base base' cb : Nat} {ty : TypeId} {v1 v2 v3 : Value} (h : TreeOwn w base cb ty v1 v2 v3 [] [] []) (hb : base' ≤ base) : TreeOwn w base' cb ty v1 v2 v3 [] [] [] :=
 ⟨h.blk, h.tys, zK4 hb h.bas, zli h.o1 hb, zli h.o2 hb, zli h.o3 hb, fun _ h => by simp at h, fun _ h => by simp at h⟩
theorem zxd {ts : List Tk} {M : St → R3 Nat} (hM : Rule3 ts 21 M) : Rule0 ts 20 (fun s => (M s).bind fun _ s1 => R3.ok () s1) := by
 intro B w s hBts h hk hu;dsimp only at hu ⊢;generalize hR : ((M s).bind fun _ s1 => R3.ok () s1) = R at hu ⊢;have cR := hM B w s hBts h hk;rcases hM1 : M s with ⟨i, s1⟩ | ⟨c, p⟩ | _
 case un => rw [hM1] at hR; exact absurd hR.symm hu
 · have cc := cR (by rw [hM1]; simp)
   rw [hM1] at cc hR;simp only [R3.okB] at hR;clear hM1 h cR hM;go_enter Tryz.func20, Tryz.ntmps20
   go_wp2_with fail
   with_reducible refine cc.mono ?_
   rintro e w1 ⟨rfl, a1⟩;go_wp2_with fail
   go_end0
   rw [← hR];exact ⟨rfl, a1⟩
 · have cc := cR (by rw [hM1]; simp)
   rw [hM1] at cc hR;simp only [R3.badB] at hR;clear hM1 h cR hM;go_enter Tryz.func20, Tryz.ntmps20
   go_wp2_with fail
   with_reducible refine cc.mono ?_
   rintro e w1 ⟨rfl, a1⟩;go_wp2_with fail
   refine ⟨rfl, ?_⟩;rw [← hR];exact ⟨rfl, a1⟩
set_option maxRecDepth 100000 in
theorem zA3 {l : List UInt8} {ts : List Tk} {s' : St} (hA : lexA l = .ok ts) (hT : TsOk ts) (hlen : ts.length ≤ 2097152) (M : St → R3 Unit) (hR : Rule0 ts 19 M) (hM : M St.zero = .ok () s') (hE : (tkA ts s'.k).1 = 0) (hk' : s'.k < ts.length)
 (a : Option Addr) (len cap : Nat) (w : World) (hl : l.length = len) (hEnv : Env w) (hI : TextAt w.heap.size w (.slice a len cap) l) :
 Calls Tryz.prog 18 #[.slice a len cap, .func (.func 19) #[] #[]] w fun e w' => ∃ p', e = .returned (.tuple #[treeV ⟨s'.t1, s'.t2, s'.t3⟩ p', .agg #[.int .i64 0, .int .i64 0, .string ⟨#[]⟩]]) ∧ TreeAt (fun b => w.heap.size ≤ b ∧ b < w'.heap.size) w' ⟨s'.t1, s'.t2, s'.t3⟩ p' ∧ Below w.heap.size w w' := by
 obtain ⟨W0, hW0⟩ : ∃ W0, w.alloc (.cells #[.slice none 0 0, .slice none 0 0, .slice none 0 0] 27) = W0 := ⟨_, rfl⟩;obtain ⟨W1, hW1⟩ : ∃ W1, W0.alloc (.cells #[.int .i64 0, .int .i64 0, .string ⟨#[]⟩] 30) = W1 := ⟨_, rfl⟩;have hB0 : Below w.heap.size w W0 := by rw [← hW0]; exact (zJx _ _).alloc (zJw _) _
 have hB1 : Below W0.heap.size W0 W1 := by rw [← hW1]; exact (zJx _ _).alloc (zJw _) _
 have hX0 : Blk W0 w.heap.size 27 #[.slice none 0 0, .slice none 0 0, .slice none 0 0] := by rw [← hW0]; exact Blk.new w 27 _
 have hX1 : Blk W1 W0.heap.size 30 #[.int .i64 0, .int .i64 0, .string ⟨#[]⟩] := by rw [← hW1]; exact Blk.new W0 30 _
 have hB01 : Below w.heap.size w W1 := hB0.trans (hB1.mono hB0.size);have cL := zd8 a len cap l W1 (hEnv.on hB01) hl (TextAt.more hB01.size (hI.below hB01));have hmf : ∀ (fn : Fn) (first cap : Array Value) (w : World), (Instr.makeFunc fn first cap).run Tryz.prog w = .ok (.func fn first cap) w := fun _ _ _ _ => rfl;unfold zc5 at cL;rw [hA] at cL;dsimp only at cL;have hmm := @run_makeMap Tryz.prog;go_enter_defers Tryz.func18, Tryz.ntmps18
 go_wp2_with fail
 refine cL.mono ?_;rintro e w1 ⟨⟨v, rfl, hrow⟩, hb1⟩;obtain ⟨g, c, rfl, hg1, hg2, hg3, hgc⟩ := zcs hrow hT.pos;go_wp2_with fail
 obtain ⟨W2, hW2⟩ : ∃ W2, w1.alloc (.cells #[.int .i64 0, .int .i64 0, .string ⟨#[]⟩] 30) = W2 := ⟨_, rfl⟩;obtain ⟨W3, hW3⟩ : ∃ W3, W2.alloc (.map #[] 0) = W3 := ⟨_, rfl⟩;have hb2 : Below w1.heap.size w1 W2 := by rw [← hW2]; exact (zJx _ _).alloc (zJw _) _
 have hb3 : Below W2.heap.size W2 W3 := by rw [← hW3]; exact (zJx _ _).alloc (zJw _) _
 have hb13 : Below w1.heap.size w1 W3 := hb2.trans (hb3.mono hb2.size);have hb3' : Below W1.heap.size W1 W3 := hb1.trans (hb13.mono hb1.size);have cNew := ze5 W3;rw [hW2, hW3];clear cL hrow;refine cNew.mono ?_;rintro e w4 ⟨rfl, hTO, hb4⟩;have hz2 : W2.heap.size = w1.heap.size + 1 := by rw [← hW2]; simp
 rw [← hz2];clear hz2;obtain ⟨W5, hW5⟩ : ∃ W5, w4.alloc (.cells #[.slice (some ⟨g, 0, none⟩) ts.length c, .int .i64 0, .int .i64 0, .map (some W2.heap.size), .pointer (some ⟨W3.heap.size, 0, none⟩)] 75) = W5 := ⟨_, rfl⟩;have hb5 : Below w4.heap.size w4 W5 := by rw [← hW5]; exact (zJx _ _).alloc (zJw _) _
 have hX5 : Blk W5 w4.heap.size 75 #[.slice (some ⟨g, 0, none⟩) ts.length c, .int .i64 0, .int .i64 0, .map (some W2.heap.size), .pointer (some ⟨W3.heap.size, 0, none⟩)] := by rw [← hW5]; exact Blk.new w4 75 _
 have hb35 : Below W3.heap.size W3 W5 := hb4.trans (hb5.mono hb4.size);have hs1 := hB0.size;have hs2 := hB1.size;have hs3 := hb1.size;have hs4 := hb13.size;have hs5 := hb4.size;have hs6 := hb5.size;have hb15 : Below w1.heap.size w1 W5 := hb13.trans (hb35.mono hs4);have hbW5 : Below w.heap.size w W5 := (hB01.trans (hb1.mono hB01.size)).trans (hb15.mono (by omega));have hmp : MapAt W5 W2.heap.size [] := (show MapAt W3 W2.heap.size [] from by rw [← hW3]; exact MapAt.made W2).same (hb35.block _ (by rw [← hW3]; simp))
 have p5 : PS ⟨g, c, w4.heap.size, W3.heap.size, W2.heap.size, W2.heap.size, ts, fun _ => False⟩ W5 St.zero :=
  { env := hEnv.on hbW5
    blk := hX5
    tok := fun j u hu => (hb15.cell (p := ⟨g, j, none⟩) hg2).trans (hgc j u hu)
    gb := by show g < W2.heap.size; have := hb2.size; omega
    b6 := by show 6 ≤ W2.heap.size; have := hEnv.size; have := hb2.size; omega
    bw := by show W2.heap.size ≤ W5.heap.size; have := hb3.size; have := hb35.size; omega
    pbb := by show W2.heap.size ≤ w4.heap.size; have := hb3.size; omega
    cap := hg3
    built := ⟨_, _, _, [], [], [], ⟨(hTO.below hb5).based hb3.size, fun x hx => by simp at hx, fun x hx => by simp at hx⟩, rfl, rfl, rfl⟩
    n1 := by simp
    n2 := by simp
    f1 := fun x hx => by simp at hx
    f2 := fun x hx => by simp at hx
    kb := by simp
    ob := by simp
    lb := hlen
    ll := fun b hb => hb.elim
    mp := hmp
    mb := zJw _
    ml := fun hb => hb.elim
    mle := zK8 _
    n3 := zK8 _ }
 have cR := hR _ W5 _ rfl p5 hT.pos (by rw [hM]; simp);rw [hM] at cR;go_wp2_with fail
 obtain ⟨B, HBe⟩ : ∃ B : PE, Hid ((⟨g, c, w4.heap.size, W3.heap.size, W2.heap.size, W2.heap.size, ts, fun _ => False⟩ : PE) = B) := ⟨_, zJv rfl⟩;have HBts : Hid (B.ts = ts) := zJv (by rw [← HBe.out]);have HBpb : Hid (w4.heap.size = B.pb) := zJv (by rw [← HBe.out]);have hs7 := hb2.size;have hs8 := hb3.size;have HBb : Hid (W2.heap.size = B.base) := zJv (by rw [← HBe.out]);have HBcb : Hid (W3.heap.size = B.cb) := zJv (by rw [← HBe.out]);rw [HBe.out] at cR p5;unfold PE.ptr at cR;rw [← HBpb.out] at cR;have hX0' : Blk W5 w.heap.size 27 #[.slice none 0 0, .slice none 0 0, .slice none 0 0] := (((hX0.below hB1 hX0.lt).below hb1 (zJy hX0.lt hB1.size)).below hb15 (zJy (zJy hX0.lt hB1.size) hb1.size));have hX1' : Blk W5 W0.heap.size 30 #[.int .i64 0, .int .i64 0, .string ⟨#[]⟩] := (hX1.below hb1 hX1.lt).below hb15 (zJy hX1.lt hb1.size);have hl0 := hX0.lt;have hl1 := hX1.lt;refine cR.mono ?_;rintro e w6 ⟨rfl, a6⟩;have A6 := zJv a6;have P5 := zJv p5;have HX0' := zJv hX0';have HX1' := zJv hX1';have HbW5 := zJv hbW5;have HMM := zJv hmm
 have cK : Calls Tryz.prog 38 #[.pointer (some ⟨w4.heap.size, 0, none⟩), .int .i64 0] w6 fun e w' => e = .returned (tokV (tkA ts s'.k)) ∧ Aft B w6 (s'.on 1) w' := by
  have := zcf a6.ps (by rw [HBts.out]; exact hk') 0 (by rw [HBts.out]; exact hE);rw [HBts.out] at this;rw [HBpb.out];exact this
 go_wp2_with fail
 refine cK.mono ?_;rintro e w7 ⟨rfl, a7⟩;have a67 := a6.trans a7;obtain ⟨v1, v2, v3, r1, r2, r3, hBI, e1, e2, e9⟩ := a7.ps.built
 have cT := zit B.base B.cb w7 hBI.tr (by have := a7.ps.n1; rw [← e1] at this; simpa using this) (by have := a7.ps.n2; rw [← e2] at this; simpa using this) (by have h3 := a7.ps.n3; rw [e9]; have h4 : (s'.on 1).k = s'.k + 1 := rfl; have h5 := hT.few; omega)
  (fun x hx => a7.ps.f1 _ (by rw [← e1]; exact List.mem_map_of_mem hx)) (fun x hx => a7.ps.f2 _ (by rw [← e2]; exact List.mem_map_of_mem hx))
 rw [e1, e2, e9] at cT;have c4 := a7.ps.blk.cell 4;simp only [PE.cells, gA, gB, gC] at c4;rw [← HBpb.out] at c4;have hX0'' := hX0'.below a67.bel (by rw [← HBb.out]; omega);have hX1'' := hX1'.below a67.bel (by rw [← HBb.out]; omega);have hbW7 : Below w.heap.size w w7 := hbW5.trans (a67.bel.mono (by rw [← HBb.out]; omega));have l7 := a67.bel.size;clear cK cR a6 a7 hBI e1 e2 e9;go_wp2_with fail
 refine cT.mono ?_;rintro e w8 ⟨p', rfl, hTA, hb8⟩;have hX0a := hX0''.below hb8 (by omega);have hX1a := hX1''.below hb8 (by omega);have x0 := hX0a.cell 0;have x1 := hX0a.cell 1;have x2 := hX0a.cell 2;have y0 := hX0a.frozen 0;have y1 := hX0a.frozen 1;have y2 := hX0a.frozen 2;have x3 := hX1a.cell 0;have x4 := hX1a.cell 1;have x5 := hX1a.cell 2;have y3 := hX1a.frozen 0;have y4 := hX1a.frozen 1;have y5 := hX1a.frozen 2;simp only [gA, gB, gC] at x0 x1 x2 x3 x4 x5;have hne1 : (w.heap.size = W0.heap.size) = False := eq_false (by omega);have hne2 : (W0.heap.size = w.heap.size) = False := eq_false (by omega);have HX0 := zJv hX0a;have HX1 := zJv hX1a;have HB7 := zJv hbW7;have HB8 := zJv hb8;have HTA := zJv hTA;have HP7 := zJv a67.ps;clear cT hX0 hX1 hX0' hX1' hX0'' hX1'' hX0a hX1a hb8 hbW7 hTA a67 p5 hb35 hb15 hbW5 hb13 hb3' hb3 hb2 hb1 hb4 hb5 hB01 hB0 hB1 hW0 hW1 hW2 hW3 hW5 hX5 hTO hgc;go_wp2_with fail
 have hZ0 := (((HX0.out.set_ 0 (.slice p'.a1 s'.t1.length p'.c1)).set_ 1 (.slice p'.a2 s'.t2.length p'.c2)).set_ 2 (.slice p'.a3 s'.t3.length p'.c3)).far (p := ⟨W0.heap.size, 0, none⟩) (by dsimp only; omega) (.int .i64 0) |>.far (p := ⟨W0.heap.size, 1, none⟩) (by dsimp only; omega) (.int .i64 0) |>.far (p := ⟨W0.heap.size, 2, none⟩) (by dsimp only; omega) (.string ⟨#[]⟩);have hZ1 := ((((((HX1.out.far (p := ⟨w.heap.size, 0, none⟩) (by dsimp only; omega) (.slice p'.a1 s'.t1.length p'.c1)).far (p := ⟨w.heap.size, 1, none⟩) (by dsimp only; omega) (.slice p'.a2 s'.t2.length p'.c2)).far (p := ⟨w.heap.size, 2, none⟩) (by dsimp only; omega) (.slice p'.a3 s'.t3.length p'.c3)).set_ 0 (.int .i64 0)).set_ 1 (.int .i64 0)).set_ 2 (.string ⟨#[]⟩));have q0 := hZ0.cell 0;have q1 := hZ0.cell 1;have q2 := hZ0.cell 2;have q3 := hZ1.cell 0;have q4 := hZ1.cell 1;have q5 := hZ1.cell 2;simp only [sA, sB, sC, gA, gB, gC] at q0 q1 q2 q3 q4 q5;refine leaves_cons (f := 36) (args := #[.pointer (some ⟨W0.heap.size, 0, none⟩)]) (by simp) (by simp [go_sem]) ?_;refine (zem ⟨W0.heap.size, 0, none⟩ _).mono ?_;rintro e u' w9 ⟨rfl, rfl, rfl⟩;refine ⟨.tuple #[treeV ⟨s'.t1, s'.t2, s'.t3⟩ p', .agg #[.int .i64 0, .int .i64 0, .string ⟨#[]⟩]], by simp [results, Tryz.results18, go_sem, St.on, q0, q1, q2, q3, q4, q5], p', rfl, ?_, ?_⟩
 · have hw8 := HB8.out.size
   refine (HTA.out.keep (fun b o hb => ?_)).imp (fun b hb => ⟨by have := hb.1; omega, by simpa using hb.2⟩);have hb1 := hb.1;rw [zK0 _ _ _ _ (by intro e; injection e; omega), zK0 _ _ _ _ (by intro e; injection e; omega), zK0 _ _ _ _ (by intro e; injection e; omega), zK0 _ _ _ _ (by intro e; injection e; omega), zK0 _ _ _ _ (by intro e; injection e; omega), zK0 _ _ _ _ (by intro e; injection e; omega)]
 · have h0 : w.heap.size ≤ w.heap.size := zJw _
   exact ((((((HB7.out.trans (HB8.out.mono (by omega))).setCell (p := ⟨w.heap.size, 0, none⟩) h0 _).setCell (p := ⟨w.heap.size, 1, none⟩) h0 _).setCell (p := ⟨w.heap.size, 2, none⟩) h0 _).setCell (p := ⟨W0.heap.size, 0, none⟩) hs1 _).setCell (p := ⟨W0.heap.size, 1, none⟩) hs1 _).setCell (p := ⟨W0.heap.size, 2, none⟩) hs1 _
set_option maxRecDepth 100000 in
theorem zIh {l : List UInt8} {ts : List Tk} {s' : St} (hA : lexA l = .ok ts) (hT : TsOk ts) (hlen : ts.length ≤ 2097152) (M : St → R3 Unit) (hR : Rule0 ts 19 M) (hM : M St.zero = .ok () s') (hE : (tkA ts s'.k).1 = 0) (hk' : s'.k < ts.length)
 (a : Option Addr) (len cap : Nat) (w : World) (hl : l.length = len) (hEnv : Env w) (hI : TextAt w.heap.size w (.slice a len cap) l) :
 Calls Tryz.prog 9 #[.slice a len cap] w fun e w' => ∃ p', e = .returned (.tuple #[treeV ⟨s'.t1, s'.t2, s'.t3⟩ p', .agg #[.int .i64 0, .int .i64 0, .string ⟨#[]⟩]]) ∧ TreeAt (fun b => w.heap.size ≤ b ∧ b < w'.heap.size) w' ⟨s'.t1, s'.t2, s'.t3⟩ p' ∧ Below w.heap.size w w' := by
 obtain ⟨W0, hW0⟩ : ∃ W0, w.alloc (.cells #[.slice none 0 0, .slice none 0 0, .slice none 0 0] 27) = W0 := ⟨_, rfl⟩;obtain ⟨W1, hW1⟩ : ∃ W1, W0.alloc (.cells #[.int .i64 0, .int .i64 0, .string ⟨#[]⟩] 30) = W1 := ⟨_, rfl⟩;have hB0 : Below w.heap.size w W0 := by rw [← hW0]; exact (zJx _ _).alloc (zJw _) _
 have hB1 : Below W0.heap.size W0 W1 := by rw [← hW1]; exact (zJx _ _).alloc (zJw _) _
 have hX0 : Blk W0 w.heap.size 27 #[.slice none 0 0, .slice none 0 0, .slice none 0 0] := by rw [← hW0]; exact Blk.new w 27 _
 have hX1 : Blk W1 W0.heap.size 30 #[.int .i64 0, .int .i64 0, .string ⟨#[]⟩] := by rw [← hW1]; exact Blk.new W0 30 _
 have hB01 : Below w.heap.size w W1 := hB0.trans (hB1.mono hB0.size);have cP := zA3 hA hT hlen M hR hM hE hk' a len cap W1 hl (hEnv.on hB01) (TextAt.more hB01.size (hI.below hB01));have hl0 := hX0.lt;have hl1 := hX1.lt;have hs1 := hB0.size;have hs2 := hB1.size;have HX0 := zJv (hX0.below hB1 hl0);have HX1 := zJv hX1;have HB01 := zJv hB01;clear hA hT hR hM hE hk' hI hB0 hB1 hX0 hX1 hB01;go_enter Tryz.func9, Tryz.ntmps9
 go_wp2_with fail
 refine cP.mono ?_;rintro e w8 ⟨p', rfl, hTA, hb8⟩;have hX0a := HX0.out.below hb8 (by omega);have hX1a := HX1.out.below hb8 hl1;have x0 := hX0a.cell 0;have x1 := hX0a.cell 1;have x2 := hX0a.cell 2;have y0 := hX0a.frozen 0;have y1 := hX0a.frozen 1;have y2 := hX0a.frozen 2;have x3 := hX1a.cell 0;have x4 := hX1a.cell 1;have x5 := hX1a.cell 2;have y3 := hX1a.frozen 0;have y4 := hX1a.frozen 1;have y5 := hX1a.frozen 2;simp only [gA, gB, gC] at x0 x1 x2 x3 x4 x5;have hne1 : (w.heap.size = W0.heap.size) = False := eq_false (by omega);have hne2 : (W0.heap.size = w.heap.size) = False := eq_false (by omega);have HX0a := zJv hX0a;have HX1a := zJv hX1a;have HB8 := zJv hb8;have HTA := zJv hTA;clear hX0a hX1a hb8 hTA cP hW0 hW1;go_wp2_with fail
 have hZ0 := (((HX0a.out.set_ 0 (.slice p'.a1 s'.t1.length p'.c1)).set_ 1 (.slice p'.a2 s'.t2.length p'.c2)).set_ 2 (.slice p'.a3 s'.t3.length p'.c3)).far (p := ⟨W0.heap.size, 0, none⟩) (by dsimp only; omega) (.int .i64 0) |>.far (p := ⟨W0.heap.size, 1, none⟩) (by dsimp only; omega) (.int .i64 0) |>.far (p := ⟨W0.heap.size, 2, none⟩) (by dsimp only; omega) (.string ⟨#[]⟩);have hZ1 := ((((((HX1a.out.far (p := ⟨w.heap.size, 0, none⟩) (by dsimp only; omega) (.slice p'.a1 s'.t1.length p'.c1)).far (p := ⟨w.heap.size, 1, none⟩) (by dsimp only; omega) (.slice p'.a2 s'.t2.length p'.c2)).far (p := ⟨w.heap.size, 2, none⟩) (by dsimp only; omega) (.slice p'.a3 s'.t3.length p'.c3)).set_ 0 (.int .i64 0)).set_ 1 (.int .i64 0)).set_ 2 (.string ⟨#[]⟩));have q0 := hZ0.cell 0;have q1 := hZ0.cell 1;have q2 := hZ0.cell 2;have q3 := hZ1.cell 0;have q4 := hZ1.cell 1;have q5 := hZ1.cell 2;simp only [sA, sB, sC, gA, gB, gC] at q0 q1 q2 q3 q4 q5;refine bodyPost_ret (v := .tuple #[treeV ⟨s'.t1, s'.t2, s'.t3⟩ p', .agg #[.int .i64 0, .int .i64 0, .string ⟨#[]⟩]]) (by simp [results, Tryz.results9, go_sem, q0, q1, q2, q3, q4, q5]) rfl ⟨p', rfl, ?_, ?_⟩
 · have hw8 := HB8.out.size
   refine (HTA.out.keep (fun b o hb => ?_)).imp (fun b hb => ⟨by have := hb.1; omega, by simpa using hb.2⟩);have hb1 := hb.1;rw [zK0 _ _ _ _ (by intro e; injection e; omega), zK0 _ _ _ _ (by intro e; injection e; omega), zK0 _ _ _ _ (by intro e; injection e; omega), zK0 _ _ _ _ (by intro e; injection e; omega), zK0 _ _ _ _ (by intro e; injection e; omega), zK0 _ _ _ _ (by intro e; injection e; omega)]
 · have h0 : w.heap.size ≤ w.heap.size := zJw _
   exact ((((((HB01.out.trans (HB8.out.mono (by omega))).setCell (p := ⟨w.heap.size, 0, none⟩) h0 _).setCell (p := ⟨w.heap.size, 1, none⟩) h0 _).setCell (p := ⟨w.heap.size, 2, none⟩) h0 _).setCell (p := ⟨W0.heap.size, 0, none⟩) hs1 _).setCell (p := ⟨W0.heap.size, 1, none⟩) hs1 _).setCell (p := ⟨W0.heap.size, 2, none⟩) hs1 _
set_option maxRecDepth 100000 in
theorem zxn {l : List UInt8} {ts : List Tk} {s' : St} (hA : lexA l = .ok ts) (hT : TsOk ts) (hlen : ts.length ≤ 2097152) (M : St → R3 Unit) (hR : Rule0 ts 20 M) (hM : M St.zero = .ok () s') (hE : (tkA ts s'.k).1 = 0) (hk' : s'.k < ts.length)
 (a : Option Addr) (len cap : Nat) (w : World) (hl : l.length = len) (hEnv : Env w) (hI : TextAt w.heap.size w (.slice a len cap) l) :
 Calls Tryz.prog 18 #[.slice a len cap, .func (.func 20) #[] #[]] w fun e w' => ∃ p', e = .returned (.tuple #[treeV ⟨s'.t1, s'.t2, s'.t3⟩ p', .agg #[.int .i64 0, .int .i64 0, .string ⟨#[]⟩]]) ∧ TreeAt (fun b => w.heap.size ≤ b ∧ b < w'.heap.size) w' ⟨s'.t1, s'.t2, s'.t3⟩ p' ∧ Below w.heap.size w w' := by
 obtain ⟨W0, hW0⟩ : ∃ W0, w.alloc (.cells #[.slice none 0 0, .slice none 0 0, .slice none 0 0] 27) = W0 := ⟨_, rfl⟩;obtain ⟨W1, hW1⟩ : ∃ W1, W0.alloc (.cells #[.int .i64 0, .int .i64 0, .string ⟨#[]⟩] 30) = W1 := ⟨_, rfl⟩;have hB0 : Below w.heap.size w W0 := by rw [← hW0]; exact (zJx _ _).alloc (zJw _) _
 have hB1 : Below W0.heap.size W0 W1 := by rw [← hW1]; exact (zJx _ _).alloc (zJw _) _
 have hX0 : Blk W0 w.heap.size 27 #[.slice none 0 0, .slice none 0 0, .slice none 0 0] := by rw [← hW0]; exact Blk.new w 27 _
 have hX1 : Blk W1 W0.heap.size 30 #[.int .i64 0, .int .i64 0, .string ⟨#[]⟩] := by rw [← hW1]; exact Blk.new W0 30 _
 have hB01 : Below w.heap.size w W1 := hB0.trans (hB1.mono hB0.size);have cL := zd8 a len cap l W1 (hEnv.on hB01) hl (TextAt.more hB01.size (hI.below hB01));have hmf : ∀ (fn : Fn) (first cap : Array Value) (w : World), (Instr.makeFunc fn first cap).run Tryz.prog w = .ok (.func fn first cap) w := fun _ _ _ _ => rfl;unfold zc5 at cL;rw [hA] at cL;dsimp only at cL;have hmm := @run_makeMap Tryz.prog;go_enter_defers Tryz.func18, Tryz.ntmps18
 go_wp2_with fail
 refine cL.mono ?_;rintro e w1 ⟨⟨v, rfl, hrow⟩, hb1⟩;obtain ⟨g, c, rfl, hg1, hg2, hg3, hgc⟩ := zcs hrow hT.pos;go_wp2_with fail
 obtain ⟨W2, hW2⟩ : ∃ W2, w1.alloc (.cells #[.int .i64 0, .int .i64 0, .string ⟨#[]⟩] 30) = W2 := ⟨_, rfl⟩;obtain ⟨W3, hW3⟩ : ∃ W3, W2.alloc (.map #[] 0) = W3 := ⟨_, rfl⟩;have hb2 : Below w1.heap.size w1 W2 := by rw [← hW2]; exact (zJx _ _).alloc (zJw _) _
 have hb3 : Below W2.heap.size W2 W3 := by rw [← hW3]; exact (zJx _ _).alloc (zJw _) _
 have hb13 : Below w1.heap.size w1 W3 := hb2.trans (hb3.mono hb2.size);have hb3' : Below W1.heap.size W1 W3 := hb1.trans (hb13.mono hb1.size);have cNew := ze5 W3;rw [hW2, hW3];clear cL hrow;refine cNew.mono ?_;rintro e w4 ⟨rfl, hTO, hb4⟩;have hz2 : W2.heap.size = w1.heap.size + 1 := by rw [← hW2]; simp
 rw [← hz2];clear hz2;obtain ⟨W5, hW5⟩ : ∃ W5, w4.alloc (.cells #[.slice (some ⟨g, 0, none⟩) ts.length c, .int .i64 0, .int .i64 0, .map (some W2.heap.size), .pointer (some ⟨W3.heap.size, 0, none⟩)] 75) = W5 := ⟨_, rfl⟩;have hb5 : Below w4.heap.size w4 W5 := by rw [← hW5]; exact (zJx _ _).alloc (zJw _) _
 have hX5 : Blk W5 w4.heap.size 75 #[.slice (some ⟨g, 0, none⟩) ts.length c, .int .i64 0, .int .i64 0, .map (some W2.heap.size), .pointer (some ⟨W3.heap.size, 0, none⟩)] := by rw [← hW5]; exact Blk.new w4 75 _
 have hb35 : Below W3.heap.size W3 W5 := hb4.trans (hb5.mono hb4.size);have hs1 := hB0.size;have hs2 := hB1.size;have hs3 := hb1.size;have hs4 := hb13.size;have hs5 := hb4.size;have hs6 := hb5.size;have hb15 : Below w1.heap.size w1 W5 := hb13.trans (hb35.mono hs4);have hbW5 : Below w.heap.size w W5 := (hB01.trans (hb1.mono hB01.size)).trans (hb15.mono (by omega));have hmp : MapAt W5 W2.heap.size [] := (show MapAt W3 W2.heap.size [] from by rw [← hW3]; exact MapAt.made W2).same (hb35.block _ (by rw [← hW3]; simp))
 have p5 : PS ⟨g, c, w4.heap.size, W3.heap.size, W2.heap.size, W2.heap.size, ts, fun _ => False⟩ W5 St.zero :=
  { env := hEnv.on hbW5
    blk := hX5
    tok := fun j u hu => (hb15.cell (p := ⟨g, j, none⟩) hg2).trans (hgc j u hu)
    gb := by show g < W2.heap.size; have := hb2.size; omega
    b6 := by show 6 ≤ W2.heap.size; have := hEnv.size; have := hb2.size; omega
    bw := by show W2.heap.size ≤ W5.heap.size; have := hb3.size; have := hb35.size; omega
    pbb := by show W2.heap.size ≤ w4.heap.size; have := hb3.size; omega
    cap := hg3
    built := ⟨_, _, _, [], [], [], ⟨(hTO.below hb5).based hb3.size, fun x hx => by simp at hx, fun x hx => by simp at hx⟩, rfl, rfl, rfl⟩
    n1 := by simp
    n2 := by simp
    f1 := fun x hx => by simp at hx
    f2 := fun x hx => by simp at hx
    kb := by simp
    ob := by simp
    lb := hlen
    ll := fun b hb => hb.elim
    mp := hmp
    mb := zJw _
    ml := fun hb => hb.elim
    mle := zK8 _
    n3 := zK8 _ }
 have cR := hR _ W5 _ rfl p5 hT.pos (by rw [hM]; simp);rw [hM] at cR;go_wp2_with fail
 obtain ⟨B, HBe⟩ : ∃ B : PE, Hid ((⟨g, c, w4.heap.size, W3.heap.size, W2.heap.size, W2.heap.size, ts, fun _ => False⟩ : PE) = B) := ⟨_, zJv rfl⟩;have HBts : Hid (B.ts = ts) := zJv (by rw [← HBe.out]);have HBpb : Hid (w4.heap.size = B.pb) := zJv (by rw [← HBe.out]);have hs7 := hb2.size;have hs8 := hb3.size;have HBb : Hid (W2.heap.size = B.base) := zJv (by rw [← HBe.out]);have HBcb : Hid (W3.heap.size = B.cb) := zJv (by rw [← HBe.out]);rw [HBe.out] at cR p5;unfold PE.ptr at cR;rw [← HBpb.out] at cR;have hX0' : Blk W5 w.heap.size 27 #[.slice none 0 0, .slice none 0 0, .slice none 0 0] := (((hX0.below hB1 hX0.lt).below hb1 (zJy hX0.lt hB1.size)).below hb15 (zJy (zJy hX0.lt hB1.size) hb1.size));have hX1' : Blk W5 W0.heap.size 30 #[.int .i64 0, .int .i64 0, .string ⟨#[]⟩] := (hX1.below hb1 hX1.lt).below hb15 (zJy hX1.lt hb1.size);have hl0 := hX0.lt;have hl1 := hX1.lt;refine cR.mono ?_;rintro e w6 ⟨rfl, a6⟩;have A6 := zJv a6;have P5 := zJv p5;have HX0' := zJv hX0';have HX1' := zJv hX1';have HbW5 := zJv hbW5;have HMM := zJv hmm
 have cK : Calls Tryz.prog 38 #[.pointer (some ⟨w4.heap.size, 0, none⟩), .int .i64 0] w6 fun e w' => e = .returned (tokV (tkA ts s'.k)) ∧ Aft B w6 (s'.on 1) w' := by
  have := zcf a6.ps (by rw [HBts.out]; exact hk') 0 (by rw [HBts.out]; exact hE);rw [HBts.out] at this;rw [HBpb.out];exact this
 go_wp2_with fail
 refine cK.mono ?_;rintro e w7 ⟨rfl, a7⟩;have a67 := a6.trans a7;obtain ⟨v1, v2, v3, r1, r2, r3, hBI, e1, e2, e9⟩ := a7.ps.built
 have cT := zit B.base B.cb w7 hBI.tr (by have := a7.ps.n1; rw [← e1] at this; simpa using this) (by have := a7.ps.n2; rw [← e2] at this; simpa using this) (by have h3 := a7.ps.n3; rw [e9]; have h4 : (s'.on 1).k = s'.k + 1 := rfl; have h5 := hT.few; omega)
  (fun x hx => a7.ps.f1 _ (by rw [← e1]; exact List.mem_map_of_mem hx)) (fun x hx => a7.ps.f2 _ (by rw [← e2]; exact List.mem_map_of_mem hx))
 rw [e1, e2, e9] at cT;have c4 := a7.ps.blk.cell 4;simp only [PE.cells, gA, gB, gC] at c4;rw [← HBpb.out] at c4;have hX0'' := hX0'.below a67.bel (by rw [← HBb.out]; omega);have hX1'' := hX1'.below a67.bel (by rw [← HBb.out]; omega);have hbW7 : Below w.heap.size w w7 := hbW5.trans (a67.bel.mono (by rw [← HBb.out]; omega));have l7 := a67.bel.size;clear cK cR a6 a7 hBI e1 e2 e9;go_wp2_with fail
 refine cT.mono ?_;rintro e w8 ⟨p', rfl, hTA, hb8⟩;have hX0a := hX0''.below hb8 (by omega);have hX1a := hX1''.below hb8 (by omega);have x0 := hX0a.cell 0;have x1 := hX0a.cell 1;have x2 := hX0a.cell 2;have y0 := hX0a.frozen 0;have y1 := hX0a.frozen 1;have y2 := hX0a.frozen 2;have x3 := hX1a.cell 0;have x4 := hX1a.cell 1;have x5 := hX1a.cell 2;have y3 := hX1a.frozen 0;have y4 := hX1a.frozen 1;have y5 := hX1a.frozen 2;simp only [gA, gB, gC] at x0 x1 x2 x3 x4 x5;have hne1 : (w.heap.size = W0.heap.size) = False := eq_false (by omega);have hne2 : (W0.heap.size = w.heap.size) = False := eq_false (by omega);have HX0 := zJv hX0a;have HX1 := zJv hX1a;have HB7 := zJv hbW7;have HB8 := zJv hb8;have HTA := zJv hTA;have HP7 := zJv a67.ps;clear cT hX0 hX1 hX0' hX1' hX0'' hX1'' hX0a hX1a hb8 hbW7 hTA a67 p5 hb35 hb15 hbW5 hb13 hb3' hb3 hb2 hb1 hb4 hb5 hB01 hB0 hB1 hW0 hW1 hW2 hW3 hW5 hX5 hTO hgc;go_wp2_with fail
 have hZ0 := (((HX0.out.set_ 0 (.slice p'.a1 s'.t1.length p'.c1)).set_ 1 (.slice p'.a2 s'.t2.length p'.c2)).set_ 2 (.slice p'.a3 s'.t3.length p'.c3)).far (p := ⟨W0.heap.size, 0, none⟩) (by dsimp only; omega) (.int .i64 0) |>.far (p := ⟨W0.heap.size, 1, none⟩) (by dsimp only; omega) (.int .i64 0) |>.far (p := ⟨W0.heap.size, 2, none⟩) (by dsimp only; omega) (.string ⟨#[]⟩);have hZ1 := ((((((HX1.out.far (p := ⟨w.heap.size, 0, none⟩) (by dsimp only; omega) (.slice p'.a1 s'.t1.length p'.c1)).far (p := ⟨w.heap.size, 1, none⟩) (by dsimp only; omega) (.slice p'.a2 s'.t2.length p'.c2)).far (p := ⟨w.heap.size, 2, none⟩) (by dsimp only; omega) (.slice p'.a3 s'.t3.length p'.c3)).set_ 0 (.int .i64 0)).set_ 1 (.int .i64 0)).set_ 2 (.string ⟨#[]⟩));have q0 := hZ0.cell 0;have q1 := hZ0.cell 1;have q2 := hZ0.cell 2;have q3 := hZ1.cell 0;have q4 := hZ1.cell 1;have q5 := hZ1.cell 2;simp only [sA, sB, sC, gA, gB, gC] at q0 q1 q2 q3 q4 q5;refine leaves_cons (f := 36) (args := #[.pointer (some ⟨W0.heap.size, 0, none⟩)]) (by simp) (by simp [go_sem]) ?_;refine (zem ⟨W0.heap.size, 0, none⟩ _).mono ?_;rintro e u' w9 ⟨rfl, rfl, rfl⟩;refine ⟨.tuple #[treeV ⟨s'.t1, s'.t2, s'.t3⟩ p', .agg #[.int .i64 0, .int .i64 0, .string ⟨#[]⟩]], by simp [results, Tryz.results18, go_sem, St.on, q0, q1, q2, q3, q4, q5], p', rfl, ?_, ?_⟩
 · have hw8 := HB8.out.size
   refine (HTA.out.keep (fun b o hb => ?_)).imp (fun b hb => ⟨by have := hb.1; omega, by simpa using hb.2⟩);have hb1 := hb.1;rw [zK0 _ _ _ _ (by intro e; injection e; omega), zK0 _ _ _ _ (by intro e; injection e; omega), zK0 _ _ _ _ (by intro e; injection e; omega), zK0 _ _ _ _ (by intro e; injection e; omega), zK0 _ _ _ _ (by intro e; injection e; omega), zK0 _ _ _ _ (by intro e; injection e; omega)]
 · have h0 : w.heap.size ≤ w.heap.size := zJw _
   exact ((((((HB7.out.trans (HB8.out.mono (by omega))).setCell (p := ⟨w.heap.size, 0, none⟩) h0 _).setCell (p := ⟨w.heap.size, 1, none⟩) h0 _).setCell (p := ⟨w.heap.size, 2, none⟩) h0 _).setCell (p := ⟨W0.heap.size, 0, none⟩) hs1 _).setCell (p := ⟨W0.heap.size, 1, none⟩) hs1 _).setCell (p := ⟨W0.heap.size, 2, none⟩) hs1 _
set_option maxRecDepth 100000 in
theorem zAq {l : List UInt8} {ts : List Tk} {c0 q0 : Nat} (hA : lexA l = .ok ts) (hT : TsOk ts) (hlen : ts.length ≤ 2097152) (M : St → R3 Unit) (hR : Rule0 ts 20 M) (hM : M St.zero = .bad c0 q0)
 (a : Option Addr) (len cap : Nat) (w : World) (hl : l.length = len) (hEnv : Env w) (hI : TextAt w.heap.size w (.slice a len cap) l) :
 Calls Tryz.prog 18 #[.slice a len cap, .func (.func 20) #[] #[]] w fun e w' => e = .returned (.tuple #[.agg #[.slice none 0 0, .slice none 0 0, .slice none 0 0], zao c0 q0]) ∧ Below w.heap.size w w' := by
 obtain ⟨W0, hW0⟩ : ∃ W0, w.alloc (.cells #[.slice none 0 0, .slice none 0 0, .slice none 0 0] 27) = W0 := ⟨_, rfl⟩;obtain ⟨W1, hW1⟩ : ∃ W1, W0.alloc (.cells #[.int .i64 0, .int .i64 0, .string ⟨#[]⟩] 30) = W1 := ⟨_, rfl⟩;have hB0 : Below w.heap.size w W0 := by rw [← hW0]; exact (zJx _ _).alloc (zJw _) _
 have hB1 : Below W0.heap.size W0 W1 := by rw [← hW1]; exact (zJx _ _).alloc (zJw _) _
 have hX0 : Blk W0 w.heap.size 27 #[.slice none 0 0, .slice none 0 0, .slice none 0 0] := by rw [← hW0]; exact Blk.new w 27 _
 have hX1 : Blk W1 W0.heap.size 30 #[.int .i64 0, .int .i64 0, .string ⟨#[]⟩] := by rw [← hW1]; exact Blk.new W0 30 _
 have hB01 : Below w.heap.size w W1 := hB0.trans (hB1.mono hB0.size);have cL := zd8 a len cap l W1 (hEnv.on hB01) hl (TextAt.more hB01.size (hI.below hB01));have hmf : ∀ (fn : Fn) (first cap : Array Value) (w : World), (Instr.makeFunc fn first cap).run Tryz.prog w = .ok (.func fn first cap) w := fun _ _ _ _ => rfl;unfold zc5 at cL;rw [hA] at cL;dsimp only at cL;have hmm := @run_makeMap Tryz.prog;go_enter_defers Tryz.func18, Tryz.ntmps18
 go_wp2_with fail
 refine cL.mono ?_;rintro e w1 ⟨⟨v, rfl, hrow⟩, hb1⟩;obtain ⟨g, c, rfl, hg1, hg2, hg3, hgc⟩ := zcs hrow hT.pos;go_wp2_with fail
 obtain ⟨W2, hW2⟩ : ∃ W2, w1.alloc (.cells #[.int .i64 0, .int .i64 0, .string ⟨#[]⟩] 30) = W2 := ⟨_, rfl⟩;obtain ⟨W3, hW3⟩ : ∃ W3, W2.alloc (.map #[] 0) = W3 := ⟨_, rfl⟩;have hb2 : Below w1.heap.size w1 W2 := by rw [← hW2]; exact (zJx _ _).alloc (zJw _) _
 have hb3 : Below W2.heap.size W2 W3 := by rw [← hW3]; exact (zJx _ _).alloc (zJw _) _
 have hb13 : Below w1.heap.size w1 W3 := hb2.trans (hb3.mono hb2.size);have hb3' : Below W1.heap.size W1 W3 := hb1.trans (hb13.mono hb1.size);have cNew := ze5 W3;rw [hW2, hW3];clear cL hrow;refine cNew.mono ?_;rintro e w4 ⟨rfl, hTO, hb4⟩;have hz2 : W2.heap.size = w1.heap.size + 1 := by rw [← hW2]; simp
 rw [← hz2];clear hz2;obtain ⟨W5, hW5⟩ : ∃ W5, w4.alloc (.cells #[.slice (some ⟨g, 0, none⟩) ts.length c, .int .i64 0, .int .i64 0, .map (some W2.heap.size), .pointer (some ⟨W3.heap.size, 0, none⟩)] 75) = W5 := ⟨_, rfl⟩;have hb5 : Below w4.heap.size w4 W5 := by rw [← hW5]; exact (zJx _ _).alloc (zJw _) _
 have hX5 : Blk W5 w4.heap.size 75 #[.slice (some ⟨g, 0, none⟩) ts.length c, .int .i64 0, .int .i64 0, .map (some W2.heap.size), .pointer (some ⟨W3.heap.size, 0, none⟩)] := by rw [← hW5]; exact Blk.new w4 75 _
 have hb35 : Below W3.heap.size W3 W5 := hb4.trans (hb5.mono hb4.size);have hs1 := hB0.size;have hs2 := hB1.size;have hs3 := hb1.size;have hs4 := hb13.size;have hs5 := hb4.size;have hs6 := hb5.size;have hb15 : Below w1.heap.size w1 W5 := hb13.trans (hb35.mono hs4);have hbW5 : Below w.heap.size w W5 := (hB01.trans (hb1.mono hB01.size)).trans (hb15.mono (by omega));have hmp : MapAt W5 W2.heap.size [] := (show MapAt W3 W2.heap.size [] from by rw [← hW3]; exact MapAt.made W2).same (hb35.block _ (by rw [← hW3]; simp))
 have p5 : PS ⟨g, c, w4.heap.size, W3.heap.size, W2.heap.size, W2.heap.size, ts, fun _ => False⟩ W5 St.zero :=
  { env := hEnv.on hbW5
    blk := hX5
    tok := fun j u hu => (hb15.cell (p := ⟨g, j, none⟩) hg2).trans (hgc j u hu)
    gb := by show g < W2.heap.size; have := hb2.size; omega
    b6 := by show 6 ≤ W2.heap.size; have := hEnv.size; have := hb2.size; omega
    bw := by show W2.heap.size ≤ W5.heap.size; have := hb3.size; have := hb35.size; omega
    pbb := by show W2.heap.size ≤ w4.heap.size; have := hb3.size; omega
    cap := hg3
    built := ⟨_, _, _, [], [], [], ⟨(hTO.below hb5).based hb3.size, fun x hx => by simp at hx, fun x hx => by simp at hx⟩, rfl, rfl, rfl⟩
    n1 := by simp
    n2 := by simp
    f1 := fun x hx => by simp at hx
    f2 := fun x hx => by simp at hx
    kb := by simp
    ob := by simp
    lb := hlen
    ll := fun b hb => hb.elim
    mp := hmp
    mb := zJw _
    ml := fun hb => hb.elim
    mle := zK8 _
    n3 := zK8 _ }
 have cR := hR _ W5 _ rfl p5 hT.pos (by rw [hM]; simp);rw [hM] at cR;go_wp2_with fail
 obtain ⟨B, HBe⟩ : ∃ B : PE, Hid ((⟨g, c, w4.heap.size, W3.heap.size, W2.heap.size, W2.heap.size, ts, fun _ => False⟩ : PE) = B) := ⟨_, zJv rfl⟩;have HBts : Hid (B.ts = ts) := zJv (by rw [← HBe.out]);have HBpb : Hid (w4.heap.size = B.pb) := zJv (by rw [← HBe.out]);have hs7 := hb2.size;have hs8 := hb3.size;have HBb : Hid (W2.heap.size = B.base) := zJv (by rw [← HBe.out]);have HBcb : Hid (W3.heap.size = B.cb) := zJv (by rw [← HBe.out]);rw [HBe.out] at cR p5;unfold PE.ptr at cR;rw [← HBpb.out] at cR;have hX0' : Blk W5 w.heap.size 27 #[.slice none 0 0, .slice none 0 0, .slice none 0 0] := (((hX0.below hB1 hX0.lt).below hb1 (zJy hX0.lt hB1.size)).below hb15 (zJy (zJy hX0.lt hB1.size) hb1.size));have hX1' : Blk W5 W0.heap.size 30 #[.int .i64 0, .int .i64 0, .string ⟨#[]⟩] := (hX1.below hb1 hX1.lt).below hb15 (zJy hX1.lt hb1.size);have hl0 := hX0.lt;have hl1 := hX1.lt;refine cR.mono ?_;rintro e w6 ⟨rfl, s1, _, a6⟩;have hX0'' := hX0'.below a6.bel (by rw [← HBb.out]; omega);have hX1'' := hX1'.below a6.bel (by rw [← HBb.out]; omega);have hbW6 : Below w.heap.size w w6 := hbW5.trans (a6.bel.mono (by rw [← HBb.out]; omega));have HX0 := zJv hX0'';have HX1 := zJv hX1'';have HB6 := zJv hbW6;clear cR a6 p5 hX0' hX1' hX0'' hX1'' hbW6 hbW5;go_wp2_with fail
 refine leaves_cons (f := 36) (args := #[.pointer (some ⟨W0.heap.size, 0, none⟩)]) (by simp) (by simp [go_sem]) ?_;refine (zez W0.heap.size c0 q0 _ _ _ _ HX1.out).mono ?_;rintro e u' w9 ⟨rfl, rfl, rfl⟩;have hZ0 := ((HX0.out.far (p := ⟨W0.heap.size, 0, none⟩) (by dsimp only; omega) (.int .i64 (c0 : Int))).far (p := ⟨W0.heap.size, 1, none⟩) (by dsimp only; omega) (.int .i64 (q0 : Int))).far (p := ⟨W0.heap.size, 2, none⟩) (by dsimp only; omega) (.string ⟨#[]⟩);have hZ1 := ((HX1.out.set_ 0 (.int .i64 (c0 : Int))).set_ 1 (.int .i64 (q0 : Int))).set_ 2 (.string ⟨#[]⟩);have z0 := hZ0.cell 0;have z1 := hZ0.cell 1;have z2 := hZ0.cell 2;have z3 := hZ1.cell 0;have z4 := hZ1.cell 1;have z5 := hZ1.cell 2;simp only [sA, sB, sC, gA, gB, gC] at z0 z1 z2 z3 z4 z5;refine ⟨.tuple #[.agg #[.slice none 0 0, .slice none 0 0, .slice none 0 0], zao c0 q0], by simp [results, Tryz.results18, go_sem, z0, z1, z2, z3, z4, z5], rfl, ?_⟩;exact ((HB6.out.setCell (p := ⟨W0.heap.size, 0, none⟩) hs1 _).setCell (p := ⟨W0.heap.size, 1, none⟩) hs1 _).setCell (p := ⟨W0.heap.size, 2, none⟩) hs1 _
set_option maxRecDepth 100000 in
theorem zAn {l : List UInt8} {ts : List Tk} {s' : St} {c0 : Nat} (hc0 : c0 = 4) (hA : lexA l = .ok ts) (hT : TsOk ts) (hlen : ts.length ≤ 2097152) (M : St → R3 Unit) (hR : Rule0 ts 20 M) (hM : M St.zero = .ok () s') (hE : (tkA ts s'.k).1 ≠ 0) (hk' : s'.k < ts.length)
 (a : Option Addr) (len cap : Nat) (w : World) (hl : l.length = len) (hEnv : Env w) (hI : TextAt w.heap.size w (.slice a len cap) l) :
 Calls Tryz.prog 18 #[.slice a len cap, .func (.func 20) #[] #[]] w fun e w' => e = .returned (.tuple #[.agg #[.slice none 0 0, .slice none 0 0, .slice none 0 0], zao c0 (tkA ts s'.k).2.2]) ∧ Below w.heap.size w w' := by
 obtain ⟨W0, hW0⟩ : ∃ W0, w.alloc (.cells #[.slice none 0 0, .slice none 0 0, .slice none 0 0] 27) = W0 := ⟨_, rfl⟩;obtain ⟨W1, hW1⟩ : ∃ W1, W0.alloc (.cells #[.int .i64 0, .int .i64 0, .string ⟨#[]⟩] 30) = W1 := ⟨_, rfl⟩;have hB0 : Below w.heap.size w W0 := by rw [← hW0]; exact (zJx _ _).alloc (zJw _) _
 have hB1 : Below W0.heap.size W0 W1 := by rw [← hW1]; exact (zJx _ _).alloc (zJw _) _
 have hX0 : Blk W0 w.heap.size 27 #[.slice none 0 0, .slice none 0 0, .slice none 0 0] := by rw [← hW0]; exact Blk.new w 27 _
 have hX1 : Blk W1 W0.heap.size 30 #[.int .i64 0, .int .i64 0, .string ⟨#[]⟩] := by rw [← hW1]; exact Blk.new W0 30 _
 have hB01 : Below w.heap.size w W1 := hB0.trans (hB1.mono hB0.size);have cL := zd8 a len cap l W1 (hEnv.on hB01) hl (TextAt.more hB01.size (hI.below hB01));have hmf : ∀ (fn : Fn) (first cap : Array Value) (w : World), (Instr.makeFunc fn first cap).run Tryz.prog w = .ok (.func fn first cap) w := fun _ _ _ _ => rfl;unfold zc5 at cL;rw [hA] at cL;dsimp only at cL;have hmm := @run_makeMap Tryz.prog;go_enter_defers Tryz.func18, Tryz.ntmps18
 go_wp2_with fail
 refine cL.mono ?_;rintro e w1 ⟨⟨v, rfl, hrow⟩, hb1⟩;obtain ⟨g, c, rfl, hg1, hg2, hg3, hgc⟩ := zcs hrow hT.pos;go_wp2_with fail
 obtain ⟨W2, hW2⟩ : ∃ W2, w1.alloc (.cells #[.int .i64 0, .int .i64 0, .string ⟨#[]⟩] 30) = W2 := ⟨_, rfl⟩;obtain ⟨W3, hW3⟩ : ∃ W3, W2.alloc (.map #[] 0) = W3 := ⟨_, rfl⟩;have hb2 : Below w1.heap.size w1 W2 := by rw [← hW2]; exact (zJx _ _).alloc (zJw _) _
 have hb3 : Below W2.heap.size W2 W3 := by rw [← hW3]; exact (zJx _ _).alloc (zJw _) _
 have hb13 : Below w1.heap.size w1 W3 := hb2.trans (hb3.mono hb2.size);have hb3' : Below W1.heap.size W1 W3 := hb1.trans (hb13.mono hb1.size);have cNew := ze5 W3;rw [hW2, hW3];clear cL hrow;refine cNew.mono ?_;rintro e w4 ⟨rfl, hTO, hb4⟩;have hz2 : W2.heap.size = w1.heap.size + 1 := by rw [← hW2]; simp
 rw [← hz2];clear hz2;obtain ⟨W5, hW5⟩ : ∃ W5, w4.alloc (.cells #[.slice (some ⟨g, 0, none⟩) ts.length c, .int .i64 0, .int .i64 0, .map (some W2.heap.size), .pointer (some ⟨W3.heap.size, 0, none⟩)] 75) = W5 := ⟨_, rfl⟩;have hb5 : Below w4.heap.size w4 W5 := by rw [← hW5]; exact (zJx _ _).alloc (zJw _) _
 have hX5 : Blk W5 w4.heap.size 75 #[.slice (some ⟨g, 0, none⟩) ts.length c, .int .i64 0, .int .i64 0, .map (some W2.heap.size), .pointer (some ⟨W3.heap.size, 0, none⟩)] := by rw [← hW5]; exact Blk.new w4 75 _
 have hb35 : Below W3.heap.size W3 W5 := hb4.trans (hb5.mono hb4.size);have hs1 := hB0.size;have hs2 := hB1.size;have hs3 := hb1.size;have hs4 := hb13.size;have hs5 := hb4.size;have hs6 := hb5.size;have hb15 : Below w1.heap.size w1 W5 := hb13.trans (hb35.mono hs4);have hbW5 : Below w.heap.size w W5 := (hB01.trans (hb1.mono hB01.size)).trans (hb15.mono (by omega));have hmp : MapAt W5 W2.heap.size [] := (show MapAt W3 W2.heap.size [] from by rw [← hW3]; exact MapAt.made W2).same (hb35.block _ (by rw [← hW3]; simp))
 have p5 : PS ⟨g, c, w4.heap.size, W3.heap.size, W2.heap.size, W2.heap.size, ts, fun _ => False⟩ W5 St.zero :=
  { env := hEnv.on hbW5
    blk := hX5
    tok := fun j u hu => (hb15.cell (p := ⟨g, j, none⟩) hg2).trans (hgc j u hu)
    gb := by show g < W2.heap.size; have := hb2.size; omega
    b6 := by show 6 ≤ W2.heap.size; have := hEnv.size; have := hb2.size; omega
    bw := by show W2.heap.size ≤ W5.heap.size; have := hb3.size; have := hb35.size; omega
    pbb := by show W2.heap.size ≤ w4.heap.size; have := hb3.size; omega
    cap := hg3
    built := ⟨_, _, _, [], [], [], ⟨(hTO.below hb5).based hb3.size, fun x hx => by simp at hx, fun x hx => by simp at hx⟩, rfl, rfl, rfl⟩
    n1 := by simp
    n2 := by simp
    f1 := fun x hx => by simp at hx
    f2 := fun x hx => by simp at hx
    kb := by simp
    ob := by simp
    lb := hlen
    ll := fun b hb => hb.elim
    mp := hmp
    mb := zJw _
    ml := fun hb => hb.elim
    mle := zK8 _
    n3 := zK8 _ }
 have cR := hR _ W5 _ rfl p5 hT.pos (by rw [hM]; simp);rw [hM] at cR;go_wp2_with fail
 obtain ⟨B, HBe⟩ : ∃ B : PE, Hid ((⟨g, c, w4.heap.size, W3.heap.size, W2.heap.size, W2.heap.size, ts, fun _ => False⟩ : PE) = B) := ⟨_, zJv rfl⟩;have HBts : Hid (B.ts = ts) := zJv (by rw [← HBe.out]);have HBpb : Hid (w4.heap.size = B.pb) := zJv (by rw [← HBe.out]);have hs7 := hb2.size;have hs8 := hb3.size;have HBb : Hid (W2.heap.size = B.base) := zJv (by rw [← HBe.out]);have HBcb : Hid (W3.heap.size = B.cb) := zJv (by rw [← HBe.out]);rw [HBe.out] at cR p5;unfold PE.ptr at cR;rw [← HBpb.out] at cR;have hX0' : Blk W5 w.heap.size 27 #[.slice none 0 0, .slice none 0 0, .slice none 0 0] := (((hX0.below hB1 hX0.lt).below hb1 (zJy hX0.lt hB1.size)).below hb15 (zJy (zJy hX0.lt hB1.size) hb1.size));have hX1' : Blk W5 W0.heap.size 30 #[.int .i64 0, .int .i64 0, .string ⟨#[]⟩] := (hX1.below hb1 hX1.lt).below hb15 (zJy hX1.lt hb1.size);have hl0 := hX0.lt;have hl1 := hX1.lt;refine cR.mono ?_;rintro e w5 ⟨rfl, a5⟩
 have cK : Calls Tryz.prog 38 #[.pointer (some ⟨w4.heap.size, 0, none⟩), .int .i64 0] w5 fun e w' => e = zbi 4 (tkA ts s'.k).2.2 ∧ Below w5.heap.size w5 w' := by
  have := zil a5.ps (by rw [HBts.out]; exact hk') 0 (by rw [HBts.out]; exact hE);rw [HBts.out] at this;rw [HBpb.out];exact this
 have hmm2 := zJv hmm;clear hmm;generalize hq0 : (tkA ts s'.k).2.2 = q0 at cK ⊢;rw [← hc0] at cK;clear hE hM hR hc0;go_wp2_with fail
 refine cK.mono ?_;rintro e w6 ⟨rfl, hb6⟩;have a6 := a5.below hb6;clear cK hb6 a5;have hX0'' := hX0'.below a6.bel (by rw [← HBb.out]; omega);have hX1'' := hX1'.below a6.bel (by rw [← HBb.out]; omega);have hbW6 : Below w.heap.size w w6 := hbW5.trans (a6.bel.mono (by rw [← HBb.out]; omega));have HX0 := zJv hX0'';have HX1 := zJv hX1'';have HB6 := zJv hbW6;clear cR a6 p5 hX0' hX1' hX0'' hX1'' hbW6 hbW5;go_wp2_with fail
 refine leaves_cons (f := 36) (args := #[.pointer (some ⟨W0.heap.size, 0, none⟩)]) (by simp) (by simp [go_sem]) ?_;refine (zez W0.heap.size c0 q0 _ _ _ _ HX1.out).mono ?_;rintro e u' w9 ⟨rfl, rfl, rfl⟩;have hZ0 := ((HX0.out.far (p := ⟨W0.heap.size, 0, none⟩) (by dsimp only; omega) (.int .i64 (c0 : Int))).far (p := ⟨W0.heap.size, 1, none⟩) (by dsimp only; omega) (.int .i64 (q0 : Int))).far (p := ⟨W0.heap.size, 2, none⟩) (by dsimp only; omega) (.string ⟨#[]⟩);have hZ1 := ((HX1.out.set_ 0 (.int .i64 (c0 : Int))).set_ 1 (.int .i64 (q0 : Int))).set_ 2 (.string ⟨#[]⟩);have z0 := hZ0.cell 0;have z1 := hZ0.cell 1;have z2 := hZ0.cell 2;have z3 := hZ1.cell 0;have z4 := hZ1.cell 1;have z5 := hZ1.cell 2;simp only [sA, sB, sC, gA, gB, gC] at z0 z1 z2 z3 z4 z5;refine ⟨.tuple #[.agg #[.slice none 0 0, .slice none 0 0, .slice none 0 0], zao c0 q0], by simp [results, Tryz.results18, go_sem, z0, z1, z2, z3, z4, z5], by rw [hq0], ?_⟩;exact ((HB6.out.setCell (p := ⟨W0.heap.size, 0, none⟩) hs1 _).setCell (p := ⟨W0.heap.size, 1, none⟩) hs1 _).setCell (p := ⟨W0.heap.size, 2, none⟩) hs1 _
set_option maxRecDepth 100000 in
theorem zAz {l : List UInt8} {c0 q0 : Nat} (hA : lexA l = .error (c0, q0)) (hc : c0 ≠ 0)
 (a : Option Addr) (len cap : Nat) (w : World) (hl : l.length = len) (hEnv : Env w) (hI : TextAt w.heap.size w (.slice a len cap) l) :
 Calls Tryz.prog 18 #[.slice a len cap, .func (.func 20) #[] #[]] w fun e w' => e = .returned (.tuple #[.agg #[.slice none 0 0, .slice none 0 0, .slice none 0 0], zao c0 q0]) ∧ Below w.heap.size w w' := by
 obtain ⟨W0, hW0⟩ : ∃ W0, w.alloc (.cells #[.slice none 0 0, .slice none 0 0, .slice none 0 0] 27) = W0 := ⟨_, rfl⟩;obtain ⟨W1, hW1⟩ : ∃ W1, W0.alloc (.cells #[.int .i64 0, .int .i64 0, .string ⟨#[]⟩] 30) = W1 := ⟨_, rfl⟩;have hB0 : Below w.heap.size w W0 := by rw [← hW0]; exact (zJx _ _).alloc (zJw _) _
 have hB1 : Below W0.heap.size W0 W1 := by rw [← hW1]; exact (zJx _ _).alloc (zJw _) _
 have hX0 : Blk W0 w.heap.size 27 #[.slice none 0 0, .slice none 0 0, .slice none 0 0] := by rw [← hW0]; exact Blk.new w 27 _
 have hX1 : Blk W1 W0.heap.size 30 #[.int .i64 0, .int .i64 0, .string ⟨#[]⟩] := by rw [← hW1]; exact Blk.new W0 30 _
 have hB01 : Below w.heap.size w W1 := hB0.trans (hB1.mono hB0.size);have cL := zd8 a len cap l W1 (hEnv.on hB01) hl (TextAt.more hB01.size (hI.below hB01));unfold zc5 at cL;rw [hA] at cL;dsimp only at cL;have hne : ((c0 : Int) != 0) = true := by simp; omega
 have hl0 := hX0.lt;have hl1 := hX1.lt;have hs1 := hB0.size;have hs2 := hB1.size;have HX0 := zJv (hX0.below hB1 hl0);have HX1 := zJv hX1;have HB01 := zJv hB01;clear hA hI hB0 hB1 hX0 hX1 hB01;go_enter_defers Tryz.func18, Tryz.ntmps18
 go_wp2_with fail
 refine cL.mono ?_;rintro e w8 ⟨rfl, hb8⟩;go_wp2_with fail
 obtain ⟨W9, hW9⟩ : ∃ W, w8.alloc (.cells #[.int .i64 (c0 : Int), .int .i64 (q0 : Int), .string ⟨#[]⟩] 30) = W := ⟨_, rfl⟩;rw [hW9];have hb9 : Below w8.heap.size w8 W9 := by rw [← hW9]; exact (zJx _ _).alloc (zJw _) _
 have hD : Blk W9 w8.heap.size 30 #[.int .i64 (c0 : Int), .int .i64 (q0 : Int), .string ⟨#[]⟩] := by rw [← hW9]; exact Blk.new w8 30 _
 have hX0a := (HX0.out.below hb8 (by omega)).below hb9 (zJy (by omega) hb8.size);have hX1a := (HX1.out.below hb8 hl1).below hb9 (zJy hl1 hb8.size);have x0 := hX0a.cell 0;have x1 := hX0a.cell 1;have x2 := hX0a.cell 2;have y0 := hX0a.frozen 0;have y1 := hX0a.frozen 1;have y2 := hX0a.frozen 2;have x3 := hX1a.cell 0;have x4 := hX1a.cell 1;have x5 := hX1a.cell 2;have y3 := hX1a.frozen 0;have y4 := hX1a.frozen 1;have y5 := hX1a.frozen 2;simp only [gA, gB, gC] at x0 x1 x2 x3 x4 x5;have hne1 : (w.heap.size = W0.heap.size) = False := eq_false (by omega);have hne2 : (W0.heap.size = w.heap.size) = False := eq_false (by omega);have hl8 : W0.heap.size < w8.heap.size := zJy hl1 hb8.size;have hl9 : w.heap.size < w8.heap.size := by omega
 have HX0a := zJv hX0a;have HX1a := zJv hX1a;have HB8 := zJv (hb8.trans (hb9.mono hb8.size));clear hX0a hX1a hb8 cL hW0 hW1 hb9 hW9;have hD3 := ((hD.far (p := ⟨w.heap.size, 0, none⟩) (by dsimp only; omega) (.slice none 0 0)).far (p := ⟨w.heap.size, 1, none⟩) (by dsimp only; omega) (.slice none 0 0)).far (p := ⟨w.heap.size, 2, none⟩) (by dsimp only; omega) (.slice none 0 0);refine wp_region_noPanic ?_;refine za5 (S := fun W => W.cell? ⟨w8.heap.size, 0, none⟩ = some (.int .i64 (c0 : Int)) ∧ W.cell? ⟨w8.heap.size, 1, none⟩ = some (.int .i64 (q0 : Int)) ∧ W.cell? ⟨w8.heap.size, 2, none⟩ = some (.string ⟨#[]⟩)) (fun j => j == 3) (by kernel_rfl) (⟨hD.at_ rfl, hD.at_ rfl, hD.at_ rfl⟩) (fun hHeld => ?_);refine tkG 0 ?_;try simp only [Act.put, sA, sB, sC]
 refine tkG 1 ?_;try simp only [Act.put, sA, sB, sC]
 refine rdG 2 (fun K hK => ?_);go_simp
 refine hK.out _ _ ?hSlx203 (fun hHeld => ?_)
 case hSlx203 => exact ⟨hD3.at_ rfl, hD3.at_ rfl, hD3.at_ rfl⟩
 clear hK K;try simp only [Act.put, sA, sB, sC]
 refine rdL 3 (fun K hK => ?_);go_simp
 refine hK.out _ _ ?_;clear hK K;try simp only [Act.put, sA, sB, sC]
 refine zah (by kernel_rfl) ?_ _;refine NoPanic.normal ?_;have hZ0 := (((HX0a.out.set_ 0 (.slice none 0 0)).set_ 1 (.slice none 0 0)).set_ 2 (.slice none 0 0)).far (p := ⟨W0.heap.size, 0, none⟩) (by dsimp only; omega) (.int .i64 (c0 : Int)) |>.far (p := ⟨W0.heap.size, 1, none⟩) (by dsimp only; omega) (.int .i64 (q0 : Int)) |>.far (p := ⟨W0.heap.size, 2, none⟩) (by dsimp only; omega) (.string ⟨#[]⟩);have hZ1 := ((((((HX1a.out.far (p := ⟨w.heap.size, 0, none⟩) (by dsimp only; omega) (.slice none 0 0)).far (p := ⟨w.heap.size, 1, none⟩) (by dsimp only; omega) (.slice none 0 0)).far (p := ⟨w.heap.size, 2, none⟩) (by dsimp only; omega) (.slice none 0 0)).set_ 0 (.int .i64 (c0 : Int))).set_ 1 (.int .i64 (q0 : Int))).set_ 2 (.string ⟨#[]⟩));have HZ0 := zJv hZ0;have HZ1 := zJv hZ1;clear hZ0 hZ1 hD hD3;go_wp2_with fail
 have z0 := HZ0.out.cell 0;have z1 := HZ0.out.cell 1;have z2 := HZ0.out.cell 2;have z3 := HZ1.out.cell 0;have z4 := HZ1.out.cell 1;have z5 := HZ1.out.cell 2;simp only [sA, sB, sC, gA, gB, gC] at z0 z1 z2 z3 z4 z5;have h0 : w.heap.size ≤ w.heap.size := zJw _;exact ⟨.tuple #[.agg #[.slice none 0 0, .slice none 0 0, .slice none 0 0], zao c0 q0], by simp [results, Tryz.results18, go_sem, z0, z1, z2, z3, z4, z5], rfl, (((((((HB01.out.trans (HB8.out.mono (by omega))).setCell (p := ⟨w.heap.size, 0, none⟩) h0 _).setCell (p := ⟨w.heap.size, 1, none⟩) h0 _).setCell (p := ⟨w.heap.size, 2, none⟩) h0 _).setCell (p := ⟨W0.heap.size, 0, none⟩) hs1 _).setCell (p := ⟨W0.heap.size, 1, none⟩) hs1 _).setCell (p := ⟨W0.heap.size, 2, none⟩) hs1 _).drew⟩
set_option maxRecDepth 100000 in
theorem zGp {l : List UInt8} {ts : List Tk} {s' : St} (hA : lexA l = .ok ts) (hT : TsOk ts) (hlen : ts.length ≤ 2097152) (M : St → R3 Unit) (hR : Rule0 ts 20 M) (hM : M St.zero = .ok () s') (hE : (tkA ts s'.k).1 = 0) (hk' : s'.k < ts.length)
 (a : Option Addr) (len cap : Nat) (w : World) (hl : l.length = len) (hEnv : Env w) (hI : TextAt w.heap.size w (.slice a len cap) l) :
 Calls Tryz.prog 10 #[.slice a len cap] w fun e w' => ∃ p', e = .returned (.tuple #[treeV ⟨s'.t1, s'.t2, s'.t3⟩ p', .agg #[.int .i64 0, .int .i64 0, .string ⟨#[]⟩]]) ∧ TreeAt (fun b => w.heap.size ≤ b ∧ b < w'.heap.size) w' ⟨s'.t1, s'.t2, s'.t3⟩ p' ∧ Below w.heap.size w w' := by
 obtain ⟨W0, hW0⟩ : ∃ W0, w.alloc (.cells #[.slice none 0 0, .slice none 0 0, .slice none 0 0] 27) = W0 := ⟨_, rfl⟩;obtain ⟨W1, hW1⟩ : ∃ W1, W0.alloc (.cells #[.int .i64 0, .int .i64 0, .string ⟨#[]⟩] 30) = W1 := ⟨_, rfl⟩;have hB0 : Below w.heap.size w W0 := by rw [← hW0]; exact (zJx _ _).alloc (zJw _) _
 have hB1 : Below W0.heap.size W0 W1 := by rw [← hW1]; exact (zJx _ _).alloc (zJw _) _
 have hX0 : Blk W0 w.heap.size 27 #[.slice none 0 0, .slice none 0 0, .slice none 0 0] := by rw [← hW0]; exact Blk.new w 27 _
 have hX1 : Blk W1 W0.heap.size 30 #[.int .i64 0, .int .i64 0, .string ⟨#[]⟩] := by rw [← hW1]; exact Blk.new W0 30 _
 have hB01 : Below w.heap.size w W1 := hB0.trans (hB1.mono hB0.size);have cP := zxn hA hT hlen M hR hM hE hk' a len cap W1 hl (hEnv.on hB01) (TextAt.more hB01.size (hI.below hB01));have hl0 := hX0.lt;have hl1 := hX1.lt;have hs1 := hB0.size;have hs2 := hB1.size;have HX0 := zJv (hX0.below hB1 hl0);have HX1 := zJv hX1;have HB01 := zJv hB01;clear hA hT hR hM hE hk' hI hB0 hB1 hX0 hX1 hB01;go_enter Tryz.func10, Tryz.ntmps10
 go_wp2_with fail
 refine cP.mono ?_;rintro e w8 ⟨p', rfl, hTA, hb8⟩;have hX0a := HX0.out.below hb8 (by omega);have hX1a := HX1.out.below hb8 hl1;have x0 := hX0a.cell 0;have x1 := hX0a.cell 1;have x2 := hX0a.cell 2;have y0 := hX0a.frozen 0;have y1 := hX0a.frozen 1;have y2 := hX0a.frozen 2;have x3 := hX1a.cell 0;have x4 := hX1a.cell 1;have x5 := hX1a.cell 2;have y3 := hX1a.frozen 0;have y4 := hX1a.frozen 1;have y5 := hX1a.frozen 2;simp only [gA, gB, gC] at x0 x1 x2 x3 x4 x5;have hne1 : (w.heap.size = W0.heap.size) = False := eq_false (by omega);have hne2 : (W0.heap.size = w.heap.size) = False := eq_false (by omega);have HX0a := zJv hX0a;have HX1a := zJv hX1a;have HB8 := zJv hb8;have HTA := zJv hTA;clear hX0a hX1a hb8 hTA cP hW0 hW1;go_wp2_with fail
 have hZ0 := (((HX0a.out.set_ 0 (.slice p'.a1 s'.t1.length p'.c1)).set_ 1 (.slice p'.a2 s'.t2.length p'.c2)).set_ 2 (.slice p'.a3 s'.t3.length p'.c3)).far (p := ⟨W0.heap.size, 0, none⟩) (by dsimp only; omega) (.int .i64 0) |>.far (p := ⟨W0.heap.size, 1, none⟩) (by dsimp only; omega) (.int .i64 0) |>.far (p := ⟨W0.heap.size, 2, none⟩) (by dsimp only; omega) (.string ⟨#[]⟩);have hZ1 := ((((((HX1a.out.far (p := ⟨w.heap.size, 0, none⟩) (by dsimp only; omega) (.slice p'.a1 s'.t1.length p'.c1)).far (p := ⟨w.heap.size, 1, none⟩) (by dsimp only; omega) (.slice p'.a2 s'.t2.length p'.c2)).far (p := ⟨w.heap.size, 2, none⟩) (by dsimp only; omega) (.slice p'.a3 s'.t3.length p'.c3)).set_ 0 (.int .i64 0)).set_ 1 (.int .i64 0)).set_ 2 (.string ⟨#[]⟩));have q0 := hZ0.cell 0;have q1 := hZ0.cell 1;have q2 := hZ0.cell 2;have q3 := hZ1.cell 0;have q4 := hZ1.cell 1;have q5 := hZ1.cell 2;simp only [sA, sB, sC, gA, gB, gC] at q0 q1 q2 q3 q4 q5;refine bodyPost_ret (v := .tuple #[treeV ⟨s'.t1, s'.t2, s'.t3⟩ p', .agg #[.int .i64 0, .int .i64 0, .string ⟨#[]⟩]]) (by simp [results, Tryz.results10, go_sem, q0, q1, q2, q3, q4, q5]) rfl ⟨p', rfl, ?_, ?_⟩
 · have hw8 := HB8.out.size
   refine (HTA.out.keep (fun b o hb => ?_)).imp (fun b hb => ⟨by have := hb.1; omega, by simpa using hb.2⟩);have hb1 := hb.1;rw [zK0 _ _ _ _ (by intro e; injection e; omega), zK0 _ _ _ _ (by intro e; injection e; omega), zK0 _ _ _ _ (by intro e; injection e; omega), zK0 _ _ _ _ (by intro e; injection e; omega), zK0 _ _ _ _ (by intro e; injection e; omega), zK0 _ _ _ _ (by intro e; injection e; omega)]
 · have h0 : w.heap.size ≤ w.heap.size := zJw _
   exact ((((((HB01.out.trans (HB8.out.mono (by omega))).setCell (p := ⟨w.heap.size, 0, none⟩) h0 _).setCell (p := ⟨w.heap.size, 1, none⟩) h0 _).setCell (p := ⟨w.heap.size, 2, none⟩) h0 _).setCell (p := ⟨W0.heap.size, 0, none⟩) hs1 _).setCell (p := ⟨W0.heap.size, 1, none⟩) hs1 _).setCell (p := ⟨W0.heap.size, 2, none⟩) hs1 _
set_option maxRecDepth 100000 in
theorem znk {l : List UInt8} {c0 q0 : Nat}
 (a : Option Addr) (len cap : Nat) (w : World) (hl : l.length = len) (hEnv : Env w) (hI : TextAt w.heap.size w (.slice a len cap) l)
 (hP : ∀ W, Env W → TextAt W.heap.size W (.slice a len cap) l → Calls Tryz.prog 18 #[.slice a len cap, .func (.func 20) #[] #[]] W fun e w' => e = .returned (.tuple #[.agg #[.slice none 0 0, .slice none 0 0, .slice none 0 0], zao c0 q0]) ∧ Below W.heap.size W w') :
 Calls Tryz.prog 10 #[.slice a len cap] w fun e w' => e = .returned (.tuple #[.agg #[.slice none 0 0, .slice none 0 0, .slice none 0 0], zao c0 q0]) ∧ Below w.heap.size w w' := by
 obtain ⟨W0, hW0⟩ : ∃ W0, w.alloc (.cells #[.slice none 0 0, .slice none 0 0, .slice none 0 0] 27) = W0 := ⟨_, rfl⟩;obtain ⟨W1, hW1⟩ : ∃ W1, W0.alloc (.cells #[.int .i64 0, .int .i64 0, .string ⟨#[]⟩] 30) = W1 := ⟨_, rfl⟩;have hB0 : Below w.heap.size w W0 := by rw [← hW0]; exact (zJx _ _).alloc (zJw _) _
 have hB1 : Below W0.heap.size W0 W1 := by rw [← hW1]; exact (zJx _ _).alloc (zJw _) _
 have hX0 : Blk W0 w.heap.size 27 #[.slice none 0 0, .slice none 0 0, .slice none 0 0] := by rw [← hW0]; exact Blk.new w 27 _
 have hX1 : Blk W1 W0.heap.size 30 #[.int .i64 0, .int .i64 0, .string ⟨#[]⟩] := by rw [← hW1]; exact Blk.new W0 30 _
 have hB01 : Below w.heap.size w W1 := hB0.trans (hB1.mono hB0.size);have cP := hP W1 (hEnv.on hB01) (TextAt.more hB01.size (hI.below hB01));have hl0 := hX0.lt;have hl1 := hX1.lt;have hs1 := hB0.size;have hs2 := hB1.size;have HX0 := zJv (hX0.below hB1 hl0);have HX1 := zJv hX1;have HB01 := zJv hB01;clear hP hI hB0 hB1 hX0 hX1 hB01;go_enter Tryz.func10, Tryz.ntmps10
 go_wp2_with fail
 refine cP.mono ?_;rintro e w8 ⟨rfl, hb8⟩;have hX0a := HX0.out.below hb8 (by omega);have hX1a := HX1.out.below hb8 hl1;have x0 := hX0a.cell 0;have x1 := hX0a.cell 1;have x2 := hX0a.cell 2;have y0 := hX0a.frozen 0;have y1 := hX0a.frozen 1;have y2 := hX0a.frozen 2;have x3 := hX1a.cell 0;have x4 := hX1a.cell 1;have x5 := hX1a.cell 2;have y3 := hX1a.frozen 0;have y4 := hX1a.frozen 1;have y5 := hX1a.frozen 2;simp only [gA, gB, gC] at x0 x1 x2 x3 x4 x5;have hne1 : (w.heap.size = W0.heap.size) = False := eq_false (by omega);have hne2 : (W0.heap.size = w.heap.size) = False := eq_false (by omega);have HX0a := zJv hX0a;have HX1a := zJv hX1a;have HB8 := zJv hb8;clear hX0a hX1a hb8 cP hW0 hW1;go_wp2_with fail
 have hZ0 := (((HX0a.out.set_ 0 (.slice none 0 0)).set_ 1 (.slice none 0 0)).set_ 2 (.slice none 0 0)).far (p := ⟨W0.heap.size, 0, none⟩) (by dsimp only; omega) (.int .i64 (c0 : Int)) |>.far (p := ⟨W0.heap.size, 1, none⟩) (by dsimp only; omega) (.int .i64 (q0 : Int)) |>.far (p := ⟨W0.heap.size, 2, none⟩) (by dsimp only; omega) (.string ⟨#[]⟩);have hZ1 := ((((((HX1a.out.far (p := ⟨w.heap.size, 0, none⟩) (by dsimp only; omega) (.slice none 0 0)).far (p := ⟨w.heap.size, 1, none⟩) (by dsimp only; omega) (.slice none 0 0)).far (p := ⟨w.heap.size, 2, none⟩) (by dsimp only; omega) (.slice none 0 0)).set_ 0 (.int .i64 (c0 : Int))).set_ 1 (.int .i64 (q0 : Int))).set_ 2 (.string ⟨#[]⟩));have z0 := hZ0.cell 0;have z1 := hZ0.cell 1;have z2 := hZ0.cell 2;have z3 := hZ1.cell 0;have z4 := hZ1.cell 1;have z5 := hZ1.cell 2;simp only [sA, sB, sC, gA, gB, gC] at z0 z1 z2 z3 z4 z5;refine bodyPost_ret (v := .tuple #[.agg #[.slice none 0 0, .slice none 0 0, .slice none 0 0], zao c0 q0]) (by simp [results, Tryz.results10, go_sem, z0, z1, z2, z3, z4, z5]) rfl ⟨rfl, ?_⟩;have h0 : w.heap.size ≤ w.heap.size := zJw _;exact ((((((HB01.out.trans (HB8.out.mono (by omega))).setCell (p := ⟨w.heap.size, 0, none⟩) h0 _).setCell (p := ⟨w.heap.size, 1, none⟩) h0 _).setCell (p := ⟨w.heap.size, 2, none⟩) h0 _).setCell (p := ⟨W0.heap.size, 0, none⟩) hs1 _).setCell (p := ⟨W0.heap.size, 1, none⟩) hs1 _).setCell (p := ⟨W0.heap.size, 2, none⟩) hs1 _
end Go.Proofs.YtidmeodmkcomlaaGreatDoor
