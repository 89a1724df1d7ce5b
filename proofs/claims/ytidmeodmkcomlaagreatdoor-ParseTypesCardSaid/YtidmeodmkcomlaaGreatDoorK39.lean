/- Rules of rows of signs: what they give, or what is wrong. -/
import Derived.Test.YtidmeodmkcomlaaGreatDoorK38
set_option linter.unusedSimpArgs false
set_option linter.unusedVariables false
namespace Go.Proofs.YtidmeodmkcomlaaGreatDoor
open Go Go.Proofs Go.RowKit
set_option maxHeartbeats 8000000
set_option maxRecDepth 100000 in
theorem zk9 (fc : FuncId) (hfc : ∀ (x : Value) (w : World), (callFunc fc #[x]).run Tryz.prog w = .ok (.enter fc #[x]) w) {ts : List Tk} (hT : TsOk ts) (P : St → R3 Nat) (hP : Rule3 ts fc P) (pP : Prog3 ts P) {B : PE} {w : World} {s : St} {left : Nat} (hBts : B.ts = ts) (h : PS B w s) (hk : s.k < ts.length) (h0 : (tkA ts s.k).1 ≠ 0) (hu : opM ts P left s ≠ .un) :
 Calls Tryz.prog 117 #[B.ptr, .int .i64 (left : Int), .func (.func fc) #[B.ptr] #[]] w (Res natV B w s (opM ts P left s)) := by
 generalize hR : opM ts P left s = R at hu ⊢;unfold opM at hR;have hk1 : (s.on 1).k < ts.length := hT.step hk h0;have cX := nextR hBts h hk;have hpos : posA ts s = (tkA ts s.k).2.2 := rfl;rw [hpos] at hR;generalize tkA ts s.k = t at *;clear h0 h hk;go_enter Tryz.func117, Tryz.ntmps117
 go_wp2_with fail
 with_reducible refine cX.mono ?_
 rintro e w1 ⟨rfl, a1⟩;obtain ⟨W2, hW2⟩ : ∃ W2, w1.alloc (.cells (tokL t).toArray 77) = W2 := ⟨_, rfl⟩;have hB2 : Below w1.heap.size w1 W2 := by rw [← hW2]; exact (zJx _ _).alloc (zJw _) _
 have hX2 : Blk W2 w1.heap.size 77 (tokL t).toArray := by rw [← hW2]; exact Blk.new w1 77 _
 have d1 := hX2.cell 1;have d2 := hX2.cell 2;simp only [gA, gB, gC] at d1 d2;have A2 := zJv (a1.below hB2);have HX2 := zJv hX2;have m2 : ¬ Mu B W2 w1.heap.size := a1.ps.fresh hB2 (zJw _);have hx2 := HX2.out.lt;clear a1 hX2 hB2 cX;have cU := fun (W : World) (p : PS B W (s.on 1)) (n : P (s.on 1) ≠ .un) => hP B W (s.on 1) hBts p hk1 n;have pU := fun i s1 => pP (s.on 1) i s1 hk1;clear hP pP hBts;go_wp2_with fail
 rcases hM : P (s.on 1) with ⟨i1, s1⟩ | ⟨c, p⟩ | _
 case un => rw [hM] at hR; exact absurd hR.symm hu
 case bad =>
  rw [hM] at hR cU;try simp only [R3.badB] at hR
  refine wp_region_held_drew (S := fun W => W.cell? ⟨w1.heap.size, 1, none⟩ = some (.string (bs t.2.1)) ∧ W.cell? ⟨w1.heap.size, 2, none⟩ = some (.int .i64 (t.2.2 : Int))) (by kernel_rfl) (⟨d1, d2⟩) (fun hHeld => ?_);refine tkH 0 ?_;try simp only [Act.put, sA, sB, sC]
  refine tkH 1 ?_;try simp only [Act.put, sA, sB, sC]
  refine tkH 2 ?_;try simp only [Act.put, sA, sB, sC]
  refine tkH 3 ?_;try simp only [Act.put, sA, sB, sC]
  refine tkH 4 ?_;try simp only [Act.put, sA, sB, sC]
  refine tkH 5 ?_;try simp only [Act.put, sA, sB, sC]
  refine tkH 6 ?_;try simp only [Act.put, sA, sB, sC]
  refine rdH 7 (fun K hK => ?_);go_simp
  refine (cU _ (by exact A2.out.ps.below (zJx _ _).drew) (by simp)).mono ?_;rintro e w3 ⟨rfl, k3⟩;have A := zJv ((A2.out.below (zJx _ W2).drew).bad (s0 := s) rfl k3 rfl);clear k3 cU;go_wp2_with fail
  rw [← hR];exact ⟨rfl, rfl, A.out⟩
 have hp3 := pU i1 s1 hM;rw [hM] at hR cU;try simp only [R3.okB] at hR
 rcases hN : newT s1 ⟨14, (t.2.2 : Nat), bs t.2.1, 0, 0, [], [(left : Int), (i1 : Int)], []⟩ with ⟨i2, s2⟩ | ⟨c, p⟩ | _
 case un => exact (zda hN).elim
 case bad =>
  rw [hN] at hR;refine wp_region_held_drew (S := fun W => W.cell? ⟨w1.heap.size, 1, none⟩ = some (.string (bs t.2.1)) ∧ W.cell? ⟨w1.heap.size, 2, none⟩ = some (.int .i64 (t.2.2 : Int))) (by kernel_rfl) (⟨d1, d2⟩) (fun hHeld => ?_);refine tkH 0 ?_;try simp only [Act.put, sA, sB, sC]
  refine tkH 1 ?_;try simp only [Act.put, sA, sB, sC]
  refine tkH 2 ?_;try simp only [Act.put, sA, sB, sC]
  refine tkH 3 ?_;try simp only [Act.put, sA, sB, sC]
  refine tkH 4 ?_;try simp only [Act.put, sA, sB, sC]
  refine tkH 5 ?_;try simp only [Act.put, sA, sB, sC]
  refine tkH 6 ?_;try simp only [Act.put, sA, sB, sC]
  refine rdH 7 (fun K hK => ?_);go_simp; refine (cU _ (by exact A2.out.ps.below (zJx _ _).drew) (by simp)).mono ?_; rintro e w3 ⟨rfl, a3⟩; have d3 : w3.heap[w1.heap.size]? = W2.heap[w1.heap.size]? := a3.kt.block (w := W2.drew) hx2 m2; have f1 := (zKb (a := ⟨w1.heap.size, 1, none⟩) d3).trans d1; have f2 := (zKb (a := ⟨w1.heap.size, 2, none⟩) d3).trans d2; have l3 : w1.heap.size < w3.heap.size := zJy hx2 a3.kt.1
  go_wp2_with fail
  refine hK.out _ _ ?hSob1168 (fun hHeld => ?_)
  case hSob1168 => exact ⟨f1, f2⟩
  clear hK K;try simp only [Act.put, sA, sB, sC]
  refine rdH 8 (fun K hK => ?_);go_simp
  refine hK.out _ _ ?hSob1169 (fun hHeld => ?_)
  case hSob1169 => exact ⟨(((zJx _ w3).alloc (zJw _) _).cell (p := ⟨w1.heap.size, 1, none⟩) l3).trans f1, (((zJx _ w3).alloc (zJw _) _).cell (p := ⟨w1.heap.size, 2, none⟩) l3).trans f2⟩
  clear hK K;try simp only [Act.put, sA, sB, sC]
  refine tkH 9 ?_;try simp only [Act.put, sA, sB, sC]
  refine rdH 10 (fun K hK => ?_);have cN := zlr a3.ps 14 (t.2.2 : Int) (left : Int) (i1 : Int) (bs t.2.1);rw [hN] at cN;go_simp; go_at_call 114; refine cN.mono ?_
  rintro e w4 ⟨rfl, k4⟩;have A := zJv (((A2.out.below (zJx _ W2).drew).trans a3).bad (s0 := s) hp3.2.2 k4 rfl);clear k4 cU a3 d3 f1 f2 l3 cN;go_wp2_with fail
  rw [← hR];exact ⟨rfl, rfl, A.out⟩
 rw [hN] at hR;refine wp_region_noPanic ?_;refine wp_region_held_drew (S := fun W => W.cell? ⟨w1.heap.size, 1, none⟩ = some (.string (bs t.2.1)) ∧ W.cell? ⟨w1.heap.size, 2, none⟩ = some (.int .i64 (t.2.2 : Int))) (by kernel_rfl) (⟨d1, d2⟩) (fun hHeld => ?_);refine tkH 0 ?_;try simp only [Act.put, sA, sB, sC]
 refine tkH 1 ?_;try simp only [Act.put, sA, sB, sC]
 refine tkH 2 ?_;try simp only [Act.put, sA, sB, sC]
 refine tkH 3 ?_;try simp only [Act.put, sA, sB, sC]
 refine tkH 4 ?_;try simp only [Act.put, sA, sB, sC]
 refine tkH 5 ?_;try simp only [Act.put, sA, sB, sC]
 refine tkH 6 ?_;try simp only [Act.put, sA, sB, sC]
 refine rdH 7 (fun K hK => ?_);go_simp; refine (cU _ (by exact A2.out.ps.below (zJx _ _).drew) (by simp)).mono ?_; rintro e w3 ⟨rfl, a3⟩; have d3 : w3.heap[w1.heap.size]? = W2.heap[w1.heap.size]? := a3.kt.block (w := W2.drew) hx2 m2; have f1 := (zKb (a := ⟨w1.heap.size, 1, none⟩) d3).trans d1; have f2 := (zKb (a := ⟨w1.heap.size, 2, none⟩) d3).trans d2; have l3 : w1.heap.size < w3.heap.size := zJy hx2 a3.kt.1
 go_wp2_with fail
 refine hK.out _ _ ?hSoc1168 (fun hHeld => ?_)
 case hSoc1168 => exact ⟨f1, f2⟩
 clear hK K;try simp only [Act.put, sA, sB, sC]
 refine rdH 8 (fun K hK => ?_);go_simp
 refine hK.out _ _ ?hSoc1169 (fun hHeld => ?_)
 case hSoc1169 => exact ⟨(((zJx _ w3).alloc (zJw _) _).cell (p := ⟨w1.heap.size, 1, none⟩) l3).trans f1, (((zJx _ w3).alloc (zJw _) _).cell (p := ⟨w1.heap.size, 2, none⟩) l3).trans f2⟩
 clear hK K;try simp only [Act.put, sA, sB, sC]
 refine tkH 9 ?_;try simp only [Act.put, sA, sB, sC]
 refine rdH 10 (fun K hK => ?_);have cN := zlr a3.ps 14 (t.2.2 : Int) (left : Int) (i1 : Int) (bs t.2.1);rw [hN] at cN;go_simp; go_at_call 114; refine cN.mono ?_
 rintro e w4 ⟨rfl, a4⟩; have d4 : w4.heap[w1.heap.size]? = w3.heap[w1.heap.size]? := a4.kt.block l3 (a3.kt.2 w1.heap.size hx2 m2).2; have g1 := (zKb (a := ⟨w1.heap.size, 1, none⟩) d4).trans f1; have g2 := (zKb (a := ⟨w1.heap.size, 2, none⟩) d4).trans f2;go_wp2_with fail
 refine hK.out _ _ ?hSoc11 (fun hHeld => ?_)
 case hSoc11 => exact ⟨g1, g2⟩
 clear hK K;try simp only [Act.put, sA, sB, sC]
 refine tkH 11 ?_;try simp only [Act.put, sA, sB, sC]
 refine wpAnyH_done (by kernel_rfl) ?_ _;refine NoPanic.normal ?_;have A4 := zJv (((A2.out.below ((zJx _ W2).drew)).trans a3).trans a4);clear a3 a4 d3 f1 f2 d4 g1 g2 cU cN;go_wp2_with fail
 go_ret;rw [← hR];exact ⟨rfl, A4.out⟩
theorem zr4 {ts : List Tk} (hT : TsOk ts) {P : St → R3 Nat} (hP : Prog3 ts P) {left : Nat} {s : St} {i : Nat} {s' : St} (hk : s.k < ts.length) (h0 : (tkA ts s.k).1 ≠ 0) (e : opM ts P left s = .ok i s') : s.k < s'.k ∧ s'.k < ts.length ∧ s'.op = s.op := by
 have := go_op hT (zav hP s.op) left s hk h0 rfl;rw [e] at this;exact ⟨zJy (by omega) this.1, this.2⟩
set_option maxRecDepth 100000 in
theorem zl8 (fc : FuncId) (hfc : ∀ (x : Value) (w : World), (callFunc fc #[x]).run Tryz.prog w = .ok (.enter fc #[x]) w) {ts : List Tk} (hT : TsOk ts) (P : St → R3 Nat) (hP : Rule3 ts fc P) (pP : Prog3 ts P) (sg : List (List UInt8)) (n : Nat) (hn : sg.length = n) (hb : n ≤ 70000) {B : PE} {w : World} {s : St} (hBts : B.ts = ts) (h : PS B w s) (hk : s.k < ts.length) (hu : rowM ts P sg s ≠ .un)
 (sb : Nat) (cs : Array Value) (hsb : Blk w sb 9 cs) (hm : ¬ Mu B w sb) (hcs : cs = (sg.map fun x => Value.string (bs x)).toArray) :
 Calls Tryz.prog 138 #[B.ptr, .func (.func fc) #[B.ptr] #[], .slice (some ⟨sb, 0, none⟩) n n] w (Res natV B w s (rowM ts P sg s)) := by
 generalize hR : rowM ts P sg s = R at hu ⊢;unfold rowM at hR;have cA := hP B w s hBts h hk;have HB := zJv hBts;have HP0 := zJv hP;have HPR := zJv pP;have HSB := zJv hsb;have HCS := zJv hcs;have HN := zJv hn;have hlsb := hsb.lt;clear h hP pP hsb hcs hn hBts;go_enter Tryz.func138, Tryz.ntmps138
 go_wp2_with fail
 rcases hM2 : P s with ⟨i0, s0⟩ | ⟨c, p⟩ | _
 case un => rw [hM2] at hR; (try simp only [R3.unB] at hR); exact absurd hR.symm hu
 case bad =>
  have cc := cA (by rw [hM2]; simp);rw [hM2] at cc hR;try simp only [R3.badB] at hR
  refine cc.mono ?_;rintro e w2 ⟨rfl, k2⟩;have A := zJv k2;clear k2 cc cA;go_wp2_with fail
  refine ⟨rfl, ?_⟩;rw [← hR];exact ⟨rfl, A.out⟩
 have cc := cA (by rw [hM2]; simp);rw [hM2] at cc hR;try simp only [R3.okB] at hR
 obtain ⟨g2, k2, o2⟩ := HPR.out s i0 s0 hk hM2;refine cc.mono ?_;rintro e w2 ⟨rfl, a2⟩;have q2 := a2;clear a2 cc cA;have Q3 := zJv q2;clear q2 hM2 hk g2;go_wp2_with fail
 go_loopw [7] (fun l wr => ∃ (i1 : Nat) (s1 : St) (f : Nat), l = .int .i64 (i1 : Int) ∧ Hid (Aft B w s1 wr) ∧ Hid (s1.k < ts.length) ∧ Hid (s1.op = s.op) ∧ Hid (rowL ts P sg f i1 s1 = R)) (fun _ wr => ts.length - kAt B wr)
 case atStart => exact ⟨i0, s0, _, rfl, Q3, zJv k2, zJv o2, zJv hR⟩
 case round =>
  clear Q3 k2 o2 hR;obtain ⟨i1, s1, f, rfl, HA, HK, HO, HP⟩ := hrel;have hP := HP.out;have hkA := HA.out.ps.kAt
  cases f with
  | zero => exact absurd hP.symm hu
  | succ f =>
   unfold rowL at hP
   have cS : Calls Tryz.prog 47 #[B.ptr, .slice (some ⟨sb, 0, none⟩) n n] wr fun e w' => e = .returned (.bool (isA ts s1 sg)) ∧ Below wr.heap.size wr w' := by
    have hX : Blk wr sb 9 cs := (HA.out.kt.block hlsb hm).trans HSB.out
    have := zdu HA.out.ps (by rw [HB.out]; exact HK.out) sb n n sg HN.out hb hX.lt (fun j x hx => by
     rw [hX.cell j, HCS.out]
     simp [hx])
    rwa [HB.out] at this
   by_cases hs : isA ts s1 sg = true
   · rw [if_pos hs] at hP
     rw [hs] at cS;have h0 := za0 hs;clear hs;go_wp2_with fail
     refine (cS).mono ?_;rintro e w4 ⟨rfl, hb4⟩;have q4 := HA.out.below hb4;clear hb4;clear cS;go_wp2_with fail
     rcases hM5 : opM ts P i1 s1 with ⟨i2, s2⟩ | ⟨c, p⟩ | _
     case un => rw [hM5] at hP; (try simp only [R3.unB] at hP); exact absurd hP.symm hu
     case bad =>
      have cc := zk9 fc hfc hT P HP0.out HPR.out HB.out q4.ps HK.out h0 (by rw [hM5]; simp);rw [hM5] at cc hP;try simp only [R3.badB] at hP
      refine cc.mono ?_;rintro e w5 ⟨rfl, k5⟩;have A := zJv (q4.bad (s0 := s) (HO.out) k5 rfl);clear k5 cc;go_wp2_with fail
      refine ⟨rfl, ?_⟩;rw [← hP];exact ⟨rfl, A.out⟩
     have cc := zk9 fc hfc hT P HP0.out HPR.out HB.out q4.ps HK.out h0 (by rw [hM5]; simp);rw [hM5] at cc hP;try simp only [R3.okB] at hP
     obtain ⟨g5, k5, o5⟩ := zr4 hT HPR.out HK.out h0 hM5;refine cc.mono ?_;rintro e w5 ⟨rfl, a5⟩;have q5 := q4.trans a5;clear a5 cc;have Q6 := zJv q5;clear q5;go_wp2_with fail
     exact ⟨⟨_, _, f, rfl, Q6, zJv k5, zJv (o5.trans (HO.out)), zJv hP⟩, by
      rw [Q6.out.ps.kAt, hkA];have e1 := HK.out
      omega⟩
   · rw [if_neg hs] at hP
     have hs2 : isA ts s1 sg = false := by simpa using hs
     rw [hs2] at cS;go_wp2_with fail
     refine (cS).mono ?_;rintro e w7 ⟨rfl, hb7⟩;have q7 := HA.out.below hb7;clear hb7;clear cS hs hs2;have Q8 := zJv q7;clear q7;go_wp2_with fail
     go_ret;rw [← hP];exact ⟨rfl, Q8.out⟩
theorem zq2 {ts : List Tk} (hT : TsOk ts) {E T : St → R3 Nat} (hP : Rule3 ts 155 (zb0 ts E T)) (pP : Prog3 ts (zb0 ts E T)) : Rule3 ts 146 (zb2 ts E T) := by
 intro B w s hBts h hk hu;generalize hR : zb2 ts E T s = R at hu ⊢;unfold zb2 at hR;obtain ⟨W0, hW0⟩ : ∃ W0, w.alloc (.cells #[.string ⟨#[42]⟩, .string ⟨#[47]⟩, .string ⟨#[42, 46]⟩, .string ⟨#[47, 46]⟩] 9) = W0 := ⟨_, rfl⟩;have hB0 : Below w.heap.size w W0 := by rw [← hW0]; exact (zJx _ _).alloc (zJw _) _
 have hX0 : Blk W0 w.heap.size 9 #[.string ⟨#[42]⟩, .string ⟨#[47]⟩, .string ⟨#[42, 46]⟩, .string ⟨#[47, 46]⟩] := by rw [← hW0]; exact Blk.new w 9 _
 have cR := zl8 155 (fun _ _ => by kernel_rfl) hT _ hP pP [[42], [47], [42, 46], [47, 46]] 4 rfl (by decide) hBts (h.below hB0) hk (by rw [hR]; exact hu) w.heap.size _ hX0 (h.fresh hB0 (zJw _)) rfl;rw [hR] at cR;have hmf : ∀ (fn : Fn) (first cap : Array Value) (w : World), (Instr.makeFunc fn first cap).run Tryz.prog w = .ok (.func fn first cap) w := fun _ _ _ _ => rfl;have A0 := zJv (h.aft hB0);clear hR h hX0 hB0 hP pP;go_enter Tryz.func146, Tryz.ntmps146
 go_wp2_with fail
 with_reducible refine cR.mono ?_
 cases R with
 | un => exact absurd rfl hu
 | bad c p =>
  rintro e w1 ⟨rfl, k1⟩;have A := zJv (A0.out.bad (s0 := s) rfl k1 rfl);clear k1 cR;go_wp2_with fail
  exact ⟨rfl, rfl, A.out⟩
 | ok i s1 =>
  rintro e w1 ⟨rfl, a1⟩;have A1 := zJv (A0.out.trans a1);clear a1 cR;go_wp2_with fail
  go_ret;exact ⟨rfl, A1.out⟩
theorem zBl {ts : List Tk} (hT : TsOk ts) {E T : St → R3 Nat} (hP : Rule3 ts 146 (zb2 ts E T)) (pP : Prog3 ts (zb2 ts E T)) : Rule3 ts 139 (sumM ts E T) := by
 intro B w s hBts h hk hu;generalize hR : sumM ts E T s = R at hu ⊢;unfold sumM at hR;obtain ⟨W0, hW0⟩ : ∃ W0, w.alloc (.cells #[.string ⟨#[43]⟩, .string ⟨#[45]⟩, .string ⟨#[43, 46]⟩, .string ⟨#[45, 46]⟩] 9) = W0 := ⟨_, rfl⟩;have hB0 : Below w.heap.size w W0 := by rw [← hW0]; exact (zJx _ _).alloc (zJw _) _
 have hX0 : Blk W0 w.heap.size 9 #[.string ⟨#[43]⟩, .string ⟨#[45]⟩, .string ⟨#[43, 46]⟩, .string ⟨#[45, 46]⟩] := by rw [← hW0]; exact Blk.new w 9 _
 have cR := zl8 146 (fun _ _ => by kernel_rfl) hT _ hP pP [[43], [45], [43, 46], [45, 46]] 4 rfl (by decide) hBts (h.below hB0) hk (by rw [hR]; exact hu) w.heap.size _ hX0 (h.fresh hB0 (zJw _)) rfl;rw [hR] at cR;have hmf : ∀ (fn : Fn) (first cap : Array Value) (w : World), (Instr.makeFunc fn first cap).run Tryz.prog w = .ok (.func fn first cap) w := fun _ _ _ _ => rfl;have A0 := zJv (h.aft hB0);clear hR h hX0 hB0 hP pP;go_enter Tryz.func139, Tryz.ntmps139
 go_wp2_with fail
 with_reducible refine cR.mono ?_
 cases R with
 | un => exact absurd rfl hu
 | bad c p =>
  rintro e w1 ⟨rfl, k1⟩;have A := zJv (A0.out.bad (s0 := s) rfl k1 rfl);clear k1 cR;go_wp2_with fail
  exact ⟨rfl, rfl, A.out⟩
 | ok i s1 =>
  rintro e w1 ⟨rfl, a1⟩;have A1 := zJv (A0.out.trans a1);clear a1 cR;go_wp2_with fail
  go_ret;exact ⟨rfl, A1.out⟩
theorem zyo {ts : List Tk} (hT : TsOk ts) {E T : St → R3 Nat} (hP : Rule3 ts 139 (sumM ts E T)) (pP : Prog3 ts (sumM ts E T)) : Rule3 ts 116 (joinM ts E T) := by
 intro B w s hBts h hk hu;generalize hR : joinM ts E T s = R at hu ⊢;unfold joinM at hR;obtain ⟨W0, hW0⟩ : ∃ W0, w.alloc (.cells #[.string ⟨#[94]⟩] 9) = W0 := ⟨_, rfl⟩;have hB0 : Below w.heap.size w W0 := by rw [← hW0]; exact (zJx _ _).alloc (zJw _) _
 have hX0 : Blk W0 w.heap.size 9 #[.string ⟨#[94]⟩] := by rw [← hW0]; exact Blk.new w 9 _
 have cR := zl8 139 (fun _ _ => by kernel_rfl) hT _ hP pP [[94]] 1 rfl (by decide) hBts (h.below hB0) hk (by rw [hR]; exact hu) w.heap.size _ hX0 (h.fresh hB0 (zJw _)) rfl;rw [hR] at cR;have hmf : ∀ (fn : Fn) (first cap : Array Value) (w : World), (Instr.makeFunc fn first cap).run Tryz.prog w = .ok (.func fn first cap) w := fun _ _ _ _ => rfl;have A0 := zJv (h.aft hB0);clear hR h hX0 hB0 hP pP;go_enter Tryz.func116, Tryz.ntmps116
 go_wp2_with fail
 with_reducible refine cR.mono ?_
 cases R with
 | un => exact absurd rfl hu
 | bad c p =>
  rintro e w1 ⟨rfl, k1⟩;have A := zJv (A0.out.bad (s0 := s) rfl k1 rfl);clear k1 cR;go_wp2_with fail
  exact ⟨rfl, rfl, A.out⟩
 | ok i s1 =>
  rintro e w1 ⟨rfl, a1⟩;have A1 := zJv (A0.out.trans a1);clear a1 cR;go_wp2_with fail
  go_ret;exact ⟨rfl, A1.out⟩
set_option maxRecDepth 100000 in
theorem zr3 {ts : List Tk} (hT : TsOk ts) {E T : St → R3 Nat} (hP : Rule3 ts 116 (joinM ts E T)) (pP : Prog3 ts (joinM ts E T)) : Rule3 ts 77 (zad ts E T) := by
 intro B w s hBts h hk hu;generalize hR : zad ts E T s = R at hu ⊢;unfold zad at hR;have HB := zJv hBts;have HP := zJv hP;have PP := zJv pP;have cA := hP B w s hBts h hk;have hmf : ∀ (fn : Fn) (first cap : Array Value) (w : World), (Instr.makeFunc fn first cap).run Tryz.prog w = .ok (.func fn first cap) w := fun _ _ _ _ => rfl;clear hP pP hBts h;go_enter Tryz.func77, Tryz.ntmps77
 go_wp2_with fail
 rcases hM2 : joinM ts E T s with ⟨i, s1⟩ | ⟨c, p⟩ | _
 case un => rw [hM2] at hR; (try simp only [R3.unB] at hR); exact absurd hR.symm hu
 case bad =>
  have cc := cA (by rw [hM2]; simp);rw [hM2] at cc hR;try simp only [R3.badB] at hR
  refine cc.mono ?_;rintro e w2 ⟨rfl, k2⟩;have A := zJv k2;clear k2 cc cA;go_wp2_with fail
  refine ⟨rfl, ?_⟩;rw [← hR];exact ⟨rfl, A.out⟩
 have cc := cA (by rw [hM2]; simp);rw [hM2] at cc hR;try simp only [R3.okB] at hR
 obtain ⟨g2, k2, o2⟩ := PP.out s i s1 hk hM2;refine cc.mono ?_;rintro e w2 ⟨rfl, a2⟩;have q2 := a2;clear a2 cc cA;have cS := zne HB.out q2.ps k2 [[61, 61], [60], [60, 46]] 3 rfl (by decide) _ rfl;by_cases hs : isA ts s1 [[61, 61], [60], [60, 46]] = true
 · rw [if_pos hs] at hR
   rw [hs] at cS;have h0 := za0 hs;clear hs;go_wp2_with fail
   refine (cS).mono ?_;rintro e w3 ⟨rfl, hb3⟩;have q3 := q2.below hb3;clear hb3;clear cS;go_wp2_with fail
   rcases hM4 : opM ts (joinM ts E T) i s1 with ⟨j, s2⟩ | ⟨c, p⟩ | _
   case un => rw [hM4] at hR; (try simp only [R3.unB] at hR); exact absurd hR.symm hu
   case bad =>
    have cc := zk9 116 (fun _ _ => by kernel_rfl) hT _ HP.out PP.out HB.out q3.ps k2 h0 (by rw [hM4]; simp);rw [hM4] at cc hR;try simp only [R3.badB] at hR
    refine cc.mono ?_;rintro e w4 ⟨rfl, k4⟩;have A := zJv (q3.bad (s0 := s) (o2) k4 rfl);clear k4 cc;go_wp2_with fail
    refine ⟨rfl, ?_⟩;rw [← hR];exact ⟨rfl, A.out⟩
   have cc := zk9 116 (fun _ _ => by kernel_rfl) hT _ HP.out PP.out HB.out q3.ps k2 h0 (by rw [hM4]; simp);rw [hM4] at cc hR;try simp only [R3.okB] at hR
   obtain ⟨g4, k4, o4⟩ := zr4 hT PP.out k2 h0 hM4;refine cc.mono ?_;rintro e w4 ⟨rfl, a4⟩;have q4 := q3.trans a4;clear a4 cc;have Q5 := zJv q4;clear q4;go_wp2_with fail
   go_ret;rw [← hR];exact ⟨rfl, Q5.out⟩
 · rw [if_neg hs] at hR
   have hs2 : isA ts s1 [[61, 61], [60], [60, 46]] = false := by simpa using hs
   rw [hs2] at cS;clear hs hs2;go_wp2_with fail
   refine (cS).mono ?_;rintro e w6 ⟨rfl, hb6⟩;have q6 := q2.below hb6;clear hb6;clear cS;have Q7 := zJv q6;clear q6;go_wp2_with fail
   go_ret;rw [← hR];exact ⟨rfl, Q7.out⟩
end Go.Proofs.YtidmeodmkcomlaaGreatDoor
