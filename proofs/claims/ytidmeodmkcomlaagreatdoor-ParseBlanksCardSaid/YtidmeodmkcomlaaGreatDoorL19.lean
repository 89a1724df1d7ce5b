/- The rules that begin with fun and case, -/
import Derived.Test.YtidmeodmkcomlaaGreatDoorL18
namespace Go.Proofs.YtidmeodmkcomlaaGreatDoor
open Go Go.Proofs Go.RowKit
set_option maxHeartbeats 8000000
set_option maxRecDepth 100000 in
theorem zs6 {ts : List Tk} (hT : TsOk ts) {E : St → R3 Nat} (hE : Rule3 ts 43 E) (pE : Prog3 ts E) {B : PE} {w : World} {s : St} (hBts : B.ts = ts) (h : PS B w s) (hk : s.k < ts.length) (hs : (tkA ts s.k).1 ≠ 0) (hu : funM ts E s ≠ .un) :
 Calls Tryz.prog 73 #[B.ptr] w (Res natV B w s (funM ts E s)) := by
 generalize hR : funM ts E s = R at hu ⊢;unfold funM at hR;have hk1 : (s.on 1).k < ts.length := hT.step hk hs;have cX := nextR hBts h hk;have hfd := tokF2;have hfe := tokF1;have hbw := h.bw;have hpos : posA ts s = (tkA ts s.k).2.2 := rfl;rw [hpos] at hR;have hbs : bs [] = ⟨#[]⟩ := rfl;try rw [hbs] at hR
 generalize hp : tkA ts s.k = t0 at cX hR hs;clear h hs hpos hp hbs;go_enter Tryz.func73, Tryz.ntmps73
 go_wp2_with fail
 refine (cX).mono ?_;rintro e w2 ⟨rfl, a2⟩;have q2 := a2;clear a2;clear cX;go_wp2_with fail
 rcases hM3 : zag ts 1 (s.on 1) with ⟨t, s1⟩ | ⟨c, p⟩ | _
 case un => rw [hM3] at hR; (try simp only [R3.unB] at hR); exact absurd hR.symm hu
 case bad =>
  have cc := ze3 (B := B) hBts q2.ps hk1 1;rw [hM3] at cc hR;try simp only [R3.badB] at hR
  refine cc.mono ?_;rintro e w3 ⟨rfl, k3⟩;have A := zJv (q2.bad (s0 := s) (rfl) k3 rfl);clear k3 cc;go_wp2_with fail
  refine ⟨rfl, ?_⟩;rw [← hR];exact ⟨rfl, A.out⟩
 have cc := ze3 (B := B) hBts q2.ps hk1 1;rw [hM3] at cc hR;try simp only [R3.okB] at hR
 obtain ⟨g3, k3, o3⟩ := zel hT (by decide) (s.on 1) t s1 hk1 hM3;refine cc.mono ?_;rintro e w3 ⟨rfl, a3⟩;have q3 := q2.trans a3;clear a3 cc;go_wp2_with fail
 obtain ⟨w4, hW4⟩ : ∃ W, w3.alloc (.cells #[iv 5, iv ((t0.2.2 : Nat) : Int), .string (bs t.2.1), .int .i64 0, .int .u64 0, .slice none 0 0, .slice none 0 0, .slice none 0 0] 38) = W := ⟨_, rfl⟩;obtain ⟨G4, q4, oX⟩ := OwnT.fresh q3 5 ((t0.2.2 : Nat) : Int) (bs t.2.1);rw [hW4] at q4 oX;rw [hW4];clear hW4;have hXs : B.base ≤ w3.heap.size := zK4 hbw q3.kt.1;go_wp2_with fail
 rcases hM5 : mustM ts [45, 62] s1 with ⟨u, s2⟩ | ⟨c, p⟩ | _
 case un => rw [hM5] at hR; (try simp only [R3.unB] at hR); exact absurd hR.symm hu
 case bad =>
  have cc := mustR (B := (B.with G4)) hBts q4.ps k3 [45, 62];rw [hM5] at cc hR;try simp only [R3.badB] at hR
  refine cc.mono ?_;rintro e w5 ⟨rfl, k5⟩;have A := zJv (q4.bad (s0 := s) (o3) k5 rfl);clear k5 cc;go_wp2_with fail
  refine ⟨rfl, ?_⟩;rw [← hR];exact ⟨rfl, A.out⟩
 have cc := mustR (B := (B.with G4)) hBts q4.ps k3 [45, 62];rw [hM5] at cc hR;try simp only [R3.okB] at hR
 obtain ⟨g5, k5, o5⟩ := zap hT s1 u s2 k3 hM5;refine cc.mono ?_;rintro e w5 ⟨rfl, a5⟩;have q5 := q4.call a5;have oX := OwnT.call q4 a5 oX;clear a5 cc;go_wp2_with fail
 rcases hM6 : E s2 with ⟨i1, s3⟩ | ⟨c, p⟩ | _
 case un => rw [hM6] at hR; (try simp only [R3.unB] at hR); exact absurd hR.symm hu
 case bad =>
  have cc := hE (B.with G4) w5 s2 hBts q5.ps k5 (by rw [hM6]; simp);rw [hM6] at cc hR;try simp only [R3.badB] at hR
  refine cc.mono ?_;rintro e w6 ⟨rfl, k6⟩;have A := zJv (q5.bad (s0 := s) (o5.trans (o3)) k6 rfl);clear k6 cc;go_wp2_with fail
  refine ⟨rfl, ?_⟩;rw [← hR];exact ⟨rfl, A.out⟩
 have cc := hE (B.with G4) w5 s2 hBts q5.ps k5 (by rw [hM6]; simp);rw [hM6] at cc hR;try simp only [R3.okB] at hR
 obtain ⟨g6, k6, o6⟩ := pE s2 i1 s3 k5 hM6;refine cc.mono ?_;rintro e w6 ⟨rfl, a6⟩;have q6 := q5.call a6;have oX := OwnT.call q5 a6 oX;clear a6 cc;have x6 := oX.blk.cell 6;have y6 := oX.blk.frozen 6;simp only [gA, gB, gC] at x6;obtain ⟨Ga, hGa, mg, qa, ra⟩ := q6.lit hbw [((i1 : Nat) : Int)] 1 rfl (by decide);obtain ⟨q7, oX7⟩ := OwnT.put6 qa hbw ((oX.below ((zJx _ _).alloc (zJw _) _)).mono hGa) (ns := [((i1 : Nat) : Int)]) ra (fun g e => by rw [zgi e]; exact mg) (fun g _ e => zcc e);obtain ⟨w7, hW7⟩ : ∃ W, (w6.alloc (.cells #[.int .i64 ((i1 : Nat) : Int)] 3)).setCell ⟨w3.heap.size, 6, none⟩ (.slice (some ⟨w6.heap.size, 0, none⟩) 1 1) = W := ⟨_, rfl⟩;have hW7' := hW7;simp only [tae, tak] at q7 oX7;rw [hW7] at q7 oX7;have hlx := oX.blk.lt;have oX : OwnT w7 Ga w3.heap.size ⟨5, ((t0.2.2 : Nat) : Int), (bs t.2.1), 0, 0, [], [((i1 : Nat) : Int)], []⟩ (.slice none 0 0) (.slice (some ⟨w6.heap.size, 0, none⟩) 1 1) (.slice none 0 0) := oX7;clear oX7 hW7' qa ra;have cc : Calls Tryz.prog 114 #[B.ptr, .agg #[iv (5), iv (((t0.2.2 : Nat) : Int)), .string ((bs t.2.1)), .int .i64 0, .int .u64 0, (.slice none 0 0), (.slice (some ⟨w6.heap.size, 0, none⟩) 1 1), (.slice none 0 0)]] w7 (Res natV (B.with Ga) w7 s3 (newT s3 ⟨5, ((t0.2.2 : Nat) : Int), (bs t.2.1), 0, 0, [], [((i1 : Nat) : Int)], []⟩)) := OwnT.new q7 oX ⟨by simp, by simp, by simp⟩;have z0 := oX.blk.cell 0;have z1 := oX.blk.cell 1;have z2 := oX.blk.cell 2;have z3 := oX.blk.cell 3;have z4 := oX.blk.cell 4;have z5 := oX.blk.cell 5;have z6 := oX.blk.cell 6;have z7 := oX.blk.cell 7;simp only [gA, gB, gC] at z0 z1 z2 z3 z4 z5 z6 z7;rcases hN : newT s3 ⟨5, ((t0.2.2 : Nat) : Int), (bs t.2.1), 0, 0, [], [((i1 : Nat) : Int)], []⟩ with ⟨i9, s9⟩ | ⟨c, p⟩ | _
 case un => exact (zda hN).elim
 case bad =>
  rw [hN] at cc hR;have Q9 := zJv q7;clear q7 oX;go_wp2_with fail
  refine cc.mono ?_;rintro e w10 ⟨rfl, k10⟩;have A := zJv (Q9.out.bad (s0 := s) (o6.trans (o5.trans (o3))) k10 rfl);clear k10 cc;go_wp2_with fail
  rw [← hR];exact ⟨rfl, rfl, A.out⟩
 rw [hN] at cc hR;have Q11 := zJv q7;clear q7 oX;go_wp2_with fail
 refine cc.mono ?_;rintro e w12 ⟨rfl, a12⟩;have Q12 := zJv (Q11.out.call a12).out;clear a12 cc;go_wp2_with fail
 go_ret;rw [← hR];exact ⟨rfl, Q12.out⟩
set_option maxRecDepth 100000 in
theorem zm7 {ts : List Tk} (hT : TsOk ts) {E : St → R3 Nat} (hE : Rule3 ts 43 E) (pE : Prog3 ts E) {B : PE} {w : World} {s : St} (hBts : B.ts = ts) (h : PS B w s) (hk : s.k < ts.length) (hs : (tkA ts s.k).1 ≠ 0) (hu : zci ts E s ≠ .un) :
 Calls Tryz.prog 76 #[B.ptr] w (Res natV B w s (zci ts E s)) := by
 generalize hR : zci ts E s = R at hu ⊢;unfold zci at hR;have hk1 : (s.on 1).k < ts.length := hT.step hk hs;have cX := nextR hBts h hk;have hfd := tokF2;have hfe := tokF1;have hbw := h.bw;have hpos : posA ts s = (tkA ts s.k).2.2 := rfl;rw [hpos] at hR;have hbs : bs [] = ⟨#[]⟩ := rfl;try rw [hbs] at hR
 have hfew := hT.few;have hown0 : (tkA ts s.k).2.2 ≤ 4294967296 := zK4 (hT.plc _) (by decide);generalize hp : tkA ts s.k = t0 at cX hR hs hown0;clear h hs hpos hp hbs;go_enter Tryz.func76, Tryz.ntmps76
 go_wp2_with fail
 refine (cX).mono ?_;rintro e w2 ⟨rfl, a2⟩;have q2 := a2;clear a2;clear cX;go_wp2_with fail
 obtain ⟨w3, hW3⟩ : ∃ W, w2.alloc (.cells #[iv 10, iv ((t0.2.2 : Nat) : Int), .string ⟨#[]⟩, .int .i64 0, .int .u64 0, .slice none 0 0, .slice none 0 0, .slice none 0 0] 38) = W := ⟨_, rfl⟩;obtain ⟨G3, q3, oX⟩ := OwnT.fresh q2 10 ((t0.2.2 : Nat) : Int) ⟨#[]⟩;rw [hW3] at q3 oX;rw [hW3];clear hW3;have hXs : B.base ≤ w2.heap.size := zK4 hbw q2.kt.1;have qd5 := q3.below (w2 := w3.drew) (zJx _ _).drew;have oX := oX.below (w2 := w3.drew) (zJx _ _).drew;rcases hM5 : E (s.on 1) with ⟨i1, s1⟩ | ⟨c, p⟩ | _
 case un => rw [hM5] at hR; (try simp only [R3.unB] at hR); exact absurd hR.symm hu
 case bad =>
  have cc := hE (B.with G3) w3.drew (s.on 1) hBts qd5.ps hk1 (by rw [hM5]; simp);rw [hM5] at cc hR;try simp only [R3.badB] at hR
  refine za5 (S := fun W => W.cell? ⟨w2.heap.size, 6, none⟩ = some (.slice none 0 0)) (fun j => j == 5 || j == 6 || j == 7) (by kernel_rfl) (oX.blk.at_ rfl) (fun hHeld => ?_);refine tkG 0 ?_;try simp only [Act.put, sA, sB, sC]
  refine tkG 1 ?_;try simp only [Act.put, sA, sB, sC]
  refine tkG 2 ?_;try simp only [Act.put, sA, sB, sC]
  refine rdG 3 (fun K hK => ?_);go_simp
  refine cc.mono ?_;rintro e w5 ⟨rfl, k5⟩;have A := zJv (qd5.bad (s0 := s) (rfl) k5 rfl);clear k5 cc;go_wp2_with fail
  rw [← hR];exact ⟨rfl, rfl, A.out⟩
 have cc := hE (B.with G3) w3.drew (s.on 1) hBts qd5.ps hk1 (by rw [hM5]; simp);rw [hM5] at cc hR;try simp only [R3.okB] at hR
 obtain ⟨g5, k5, o5⟩ := pE (s.on 1) i1 s1 hk1 hM5;refine wp_region_noPanic ?_;refine za5 (S := fun W => W.cell? ⟨w2.heap.size, 6, none⟩ = some (.slice none 0 0)) (fun j => j == 5 || j == 6 || j == 7) (by kernel_rfl) (oX.blk.at_ rfl) (fun hHeld => ?_);refine tkG 0 ?_;try simp only [Act.put, sA, sB, sC]
 refine tkG 1 ?_;try simp only [Act.put, sA, sB, sC]
 refine tkG 2 ?_;try simp only [Act.put, sA, sB, sC]
 refine rdG 3 (fun K hK => ?_);go_simp
 refine cc.mono ?_;rintro e w5 ⟨rfl, a5⟩;have q5 := qd5.call a5;have oX := OwnT.call qd5 a5 oX;clear a5 cc;go_wp2_with fail
 refine hK.out _ _ ?hSca48 (fun hHeld => ?_)
 case hSca48 => exact oX.blk.at_ rfl
 clear hK K;try simp only [Act.put, sA, sB, sC]
 refine rdG 4 (fun K hK => ?_);go_simp
 refine hK.out _ _ ?hSca49 (fun hHeld => ?_)
 case hSca49 => exact (oX.below ((zJx _ w5).alloc (zJw _) _)).blk.at_ rfl
 clear hK K;try simp only [Act.put, sA, sB, sC]
 refine rdL 5 (fun K hK => ?_);refine zcj rfl _ _ rfl (v := (.slice none 0 0)) (by simp [Act.eval]) oX.r6 (by simp [Act.eval]) rfl (by simp) ?_;intro u6 w6 hown hgrow hloc;obtain ⟨G6, q6, oY⟩ := OwnT.app6 q5 hbw oX ((zJx _ w5).alloc (zJw _) _) (news := [((i1 : Nat) : Int)]) (m := 1) rfl hown hgrow hloc;obtain ⟨A6, d6, e6⟩ : ∃ A c, u6 = .slice A (1) c := za8 hown;subst e6;obtain ⟨w7, hW7⟩ : ∃ W, w6.setCell ⟨w2.heap.size, 6, none⟩ (.slice A6 (1) d6) = W := ⟨_, rfl⟩;have z6 : w6.cell? ⟨w2.heap.size, 6, none⟩ = some (.slice none 0 0) := (OwnT.was6 oX ((zJx _ w5).alloc (zJw _) _) hgrow).at_ rfl;have zf6 := (OwnT.was6 oX ((zJx _ w5).alloc (zJw _) _) hgrow).frozen 6;rw [hW7] at q6 oY;clear hown hgrow hloc oX;refine hK.out _ _ ?_;clear hK K;try simp only [Act.put, sA, sB, sC]
 refine rdL 6 (fun K hK => ?_);go_simp
 refine hK.out _ _ ?_;clear hK K;try simp only [Act.put, sA, sB, sC]
 refine rdL 7 (fun K hK => ?_);go_simp
 refine hK.out _ _ ?_;clear hK K;try simp only [Act.put, sA, sB, sC]
 refine zah (by kernel_rfl) ?_ _;refine NoPanic.normal ?_;have oX : OwnT w7 G6 w2.heap.size ⟨10, ((t0.2.2 : Nat) : Int), ⟨#[]⟩, 0, 0, [], [((i1 : Nat) : Int)], []⟩ (.slice none 0 0) (.slice A6 (1) d6) (.slice none 0 0) := oY;clear oY z6 zf6 hW7;go_wp2_with fail
 rcases hM8 : mustM ts [111, 102] s1 with ⟨u, s2⟩ | ⟨c, p⟩ | _
 case un => rw [hM8] at hR; (try simp only [R3.unB] at hR); exact absurd hR.symm hu
 case bad =>
  have cc := mustR (B := (B.with G6)) hBts q6.ps k5 [111, 102];rw [hM8] at cc hR;try simp only [R3.badB] at hR
  refine cc.mono ?_;rintro e w8 ⟨rfl, k8⟩;have A := zJv (q6.bad (s0 := s) (o5) k8 rfl);clear k8 cc;go_wp2_with fail
  refine ⟨rfl, ?_⟩;rw [← hR];exact ⟨rfl, A.out⟩
 have cc := mustR (B := (B.with G6)) hBts q6.ps k5 [111, 102];rw [hM8] at cc hR;try simp only [R3.okB] at hR
 obtain ⟨g8, k8, o8⟩ := zap hT s1 u s2 k5 hM8;refine cc.mono ?_;rintro e w8 ⟨rfl, a8⟩;have q8 := q6.call a8;have oX := OwnT.call q6 a8 oX;clear a8 cc;have Q := zJv q8;have QX := zJv oX;clear q8 oX;obtain ⟨K, hK⟩ : ∃ K : (List (List UInt8) × List Int) → St → R3 Nat, K = fun x s3 => (mustM ts [101, 110, 100] s3).bind fun _ s4 => newT s4 ⟨10, (t0.2.2 : Nat), ⟨#[]⟩, 0, 0, bss x.1, x.2, []⟩ := ⟨_, rfl⟩;rw [← hK] at hR;go_wp2_with fail
 go_loopw [4] (fun l wr => ∃ (ns : List (List UInt8)) (ks : List Int) (sa : St) (G : Nat → Prop) (v5 v6 : Value) (b : Bool), l = .bool b ∧ Hid (AftO B G w sa wr) ∧ Hid (OwnT wr G w2.heap.size ⟨10, ((t0.2.2 : Nat) : Int), ⟨#[]⟩, 0, 0, bss ns, ks, []⟩ v5 v6 (.slice none 0 0)) ∧ Hid (sa.k < ts.length) ∧ Hid (sa.op = s.op) ∧ Hid (if b = true then K (ns, ks) sa = R else ∃ f, (zbz ts E t0.2.2 f ns ks sa).bind K = R) ∧ Hid (ns.length ≤ 2 * sa.k ∧ ks.length ≤ sa.k)) (fun _ wr => ts.length - kAt B wr)
 case atStart => exact ⟨[], [((i1 : Nat) : Int)], s2, _, _, _, false, rfl, Q, QX, zJv k8, zJv (o8.trans (o5)), zJv ⟨_, hR⟩, zJv ⟨zK8 _, by simp only [zK2, zKc]; omega⟩⟩
 case round =>
  clear Q QX hR;obtain ⟨ns, ks, sa, G, v5, v6, b, rfl, HA, HX, HK, HO, HQ, HL⟩ := hrel;have hP := HQ.out;have hkA := HA.out.kAt;have hl := HL.out;have hkk := HK.out;have oX := HX.out;obtain ⟨A5, c5, rfl⟩ := za8 oX.r5;obtain ⟨A6, c6, rfl⟩ := za8 oX.r6;have hn5 : (bss ns).length ≤ 1000000 := by simp only [bss, zKd]; omega
  have hn6 : ks.length ≤ 1000000 := by omega
  have hqa := HA.out
  cases b with
  | true =>
   rw [if_pos rfl, hK] at hP;dsimp only at hP;go_wp2_with fail
   rcases hM101 : mustM ts [101, 110, 100] sa with ⟨u, s9⟩ | ⟨c, p⟩ | _
   case un => rw [hM101] at hP; (try simp only [R3.unB] at hP); exact absurd hP.symm hu
   case bad =>
    have cc := mustR (B := (B.with G)) hBts hqa.ps HK.out [101, 110, 100];rw [hM101] at cc hP;try simp only [R3.badB] at hP
    refine cc.mono ?_;rintro e w101 ⟨rfl, k101⟩;have A := zJv (hqa.bad (s0 := s) (HO.out) k101 rfl);clear k101 cc;go_wp2_with fail
    refine ⟨rfl, ?_⟩;rw [← hP];exact ⟨rfl, A.out⟩
   have cc := mustR (B := (B.with G)) hBts hqa.ps HK.out [101, 110, 100];rw [hM101] at cc hP;try simp only [R3.okB] at hP
   obtain ⟨g101, k101, o101⟩ := zap hT sa u s9 HK.out hM101;refine cc.mono ?_;rintro e w101 ⟨rfl, a101⟩;have q101 := hqa.call a101;have oX := OwnT.call hqa a101 oX;clear a101 cc;have cc : Calls Tryz.prog 114 #[B.ptr, .agg #[iv (10), iv (((t0.2.2 : Nat) : Int)), .string (⟨#[]⟩), .int .i64 0, .int .u64 0, (.slice A5 (bss ns).length c5), (.slice A6 ks.length c6), (.slice none 0 0)]] w101 (Res natV (B.with G) w101 s9 (newT s9 ⟨10, ((t0.2.2 : Nat) : Int), ⟨#[]⟩, 0, 0, bss ns, ks, []⟩)) := OwnT.new q101 oX ⟨by simp only [bss, zKd]; omega, by show ks.length ≤ _; omega, by simp⟩;have x0 := oX.blk.cell 0;have x1 := oX.blk.cell 1;have x2 := oX.blk.cell 2;have x3 := oX.blk.cell 3;have x4 := oX.blk.cell 4;have x5 := oX.blk.cell 5;have x6 := oX.blk.cell 6;have x7 := oX.blk.cell 7;simp only [gA, gB, gC] at x0 x1 x2 x3 x4 x5 x6 x7;rcases hN : newT s9 ⟨10, ((t0.2.2 : Nat) : Int), ⟨#[]⟩, 0, 0, bss ns, ks, []⟩ with ⟨i9, s9⟩ | ⟨c, p⟩ | _
   case un => exact (zda hN).elim
   case bad =>
    rw [hN] at cc hP;have Q103 := zJv q101;clear q101 oX;go_wp2_with fail
    refine cc.mono ?_;rintro e w104 ⟨rfl, k104⟩;have A := zJv (Q103.out.bad (s0 := s) (o101.trans (HO.out)) k104 rfl);clear k104 cc;go_wp2_with fail
    rw [← hP];exact ⟨rfl, rfl, A.out⟩
   rw [hN] at cc hP;have Q105 := zJv q101;clear q101 oX;go_wp2_with fail
   refine cc.mono ?_;rintro e w106 ⟨rfl, a106⟩;have Q106 := zJv (Q105.out.call a106).out;clear a106 cc;go_wp2_with fail
   go_ret;rw [← hP];exact ⟨rfl, Q106.out⟩
  | false =>
   rw [if_neg (by decide)] at hP;obtain ⟨f, hP⟩ := hP
   cases f with
   | zero => exact absurd hP.symm hu
   | succ f =>
    unfold zbz at hP;by_cases hb : isA ts sa [[124]] = true
    · rw [if_pos hb] at hP
      have hkb : (sa.on 1).k < ts.length := hT.step HK.out (za0 hb);go_wp2_with fail
      refine (zei (B := (B.with G)) hBts hqa.ps HK.out [124] hb).mono ?_;rintro e w101 ⟨rfl, a101⟩;have q101 := hqa.call a101;have oX := OwnT.call hqa a101 oX;clear a101;by_cases he : isA ts (sa.on 1) [[101, 108, 115, 101]] = true
      · rw [if_pos he] at hP
        rw [show sa.on 2 = (sa.on 1).on 1 from rfl] at hP;have hkc : ((sa.on 1).on 1).k < ts.length := hT.step hkb (za0 he);go_wp2_with fail
        refine (zei (B := (B.with G)) hBts q101.ps hkb [101, 108, 115, 101] he).mono ?_;rintro e w102 ⟨rfl, a102⟩;have q102 := q101.call a102;have oX := OwnT.call q101 a102 oX;clear a102;go_wp2_with fail
        rcases hM103 : mustM ts [45, 62] ((sa.on 1).on 1) with ⟨u, sb⟩ | ⟨c, p⟩ | _
        case un => rw [hM103] at hP; (try simp only [R3.unB] at hP); exact absurd hP.symm hu
        case bad =>
         have cc := mustR (B := (B.with G)) hBts q102.ps hkc [45, 62];rw [hM103] at cc hP;try simp only [R3.badB] at hP
         refine cc.mono ?_;rintro e w103 ⟨rfl, k103⟩;have A := zJv (q102.bad (s0 := s) (HO.out) k103 rfl);clear k103 cc;go_wp2_with fail
         refine ⟨rfl, ?_⟩;rw [← hP];exact ⟨rfl, A.out⟩
        have cc := mustR (B := (B.with G)) hBts q102.ps hkc [45, 62];rw [hM103] at cc hP;try simp only [R3.okB] at hP
        obtain ⟨g103, k103, o103⟩ := zap hT ((sa.on 1).on 1) u sb hkc hM103;refine cc.mono ?_;rintro e w103 ⟨rfl, a103⟩;have q103 := q102.call a103;have oX := OwnT.call q102 a103 oX;clear a103 cc;go_wp2_with fail
        have qd105 := q103.below (w2 := w103.drew) (zJx _ _).drew;have oX := oX.below (w2 := w103.drew) (zJx _ _).drew;rcases hM105 : E sb with ⟨i2, sc⟩ | ⟨c, p⟩ | _
        case un => rw [hM105] at hP; (try simp only [R3.unB] at hP); exact absurd hP.symm hu
        case bad =>
         have cc := hE (B.with G) w103.drew sb hBts qd105.ps k103 (by rw [hM105]; simp);rw [hM105] at cc hP;try simp only [R3.badB] at hP
         refine za5 (S := fun W => W.cell? ⟨w2.heap.size, 6, none⟩ = some (.slice A6 ks.length c6)) (fun j => j == 5 || j == 6 || j == 7) (by kernel_rfl) (oX.blk.at_ rfl) (fun hHeld => ?_);refine tkG 0 ?_;try simp only [Act.put, sA, sB, sC]
         refine tkG 1 ?_;try simp only [Act.put, sA, sB, sC]
         refine tkG 2 ?_;try simp only [Act.put, sA, sB, sC]
         refine rdG 3 (fun K hK => ?_);go_simp
         refine cc.mono ?_;rintro e w105 ⟨rfl, k105⟩;have A := zJv (qd105.bad (s0 := s) (o103.trans (HO.out)) k105 rfl);clear k105 cc;go_wp2_with fail
         rw [← hP];exact ⟨rfl, rfl, A.out⟩
        have cc := hE (B.with G) w103.drew sb hBts qd105.ps k103 (by rw [hM105]; simp);rw [hM105] at cc hP;try simp only [R3.okB] at hP
        obtain ⟨g105, k105, o105⟩ := pE sb i2 sc k103 hM105;refine wp_region_noPanic ?_;refine za5 (S := fun W => W.cell? ⟨w2.heap.size, 6, none⟩ = some (.slice A6 ks.length c6)) (fun j => j == 5 || j == 6 || j == 7) (by kernel_rfl) (oX.blk.at_ rfl) (fun hHeld => ?_);refine tkG 0 ?_;try simp only [Act.put, sA, sB, sC]
        refine tkG 1 ?_;try simp only [Act.put, sA, sB, sC]
        refine tkG 2 ?_;try simp only [Act.put, sA, sB, sC]
        refine rdG 3 (fun K hK => ?_);go_simp
        refine cc.mono ?_;rintro e w105 ⟨rfl, a105⟩;have q105 := qd105.call a105;have oX := OwnT.call qd105 a105 oX;clear a105 cc;go_wp2_with fail
        refine hK.out _ _ ?hSce10420 (fun hHeld => ?_)
        case hSce10420 => exact oX.blk.at_ rfl
        clear hK K;try simp only [Act.put, sA, sB, sC]
        refine rdG 4 (fun K hK => ?_);go_simp
        refine hK.out _ _ ?hSce10421 (fun hHeld => ?_)
        case hSce10421 => exact (oX.below ((zJx _ w105).alloc (zJw _) _)).blk.at_ rfl
        clear hK K;try simp only [Act.put, sA, sB, sC]
        refine rdL 5 (fun K hK => ?_);refine zcj rfl _ _ rfl (v := (.slice A6 ks.length c6)) (by simp [Act.eval]) oX.r6 (by simp [Act.eval]) rfl hn6 ?_;intro u106 w106 hown hgrow hloc;obtain ⟨G106, q106, oY⟩ := OwnT.app6 q105 hbw oX ((zJx _ w105).alloc (zJw _) _) (news := [((i2 : Nat) : Int)]) (m := 1) rfl hown hgrow hloc;obtain ⟨A106, d106, e106⟩ : ∃ A c, u106 = .slice A ((ks).length + 1) c := za8 hown;subst e106;obtain ⟨w107, hW107⟩ : ∃ W, w106.setCell ⟨w2.heap.size, 6, none⟩ (.slice A106 ((ks).length + 1) d106) = W := ⟨_, rfl⟩;have z6 : w106.cell? ⟨w2.heap.size, 6, none⟩ = some (.slice A6 ks.length c6) := (OwnT.was6 oX ((zJx _ w105).alloc (zJw _) _) hgrow).at_ rfl;have zf6 := (OwnT.was6 oX ((zJx _ w105).alloc (zJw _) _) hgrow).frozen 6;rw [hW107] at q106 oY;clear hown hgrow hloc oX;refine hK.out _ _ ?_;clear hK K;try simp only [Act.put, sA, sB, sC]
        refine rdL 6 (fun K hK => ?_);go_simp
        refine hK.out _ _ ?_;clear hK K;try simp only [Act.put, sA, sB, sC]
        refine rdL 7 (fun K hK => ?_);go_simp
        refine hK.out _ _ ?_;clear hK K;try simp only [Act.put, sA, sB, sC]
        refine zah (by kernel_rfl) ?_ _;refine NoPanic.normal ?_;have oX : OwnT w107 G106 w2.heap.size ⟨10, ((t0.2.2 : Nat) : Int), ⟨#[]⟩, 0, 0, bss ns, ks ++ [((i2 : Nat) : Int)], []⟩ (.slice A5 (bss ns).length c5) (.slice A106 ((ks).length + 1) d106) (.slice none 0 0) := oY;clear oY z6 zf6 hW107;try simp only [R3.okB] at hP
        have QX := zJv oX;have Q108 := zJv q106;clear q106 oX;go_wp2_with fail
        have e0 : ((sa.on 1).on 1).k = sa.k + 2 := rfl
        exact ⟨⟨ns, _, sc, _, _, _, true, rfl, Q108, QX, zJv k105, zJv (o105.trans (o103.trans (HO.out))), zJv (by rw [if_pos rfl]; exact hP), zJv ⟨by omega, by simp only [zK5, zK2, zKc]; omega⟩⟩, by
         rw [Q108.out.kAt, hkA];have e0 : ((sa.on 1).on 1).k = sa.k + 2 := rfl
         omega⟩
      · rw [if_neg he] at hP
        have he2 : isA ts (sa.on 1) [[101, 108, 115, 101]] = false := by simpa using he
        go_wp2_with fail
        refine (zed (B := (B.with G)) hBts q101.ps hkb [101, 108, 115, 101] he2).mono ?_;rintro e w102 ⟨rfl, hb102⟩;have q102 := q101.below hb102;have oX := oX.below hb102;clear hb102;go_wp2_with fail
        have qd104 := q102.below (w2 := w102.drew) (zJx _ _).drew;have oX := oX.below (w2 := w102.drew) (zJx _ _).drew;rcases hM104 : ownM ts t0.2.2 3 (sa.on 1) with ⟨x, sb⟩ | ⟨c, p⟩ | _
        case un => rw [hM104] at hP; (try simp only [R3.unB] at hP); exact absurd hP.symm hu
        case bad =>
         have cc := ownR (B := (B.with G)) hT hBts qd104.ps hkb t0.2.2 3 hown0;rw [hM104] at cc hP;try simp only [R3.badB] at hP
         refine za5 (S := fun W => W.cell? ⟨w2.heap.size, 5, none⟩ = some (.slice A5 (bss ns).length c5) ∧ W.cell? ⟨w2.heap.size, 1, none⟩ = some (.int .i64 (((t0.2.2 : Nat) : Int)))) (fun j => j == 7 || j == 8 || j == 9) (by kernel_rfl) (⟨oX.blk.at_ rfl, oX.blk.at_ rfl⟩) (fun hHeld => ?_);refine tkG 0 ?_;try simp only [Act.put, sA, sB, sC]
         refine tkG 1 ?_;try simp only [Act.put, sA, sB, sC]
         refine tkG 2 ?_;try simp only [Act.put, sA, sB, sC]
         refine tkG 3 ?_;try simp only [Act.put, sA, sB, sC]
         refine tkG 4 ?_;try simp only [Act.put, sA, sB, sC]
         refine rdG 5 (fun K hK => ?_);go_simp
         refine cc.mono ?_;rintro e w104 ⟨rfl, k104⟩;have A := zJv (qd104.bad (s0 := s) (HO.out) k104 rfl);clear k104 cc;go_wp2_with fail
         rw [← hP];exact ⟨rfl, rfl, A.out⟩
        have cc := ownR (B := (B.with G)) hT hBts qd104.ps hkb t0.2.2 3 hown0;rw [hM104] at cc hP;try simp only [R3.okB] at hP
        obtain ⟨g104, k104, o104⟩ := zlh hT (by decide) (sa.on 1) x sb hkb hM104;refine wp_region_noPanic ?_;refine za5 (S := fun W => W.cell? ⟨w2.heap.size, 5, none⟩ = some (.slice A5 (bss ns).length c5) ∧ W.cell? ⟨w2.heap.size, 1, none⟩ = some (.int .i64 (((t0.2.2 : Nat) : Int)))) (fun j => j == 7 || j == 8 || j == 9) (by kernel_rfl) (⟨oX.blk.at_ rfl, oX.blk.at_ rfl⟩) (fun hHeld => ?_);refine tkG 0 ?_;try simp only [Act.put, sA, sB, sC]
        refine tkG 1 ?_;try simp only [Act.put, sA, sB, sC]
        refine tkG 2 ?_;try simp only [Act.put, sA, sB, sC]
        refine tkG 3 ?_;try simp only [Act.put, sA, sB, sC]
        refine tkG 4 ?_;try simp only [Act.put, sA, sB, sC]
        refine rdG 5 (fun K hK => ?_);go_simp
        refine cc.mono ?_;rintro e w104 ⟨rfl, a104⟩;have q104 := qd104.call a104;have oX := OwnT.call qd104 a104 oX;clear a104 cc;go_wp2_with fail
        refine hK.out _ _ ?hScn10336 (fun hHeld => ?_)
        case hScn10336 => exact ⟨oX.blk.at_ rfl, oX.blk.at_ rfl⟩
        clear hK K;try simp only [Act.put, sA, sB, sC]
        refine rdG 6 (fun K hK => ?_);go_simp
        refine hK.out _ _ ?hScn10337 (fun hHeld => ?_)
        case hScn10337 => exact ⟨(oX.below ((zJx _ w104).alloc (zJw _) _)).blk.at_ rfl, (oX.below ((zJx _ w104).alloc (zJw _) _)).blk.at_ rfl⟩
        clear hK K;try simp only [Act.put, sA, sB, sC]
        refine rdL 7 (fun K hK => ?_);refine zhd rfl _ _ rfl (v := (.slice A5 (bss ns).length c5)) (by simp [Act.eval]) oX.r5 (by simp [Act.eval]) rfl hn5 ?_;intro u105 w105 hown hgrow hloc;obtain ⟨G105, q105, oY⟩ := OwnT.app5 q104 hbw oX ((zJx _ w104).alloc (zJw _) _) (news := [(bs x)]) (m := 1) rfl hown hgrow hloc;obtain ⟨A105, d105, e105⟩ : ∃ A c, u105 = .slice A ((bss ns).length + 1) c := za8 hown;subst e105;obtain ⟨w106, hW106⟩ : ∃ W, w105.setCell ⟨w2.heap.size, 5, none⟩ (.slice A105 ((bss ns).length + 1) d105) = W := ⟨_, rfl⟩;have z5 : w105.cell? ⟨w2.heap.size, 5, none⟩ = some (.slice A5 (bss ns).length c5) := (OwnT.was5 oX ((zJx _ w104).alloc (zJw _) _) hgrow).at_ rfl;have zf5 := (OwnT.was5 oX ((zJx _ w104).alloc (zJw _) _) hgrow).frozen 5;rw [hW106] at q105 oY;clear hown hgrow hloc oX;refine hK.out _ _ ?_;clear hK K;try simp only [Act.put, sA, sB, sC]
        refine rdL 8 (fun K hK => ?_);go_simp
        refine hK.out _ _ ?_;clear hK K;try simp only [Act.put, sA, sB, sC]
        refine rdL 9 (fun K hK => ?_);go_simp
        refine hK.out _ _ ?_;clear hK K;try simp only [Act.put, sA, sB, sC]
        refine zah (by kernel_rfl) ?_ _;refine NoPanic.normal ?_;have oX : OwnT w106 G105 w2.heap.size ⟨10, ((t0.2.2 : Nat) : Int), ⟨#[]⟩, 0, 0, bss ns ++ [(bs x)], ks, []⟩ (.slice A105 ((bss ns).length + 1) d105) (.slice A6 ks.length c6) (.slice none 0 0) := oY;clear oY z5 zf5 hW106;go_wp2_with fail
        have hn7 : (bss ns ++ [(bs x)]).length ≤ 1000000 := by simp only [bss, zK5, zKd, zK2, zKc]; omega
        have qd108 := q105.below (w2 := w106.drew) (zJx _ _).drew;have oX := oX.below (w2 := w106.drew) (zJx _ _).drew;rcases hM108 : zag ts 1 sb with ⟨t, sc⟩ | ⟨c, p⟩ | _
        case un => rw [hM108] at hP; (try simp only [R3.unB] at hP); exact absurd hP.symm hu
        case bad =>
         have cc := ze3 (B := (B.with G105)) hBts qd108.ps k104 1;rw [hM108] at cc hP;try simp only [R3.badB] at hP
         refine za5 (S := fun W => W.cell? ⟨w2.heap.size, 5, none⟩ = some (.slice A105 ((bss ns).length + 1) d105)) (fun j => j == 6 || j == 7 || j == 8) (by kernel_rfl) (oX.blk.at_ rfl) (fun hHeld => ?_);refine tkG 0 ?_;try simp only [Act.put, sA, sB, sC]
         refine tkG 1 ?_;try simp only [Act.put, sA, sB, sC]
         refine tkG 2 ?_;try simp only [Act.put, sA, sB, sC]
         refine rdG 3 (fun K hK => ?_);go_simp
         refine cc.mono ?_;rintro e w108 ⟨rfl, k108⟩;have A := zJv (qd108.bad (s0 := s) (o104.trans (HO.out)) k108 rfl);clear k108 cc;go_wp2_with fail
         rw [← hP];exact ⟨rfl, rfl, A.out⟩
        have cc := ze3 (B := (B.with G105)) hBts qd108.ps k104 1;rw [hM108] at cc hP;try simp only [R3.okB] at hP
        obtain ⟨g108, k108, o108⟩ := zel hT (by decide) sb t sc k104 hM108;refine wp_region_noPanic ?_;refine za5 (S := fun W => W.cell? ⟨w2.heap.size, 5, none⟩ = some (.slice A105 ((bss ns).length + 1) d105)) (fun j => j == 6 || j == 7 || j == 8) (by kernel_rfl) (oX.blk.at_ rfl) (fun hHeld => ?_);refine tkG 0 ?_;try simp only [Act.put, sA, sB, sC]
        refine tkG 1 ?_;try simp only [Act.put, sA, sB, sC]
        refine tkG 2 ?_;try simp only [Act.put, sA, sB, sC]
        refine rdG 3 (fun K hK => ?_);go_simp
        refine cc.mono ?_;rintro e w108 ⟨rfl, a108⟩;have q108 := qd108.call a108;have oX := OwnT.call qd108 a108 oX;clear a108 cc;go_wp2_with fail
        refine hK.out _ _ ?hSct10748 (fun hHeld => ?_)
        case hSct10748 => exact oX.blk.at_ rfl
        clear hK K;try simp only [Act.put, sA, sB, sC]
        refine tkG 4 ?_;try simp only [Act.put, sA, sB, sC]
        refine rdG 5 (fun K hK => ?_);go_simp
        refine hK.out _ _ ?hSct10750 (fun hHeld => ?_)
        case hSct10750 => exact (oX.below ((zJx _ w108).alloc (zJw _) _)).blk.at_ rfl
        clear hK K;try simp only [Act.put, sA, sB, sC]
        refine rdL 6 (fun K hK => ?_);refine zhd rfl _ _ rfl (v := (.slice A105 ((bss ns).length + 1) d105)) (by simp [Act.eval]) oX.r5 (by simp [Act.eval]) rfl hn7 ?_;intro u109 w109 hown hgrow hloc;obtain ⟨G109, q109, oY⟩ := OwnT.app5 q108 hbw oX ((zJx _ w108).alloc (zJw _) _) (news := [(bs t.2.1)]) (m := 1) rfl hown hgrow hloc;obtain ⟨A109, d109, e109⟩ : ∃ A c, u109 = .slice A ((bss ns).length + 1 + 1) c := by simpa using za8 hown
        subst e109;obtain ⟨w110, hW110⟩ : ∃ W, w109.setCell ⟨w2.heap.size, 5, none⟩ (.slice A109 ((bss ns).length + 1 + 1) d109) = W := ⟨_, rfl⟩;have z5 : w109.cell? ⟨w2.heap.size, 5, none⟩ = some (.slice A105 ((bss ns).length + 1) d105) := (OwnT.was5 oX ((zJx _ w108).alloc (zJw _) _) hgrow).at_ rfl;have zf5 := (OwnT.was5 oX ((zJx _ w108).alloc (zJw _) _) hgrow).frozen 5;rw [hW110] at q109 oY;clear hown hgrow hloc oX;refine hK.out _ _ ?_;clear hK K;try simp only [Act.put, sA, sB, sC]
        refine rdL 7 (fun K hK => ?_);go_simp
        refine hK.out _ _ ?_;clear hK K;try simp only [Act.put, sA, sB, sC]
        refine rdL 8 (fun K hK => ?_);go_simp
        refine hK.out _ _ ?_;clear hK K;try simp only [Act.put, sA, sB, sC]
        refine zah (by kernel_rfl) ?_ _;refine NoPanic.normal ?_;have oX : OwnT w110 G109 w2.heap.size ⟨10, ((t0.2.2 : Nat) : Int), ⟨#[]⟩, 0, 0, bss ns ++ [(bs x)] ++ [(bs t.2.1)], ks, []⟩ (.slice A109 ((bss ns).length + 1 + 1) d109) (.slice A6 ks.length c6) (.slice none 0 0) := oY;clear oY z5 zf5 hW110;have eN : bss ns ++ [(bs x)] ++ [(bs t.2.1)] = bss (ns ++ [x, t.2.1]) := by simp [bss]
        rw [eN] at oX;go_wp2_with fail
        rcases hM111 : mustM ts [45, 62] sc with ⟨u, sd⟩ | ⟨c, p⟩ | _
        case un => rw [hM111] at hP; (try simp only [R3.unB] at hP); exact absurd hP.symm hu
        case bad =>
         have cc := mustR (B := (B.with G109)) hBts q109.ps k108 [45, 62];rw [hM111] at cc hP;try simp only [R3.badB] at hP
         refine cc.mono ?_;rintro e w111 ⟨rfl, k111⟩;have A := zJv (q109.bad (s0 := s) (o108.trans (o104.trans (HO.out))) k111 rfl);clear k111 cc;go_wp2_with fail
         refine ⟨rfl, ?_⟩;rw [← hP];exact ⟨rfl, A.out⟩
        have cc := mustR (B := (B.with G109)) hBts q109.ps k108 [45, 62];rw [hM111] at cc hP;try simp only [R3.okB] at hP
        obtain ⟨g111, k111, o111⟩ := zap hT sc u sd k108 hM111;refine cc.mono ?_;rintro e w111 ⟨rfl, a111⟩;have q111 := q109.call a111;have oX := OwnT.call q109 a111 oX;clear a111 cc;go_wp2_with fail
        have qd113 := q111.below (w2 := w111.drew) (zJx _ _).drew;have oX := oX.below (w2 := w111.drew) (zJx _ _).drew;rcases hM113 : E sd with ⟨i2, se⟩ | ⟨c, p⟩ | _
        case un => rw [hM113] at hP; (try simp only [R3.unB] at hP); exact absurd hP.symm hu
        case bad =>
         have cc := hE (B.with G109) w111.drew sd hBts qd113.ps k111 (by rw [hM113]; simp);rw [hM113] at cc hP;try simp only [R3.badB] at hP
         refine za5 (S := fun W => W.cell? ⟨w2.heap.size, 6, none⟩ = some (.slice A6 ks.length c6)) (fun j => j == 5 || j == 6 || j == 7) (by kernel_rfl) (oX.blk.at_ rfl) (fun hHeld => ?_);refine tkG 0 ?_;try simp only [Act.put, sA, sB, sC]
         refine tkG 1 ?_;try simp only [Act.put, sA, sB, sC]
         refine tkG 2 ?_;try simp only [Act.put, sA, sB, sC]
         refine rdG 3 (fun K hK => ?_);go_simp
         refine cc.mono ?_;rintro e w113 ⟨rfl, k113⟩;have A := zJv (qd113.bad (s0 := s) (o111.trans (o108.trans (o104.trans (HO.out)))) k113 rfl);clear k113 cc;go_wp2_with fail
         rw [← hP];exact ⟨rfl, rfl, A.out⟩
        have cc := hE (B.with G109) w111.drew sd hBts qd113.ps k111 (by rw [hM113]; simp);rw [hM113] at cc hP;try simp only [R3.okB] at hP
        obtain ⟨g113, k113, o113⟩ := pE sd i2 se k111 hM113;refine wp_region_noPanic ?_;refine za5 (S := fun W => W.cell? ⟨w2.heap.size, 6, none⟩ = some (.slice A6 ks.length c6)) (fun j => j == 5 || j == 6 || j == 7) (by kernel_rfl) (oX.blk.at_ rfl) (fun hHeld => ?_);refine tkG 0 ?_;try simp only [Act.put, sA, sB, sC]
        refine tkG 1 ?_;try simp only [Act.put, sA, sB, sC]
        refine tkG 2 ?_;try simp only [Act.put, sA, sB, sC]
        refine rdG 3 (fun K hK => ?_);go_simp
        refine cc.mono ?_;rintro e w113 ⟨rfl, a113⟩;have q113 := qd113.call a113;have oX := OwnT.call qd113 a113 oX;clear a113 cc;go_wp2_with fail
        refine hK.out _ _ ?hSck11261 (fun hHeld => ?_)
        case hSck11261 => exact oX.blk.at_ rfl
        clear hK K;try simp only [Act.put, sA, sB, sC]
        refine rdG 4 (fun K hK => ?_);go_simp
        refine hK.out _ _ ?hSck11262 (fun hHeld => ?_)
        case hSck11262 => exact (oX.below ((zJx _ w113).alloc (zJw _) _)).blk.at_ rfl
        clear hK K;try simp only [Act.put, sA, sB, sC]
        refine rdL 5 (fun K hK => ?_);refine zcj rfl _ _ rfl (v := (.slice A6 ks.length c6)) (by simp [Act.eval]) oX.r6 (by simp [Act.eval]) rfl hn6 ?_;intro u114 w114 hown hgrow hloc;obtain ⟨G114, q114, oY⟩ := OwnT.app6 q113 hbw oX ((zJx _ w113).alloc (zJw _) _) (news := [((i2 : Nat) : Int)]) (m := 1) rfl hown hgrow hloc;obtain ⟨A114, d114, e114⟩ : ∃ A c, u114 = .slice A ((ks).length + 1) c := za8 hown;subst e114;obtain ⟨w115, hW115⟩ : ∃ W, w114.setCell ⟨w2.heap.size, 6, none⟩ (.slice A114 ((ks).length + 1) d114) = W := ⟨_, rfl⟩;have z6 : w114.cell? ⟨w2.heap.size, 6, none⟩ = some (.slice A6 ks.length c6) := (OwnT.was6 oX ((zJx _ w113).alloc (zJw _) _) hgrow).at_ rfl;have zf6 := (OwnT.was6 oX ((zJx _ w113).alloc (zJw _) _) hgrow).frozen 6;rw [hW115] at q114 oY;clear hown hgrow hloc oX;refine hK.out _ _ ?_;clear hK K;try simp only [Act.put, sA, sB, sC]
        refine rdL 6 (fun K hK => ?_);go_simp
        refine hK.out _ _ ?_;clear hK K;try simp only [Act.put, sA, sB, sC]
        refine rdL 7 (fun K hK => ?_);go_simp
        refine hK.out _ _ ?_;clear hK K;try simp only [Act.put, sA, sB, sC]
        refine zah (by kernel_rfl) ?_ _;refine NoPanic.normal ?_;have oX : OwnT w115 G114 w2.heap.size ⟨10, ((t0.2.2 : Nat) : Int), ⟨#[]⟩, 0, 0, bss (ns ++ [x, t.2.1]), ks ++ [((i2 : Nat) : Int)], []⟩ (.slice A109 ((bss ns).length + 1 + 1) d109) (.slice A114 ((ks).length + 1) d114) (.slice none 0 0) := oY;clear oY z6 zf6 hW115;have QX := zJv oX;have Q116 := zJv q114;clear q114 oX;go_wp2_with fail
        have e0 : (sa.on 1).k = sa.k + 1 := rfl
        exact ⟨⟨ns ++ [x, t.2.1], _, se, _, _, _, false, rfl, Q116, QX, zJv k113, zJv (o113.trans (o111.trans (o108.trans (o104.trans (HO.out))))), zJv (by rw [if_neg (by decide)]; exact ⟨f, hP⟩), zJv ⟨by simp only [zK5, zK2, zKc]; omega, by simp only [zK5, zK2, zKc]; omega⟩⟩, by
         rw [Q116.out.kAt, hkA];have e0 : (sa.on 1).k = sa.k + 1 := rfl
         omega⟩
    · rw [if_neg hb] at hP
      have hb2 : isA ts sa [[124]] = false := by simpa using hb
      simp only [R3.okB] at hP;rw [hK] at hP;dsimp only at hP;go_wp2_with fail
      refine (zed (B := (B.with G)) hBts hqa.ps HK.out [124] hb2).mono ?_;rintro e w101 ⟨rfl, hb101⟩;have q101 := hqa.below hb101;have oX := oX.below hb101;clear hb101;go_wp2_with fail
      rcases hM102 : mustM ts [101, 110, 100] sa with ⟨u, s9⟩ | ⟨c, p⟩ | _
      case un => rw [hM102] at hP; (try simp only [R3.unB] at hP); exact absurd hP.symm hu
      case bad =>
       have cc := mustR (B := (B.with G)) hBts q101.ps HK.out [101, 110, 100];rw [hM102] at cc hP;try simp only [R3.badB] at hP
       refine cc.mono ?_;rintro e w102 ⟨rfl, k102⟩;have A := zJv (q101.bad (s0 := s) (HO.out) k102 rfl);clear k102 cc;go_wp2_with fail
       refine ⟨rfl, ?_⟩;rw [← hP];exact ⟨rfl, A.out⟩
      have cc := mustR (B := (B.with G)) hBts q101.ps HK.out [101, 110, 100];rw [hM102] at cc hP;try simp only [R3.okB] at hP
      obtain ⟨g102, k102, o102⟩ := zap hT sa u s9 HK.out hM102;refine cc.mono ?_;rintro e w102 ⟨rfl, a102⟩;have q102 := q101.call a102;have oX := OwnT.call q101 a102 oX;clear a102 cc;have cc : Calls Tryz.prog 114 #[B.ptr, .agg #[iv (10), iv (((t0.2.2 : Nat) : Int)), .string (⟨#[]⟩), .int .i64 0, .int .u64 0, (.slice A5 (bss ns).length c5), (.slice A6 ks.length c6), (.slice none 0 0)]] w102 (Res natV (B.with G) w102 s9 (newT s9 ⟨10, ((t0.2.2 : Nat) : Int), ⟨#[]⟩, 0, 0, bss ns, ks, []⟩)) := OwnT.new q102 oX ⟨by simp only [bss, zKd]; omega, by show ks.length ≤ _; omega, by simp⟩;have x0 := oX.blk.cell 0;have x1 := oX.blk.cell 1;have x2 := oX.blk.cell 2;have x3 := oX.blk.cell 3;have x4 := oX.blk.cell 4;have x5 := oX.blk.cell 5;have x6 := oX.blk.cell 6;have x7 := oX.blk.cell 7;simp only [gA, gB, gC] at x0 x1 x2 x3 x4 x5 x6 x7;rcases hN : newT s9 ⟨10, ((t0.2.2 : Nat) : Int), ⟨#[]⟩, 0, 0, bss ns, ks, []⟩ with ⟨i9, s9⟩ | ⟨c, p⟩ | _
      case un => exact (zda hN).elim
      case bad =>
       rw [hN] at cc hP;have Q104 := zJv q102;clear q102 oX;go_wp2_with fail
       refine cc.mono ?_;rintro e w105 ⟨rfl, k105⟩;have A := zJv (Q104.out.bad (s0 := s) (o102.trans (HO.out)) k105 rfl);clear k105 cc;go_wp2_with fail
       rw [← hP];exact ⟨rfl, rfl, A.out⟩
      rw [hN] at cc hP;have Q106 := zJv q102;clear q102 oX;go_wp2_with fail
      refine cc.mono ?_;rintro e w107 ⟨rfl, a107⟩;have Q107 := zJv (Q106.out.call a107).out;clear a107 cc;go_wp2_with fail
      go_ret;rw [← hP];exact ⟨rfl, Q107.out⟩
set_option maxRecDepth 100000 in
theorem zjc {ts : List Tk} (hT : TsOk ts) {E T : St → R3 Nat} (hE : Rule3 ts 43 E) (pE : Prog3 ts E) (hY : Rule3 ts 21 T) (pY : Prog3 ts T) {B : PE} {w : World} {s : St} (hBts : B.ts = ts) (h : PS B w s) (hk : s.k < ts.length) (hs : (tkA ts s.k).1 ≠ 0) (hu : zas ts E T s ≠ .un) :
 Calls Tryz.prog 173 #[B.ptr] w (Res natV B w s (zas ts E T s)) := by
 generalize hR : zas ts E T s = R at hu ⊢;unfold zas at hR;have hk1 : (s.on 1).k < ts.length := hT.step hk hs;have cX := nextR hBts h hk;have hfd := tokF2;have hfe := tokF1;have hbw := h.bw;have hpos : posA ts s = (tkA ts s.k).2.2 := rfl;rw [hpos] at hR;have hbs : bs [] = ⟨#[]⟩ := rfl;try rw [hbs] at hR
 generalize hp : tkA ts s.k = t0 at cX hR hs;clear h hs hpos hp hbs;go_enter Tryz.func173, Tryz.ntmps173
 go_wp2_with fail
 refine (cX).mono ?_;rintro e w2 ⟨rfl, a2⟩;have q2 := a2;clear a2;clear cX;go_wp2_with fail
 obtain ⟨w3, hW3⟩ : ∃ W, w2.alloc (.cells #[iv 15, iv ((t0.2.2 : Nat) : Int), .string ⟨#[]⟩, .int .i64 0, .int .u64 0, .slice none 0 0, .slice none 0 0, .slice none 0 0] 38) = W := ⟨_, rfl⟩;obtain ⟨G3, q3, oX⟩ := OwnT.fresh q2 15 ((t0.2.2 : Nat) : Int) ⟨#[]⟩;rw [hW3] at q3 oX;rw [hW3];clear hW3;have hXs : B.base ≤ w2.heap.size := zK4 hbw q2.kt.1;go_wp2_with fail
 rcases hM4 : E (s.on 1) with ⟨i1, s1⟩ | ⟨c, p⟩ | _
 case un => rw [hM4] at hR; (try simp only [R3.unB] at hR); exact absurd hR.symm hu
 case bad =>
  have cc := hE (B.with G3) w3 (s.on 1) hBts q3.ps hk1 (by rw [hM4]; simp);rw [hM4] at cc hR;try simp only [R3.badB] at hR
  refine cc.mono ?_;rintro e w4 ⟨rfl, k4⟩;have A := zJv (q3.bad (s0 := s) (rfl) k4 rfl);clear k4 cc;go_wp2_with fail
  refine ⟨rfl, ?_⟩;rw [← hR];exact ⟨rfl, A.out⟩
 have cc := hE (B.with G3) w3 (s.on 1) hBts q3.ps hk1 (by rw [hM4]; simp);rw [hM4] at cc hR;try simp only [R3.okB] at hR
 obtain ⟨g4, k4, o4⟩ := pE (s.on 1) i1 s1 hk1 hM4;refine cc.mono ?_;rintro e w4 ⟨rfl, a4⟩;have q4 := q3.call a4;have oX := OwnT.call q3 a4 oX;clear a4 cc;by_cases hz : isA ts s1 [[41]] = true
 · rw [if_pos hz] at hR
   go_wp2_with fail
   refine (zei (B := (B.with G3)) hBts q4.ps k4 [41] hz).mono ?_;rintro e w5 ⟨rfl, a5⟩;have q5 := q4.call a5;have oX := OwnT.call q4 a5 oX;clear a5;have Q6 := zJv q5;clear q5 oX;go_wp2_with fail
   go_ret;rw [← hR];exact ⟨rfl, Q6.out.out⟩
 · rw [if_neg hz] at hR
   have hz2 : isA ts s1 [[41]] = false := by simpa using hz
   go_wp2_with fail
   refine (zed (B := (B.with G3)) hBts q4.ps k4 [41] hz2).mono ?_;rintro e w5 ⟨rfl, hb5⟩;have q5 := q4.below hb5;have oX := oX.below hb5;clear hb5;go_wp2_with fail
   rcases hM6 : mustM ts [58] s1 with ⟨u, s2⟩ | ⟨c, p⟩ | _
   case un => rw [hM6] at hR; (try simp only [R3.unB] at hR); exact absurd hR.symm hu
   case bad =>
    have cc := mustR (B := (B.with G3)) hBts q5.ps k4 [58];rw [hM6] at cc hR;try simp only [R3.badB] at hR
    refine cc.mono ?_;rintro e w6 ⟨rfl, k6⟩;have A := zJv (q5.bad (s0 := s) (o4) k6 rfl);clear k6 cc;go_wp2_with fail
    refine ⟨rfl, ?_⟩;rw [← hR];exact ⟨rfl, A.out⟩
   have cc := mustR (B := (B.with G3)) hBts q5.ps k4 [58];rw [hM6] at cc hR;try simp only [R3.okB] at hR
   obtain ⟨g6, k6, o6⟩ := zap hT s1 u s2 k4 hM6;refine cc.mono ?_;rintro e w6 ⟨rfl, a6⟩;have q6 := q5.call a6;have oX := OwnT.call q5 a6 oX;clear a6 cc;go_wp2_with fail
   obtain ⟨Ga, hGa, mg, qa, ra⟩ := q6.lit hbw [((i1 : Nat) : Int)] 1 rfl (by decide);have oXa := (oX.below (w2 := w6.alloc (.cells ([((i1 : Nat) : Int)].map iv).toArray 3)) ((zJx _ _).alloc (zJw _) _)).mono hGa;obtain ⟨w7, hW7⟩ : ∃ W, w6.alloc (.cells #[.int .i64 ((i1 : Nat) : Int)] 3) = W := ⟨_, rfl⟩;simp only [tae, tak] at qa ra oXa;rw [hW7] at qa ra oXa;rw [hW7];clear oX hW7;have oX := oXa;clear oXa;have ga : ∀ g, (Value.slice (some ⟨w6.heap.size, 0, none⟩) 1 1).ownBlock = some g → Ga g := fun g e => by rw [zgi e]; exact mg
   rcases hM8 : T s2 with ⟨j1, s3⟩ | ⟨c, p⟩ | _
   case un => rw [hM8] at hR; (try simp only [R3.unB] at hR); exact absurd hR.symm hu
   case bad =>
    have cc := hY (B.with Ga) w7 s2 hBts qa.ps k6 (by rw [hM8]; simp);rw [hM8] at cc hR;try simp only [R3.badB] at hR
    refine cc.mono ?_;rintro e w8 ⟨rfl, k8⟩;have A := zJv (qa.bad (s0 := s) (o6.trans (o4)) k8 rfl);clear k8 cc;go_wp2_with fail
    refine ⟨rfl, ?_⟩;rw [← hR];exact ⟨rfl, A.out⟩
   have cc := hY (B.with Ga) w7 s2 hBts qa.ps k6 (by rw [hM8]; simp);rw [hM8] at cc hR;try simp only [R3.okB] at hR
   obtain ⟨g8, k8, o8⟩ := pY s2 j1 s3 k6 hM8;refine cc.mono ?_;rintro e w8 ⟨rfl, a8⟩;have ra := qa.row a8 ra ga;have q8 := qa.call a8;have oX := OwnT.call qa a8 oX;clear a8 cc;have x6 := oX.blk.cell 6;have y6 := oX.blk.frozen 6;have x7 := oX.blk.cell 7;have y7 := oX.blk.frozen 7;simp only [gA, gB, gC] at x6 x7;have hra : w6.heap.size < w8.heap.size := zb8 ra _ rfl;obtain ⟨Gb, hGb, mgb, qb, rb⟩ := q8.lit hbw [((j1 : Nat) : Int)] 1 rfl (by decide);have hbel : Below w8.heap.size w8 (w8.alloc (.cells ([((j1 : Nat) : Int)].map iv).toArray 3)) := (zJx _ _).alloc (zJw _) _;obtain ⟨q9, oX9⟩ := OwnT.put67 qb hbw ((oX.below hbel).mono hGb) (ks := [((i1 : Nat) : Int)]) (ys := [((j1 : Nat) : Int)]) (zaj ra hbel) (fun g e => hGb _ (ga g e)) rb (fun g e => by rw [zgi e]; exact mgb) (fun g e e2 => by have h1 := zgi e; have h2 := zgi e2; dsimp only at h1 h2; omega);have hlx := oX.blk.lt;simp only [tae, tak] at q9 oX9;rw [World.setCell_alloc_past (hn := hlx), World.setCell_alloc_past (hn := by simpa using hlx)] at q9 oX9;obtain ⟨w9, hW9⟩ : ∃ W, ((w8.setCell ⟨w2.heap.size, 6, none⟩ (.slice (some ⟨w6.heap.size, 0, none⟩) 1 1)).setCell ⟨w2.heap.size, 7, none⟩ (.slice (some ⟨w8.heap.size, 0, none⟩) 1 1)).alloc (.cells #[.int .i64 ((j1 : Nat) : Int)] 3) = W := ⟨_, rfl⟩;rw [hW9] at q9 oX9;go_wp2_with fail
   try rw [hW9]
   clear x6 x7 y6 y7;clear oX;have oX : OwnT w9 Gb w2.heap.size ⟨15, ((t0.2.2 : Nat) : Int), ⟨#[]⟩, 0, 0, [], [((i1 : Nat) : Int)], [((j1 : Nat) : Int)]⟩ (.slice none 0 0) (.slice (some ⟨w6.heap.size, 0, none⟩) 1 1) (.slice (some ⟨w8.heap.size, 0, none⟩) 1 1) := oX9;clear oX9 hW9 qb rb ra qa hra hbel hlx ga;by_cases hy : isA ts s3 [[61, 62]] = true
   · rw [if_pos hy] at hR
     have hky : (s3.on 1).k < ts.length := hT.step k8 (za0 hy);refine (zei (B := (B.with Gb)) hBts q9.ps k8 [61, 62] hy).mono ?_;rintro e w10 ⟨rfl, a10⟩;have q10 := q9.call a10;have oX := OwnT.call q9 a10 oX;clear a10;go_wp2_with fail
     have qd11 := q10.below (w2 := w10.drew) (zJx _ _).drew;have oX := oX.below (w2 := w10.drew) (zJx _ _).drew;rcases hM11 : T (s3.on 1) with ⟨j2, s4⟩ | ⟨c, p⟩ | _
     case un => rw [hM11] at hR; (try simp only [R3.unB] at hR); exact absurd hR.symm hu
     case bad =>
      have cc := hY (B.with Gb) w10.drew (s3.on 1) hBts qd11.ps hky (by rw [hM11]; simp);rw [hM11] at cc hR;try simp only [R3.badB] at hR
      refine za5 (S := fun W => W.cell? ⟨w2.heap.size, 7, none⟩ = some (.slice (some ⟨w8.heap.size, 0, none⟩) 1 1)) (fun j => j == 9) (by kernel_rfl) (oX.blk.at_ rfl) (fun hHeld => ?_);refine tkG 0 ?_;try simp only [Act.put, sA, sB, sC]
      refine tkG 1 ?_;try simp only [Act.put, sA, sB, sC]
      refine tkG 2 ?_;try simp only [Act.put, sA, sB, sC]
      refine tkG 6 ?_;try simp only [Act.put, sA, sB, sC]
      refine rdG 3 (fun K hK => ?_);go_simp
      refine cc.mono ?_;rintro e w11 ⟨rfl, k11⟩;have A := zJv (qd11.bad (s0 := s) (o8.trans (o6.trans (o4))) k11 rfl);clear k11 cc;go_wp2_with fail
      rw [← hR];exact ⟨rfl, rfl, A.out⟩
     have cc := hY (B.with Gb) w10.drew (s3.on 1) hBts qd11.ps hky (by rw [hM11]; simp);rw [hM11] at cc hR;try simp only [R3.okB] at hR
     obtain ⟨g11, k11, o11⟩ := pY (s3.on 1) j2 s4 hky hM11;refine wp_region_noPanic ?_;refine za5 (S := fun W => W.cell? ⟨w2.heap.size, 7, none⟩ = some (.slice (some ⟨w8.heap.size, 0, none⟩) 1 1)) (fun j => j == 9) (by kernel_rfl) (oX.blk.at_ rfl) (fun hHeld => ?_);refine tkG 0 ?_;try simp only [Act.put, sA, sB, sC]
     refine tkG 1 ?_;try simp only [Act.put, sA, sB, sC]
     refine tkG 2 ?_;try simp only [Act.put, sA, sB, sC]
     refine tkG 6 ?_;try simp only [Act.put, sA, sB, sC]
     refine rdG 3 (fun K hK => ?_);go_simp
     refine cc.mono ?_;rintro e w11 ⟨rfl, a11⟩;have q11 := qd11.call a11;have oX := OwnT.call qd11 a11 oX;clear a11 cc;go_wp2_with fail
     refine hK.out _ _ ?hSbc10 (fun hHeld => ?_)
     case hSbc10 => exact oX.blk.at_ rfl
     clear hK K;try simp only [Act.put, sA, sB, sC]
     refine rdG 4 (fun K hK => ?_);go_simp
     refine hK.out _ _ ?hSbc11 (fun hHeld => ?_)
     case hSbc11 => exact (oX.below ((zJx _ w11).alloc (zJw _) _)).blk.at_ rfl
     clear hK K;try simp only [Act.put, sA, sB, sC]
     refine rdG 5 (fun K hK => ?_);refine zcj rfl _ _ rfl (v := (.slice (some ⟨w8.heap.size, 0, none⟩) 1 1)) (by simp [Act.eval]) oX.r7 (by simp [Act.eval]) rfl (by simp) ?_;intro u12 w12 hown hgrow hloc;obtain ⟨G12, q12, oY⟩ := OwnT.app7k q11 hbw oX ((zJx _ w11).alloc (zJw _) _) (news := [((j2 : Nat) : Int)]) (m := 1) rfl hown hgrow hloc 16;obtain ⟨A12, d12, e12⟩ : ∃ A c, u12 = .slice A 2 c := za8 hown;subst e12;obtain ⟨w13, hW13⟩ : ∃ W, (w12.setCell ⟨w2.heap.size, 0, none⟩ (.int .i64 16)).setCell ⟨w2.heap.size, 7, none⟩ (.slice A12 2 d12) = W := ⟨_, rfl⟩;have hb := OwnT.was7 oX ((zJx _ w11).alloc (zJw _) _) hgrow;have z0 := hb.at_ (j := 0) rfl;have z7 : w12.cell? ⟨w2.heap.size, 7, none⟩ = some (.slice (some ⟨w8.heap.size, 0, none⟩) 1 1) := hb.at_ rfl;have f0 := hb.frozen 0;have f7 := hb.frozen 7;rw [hW13] at q12 oY;clear hown hgrow hloc oX hb;refine hK.out _ _ ?hSbc12 (fun hHeld => ?_)
     case hSbc12 => exact z7
     clear hK K;try simp only [Act.put, sA, sB, sC]
     refine rdG 7 (fun K hK => ?_);go_simp
     refine hK.out _ _ ?hSbc13 (fun hHeld => ?_)
     case hSbc13 => exact (by rw [zK0 _ _ _ _ (by simp)]; exact z7)
     clear hK K;try simp only [Act.put, sA, sB, sC]
     refine rdG 8 (fun K hK => ?_);go_simp
     refine hK.out _ _ ?hSbc14 (fun hHeld => ?_)
     case hSbc14 => exact hHeld
     clear hK K;try simp only [Act.put, sA, sB, sC]
     refine rdL 9 (fun K hK => ?_);go_simp
     try rw [hW13]
     refine hK.out _ _ ?_;clear hK K;try simp only [Act.put, sA, sB, sC]
     refine zah (by kernel_rfl) ?_ _;refine NoPanic.normal ?_;have oX : OwnT w13 G12 w2.heap.size ⟨16, ((t0.2.2 : Nat) : Int), ⟨#[]⟩, 0, 0, [], [((i1 : Nat) : Int)], [((j1 : Nat) : Int), ((j2 : Nat) : Int)]⟩ (.slice none 0 0) (.slice (some ⟨w6.heap.size, 0, none⟩) 1 1) (.slice A12 2 d12) := oY;clear oY z0 z7 f0 f7 hW13;go_wp2_with fail
     rcases hM14 : mustM ts [41] s4 with ⟨u, s5⟩ | ⟨c, p⟩ | _
     case un => rw [hM14] at hR; (try simp only [R3.unB] at hR); exact absurd hR.symm hu
     case bad =>
      have cc := mustR (B := (B.with G12)) hBts q12.ps k11 [41];rw [hM14] at cc hR;try simp only [R3.badB] at hR
      refine cc.mono ?_;rintro e w14 ⟨rfl, k14⟩;have A := zJv (q12.bad (s0 := s) (o11.trans (o8.trans (o6.trans (o4)))) k14 rfl);clear k14 cc;go_wp2_with fail
      refine ⟨rfl, ?_⟩;rw [← hR];exact ⟨rfl, A.out⟩
     have cc := mustR (B := (B.with G12)) hBts q12.ps k11 [41];rw [hM14] at cc hR;try simp only [R3.okB] at hR
     obtain ⟨g14, k14, o14⟩ := zap hT s4 u s5 k11 hM14;refine cc.mono ?_;rintro e w14 ⟨rfl, a14⟩;have q14 := q12.call a14;have oX := OwnT.call q12 a14 oX;clear a14 cc;have cc : Calls Tryz.prog 114 #[B.ptr, .agg #[iv (16), iv (((t0.2.2 : Nat) : Int)), .string (⟨#[]⟩), .int .i64 0, .int .u64 0, (.slice none 0 0), (.slice (some ⟨w6.heap.size, 0, none⟩) 1 1), (.slice A12 2 d12)]] w14 (Res natV (B.with G12) w14 s5 (newT s5 ⟨16, ((t0.2.2 : Nat) : Int), ⟨#[]⟩, 0, 0, [], [((i1 : Nat) : Int)], [((j1 : Nat) : Int), ((j2 : Nat) : Int)]⟩)) := OwnT.new q14 oX ⟨by simp, by simp, by simp⟩;have x0 := oX.blk.cell 0;have x1 := oX.blk.cell 1;have x2 := oX.blk.cell 2;have x3 := oX.blk.cell 3;have x4 := oX.blk.cell 4;have x5 := oX.blk.cell 5;have x6 := oX.blk.cell 6;have x7 := oX.blk.cell 7;simp only [gA, gB, gC] at x0 x1 x2 x3 x4 x5 x6 x7;rcases hN : newT s5 ⟨16, ((t0.2.2 : Nat) : Int), ⟨#[]⟩, 0, 0, [], [((i1 : Nat) : Int)], [((j1 : Nat) : Int), ((j2 : Nat) : Int)]⟩ with ⟨i9, s9⟩ | ⟨c, p⟩ | _
     case un => exact (zda hN).elim
     case bad =>
      rw [hN] at cc hR;have Q16 := zJv q14;clear q14 oX;go_wp2_with fail
      refine cc.mono ?_;rintro e w17 ⟨rfl, k17⟩;have A := zJv (Q16.out.bad (s0 := s) (o14.trans (o11.trans (o8.trans (o6.trans (o4))))) k17 rfl);clear k17 cc;go_wp2_with fail
      rw [← hR];exact ⟨rfl, rfl, A.out⟩
     rw [hN] at cc hR;have Q18 := zJv q14;clear q14 oX;go_wp2_with fail
     refine cc.mono ?_;rintro e w19 ⟨rfl, a19⟩;have Q19 := zJv (Q18.out.call a19).out;clear a19 cc;go_wp2_with fail
     go_ret;rw [← hR];exact ⟨rfl, Q19.out⟩
   · rw [if_neg hy] at hR
     have hy2 : isA ts s3 [[61, 62]] = false := by simpa using hy
     refine (zed (B := (B.with Gb)) hBts q9.ps k8 [61, 62] hy2).mono ?_;rintro e w10 ⟨rfl, hb10⟩;have q10 := q9.below hb10;have oX := oX.below hb10;clear hb10;go_wp2_with fail
     rcases hM11 : mustM ts [41] s3 with ⟨u, s5⟩ | ⟨c, p⟩ | _
     case un => rw [hM11] at hR; (try simp only [R3.unB] at hR); exact absurd hR.symm hu
     case bad =>
      have cc := mustR (B := (B.with Gb)) hBts q10.ps k8 [41];rw [hM11] at cc hR;try simp only [R3.badB] at hR
      refine cc.mono ?_;rintro e w11 ⟨rfl, k11⟩;have A := zJv (q10.bad (s0 := s) (o8.trans (o6.trans (o4))) k11 rfl);clear k11 cc;go_wp2_with fail
      refine ⟨rfl, ?_⟩;rw [← hR];exact ⟨rfl, A.out⟩
     have cc := mustR (B := (B.with Gb)) hBts q10.ps k8 [41];rw [hM11] at cc hR;try simp only [R3.okB] at hR
     obtain ⟨g11, k11, o11⟩ := zap hT s3 u s5 k8 hM11;refine cc.mono ?_;rintro e w11 ⟨rfl, a11⟩;have q11 := q10.call a11;have oX := OwnT.call q10 a11 oX;clear a11 cc;have cc : Calls Tryz.prog 114 #[B.ptr, .agg #[iv (15), iv (((t0.2.2 : Nat) : Int)), .string (⟨#[]⟩), .int .i64 0, .int .u64 0, (.slice none 0 0), (.slice (some ⟨w6.heap.size, 0, none⟩) 1 1), (.slice (some ⟨w8.heap.size, 0, none⟩) 1 1)]] w11 (Res natV (B.with Gb) w11 s5 (newT s5 ⟨15, ((t0.2.2 : Nat) : Int), ⟨#[]⟩, 0, 0, [], [((i1 : Nat) : Int)], [((j1 : Nat) : Int)]⟩)) := OwnT.new q11 oX ⟨by simp, by simp, by simp⟩;have x0 := oX.blk.cell 0;have x1 := oX.blk.cell 1;have x2 := oX.blk.cell 2;have x3 := oX.blk.cell 3;have x4 := oX.blk.cell 4;have x5 := oX.blk.cell 5;have x6 := oX.blk.cell 6;have x7 := oX.blk.cell 7;simp only [gA, gB, gC] at x0 x1 x2 x3 x4 x5 x6 x7;rcases hN : newT s5 ⟨15, ((t0.2.2 : Nat) : Int), ⟨#[]⟩, 0, 0, [], [((i1 : Nat) : Int)], [((j1 : Nat) : Int)]⟩ with ⟨i9, s9⟩ | ⟨c, p⟩ | _
     case un => exact (zda hN).elim
     case bad =>
      rw [hN] at cc hR;have Q13 := zJv q11;clear q11 oX;go_wp2_with fail
      refine cc.mono ?_;rintro e w14 ⟨rfl, k14⟩;have A := zJv (Q13.out.bad (s0 := s) (o11.trans (o8.trans (o6.trans (o4)))) k14 rfl);clear k14 cc;go_wp2_with fail
      rw [← hR];exact ⟨rfl, rfl, A.out⟩
     rw [hN] at cc hR;have Q15 := zJv q11;clear q11 oX;go_wp2_with fail
     refine cc.mono ?_;rintro e w16 ⟨rfl, a16⟩;have Q16 := zJv (Q15.out.call a16).out;clear a16 cc;go_wp2_with fail
     go_ret;rw [← hR];exact ⟨rfl, Q16.out⟩
set_option maxRecDepth 100000 in
theorem zke {ts : List Tk} (hT : TsOk ts) {E : St → R3 Nat} (hE : Rule3 ts 43 E) (pE : Prog3 ts E) {B : PE} {w : World} {s : St} (hBts : B.ts = ts) (h : PS B w s) (hk : s.k < ts.length) (hs : (tkA ts s.k).1 ≠ 0) (hu : zbu ts E s ≠ .un) :
 Calls Tryz.prog 174 #[B.ptr] w (Res natV B w s (zbu ts E s)) := by
 generalize hR : zbu ts E s = R at hu ⊢;unfold zbu at hR;have hk1 : (s.on 1).k < ts.length := hT.step hk hs;have cX := nextR hBts h hk;have hfd := tokF2;have hfe := tokF1;have hbw := h.bw;have hpos : posA ts s = (tkA ts s.k).2.2 := rfl;rw [hpos] at hR;have hbs : bs [] = ⟨#[]⟩ := rfl;try rw [hbs] at hR
 have hown0 : (tkA ts s.k).2.2 ≤ 4294967296 := zK4 (hT.plc _) (by decide);generalize hp : tkA ts s.k = t0 at cX hR hs hown0;clear h hs hpos hp hbs;go_enter Tryz.func174, Tryz.ntmps174
 go_wp2_with fail
 refine (cX).mono ?_;rintro e w2 ⟨rfl, a2⟩;have q2 := a2;clear a2;clear cX;go_wp2_with fail
 obtain ⟨w3, hW3⟩ : ∃ W, w2.alloc (.cells #[iv 12, iv ((t0.2.2 : Nat) : Int), .string ⟨#[]⟩, .int .i64 0, .int .u64 0, .slice none 0 0, .slice none 0 0, .slice none 0 0] 38) = W := ⟨_, rfl⟩;obtain ⟨G3, q3, oX⟩ := OwnT.fresh q2 12 ((t0.2.2 : Nat) : Int) ⟨#[]⟩;rw [hW3] at q3 oX;rw [hW3];clear hW3;have hXs : B.base ≤ w2.heap.size := zK4 hbw q2.kt.1;have pF : ∀ x s1, zan ts E t0.2.2 [61] (s.on 1) = .ok x s1 → (s.on 1).k < s1.k ∧ s1.k < ts.length ∧ s1.op = (s.on 1).op := by intro x s1 e; have := zhl (q := True) hT (zav pE _) t0.2.2 [61] (s.on 1) hk1 rfl; rw [e] at this; exact ⟨this.1, this.2⟩
 have x1 := oX.blk.cell 1;have y1 := oX.blk.frozen 1;have x5 := oX.blk.cell 5;have y5 := oX.blk.frozen 5;have x6 := oX.blk.cell 6;have y6 := oX.blk.frozen 6;simp only [gA, gB, gC] at x1 x5 x6;rcases hM4 : zan ts E t0.2.2 [61] (s.on 1) with ⟨x, s1⟩ | ⟨c, p⟩ | _
 case un => rw [hM4] at hR; (try simp only [R3.unB] at hR); exact absurd hR.symm hu
 case bad =>
  have cc := zfs 43 (fun _ _ => by kernel_rfl) hT hE pE (B := (B.with G3)) hBts q3.ps hk1 t0.2.2 hown0 [61] (by rw [hM4]; simp);rw [hM4] at cc hR;try simp only [R3.badB] at hR
  go_wp2_with fail
  refine cc.mono ?_;rintro e w4 ⟨rfl, k4⟩;have A := zJv (q3.bad (s0 := s) (rfl) k4 rfl);clear k4 cc;go_wp2_with fail
  rw [← hR];exact ⟨rfl, rfl, A.out⟩
 have cc := zfs 43 (fun _ _ => by kernel_rfl) hT hE pE (B := (B.with G3)) hBts q3.ps hk1 t0.2.2 hown0 [61] (by rw [hM4]; simp);rw [hM4] at cc hR;try simp only [R3.okB] at hR
 obtain ⟨g4, k4, o4⟩ := pF _ _ hM4;go_wp2_with fail
 refine cc.mono ?_;rintro e w4 ⟨Gf, A5, A6, n5, n6, c5, c6, rfl, aF, rF, l5, l6⟩;have q4 := q3.nest aF;have oX := oX.call2 q3 aF;clear x1 x5 x6 y1 y5 y6;clear cc;have x5 := oX.blk.cell 5;have y5 := oX.blk.frozen 5;have x6 := oX.blk.cell 6;have y6 := oX.blk.frozen 6;simp only [gA, gB, gC] at x5 x6;have r5 : w4.ownsRow 0 9 1 (.slice A5 n5 c5) (bss x.1).length ((bss x.1).map .string) := (show x.1.length = (bss x.1).length by simp [bss]) ▸ rF.r5;obtain ⟨q5, oX5⟩ := OwnT.put56 q4 hbw oX rfl r5 (fun g e => .inr (rF.g5 g e)) rF.r6 (fun g e => .inr (rF.g6 g e));obtain ⟨w5, hW5⟩ : ∃ W, (w4.setCell ⟨w2.heap.size, 5, none⟩ (.slice A5 n5 c5)).setCell ⟨w2.heap.size, 6, none⟩ (.slice A6 n6 c6) = W := ⟨_, rfl⟩;rw [hW5] at q5 oX5;clear oX;have oX : OwnT w5 (fun b => G3 b ∨ Gf b) w2.heap.size ⟨12, ((t0.2.2 : Nat) : Int), ⟨#[]⟩, 0, 0, bss x.1, x.2, []⟩ (.slice A5 n5 c5) (.slice A6 n6 c6) (.slice none 0 0) := oX5;clear oX5 r5 rF aF;have cc : Calls Tryz.prog 114 #[B.ptr, .agg #[iv (12), iv (((t0.2.2 : Nat) : Int)), .string (⟨#[]⟩), .int .i64 0, .int .u64 0, (.slice A5 n5 c5), (.slice A6 n6 c6), (.slice none 0 0)]] w5 (Res natV (B.with (fun b => G3 b ∨ Gf b)) w5 s1 (newT s1 ⟨12, ((t0.2.2 : Nat) : Int), ⟨#[]⟩, 0, 0, bss x.1, x.2, []⟩)) := OwnT.new q5 oX ⟨by simp only [bss, zKd]; omega, by show x.2.length ≤ _; omega, by simp⟩;have z0 := oX.blk.cell 0;have z1 := oX.blk.cell 1;have z2 := oX.blk.cell 2;have z3 := oX.blk.cell 3;have z4 := oX.blk.cell 4;have z5 := oX.blk.cell 5;have z6 := oX.blk.cell 6;have z7 := oX.blk.cell 7;simp only [gA, gB, gC] at z0 z1 z2 z3 z4 z5 z6 z7;rcases hN : newT s1 ⟨12, ((t0.2.2 : Nat) : Int), ⟨#[]⟩, 0, 0, bss x.1, x.2, []⟩ with ⟨i9, s9⟩ | ⟨c, p⟩ | _
 case un => exact (zda hN).elim
 case bad =>
  rw [hN] at cc hR;have Q7 := zJv q5;clear q5 oX;go_wp2_with fail
  refine cc.mono ?_;rintro e w8 ⟨rfl, k8⟩;have A := zJv (Q7.out.bad (s0 := s) (o4) k8 rfl);clear k8 cc;go_wp2_with fail
  rw [← hR];exact ⟨rfl, rfl, A.out⟩
 rw [hN] at cc hR;have Q9 := zJv q5;clear q5 oX;go_wp2_with fail
 refine cc.mono ?_;rintro e w10 ⟨rfl, a10⟩;have Q10 := zJv (Q9.out.call a10).out;clear a10 cc;go_wp2_with fail
 go_ret;rw [← hR];exact ⟨rfl, Q10.out⟩
end Go.Proofs.YtidmeodmkcomlaaGreatDoor
