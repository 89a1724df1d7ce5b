/- The rules that begin with fun, let, if -/
import Derived.Test.YtidmeodmkcomlaaGreatDoorL18
namespace Go.Proofs.YtidmeodmkcomlaaGreatDoor
open Go Go.Proofs Go.RowKit
set_option maxHeartbeats 8000000
set_option maxRecDepth 100000 in
theorem zkr {ts : List Tk} (hT : TsOk ts) {E : St → R3 Nat} (hE : Rule3 ts 43 E) (pE : Prog3 ts E) {B : PE} {w : World} {s : St} (hBts : B.ts = ts) (h : PS B w s) (hk : s.k < ts.length) (hs : (tkA ts s.k).1 ≠ 0) (hu : zby ts E s ≠ .un) :
 Calls Tryz.prog 75 #[B.ptr] w (Res natV B w s (zby ts E s)) := by
 generalize hR : zby ts E s = R at hu ⊢;unfold zby at hR;have hk1 : (s.on 1).k < ts.length := hT.step hk hs;have cX := nextR hBts h hk;have hfd := tokF2;have hfe := tokF1;have hbw := h.bw;have hpos : posA ts s = (tkA ts s.k).2.2 := rfl;rw [hpos] at hR;have hbs : bs [] = ⟨#[]⟩ := rfl;try rw [hbs] at hR
 generalize hp : tkA ts s.k = t0 at cX hR hs;clear h hs hpos hp hbs;go_enter Tryz.func75, Tryz.ntmps75
 go_wp2_with fail
 refine (cX).mono ?_;rintro e w2 ⟨rfl, a2⟩;have q2 := a2;clear a2;clear cX;go_wp2_with fail
 obtain ⟨w3, hW3⟩ : ∃ W, w2.alloc (.cells #[iv 9, iv ((t0.2.2 : Nat) : Int), .string ⟨#[]⟩, .int .i64 0, .int .u64 0, .slice none 0 0, .slice none 0 0, .slice none 0 0] 38) = W := ⟨_, rfl⟩;obtain ⟨G3, q3, oX⟩ := OwnT.fresh q2 9 ((t0.2.2 : Nat) : Int) ⟨#[]⟩;rw [hW3] at q3 oX;rw [hW3];clear hW3;have hXs : B.base ≤ w2.heap.size := zK4 hbw q2.kt.1;have qd5 := q3.below (w2 := w3.drew) (zJx _ _).drew;have oX := oX.below (w2 := w3.drew) (zJx _ _).drew;rcases hM5 : E (s.on 1) with ⟨i1, s1⟩ | ⟨c, p⟩ | _
 case un => rw [hM5] at hR; (try simp only [R3.unB] at hR); exact absurd hR.symm hu
 case bad =>
  have cc := hE (B.with G3) w3.drew (s.on 1) hBts qd5.ps hk1 (by rw [hM5]; simp);rw [hM5] at cc hR;try simp only [R3.badB] at hR
  refine za5 (S := fun W => W.cell? ⟨w2.heap.size, 6, none⟩ = some (.slice none 0 0)) (fun j => j == 5 || j == 6 || j == 7) (by kernel_rfl) (oX.blk.at_ rfl) (fun hHeld => ?_);refine tkG 0 ?_;try simp only [Act.put, sA, sB, sC]
  refine tkG 1 ?_;try simp only [Act.put, sA, sB, sC]
  refine tkG 2 ?_;try simp only [Act.put, sA, sB, sC]
  refine rdG 3 (fun K hK => ?_);go_simp
  refine cc.mono ?_;rintro e w5 ⟨rfl, k5⟩;have A := zJv (qd5.bad (s0 := s) (rfl) k5 rfl);clear k5 cc;go_wp2_with fail
  rw [← hR];exact ⟨rfl, rfl, A.out⟩
 have cc := hE (B.with G3) w3.drew (s.on 1) hBts qd5.ps hk1 (by rw [hM5]; simp);rw [hM5] at cc hR;try simp only [R3.okB] at hR
 obtain ⟨g5, k5, o5⟩ := pE (s.on 1) i1 s1 hk1 hM5;refine wp_region_noPanic ?_;refine za5 (S := fun W => W.cell? ⟨w2.heap.size, 6, none⟩ = some (.slice none 0 0)) (fun j => j == 5 || j == 6 || j == 7) (by kernel_rfl) (oX.blk.at_ rfl) (fun hHeld => ?_);refine tkG 0 ?_;try simp only [Act.put, sA, sB, sC]
 refine tkG 1 ?_;try simp only [Act.put, sA, sB, sC]
 refine tkG 2 ?_;try simp only [Act.put, sA, sB, sC]
 refine rdG 3 (fun K hK => ?_);go_simp
 refine cc.mono ?_;rintro e w5 ⟨rfl, a5⟩;have q5 := qd5.call a5;have oX := OwnT.call qd5 a5 oX;clear a5 cc;go_wp2_with fail
 refine hK.out _ _ ?hSia48 (fun hHeld => ?_)
 case hSia48 => exact oX.blk.at_ rfl
 clear hK K;try simp only [Act.put, sA, sB, sC]
 refine rdG 4 (fun K hK => ?_);go_simp
 refine hK.out _ _ ?hSia49 (fun hHeld => ?_)
 case hSia49 => exact (oX.below ((zJx _ w5).alloc (zJw _) _)).blk.at_ rfl
 clear hK K;try simp only [Act.put, sA, sB, sC]
 refine rdL 5 (fun K hK => ?_);refine zcj rfl _ _ rfl (v := (.slice none 0 0)) (by simp [Act.eval]) oX.r6 (by simp [Act.eval]) rfl (by simp) ?_;intro u6 w6 hown hgrow hloc;obtain ⟨G6, q6, oY⟩ := OwnT.app6 q5 hbw oX ((zJx _ w5).alloc (zJw _) _) (news := [((i1 : Nat) : Int)]) (m := 1) rfl hown hgrow hloc;obtain ⟨A6, d6, e6⟩ : ∃ A c, u6 = .slice A (1) c := za8 hown;subst e6;obtain ⟨w7, hW7⟩ : ∃ W, w6.setCell ⟨w2.heap.size, 6, none⟩ (.slice A6 (1) d6) = W := ⟨_, rfl⟩;have z6 : w6.cell? ⟨w2.heap.size, 6, none⟩ = some (.slice none 0 0) := (OwnT.was6 oX ((zJx _ w5).alloc (zJw _) _) hgrow).at_ rfl;have zf6 := (OwnT.was6 oX ((zJx _ w5).alloc (zJw _) _) hgrow).frozen 6;rw [hW7] at q6 oY;clear hown hgrow hloc oX;refine hK.out _ _ ?_;clear hK K;try simp only [Act.put, sA, sB, sC]
 refine rdL 6 (fun K hK => ?_);go_simp
 refine hK.out _ _ ?_;clear hK K;try simp only [Act.put, sA, sB, sC]
 refine rdL 7 (fun K hK => ?_);go_simp
 refine hK.out _ _ ?_;clear hK K;try simp only [Act.put, sA, sB, sC]
 refine zah (by kernel_rfl) ?_ _;refine NoPanic.normal ?_;have oX : OwnT w7 G6 w2.heap.size ⟨9, ((t0.2.2 : Nat) : Int), ⟨#[]⟩, 0, 0, [], [((i1 : Nat) : Int)], []⟩ (.slice none 0 0) (.slice A6 (1) d6) (.slice none 0 0) := oY;clear oY z6 zf6 hW7;go_wp2_with fail
 rcases hM8 : mustM ts [116, 104, 101, 110] s1 with ⟨u, s2⟩ | ⟨c, p⟩ | _
 case un => rw [hM8] at hR; (try simp only [R3.unB] at hR); exact absurd hR.symm hu
 case bad =>
  have cc := mustR (B := (B.with G6)) hBts q6.ps k5 [116, 104, 101, 110];rw [hM8] at cc hR;try simp only [R3.badB] at hR
  refine cc.mono ?_;rintro e w8 ⟨rfl, k8⟩;have A := zJv (q6.bad (s0 := s) (o5) k8 rfl);clear k8 cc;go_wp2_with fail
  refine ⟨rfl, ?_⟩;rw [← hR];exact ⟨rfl, A.out⟩
 have cc := mustR (B := (B.with G6)) hBts q6.ps k5 [116, 104, 101, 110];rw [hM8] at cc hR;try simp only [R3.okB] at hR
 obtain ⟨g8, k8, o8⟩ := zap hT s1 u s2 k5 hM8;refine cc.mono ?_;rintro e w8 ⟨rfl, a8⟩;have q8 := q6.call a8;have oX := OwnT.call q6 a8 oX;clear a8 cc;go_wp2_with fail
 have qd10 := q8.below (w2 := w8.drew) (zJx _ _).drew;have oX := oX.below (w2 := w8.drew) (zJx _ _).drew;rcases hM10 : E s2 with ⟨i2, s3⟩ | ⟨c, p⟩ | _
 case un => rw [hM10] at hR; (try simp only [R3.unB] at hR); exact absurd hR.symm hu
 case bad =>
  have cc := hE (B.with G6) w8.drew s2 hBts qd10.ps k8 (by rw [hM10]; simp);rw [hM10] at cc hR;try simp only [R3.badB] at hR
  refine za5 (S := fun W => W.cell? ⟨w2.heap.size, 6, none⟩ = some (.slice A6 (1) d6)) (fun j => j == 5 || j == 6 || j == 7) (by kernel_rfl) (oX.blk.at_ rfl) (fun hHeld => ?_);refine tkG 0 ?_;try simp only [Act.put, sA, sB, sC]
  refine tkG 1 ?_;try simp only [Act.put, sA, sB, sC]
  refine tkG 2 ?_;try simp only [Act.put, sA, sB, sC]
  refine rdG 3 (fun K hK => ?_);go_simp
  refine cc.mono ?_;rintro e w10 ⟨rfl, k10⟩;have A := zJv (qd10.bad (s0 := s) (o8.trans (o5)) k10 rfl);clear k10 cc;go_wp2_with fail
  rw [← hR];exact ⟨rfl, rfl, A.out⟩
 have cc := hE (B.with G6) w8.drew s2 hBts qd10.ps k8 (by rw [hM10]; simp);rw [hM10] at cc hR;try simp only [R3.okB] at hR
 obtain ⟨g10, k10, o10⟩ := pE s2 i2 s3 k8 hM10;refine wp_region_noPanic ?_;refine za5 (S := fun W => W.cell? ⟨w2.heap.size, 6, none⟩ = some (.slice A6 (1) d6)) (fun j => j == 5 || j == 6 || j == 7) (by kernel_rfl) (oX.blk.at_ rfl) (fun hHeld => ?_);refine tkG 0 ?_;try simp only [Act.put, sA, sB, sC]
 refine tkG 1 ?_;try simp only [Act.put, sA, sB, sC]
 refine tkG 2 ?_;try simp only [Act.put, sA, sB, sC]
 refine rdG 3 (fun K hK => ?_);go_simp
 refine cc.mono ?_;rintro e w10 ⟨rfl, a10⟩;have q10 := qd10.call a10;have oX := OwnT.call qd10 a10 oX;clear a10 cc;go_wp2_with fail
 refine hK.out _ _ ?hSib920 (fun hHeld => ?_)
 case hSib920 => exact oX.blk.at_ rfl
 clear hK K;try simp only [Act.put, sA, sB, sC]
 refine rdG 4 (fun K hK => ?_);go_simp
 refine hK.out _ _ ?hSib921 (fun hHeld => ?_)
 case hSib921 => exact (oX.below ((zJx _ w10).alloc (zJw _) _)).blk.at_ rfl
 clear hK K;try simp only [Act.put, sA, sB, sC]
 refine rdL 5 (fun K hK => ?_);refine zcj rfl _ _ rfl (v := (.slice A6 (1) d6)) (by simp [Act.eval]) oX.r6 (by simp [Act.eval]) rfl (by simp) ?_;intro u11 w11 hown hgrow hloc;obtain ⟨G11, q11, oY⟩ := OwnT.app6 q10 hbw oX ((zJx _ w10).alloc (zJw _) _) (news := [((i2 : Nat) : Int)]) (m := 1) rfl hown hgrow hloc;obtain ⟨A11, d11, e11⟩ : ∃ A c, u11 = .slice A (2) c := za8 hown;subst e11;obtain ⟨w12, hW12⟩ : ∃ W, w11.setCell ⟨w2.heap.size, 6, none⟩ (.slice A11 (2) d11) = W := ⟨_, rfl⟩;have z6 : w11.cell? ⟨w2.heap.size, 6, none⟩ = some (.slice A6 (1) d6) := (OwnT.was6 oX ((zJx _ w10).alloc (zJw _) _) hgrow).at_ rfl;have zf6 := (OwnT.was6 oX ((zJx _ w10).alloc (zJw _) _) hgrow).frozen 6;rw [hW12] at q11 oY;clear hown hgrow hloc oX;refine hK.out _ _ ?_;clear hK K;try simp only [Act.put, sA, sB, sC]
 refine rdL 6 (fun K hK => ?_);go_simp
 refine hK.out _ _ ?_;clear hK K;try simp only [Act.put, sA, sB, sC]
 refine rdL 7 (fun K hK => ?_);go_simp
 refine hK.out _ _ ?_;clear hK K;try simp only [Act.put, sA, sB, sC]
 refine zah (by kernel_rfl) ?_ _;refine NoPanic.normal ?_;have oX : OwnT w12 G11 w2.heap.size ⟨9, ((t0.2.2 : Nat) : Int), ⟨#[]⟩, 0, 0, [], [((i1 : Nat) : Int), ((i2 : Nat) : Int)], []⟩ (.slice none 0 0) (.slice A11 (2) d11) (.slice none 0 0) := oY;clear oY z6 zf6 hW12;go_wp2_with fail
 rcases hM13 : mustM ts [101, 108, 115, 101] s3 with ⟨u, s4⟩ | ⟨c, p⟩ | _
 case un => rw [hM13] at hR; (try simp only [R3.unB] at hR); exact absurd hR.symm hu
 case bad =>
  have cc := mustR (B := (B.with G11)) hBts q11.ps k10 [101, 108, 115, 101];rw [hM13] at cc hR;try simp only [R3.badB] at hR
  refine cc.mono ?_;rintro e w13 ⟨rfl, k13⟩;have A := zJv (q11.bad (s0 := s) (o10.trans (o8.trans (o5))) k13 rfl);clear k13 cc;go_wp2_with fail
  refine ⟨rfl, ?_⟩;rw [← hR];exact ⟨rfl, A.out⟩
 have cc := mustR (B := (B.with G11)) hBts q11.ps k10 [101, 108, 115, 101];rw [hM13] at cc hR;try simp only [R3.okB] at hR
 obtain ⟨g13, k13, o13⟩ := zap hT s3 u s4 k10 hM13;refine cc.mono ?_;rintro e w13 ⟨rfl, a13⟩;have q13 := q11.call a13;have oX := OwnT.call q11 a13 oX;clear a13 cc;go_wp2_with fail
 have qd15 := q13.below (w2 := w13.drew) (zJx _ _).drew;have oX := oX.below (w2 := w13.drew) (zJx _ _).drew;rcases hM15 : E s4 with ⟨i3, s5⟩ | ⟨c, p⟩ | _
 case un => rw [hM15] at hR; (try simp only [R3.unB] at hR); exact absurd hR.symm hu
 case bad =>
  have cc := hE (B.with G11) w13.drew s4 hBts qd15.ps k13 (by rw [hM15]; simp);rw [hM15] at cc hR;try simp only [R3.badB] at hR
  refine za5 (S := fun W => W.cell? ⟨w2.heap.size, 6, none⟩ = some (.slice A11 (2) d11)) (fun j => j == 5 || j == 6 || j == 7) (by kernel_rfl) (oX.blk.at_ rfl) (fun hHeld => ?_);refine tkG 0 ?_;try simp only [Act.put, sA, sB, sC]
  refine tkG 1 ?_;try simp only [Act.put, sA, sB, sC]
  refine tkG 2 ?_;try simp only [Act.put, sA, sB, sC]
  refine rdG 3 (fun K hK => ?_);go_simp
  refine cc.mono ?_;rintro e w15 ⟨rfl, k15⟩;have A := zJv (qd15.bad (s0 := s) (o13.trans (o10.trans (o8.trans (o5)))) k15 rfl);clear k15 cc;go_wp2_with fail
  rw [← hR];exact ⟨rfl, rfl, A.out⟩
 have cc := hE (B.with G11) w13.drew s4 hBts qd15.ps k13 (by rw [hM15]; simp);rw [hM15] at cc hR;try simp only [R3.okB] at hR
 obtain ⟨g15, k15, o15⟩ := pE s4 i3 s5 k13 hM15;refine wp_region_noPanic ?_;refine za5 (S := fun W => W.cell? ⟨w2.heap.size, 6, none⟩ = some (.slice A11 (2) d11)) (fun j => j == 5 || j == 6 || j == 7) (by kernel_rfl) (oX.blk.at_ rfl) (fun hHeld => ?_);refine tkG 0 ?_;try simp only [Act.put, sA, sB, sC]
 refine tkG 1 ?_;try simp only [Act.put, sA, sB, sC]
 refine tkG 2 ?_;try simp only [Act.put, sA, sB, sC]
 refine rdG 3 (fun K hK => ?_);go_simp
 refine cc.mono ?_;rintro e w15 ⟨rfl, a15⟩;have q15 := qd15.call a15;have oX := OwnT.call qd15 a15 oX;clear a15 cc;go_wp2_with fail
 refine hK.out _ _ ?hSic1432 (fun hHeld => ?_)
 case hSic1432 => exact oX.blk.at_ rfl
 clear hK K;try simp only [Act.put, sA, sB, sC]
 refine rdG 4 (fun K hK => ?_);go_simp
 refine hK.out _ _ ?hSic1433 (fun hHeld => ?_)
 case hSic1433 => exact (oX.below ((zJx _ w15).alloc (zJw _) _)).blk.at_ rfl
 clear hK K;try simp only [Act.put, sA, sB, sC]
 refine rdL 5 (fun K hK => ?_);refine zcj rfl _ _ rfl (v := (.slice A11 (2) d11)) (by simp [Act.eval]) oX.r6 (by simp [Act.eval]) rfl (by simp) ?_;intro u16 w16 hown hgrow hloc;obtain ⟨G16, q16, oY⟩ := OwnT.app6 q15 hbw oX ((zJx _ w15).alloc (zJw _) _) (news := [((i3 : Nat) : Int)]) (m := 1) rfl hown hgrow hloc;obtain ⟨A16, d16, e16⟩ : ∃ A c, u16 = .slice A (3) c := za8 hown;subst e16;obtain ⟨w17, hW17⟩ : ∃ W, w16.setCell ⟨w2.heap.size, 6, none⟩ (.slice A16 (3) d16) = W := ⟨_, rfl⟩;have z6 : w16.cell? ⟨w2.heap.size, 6, none⟩ = some (.slice A11 (2) d11) := (OwnT.was6 oX ((zJx _ w15).alloc (zJw _) _) hgrow).at_ rfl;have zf6 := (OwnT.was6 oX ((zJx _ w15).alloc (zJw _) _) hgrow).frozen 6;rw [hW17] at q16 oY;clear hown hgrow hloc oX;refine hK.out _ _ ?_;clear hK K;try simp only [Act.put, sA, sB, sC]
 refine rdL 6 (fun K hK => ?_);go_simp
 refine hK.out _ _ ?_;clear hK K;try simp only [Act.put, sA, sB, sC]
 refine rdL 7 (fun K hK => ?_);go_simp
 refine hK.out _ _ ?_;clear hK K;try simp only [Act.put, sA, sB, sC]
 refine zah (by kernel_rfl) ?_ _;refine NoPanic.normal ?_;have oX : OwnT w17 G16 w2.heap.size ⟨9, ((t0.2.2 : Nat) : Int), ⟨#[]⟩, 0, 0, [], [((i1 : Nat) : Int), ((i2 : Nat) : Int), ((i3 : Nat) : Int)], []⟩ (.slice none 0 0) (.slice A16 (3) d16) (.slice none 0 0) := oY;clear oY z6 zf6 hW17;have cc : Calls Tryz.prog 114 #[B.ptr, .agg #[iv (9), iv (((t0.2.2 : Nat) : Int)), .string (⟨#[]⟩), .int .i64 0, .int .u64 0, (.slice none 0 0), (.slice A16 (3) d16), (.slice none 0 0)]] w17 (Res natV (B.with G16) w17 s5 (newT s5 ⟨9, ((t0.2.2 : Nat) : Int), ⟨#[]⟩, 0, 0, [], [((i1 : Nat) : Int), ((i2 : Nat) : Int), ((i3 : Nat) : Int)], []⟩)) := OwnT.new q16 oX ⟨by simp, by simp, by simp⟩;have x0 := oX.blk.cell 0;have x1 := oX.blk.cell 1;have x2 := oX.blk.cell 2;have x3 := oX.blk.cell 3;have x4 := oX.blk.cell 4;have x5 := oX.blk.cell 5;have x6 := oX.blk.cell 6;have x7 := oX.blk.cell 7;simp only [gA, gB, gC] at x0 x1 x2 x3 x4 x5 x6 x7;rcases hN : newT s5 ⟨9, ((t0.2.2 : Nat) : Int), ⟨#[]⟩, 0, 0, [], [((i1 : Nat) : Int), ((i2 : Nat) : Int), ((i3 : Nat) : Int)], []⟩ with ⟨i9, s9⟩ | ⟨c, p⟩ | _
 case un => exact (zda hN).elim
 case bad =>
  rw [hN] at cc hR;have Q19 := zJv q16;clear q16 oX;go_wp2_with fail
  refine cc.mono ?_;rintro e w20 ⟨rfl, k20⟩;have A := zJv (Q19.out.bad (s0 := s) (o15.trans (o13.trans (o10.trans (o8.trans (o5))))) k20 rfl);clear k20 cc;go_wp2_with fail
  rw [← hR];exact ⟨rfl, rfl, A.out⟩
 rw [hN] at cc hR;have Q21 := zJv q16;clear q16 oX;go_wp2_with fail
 refine cc.mono ?_;rintro e w22 ⟨rfl, a22⟩;have Q22 := zJv (Q21.out.call a22).out;clear a22 cc;go_wp2_with fail
 go_ret;rw [← hR];exact ⟨rfl, Q22.out⟩
set_option maxRecDepth 100000 in
theorem zqr {ts : List Tk} (hT : TsOk ts) {E : St → R3 Nat} (hE : Rule3 ts 43 E) (pE : Prog3 ts E) {B : PE} {w : World} {s : St} (hBts : B.ts = ts) (h : PS B w s) (hk : s.k < ts.length) (hs : (tkA ts s.k).1 ≠ 0) (hu : letM ts E s ≠ .un) :
 Calls Tryz.prog 74 #[B.ptr] w (Res natV B w s (letM ts E s)) := by
 generalize hR : letM ts E s = R at hu ⊢;unfold letM at hR;have hk1 : (s.on 1).k < ts.length := hT.step hk hs;have cX := nextR hBts h hk;have hfd := tokF2;have hfe := tokF1;have hbw := h.bw;have hpos : posA ts s = (tkA ts s.k).2.2 := rfl;rw [hpos] at hR;have hbs : bs [] = ⟨#[]⟩ := rfl;try rw [hbs] at hR
 by_cases hr : isA ts (s.on 1) [[114, 101, 99]] = true
 · have hk2 : ((s.on 1).on 1).k < ts.length := hT.step hk1 (za0 hr)
   simp only [if_pos hr] at hR;rw [show s.on 2 = (s.on 1).on 1 from rfl] at hR;generalize hp : tkA ts s.k = t0 at cX hR hs;clear h hs hpos hp hbs;go_enter Tryz.func74, Tryz.ntmps74
   go_wp2_with fail
   refine (cX).mono ?_;rintro e w2 ⟨rfl, a2⟩;have q2 := a2;clear a2;clear cX;go_wp2_with fail
   obtain ⟨w3, hW3⟩ : ∃ W, w2.alloc (.cells #[iv 7, iv ((t0.2.2 : Nat) : Int), .string ⟨#[]⟩, .int .i64 0, .int .u64 0, .slice none 0 0, .slice none 0 0, .slice none 0 0] 38) = W := ⟨_, rfl⟩;obtain ⟨G3, q3, oX⟩ := OwnT.fresh q2 7 ((t0.2.2 : Nat) : Int) ⟨#[]⟩;rw [hW3] at q3 oX;rw [hW3];clear hW3;have hXs : B.base ≤ w2.heap.size := zK4 hbw q2.kt.1;go_wp2_with fail
   refine (zei (B := (B.with G3)) hBts q3.ps hk1 [114, 101, 99] hr).mono ?_;rintro e w4 ⟨rfl, a4⟩;have q4 := q3.call a4;have oX := OwnT.call q3 a4 oX;clear a4;have x0 := oX.blk.cell 0;have y0 := oX.blk.frozen 0;simp only [gA, gB] at x0;obtain ⟨q5, oX5⟩ := oX.put0 q4 hbw (8);obtain ⟨w5, hW5⟩ : ∃ W, w4.setCell ⟨w2.heap.size, 0, none⟩ (.int .i64 (8)) = W := ⟨_, rfl⟩;rw [hW5] at q5 oX5;have oX : OwnT w5 G3 w2.heap.size ⟨8, ((t0.2.2 : Nat) : Int), ⟨#[]⟩, 0, 0, [], [], []⟩ (.slice none 0 0) (.slice none 0 0) (.slice none 0 0) := oX5;clear oX5;go_wp2_with fail
   clear hW5;clear x0 y0;go_wp2_with fail
   rcases hM6 : zag ts 1 ((s.on 1).on 1) with ⟨t, s1⟩ | ⟨c, p⟩ | _
   case un => rw [hM6] at hR; (try simp only [R3.unB] at hR); exact absurd hR.symm hu
   case bad =>
    have cc := ze3 (B := (B.with G3)) hBts q5.ps hk2 1;rw [hM6] at cc hR;try simp only [R3.badB] at hR
    refine cc.mono ?_;rintro e w6 ⟨rfl, k6⟩;have A := zJv (q5.bad (s0 := s) (rfl) k6 rfl);clear k6 cc;go_wp2_with fail
    refine ⟨rfl, ?_⟩;rw [← hR];exact ⟨rfl, A.out⟩
   have cc := ze3 (B := (B.with G3)) hBts q5.ps hk2 1;rw [hM6] at cc hR;try simp only [R3.okB] at hR
   obtain ⟨g6, k6, o6⟩ := zel hT (by decide) ((s.on 1).on 1) t s1 hk2 hM6;refine cc.mono ?_;rintro e w6 ⟨rfl, a6⟩;have q6 := q5.call a6;have oX := OwnT.call q5 a6 oX;clear a6 cc;have x2 := oX.blk.cell 2;have y2 := oX.blk.frozen 2;simp only [gA, gB, gC] at x2;obtain ⟨q7, oX7⟩ := oX.put2 q6 hbw (bs t.2.1);obtain ⟨w7, hW7⟩ : ∃ W, w6.setCell ⟨w2.heap.size, 2, none⟩ (.string (bs t.2.1)) = W := ⟨_, rfl⟩;rw [hW7] at q7 oX7;have oX : OwnT w7 G3 w2.heap.size ⟨8, ((t0.2.2 : Nat) : Int), bs t.2.1, 0, 0, [], [], []⟩ (.slice none 0 0) (.slice none 0 0) (.slice none 0 0) := oX7;clear oX7;go_wp2_with fail
   clear hW7;clear x2 y2;go_wp2_with fail
   rcases hM8 : mustM ts [61] s1 with ⟨u, s2⟩ | ⟨c, p⟩ | _
   case un => rw [hM8] at hR; (try simp only [R3.unB] at hR); exact absurd hR.symm hu
   case bad =>
    have cc := mustR (B := (B.with G3)) hBts q7.ps k6 [61];rw [hM8] at cc hR;try simp only [R3.badB] at hR
    refine cc.mono ?_;rintro e w8 ⟨rfl, k8⟩;have A := zJv (q7.bad (s0 := s) (o6) k8 rfl);clear k8 cc;go_wp2_with fail
    refine ⟨rfl, ?_⟩;rw [← hR];exact ⟨rfl, A.out⟩
   have cc := mustR (B := (B.with G3)) hBts q7.ps k6 [61];rw [hM8] at cc hR;try simp only [R3.okB] at hR
   obtain ⟨g8, k8, o8⟩ := zap hT s1 u s2 k6 hM8;refine cc.mono ?_;rintro e w8 ⟨rfl, a8⟩;have q8 := q7.call a8;have oX := OwnT.call q7 a8 oX;clear a8 cc;go_wp2_with fail
   have qd10 := q8.below (w2 := w8.drew) (zJx _ _).drew;have oX := oX.below (w2 := w8.drew) (zJx _ _).drew;rcases hM10 : E s2 with ⟨i1, s3⟩ | ⟨c, p⟩ | _
   case un => rw [hM10] at hR; (try simp only [R3.unB] at hR); exact absurd hR.symm hu
   case bad =>
    have cc := hE (B.with G3) w8.drew s2 hBts qd10.ps k8 (by rw [hM10]; simp);rw [hM10] at cc hR;try simp only [R3.badB] at hR
    refine za5 (S := fun W => W.cell? ⟨w2.heap.size, 6, none⟩ = some (.slice none 0 0)) (fun j => j == 5 || j == 6 || j == 7) (by kernel_rfl) (oX.blk.at_ rfl) (fun hHeld => ?_);refine tkG 0 ?_;try simp only [Act.put, sA, sB, sC]
    refine tkG 1 ?_;try simp only [Act.put, sA, sB, sC]
    refine tkG 2 ?_;try simp only [Act.put, sA, sB, sC]
    refine rdG 3 (fun K hK => ?_);go_simp
    refine cc.mono ?_;rintro e w10 ⟨rfl, k10⟩;have A := zJv (qd10.bad (s0 := s) (o8.trans (o6)) k10 rfl);clear k10 cc;go_wp2_with fail
    rw [← hR];exact ⟨rfl, rfl, A.out⟩
   have cc := hE (B.with G3) w8.drew s2 hBts qd10.ps k8 (by rw [hM10]; simp);rw [hM10] at cc hR;try simp only [R3.okB] at hR
   obtain ⟨g10, k10, o10⟩ := pE s2 i1 s3 k8 hM10;refine wp_region_noPanic ?_;refine za5 (S := fun W => W.cell? ⟨w2.heap.size, 6, none⟩ = some (.slice none 0 0)) (fun j => j == 5 || j == 6 || j == 7) (by kernel_rfl) (oX.blk.at_ rfl) (fun hHeld => ?_);refine tkG 0 ?_;try simp only [Act.put, sA, sB, sC]
   refine tkG 1 ?_;try simp only [Act.put, sA, sB, sC]
   refine tkG 2 ?_;try simp only [Act.put, sA, sB, sC]
   refine rdG 3 (fun K hK => ?_);go_simp
   refine cc.mono ?_;rintro e w10 ⟨rfl, a10⟩;have q10 := qd10.call a10;have oX := OwnT.call qd10 a10 oX;clear a10 cc;go_wp2_with fail
   refine hK.out _ _ ?hSla198 (fun hHeld => ?_)
   case hSla198 => exact oX.blk.at_ rfl
   clear hK K;try simp only [Act.put, sA, sB, sC]
   refine rdG 4 (fun K hK => ?_);go_simp
   refine hK.out _ _ ?hSla199 (fun hHeld => ?_)
   case hSla199 => exact (oX.below ((zJx _ w10).alloc (zJw _) _)).blk.at_ rfl
   clear hK K;try simp only [Act.put, sA, sB, sC]
   refine rdL 5 (fun K hK => ?_);refine zcj rfl _ _ rfl (v := (.slice none 0 0)) (by simp [Act.eval]) oX.r6 (by simp [Act.eval]) rfl (by simp) ?_;intro u11 w11 hown hgrow hloc;obtain ⟨G11, q11, oY⟩ := OwnT.app6 q10 hbw oX ((zJx _ w10).alloc (zJw _) _) (news := [((i1 : Nat) : Int)]) (m := 1) rfl hown hgrow hloc;obtain ⟨A11, d11, e11⟩ : ∃ A c, u11 = .slice A (1) c := za8 hown;subst e11;obtain ⟨w12, hW12⟩ : ∃ W, w11.setCell ⟨w2.heap.size, 6, none⟩ (.slice A11 (1) d11) = W := ⟨_, rfl⟩;have z6 : w11.cell? ⟨w2.heap.size, 6, none⟩ = some (.slice none 0 0) := (OwnT.was6 oX ((zJx _ w10).alloc (zJw _) _) hgrow).at_ rfl;have zf6 := (OwnT.was6 oX ((zJx _ w10).alloc (zJw _) _) hgrow).frozen 6;rw [hW12] at q11 oY;clear hown hgrow hloc oX;refine hK.out _ _ ?_;clear hK K;try simp only [Act.put, sA, sB, sC]
   refine rdL 6 (fun K hK => ?_);go_simp
   refine hK.out _ _ ?_;clear hK K;try simp only [Act.put, sA, sB, sC]
   refine rdL 7 (fun K hK => ?_);go_simp
   refine hK.out _ _ ?_;clear hK K;try simp only [Act.put, sA, sB, sC]
   refine zah (by kernel_rfl) ?_ _;refine NoPanic.normal ?_;have oX : OwnT w12 G11 w2.heap.size ⟨8, ((t0.2.2 : Nat) : Int), bs t.2.1, 0, 0, [], [((i1 : Nat) : Int)], []⟩ (.slice none 0 0) (.slice A11 (1) d11) (.slice none 0 0) := oY;clear oY z6 zf6 hW12;go_wp2_with fail
   rcases hM13 : mustM ts [105, 110] s3 with ⟨u, s4⟩ | ⟨c, p⟩ | _
   case un => rw [hM13] at hR; (try simp only [R3.unB] at hR); exact absurd hR.symm hu
   case bad =>
    have cc := mustR (B := (B.with G11)) hBts q11.ps k10 [105, 110];rw [hM13] at cc hR;try simp only [R3.badB] at hR
    refine cc.mono ?_;rintro e w13 ⟨rfl, k13⟩;have A := zJv (q11.bad (s0 := s) (o10.trans (o8.trans (o6))) k13 rfl);clear k13 cc;go_wp2_with fail
    refine ⟨rfl, ?_⟩;rw [← hR];exact ⟨rfl, A.out⟩
   have cc := mustR (B := (B.with G11)) hBts q11.ps k10 [105, 110];rw [hM13] at cc hR;try simp only [R3.okB] at hR
   obtain ⟨g13, k13, o13⟩ := zap hT s3 u s4 k10 hM13;refine cc.mono ?_;rintro e w13 ⟨rfl, a13⟩;have q13 := q11.call a13;have oX := OwnT.call q11 a13 oX;clear a13 cc;go_wp2_with fail
   have qd15 := q13.below (w2 := w13.drew) (zJx _ _).drew;have oX := oX.below (w2 := w13.drew) (zJx _ _).drew;rcases hM15 : E s4 with ⟨i2, s5⟩ | ⟨c, p⟩ | _
   case un => rw [hM15] at hR; (try simp only [R3.unB] at hR); exact absurd hR.symm hu
   case bad =>
    have cc := hE (B.with G11) w13.drew s4 hBts qd15.ps k13 (by rw [hM15]; simp);rw [hM15] at cc hR;try simp only [R3.badB] at hR
    refine za5 (S := fun W => W.cell? ⟨w2.heap.size, 6, none⟩ = some (.slice A11 (1) d11)) (fun j => j == 5 || j == 6 || j == 7) (by kernel_rfl) (oX.blk.at_ rfl) (fun hHeld => ?_);refine tkG 0 ?_;try simp only [Act.put, sA, sB, sC]
    refine tkG 1 ?_;try simp only [Act.put, sA, sB, sC]
    refine tkG 2 ?_;try simp only [Act.put, sA, sB, sC]
    refine rdG 3 (fun K hK => ?_);go_simp
    refine cc.mono ?_;rintro e w15 ⟨rfl, k15⟩;have A := zJv (qd15.bad (s0 := s) (o13.trans (o10.trans (o8.trans (o6)))) k15 rfl);clear k15 cc;go_wp2_with fail
    rw [← hR];exact ⟨rfl, rfl, A.out⟩
   have cc := hE (B.with G11) w13.drew s4 hBts qd15.ps k13 (by rw [hM15]; simp);rw [hM15] at cc hR;try simp only [R3.okB] at hR
   obtain ⟨g15, k15, o15⟩ := pE s4 i2 s5 k13 hM15;refine wp_region_noPanic ?_;refine za5 (S := fun W => W.cell? ⟨w2.heap.size, 6, none⟩ = some (.slice A11 (1) d11)) (fun j => j == 5 || j == 6 || j == 7) (by kernel_rfl) (oX.blk.at_ rfl) (fun hHeld => ?_);refine tkG 0 ?_;try simp only [Act.put, sA, sB, sC]
   refine tkG 1 ?_;try simp only [Act.put, sA, sB, sC]
   refine tkG 2 ?_;try simp only [Act.put, sA, sB, sC]
   refine rdG 3 (fun K hK => ?_);go_simp
   refine cc.mono ?_;rintro e w15 ⟨rfl, a15⟩;have q15 := qd15.call a15;have oX := OwnT.call qd15 a15 oX;clear a15 cc;go_wp2_with fail
   refine hK.out _ _ ?hSlb11420 (fun hHeld => ?_)
   case hSlb11420 => exact oX.blk.at_ rfl
   clear hK K;try simp only [Act.put, sA, sB, sC]
   refine rdG 4 (fun K hK => ?_);go_simp
   refine hK.out _ _ ?hSlb11421 (fun hHeld => ?_)
   case hSlb11421 => exact (oX.below ((zJx _ w15).alloc (zJw _) _)).blk.at_ rfl
   clear hK K;try simp only [Act.put, sA, sB, sC]
   refine rdL 5 (fun K hK => ?_);refine zcj rfl _ _ rfl (v := (.slice A11 (1) d11)) (by simp [Act.eval]) oX.r6 (by simp [Act.eval]) rfl (by simp) ?_;intro u16 w16 hown hgrow hloc;obtain ⟨G16, q16, oY⟩ := OwnT.app6 q15 hbw oX ((zJx _ w15).alloc (zJw _) _) (news := [((i2 : Nat) : Int)]) (m := 1) rfl hown hgrow hloc;obtain ⟨A16, d16, e16⟩ : ∃ A c, u16 = .slice A (2) c := za8 hown;subst e16;obtain ⟨w17, hW17⟩ : ∃ W, w16.setCell ⟨w2.heap.size, 6, none⟩ (.slice A16 (2) d16) = W := ⟨_, rfl⟩;have z6 : w16.cell? ⟨w2.heap.size, 6, none⟩ = some (.slice A11 (1) d11) := (OwnT.was6 oX ((zJx _ w15).alloc (zJw _) _) hgrow).at_ rfl;have zf6 := (OwnT.was6 oX ((zJx _ w15).alloc (zJw _) _) hgrow).frozen 6;rw [hW17] at q16 oY;clear hown hgrow hloc oX;refine hK.out _ _ ?_;clear hK K;try simp only [Act.put, sA, sB, sC]
   refine rdL 6 (fun K hK => ?_);go_simp
   refine hK.out _ _ ?_;clear hK K;try simp only [Act.put, sA, sB, sC]
   refine rdL 7 (fun K hK => ?_);go_simp
   refine hK.out _ _ ?_;clear hK K;try simp only [Act.put, sA, sB, sC]
   refine zah (by kernel_rfl) ?_ _;refine NoPanic.normal ?_;have oX : OwnT w17 G16 w2.heap.size ⟨8, ((t0.2.2 : Nat) : Int), bs t.2.1, 0, 0, [], [((i1 : Nat) : Int), ((i2 : Nat) : Int)], []⟩ (.slice none 0 0) (.slice A16 (2) d16) (.slice none 0 0) := oY;clear oY z6 zf6 hW17;have cc : Calls Tryz.prog 114 #[B.ptr, .agg #[iv (8), iv (((t0.2.2 : Nat) : Int)), .string (bs t.2.1), .int .i64 0, .int .u64 0, (.slice none 0 0), (.slice A16 (2) d16), (.slice none 0 0)]] w17 (Res natV (B.with G16) w17 s5 (newT s5 ⟨8, ((t0.2.2 : Nat) : Int), bs t.2.1, 0, 0, [], [((i1 : Nat) : Int), ((i2 : Nat) : Int)], []⟩)) := OwnT.new q16 oX ⟨by simp, by simp, by simp⟩;have x0 := oX.blk.cell 0;have x1 := oX.blk.cell 1;have x2 := oX.blk.cell 2;have x3 := oX.blk.cell 3;have x4 := oX.blk.cell 4;have x5 := oX.blk.cell 5;have x6 := oX.blk.cell 6;have x7 := oX.blk.cell 7;simp only [gA, gB, gC] at x0 x1 x2 x3 x4 x5 x6 x7;rcases hN : newT s5 ⟨8, ((t0.2.2 : Nat) : Int), bs t.2.1, 0, 0, [], [((i1 : Nat) : Int), ((i2 : Nat) : Int)], []⟩ with ⟨i9, s9⟩ | ⟨c, p⟩ | _
   case un => exact (zda hN).elim
   case bad =>
    rw [hN] at cc hR;have Q19 := zJv q16;clear q16 oX;go_wp2_with fail
    refine cc.mono ?_;rintro e w20 ⟨rfl, k20⟩;have A := zJv (Q19.out.bad (s0 := s) (o15.trans (o13.trans (o10.trans (o8.trans (o6))))) k20 rfl);clear k20 cc;go_wp2_with fail
    rw [← hR];exact ⟨rfl, rfl, A.out⟩
   rw [hN] at cc hR;have Q21 := zJv q16;clear q16 oX;go_wp2_with fail
   refine cc.mono ?_;rintro e w22 ⟨rfl, a22⟩;have Q22 := zJv (Q21.out.call a22).out;clear a22 cc;go_wp2_with fail
   go_ret;rw [← hR];exact ⟨rfl, Q22.out⟩
 · simp only [if_neg hr] at hR
   have hr : isA ts (s.on 1) [[114, 101, 99]] = false := by simpa using hr
   generalize hp : tkA ts s.k = t0 at cX hR hs;clear h hs hpos hp hbs;go_enter Tryz.func74, Tryz.ntmps74
   go_wp2_with fail
   refine (cX).mono ?_;rintro e w2 ⟨rfl, a2⟩;have q2 := a2;clear a2;clear cX;go_wp2_with fail
   obtain ⟨w3, hW3⟩ : ∃ W, w2.alloc (.cells #[iv 7, iv ((t0.2.2 : Nat) : Int), .string ⟨#[]⟩, .int .i64 0, .int .u64 0, .slice none 0 0, .slice none 0 0, .slice none 0 0] 38) = W := ⟨_, rfl⟩;obtain ⟨G3, q3, oX⟩ := OwnT.fresh q2 7 ((t0.2.2 : Nat) : Int) ⟨#[]⟩;rw [hW3] at q3 oX;rw [hW3];clear hW3;have hXs : B.base ≤ w2.heap.size := zK4 hbw q2.kt.1;go_wp2_with fail
   refine (zed (B := (B.with G3)) hBts q3.ps hk1 [114, 101, 99] hr).mono ?_;rintro e w4 ⟨rfl, hb4⟩;have q4 := q3.below hb4;have oX := oX.below hb4;clear hb4;go_wp2_with fail
   rcases hM5 : zag ts 1 (s.on 1) with ⟨t, s1⟩ | ⟨c, p⟩ | _
   case un => rw [hM5] at hR; (try simp only [R3.unB] at hR); exact absurd hR.symm hu
   case bad =>
    have cc := ze3 (B := (B.with G3)) hBts q4.ps hk1 1;rw [hM5] at cc hR;try simp only [R3.badB] at hR
    refine cc.mono ?_;rintro e w5 ⟨rfl, k5⟩;have A := zJv (q4.bad (s0 := s) (rfl) k5 rfl);clear k5 cc;go_wp2_with fail
    refine ⟨rfl, ?_⟩;rw [← hR];exact ⟨rfl, A.out⟩
   have cc := ze3 (B := (B.with G3)) hBts q4.ps hk1 1;rw [hM5] at cc hR;try simp only [R3.okB] at hR
   obtain ⟨g5, k5, o5⟩ := zel hT (by decide) (s.on 1) t s1 hk1 hM5;refine cc.mono ?_;rintro e w5 ⟨rfl, a5⟩;have q5 := q4.call a5;have oX := OwnT.call q4 a5 oX;clear a5 cc;have x2 := oX.blk.cell 2;have y2 := oX.blk.frozen 2;simp only [gA, gB, gC] at x2;obtain ⟨q6, oX6⟩ := oX.put2 q5 hbw (bs t.2.1);obtain ⟨w6, hW6⟩ : ∃ W, w5.setCell ⟨w2.heap.size, 2, none⟩ (.string (bs t.2.1)) = W := ⟨_, rfl⟩;rw [hW6] at q6 oX6;have oX : OwnT w6 G3 w2.heap.size ⟨7, ((t0.2.2 : Nat) : Int), bs t.2.1, 0, 0, [], [], []⟩ (.slice none 0 0) (.slice none 0 0) (.slice none 0 0) := oX6;clear oX6;go_wp2_with fail
   clear hW6;clear x2 y2;go_wp2_with fail
   rcases hM7 : mustM ts [61] s1 with ⟨u, s2⟩ | ⟨c, p⟩ | _
   case un => rw [hM7] at hR; (try simp only [R3.unB] at hR); exact absurd hR.symm hu
   case bad =>
    have cc := mustR (B := (B.with G3)) hBts q6.ps k5 [61];rw [hM7] at cc hR;try simp only [R3.badB] at hR
    refine cc.mono ?_;rintro e w7 ⟨rfl, k7⟩;have A := zJv (q6.bad (s0 := s) (o5) k7 rfl);clear k7 cc;go_wp2_with fail
    refine ⟨rfl, ?_⟩;rw [← hR];exact ⟨rfl, A.out⟩
   have cc := mustR (B := (B.with G3)) hBts q6.ps k5 [61];rw [hM7] at cc hR;try simp only [R3.okB] at hR
   obtain ⟨g7, k7, o7⟩ := zap hT s1 u s2 k5 hM7;refine cc.mono ?_;rintro e w7 ⟨rfl, a7⟩;have q7 := q6.call a7;have oX := OwnT.call q6 a7 oX;clear a7 cc;go_wp2_with fail
   have qd9 := q7.below (w2 := w7.drew) (zJx _ _).drew;have oX := oX.below (w2 := w7.drew) (zJx _ _).drew;rcases hM9 : E s2 with ⟨i1, s3⟩ | ⟨c, p⟩ | _
   case un => rw [hM9] at hR; (try simp only [R3.unB] at hR); exact absurd hR.symm hu
   case bad =>
    have cc := hE (B.with G3) w7.drew s2 hBts qd9.ps k7 (by rw [hM9]; simp);rw [hM9] at cc hR;try simp only [R3.badB] at hR
    refine za5 (S := fun W => W.cell? ⟨w2.heap.size, 6, none⟩ = some (.slice none 0 0)) (fun j => j == 5 || j == 6 || j == 7) (by kernel_rfl) (oX.blk.at_ rfl) (fun hHeld => ?_);refine tkG 0 ?_;try simp only [Act.put, sA, sB, sC]
    refine tkG 1 ?_;try simp only [Act.put, sA, sB, sC]
    refine tkG 2 ?_;try simp only [Act.put, sA, sB, sC]
    refine rdG 3 (fun K hK => ?_);go_simp
    refine cc.mono ?_;rintro e w9 ⟨rfl, k9⟩;have A := zJv (qd9.bad (s0 := s) (o7.trans (o5)) k9 rfl);clear k9 cc;go_wp2_with fail
    rw [← hR];exact ⟨rfl, rfl, A.out⟩
   have cc := hE (B.with G3) w7.drew s2 hBts qd9.ps k7 (by rw [hM9]; simp);rw [hM9] at cc hR;try simp only [R3.okB] at hR
   obtain ⟨g9, k9, o9⟩ := pE s2 i1 s3 k7 hM9;refine wp_region_noPanic ?_;refine za5 (S := fun W => W.cell? ⟨w2.heap.size, 6, none⟩ = some (.slice none 0 0)) (fun j => j == 5 || j == 6 || j == 7) (by kernel_rfl) (oX.blk.at_ rfl) (fun hHeld => ?_);refine tkG 0 ?_;try simp only [Act.put, sA, sB, sC]
   refine tkG 1 ?_;try simp only [Act.put, sA, sB, sC]
   refine tkG 2 ?_;try simp only [Act.put, sA, sB, sC]
   refine rdG 3 (fun K hK => ?_);go_simp
   refine cc.mono ?_;rintro e w9 ⟨rfl, a9⟩;have q9 := qd9.call a9;have oX := OwnT.call qd9 a9 oX;clear a9 cc;go_wp2_with fail
   refine hK.out _ _ ?hSla088 (fun hHeld => ?_)
   case hSla088 => exact oX.blk.at_ rfl
   clear hK K;try simp only [Act.put, sA, sB, sC]
   refine rdG 4 (fun K hK => ?_);go_simp
   refine hK.out _ _ ?hSla089 (fun hHeld => ?_)
   case hSla089 => exact (oX.below ((zJx _ w9).alloc (zJw _) _)).blk.at_ rfl
   clear hK K;try simp only [Act.put, sA, sB, sC]
   refine rdL 5 (fun K hK => ?_);refine zcj rfl _ _ rfl (v := (.slice none 0 0)) (by simp [Act.eval]) oX.r6 (by simp [Act.eval]) rfl (by simp) ?_;intro u10 w10 hown hgrow hloc;obtain ⟨G10, q10, oY⟩ := OwnT.app6 q9 hbw oX ((zJx _ w9).alloc (zJw _) _) (news := [((i1 : Nat) : Int)]) (m := 1) rfl hown hgrow hloc;obtain ⟨A10, d10, e10⟩ : ∃ A c, u10 = .slice A (1) c := za8 hown;subst e10;obtain ⟨w11, hW11⟩ : ∃ W, w10.setCell ⟨w2.heap.size, 6, none⟩ (.slice A10 (1) d10) = W := ⟨_, rfl⟩;have z6 : w10.cell? ⟨w2.heap.size, 6, none⟩ = some (.slice none 0 0) := (OwnT.was6 oX ((zJx _ w9).alloc (zJw _) _) hgrow).at_ rfl;have zf6 := (OwnT.was6 oX ((zJx _ w9).alloc (zJw _) _) hgrow).frozen 6;rw [hW11] at q10 oY;clear hown hgrow hloc oX;refine hK.out _ _ ?_;clear hK K;try simp only [Act.put, sA, sB, sC]
   refine rdL 6 (fun K hK => ?_);go_simp
   refine hK.out _ _ ?_;clear hK K;try simp only [Act.put, sA, sB, sC]
   refine rdL 7 (fun K hK => ?_);go_simp
   refine hK.out _ _ ?_;clear hK K;try simp only [Act.put, sA, sB, sC]
   refine zah (by kernel_rfl) ?_ _;refine NoPanic.normal ?_;have oX : OwnT w11 G10 w2.heap.size ⟨7, ((t0.2.2 : Nat) : Int), bs t.2.1, 0, 0, [], [((i1 : Nat) : Int)], []⟩ (.slice none 0 0) (.slice A10 (1) d10) (.slice none 0 0) := oY;clear oY z6 zf6 hW11;go_wp2_with fail
   rcases hM12 : mustM ts [105, 110] s3 with ⟨u, s4⟩ | ⟨c, p⟩ | _
   case un => rw [hM12] at hR; (try simp only [R3.unB] at hR); exact absurd hR.symm hu
   case bad =>
    have cc := mustR (B := (B.with G10)) hBts q10.ps k9 [105, 110];rw [hM12] at cc hR;try simp only [R3.badB] at hR
    refine cc.mono ?_;rintro e w12 ⟨rfl, k12⟩;have A := zJv (q10.bad (s0 := s) (o9.trans (o7.trans (o5))) k12 rfl);clear k12 cc;go_wp2_with fail
    refine ⟨rfl, ?_⟩;rw [← hR];exact ⟨rfl, A.out⟩
   have cc := mustR (B := (B.with G10)) hBts q10.ps k9 [105, 110];rw [hM12] at cc hR;try simp only [R3.okB] at hR
   obtain ⟨g12, k12, o12⟩ := zap hT s3 u s4 k9 hM12;refine cc.mono ?_;rintro e w12 ⟨rfl, a12⟩;have q12 := q10.call a12;have oX := OwnT.call q10 a12 oX;clear a12 cc;go_wp2_with fail
   have qd14 := q12.below (w2 := w12.drew) (zJx _ _).drew;have oX := oX.below (w2 := w12.drew) (zJx _ _).drew;rcases hM14 : E s4 with ⟨i2, s5⟩ | ⟨c, p⟩ | _
   case un => rw [hM14] at hR; (try simp only [R3.unB] at hR); exact absurd hR.symm hu
   case bad =>
    have cc := hE (B.with G10) w12.drew s4 hBts qd14.ps k12 (by rw [hM14]; simp);rw [hM14] at cc hR;try simp only [R3.badB] at hR
    refine za5 (S := fun W => W.cell? ⟨w2.heap.size, 6, none⟩ = some (.slice A10 (1) d10)) (fun j => j == 5 || j == 6 || j == 7) (by kernel_rfl) (oX.blk.at_ rfl) (fun hHeld => ?_);refine tkG 0 ?_;try simp only [Act.put, sA, sB, sC]
    refine tkG 1 ?_;try simp only [Act.put, sA, sB, sC]
    refine tkG 2 ?_;try simp only [Act.put, sA, sB, sC]
    refine rdG 3 (fun K hK => ?_);go_simp
    refine cc.mono ?_;rintro e w14 ⟨rfl, k14⟩;have A := zJv (qd14.bad (s0 := s) (o12.trans (o9.trans (o7.trans (o5)))) k14 rfl);clear k14 cc;go_wp2_with fail
    rw [← hR];exact ⟨rfl, rfl, A.out⟩
   have cc := hE (B.with G10) w12.drew s4 hBts qd14.ps k12 (by rw [hM14]; simp);rw [hM14] at cc hR;try simp only [R3.okB] at hR
   obtain ⟨g14, k14, o14⟩ := pE s4 i2 s5 k12 hM14;refine wp_region_noPanic ?_;refine za5 (S := fun W => W.cell? ⟨w2.heap.size, 6, none⟩ = some (.slice A10 (1) d10)) (fun j => j == 5 || j == 6 || j == 7) (by kernel_rfl) (oX.blk.at_ rfl) (fun hHeld => ?_);refine tkG 0 ?_;try simp only [Act.put, sA, sB, sC]
   refine tkG 1 ?_;try simp only [Act.put, sA, sB, sC]
   refine tkG 2 ?_;try simp only [Act.put, sA, sB, sC]
   refine rdG 3 (fun K hK => ?_);go_simp
   refine cc.mono ?_;rintro e w14 ⟨rfl, a14⟩;have q14 := qd14.call a14;have oX := OwnT.call qd14 a14 oX;clear a14 cc;go_wp2_with fail
   refine hK.out _ _ ?hSlb01320 (fun hHeld => ?_)
   case hSlb01320 => exact oX.blk.at_ rfl
   clear hK K;try simp only [Act.put, sA, sB, sC]
   refine rdG 4 (fun K hK => ?_);go_simp
   refine hK.out _ _ ?hSlb01321 (fun hHeld => ?_)
   case hSlb01321 => exact (oX.below ((zJx _ w14).alloc (zJw _) _)).blk.at_ rfl
   clear hK K;try simp only [Act.put, sA, sB, sC]
   refine rdL 5 (fun K hK => ?_);refine zcj rfl _ _ rfl (v := (.slice A10 (1) d10)) (by simp [Act.eval]) oX.r6 (by simp [Act.eval]) rfl (by simp) ?_;intro u15 w15 hown hgrow hloc;obtain ⟨G15, q15, oY⟩ := OwnT.app6 q14 hbw oX ((zJx _ w14).alloc (zJw _) _) (news := [((i2 : Nat) : Int)]) (m := 1) rfl hown hgrow hloc;obtain ⟨A15, d15, e15⟩ : ∃ A c, u15 = .slice A (2) c := za8 hown;subst e15;obtain ⟨w16, hW16⟩ : ∃ W, w15.setCell ⟨w2.heap.size, 6, none⟩ (.slice A15 (2) d15) = W := ⟨_, rfl⟩;have z6 : w15.cell? ⟨w2.heap.size, 6, none⟩ = some (.slice A10 (1) d10) := (OwnT.was6 oX ((zJx _ w14).alloc (zJw _) _) hgrow).at_ rfl;have zf6 := (OwnT.was6 oX ((zJx _ w14).alloc (zJw _) _) hgrow).frozen 6;rw [hW16] at q15 oY;clear hown hgrow hloc oX;refine hK.out _ _ ?_;clear hK K;try simp only [Act.put, sA, sB, sC]
   refine rdL 6 (fun K hK => ?_);go_simp
   refine hK.out _ _ ?_;clear hK K;try simp only [Act.put, sA, sB, sC]
   refine rdL 7 (fun K hK => ?_);go_simp
   refine hK.out _ _ ?_;clear hK K;try simp only [Act.put, sA, sB, sC]
   refine zah (by kernel_rfl) ?_ _;refine NoPanic.normal ?_;have oX : OwnT w16 G15 w2.heap.size ⟨7, ((t0.2.2 : Nat) : Int), bs t.2.1, 0, 0, [], [((i1 : Nat) : Int), ((i2 : Nat) : Int)], []⟩ (.slice none 0 0) (.slice A15 (2) d15) (.slice none 0 0) := oY;clear oY z6 zf6 hW16;have cc : Calls Tryz.prog 114 #[B.ptr, .agg #[iv (7), iv (((t0.2.2 : Nat) : Int)), .string (bs t.2.1), .int .i64 0, .int .u64 0, (.slice none 0 0), (.slice A15 (2) d15), (.slice none 0 0)]] w16 (Res natV (B.with G15) w16 s5 (newT s5 ⟨7, ((t0.2.2 : Nat) : Int), bs t.2.1, 0, 0, [], [((i1 : Nat) : Int), ((i2 : Nat) : Int)], []⟩)) := OwnT.new q15 oX ⟨by simp, by simp, by simp⟩;have x0 := oX.blk.cell 0;have x1 := oX.blk.cell 1;have x2 := oX.blk.cell 2;have x3 := oX.blk.cell 3;have x4 := oX.blk.cell 4;have x5 := oX.blk.cell 5;have x6 := oX.blk.cell 6;have x7 := oX.blk.cell 7;simp only [gA, gB, gC] at x0 x1 x2 x3 x4 x5 x6 x7;rcases hN : newT s5 ⟨7, ((t0.2.2 : Nat) : Int), bs t.2.1, 0, 0, [], [((i1 : Nat) : Int), ((i2 : Nat) : Int)], []⟩ with ⟨i9, s9⟩ | ⟨c, p⟩ | _
   case un => exact (zda hN).elim
   case bad =>
    rw [hN] at cc hR;have Q18 := zJv q15;clear q15 oX;go_wp2_with fail
    refine cc.mono ?_;rintro e w19 ⟨rfl, k19⟩;have A := zJv (Q18.out.bad (s0 := s) (o14.trans (o12.trans (o9.trans (o7.trans (o5))))) k19 rfl);clear k19 cc;go_wp2_with fail
    rw [← hR];exact ⟨rfl, rfl, A.out⟩
   rw [hN] at cc hR;have Q20 := zJv q15;clear q15 oX;go_wp2_with fail
   refine cc.mono ?_;rintro e w21 ⟨rfl, a21⟩;have Q21 := zJv (Q20.out.call a21).out;clear a21 cc;go_wp2_with fail
   go_ret;rw [← hR];exact ⟨rfl, Q21.out⟩
end Go.Proofs.YtidmeodmkcomlaaGreatDoor
