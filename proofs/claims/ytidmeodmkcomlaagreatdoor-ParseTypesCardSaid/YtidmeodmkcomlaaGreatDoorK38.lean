/- Rules that read what is selected of an atom, and what it is applied to: what they give, or what is wrong. -/
import Derived.Test.YtidmeodmkcomlaaGreatDoorK18
set_option linter.unusedSimpArgs false
set_option linter.unusedVariables false
namespace Go.Proofs.YtidmeodmkcomlaaGreatDoor
open Go Go.Proofs Go.RowKit
set_option maxHeartbeats 8000000
set_option maxRecDepth 100000 in
theorem zxb {ts : List Tk} (hT : TsOk ts) {E T : St → R3 Nat} (hA : Rule3 ts 168 (atomM ts E T)) (pA : Prog3 ts (atomM ts E T)) : Rule3 ts 166 (postM ts E T) := by
 intro B w s hBts h hk hu;generalize hR : postM ts E T s = R at hu ⊢;unfold postM at hR;have HB := zJv hBts;have cA := hA B w s hBts h hk;have pA' := pA s;clear hA pA hBts h;go_enter Tryz.func166, Tryz.ntmps166
 go_wp2_with fail
 rcases hM2 : atomM ts E T s with ⟨i0, s0⟩ | ⟨c, p⟩ | _
 case un => rw [hM2] at hR; (try simp only [R3.unB] at hR); exact absurd hR.symm hu
 case bad =>
  have cc := cA (by rw [hM2]; simp);rw [hM2] at cc hR;try simp only [R3.badB] at hR
  refine cc.mono ?_;rintro e w2 ⟨rfl, k2⟩;have A := zJv k2;clear k2 cc cA pA';go_wp2_with fail
  refine ⟨rfl, ?_⟩;rw [← hR];exact ⟨rfl, A.out⟩
 have cc := cA (by rw [hM2]; simp);rw [hM2] at cc hR;try simp only [R3.okB] at hR
 obtain ⟨g2, k2, o2⟩ := pA' i0 s0 hk hM2;refine cc.mono ?_;rintro e w2 ⟨rfl, a2⟩;have q2 := a2;clear a2 cc cA pA';have Q3 := zJv q2;clear q2 hM2 hk g2;go_wp2_with fail
 go_loopw [3] (fun l wr => ∃ (i1 : Nat) (s1 : St) (f : Nat), l = .int .i64 (i1 : Int) ∧ Hid (Aft B w s1 wr) ∧ Hid (s1.k < ts.length) ∧ Hid (s1.op = s.op) ∧ Hid (postL ts f i1 s1 = R)) (fun _ wr => ts.length - kAt B wr)
 case atStart => exact ⟨i0, s0, _, rfl, Q3, zJv k2, zJv o2, zJv hR⟩
 case round =>
  clear Q3 k2 o2 hR;obtain ⟨i1, s1, f, rfl, HA, HK, HO, HP⟩ := hrel;have hP := HP.out;have hkA := HA.out.ps.kAt
  cases f with
  | zero => exact absurd hP.symm hu
  | succ f =>
   unfold postL at hP;have cS := zee HB.out HA.out.ps HK.out [46];by_cases hs : isA ts s1 [[46]] = true
   · rw [if_pos hs] at hP
     rw [hs] at cS;have hk1 : (s1.on 1).k < ts.length := hT.step HK.out (za0 hs);have hfd := tokF2;have hfe := tokF1;have hpos : posA ts s1 = (tkA ts s1.k).2.2 := rfl;rw [hpos] at hP;go_wp2_with fail
     refine (cS).mono ?_;rintro e w4 ⟨rfl, hb4⟩;have q4 := HA.out.below hb4;clear hb4;have cX := nextR HB.out q4.ps HK.out;generalize hp : tkA ts s1.k = t0 at cX hP;go_wp2_with fail
     refine (cX).mono ?_;rintro e w5 ⟨rfl, a5⟩;have q5 := q4.trans a5;clear a5;clear cX cS hp hs;go_wp2_with fail
     rcases hM6 : zag ts 1 (s1.on 1) with ⟨t, s2⟩ | ⟨c, p⟩ | _
     case un => rw [hM6] at hP; (try simp only [R3.unB] at hP); exact absurd hP.symm hu
     case bad =>
      have cc := ze3 HB.out q5.ps hk1 1;rw [hM6] at cc hP;try simp only [R3.badB] at hP
      refine cc.mono ?_;rintro e w6 ⟨rfl, k6⟩;have A := zJv (q5.bad (s0 := s) (HO.out) k6 rfl);clear k6 cc;go_wp2_with fail
      refine ⟨rfl, ?_⟩;rw [← hP];exact ⟨rfl, A.out⟩
     have cc := ze3 HB.out q5.ps hk1 1;rw [hM6] at cc hP;try simp only [R3.okB] at hP
     obtain ⟨g6, k6, o6⟩ := zel hT (by decide) (s1.on 1) t s2 hk1 hM6;refine cc.mono ?_;rintro e w6 ⟨rfl, a6⟩;have q6 := q5.trans a6;clear a6 cc;go_wp2_with fail
     rcases hM7 : newT s2 ⟨13, (t0.2.2 : Nat), bs t.2.1, 0, 0, [], [(i1 : Int)], []⟩ with ⟨i2, s3⟩ | ⟨c, p⟩ | _
     case un => rw [hM7] at hP; (try simp only [R3.unB] at hP); exact absurd hP.symm hu
     case bad =>
      have cc := zlt q6.ps 13 (t0.2.2 : Int) (i1 : Int) (bs t.2.1);rw [hM7] at cc hP;try simp only [R3.badB] at hP
      refine cc.mono ?_;rintro e w7 ⟨rfl, k7⟩;have A := zJv (q6.bad (s0 := s) (o6.trans (HO.out)) k7 rfl);clear k7 cc;go_wp2_with fail
      refine ⟨rfl, ?_⟩;rw [← hP];exact ⟨rfl, A.out⟩
     have cc := zlt q6.ps 13 (t0.2.2 : Int) (i1 : Int) (bs t.2.1);rw [hM7] at cc hP;try simp only [R3.okB] at hP
     obtain ⟨g7, k7, o7⟩ := zub hM7 k6;refine cc.mono ?_;rintro e w7 ⟨rfl, a7⟩;have q7 := q6.trans a7;clear a7 cc;have Q8 := zJv q7;clear q7;go_wp2_with fail
     exact ⟨⟨_, _, f, rfl, Q8, zJv k7, zJv (o7.trans (o6.trans (HO.out))), zJv hP⟩, by
      rw [Q8.out.ps.kAt, hkA];have e0 : (s1.on 1).k = s1.k + 1 := rfl;have e1 := HK.out
      omega⟩
   · rw [if_neg hs] at hP
     have hs2 : isA ts s1 [[46]] = false := by simpa using hs
     rw [hs2] at cS;go_wp2_with fail
     refine (cS).mono ?_;rintro e w9 ⟨rfl, hb9⟩;have q9 := HA.out.below hb9;clear hb9;clear cS hs hs2;have Q10 := zJv q9;clear q9;go_wp2_with fail
     go_ret;rw [← hP];exact ⟨rfl, Q10.out⟩
set_option maxRecDepth 100000 in
theorem zz9 {ts : List Tk} (hT : TsOk ts) {E T : St → R3 Nat} (hA : Rule3 ts 166 (postM ts E T)) (pA : Prog3 ts (postM ts E T)) : Rule3 ts 163 (unitM ts E T) := by
 intro B w s hBts h hk hu;generalize hR : unitM ts E T s = R at hu ⊢;unfold unitM at hR;have cN := nowR hBts h hk;have hfd := tokF0;have hbw := h.bw;have H := zJv h;by_cases h3 : (tkA ts s.k).1 = 3
 · rw [if_pos h3] at hR
   have hne : (((tkA ts s.k).1 : Int) != 3) = false := by simp; omega
   have hk1 : (s.on 1).k < ts.length := hT.step hk (by omega);have hpos : posA ts s = (tkA ts s.k).2.2 := rfl;have hfe := tokF1;have hff := tokF2;rw [hpos] at hR;have cX := fun (W : World) (p : PS B W s) => nextR hBts p hk;generalize tkA ts s.k = t at *;clear h3 h;go_enter Tryz.func163, Tryz.ntmps163
   go_wp2_with fail
   refine (cN).mono ?_;rintro e w2 ⟨rfl, hb2⟩;have q2 := H.out.aft hb2;clear hb2;clear cN;go_wp2_with fail
   refine (cX w2 q2.ps).mono ?_;rintro e w3 ⟨rfl, a3⟩;have q3 := q2.trans a3;clear a3;clear cX;obtain ⟨w4, hW4⟩ : ∃ W, w3.alloc (.cells (tokL t).toArray 77) = W := ⟨_, rfl⟩;have hb4 : Below w3.heap.size w3 w4 := by rw [← hW4]; exact (zJx _ _).alloc (zJw _) _
   have hX : Blk w4 w3.heap.size 77 (tokL t).toArray := by rw [← hW4]; exact Blk.new w3 77 _
   obtain ⟨G4, m4, q4⟩ := q3.own1 hb4 w3.heap.size (zJw _) hX.lt;have d1 := hX.cell 1;have d2 := hX.cell 2;simp only [gA, gB, gC] at d1 d2;go_wp2_with fail
   clear hW4;have qd := q4.below (w2 := w4.drew) (zJx _ _).drew;have hX := hX.below (w' := w4.drew) (zJx _ _).drew hX.lt;rcases hM : postM ts E T (s.on 1) with ⟨i1, s1⟩ | ⟨c, p⟩ | _
   case un => rw [hM] at hR; (try simp only [R3.unB] at hR); exact absurd hR.symm hu
   case bad =>
    have cc := hA (B.with G4) w4.drew (s.on 1) hBts qd.ps hk1 (by rw [hM]; simp);rw [hM] at cc hR;try simp only [R3.badB] at hR
    refine za5 (S := fun W => W.cell? ⟨w3.heap.size, 1, none⟩ = some (.string (bs t.2.1)) ∧ W.cell? ⟨w3.heap.size, 2, none⟩ = some (.int .i64 (t.2.2 : Int))) (fun j => false) (by kernel_rfl) (⟨hX.at_ rfl, hX.at_ rfl⟩) (fun hHeld => ?_);refine tkG 0 ?_;try simp only [Act.put, sA, sB, sC]
    refine tkG 1 ?_;try simp only [Act.put, sA, sB, sC]
    refine tkG 2 ?_;try simp only [Act.put, sA, sB, sC]
    refine tkG 3 ?_;try simp only [Act.put, sA, sB, sC]
    refine tkG 4 ?_;try simp only [Act.put, sA, sB, sC]
    refine tkG 5 ?_;try simp only [Act.put, sA, sB, sC]
    refine rdG 6 (fun K hK => ?_);go_simp
    refine cc.mono ?_;rintro e w9 ⟨rfl, k9⟩;have A := zJv (qd.bad (s0 := s) (rfl) k9 rfl);clear k9 cc;go_wp2_with fail
    rw [← hR];exact ⟨rfl, rfl, A.out⟩
   have cc := hA (B.with G4) w4.drew (s.on 1) hBts qd.ps hk1 (by rw [hM]; simp);rw [hM] at cc hR;try simp only [R3.okB] at hR
   obtain ⟨g9, k9, o9⟩ := pA (s.on 1) i1 s1 hk1 hM;rcases hN : newT s1 ⟨11, (t.2.2 : Nat), bs t.2.1, 0, 0, [], [(i1 : Int)], []⟩ with ⟨i2, s2⟩ | ⟨c, p⟩ | _
   case un => exact (zda hN).elim
   case bad =>
    rw [hN] at hR;refine za5 (S := fun W => W.cell? ⟨w3.heap.size, 1, none⟩ = some (.string (bs t.2.1)) ∧ W.cell? ⟨w3.heap.size, 2, none⟩ = some (.int .i64 (t.2.2 : Int))) (fun j => false) (by kernel_rfl) (⟨hX.at_ rfl, hX.at_ rfl⟩) (fun hHeld => ?_);refine tkG 0 ?_;try simp only [Act.put, sA, sB, sC]
    refine tkG 1 ?_;try simp only [Act.put, sA, sB, sC]
    refine tkG 2 ?_;try simp only [Act.put, sA, sB, sC]
    refine tkG 3 ?_;try simp only [Act.put, sA, sB, sC]
    refine tkG 4 ?_;try simp only [Act.put, sA, sB, sC]
    refine tkG 5 ?_;try simp only [Act.put, sA, sB, sC]
    refine rdG 6 (fun K hK => ?_);go_simp
    refine cc.mono ?_;rintro e w9 ⟨rfl, a9⟩;have q9 := qd.call a9;have hX := qd.blk a9 m4 hX;clear a9 cc;go_wp2_with fail
    refine hK.out _ _ ?hSun14 (fun hHeld => ?_)
    case hSun14 => exact ⟨hX.at_ rfl, hX.at_ rfl⟩
    clear hK K;try simp only [Act.put, sA, sB, sC]
    refine rdG 7 (fun K hK => ?_);go_simp
    refine hK.out _ _ ?hSun15 (fun hHeld => ?_)
    case hSun15 => exact ⟨(hX.below ((zJx _ w9).alloc (zJw _) _) hX.lt).at_ rfl, (hX.below ((zJx _ w9).alloc (zJw _) _) hX.lt).at_ rfl⟩
    clear hK K;try simp only [Act.put, sA, sB, sC]
    refine tkG 8 ?_;try simp only [Act.put, sA, sB, sC]
    refine rdG 9 (fun K hK => ?_);have cN := zlt q9.ps 11 (t.2.2 : Int) (i1 : Int) (bs t.2.1);rw [hN] at cN;go_simp
    go_at_call 114
    refine cN.mono ?_;rintro e w10 ⟨rfl, k10⟩;have A := zJv (q9.bad (s0 := s) (o9) k10 rfl);clear k10 cN;go_wp2_with fail
    rw [← hR];exact ⟨rfl, rfl, A.out⟩
   rw [hN] at hR;refine wp_region_noPanic ?_;refine za5 (S := fun W => W.cell? ⟨w3.heap.size, 1, none⟩ = some (.string (bs t.2.1)) ∧ W.cell? ⟨w3.heap.size, 2, none⟩ = some (.int .i64 (t.2.2 : Int))) (fun j => false) (by kernel_rfl) (⟨hX.at_ rfl, hX.at_ rfl⟩) (fun hHeld => ?_);refine tkG 0 ?_;try simp only [Act.put, sA, sB, sC]
   refine tkG 1 ?_;try simp only [Act.put, sA, sB, sC]
   refine tkG 2 ?_;try simp only [Act.put, sA, sB, sC]
   refine tkG 3 ?_;try simp only [Act.put, sA, sB, sC]
   refine tkG 4 ?_;try simp only [Act.put, sA, sB, sC]
   refine tkG 5 ?_;try simp only [Act.put, sA, sB, sC]
   refine rdG 6 (fun K hK => ?_);go_simp
   refine cc.mono ?_;rintro e w9 ⟨rfl, a9⟩;have q9 := qd.call a9;have hX := qd.blk a9 m4 hX;clear a9 cc;go_wp2_with fail
   refine hK.out _ _ ?hSun24 (fun hHeld => ?_)
   case hSun24 => exact ⟨hX.at_ rfl, hX.at_ rfl⟩
   clear hK K;try simp only [Act.put, sA, sB, sC]
   refine rdG 7 (fun K hK => ?_);go_simp
   refine hK.out _ _ ?hSun25 (fun hHeld => ?_)
   case hSun25 => exact ⟨(hX.below ((zJx _ w9).alloc (zJw _) _) hX.lt).at_ rfl, (hX.below ((zJx _ w9).alloc (zJw _) _) hX.lt).at_ rfl⟩
   clear hK K;try simp only [Act.put, sA, sB, sC]
   refine tkG 8 ?_;try simp only [Act.put, sA, sB, sC]
   refine rdG 9 (fun K hK => ?_);have cN := zlt q9.ps 11 (t.2.2 : Int) (i1 : Int) (bs t.2.1);rw [hN] at cN;go_simp
   go_at_call 114
   refine cN.mono ?_;rintro e w10 ⟨rfl, a10⟩;have q10 := q9.call a10;have hX := q9.blk a10 m4 hX;clear a10 cN;go_wp2_with fail
   refine hK.out _ _ ?hSun27 (fun hHeld => ?_)
   case hSun27 => exact ⟨hX.at_ rfl, hX.at_ rfl⟩
   clear hK K;try simp only [Act.put, sA, sB, sC]
   refine tkG 10 ?_;try simp only [Act.put, sA, sB, sC]
   refine zah (by kernel_rfl) ?_ _;refine NoPanic.normal ?_;have Q5 := zJv q10;clear q10;go_wp2_with fail
   go_ret;rw [← hR];exact ⟨rfl, Q5.out.out⟩
 · rw [if_neg h3] at hR
   have hne : (((tkA ts s.k).1 : Int) != 3) = true := by simp; omega
   have cP := fun (W : World) (p : PS B W s) (n : postM ts E T s ≠ .un) => hA B W s hBts p hk n;have pP := pA s;generalize tkA ts s.k = t at *;clear h3 h hA pA;go_enter Tryz.func163, Tryz.ntmps163
   go_wp2_with fail
   refine (cN).mono ?_;rintro e w21 ⟨rfl, hb21⟩;have q21 := H.out.aft hb21;clear hb21;clear cN;go_wp2_with fail
   rcases hM22 : postM ts E T s with ⟨i, s1⟩ | ⟨c, p⟩ | _
   case un => rw [hM22] at hR; (try simp only [R3.unB] at hR); exact absurd hR.symm hu
   case bad =>
    have cc := cP w21 q21.ps (by rw [hM22]; simp);rw [hM22] at cc hR;try simp only [R3.badB] at hR
    refine cc.mono ?_;rintro e w22 ⟨rfl, k22⟩;have A := zJv (q21.bad (s0 := s) (rfl) k22 rfl);clear k22 cc cP pP;go_wp2_with fail
    refine ⟨rfl, ?_⟩;rw [← hR];exact ⟨rfl, A.out⟩
   have cc := cP w21 q21.ps (by rw [hM22]; simp);rw [hM22] at cc hR;try simp only [R3.okB] at hR
   obtain ⟨g22, k22, o22⟩ := pP i s1 hk hM22;refine cc.mono ?_;rintro e w22 ⟨rfl, a22⟩;have q22 := q21.trans a22;clear a22 cc cP pP;have Q23 := zJv q22;clear q22;go_wp2_with fail
   go_ret;rw [← hR];exact ⟨rfl, Q23.out⟩
theorem zm1 {ts : List Tk} {B : PE} {w : World} {s : St} (hBts : B.ts = ts) (h : PS B w s) (hk : s.k < ts.length) : Calls Tryz.prog 164 #[B.ptr] w fun e w' => e = .returned (.bool (unitB (tkA ts s.k))) ∧ Below w.heap.size w w' := by
 have cN := nowR hBts h hk;have cS : ∀ W, PS B W s → Calls Tryz.prog 47 #[B.ptr, .slice (some ⟨W.heap.size, 0, none⟩) 4 4] (W.alloc (.cells #[.string ⟨#[116, 114, 117, 101]⟩, .string ⟨#[102, 97, 108, 115, 101]⟩, .string ⟨#[40]⟩, .string ⟨#[123]⟩] 9)) fun e w' => e = .returned (.bool (za2 (tkA ts s.k) [[116, 114, 117, 101], [102, 97, 108, 115, 101], [40], [123]])) ∧ Below W.heap.size W w' := fun W p => zne hBts p hk [[116, 114, 117, 101], [102, 97, 108, 115, 101], [40], [123]] 4 rfl (by decide) _ rfl;have hfd := tokF0;have H := zJv h;unfold unitB;generalize tkA ts s.k = t at *;generalize za2 t [[116, 114, 117, 101], [102, 97, 108, 115, 101], [40], [123]] = st at *;clear h;have e3 : ((t.1 : Int) == 3) = (t.1 == 3) := by rw [zJz]; simp; omega
 have e1 : ((t.1 : Int) == 1) = (t.1 == 1) := by rw [zJz]; simp; omega
 have e4 : ((t.1 : Int) == 4) = (t.1 == 4) := by rw [zJz]; simp; omega
 have e5 : ((t.1 : Int) == 5) = (t.1 == 5) := by rw [zJz]; simp; omega
 have e6 : ((t.1 : Int) == 6) = (t.1 == 6) := by rw [zJz]; simp; omega
 generalize (t.1 == 3) = b3 at *;generalize (t.1 == 1) = b1 at *;generalize (t.1 == 4) = b4 at *;generalize (t.1 == 5) = b5 at *;generalize (t.1 == 6) = b6 at *;cases b3
 all_goals cases b1
 all_goals cases b4
 all_goals cases b5
 all_goals cases b6
 all_goals
  go_enter Tryz.func164, Tryz.ntmps164
  go_wp2_with fail
  with_reducible refine cN.mono ?_
  rintro e w1 ⟨rfl, hb1⟩;go_wp2_with fail
  first
  | (go_ret; exact ⟨rfl, hb1⟩)
  | ((with_reducible refine (cS w1 (H.out.below hb1)).mono ?_); rintro e w2 ⟨rfl, hb2⟩; (go_wp2_with fail); go_ret; exact ⟨rfl, hb1.trans (hb2.mono hb1.size)⟩)
set_option maxRecDepth 100000 in
theorem zwq {ts : List Tk} (hT : TsOk ts) {E T : St → R3 Nat} (hA : Rule3 ts 163 (unitM ts E T)) (pA : Prog3 ts (unitM ts E T)) : Rule3 ts 155 (zb0 ts E T) := by
 intro B w s hBts h hk hu;generalize hR : zb0 ts E T s = R at hu ⊢;unfold zb0 at hR;have HB := zJv hBts;have cA := hA B w s hBts h hk;have HU := zJv hA;have PU := zJv pA;clear hA pA hBts h;go_enter Tryz.func155, Tryz.ntmps155
 go_wp2_with fail
 rcases hM2 : unitM ts E T s with ⟨i0, s0⟩ | ⟨c, p⟩ | _
 case un => rw [hM2] at hR; (try simp only [R3.unB] at hR); exact absurd hR.symm hu
 case bad =>
  have cc := cA (by rw [hM2]; simp);rw [hM2] at cc hR;try simp only [R3.badB] at hR
  refine cc.mono ?_;rintro e w2 ⟨rfl, k2⟩;have A := zJv k2;clear k2 cc cA;go_wp2_with fail
  refine ⟨rfl, ?_⟩;rw [← hR];exact ⟨rfl, A.out⟩
 have cc := cA (by rw [hM2]; simp);rw [hM2] at cc hR;try simp only [R3.okB] at hR
 obtain ⟨g2, k2, o2⟩ := PU.out s i0 s0 hk hM2;refine cc.mono ?_;rintro e w2 ⟨rfl, a2⟩;have q2 := a2;clear a2 cc cA;have Q3 := zJv q2;clear q2 hM2 hk g2;go_wp2_with fail
 go_loopw [3] (fun l wr => ∃ (i1 : Nat) (s1 : St) (f : Nat), l = .int .i64 (i1 : Int) ∧ Hid (Aft B w s1 wr) ∧ Hid (s1.k < ts.length) ∧ Hid (s1.op = s.op) ∧ Hid (zat ts E T f i1 s1 = R)) (fun _ wr => ts.length - kAt B wr)
 case atStart => exact ⟨i0, s0, _, rfl, Q3, zJv k2, zJv o2, zJv hR⟩
 case round =>
  clear Q3 k2 o2 hR;obtain ⟨i1, s1, f, rfl, HA, HK, HO, HP⟩ := hrel;have hP := HP.out;have hkA := HA.out.ps.kAt
  cases f with
  | zero => exact absurd hP.symm hu
  | succ f =>
   unfold zat at hP;have cS := zm1 HB.out HA.out.ps HK.out;by_cases hs : unitB (tkA ts s1.k) = true
   · rw [if_pos hs] at hP
     rw [hs] at cS;have hfd := tokF2;have hpos : posA ts s1 = (tkA ts s1.k).2.2 := rfl;rw [hpos] at hP;have cN := fun (W : World) (p : PS B W s1) => nowR HB.out p HK.out;generalize tkA ts s1.k = t at *;clear hs;go_wp2_with fail
     refine (cS).mono ?_;rintro e w4 ⟨rfl, hb4⟩;have q4 := HA.out.below hb4;clear hb4;go_wp2_with fail
     refine (cN w4 q4.ps).mono ?_;rintro e w5 ⟨rfl, hb5⟩;have q5 := q4.below hb5;clear hb5;clear cN cS;go_wp2_with fail
     rcases hM6 : unitM ts E T s1 with ⟨i2, s2⟩ | ⟨c, p⟩ | _
     case un => rw [hM6] at hP; (try simp only [R3.unB] at hP); exact absurd hP.symm hu
     case bad =>
      have cc := HU.out B w5 s1 HB.out q5.ps HK.out (by rw [hM6]; simp);rw [hM6] at cc hP;try simp only [R3.badB] at hP
      refine cc.mono ?_;rintro e w6 ⟨rfl, k6⟩;have A := zJv (q5.bad (s0 := s) (HO.out) k6 rfl);clear k6 cc;go_wp2_with fail
      refine ⟨rfl, ?_⟩;rw [← hP];exact ⟨rfl, A.out⟩
     have cc := HU.out B w5 s1 HB.out q5.ps HK.out (by rw [hM6]; simp);rw [hM6] at cc hP;try simp only [R3.okB] at hP
     obtain ⟨g6, k6, o6⟩ := PU.out s1 i2 s2 HK.out hM6;refine cc.mono ?_;rintro e w6 ⟨rfl, a6⟩;have q6 := q5.trans a6;clear a6 cc;have hbs : bs [] = ⟨#[]⟩ := rfl;rw [hbs] at hP;go_wp2_with fail
     rcases hM7 : newT s2 ⟨6, (t.2.2 : Nat), ⟨#[]⟩, 0, 0, [], [(i1 : Int), (i2 : Int)], []⟩ with ⟨i3, s3⟩ | ⟨c, p⟩ | _
     case un => rw [hM7] at hP; (try simp only [R3.unB] at hP); exact absurd hP.symm hu
     case bad =>
      have cc := zlr q6.ps 6 (t.2.2 : Int) (i1 : Int) (i2 : Int) ⟨#[]⟩;rw [hM7] at cc hP;try simp only [R3.badB] at hP
      refine cc.mono ?_;rintro e w7 ⟨rfl, k7⟩;have A := zJv (q6.bad (s0 := s) (o6.trans (HO.out)) k7 rfl);clear k7 cc;go_wp2_with fail
      refine ⟨rfl, ?_⟩;rw [← hP];exact ⟨rfl, A.out⟩
     have cc := zlr q6.ps 6 (t.2.2 : Int) (i1 : Int) (i2 : Int) ⟨#[]⟩;rw [hM7] at cc hP;try simp only [R3.okB] at hP
     obtain ⟨g7, k7, o7⟩ := zub hM7 k6;refine cc.mono ?_;rintro e w7 ⟨rfl, a7⟩;have q7 := q6.trans a7;clear a7 cc;have Q8 := zJv q7;clear q7;go_wp2_with fail
     exact ⟨⟨_, _, f, rfl, Q8, zJv k7, zJv (o7.trans (o6.trans (HO.out))), zJv hP⟩, by
      rw [Q8.out.ps.kAt, hkA];have e1 := HK.out
      omega⟩
   · rw [if_neg hs] at hP
     have hs2 : unitB (tkA ts s1.k) = false := by simpa using hs
     rw [hs2] at cS;go_wp2_with fail
     refine (cS).mono ?_;rintro e w9 ⟨rfl, hb9⟩;have q9 := HA.out.below hb9;clear hb9;clear cS hs hs2;have Q10 := zJv q9;clear q9;go_wp2_with fail
     go_ret;rw [← hP];exact ⟨rfl, Q10.out⟩
end Go.Proofs.YtidmeodmkcomlaaGreatDoor
