/- An item of a variant: up to where its type stands, or to the variant's end. -/
import Derived.Test.YtidmeodmkcomlaaGreatDoorK43
set_option linter.unusedSimpArgs false
set_option linter.unusedVariables false
namespace Go.Proofs.YtidmeodmkcomlaaGreatDoor
open Go Go.Proofs Go.RowKit
set_option maxHeartbeats 8000000
def ResI (B : PE) (w : World) (s0 : St) (b n c : Nat) (pre : List El) (r : R3 (Vr × Option Bool)) (e : Ending) (w' : World) : Prop :=
 match r with
 | .ok y s' => e = .returned (.bool y.2.isNone) ∧ ∃ (G : Nat → Prop) (p : Ptr2), AftO B G w s' w' ∧ Stk w' G (.slice (some ⟨b, 0, none⟩) n c) (pre ++ [(vrD y.1 (y.2.getD false), p)])
 | .bad c p => e = zbi c p ∧ ∃ s1 : St, s1.op = s0.op ∧ Aft B w s1 w'
 | .un => True
theorem ztv {ts : List Tk} {x : Vr} {s : St} (h : itemM ts x s = .un) : False := by
 unfold itemM at h;split at h
 · cases h
 have hb : ∀ {α β : Type} {p : R3 α} {f : α → St → R3 β}, p.bind f = .un → p = .un ∨ ∃ i s1, p = .ok i s1 ∧ f i s1 = .un := fun {α β p f} h => by
  cases p with
  | ok i s1 => exact .inr ⟨i, s1, rfl, h⟩
  | bad e p => cases h
  | un => exact .inl rfl
 rcases hb h with h | ⟨i, s1, _, h⟩
 · split at h
   · cases h
   · exact zu4 h
 · split at h
   · rcases hb h with h | ⟨i, s2, _, h⟩
     · exact zu4 h
     · cases h
   · rcases hb h with h | ⟨i, s2, _, h⟩
     · exact zqi h
     · cases h
theorem Stk.frozen {w : World} {G : Nat → Prop} {els : List El} {b n c : Nat} (o : Stk w G (.slice (some ⟨b, 0, none⟩) n c) els) (hn : n = els.length) (j : Nat) : w.frozen? ⟨b, j, none⟩ = false := by
 subst hn;exact zfd o.row j
theorem zjt {w2 w3 w4 : World} {G : Nat → Prop} {els : List El} {b n c : Nat} {v : Value} {e : TypeId} {m : Nat} {xs : List Value} (o : Stk w2 G (.slice (some ⟨b, 0, none⟩) n c) els) (hn : n = els.length) (hb : Below w2.heap.size w2 w3) (hg : w3.grownBy w4 v.ownBlock) (hr : w2.ownsRow 0 e 1 v m xs) (he : e ≠ 40) : w4.ownsRow 0 40 6 (.slice (some ⟨b, 0, none⟩) els.length c) els.length (zar els) := by
 subst hn;exact (zaj o.row hb).kept hg (zbx (zaj o.row hb) (zaj hr hb) he.symm)
set_option maxRecDepth 100000 in
theorem zxh {ts : List Tk} (hT : TsOk ts) {B : PE} {G : Nat → Prop} {w w1 : World} {s : St} {b n c : Nat} {pre : List El} {pt : Ptr2} {y : Vr} (hBts : B.ts = ts) (hbw : B.base ≤ w.heap.size) (hA : AftO B G w s w1) (hS : Stk w1 G (.slice (some ⟨b, 0, none⟩) n c) (pre ++ [(vrD y false, pt)])) (hn : n = (pre ++ [(vrD y false, pt)]).length) (hk : s.k < ts.length) (hy : y.1 ≤ 4294967296) (hl : y.2.1.length ≤ 1000000) :
 Calls Tryz.prog 119 #[B.ptr, .pointer (some ⟨b, pre.length * 6, none⟩)] w1 (ResI B w s b n c pre (itemM ts y s)) := by
 generalize hR : itemM ts y s = R;have hu : R ≠ .un := fun e => ztv (hR.trans e);unfold itemM at hR;have hln : (bss y.2.1).length ≤ 1000000 := by simpa [bss] using hl
 obtain ⟨q0, hq0⟩ : ∃ h, h = hA := ⟨hA, rfl⟩;have oS := hS;clear hq0 hS hA;by_cases hz : isA ts s [[93]] = true
 · rw [if_pos hz] at hR
   have cT := zei (B := B.with G) hBts q0.ps hk [93] hz;clear hz;go_enter Tryz.func119, Tryz.ntmps119
   go_wp2_with fail
   refine (cT).mono ?_;rintro e w2 ⟨rfl, a2⟩;have q2 := q0.call a2;have oS := oS.call q0 a2;clear a2;clear cT;have Q3 := zJv q2;have QS := zJv oS;clear q2 oS;go_wp2_with fail
   go_ret;rw [← hR];exact ⟨rfl, _, _, Q3.out, QS.out⟩
 rw [if_neg hz] at hR;have hz2 : isA ts s [[93]] = false := by simpa using hz
 have cT := zed (B := B.with G) hBts q0.ps hk [93] hz2;clear hz hz2;by_cases h0 : y.2.2.length = 0
 · rw [if_pos h0] at hR
   simp only [R3.okB] at hR;have hd : decide ((0 : Int) < (y.2.2.length : Int)) = false := by rw [zKs]; omega
   go_enter Tryz.func119, Tryz.ntmps119
   go_wp2_with fail
   refine (cT).mono ?_;rintro e w2 ⟨rfl, hb2⟩;have q2 := q0.below hb2;have oS := oS.below hb2;clear hb2;clear cT;have x4 := oS.cell (pre := pre) (post := []) hn (j := 4) (by decide) rfl;have y4 := oS.frozen hn (pre.length * 6 + 4);by_cases hv : isA ts s [[46, 46]] = true
   · rw [if_pos hv] at hR
     have hkv : (s.on 1).k < ts.length := hT.step hk (za0 hv);go_wp2_with fail
     refine (zei (B := (B.with G)) hBts q2.ps hk [46, 46] hv).mono ?_;rintro e w3 ⟨rfl, a3⟩;have q3 := q2.call a3;have oS := oS.call q2 a3;clear a3;have x5 := oS.cell (pre := pre) (post := []) hn (j := 5) (by decide) rfl;have y5 := oS.frozen hn (pre.length * 6 + 5);obtain ⟨q4, oS4⟩ := oS.open_ (pre := pre) (post := []) q3 hbw hn true;obtain ⟨w4, hW4⟩ : ∃ W, w3.setCell ⟨b, pre.length * 6 + 5, none⟩ (.bool true) = W := ⟨_, rfl⟩;rw [hW4] at q4 oS4;clear oS;have oS := oS4;clear oS4;go_wp2_with fail
     rcases hM5 : mustM ts [93] (s.on 1) with ⟨u, s9⟩ | ⟨c, p⟩ | _
     case un => rw [hM5] at hR; (try simp only [R3.unB] at hR); exact absurd hR.symm hu
     case bad =>
      have cc := mustR (B := (B.with G)) hBts q4.ps hkv [93];rw [hM5] at cc hR;try simp only [R3.badB] at hR
      refine cc.mono ?_;rintro e w5 ⟨rfl, k5⟩;have A := zJv (q4.bad (s0 := s) (rfl) k5 rfl);clear k5 cc;go_wp2_with fail
      refine ⟨rfl, ?_⟩;rw [← hR];exact ⟨rfl, A.out⟩
     have cc := mustR (B := (B.with G)) hBts q4.ps hkv [93];rw [hM5] at cc hR;try simp only [R3.okB] at hR
     obtain ⟨g5, k5, o5⟩ := zap hT (s.on 1) u s9 hkv hM5;refine cc.mono ?_;rintro e w5 ⟨rfl, a5⟩;have q5 := q4.call a5;have oS := oS.call q4 a5;clear a5 cc;have Q6 := zJv q5;have QS := zJv oS;clear q5 oS;go_wp2_with fail
     go_ret;rw [← hR];exact ⟨rfl, _, _, Q6.out, QS.out⟩
   · rw [if_neg hv] at hR
     have hv2 : isA ts s [[46, 46]] = false := by simpa using hv
     go_wp2_with fail
     refine (zed (B := (B.with G)) hBts q2.ps hk [46, 46] hv2).mono ?_;rintro e w3 ⟨rfl, hb3⟩;have q3 := q2.below hb3;have oS := oS.below hb3;clear hb3;go_wp2_with fail
     have qd5 := q3.below (w2 := w3.drew) (zJx _ _).drew;have oS := oS.below (w2 := w3.drew) (zJx _ _).drew;rcases hM5 : ownM ts y.1 3 s with ⟨x, s9⟩ | ⟨c, p⟩ | _
     case un => exact (zqi hM5).elim
     case bad =>
      have cc := ownR (B := (B.with G)) hT hBts qd5.ps hk y.1 3 hy;rw [hM5] at cc hR;try simp only [R3.badB] at hR
      refine za5 (S := fun W => W.cell? ⟨b, pre.length * 6 + 3, none⟩ = some (.slice pt.a3 (bss y.2.1).length pt.c3) ∧ W.cell? ⟨b, pre.length * 6 + 1, none⟩ = some (.int .i64 (y.1 : Int))) (fun j => j == 15) (by kernel_rfl) (⟨oS.cell (pre := pre) (post := []) hn (j := 3) (by decide) rfl, oS.cell (pre := pre) (post := []) hn (j := 1) (by decide) rfl⟩) (fun hHeld => ?_);refine tkG 0 ?_;try simp only [Act.put, sA, sB, sC]
      refine tkG 1 ?_;try simp only [Act.put, sA, sB, sC]
      refine tkG 2 ?_;try simp only [Act.put, sA, sB, sC]
      refine tkG 3 ?_;try simp only [Act.put, sA, sB, sC]
      refine tkG 4 ?_;try simp only [Act.put, sA, sB, sC]
      refine tkG 5 ?_;try simp only [Act.put, sA, sB, sC]
      refine tkG 6 ?_;try simp only [Act.put, sA, sB, sC]
      refine tkG 7 ?_;try simp only [Act.put, sA, sB, sC]
      refine tkG 8 ?_;try simp only [Act.put, sA, sB, sC]
      refine tkG 9 ?_;try simp only [Act.put, sA, sB, sC]
      refine rdG 10 (fun K hK => ?_);go_simp
      refine cc.mono ?_;rintro e w5 ⟨rfl, k5⟩;have A := zJv (qd5.bad (s0 := s) (rfl) k5 rfl);clear k5 cc;go_wp2_with fail
      rw [← hR];exact ⟨rfl, rfl, A.out⟩
     have cc := ownR (B := (B.with G)) hT hBts qd5.ps hk y.1 3 hy;rw [hM5] at cc hR;try simp only [R3.okB] at hR
     refine wp_region_noPanic ?_;refine za5 (S := fun W => W.cell? ⟨b, pre.length * 6 + 3, none⟩ = some (.slice pt.a3 (bss y.2.1).length pt.c3) ∧ W.cell? ⟨b, pre.length * 6 + 1, none⟩ = some (.int .i64 (y.1 : Int))) (fun j => j == 15) (by kernel_rfl) (⟨oS.cell (pre := pre) (post := []) hn (j := 3) (by decide) rfl, oS.cell (pre := pre) (post := []) hn (j := 1) (by decide) rfl⟩) (fun hHeld => ?_);refine tkG 0 ?_;try simp only [Act.put, sA, sB, sC]
     refine tkG 1 ?_;try simp only [Act.put, sA, sB, sC]
     refine tkG 2 ?_;try simp only [Act.put, sA, sB, sC]
     refine tkG 3 ?_;try simp only [Act.put, sA, sB, sC]
     refine tkG 4 ?_;try simp only [Act.put, sA, sB, sC]
     refine tkG 5 ?_;try simp only [Act.put, sA, sB, sC]
     refine tkG 6 ?_;try simp only [Act.put, sA, sB, sC]
     refine tkG 7 ?_;try simp only [Act.put, sA, sB, sC]
     refine tkG 8 ?_;try simp only [Act.put, sA, sB, sC]
     refine tkG 9 ?_;try simp only [Act.put, sA, sB, sC]
     refine rdG 10 (fun K hK => ?_);go_simp
     refine cc.mono ?_;rintro e w5 ⟨rfl, a5⟩;have q5 := qd5.call a5;have oS := oS.call qd5 a5;clear a5 cc;go_wp2_with fail
     refine hK.out _ _ ?hSit422 (fun hHeld => ?_)
     case hSit422 => exact ⟨oS.cell (pre := pre) (post := []) hn (j := 3) (by decide) rfl, oS.cell (pre := pre) (post := []) hn (j := 1) (by decide) rfl⟩
     clear hK K;try simp only [Act.put, sA, sB, sC]
     refine rdG 11 (fun K hK => ?_);go_simp
     refine hK.out _ _ ?hSit423 (fun hHeld => ?_)
     case hSit423 => exact ⟨(oS.below (w2 := w5.alloc (.cells #[.string (bs x)] 9)) ((zJx _ _).alloc (zJw _) _)).cell (pre := pre) (post := []) hn (j := 3) (by decide) rfl, (oS.below (w2 := w5.alloc (.cells #[.string (bs x)] 9)) ((zJx _ _).alloc (zJw _) _)).cell (pre := pre) (post := []) hn (j := 1) (by decide) rfl⟩
     clear hK K;try simp only [Act.put, sA, sB, sC]
     refine rdG 12 (fun K hK => ?_);refine zhd rfl _ _ rfl (v := (.slice pt.a3 (bss y.2.1).length pt.c3)) (by simp [Act.eval]) (oS.r3 _ zaw) (by simp [Act.eval]) rfl hln ?_;intro u6 w6 hown hgrow hloc;obtain ⟨A6, d6, e6⟩ : ∃ A c, u6 = .slice A ((bss y.2.1).length + 1) c := za8 hown;subst e6;obtain ⟨G6, q6, oT⟩ := oS.names (pre := pre) (post := []) q5 hbw hn ((zJx _ w5).alloc (zJw _) _) hown hgrow hloc;obtain ⟨w7, hW7⟩ : ∃ W, w6.setCell ⟨b, pre.length * 6 + 3, none⟩ (.slice A6 ((bss y.2.1).length + 1) d6) = W := ⟨_, rfl⟩;have oU := zjt oS hn ((zJx _ w5).alloc (zJw _) _) hgrow (oS.r3 _ zaw) (by decide);have z3 : w6.cell? ⟨b, pre.length * 6 + 3, none⟩ = some (.slice pt.a3 (bss y.2.1).length pt.c3) := zeb oU _ _ ((zbs pre [] _ (by decide)).trans rfl);have z1 : w6.cell? ⟨b, pre.length * 6 + 1, none⟩ = some (.int .i64 (y.1 : Int)) := zeb oU _ _ ((zbs pre [] _ (by decide)).trans rfl);have zf : w6.frozen? ⟨b, pre.length * 6 + 3, none⟩ = false := zfd oU _;rw [hW7] at q6 oT;clear hown hgrow hloc oS oU;refine hK.out _ _ ?hSit424 (fun hHeld => ?_)
     case hSit424 => exact ⟨z3, z1⟩
     clear hK K;try simp only [Act.put, sA, sB, sC]
     refine rdG 13 (fun K hK => ?_);go_simp
     refine hK.out _ _ ?hSit425 (fun hHeld => ?_)
     case hSit425 => exact hHeld
     clear hK K;try simp only [Act.put, sA, sB, sC]
     refine rdG 14 (fun K hK => ?_);go_simp
     refine hK.out _ _ ?hSit426 (fun hHeld => ?_)
     case hSit426 => exact hHeld
     clear hK K;try simp only [Act.put, sA, sB, sC]
     refine rdL 15 (fun K hK => ?_);go_simp
     try rw [hW7]
     refine hK.out _ _ ?_;clear hK K;try simp only [Act.put, sA, sB, sC]
     refine zah (by kernel_rfl) ?_ _;refine NoPanic.normal ?_;have Q := zJv q6;have QS := zJv oT;clear q6 oT;go_wp2_with fail
     go_ret;rw [← hR];refine ⟨rfl, _, { pt with a3 := A6, c3 := d6 }, Q.out, ?_⟩;have eN : bss (y.2.1 ++ [x]) = bss y.2.1 ++ [bs x] := by simp [bss]
     show Stk _ _ _ (pre ++ [((⟨9, (y.1 : Int), bs [], bss (y.2.1 ++ [x]), y.2.2, false⟩ : TypD), _)])
     rw [eN];have e1 : n = pre.length + 1 := by simpa using hn
     try rw [← e1]
     exact QS.out
 · rw [if_neg h0] at hR
   have hd : decide ((0 : Int) < (y.2.2.length : Int)) = true := by rw [zKq]; omega
   go_enter Tryz.func119, Tryz.ntmps119
   go_wp2_with fail
   refine (cT).mono ?_;rintro e w2 ⟨rfl, hb2⟩;have q2 := q0.below hb2;have oS := oS.below hb2;clear hb2;clear cT;have x4 := oS.cell (pre := pre) (post := []) hn (j := 4) (by decide) rfl;have y4 := oS.frozen hn (pre.length * 6 + 4);go_wp2_with fail
   rcases hM3 : mustM ts [124] s with ⟨u, s2⟩ | ⟨c, p⟩ | _
   case un => rw [hM3] at hR; (try simp only [R3.unB] at hR); exact absurd hR.symm hu
   case bad =>
    have cc := mustR (B := (B.with G)) hBts q2.ps hk [124];rw [hM3] at cc hR;try simp only [R3.badB] at hR
    refine cc.mono ?_;rintro e w3 ⟨rfl, k3⟩;have A := zJv (q2.bad (s0 := s) (rfl) k3 rfl);clear k3 cc;go_wp2_with fail
    refine ⟨rfl, ?_⟩;rw [← hR];exact ⟨rfl, A.out⟩
   have cc := mustR (B := (B.with G)) hBts q2.ps hk [124];rw [hM3] at cc hR;try simp only [R3.okB] at hR
   obtain ⟨g3, k3, o3⟩ := zap hT s u s2 hk hM3;refine cc.mono ?_;rintro e w3 ⟨rfl, a3⟩;have q3 := q2.call a3;have oS := oS.call q2 a3;clear a3 cc;clear x4 y4;by_cases hv : isA ts s2 [[46, 46]] = true
   · rw [if_pos hv] at hR
     have hkv : (s2.on 1).k < ts.length := hT.step k3 (za0 hv);go_wp2_with fail
     refine (zei (B := (B.with G)) hBts q3.ps k3 [46, 46] hv).mono ?_;rintro e w4 ⟨rfl, a4⟩;have q4 := q3.call a4;have oS := oS.call q3 a4;clear a4;have x5 := oS.cell (pre := pre) (post := []) hn (j := 5) (by decide) rfl;have y5 := oS.frozen hn (pre.length * 6 + 5);obtain ⟨q5, oS5⟩ := oS.open_ (pre := pre) (post := []) q4 hbw hn true;obtain ⟨w5, hW5⟩ : ∃ W, w4.setCell ⟨b, pre.length * 6 + 5, none⟩ (.bool true) = W := ⟨_, rfl⟩;rw [hW5] at q5 oS5;clear oS;have oS := oS5;clear oS5;go_wp2_with fail
     rcases hM6 : mustM ts [93] (s2.on 1) with ⟨u, s9⟩ | ⟨c, p⟩ | _
     case un => rw [hM6] at hR; (try simp only [R3.unB] at hR); exact absurd hR.symm hu
     case bad =>
      have cc := mustR (B := (B.with G)) hBts q5.ps hkv [93];rw [hM6] at cc hR;try simp only [R3.badB] at hR
      refine cc.mono ?_;rintro e w6 ⟨rfl, k6⟩;have A := zJv (q5.bad (s0 := s) (o3) k6 rfl);clear k6 cc;go_wp2_with fail
      refine ⟨rfl, ?_⟩;rw [← hR];exact ⟨rfl, A.out⟩
     have cc := mustR (B := (B.with G)) hBts q5.ps hkv [93];rw [hM6] at cc hR;try simp only [R3.okB] at hR
     obtain ⟨g6, k6, o6⟩ := zap hT (s2.on 1) u s9 hkv hM6;refine cc.mono ?_;rintro e w6 ⟨rfl, a6⟩;have q6 := q5.call a6;have oS := oS.call q5 a6;clear a6 cc;have Q7 := zJv q6;have QS := zJv oS;clear q6 oS;go_wp2_with fail
     go_ret;rw [← hR];exact ⟨rfl, _, _, Q7.out, QS.out⟩
   · rw [if_neg hv] at hR
     have hv2 : isA ts s2 [[46, 46]] = false := by simpa using hv
     go_wp2_with fail
     refine (zed (B := (B.with G)) hBts q3.ps k3 [46, 46] hv2).mono ?_;rintro e w4 ⟨rfl, hb4⟩;have q4 := q3.below hb4;have oS := oS.below hb4;clear hb4;go_wp2_with fail
     have qd6 := q4.below (w2 := w4.drew) (zJx _ _).drew;have oS := oS.below (w2 := w4.drew) (zJx _ _).drew;rcases hM6 : ownM ts y.1 3 s2 with ⟨x, s9⟩ | ⟨c, p⟩ | _
     case un => exact (zqi hM6).elim
     case bad =>
      have cc := ownR (B := (B.with G)) hT hBts qd6.ps k3 y.1 3 hy;rw [hM6] at cc hR;try simp only [R3.badB] at hR
      refine za5 (S := fun W => W.cell? ⟨b, pre.length * 6 + 3, none⟩ = some (.slice pt.a3 (bss y.2.1).length pt.c3) ∧ W.cell? ⟨b, pre.length * 6 + 1, none⟩ = some (.int .i64 (y.1 : Int))) (fun j => j == 15) (by kernel_rfl) (⟨oS.cell (pre := pre) (post := []) hn (j := 3) (by decide) rfl, oS.cell (pre := pre) (post := []) hn (j := 1) (by decide) rfl⟩) (fun hHeld => ?_);refine tkG 0 ?_;try simp only [Act.put, sA, sB, sC]
      refine tkG 1 ?_;try simp only [Act.put, sA, sB, sC]
      refine tkG 2 ?_;try simp only [Act.put, sA, sB, sC]
      refine tkG 3 ?_;try simp only [Act.put, sA, sB, sC]
      refine tkG 4 ?_;try simp only [Act.put, sA, sB, sC]
      refine tkG 5 ?_;try simp only [Act.put, sA, sB, sC]
      refine tkG 6 ?_;try simp only [Act.put, sA, sB, sC]
      refine tkG 7 ?_;try simp only [Act.put, sA, sB, sC]
      refine tkG 8 ?_;try simp only [Act.put, sA, sB, sC]
      refine tkG 9 ?_;try simp only [Act.put, sA, sB, sC]
      refine rdG 10 (fun K hK => ?_);go_simp
      refine cc.mono ?_;rintro e w6 ⟨rfl, k6⟩;have A := zJv (qd6.bad (s0 := s) (o3) k6 rfl);clear k6 cc;go_wp2_with fail
      rw [← hR];exact ⟨rfl, rfl, A.out⟩
     have cc := ownR (B := (B.with G)) hT hBts qd6.ps k3 y.1 3 hy;rw [hM6] at cc hR;try simp only [R3.okB] at hR
     refine wp_region_noPanic ?_;refine za5 (S := fun W => W.cell? ⟨b, pre.length * 6 + 3, none⟩ = some (.slice pt.a3 (bss y.2.1).length pt.c3) ∧ W.cell? ⟨b, pre.length * 6 + 1, none⟩ = some (.int .i64 (y.1 : Int))) (fun j => j == 15) (by kernel_rfl) (⟨oS.cell (pre := pre) (post := []) hn (j := 3) (by decide) rfl, oS.cell (pre := pre) (post := []) hn (j := 1) (by decide) rfl⟩) (fun hHeld => ?_);refine tkG 0 ?_;try simp only [Act.put, sA, sB, sC]
     refine tkG 1 ?_;try simp only [Act.put, sA, sB, sC]
     refine tkG 2 ?_;try simp only [Act.put, sA, sB, sC]
     refine tkG 3 ?_;try simp only [Act.put, sA, sB, sC]
     refine tkG 4 ?_;try simp only [Act.put, sA, sB, sC]
     refine tkG 5 ?_;try simp only [Act.put, sA, sB, sC]
     refine tkG 6 ?_;try simp only [Act.put, sA, sB, sC]
     refine tkG 7 ?_;try simp only [Act.put, sA, sB, sC]
     refine tkG 8 ?_;try simp only [Act.put, sA, sB, sC]
     refine tkG 9 ?_;try simp only [Act.put, sA, sB, sC]
     refine rdG 10 (fun K hK => ?_);go_simp
     refine cc.mono ?_;rintro e w6 ⟨rfl, a6⟩;have q6 := qd6.call a6;have oS := oS.call qd6 a6;clear a6 cc;go_wp2_with fail
     refine hK.out _ _ ?hSit522 (fun hHeld => ?_)
     case hSit522 => exact ⟨oS.cell (pre := pre) (post := []) hn (j := 3) (by decide) rfl, oS.cell (pre := pre) (post := []) hn (j := 1) (by decide) rfl⟩
     clear hK K;try simp only [Act.put, sA, sB, sC]
     refine rdG 11 (fun K hK => ?_);go_simp
     refine hK.out _ _ ?hSit523 (fun hHeld => ?_)
     case hSit523 => exact ⟨(oS.below (w2 := w6.alloc (.cells #[.string (bs x)] 9)) ((zJx _ _).alloc (zJw _) _)).cell (pre := pre) (post := []) hn (j := 3) (by decide) rfl, (oS.below (w2 := w6.alloc (.cells #[.string (bs x)] 9)) ((zJx _ _).alloc (zJw _) _)).cell (pre := pre) (post := []) hn (j := 1) (by decide) rfl⟩
     clear hK K;try simp only [Act.put, sA, sB, sC]
     refine rdG 12 (fun K hK => ?_);refine zhd rfl _ _ rfl (v := (.slice pt.a3 (bss y.2.1).length pt.c3)) (by simp [Act.eval]) (oS.r3 _ zaw) (by simp [Act.eval]) rfl hln ?_;intro u7 w7 hown hgrow hloc;obtain ⟨A7, d7, e7⟩ : ∃ A c, u7 = .slice A ((bss y.2.1).length + 1) c := za8 hown;subst e7;obtain ⟨G7, q7, oT⟩ := oS.names (pre := pre) (post := []) q6 hbw hn ((zJx _ w6).alloc (zJw _) _) hown hgrow hloc;obtain ⟨w8, hW8⟩ : ∃ W, w7.setCell ⟨b, pre.length * 6 + 3, none⟩ (.slice A7 ((bss y.2.1).length + 1) d7) = W := ⟨_, rfl⟩;have oU := zjt oS hn ((zJx _ w6).alloc (zJw _) _) hgrow (oS.r3 _ zaw) (by decide);have z3 : w7.cell? ⟨b, pre.length * 6 + 3, none⟩ = some (.slice pt.a3 (bss y.2.1).length pt.c3) := zeb oU _ _ ((zbs pre [] _ (by decide)).trans rfl);have z1 : w7.cell? ⟨b, pre.length * 6 + 1, none⟩ = some (.int .i64 (y.1 : Int)) := zeb oU _ _ ((zbs pre [] _ (by decide)).trans rfl);have zf : w7.frozen? ⟨b, pre.length * 6 + 3, none⟩ = false := zfd oU _;rw [hW8] at q7 oT;clear hown hgrow hloc oS oU;refine hK.out _ _ ?hSit524 (fun hHeld => ?_)
     case hSit524 => exact ⟨z3, z1⟩
     clear hK K;try simp only [Act.put, sA, sB, sC]
     refine rdG 13 (fun K hK => ?_);go_simp
     refine hK.out _ _ ?hSit525 (fun hHeld => ?_)
     case hSit525 => exact hHeld
     clear hK K;try simp only [Act.put, sA, sB, sC]
     refine rdG 14 (fun K hK => ?_);go_simp
     refine hK.out _ _ ?hSit526 (fun hHeld => ?_)
     case hSit526 => exact hHeld
     clear hK K;try simp only [Act.put, sA, sB, sC]
     refine rdL 15 (fun K hK => ?_);go_simp
     try rw [hW8]
     refine hK.out _ _ ?_;clear hK K;try simp only [Act.put, sA, sB, sC]
     refine zah (by kernel_rfl) ?_ _;refine NoPanic.normal ?_;have Q := zJv q7;have QS := zJv oT;clear q7 oT;go_wp2_with fail
     go_ret;rw [← hR];refine ⟨rfl, _, { pt with a3 := A7, c3 := d7 }, Q.out, ?_⟩;have eN : bss (y.2.1 ++ [x]) = bss y.2.1 ++ [bs x] := by simp [bss]
     show Stk _ _ _ (pre ++ [((⟨9, (y.1 : Int), bs [], bss (y.2.1 ++ [x]), y.2.2, false⟩ : TypD), _)])
     rw [eN];have e1 : n = pre.length + 1 := by simpa using hn
     try rw [← e1]
     exact QS.out
end Go.Proofs.YtidmeodmkcomlaaGreatDoor
