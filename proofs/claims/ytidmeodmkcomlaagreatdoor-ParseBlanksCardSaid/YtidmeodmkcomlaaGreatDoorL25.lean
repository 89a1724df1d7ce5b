/- Terms: what the rule gives, or what is -/
import Derived.Test.YtidmeodmkcomlaaGreatDoorL20
import Derived.Test.YtidmeodmkcomlaaGreatDoorL21
import Derived.Test.YtidmeodmkcomlaaGreatDoorL23
import Derived.Test.YtidmeodmkcomlaaGreatDoorL24
namespace Go.Proofs.YtidmeodmkcomlaaGreatDoor
open Go Go.Proofs Go.RowKit
set_option maxHeartbeats 8000000
theorem of_go {ts : List Tk} {s : St} {R : R3 Nat} (h : Go3 True ts 1 s R) {i : Nat} {s' : St} (e : R = .ok i s') : s.k < s'.k ∧ s'.k < ts.length ∧ s'.op = s.op := by
 rw [e] at h;exact ⟨h.1, h.2⟩
set_option maxRecDepth 100000 in
theorem zwx {ts : List Tk} (hT : TsOk ts) {E T : St → R3 Nat} (hE : Rule3 ts 43 E) (pE : Prog3 ts E) (hC : Rule3 ts 77 (zad ts E T)) (pC : Prog3 ts (zad ts E T)) {B : PE} {w : World} {s : St} (hBts : B.ts = ts) (h : PS B w s) (hk : s.k < ts.length) (h256 : s.op ≠ 256) (hu : ((zba ts E T s.up).bind fun i s1 => R3.ok i s1.down) ≠ .un) :
 Calls Tryz.prog 43 #[B.ptr] w (Res natV B w s ((zba ts E T s.up).bind fun i s1 => R3.ok i s1.down)) := by
 generalize hR : ((zba ts E T s.up).bind fun i s1 => R3.ok i s1.down) = R at hu ⊢;unfold zba at hR;have cB := zf4 h h256;have cS : ∀ (x : List UInt8) W, PS B W s.up → Calls Tryz.prog 47 #[B.ptr, .slice (some ⟨W.heap.size, 0, none⟩) 1 1] (W.alloc (.cells #[.string ⟨x.toArray⟩] 9)) fun e w' => e = .returned (.bool (isA ts s.up [x])) ∧ Below W.heap.size W w' := fun x W p => zee hBts p hk x;have H := zJv h;clear h;by_cases hfun : isA ts s.up [[102, 117, 110]] = true
 · rw [if_pos hfun] at hR
   have hs : (tkA ts s.k).1 ≠ 0 := za0 hfun;have cfun := cS [102, 117, 110];rw [hfun] at cfun;clear cS;go_enter_defers Tryz.func43, Tryz.ntmps43
   go_wp2_with fail
   refine (cB).mono ?_;rintro e w2 ⟨rfl, a2⟩;have q2 := a2;clear a2;clear cB;go_wp2_with fail
   refine (cfun w2 q2.ps).mono ?_;rintro e w3 ⟨rfl, hb3⟩;have q3 := q2.below hb3;clear hb3;clear cfun;go_wp2_with fail
   rcases hM4 : funM ts E s.up with ⟨i, s1⟩ | ⟨c, p⟩ | _
   case un => rw [hM4] at hR; (try simp only [R3.unB] at hR); exact absurd hR.symm hu
   case bad =>
    have cc := zs6 hT hE pE hBts q3.ps hk hs (by rw [hM4]; simp);rw [hM4] at cc hR;try simp only [R3.badB] at hR
    refine cc.mono ?_;rintro e w4 ⟨rfl, k4⟩;obtain ⟨sb, ob, ab⟩ := q3.bad (s0 := s.up) (rfl) k4 rfl;have Ab := zJv ab;have hop1 : 1 ≤ sb.op := by rw [ob]; exact ta7 1 s.op
    clear ab k4 cc ;go_wp2_with fail
    refine leaves_cons (f := 45) (args := #[B.ptr]) (by simp) (by simp [go_sem]) ?_;refine (end_d Ab.out.ps hop1 _).mono ?_;rintro e u' w7 ⟨rfl, rfl, a7⟩;rw [← hR];exact ⟨rfl, sb.down, (by show sb.op - 1 = s.op; rw [ob]; show s.op + 1 - 1 = s.op; omega), Ab.out.trans a7⟩
   have cc := zs6 hT hE pE hBts q3.ps hk hs (by rw [hM4]; simp);rw [hM4] at cc hR;try simp only [R3.okB] at hR
   obtain ⟨g4, k4, o4⟩ := of_go (zzi (q := True) hT (zav pE _) s.up hk hs rfl) hM4;refine cc.mono ?_;rintro e w4 ⟨rfl, a4⟩;have q4 := q3.trans a4;clear a4 cc;have hop1 : 1 ≤ s1.op := by rw [show s1.op = s.up.op from o4]; exact ta7 1 s.op
   have Q5 := zJv q4;clear q4;go_wp2_with fail
   refine leaves_cons (f := 45) (args := #[B.ptr]) (by simp) (by simp [go_sem]) ?_;refine (end_d Q5.out.ps hop1 .returning).mono ?_;rintro e u' w7 ⟨rfl, rfl, a7⟩;refine ⟨_, results_tmp rfl _ _ _, ?_⟩;rw [← hR];exact ⟨rfl, Q5.out.trans a7⟩
 rw [if_neg hfun] at hR;have hfun2 : isA ts s.up [[102, 117, 110]] = false := by simpa using hfun
 by_cases hlet : isA ts s.up [[108, 101, 116]] = true
 · rw [if_pos hlet] at hR
   have hs : (tkA ts s.k).1 ≠ 0 := za0 hlet;have cfun := cS [102, 117, 110];rw [hfun2] at cfun;have clet := cS [108, 101, 116];rw [hlet] at clet;clear cS;go_enter_defers Tryz.func43, Tryz.ntmps43
   go_wp2_with fail
   refine (cB).mono ?_;rintro e w2 ⟨rfl, a2⟩;have q2 := a2;clear a2;clear cB;go_wp2_with fail
   refine (cfun w2 q2.ps).mono ?_;rintro e w3 ⟨rfl, hb3⟩;have q3 := q2.below hb3;clear hb3;clear cfun;go_wp2_with fail
   refine (clet w3 q3.ps).mono ?_;rintro e w4 ⟨rfl, hb4⟩;have q4 := q3.below hb4;clear hb4;clear clet;go_wp2_with fail
   rcases hM5 : letM ts E s.up with ⟨i, s1⟩ | ⟨c, p⟩ | _
   case un => rw [hM5] at hR; (try simp only [R3.unB] at hR); exact absurd hR.symm hu
   case bad =>
    have cc := zqr hT hE pE hBts q4.ps hk hs (by rw [hM5]; simp);rw [hM5] at cc hR;try simp only [R3.badB] at hR
    refine cc.mono ?_;rintro e w5 ⟨rfl, k5⟩;obtain ⟨sb, ob, ab⟩ := q4.bad (s0 := s.up) (rfl) k5 rfl;have Ab := zJv ab;have hop1 : 1 ≤ sb.op := by rw [ob]; exact ta7 1 s.op
    clear ab k5 cc ;go_wp2_with fail
    refine leaves_cons (f := 45) (args := #[B.ptr]) (by simp) (by simp [go_sem]) ?_;refine (end_d Ab.out.ps hop1 _).mono ?_;rintro e u' w7 ⟨rfl, rfl, a7⟩;rw [← hR];exact ⟨rfl, sb.down, (by show sb.op - 1 = s.op; rw [ob]; show s.op + 1 - 1 = s.op; omega), Ab.out.trans a7⟩
   have cc := zqr hT hE pE hBts q4.ps hk hs (by rw [hM5]; simp);rw [hM5] at cc hR;try simp only [R3.okB] at hR
   obtain ⟨g5, k5, o5⟩ := of_go (zB3 (q := True) hT (zav pE _) s.up hk hs rfl) hM5;refine cc.mono ?_;rintro e w5 ⟨rfl, a5⟩;have q5 := q4.trans a5;clear a5 cc;have hop1 : 1 ≤ s1.op := by rw [show s1.op = s.up.op from o5]; exact ta7 1 s.op
   have Q6 := zJv q5;clear q5;go_wp2_with fail
   refine leaves_cons (f := 45) (args := #[B.ptr]) (by simp) (by simp [go_sem]) ?_;refine (end_d Q6.out.ps hop1 .returning).mono ?_;rintro e u' w7 ⟨rfl, rfl, a7⟩;refine ⟨_, results_tmp rfl _ _ _, ?_⟩;rw [← hR];exact ⟨rfl, Q6.out.trans a7⟩
 rw [if_neg hlet] at hR;have hlet2 : isA ts s.up [[108, 101, 116]] = false := by simpa using hlet
 by_cases hif : isA ts s.up [[105, 102]] = true
 · rw [if_pos hif] at hR
   have hs : (tkA ts s.k).1 ≠ 0 := za0 hif;have cfun := cS [102, 117, 110];rw [hfun2] at cfun;have clet := cS [108, 101, 116];rw [hlet2] at clet;have cif := cS [105, 102];rw [hif] at cif;clear cS;go_enter_defers Tryz.func43, Tryz.ntmps43
   go_wp2_with fail
   refine (cB).mono ?_;rintro e w2 ⟨rfl, a2⟩;have q2 := a2;clear a2;clear cB;go_wp2_with fail
   refine (cfun w2 q2.ps).mono ?_;rintro e w3 ⟨rfl, hb3⟩;have q3 := q2.below hb3;clear hb3;clear cfun;go_wp2_with fail
   refine (clet w3 q3.ps).mono ?_;rintro e w4 ⟨rfl, hb4⟩;have q4 := q3.below hb4;clear hb4;clear clet;go_wp2_with fail
   refine (cif w4 q4.ps).mono ?_;rintro e w5 ⟨rfl, hb5⟩;have q5 := q4.below hb5;clear hb5;clear cif;go_wp2_with fail
   rcases hM6 : zby ts E s.up with ⟨i, s1⟩ | ⟨c, p⟩ | _
   case un => rw [hM6] at hR; (try simp only [R3.unB] at hR); exact absurd hR.symm hu
   case bad =>
    have cc := zkr hT hE pE hBts q5.ps hk hs (by rw [hM6]; simp);rw [hM6] at cc hR;try simp only [R3.badB] at hR
    refine cc.mono ?_;rintro e w6 ⟨rfl, k6⟩;obtain ⟨sb, ob, ab⟩ := q5.bad (s0 := s.up) (rfl) k6 rfl;have Ab := zJv ab;have hop1 : 1 ≤ sb.op := by rw [ob]; exact ta7 1 s.op
    clear ab k6 cc ;go_wp2_with fail
    refine leaves_cons (f := 45) (args := #[B.ptr]) (by simp) (by simp [go_sem]) ?_;refine (end_d Ab.out.ps hop1 _).mono ?_;rintro e u' w7 ⟨rfl, rfl, a7⟩;rw [← hR];exact ⟨rfl, sb.down, (by show sb.op - 1 = s.op; rw [ob]; show s.op + 1 - 1 = s.op; omega), Ab.out.trans a7⟩
   have cc := zkr hT hE pE hBts q5.ps hk hs (by rw [hM6]; simp);rw [hM6] at cc hR;try simp only [R3.okB] at hR
   obtain ⟨g6, k6, o6⟩ := of_go (zou (q := True) hT (zav pE _) s.up hk hs rfl) hM6;refine cc.mono ?_;rintro e w6 ⟨rfl, a6⟩;have q6 := q5.trans a6;clear a6 cc;have hop1 : 1 ≤ s1.op := by rw [show s1.op = s.up.op from o6]; exact ta7 1 s.op
   have Q7 := zJv q6;clear q6;go_wp2_with fail
   refine leaves_cons (f := 45) (args := #[B.ptr]) (by simp) (by simp [go_sem]) ?_;refine (end_d Q7.out.ps hop1 .returning).mono ?_;rintro e u' w7 ⟨rfl, rfl, a7⟩;refine ⟨_, results_tmp rfl _ _ _, ?_⟩;rw [← hR];exact ⟨rfl, Q7.out.trans a7⟩
 rw [if_neg hif] at hR;have hif2 : isA ts s.up [[105, 102]] = false := by simpa using hif
 by_cases hcase : isA ts s.up [[99, 97, 115, 101]] = true
 · rw [if_pos hcase] at hR
   have hs : (tkA ts s.k).1 ≠ 0 := za0 hcase;have cfun := cS [102, 117, 110];rw [hfun2] at cfun;have clet := cS [108, 101, 116];rw [hlet2] at clet;have cif := cS [105, 102];rw [hif2] at cif;have ccase := cS [99, 97, 115, 101];rw [hcase] at ccase;clear cS;go_enter_defers Tryz.func43, Tryz.ntmps43
   go_wp2_with fail
   refine (cB).mono ?_;rintro e w2 ⟨rfl, a2⟩;have q2 := a2;clear a2;clear cB;go_wp2_with fail
   refine (cfun w2 q2.ps).mono ?_;rintro e w3 ⟨rfl, hb3⟩;have q3 := q2.below hb3;clear hb3;clear cfun;go_wp2_with fail
   refine (clet w3 q3.ps).mono ?_;rintro e w4 ⟨rfl, hb4⟩;have q4 := q3.below hb4;clear hb4;clear clet;go_wp2_with fail
   refine (cif w4 q4.ps).mono ?_;rintro e w5 ⟨rfl, hb5⟩;have q5 := q4.below hb5;clear hb5;clear cif;go_wp2_with fail
   refine (ccase w5 q5.ps).mono ?_;rintro e w6 ⟨rfl, hb6⟩;have q6 := q5.below hb6;clear hb6;clear ccase;go_wp2_with fail
   rcases hM7 : zci ts E s.up with ⟨i, s1⟩ | ⟨c, p⟩ | _
   case un => rw [hM7] at hR; (try simp only [R3.unB] at hR); exact absurd hR.symm hu
   case bad =>
    have cc := zm7 hT hE pE hBts q6.ps hk hs (by rw [hM7]; simp);rw [hM7] at cc hR;try simp only [R3.badB] at hR
    refine cc.mono ?_;rintro e w7 ⟨rfl, k7⟩;obtain ⟨sb, ob, ab⟩ := q6.bad (s0 := s.up) (rfl) k7 rfl;have Ab := zJv ab;have hop1 : 1 ≤ sb.op := by rw [ob]; exact ta7 1 s.op
    clear ab k7 cc ;go_wp2_with fail
    refine leaves_cons (f := 45) (args := #[B.ptr]) (by simp) (by simp [go_sem]) ?_;refine (end_d Ab.out.ps hop1 _).mono ?_;rintro e u' w7 ⟨rfl, rfl, a7⟩;rw [← hR];exact ⟨rfl, sb.down, (by show sb.op - 1 = s.op; rw [ob]; show s.op + 1 - 1 = s.op; omega), Ab.out.trans a7⟩
   have cc := zm7 hT hE pE hBts q6.ps hk hs (by rw [hM7]; simp);rw [hM7] at cc hR;try simp only [R3.okB] at hR
   obtain ⟨g7, k7, o7⟩ := of_go (zqh (q := True) hT (zav pE _) s.up hk hs rfl) hM7;refine cc.mono ?_;rintro e w7 ⟨rfl, a7⟩;have q7 := q6.trans a7;clear a7 cc;have hop1 : 1 ≤ s1.op := by rw [show s1.op = s.up.op from o7]; exact ta7 1 s.op
   have Q8 := zJv q7;clear q7;go_wp2_with fail
   refine leaves_cons (f := 45) (args := #[B.ptr]) (by simp) (by simp [go_sem]) ?_;refine (end_d Q8.out.ps hop1 .returning).mono ?_;rintro e u' w7 ⟨rfl, rfl, a7⟩;refine ⟨_, results_tmp rfl _ _ _, ?_⟩;rw [← hR];exact ⟨rfl, Q8.out.trans a7⟩
 rw [if_neg hcase] at hR;have hcase2 : isA ts s.up [[99, 97, 115, 101]] = false := by simpa using hcase
 have cfun := cS [102, 117, 110];rw [hfun2] at cfun;have clet := cS [108, 101, 116];rw [hlet2] at clet;have cif := cS [105, 102];rw [hif2] at cif;have ccase := cS [99, 97, 115, 101];rw [hcase2] at ccase;clear cS;go_enter_defers Tryz.func43, Tryz.ntmps43
 go_wp2_with fail
 refine (cB).mono ?_;rintro e w2 ⟨rfl, a2⟩;have q2 := a2;clear a2;clear cB;go_wp2_with fail
 refine (cfun w2 q2.ps).mono ?_;rintro e w3 ⟨rfl, hb3⟩;have q3 := q2.below hb3;clear hb3;clear cfun;go_wp2_with fail
 refine (clet w3 q3.ps).mono ?_;rintro e w4 ⟨rfl, hb4⟩;have q4 := q3.below hb4;clear hb4;clear clet;go_wp2_with fail
 refine (cif w4 q4.ps).mono ?_;rintro e w5 ⟨rfl, hb5⟩;have q5 := q4.below hb5;clear hb5;clear cif;go_wp2_with fail
 refine (ccase w5 q5.ps).mono ?_;rintro e w6 ⟨rfl, hb6⟩;have q6 := q5.below hb6;clear hb6;clear ccase;go_wp2_with fail
 rcases hM7 : zad ts E T s.up with ⟨i, s1⟩ | ⟨c, p⟩ | _
 case un => rw [hM7] at hR; (try simp only [R3.unB] at hR); exact absurd hR.symm hu
 case bad =>
  have cc := hC B w6 s.up hBts q6.ps hk (by rw [hM7]; simp);rw [hM7] at cc hR;try simp only [R3.badB] at hR
  refine cc.mono ?_;rintro e w7 ⟨rfl, k7⟩;obtain ⟨sb, ob, ab⟩ := q6.bad (s0 := s.up) (rfl) k7 rfl;have Ab := zJv ab;have hop1 : 1 ≤ sb.op := by rw [ob]; exact ta7 1 s.op
  clear ab k7 cc ;go_wp2_with fail
  refine leaves_cons (f := 45) (args := #[B.ptr]) (by simp) (by simp [go_sem]) ?_;refine (end_d Ab.out.ps hop1 _).mono ?_;rintro e u' w7 ⟨rfl, rfl, a7⟩;rw [← hR];exact ⟨rfl, sb.down, (by show sb.op - 1 = s.op; rw [ob]; show s.op + 1 - 1 = s.op; omega), Ab.out.trans a7⟩
 have cc := hC B w6 s.up hBts q6.ps hk (by rw [hM7]; simp);rw [hM7] at cc hR;try simp only [R3.okB] at hR
 obtain ⟨g7, k7, o7⟩ := pC s.up i s1 hk hM7;refine cc.mono ?_;rintro e w7 ⟨rfl, a7⟩;have q7 := q6.trans a7;clear a7 cc;have hop1 : 1 ≤ s1.op := by rw [show s1.op = s.up.op from o7]; exact ta7 1 s.op
 have Q8 := zJv q7;clear q7;go_wp2_with fail
 refine leaves_cons (f := 45) (args := #[B.ptr]) (by simp) (by simp [go_sem]) ?_;refine (end_d Q8.out.ps hop1 .returning).mono ?_;rintro e u' w7 ⟨rfl, rfl, a7⟩;refine ⟨_, results_tmp rfl _ _ _, ?_⟩;rw [← hR];exact ⟨rfl, Q8.out.trans a7⟩
theorem zAf {ts : List Tk} (hT : TsOk ts) (hV : ∀ T : St → R3 Nat, Rule3 ts 21 T → Prog3 ts T → VRule ts T) : ∀ f, Rule3 ts 43 (termM ts f) := by
 intro f
 induction f with
 | zero => intro B w s _ _ _ hu; exact absurd rfl hu
 | succ f ih =>
  have pE := zm2 hT f;have pY := zix hT f;have hY := zjo hT hV f;have hA := zzd hT ih pE hY pY;have pA : Prog3 ts (atomM ts (termM ts f) (typeM ts f)) := zds (fun o => zuy hT (zav pE o) (zav pY o));have hP := zxb hT hA pA;have pP : Prog3 ts (postM ts (termM ts f) (typeM ts f)) := zds (fun o => znh hT (zav pE o) (zav pY o));have hU := zz9 hT hP pP;have pU : Prog3 ts (unitM ts (termM ts f) (typeM ts f)) := zds (fun o => zns hT (zav pE o) (zav pY o));have hAp := zwq hT hU pU;have pAp : Prog3 ts (zb0 ts (termM ts f) (typeM ts f)) := zds (fun o => zql hT (zav pE o) (zav pY o));have hPr := zq2 hT hAp pAp;have pPr : Prog3 ts (zb2 ts (termM ts f) (typeM ts f)) := zds (fun o => zlu hT (zav pE o) (zav pY o));have hSu := zBl hT hPr pPr;have pSu : Prog3 ts (sumM ts (termM ts f) (typeM ts f)) := zds (fun o => zxm hT (zav pE o) (zav pY o));have hJ := zyo hT hSu pSu;have pJ : Prog3 ts (joinM ts (termM ts f) (typeM ts f)) := zds (fun o => zn4 hT (zav pE o) (zav pY o));have hC := zr3 hT hJ pJ;have pC : Prog3 ts (zad ts (termM ts f) (typeM ts f)) := zds (fun o => zmq hT (zav pE o) (zav pY o));intro B w s hBts h hk hu;unfold termM at hu ⊢;by_cases h256 : s.op = 256
  · rw [if_pos h256]
    have cB := zhf h (by rw [hBts]; exact hk) h256;rw [hBts] at cB;have H := zJv h;clear h ih hA hP hU hAp hPr hSu hJ hC hY pE pY pA pP pU pAp pPr pSu pJ pC hu;go_enter_defers Tryz.func43, Tryz.ntmps43
    go_wp2_with fail
    refine cB.mono ?_;rintro e w1 ⟨rfl, hb1⟩;go_wp2_with fail
    have A1 := H.out.aft hb1;exact ⟨rfl, s, rfl, A1⟩
  · rw [if_neg h256] at hu ⊢
    exact zwx hT ih pE hC pC hBts h hk h256 hu
set_option maxHeartbeats 8000000
theorem zrx {w w' : World} {row : Option Nat} (h : w.drew.grownBy w' row) : w.grownBy w' row := ⟨h.os, h.tape, h.output, h.size, h.block⟩
theorem zBg {w : World} {base : Nat} {e : TypeId} {size : Nat} {v : Value} {n : Nat} {xs : List Value} (h : w.ownsRow base e size v n xs) : w.drew.ownsRow base e size v n xs := h
def Ty3 {α : Type} (s : St) : R3 α → Prop
 | .ok _ s' => s'.t1 = s.t1 ∧ s'.t3 = s.t3
 | _ => True
section
variable {ts : List Tk} {α β : Type}
theorem Ty3.bind {s : St} {p : R3 α} {f : α → St → R3 β} (h : Ty3 s p) (k : ∀ i s1, Ty3 s1 (f i s1)) : Ty3 s (p.bind f) := by
 cases p with
 | ok i s1 =>
  have := k i s1;show Ty3 s (f i s1)
  cases hf : f i s1 with
  | ok j s2 => rw [hf] at this; exact ⟨this.1.trans h.1, this.2.trans h.2⟩
  | bad e p => trivial
  | un => trivial
 | bad e p => trivial
 | un => trivial
theorem Ty3.from_ {s s1 : St} {p : R3 α} (h : Ty3 s1 p) (e : s1.t1 = s.t1 ∧ s1.t3 = s.t3) : Ty3 s p := by
 cases p with
 | ok i s2 => exact ⟨h.1.trans e.1, h.2.trans e.2⟩
 | bad e p => trivial
 | un => trivial
theorem Ty3.refl {s : St} {i : α} : Ty3 s (.ok i s) := ⟨rfl, rfl⟩
theorem Ty3.on {s : St} {i : α} {n : Nat} : Ty3 s (.ok i (s.on n)) := ⟨rfl, rfl⟩
theorem zCy (kind : Nat) (s : St) : Ty3 s (zag ts kind s) := by unfold zag; split; exact Ty3.on; trivial
theorem zhw (x : List UInt8) (s : St) : Ty3 s (mustM ts x s) := by unfold mustM; split; exact Ty3.on; trivial
theorem zk0 (s : St) (x : TypD) : Ty3 s (newY s x) := by unfold newY; split; exact ⟨rfl, rfl⟩; trivial
theorem zB6 (o kind : Nat) (s : St) : Ty3 s (ownM ts o kind s) := by
 refine Ty3.bind (zCy kind s) (fun t s1 => ?_);split
 · trivial
 · exact ⟨rfl, rfl⟩
variable {T : St → R3 Nat}
theorem zwv (hT : ∀ s, Ty3 s (T s)) (owner : Nat) (sign : List UInt8) : ∀ (f : Nat) (ns : List (List UInt8)) (ks : List Int) (s : St), Ty3 s (zbc ts T owner sign f ns ks s) := by
 intro f
 induction f with
 | zero => intro ns ks s; trivial
 | succ f ih =>
  intro ns ks s;unfold zbc;refine (zB6 _ _ s).bind (fun x s1 => (zhw _ s1).bind (fun _ s2 => (hT s2).bind (fun i s3 => ?_)));split
  · exact Ty3.on
  · exact (zhw _ s3).bind (fun _ s4 => ih _ _ s4)
theorem zzk (hT : ∀ s, Ty3 s (T s)) (owner : Nat) (sign : List UInt8) (s : St) : Ty3 s (zan ts T owner sign s) := by
 unfold zan;split
 · exact Ty3.on
 · exact zwv hT _ _ _ _ _ s
theorem zmt (hT : ∀ s, Ty3 s (T s)) (s : St) : Ty3 s (zay ts T s) := by
 unfold zay;split
 · exact ((hT _).bind (fun i s1 => (zhw _ s1).bind (fun _ s2 => Ty3.refl))).from_ (s1 := s.on 1) ⟨rfl, rfl⟩
 split
 · exact ((zzk hT _ _ _).bind (fun x s1 => zk0 s1 _)).from_ (s1 := s.on 1) ⟨rfl, rfl⟩
 split
 · exact (zk0 _ _).from_ (s1 := s.on 1) ⟨rfl, rfl⟩
 · trivial
theorem zHq (x : Vr) (s : St) : Ty3 s (itemM ts x s) := by
 unfold itemM;split
 · exact Ty3.on
 refine Ty3.bind ?_ (fun _ s1 => ?_)
 · split
   · exact Ty3.refl
   · exact zhw _ s
 split
 · exact ((zhw _ _).bind (fun _ s2 => Ty3.refl)).from_ (s1 := s1.on 1) ⟨rfl, rfl⟩
 · exact (zB6 _ _ s1).bind (fun n s2 => Ty3.refl)
theorem zsd (hT : ∀ s, Ty3 s (T s)) : ∀ (f : Nat) (x : Vr) (r : List Vr) (s : St), Ty3 s (zaq ts T f x r s) := by
 intro f
 induction f with
 | zero => intro x r s; trivial
 | succ f ih =>
  intro x r s;unfold zaq;refine (zHq x s).bind (fun y s1 => ?_);split
  · refine (zk0 s1 _).bind (fun i s2 => ?_)
    split
    · exact Ty3.refl
    · exact ih _ _ s2
  · split
    · exact (ih _ _ _).from_ (s1 := s1.on 1) ⟨rfl, rfl⟩
    · exact (zmt hT s1).bind (fun i s2 => ih _ _ s2)
theorem znv : ∀ (f : Nat) (s : St), Ty3 s (typeM ts f s) := by
 intro f
 induction f with
 | zero => intro s; trivial
 | succ f ih =>
  intro s;unfold typeM;split
  · trivial
  refine Ty3.from_ (s1 := s.up) (Ty3.bind ?_ (fun i s1 => ?_)) ⟨rfl, rfl⟩
  · unfold zak
    split
    · exact (zsd ih _ _ _ _).from_ (s1 := s.up.on 1) ⟨rfl, rfl⟩
    · exact zmt ih _
  · split
    · exact ((ih _).bind (fun j s2 => (zk0 s2 _).bind (fun l s3 => (show Ty3 s3 (R3.ok l s3.down) from ⟨rfl, rfl⟩)))).from_ (s1 := s1.on 1) ⟨rfl, rfl⟩
    · exact ⟨rfl, rfl⟩
theorem zGj {f : Nat} {s s' : St} {i : Nat} (h : typeM ts f s = .ok i s') : s'.t3 = s.t3 := by
 have := znv (ts := ts) f s;rw [h] at this;exact this.2
end
theorem zI6 : (Tryz.prog.info? 44).map (fun i => (i.zero, i.size, i.bytes)) = some (some (.agg #[.string ByteArray.empty, .int .i64 0, .int .i64 0]), 3, 32) := by kernel_rfl
set_option maxRecDepth 100000 in
theorem zEw {B : PE} {w : World} {s : St} (h : PS B w s) (hn : s.t3.length < s.k) (hk : s.k ≤ 65536) (x : AliD) :
 Calls Tryz.prog 42 #[.pointer (some ⟨B.cb, 0, none⟩), .agg #[.string x.name, .int .i64 x.type, .int .i64 x.pos]] w fun e w' => e = .returned (.tuple #[]) ∧ Aft B w (s.addA x) w' := by
 obtain ⟨i0, hi, hz0, hz1, hz2⟩ := info_parts zI6;obtain ⟨v1, v2, v3, r1, r2, r3, hB, e1, e2, e9⟩ := h.built;obtain ⟨A, c, rfl⟩ := za8 hB.tr.o3;have hl : r3.length < s.k := by rw [e9]; exact hn
 obtain ⟨w0, hW0⟩ : ∃ W, w.alloc (.cells #[.string x.name, .int .i64 x.type, .int .i64 x.pos] 44) = W := ⟨_, rfl⟩;have hb0 : Below w.heap.size w w0 := by rw [← hW0]; exact (zJx _ _).alloc (zJw _) _
 have hX : Blk w0 w.heap.size 44 #[.string x.name, .int .i64 x.type, .int .i64 x.pos] := by rw [← hW0]; exact Blk.new w 44 _
 have hT0 := hB.tr.below hb0;have hcl : B.cb < w.heap.size := h.cbl;have hne : (Value.slice A r3.length c).ownBlock ≠ some B.cb := za3 hB.tr.o3 hB.tr.blk (by decide);have hneX : (Value.slice A r3.length c).ownBlock ≠ some w.heap.size := fun e => by have := zb8 hB.tr.o3 _ e; omega
 have c2 := hT0.blk.cell 2;have f2 := hT0.blk.frozen 2;simp only [gA, gB, gC] at c2;have hXl := hX.lt;have hcl0 : B.cb < w0.heap.size := zJy hcl hb0.size;have H := zJv h;have HB := zJv hB;have E1 := zJv e1;have E2 := zJv e2;have E9 := zJv e9;have HT0 := zJv hT0;have HB0 := zJv hb0;have HX := zJv hX;have hbs := h.bw;have HO : Hid (w0.drew.ownsRow B.base 44 3 (.slice A r3.length c) r3.length (zd2 r3)) := zJv hT0.o3;clear h hB e1 e2 e9 hT0 hb0 hX;go_enter Tryz.func42, Tryz.ntmps42
 go_wp2_with fail
 clear hW0;refine wp_region_noPanic ?_;refine za5 (S := fun W => W.cell? ⟨B.cb, 2, none⟩ = some (.slice A r3.length c) ∧ W.cell? ⟨w.heap.size, 0, none⟩ = some (.string x.name) ∧ W.cell? ⟨w.heap.size, 1, none⟩ = some (.int .i64 x.type) ∧ W.cell? ⟨w.heap.size, 2, none⟩ = some (.int .i64 x.pos)) (fun j => j == 12) (by kernel_rfl) (⟨c2, HX.out.at_ rfl, HX.out.at_ rfl, HX.out.at_ rfl⟩) (fun hHeld => ?_);refine tkG 0 ?_;try simp only [Act.put, sA, sB, sC]
 refine tkG 1 ?_;try simp only [Act.put, sA, sB, sC]
 refine tkG 2 ?_;try simp only [Act.put, sA, sB, sC]
 refine tkG 3 ?_;try simp only [Act.put, sA, sB, sC]
 refine tkG 4 ?_;try simp only [Act.put, sA, sB, sC]
 refine tkG 5 ?_;try simp only [Act.put, sA, sB, sC]
 refine tkG 6 ?_;try simp only [Act.put, sA, sB, sC]
 refine rdG 7 (fun K hK => ?_);go_simp
 have hal : Below w0.heap.size w0 (w0.alloc (.cells #[.string x.name, .int .i64 x.type, .int .i64 x.pos] 44)) := (zJx _ w0).alloc (zJw _) _;refine hK.out _ _ ?hSal8 (fun hHeld => ?_)
 case hSal8 => exact ⟨(hal.cell (p := ⟨B.cb, 2, none⟩) hcl0).trans c2, (hal.cell (p := ⟨w.heap.size, 0, none⟩) hXl).trans (HX.out.at_ rfl), (hal.cell (p := ⟨w.heap.size, 1, none⟩) hXl).trans (HX.out.at_ rfl), (hal.cell (p := ⟨w.heap.size, 2, none⟩) hXl).trans (HX.out.at_ rfl)⟩
 clear hK K;try simp only [Act.put, sA, sB, sC]
 refine rdG 8 (fun K hK => ?_);refine zdy _ rfl _ _ 25 rfl B.base 44 i0 _ 3 32 Tryz.underlying25 hi hz0 hz1 hz2 rfl (by decide) (.slice A r3.length c) r3.length (zd2 r3) (by simp [Act.eval]) (zBg (zaj HT0.out.o3 hal)) (some ⟨w0.heap.size, 0, none⟩) 1 1 (zco x) (by simp [Act.eval]) rfl (zgx w0 (zco x) 44) (by intro u hu; simp [zco] at hu; rcases hu with rfl | rfl | rfl <;> rfl) (by unfold maxLen; omega) (by omega) (by have := HB0.out.size; have := hal.size; exact zK4 hbs (zK4 HB0.out.size hal.size)) ?_
 intro v' w5 hown hgrow0 hloc;have hgrow := zrx hgrow0;have c5 := (zdm (off := 2) hgrow hcl0 hne).trans c2;have g5 := (zdv (off := 2) hgrow hcl0 hne).trans f2;have x5 := (zdm (off := 0) hgrow hXl hneX).trans (HX.out.at_ rfl);have y5 := (zdm (off := 1) hgrow hXl hneX).trans (HX.out.at_ rfl);have z5 := (zdm (off := 2) hgrow hXl hneX).trans (HX.out.at_ rfl);obtain ⟨A5, d5, rfl⟩ := za8 hown;refine hK.out _ _ ?hSal9 (fun hHeld => ?_)
 case hSal9 => exact ⟨c5, x5, y5, z5⟩
 clear hK K;try simp only [Act.put, sA, sB, sC]
 refine rdG 9 (fun K hK => ?_);go_simp
 refine hK.out _ _ ?hSal10 (fun hHeld => ?_)
 case hSal10 => exact hHeld
 clear hK K;try simp only [Act.put, sA, sB, sC]
 refine rdG 10 (fun K hK => ?_);go_simp
 refine hK.out _ _ ?hSal11 (fun hHeld => ?_)
 case hSal11 => exact hHeld
 clear hK K;try simp only [Act.put, sA, sB, sC]
 refine rdG 11 (fun K hK => ?_);go_simp
 refine hK.out _ _ ?hSal12 (fun hHeld => ?_)
 case hSal12 => exact hHeld
 clear hK K;try simp only [Act.put, sA, sB, sC]
 have hpush := TreeOwn.pushAlias HT0.out x (zJx w0.heap.size w0) hal (by simpa [zd2] using hown) hgrow hloc;have hpk : ∀ g, g < w.heap.size → g ≠ B.cb → (Value.slice A r3.length c).ownBlock ≠ some g → (w5.setCell ⟨B.cb, 2, none⟩ (.slice A5 (r3.length + 1) d5)).heap[g]? = w.heap[g]? := fun g h1 h2 h3 => (zjl (w := w0) (w1 := w0) (zJx w0.heap.size w0) hal hgrow (zJy h1 HB0.out.size) h2 h3 _ 2).trans (HB0.out.block g h1)
 have hpv : ∀ g, (Value.slice A5 (r3.length + 1) d5).ownBlock = some g → g < w.heap.size → (Value.slice A r3.length c).ownBlock = some g := fun g h1 h2 => by
  rcases hloc with q | q
  · exact q ▸ h1
  · rw [q] at h1
    injection h1 with h1
    have := hal.size;have := HB0.out.size;have : (w0.alloc (.cells #[.string x.name, .int .i64 x.type, .int .i64 x.pos] 44)).drew.heap.size = (w0.alloc (.cells #[.string x.name, .int .i64 x.type, .int .i64 x.pos] 44)).heap.size := rfl;omega
 have a := PS.pushA H.out HB.out E1.out E2.out E9.out hn hpush.1 (fun n h1 h2 => (HB0.out.mono h2).trans (hpush.2 n h1 (zK4 h2 HB0.out.size))) hpk hpv;have QA := zJv a;clear a hpush hpk hpv hown hgrow hloc;refine rdL 12 (fun K hK => ?_);go_simp
 refine hK.out _ _ ?_;clear hK K;try simp only [Act.put, sA, sB, sC]
 refine zah (by kernel_rfl) ?_ _;refine NoPanic.normal ?_;go_wp2_with fail
 go_end0
 exact ⟨rfl, QA.out⟩
set_option maxRecDepth 100000 in
theorem zos {ts : List Tk} (hT : TsOk ts) (hV : ∀ T : St → R3 Nat, Rule3 ts 21 T → Prog3 ts T → VRule ts T) (f : Nat) {B : PE} {w : World} {s : St} (hBts : B.ts = ts) (h : PS B w s) (hk : s.k < ts.length) (hu : textM ts f s ≠ .un) :
 Calls Tryz.prog 19 #[B.ptr] w (Res (fun _ => .tuple #[]) B w s (textM ts f s)) := by
 generalize hR : textM ts f s = R at hu ⊢;unfold textM at hR;have hY := zjo hT hV f;have pY := zix hT f;have hE := zAf hT hV f;have pE := zm2 hT f;have hbw := h.bw;have hfew := hT.few;have hfd := tokF2;have hfe := tokF1;have Q0 := zJv (Aft.refl h);have HB := zJv hBts;clear h hBts hV;go_enter Tryz.func19, Tryz.ntmps19
 go_wp2_with fail
 go_loopw [] (fun wr => ∃ (s1 : St) (f1 : Nat), Hid (Aft B w s1 wr) ∧ Hid (s1.k < ts.length) ∧ Hid (s1.op = s.op) ∧ Hid ((zb7 ts (typeM ts f) f1 s1).bind (fun _ s1 => (termM ts f s1).bind fun _ s2 => R3.ok () s2) = R)) (fun wr => ts.length - kAt B wr)
 case atStart => exact ⟨s, _, Q0, zJv hk, zJv rfl, zJv hR⟩
 case round =>
  clear Q0 hR;obtain ⟨s1, f1, HA, HK, HO, HQ⟩ := hrel;have hP := HQ.out;have hkA := HA.out.ps.kAt;have hkk := HK.out
  cases f1 with
  | zero => exact absurd hP.symm hu
  | succ f1 =>
   unfold zb7 at hP;by_cases hb : isA ts s1 [[116, 121, 112, 101]] = true
   · rw [if_pos hb] at hP
     have hk1 : (s1.on 1).k < ts.length := hT.step HK.out (za0 hb);go_wp2_with fail
     refine (zei (B := B) HB.out HA.out.ps HK.out [116, 121, 112, 101] hb).mono ?_;rintro e w2 ⟨rfl, a2⟩;have q2 := HA.out.trans a2;clear a2;go_wp2_with fail
     rcases hM3 : zag ts 2 (s1.on 1) with ⟨t, s2⟩ | ⟨c, p⟩ | _
     case un => rw [hM3] at hP; (try simp only [R3.unB] at hP); exact absurd hP.symm hu
     case bad =>
      have cc := ze3 (B := B) HB.out q2.ps hk1 2;rw [hM3] at cc hP;try simp only [R3.badB] at hP
      refine cc.mono ?_;rintro e w3 ⟨rfl, k3⟩;have A := zJv (q2.bad (s0 := s) (HO.out) k3 rfl);clear k3 cc;go_wp2_with fail
      refine ⟨rfl, ?_⟩;rw [← hP];exact ⟨rfl, A.out⟩
     have cc := ze3 (B := B) HB.out q2.ps hk1 2;rw [hM3] at cc hP;try simp only [R3.okB] at hP
     obtain ⟨g3, k3, o3⟩ := zel hT (by decide) (s1.on 1) t s2 hk1 hM3;refine cc.mono ?_;rintro e w3 ⟨rfl, a3⟩;have q3 := q2.trans a3;clear a3 cc;go_wp2_with fail
     obtain ⟨w4, hW4⟩ : ∃ W, w3.alloc (.cells (tokL t).toArray 77) = W := ⟨_, rfl⟩;have hb4 : Below w3.heap.size w3 w4 := by rw [← hW4]; exact (zJx _ _).alloc (zJw _) _
     have hX : Blk w4 w3.heap.size 77 (tokL t).toArray := by rw [← hW4]; exact Blk.new w3 77 _
     obtain ⟨G4, m4, q4⟩ := q3.own1 hb4 w3.heap.size (zJw _) hX.lt;rw [hW4];clear hW4 hb4;rcases hM5 : mustM ts [61] s2 with ⟨u, s3⟩ | ⟨c, p⟩ | _
     case un => rw [hM5] at hP; (try simp only [R3.unB] at hP); exact absurd hP.symm hu
     case bad =>
      have cc := mustR (B := (B.with G4)) HB.out q4.ps k3 [61];rw [hM5] at cc hP;try simp only [R3.badB] at hP
      refine cc.mono ?_;rintro e w5 ⟨rfl, k5⟩;have A := zJv (q4.bad (s0 := s) (o3.trans (HO.out)) k5 rfl);clear k5 cc;go_wp2_with fail
      refine ⟨rfl, ?_⟩;rw [← hP];exact ⟨rfl, A.out⟩
     have cc := mustR (B := (B.with G4)) HB.out q4.ps k3 [61];rw [hM5] at cc hP;try simp only [R3.okB] at hP
     obtain ⟨g5, k5, o5⟩ := zap hT s2 u s3 k3 hM5;refine cc.mono ?_;rintro e w5 ⟨rfl, a5⟩;have q5 := q4.call a5;have hX := q4.blk a5 m4 hX;clear a5 cc;have hX : Blk w5 w3.heap.size 77 #[.int .i64 (t.1 : Int), .string (bs t.2.1), .int .i64 (t.2.2 : Int)] := hX;go_wp2_with fail
     have qd6 := q5.below (w2 := w5.drew) (zJx _ _).drew;have hX := hX.below (w' := w5.drew) (zJx _ _).drew hX.lt;rcases hM6 : typeM ts f s3 with ⟨j, s4⟩ | ⟨c, p⟩ | _
     case un => rw [hM6] at hP; (try simp only [R3.unB] at hP); exact absurd hP.symm hu
     case bad =>
      have cc := hY (B.with G4) w5.drew s3 HB.out qd6.ps k5 (by rw [hM6]; simp);rw [hM6] at cc hP;try simp only [R3.badB] at hP
      refine za5 (S := fun W => W.cell? ⟨B.pb, 4, none⟩ = some (.pointer (some ⟨B.cb, 0, none⟩)) ∧ W.cell? ⟨w3.heap.size, 1, none⟩ = some (.string (bs t.2.1)) ∧ W.cell? ⟨w3.heap.size, 2, none⟩ = some (.int .i64 (t.2.2 : Int))) (fun j => j == 11) (by kernel_rfl) (⟨qd6.ps.blk.at_ rfl, hX.at_ rfl, hX.at_ rfl⟩) (fun hHeld => ?_);refine tkG 0 ?_;try simp only [Act.put, sA, sB, sC]
      refine tkG 1 ?_;try simp only [Act.put, sA, sB, sC]
      refine tkG 2 ?_;try simp only [Act.put, sA, sB, sC]
      refine tkG 3 ?_;try simp only [Act.put, sA, sB, sC]
      refine tkG 4 ?_;try simp only [Act.put, sA, sB, sC]
      refine tkG 5 ?_;try simp only [Act.put, sA, sB, sC]
      refine tkG 6 ?_;try simp only [Act.put, sA, sB, sC]
      refine tkG 8 ?_;try simp only [Act.put, sA, sB, sC]
      refine tkG 9 ?_;try simp only [Act.put, sA, sB, sC]
      refine rdG 7 (fun K hK => ?_);go_simp
      refine cc.mono ?_;rintro e w6 ⟨rfl, k6⟩;have A := zJv (qd6.bad (s0 := s) (o5.trans (o3.trans (HO.out))) k6 rfl);clear k6 cc;go_wp2_with fail
      rw [← hP];exact ⟨rfl, rfl, A.out⟩
     have cc := hY (B.with G4) w5.drew s3 HB.out qd6.ps k5 (by rw [hM6]; simp);rw [hM6] at cc hP;try simp only [R3.okB] at hP
     obtain ⟨g6, k6, o6⟩ := pY s3 j s4 k5 hM6;refine wp_region_noPanic ?_;refine za5 (S := fun W => W.cell? ⟨B.pb, 4, none⟩ = some (.pointer (some ⟨B.cb, 0, none⟩)) ∧ W.cell? ⟨w3.heap.size, 1, none⟩ = some (.string (bs t.2.1)) ∧ W.cell? ⟨w3.heap.size, 2, none⟩ = some (.int .i64 (t.2.2 : Int))) (fun j => j == 11) (by kernel_rfl) (⟨qd6.ps.blk.at_ rfl, hX.at_ rfl, hX.at_ rfl⟩) (fun hHeld => ?_);refine tkG 0 ?_;try simp only [Act.put, sA, sB, sC]
     refine tkG 1 ?_;try simp only [Act.put, sA, sB, sC]
     refine tkG 2 ?_;try simp only [Act.put, sA, sB, sC]
     refine tkG 3 ?_;try simp only [Act.put, sA, sB, sC]
     refine tkG 4 ?_;try simp only [Act.put, sA, sB, sC]
     refine tkG 5 ?_;try simp only [Act.put, sA, sB, sC]
     refine tkG 6 ?_;try simp only [Act.put, sA, sB, sC]
     refine tkG 8 ?_;try simp only [Act.put, sA, sB, sC]
     refine tkG 9 ?_;try simp only [Act.put, sA, sB, sC]
     refine rdG 7 (fun K hK => ?_);go_simp
     refine cc.mono ?_;rintro e w6 ⟨rfl, a6⟩;have q6 := qd6.call a6;have hX := qd6.blk a6 m4 hX;clear a6 cc;go_wp2_with fail
     refine hK.out _ _ ?hStx20 (fun hHeld => ?_)
     case hStx20 => exact ⟨q6.ps.blk.at_ rfl, hX.at_ rfl, hX.at_ rfl⟩
     clear hK K;try simp only [Act.put, sA, sB, sC]
     refine tkG 10 ?_;try simp only [Act.put, sA, sB, sC]
     refine rdL 11 (fun K hK => ?_);have hlt3 : s4.t3.length < s4.k := by rw [zGj hM6, zGh hM5, zCs hM3]; have := HA.out.ps.n3; have e0 : (s1.on 1).k = s1.k + 1 := rfl; show s1.t3.length < _; omega
     have cA := zEw (B := (B.with G4)) q6.ps hlt3 (by omega) ⟨bs t.2.1, ((j : Nat) : Int), ((t.2.2 : Nat) : Int)⟩;go_simp
     go_at_call 42
     refine cA.mono ?_;rintro e w7 ⟨rfl, a7⟩;have q7 := q6.call a7;have hX := q6.blk a7 m4 hX;clear a7 cA;go_wp2_with fail
     refine hK.out _ _ ?_;clear hK K;try simp only [Act.put, sA, sB, sC]
     refine zah (by kernel_rfl) ?_ _;refine NoPanic.normal ?_;go_wp2_with fail
     rcases hM8 : mustM ts [59] (s4.addA ⟨bs t.2.1, ((j : Nat) : Int), ((t.2.2 : Nat) : Int)⟩) with ⟨u, s5⟩ | ⟨c, p⟩ | _
     case un => rw [hM8] at hP; (try simp only [R3.unB] at hP); exact absurd hP.symm hu
     case bad =>
      have cc := mustR (B := (B.with G4)) HB.out q7.ps k6 [59];rw [hM8] at cc hP;try simp only [R3.badB] at hP
      refine cc.mono ?_;rintro e w8 ⟨rfl, k8⟩;have A := zJv (q7.bad (s0 := s) (o6.trans (o5.trans (o3.trans (HO.out)))) k8 rfl);clear k8 cc;go_wp2_with fail
      refine ⟨rfl, ?_⟩;rw [← hP];exact ⟨rfl, A.out⟩
     have cc := mustR (B := (B.with G4)) HB.out q7.ps k6 [59];rw [hM8] at cc hP;try simp only [R3.okB] at hP
     obtain ⟨g8, k8, o8⟩ := zap hT (s4.addA ⟨bs t.2.1, ((j : Nat) : Int), ((t.2.2 : Nat) : Int)⟩) u s5 k6 hM8;refine cc.mono ?_;rintro e w8 ⟨rfl, a8⟩;have q8 := q7.call a8;have hX := q7.blk a8 m4 hX;clear a8 cc;have Q9 := zJv q8;clear q8 hX;go_wp2_with fail
     exact ⟨⟨s5, f1, zJv Q9.out.out, zJv k8, zJv (o8.trans (o6.trans (o5.trans (o3.trans (HO.out))))), zJv hP⟩, by
      rw [show kAt B _ = s5.k from Q9.out.kAt, hkA];have e0 : (s1.on 1).k = s1.k + 1 := rfl;have e1 : (s4.addA ⟨bs t.2.1, ((j : Nat) : Int), ((t.2.2 : Nat) : Int)⟩).k = s4.k := rfl
      omega⟩
   · rw [if_neg hb] at hP
     have hb2 : isA ts s1 [[116, 121, 112, 101]] = false := by simpa using hb
     simp only [R3.okB] at hP;go_wp2_with fail
     refine (zed (B := B) HB.out HA.out.ps HK.out [116, 121, 112, 101] hb2).mono ?_;rintro e w101 ⟨rfl, hb101⟩;have q101 := HA.out.below hb101;clear hb101;go_wp2_with fail
     rcases hM102 : termM ts f s1 with ⟨i, s2⟩ | ⟨c, p⟩ | _
     case un => rw [hM102] at hP; (try simp only [R3.unB] at hP); exact absurd hP.symm hu
     case bad =>
      have cc := hE B w101 s1 HB.out q101.ps HK.out (by rw [hM102]; simp);rw [hM102] at cc hP;try simp only [R3.badB] at hP
      refine cc.mono ?_;rintro e w102 ⟨rfl, k102⟩;have A := zJv (q101.bad (s0 := s) (HO.out) k102 rfl);clear k102 cc;go_wp2_with fail
      refine ⟨rfl, ?_⟩;rw [← hP];exact ⟨rfl, A.out⟩
     have cc := hE B w101 s1 HB.out q101.ps HK.out (by rw [hM102]; simp);rw [hM102] at cc hP;try simp only [R3.okB] at hP
     obtain ⟨g102, k102, o102⟩ := pE s1 i s2 HK.out hM102;refine cc.mono ?_;rintro e w102 ⟨rfl, a102⟩;have q102 := q101.trans a102;clear a102 cc;have Q103 := zJv q102;clear q102;go_wp2_with fail
     go_end0
     rw [← hP];exact ⟨rfl, Q103.out⟩
end Go.Proofs.YtidmeodmkcomlaaGreatDoor
