/- Simple types, and types: what the rules give, or what is wrong. Terms: what the rule gives, or what is wrong. Names for types, and the rule text: what it -/
import Derived.Test.YtidmeodmkcomlaaGreatDoorK40
import Derived.Test.YtidmeodmkcomlaaGreatDoorK39
set_option linter.unusedSimpArgs false
set_option linter.unusedVariables false
namespace Go.Proofs.YtidmeodmkcomlaaGreatDoor
open Go Go.Proofs Go.RowKit
set_option maxHeartbeats 8000000
theorem zwy {t : Tk} {x : TypD} (h : zc0 t = some x) : x.names = [] ∧ x.kids = [] := by
 rcases zjq t with ⟨y, e, _, rfl⟩ | ⟨y, e, _, _, rfl⟩ | ⟨e, _⟩
 · rw [e] at h; injection h with h; subst h; exact ⟨rfl, rfl⟩
 · rw [e] at h; injection h with h; subst h; exact ⟨rfl, rfl⟩
 · rw [e] at h; cases h
theorem zDf {B : PE} {w : World} {s : St} (h : PS B w s) (x : TypD) (hx : x.names = [] ∧ x.kids = []) : Calls Tryz.prog 49 #[B.ptr, .agg (za4 x nP2).toArray] w (Res natV B w s (newY s x)) :=
 zin h x nP2 ⟨by rw [hx.1]; exact SlAt.nil, by rw [hx.2]; exact SlAt.nil⟩ ⟨by rw [hx.1]; simp, by rw [hx.2]; simp⟩
theorem zBf {B : PE} {w : World} {s : St} (h : PS B w s) (kind pos k1 k2 : Int) :
 Calls Tryz.prog 49 #[B.ptr, .agg #[.int .i64 kind, .int .i64 pos, .string ⟨#[]⟩, .slice none 0 0, .slice (some ⟨w.heap.size, 0, none⟩) 2 2, .bool false]] (w.alloc (.cells #[.int .i64 k1, .int .i64 k2] 3)) (Res natV B w s (newY s ⟨kind, pos, ⟨#[]⟩, [], [k1, k2], false⟩)) := by
 have hB0 : Below w.heap.size w (w.alloc (.cells #[.int .i64 k1, .int .i64 k2] 3)) := (zJx _ _).alloc (zJw _) _;have hX : Blk (w.alloc (.cells #[.int .i64 k1, .int .i64 k2] 3)) w.heap.size 3 #[.int .i64 k1, .int .i64 k2] := Blk.new w 3 _;refine (zin (h.below hB0) ⟨kind, pos, ⟨#[]⟩, [], [k1, k2], false⟩ ⟨none, 0, some ⟨w.heap.size, 0, none⟩, 2⟩ ⟨SlAt.nil, ⟨rfl, fun _ => ⟨w.heap.size, 0, rfl, hX.lt, fun j u hu => by rw [Nat.zero_add, hX.cell j]; simpa using hu⟩⟩⟩ ⟨by simp, by simp⟩).mono (fun e w' q => ?_);exact q.lift (h.aft hB0)
theorem on1T {ts : List Tk} {B : PE} {w : World} {s : St} (hBts : B.ts = ts) (h : PS B w s) (hk : s.k < ts.length) : Aft B w (s.on 1) (w.setCell ⟨B.pb, 1, none⟩ (.int .i64 ((s.k : Int) + 1))) := h.on1 (by rw [hBts]; exact hk)
set_option maxRecDepth 100000 in
theorem zh3 {ts : List Tk} (hT : TsOk ts) {T : St → R3 Nat} (hY : Rule3 ts 21 T) (pY : Prog3 ts T) {B : PE} {w : World} {s : St} (hBts : B.ts = ts) (h : PS B w s) (hk : s.k < ts.length) (hb2 : isA ts s [[91]] = false) (hu : zay ts T s ≠ .un) : Calls Tryz.prog 46 #[B.ptr] w (Res natV B w s (zay ts T s)) := by
 generalize hR : zay ts T s = R at hu ⊢;have hbw := h.bw;have hpos : posA ts s = (tkA ts s.k).2.2 := rfl;have hbs : bs [] = ⟨#[]⟩ := rfl;have cS : ∀ (x : List UInt8) W, PS B W s → Calls Tryz.prog 47 #[B.ptr, .slice (some ⟨W.heap.size, 0, none⟩) 1 1] (W.alloc (.cells #[.string ⟨x.toArray⟩] 9)) fun e w' => e = .returned (.bool (isA ts s [x])) ∧ Below W.heap.size W w' := fun x W p => zee hBts p hk x;have H := zJv h;clear h;unfold zay at hR;by_cases hc : isA ts s [[40]] = true
 · rw [if_pos hc] at hR
   have hk1 : (s.on 1).k < ts.length := hT.step hk (za0 hc);have cA := cS [91] w H.out;rw [hb2] at cA;have cB := cS [40];rw [hc] at cB;clear cS;go_enter Tryz.func46, Tryz.ntmps46
   go_wp2_with fail
   refine (cA).mono ?_;rintro e w2 ⟨rfl, hb2⟩;have q2 := H.out.aft hb2;clear hb2;clear cA;go_wp2_with fail
   refine (cB w2 q2.ps).mono ?_;rintro e w3 ⟨rfl, hb3⟩;have q3 := q2.below hb3;clear hb3;clear cB;have c1 := q3.ps.blk.cell 1;have f1 := q3.ps.blk.frozen 1;simp only [PE.cells, gA, gB, gC] at c1;have hlb : s.k ≤ 2097152 := by have := hT.few; omega
   obtain ⟨w4, hW4⟩ : ∃ W, w3.setCell ⟨B.pb, 1, none⟩ (.int .i64 ((s.k : Int) + 1)) = W := ⟨_, rfl⟩;have a4 := on1T (B := B) hBts q3.ps hk;have a4 : Aft B w3 (s.on 1) w4 := by rw [← hW4]; exact a4
   have q4 := q3.trans a4;clear a4;go_wp2_with fail
   rcases hM5 : T (s.on 1) with ⟨i, s1⟩ | ⟨c, p⟩ | _
   case un => rw [hM5] at hR; (try simp only [R3.unB] at hR); exact absurd hR.symm hu
   case bad =>
    have cc := hY B w4 (s.on 1) hBts q4.ps hk1 (by rw [hM5]; simp);rw [hM5] at cc hR;try simp only [R3.badB] at hR
    refine cc.mono ?_;rintro e w5 ⟨rfl, k5⟩;have A := zJv (q4.bad (s0 := s) (rfl) k5 rfl);clear k5 cc;go_wp2_with fail
    refine ⟨rfl, ?_⟩;rw [← hR];exact ⟨rfl, A.out⟩
   have cc := hY B w4 (s.on 1) hBts q4.ps hk1 (by rw [hM5]; simp);rw [hM5] at cc hR;try simp only [R3.okB] at hR
   obtain ⟨g5, k5, o5⟩ := pY (s.on 1) i s1 hk1 hM5;refine cc.mono ?_;rintro e w5 ⟨rfl, a5⟩;have q5 := q4.trans a5;clear a5 cc;clear c1 f1 hW4;go_wp2_with fail
   rcases hM6 : mustM ts [41] s1 with ⟨u, s2⟩ | ⟨c, p⟩ | _
   case un => rw [hM6] at hR; (try simp only [R3.unB] at hR); exact absurd hR.symm hu
   case bad =>
    have cc := mustR (B := B) hBts q5.ps k5 [41];rw [hM6] at cc hR;try simp only [R3.badB] at hR
    refine cc.mono ?_;rintro e w6 ⟨rfl, k6⟩;have A := zJv (q5.bad (s0 := s) (o5) k6 rfl);clear k6 cc;go_wp2_with fail
    refine ⟨rfl, ?_⟩;rw [← hR];exact ⟨rfl, A.out⟩
   have cc := mustR (B := B) hBts q5.ps k5 [41];rw [hM6] at cc hR;try simp only [R3.okB] at hR
   obtain ⟨g6, k6, o6⟩ := zap hT s1 u s2 k5 hM6;refine cc.mono ?_;rintro e w6 ⟨rfl, a6⟩;have q6 := q5.trans a6;clear a6 cc;have Q7 := zJv q6;clear q6;go_wp2_with fail
   go_ret;rw [← hR];exact ⟨rfl, Q7.out⟩
 rw [if_neg hc] at hR;have hc2 : isA ts s [[40]] = false := by simpa using hc
 by_cases hd : isA ts s [[123]] = true
 · rw [if_pos hd] at hR
   have hs := za0 hd;have hk1 : (s.on 1).k < ts.length := hT.step hk hs;have cA := cS [91] w H.out;rw [hb2] at cA;have cB := cS [40];rw [hc2] at cB;have cC := cS [123];rw [hd] at cC;have cX := fun (W : World) (p : PS B W s) => nextR hBts p hk;have hfd := tokF2;have hown0 : (tkA ts s.k).2.2 ≤ 4294967296 := zK4 (hT.plc _) (by decide);rw [hpos, hbs] at hR;clear cS hpos hd hc hc2 hb2;generalize tkA ts s.k = t0 at *;go_enter Tryz.func46, Tryz.ntmps46
   go_wp2_with fail
   refine (cA).mono ?_;rintro e w2 ⟨rfl, hb2⟩;have q2 := H.out.aft hb2;clear hb2;clear cA;go_wp2_with fail
   refine (cB w2 q2.ps).mono ?_;rintro e w3 ⟨rfl, hb3⟩;have q3 := q2.below hb3;clear hb3;clear cB;go_wp2_with fail
   refine (cC w3 q3.ps).mono ?_;rintro e w4 ⟨rfl, hb4⟩;have q4 := q3.below hb4;clear hb4;clear cC;go_wp2_with fail
   refine (cX w4 q4.ps).mono ?_;rintro e w5 ⟨rfl, a5⟩;have q5 := q4.trans a5;clear a5;clear cX;go_wp2_with fail
   obtain ⟨w6, hW6⟩ : ∃ W, w5.alloc (.cells #[iv 8, iv ((t0.2.2 : Nat) : Int), .string ⟨#[]⟩, .slice none 0 0, .slice none 0 0, .bool false] 40) = W := ⟨_, rfl⟩;obtain ⟨G6, q6, oX⟩ := OwnY.fresh q5 8 ((t0.2.2 : Nat) : Int) ⟨#[]⟩;rw [hW6] at q6 oX;rw [hW6];clear hW6;have hXs : B.base ≤ w5.heap.size := zK4 hbw q5.kt.1;have pF : ∀ x s1, zan ts T t0.2.2 [58] (s.on 1) = .ok x s1 → (s.on 1).k < s1.k ∧ s1.k < ts.length ∧ s1.op = (s.on 1).op := by intro x s1 e; have := zhl (q := True) hT (zav pY _) t0.2.2 [58] (s.on 1) hk1 rfl; rw [e] at this; exact ⟨this.1, this.2⟩
   have x1 := oX.blk.cell 1;have y1 := oX.blk.frozen 1;have x3 := oX.blk.cell 3;have y3 := oX.blk.frozen 3;have x4 := oX.blk.cell 4;have y4 := oX.blk.frozen 4;simp only [gA, gB, gC] at x1 x3 x4;rcases hM7 : zan ts T t0.2.2 [58] (s.on 1) with ⟨x, s1⟩ | ⟨c, p⟩ | _
   case un => rw [hM7] at hR; (try simp only [R3.unB] at hR); exact absurd hR.symm hu
   case bad =>
    have cc := zNu hT hY pY (B := (B.with G6)) hBts q6.ps hk1 t0.2.2 hown0 [58] (by rw [hM7]; simp);rw [hM7] at cc hR;try simp only [R3.badB] at hR
    go_wp2_with fail
    refine cc.mono ?_;rintro e w7 ⟨rfl, k7⟩;have A := zJv (q6.bad (s0 := s) (rfl) k7 rfl);clear k7 cc;go_wp2_with fail
    rw [← hR];exact ⟨rfl, rfl, A.out⟩
   have cc := zNu hT hY pY (B := (B.with G6)) hBts q6.ps hk1 t0.2.2 hown0 [58] (by rw [hM7]; simp);rw [hM7] at cc hR;try simp only [R3.okB] at hR
   obtain ⟨g7, k7, o7⟩ := pF _ _ hM7;go_wp2_with fail
   refine cc.mono ?_;rintro e w7 ⟨Gf, A5, A6, n5, n6, c5, c6, rfl, aF, rF, l5, l6⟩;have q7 := q6.nest aF;have oX := oX.call2 q6 aF;clear x1 x3 x4 y1 y3 y4;clear cc;have x3 := oX.blk.cell 3;have y3 := oX.blk.frozen 3;have x4 := oX.blk.cell 4;have y4 := oX.blk.frozen 4;simp only [gA, gB, gC] at x3 x4;have r5 : w7.ownsRow 0 9 1 (.slice A5 n5 c5) (bss x.1).length ((bss x.1).map .string) := (show x.1.length = (bss x.1).length by simp [bss]) ▸ rF.r5;obtain ⟨q8, oX8⟩ := OwnY.put34 q7 hbw oX r5 (fun g e => .inr (rF.g5 g e)) rF.r6 (fun g e => .inr (rF.g6 g e));obtain ⟨w8, hW8⟩ : ∃ W, (w7.setCell ⟨w5.heap.size, 3, none⟩ (.slice A5 n5 c5)).setCell ⟨w5.heap.size, 4, none⟩ (.slice A6 n6 c6) = W := ⟨_, rfl⟩;rw [hW8] at q8 oX8;clear oX;have oX : OwnY w8 (fun b => G6 b ∨ Gf b) w5.heap.size ⟨8, ((t0.2.2 : Nat) : Int), ⟨#[]⟩, bss x.1, x.2, false⟩ (.slice A5 n5 c5) (.slice A6 n6 c6) := oX8;clear oX8 r5 rF aF;have cc : Calls Tryz.prog 49 #[B.ptr, .agg #[iv 8, iv ((t0.2.2 : Nat) : Int), .string ⟨#[]⟩, .slice A5 n5 c5, .slice A6 n6 c6, .bool false]] w8 (Res natV (B.with (fun b => G6 b ∨ Gf b)) w8 s1 (newY s1 ⟨8, ((t0.2.2 : Nat) : Int), ⟨#[]⟩, bss x.1, x.2, false⟩)) := OwnY.new q8 oX ⟨by simp only [bss, zKd]; omega, by show x.2.length ≤ _; omega⟩;have z0 := oX.blk.cell 0;have z1 := oX.blk.cell 1;have z2 := oX.blk.cell 2;have z3 := oX.blk.cell 3;have z4 := oX.blk.cell 4;have z5 := oX.blk.cell 5;simp only [gA, gB, gC] at z0 z1 z2 z3 z4 z5;rcases hN : newY s1 ⟨8, ((t0.2.2 : Nat) : Int), ⟨#[]⟩, bss x.1, x.2, false⟩ with ⟨i9, s9⟩ | ⟨c, p⟩ | _
   case un => exact (znm hN).elim
   case bad =>
    rw [hN] at cc hR;have Q9 := zJv q8;clear q8 oX;go_wp2_with fail
    refine cc.mono ?_;rintro e w10 ⟨rfl, k10⟩;have A := zJv (Q9.out.bad (s0 := s) (o7) k10 rfl);clear k10 cc;go_wp2_with fail
    rw [← hR];exact ⟨rfl, rfl, A.out⟩
   rw [hN] at cc hR;have Q11 := zJv q8;clear q8 oX;go_wp2_with fail
   refine cc.mono ?_;rintro e w12 ⟨rfl, a12⟩;have Q12 := zJv (Q11.out.call a12).out;clear a12 cc;go_wp2_with fail
   go_ret;rw [← hR];exact ⟨rfl, Q12.out⟩
 rw [if_neg hd] at hR;have hd2 : isA ts s [[123]] = false := by simpa using hd
 have cA := cS [91] w H.out;rw [hb2] at cA;have cB := cS [40];rw [hc2] at cB;have cC := cS [123];rw [hd2] at cC;have cP := fun (W : World) (p : PS B W s) => zwl hBts p hk;clear cS hd hd2 hc hc2 hb2;rcases hx : zc0 (tkA ts s.k) with _ | x
 case none =>
  rw [hx] at hR cP;dsimp only at hR cP;go_enter Tryz.func46, Tryz.ntmps46
  go_wp2_with fail
  refine (cA).mono ?_;rintro e w2 ⟨rfl, hb2⟩;have q2 := H.out.aft hb2;clear hb2;clear cA;go_wp2_with fail
  refine (cB w2 q2.ps).mono ?_;rintro e w3 ⟨rfl, hb3⟩;have q3 := q2.below hb3;clear hb3;clear cB;go_wp2_with fail
  refine (cC w3 q3.ps).mono ?_;rintro e w4 ⟨rfl, hb4⟩;have q4 := q3.below hb4;clear hb4;clear cC;go_wp2_with fail
  refine (cP w4 q4.ps).mono ?_;rintro e w5 ⟨rfl, hb5⟩;have q5 := q4.below hb5;clear hb5 cP;have Q6 := zJv q5;clear q5;go_wp2_with fail
  rw [← hR];exact ⟨rfl, rfl, s, rfl, Q6.out⟩
 rw [hx] at hR cP;dsimp only at hR cP;have hk1 : (s.on 1).k < ts.length := hT.step hk (zf8 hx);have hfl := zwy hx;dsimp only [za4] at cP;have cN := fun (W : World) (p : PS B W (s.on 1)) => zDf p x hfl;dsimp only [za4] at cN;simp only [hfl.1, hfl.2, zKc] at cP cN;go_enter Tryz.func46, Tryz.ntmps46
 go_wp2_with fail
 refine (cA).mono ?_;rintro e w7 ⟨rfl, hb7⟩;have q7 := H.out.aft hb7;clear hb7;clear cA;go_wp2_with fail
 refine (cB w7 q7.ps).mono ?_;rintro e w8 ⟨rfl, hb8⟩;have q8 := q7.below hb8;clear hb8;clear cB;go_wp2_with fail
 refine (cC w8 q8.ps).mono ?_;rintro e w9 ⟨rfl, hb9⟩;have q9 := q8.below hb9;clear hb9;clear cC;go_wp2_with fail
 refine (cP w9 q9.ps).mono ?_;rintro e w10 ⟨rfl, hb10⟩;have q10 := q9.below hb10;clear hb10 cP;obtain ⟨w11, hW11⟩ : ∃ W, w10.alloc (.cells #[.int .i64 x.kind, .int .i64 x.pos, .string x.name, .slice none 0 0, .slice none 0 0, .bool x.opn] 40) = W := ⟨_, rfl⟩;have hb11 : Below w10.heap.size w10 w11 := by rw [← hW11]; exact (zJx _ _).alloc (zJw _) _
 have hX : Blk w11 w10.heap.size 40 #[.int .i64 x.kind, .int .i64 x.pos, .string x.name, .slice none 0 0, .slice none 0 0, .bool x.opn] := by rw [← hW11]; exact Blk.new w10 40 _
 have q11 := q10.below hb11;have hpb := H.out.blk.lt;have hsz : w.heap.size ≤ w10.heap.size := q10.kt.1;have c1 := q11.ps.blk.cell 1;have f1 := q11.ps.blk.frozen 1;simp only [PE.cells, gA, gB, gC] at c1;have hlb : s.k ≤ 2097152 := by have := hT.few; omega
 obtain ⟨w12, hW12⟩ : ∃ W, w11.setCell ⟨B.pb, 1, none⟩ (.int .i64 ((s.k : Int) + 1)) = W := ⟨_, rfl⟩;have a12 := on1T (B := B) hBts q11.ps hk;have a12 : Aft B w11 (s.on 1) w12 := by rw [← hW12]; exact a12
 have q12 := q11.trans a12;clear a12;have hX := hX.far (p := ⟨B.pb, 1, none⟩) (by dsimp only; omega) (.int .i64 ((s.k : Int) + 1));rw [hW12] at hX;have x0 := hX.cell 0;have x1 := hX.cell 1;have x2 := hX.cell 2;have x3 := hX.cell 3;have x4 := hX.cell 4;have x5 := hX.cell 5;simp only [gA, gB, gC] at x0 x1 x2 x3 x4 x5;have cM := cN w12 q12.ps;clear cN;rcases hN : newY (s.on 1) x with ⟨i9, s9⟩ | ⟨c, p⟩ | _
 case un => exact (znm hN).elim
 case bad =>
  rw [hN] at cM hR;have Q13 := zJv q12;clear q12 hX hb11;go_wp2_with fail
  refine cM.mono ?_;rintro e w14 ⟨rfl, k14⟩;have A := zJv (Q13.out.bad (s0 := s) (rfl) k14 rfl);clear k14 cM;go_wp2_with fail
  rw [← hR];exact ⟨rfl, rfl, A.out⟩
 rw [hN] at cM hR;have Q15 := zJv q12;clear q12 hX hb11;go_wp2_with fail
 refine cM.mono ?_;rintro e w16 ⟨rfl, a16⟩;have Q16 := zJv (Q15.out.trans a16);clear a16 cM;go_wp2_with fail
 go_ret;rw [← hR];exact ⟨rfl, Q16.out⟩
def VRule (ts : List Tk) (T : St → R3 Nat) : Prop := ∀ (B : PE) (w : World) (s : St), B.ts = ts → PS B w s → s.k < ts.length → (tkA ts s.k).1 ≠ 0 → zbp ts T s ≠ .un → Calls Tryz.prog 78 #[B.ptr] w (Res natV B w s (zbp ts T s))
theorem zq1 {ts : List Tk} (hT : TsOk ts) {T : St → R3 Nat} (pY : Prog3 ts T) {s s' : St} {i : Nat} (hk : s.k < ts.length) (h0 : (tkA ts s.k).1 ≠ 0) (e : zbp ts T s = .ok i s') : s.k < s'.k ∧ s'.k < ts.length ∧ s'.op = s.op := by
 have hk1 : (s.on 1).k < ts.length := hT.step hk h0;have := zkt (q := True) hT (zav pY _) (2 * ts.length) (posA ts s, [], []) [] (s.on 1) hk1 rfl (by omega);unfold zbp at e;rw [e] at this;have h1 : s.k + 1 + 1 ≤ s'.k := this.1;exact ⟨by omega, this.2⟩
set_option maxRecDepth 100000 in
theorem zsn {ts : List Tk} (hT : TsOk ts) {T : St → R3 Nat} (hY : Rule3 ts 21 T) (pY : Prog3 ts T) (hV : VRule ts T) : Rule3 ts 46 (zak ts T) := by
 intro B w s hBts h hk hu;unfold zak at hu ⊢;by_cases hb : isA ts s [[91]] = true
 · rw [if_pos hb] at hu ⊢
   generalize hR : zbp ts T s = R at hu ⊢;have hs := za0 hb;have cA := zee hBts h hk [91];rw [hb] at cA;have H := zJv h;clear h;go_enter Tryz.func46, Tryz.ntmps46
   go_wp2_with fail
   refine (cA).mono ?_;rintro e w2 ⟨rfl, hb2⟩;have q2 := H.out.aft hb2;clear hb2;clear cA;go_wp2_with fail
   rcases hM3 : zbp ts T s with ⟨i, s1⟩ | ⟨c, p⟩ | _
   case un => rw [hM3] at hR; (try simp only [R3.unB] at hR); exact absurd hR.symm hu
   case bad =>
    have cc := hV B w2 s hBts q2.ps hk hs (by rw [hM3]; simp);rw [hM3] at cc hR;try simp only [R3.badB] at hR
    refine cc.mono ?_;rintro e w3 ⟨rfl, k3⟩;have A := zJv (q2.bad (s0 := s) (rfl) k3 rfl);clear k3 cc;go_wp2_with fail
    refine ⟨rfl, ?_⟩;rw [← hR];exact ⟨rfl, A.out⟩
   have cc := hV B w2 s hBts q2.ps hk hs (by rw [hM3]; simp);rw [hM3] at cc hR;try simp only [R3.okB] at hR
   obtain ⟨g3, k3, o3⟩ := zq1 hT pY hk hs hM3;refine cc.mono ?_;rintro e w3 ⟨rfl, a3⟩;have q3 := q2.trans a3;clear a3 cc;have Q4 := zJv q3;clear q3;go_wp2_with fail
   go_ret;rw [← hR];exact ⟨rfl, Q4.out⟩
 · rw [if_neg hb] at hu ⊢
   exact zh3 hT hY pY hBts h hk (by simpa using hb) hu
set_option maxRecDepth 100000 in
theorem zjo {ts : List Tk} (hT : TsOk ts) (hV : ∀ T : St → R3 Nat, Rule3 ts 21 T → Prog3 ts T → VRule ts T) : ∀ f, Rule3 ts 21 (typeM ts f) := by
 intro f
 induction f with
 | zero => intro B w s _ _ _ hu; exact absurd rfl hu
 | succ f ih =>
  have pY := zix hT f;have hS := zsn hT ih pY (hV _ ih pY);have pS : Prog3 ts (zak ts (typeM ts f)) := zds (fun o => zp9 hT (zav pY o));clear hV;intro B w s hBts h hk hu;generalize hR : typeM ts (f + 1) s = R at hu ⊢;unfold typeM at hR;have H := zJv h;by_cases h256 : s.op = 256
  · rw [if_pos h256] at hR
    have cB := zhf h (by rw [hBts]; exact hk) h256;rw [hBts] at cB;clear h ih hS pS pY;go_enter_defers Tryz.func21, Tryz.ntmps21
    go_wp2_with fail
    refine cB.mono ?_;rintro e w1 ⟨rfl, hb1⟩;go_wp2_with fail
    have A1 := H.out.aft hb1;rw [← hR];exact ⟨rfl, s, rfl, A1⟩
  rw [if_neg h256] at hR;have cB := zf4 h h256;have hbs : bs [] = ⟨#[]⟩ := rfl;clear h;go_enter_defers Tryz.func21, Tryz.ntmps21
  go_wp2_with fail
  refine (cB).mono ?_;rintro e w2 ⟨rfl, a2⟩;have q2 := a2;clear a2;clear cB;go_wp2_with fail
  rcases hM3 : zak ts (typeM ts f) s.up with ⟨i1, s1⟩ | ⟨c, p⟩ | _
  case un => rw [hM3] at hR; (try simp only [R3.unB] at hR); exact absurd hR.symm hu
  case bad =>
   have cc := hS B w2 s.up hBts q2.ps hk (by rw [hM3]; simp);rw [hM3] at cc hR;try simp only [R3.badB] at hR
   refine cc.mono ?_;rintro e w3 ⟨rfl, k3⟩;obtain ⟨sb, ob, ab⟩ := q2.bad (s0 := s.up) (rfl) k3 rfl;have Ab := zJv ab;have hop1 : 1 ≤ sb.op := by rw [ob]; exact Nat.le_add_left 1 s.op
   clear ab k3 cc ;go_wp2_with fail
   refine leaves_cons (f := 45) (args := #[B.ptr]) (by simp) (by simp [go_sem]) ?_;refine (end_d Ab.out.ps hop1 _).mono ?_;rintro e u' w7 ⟨rfl, rfl, a7⟩;rw [← hR];exact ⟨rfl, sb.down, (by show sb.op - 1 = s.op; rw [ob]; show s.op + 1 - 1 = s.op; omega), Ab.out.trans a7⟩
  have cc := hS B w2 s.up hBts q2.ps hk (by rw [hM3]; simp);rw [hM3] at cc hR;try simp only [R3.okB] at hR
  obtain ⟨g3, k3, o3⟩ := pS s.up i1 s1 hk hM3;refine cc.mono ?_;rintro e w3 ⟨rfl, a3⟩;have q3 := q2.trans a3;clear a3 cc;have cS := zee hBts q3.ps k3 [45, 62];by_cases hs : isA ts s1 [[45, 62]] = true
  · rw [if_pos hs] at hR
    rw [hs] at cS;have hk1 : (s1.on 1).k < ts.length := hT.step k3 (za0 hs);have hfd := tokF2;have hpos : posA ts s1 = (tkA ts s1.k).2.2 := rfl;rw [hpos, hbs] at hR;have cX := fun (W : World) (p : PS B W s1) => nextR hBts p k3;generalize tkA ts s1.k = t at *;go_wp2_with fail
    refine (cS).mono ?_;rintro e w4 ⟨rfl, hb4⟩;have q4 := q3.below hb4;clear hb4;clear cS;go_wp2_with fail
    refine (cX w4 q4.ps).mono ?_;rintro e w5 ⟨rfl, a5⟩;have q5 := q4.trans a5;clear a5;clear cX;go_wp2_with fail
    rcases hM6 : typeM ts f (s1.on 1) with ⟨j, s2⟩ | ⟨c, p⟩ | _
    case un => rw [hM6] at hR; (try simp only [R3.unB] at hR); exact absurd hR.symm hu
    case bad =>
     have cc := ih B w5 (s1.on 1) hBts q5.ps hk1 (by rw [hM6]; simp);rw [hM6] at cc hR;try simp only [R3.badB] at hR
     refine cc.mono ?_;rintro e w6 ⟨rfl, k6⟩;obtain ⟨sb, ob, ab⟩ := q5.bad (s0 := s.up) (o3) k6 rfl;have Ab := zJv ab;have hop1 : 1 ≤ sb.op := by rw [ob]; exact Nat.le_add_left 1 s.op
     clear ab k6 cc ;go_wp2_with fail
     refine leaves_cons (f := 45) (args := #[B.ptr]) (by simp) (by simp [go_sem]) ?_;refine (end_d Ab.out.ps hop1 _).mono ?_;rintro e u' w7 ⟨rfl, rfl, a7⟩;rw [← hR];exact ⟨rfl, sb.down, (by show sb.op - 1 = s.op; rw [ob]; show s.op + 1 - 1 = s.op; omega), Ab.out.trans a7⟩
    have cc := ih B w5 (s1.on 1) hBts q5.ps hk1 (by rw [hM6]; simp);rw [hM6] at cc hR;try simp only [R3.okB] at hR
    obtain ⟨g6, k6, o6⟩ := pY (s1.on 1) j s2 hk1 hM6;refine cc.mono ?_;rintro e w6 ⟨rfl, a6⟩;have q6 := q5.trans a6;clear a6 cc;go_wp2_with fail
    rcases hM7 : newY s2 ⟨7, (t.2.2 : Nat), ⟨#[]⟩, [], [(i1 : Int), (j : Int)], false⟩ with ⟨l, s3⟩ | ⟨c, p⟩ | _
    case un => rw [hM7] at hR; (try simp only [R3.unB] at hR); exact absurd hR.symm hu
    case bad =>
     have cc := zBf q6.ps 7 (t.2.2 : Int) (i1 : Int) (j : Int);rw [hM7] at cc hR;try simp only [R3.badB] at hR
     refine cc.mono ?_;rintro e w7 ⟨rfl, k7⟩;obtain ⟨sb, ob, ab⟩ := q6.bad (s0 := s.up) (o6.trans (o3)) k7 rfl;have Ab := zJv ab;have hop1 : 1 ≤ sb.op := by rw [ob]; exact Nat.le_add_left 1 s.op
     clear ab k7 cc ;go_wp2_with fail
     refine leaves_cons (f := 45) (args := #[B.ptr]) (by simp) (by simp [go_sem]) ?_;refine (end_d Ab.out.ps hop1 _).mono ?_;rintro e u' w7 ⟨rfl, rfl, a7⟩;rw [← hR];exact ⟨rfl, sb.down, (by show sb.op - 1 = s.op; rw [ob]; show s.op + 1 - 1 = s.op; omega), Ab.out.trans a7⟩
    have cc := zBf q6.ps 7 (t.2.2 : Int) (i1 : Int) (j : Int);rw [hM7] at cc hR;try simp only [R3.okB] at hR
    obtain ⟨g7, k7, o7⟩ := zts hM7 k6;refine cc.mono ?_;rintro e w7 ⟨rfl, a7⟩;have q7 := q6.trans a7;clear a7 cc;have hop1 : 1 ≤ s3.op := by rw [show s3.op = s.up.op from o7.trans (o6.trans (o3))]; exact Nat.le_add_left 1 s.op
    have Q8 := zJv q7;clear q7;go_wp2_with fail
    refine leaves_cons (f := 45) (args := #[B.ptr]) (by simp) (by simp [go_sem]) ?_;refine (end_d Q8.out.ps hop1 .returning).mono ?_;rintro e u' w7 ⟨rfl, rfl, a7⟩;refine ⟨_, results_tmp rfl _ _ _, ?_⟩;rw [← hR];exact ⟨rfl, Q8.out.trans a7⟩
  · rw [if_neg hs] at hR
    have hs2 : isA ts s1 [[45, 62]] = false := by simpa using hs
    rw [hs2] at cS;go_wp2_with fail
    refine (cS).mono ?_;rintro e w4 ⟨rfl, hb4⟩;have q4 := q3.below hb4;clear hb4;clear cS;have hop1 : 1 ≤ s1.op := by rw [show s1.op = s.up.op from o3]; exact Nat.le_add_left 1 s.op
    have Q5 := zJv q4;clear q4;go_wp2_with fail
    refine leaves_cons (f := 45) (args := #[B.ptr]) (by simp) (by simp [go_sem]) ?_;refine (end_d Q5.out.ps hop1 .returning).mono ?_;rintro e u' w7 ⟨rfl, rfl, a7⟩;refine ⟨_, results_tmp rfl _ _ _, ?_⟩;rw [← hR];exact ⟨rfl, Q5.out.trans a7⟩
set_option maxHeartbeats 8000000
set_option maxRecDepth 100000 in
theorem zwx {ts : List Tk} (hPl : Pl ts) {E T : St → R3 Nat} (hC : Rule3 ts 77 (zad ts E T)) (pC : Prog3 ts (zad ts E T)) {B : PE} {w : World} {s : St} (hBts : B.ts = ts) (h : PS B w s) (hk : s.k < ts.length) (h256 : s.op ≠ 256) (hu : ((zba ts E T s.up).bind fun i s1 => R3.ok i s1.down) ≠ .un) :
 Calls Tryz.prog 43 #[B.ptr] w (Res natV B w s ((zba ts E T s.up).bind fun i s1 => R3.ok i s1.down)) := by
 generalize hR : ((zba ts E T s.up).bind fun i s1 => R3.ok i s1.down) = R at hu ⊢;unfold zba at hR;have cB := zf4 h h256;have cS : ∀ (x : List UInt8) W, PS B W s.up → Calls Tryz.prog 47 #[B.ptr, .slice (some ⟨W.heap.size, 0, none⟩) 1 1] (W.alloc (.cells #[.string ⟨x.toArray⟩] 9)) fun e w' => e = .returned (.bool (isA ts s.up [x])) ∧ Below W.heap.size W w' := fun x W p => zee hBts p hk x;have H := zJv h;clear h;have hfun : ¬ isA ts s.up [[102, 117, 110]] = true := by rw [show isA ts s.up [[102, 117, 110]] = false from hPl s.up.k _ (by simp)]; simp
 rw [if_neg hfun] at hR;have hfun2 : isA ts s.up [[102, 117, 110]] = false := by simpa using hfun
 have hlet : ¬ isA ts s.up [[108, 101, 116]] = true := by rw [show isA ts s.up [[108, 101, 116]] = false from hPl s.up.k _ (by simp)]; simp
 rw [if_neg hlet] at hR;have hlet2 : isA ts s.up [[108, 101, 116]] = false := by simpa using hlet
 have hif : ¬ isA ts s.up [[105, 102]] = true := by rw [show isA ts s.up [[105, 102]] = false from hPl s.up.k _ (by simp)]; simp
 rw [if_neg hif] at hR;have hif2 : isA ts s.up [[105, 102]] = false := by simpa using hif
 have hcase : ¬ isA ts s.up [[99, 97, 115, 101]] = true := by rw [show isA ts s.up [[99, 97, 115, 101]] = false from hPl s.up.k _ (by simp)]; simp
 rw [if_neg hcase] at hR;have hcase2 : isA ts s.up [[99, 97, 115, 101]] = false := by simpa using hcase
 have cfun := cS [102, 117, 110];rw [hfun2] at cfun;have clet := cS [108, 101, 116];rw [hlet2] at clet;have cif := cS [105, 102];rw [hif2] at cif;have ccase := cS [99, 97, 115, 101];rw [hcase2] at ccase;clear cS;go_enter_defers Tryz.func43, Tryz.ntmps43
 go_wp2_with fail
 refine (cB).mono ?_;rintro e w2 ⟨rfl, a2⟩;have q2 := a2;clear a2;clear cB;go_wp2_with fail
 refine (cfun w2 q2.ps).mono ?_;rintro e w3 ⟨rfl, hb3⟩;have q3 := q2.below hb3;clear hb3;clear cfun;go_wp2_with fail
 refine (clet w3 q3.ps).mono ?_;rintro e w4 ⟨rfl, hb4⟩;have q4 := q3.below hb4;clear hb4;clear clet;go_wp2_with fail
 refine (cif w4 q4.ps).mono ?_;rintro e w5 ⟨rfl, hb5⟩;have q5 := q4.below hb5;clear hb5;clear cif;go_wp2_with fail
 refine (ccase w5 q5.ps).mono ?_;rintro e w6 ⟨rfl, hb6⟩;have q6 := q5.below hb6;clear hb6;clear ccase;go_wp2_with fail
 rcases hM7 : zad ts E T s.up with ⟨i, s1⟩ | ⟨c, p⟩ | _
 case un => rw [hM7] at hR; (try simp only [R3.unB] at hR); exact absurd hR.symm hu
 case bad =>
  have cc := hC B w6 s.up hBts q6.ps hk (by rw [hM7]; simp);rw [hM7] at cc hR;try simp only [R3.badB] at hR
  refine cc.mono ?_;rintro e w7 ⟨rfl, k7⟩;obtain ⟨sb, ob, ab⟩ := q6.bad (s0 := s.up) (rfl) k7 rfl;have Ab := zJv ab;have hop1 : 1 ≤ sb.op := by rw [ob]; exact Nat.le_add_left 1 s.op
  clear ab k7 cc ;go_wp2_with fail
  refine leaves_cons (f := 45) (args := #[B.ptr]) (by simp) (by simp [go_sem]) ?_;refine (end_d Ab.out.ps hop1 _).mono ?_;rintro e u' w7 ⟨rfl, rfl, a7⟩;rw [← hR];exact ⟨rfl, sb.down, (by show sb.op - 1 = s.op; rw [ob]; show s.op + 1 - 1 = s.op; omega), Ab.out.trans a7⟩
 have cc := hC B w6 s.up hBts q6.ps hk (by rw [hM7]; simp);rw [hM7] at cc hR;try simp only [R3.okB] at hR
 obtain ⟨g7, k7, o7⟩ := pC s.up i s1 hk hM7;refine cc.mono ?_;rintro e w7 ⟨rfl, a7⟩;have q7 := q6.trans a7;clear a7 cc;have hop1 : 1 ≤ s1.op := by rw [show s1.op = s.up.op from o7]; exact Nat.le_add_left 1 s.op
 have Q8 := zJv q7;clear q7;go_wp2_with fail
 refine leaves_cons (f := 45) (args := #[B.ptr]) (by simp) (by simp [go_sem]) ?_;refine (end_d Q8.out.ps hop1 .returning).mono ?_;rintro e u' w7 ⟨rfl, rfl, a7⟩;refine ⟨_, results_tmp rfl _ _ _, ?_⟩;rw [← hR];exact ⟨rfl, Q8.out.trans a7⟩
theorem zAf {ts : List Tk} (hT : TsOk ts) (hPl : Pl ts) : ∀ f, Rule3 ts 43 (termM ts f) := by
 intro f
 induction f with
 | zero => intro B w s _ _ _ hu; exact absurd rfl hu
 | succ f ih =>
  have pE := zm2 hT f;have pY := zix hT f;have hA : Rule3 ts 168 (atomM ts (termM ts f) (typeM ts f)) := zzd hT hPl;have pA : Prog3 ts (atomM ts (termM ts f) (typeM ts f)) := zds (fun o => zuy hT (zav pE o) (zav pY o));have hP := zxb hT hA pA;have pP : Prog3 ts (postM ts (termM ts f) (typeM ts f)) := zds (fun o => znh hT (zav pE o) (zav pY o));have hU := zz9 hT hP pP;have pU : Prog3 ts (unitM ts (termM ts f) (typeM ts f)) := zds (fun o => zns hT (zav pE o) (zav pY o));have hAp := zwq hT hU pU;have pAp : Prog3 ts (zb0 ts (termM ts f) (typeM ts f)) := zds (fun o => zql hT (zav pE o) (zav pY o));have hPr := zq2 hT hAp pAp;have pPr : Prog3 ts (zb2 ts (termM ts f) (typeM ts f)) := zds (fun o => zlu hT (zav pE o) (zav pY o));have hSu := zBl hT hPr pPr;have pSu : Prog3 ts (sumM ts (termM ts f) (typeM ts f)) := zds (fun o => zxm hT (zav pE o) (zav pY o));have hJ := zyo hT hSu pSu;have pJ : Prog3 ts (joinM ts (termM ts f) (typeM ts f)) := zds (fun o => zn4 hT (zav pE o) (zav pY o));have hC := zr3 hT hJ pJ;have pC : Prog3 ts (zad ts (termM ts f) (typeM ts f)) := zds (fun o => zmq hT (zav pE o) (zav pY o));intro B w s hBts h hk hu;unfold termM at hu ⊢;by_cases h256 : s.op = 256
  · rw [if_pos h256]
    have cB := zhf h (by rw [hBts]; exact hk) h256;rw [hBts] at cB;have H := zJv h;clear h ih hA hP hU hAp hPr hSu hJ hC pE pY pA pP pU pAp pPr pSu pJ pC hu;go_enter_defers Tryz.func43, Tryz.ntmps43
    go_wp2_with fail
    refine cB.mono ?_;rintro e w1 ⟨rfl, hb1⟩;go_wp2_with fail
    have A1 := H.out.aft hb1;exact ⟨rfl, s, rfl, A1⟩
  · rw [if_neg h256] at hu ⊢
    exact zwx hPl hC pC hBts h hk h256 hu
set_option maxHeartbeats 8000000
def Ty3 {α : Type} (s : St) : R3 α → Prop
 | .ok _ s' => s'.t1 = s.t1 ∧ s'.t3 = s.t3
 | _ => True
section
variable {ts : List Tk} {α β : Type}
theorem Ty3.bind {s : St} {p : R3 α} {f : α → St → R3 β} (h : Ty3 s p) (k : ∀ i s1, Ty3 s1 (f i s1)) : Ty3 s (p.bind f) := by
 cases p with
 | ok i s1 =>
  have := k i s1;show Ty3 s (f i s1)
  cases hf : f i s1 with
  | ok j s2 => rw [hf] at this; exact ⟨this.1.trans h.1, this.2.trans h.2⟩
  | bad e p => trivial
  | un => trivial
 | bad e p => trivial
 | un => trivial
theorem Ty3.refl {s : St} {i : α} : Ty3 s (.ok i s) := ⟨rfl, rfl⟩
theorem Ty3.on {s : St} {i : α} {n : Nat} : Ty3 s (.ok i (s.on n)) := ⟨rfl, rfl⟩
variable {T : St → R3 Nat}
end
set_option maxRecDepth 100000 in
theorem zos {ts : List Tk} (hT : TsOk ts) (hPl : Pl ts) (f : Nat) {B : PE} {w : World} {s : St} (hBts : B.ts = ts) (h : PS B w s) (hk : s.k < ts.length) (hu : textM ts f s ≠ .un) :
 Calls Tryz.prog 19 #[B.ptr] w (Res (fun _ => .tuple #[]) B w s (textM ts f s)) := by
 generalize hR : textM ts f s = R at hu ⊢;unfold textM at hR;have hE := zAf hT hPl f;have pE := zm2 hT f;have hbw := h.bw;have hfew := hT.few;have hfd := tokF2;have hfe := tokF1;have Q0 := zJv (Aft.refl h);have HB := zJv hBts;clear h hBts;go_enter Tryz.func19, Tryz.ntmps19
 go_wp2_with fail
 go_loopw [] (fun wr => ∃ (s1 : St) (f1 : Nat), Hid (Aft B w s1 wr) ∧ Hid (s1.k < ts.length) ∧ Hid (s1.op = s.op) ∧ Hid ((zb7 ts (typeM ts f) f1 s1).bind (fun _ s1 => (termM ts f s1).bind fun _ s2 => R3.ok () s2) = R)) (fun wr => ts.length - kAt B wr)
 case atStart => exact ⟨s, _, Q0, zJv hk, zJv rfl, zJv hR⟩
 case round =>
  clear Q0 hR;obtain ⟨s1, f1, HA, HK, HO, HQ⟩ := hrel;have hP := HQ.out;have hkA := HA.out.ps.kAt;have hkk := HK.out
  cases f1 with
  | zero => exact absurd hP.symm hu
  | succ f1 =>
   unfold zb7 at hP;by_cases hb : isA ts s1 [[116, 121, 112, 101]] = true
   · exact absurd hb (by rw [show isA ts s1 [[116, 121, 112, 101]] = false from hPl s1.k _ (by simp)]; simp)
   · rw [if_neg hb] at hP
     have hb2 : isA ts s1 [[116, 121, 112, 101]] = false := by simpa using hb
     simp only [R3.okB] at hP;go_wp2_with fail
     refine (zed (B := B) HB.out HA.out.ps HK.out [116, 121, 112, 101] hb2).mono ?_;rintro e w101 ⟨rfl, hb101⟩;have q101 := HA.out.below hb101;clear hb101;go_wp2_with fail
     rcases hM102 : termM ts f s1 with ⟨i, s2⟩ | ⟨c, p⟩ | _
     case un => rw [hM102] at hP; (try simp only [R3.unB] at hP); exact absurd hP.symm hu
     case bad =>
      have cc := hE B w101 s1 HB.out q101.ps HK.out (by rw [hM102]; simp);rw [hM102] at cc hP;try simp only [R3.badB] at hP
      refine cc.mono ?_;rintro e w102 ⟨rfl, k102⟩;have A := zJv (q101.bad (s0 := s) (HO.out) k102 rfl);clear k102 cc;go_wp2_with fail
      refine ⟨rfl, ?_⟩;rw [← hP];exact ⟨rfl, A.out⟩
     have cc := hE B w101 s1 HB.out q101.ps HK.out (by rw [hM102]; simp);rw [hM102] at cc hP;try simp only [R3.okB] at hP
     obtain ⟨g102, k102, o102⟩ := pE s1 i s2 HK.out hM102;refine cc.mono ?_;rintro e w102 ⟨rfl, a102⟩;have q102 := q101.trans a102;clear a102 cc;have Q103 := zJv q102;clear q102;go_wp2_with fail
     go_end0
     rw [← hP];exact ⟨rfl, Q103.out⟩
end Go.Proofs.YtidmeodmkcomlaaGreatDoor
