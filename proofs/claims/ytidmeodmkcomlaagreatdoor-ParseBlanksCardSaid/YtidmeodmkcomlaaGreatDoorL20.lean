/- Atoms: what the rule gives, or what is -/
import Derived.Test.YtidmeodmkcomlaaGreatDoorL19
namespace Go.Proofs.YtidmeodmkcomlaaGreatDoor
open Go Go.Proofs Go.RowKit
set_option maxHeartbeats 8000000
theorem zAh {t : Tk} {x : TermD} (h : leafM t = some x) : x.names = [] ∧ x.kids = [] ∧ x.types = [] := by
 unfold leafM at h;repeat' split at h
 all_goals first | (injection h with h; subst h; exact ⟨rfl, rfl, rfl⟩) | cases h
theorem zD8 {B : PE} {w : World} {s : St} (h : PS B w s) (x : TermD) (hx : x.names = [] ∧ x.kids = [] ∧ x.types = []) : Calls Tryz.prog 114 #[B.ptr, .agg (za1 x nP3).toArray] w (Res natV B w s (newT s x)) :=
 zl2 h x nP3 ⟨by rw [hx.1]; exact SlAt.nil, by rw [hx.2.1]; exact SlAt.nil, by rw [hx.2.2]; exact SlAt.nil⟩ ⟨by rw [hx.1]; simp, by rw [hx.2.1]; simp, by rw [hx.2.2]; simp⟩
theorem zB4 {ts : List Tk} (hT : TsOk ts) {B : PE} {w : World} {s : St} (hBts : B.ts = ts) (h : PS B w s) (hk : s.k < ts.length) :
 Calls Tryz.prog 175 #[B.ptr] w fun e w' => (match leafM (tkA ts s.k) with
  | some x => e = .returned (.agg (za1 x nP3).toArray)
  | none => e = zbi 4 (posA ts s)) ∧ Below w.heap.size w w' := by
 subst hBts
 cases hx : leafM (tkA B.ts s.k) with
 | some x => exact zkx h hk x hx (hT.len _) (hT.int _) (hT.flt _)
 | none => exact zDy h hk hx
theorem on1T' {ts : List Tk} {B : PE} {w : World} {s : St} (hBts : B.ts = ts) (h : PS B w s) (hk : s.k < ts.length) : Aft B w (s.on 1) (w.setCell ⟨B.pb, 1, none⟩ (.int .i64 ((s.k : Int) + 1))) := h.on1 (by rw [hBts]; exact hk)
set_option maxRecDepth 100000 in
theorem zzd {ts : List Tk} (hT : TsOk ts) {E T : St → R3 Nat} (hE : Rule3 ts 43 E) (pE : Prog3 ts E) (hY : Rule3 ts 21 T) (pY : Prog3 ts T) : Rule3 ts 168 (atomM ts E T) := by
 intro B w s hBts h hk hu;generalize hR : atomM ts E T s = R at hu ⊢;unfold atomM at hR;have cS : ∀ (x : List UInt8) W, PS B W s → Calls Tryz.prog 47 #[B.ptr, .slice (some ⟨W.heap.size, 0, none⟩) 1 1] (W.alloc (.cells #[.string ⟨x.toArray⟩] 9)) fun e w' => e = .returned (.bool (isA ts s [x])) ∧ Below W.heap.size W w' := fun x W p => zee hBts p hk x;have H := zJv h;clear h;by_cases hc : isA ts s [[40]] = true
 · rw [if_pos hc] at hR
   have hs := za0 hc;have cA := cS [40] w H.out;rw [hc] at cA;clear cS;go_enter Tryz.func168, Tryz.ntmps168
   go_wp2_with fail
   refine (cA).mono ?_;rintro e w2 ⟨rfl, hb2⟩;have q2 := H.out.aft hb2;clear hb2;clear cA;have pB : ∀ i s1, zas ts E T s = .ok i s1 → s.k < s1.k ∧ s1.k < ts.length ∧ s1.op = s.op := fun i s1 e => by have := zn1 (q := True) hT (zav pE s.op) (zav pY s.op) s hk hs rfl; rw [e] at this; exact ⟨this.1, this.2⟩
   go_wp2_with fail
   rcases hM3 : zas ts E T s with ⟨i, s1⟩ | ⟨c, p⟩ | _
   case un => rw [hM3] at hR; (try simp only [R3.unB] at hR); exact absurd hR.symm hu
   case bad =>
    have cc := zjc hT hE pE hY pY hBts q2.ps hk hs (by rw [hM3]; simp);rw [hM3] at cc hR;try simp only [R3.badB] at hR
    refine cc.mono ?_;rintro e w3 ⟨rfl, k3⟩;have A := zJv (q2.bad (s0 := s) (rfl) k3 rfl);clear k3 cc;go_wp2_with fail
    refine ⟨rfl, ?_⟩;rw [← hR];exact ⟨rfl, A.out⟩
   have cc := zjc hT hE pE hY pY hBts q2.ps hk hs (by rw [hM3]; simp);rw [hM3] at cc hR;try simp only [R3.okB] at hR
   obtain ⟨g3, k3, o3⟩ := pB i s1 hM3;refine cc.mono ?_;rintro e w3 ⟨rfl, a3⟩;have q3 := q2.trans a3;clear a3 cc;have Q4 := zJv q3;clear q3;go_wp2_with fail
   go_ret;rw [← hR];exact ⟨rfl, Q4.out⟩
 rw [if_neg hc] at hR;have hc2 : isA ts s [[40]] = false := by simpa using hc
 by_cases hd : isA ts s [[123]] = true
 · rw [if_pos hd] at hR
   have hs := za0 hd;have cA := cS [40] w H.out;rw [hc2] at cA;have cB := cS [123];rw [hd] at cB;clear cS;go_enter Tryz.func168, Tryz.ntmps168
   go_wp2_with fail
   refine (cA).mono ?_;rintro e w2 ⟨rfl, hb2⟩;have q2 := H.out.aft hb2;clear hb2;clear cA;go_wp2_with fail
   refine (cB w2 q2.ps).mono ?_;rintro e w3 ⟨rfl, hb3⟩;have q3 := q2.below hb3;clear hb3;clear cB;have pB : ∀ i s1, zbu ts E s = .ok i s1 → s.k < s1.k ∧ s1.k < ts.length ∧ s1.op = s.op := fun i s1 e => by have := zoi (q := True) hT (zav pE s.op) s hk hs rfl; rw [e] at this; exact ⟨this.1, this.2⟩
   go_wp2_with fail
   rcases hM4 : zbu ts E s with ⟨i, s1⟩ | ⟨c, p⟩ | _
   case un => rw [hM4] at hR; (try simp only [R3.unB] at hR); exact absurd hR.symm hu
   case bad =>
    have cc := zke hT hE pE hBts q3.ps hk hs (by rw [hM4]; simp);rw [hM4] at cc hR;try simp only [R3.badB] at hR
    refine cc.mono ?_;rintro e w4 ⟨rfl, k4⟩;have A := zJv (q3.bad (s0 := s) (rfl) k4 rfl);clear k4 cc;go_wp2_with fail
    refine ⟨rfl, ?_⟩;rw [← hR];exact ⟨rfl, A.out⟩
   have cc := zke hT hE pE hBts q3.ps hk hs (by rw [hM4]; simp);rw [hM4] at cc hR;try simp only [R3.okB] at hR
   obtain ⟨g4, k4, o4⟩ := pB i s1 hM4;refine cc.mono ?_;rintro e w4 ⟨rfl, a4⟩;have q4 := q3.trans a4;clear a4 cc;have Q5 := zJv q4;clear q4;go_wp2_with fail
   go_ret;rw [← hR];exact ⟨rfl, Q5.out⟩
 rw [if_neg hd] at hR;have hd2 : isA ts s [[123]] = false := by simpa using hd
 have cA := cS [40] w H.out;rw [hc2] at cA;have cB := cS [123];rw [hd2] at cB;have cP := fun (W : World) (p : PS B W s) => zB4 hT hBts p hk;clear cS hd hd2 hc hc2;rcases hx : leafM (tkA ts s.k) with _ | x
 case none =>
  rw [hx] at hR cP;dsimp only at hR cP;go_enter Tryz.func168, Tryz.ntmps168
  go_wp2_with fail
  refine (cA).mono ?_;rintro e w2 ⟨rfl, hb2⟩;have q2 := H.out.aft hb2;clear hb2;clear cA;go_wp2_with fail
  refine (cB w2 q2.ps).mono ?_;rintro e w3 ⟨rfl, hb3⟩;have q3 := q2.below hb3;clear hb3;clear cB;go_wp2_with fail
  refine (cP w3 q3.ps).mono ?_;rintro e w4 ⟨rfl, hb4⟩;have q4 := q3.below hb4;clear hb4 cP;have Q5 := zJv q4;clear q4;go_wp2_with fail
  rw [← hR];exact ⟨rfl, rfl, s, rfl, Q5.out⟩
 rw [hx] at hR cP;dsimp only at hR cP;have hk1 : (s.on 1).k < ts.length := hT.step hk (zfm hx);have hfl := zAh hx;dsimp only [za1] at cP;have cN := fun (W : World) (p : PS B W (s.on 1)) => zD8 p x hfl;dsimp only [za1] at cN;simp only [hfl.1, hfl.2.1, hfl.2.2, zKc] at cP cN;go_enter Tryz.func168, Tryz.ntmps168
 go_wp2_with fail
 refine (cA).mono ?_;rintro e w6 ⟨rfl, hb6⟩;have q6 := H.out.aft hb6;clear hb6;clear cA;go_wp2_with fail
 refine (cB w6 q6.ps).mono ?_;rintro e w7 ⟨rfl, hb7⟩;have q7 := q6.below hb7;clear hb7;clear cB;go_wp2_with fail
 refine (cP w7 q7.ps).mono ?_;rintro e w8 ⟨rfl, hb8⟩;have q8 := q7.below hb8;clear hb8 cP;go_upto_region 6 with fail
 obtain ⟨w9, hW9⟩ : ∃ W, w8.alloc (.cells #[.int .i64 x.kind, .int .i64 x.pos, .string x.name, .int .i64 x.int, .int .u64 (x.bits : Int), .slice none 0 0, .slice none 0 0, .slice none 0 0] 38) = W := ⟨_, rfl⟩;rw [hW9];have hb9 : Below w8.heap.size w8 w9 := by rw [← hW9]; exact (zJx _ _).alloc (zJw _) _
 have hX : Blk w9 w8.heap.size 38 #[.int .i64 x.kind, .int .i64 x.pos, .string x.name, .int .i64 x.int, .int .u64 (x.bits : Int), .slice none 0 0, .slice none 0 0, .slice none 0 0] := by rw [← hW9]; exact Blk.new w8 38 _
 have q9 := q8.below hb9;clear hW9;have hpb := H.out.blk.lt;have hsz : w.heap.size ≤ w8.heap.size := q8.kt.1;have c1 := q9.ps.blk.cell 1;have f1 := q9.ps.blk.frozen 1;simp only [PE.cells, gA, gB, gC] at c1;have hlb : s.k ≤ 2097152 := by have := hT.few; omega
 obtain ⟨w10, hW10⟩ : ∃ W, w9.setCell ⟨B.pb, 1, none⟩ (.int .i64 ((s.k : Int) + 1)) = W := ⟨_, rfl⟩;have a10 := on1T' (B := B) hBts q9.ps hk;have a10 : Aft B w9 (s.on 1) w10 := by rw [← hW10]; exact a10
 have q10 := q9.trans a10;clear a10;have hX := hX.far (p := ⟨B.pb, 1, none⟩) (by dsimp only; omega) (.int .i64 ((s.k : Int) + 1));rw [hW10] at hX;have x0 := hX.cell 0;have x1 := hX.cell 1;have x2 := hX.cell 2;have x3 := hX.cell 3;have x4 := hX.cell 4;have x5 := hX.cell 5;have x6 := hX.cell 6;have x7 := hX.cell 7;simp only [gA, gB, gC] at x0 x1 x2 x3 x4 x5 x6 x7;have cM := cN w10 q10.ps;clear cN;rcases hN : newT (s.on 1) x with ⟨i9, s9⟩ | ⟨c, p⟩ | _
 case un => exact (zda hN).elim
 case bad =>
  rw [hN] at cM hR;have Q11 := zJv q10;clear q10 hX hb9;go_wp2_with fail
  refine cM.mono ?_;rintro e w12 ⟨rfl, k12⟩;have A := zJv (Q11.out.bad (s0 := s) (rfl) k12 rfl);clear k12 cM;go_wp2_with fail
  rw [← hR];exact ⟨rfl, rfl, A.out⟩
 rw [hN] at cM hR;have Q13 := zJv q10;clear q10 hX hb9;go_wp2_with fail
 refine cM.mono ?_;rintro e w14 ⟨rfl, a14⟩;have Q14 := zJv (Q13.out.trans a14);clear a14 cM;go_wp2_with fail
 go_ret;rw [← hR];exact ⟨rfl, Q14.out⟩
end Go.Proofs.YtidmeodmkcomlaaGreatDoor
