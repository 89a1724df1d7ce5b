/- The inner part of a record, or of a record type: what it gives, or what is wrong. -/
import Derived.Test.YtidmeodmkcomlaaGreatDoorK17
namespace Go.Proofs.YtidmeodmkcomlaaGreatDoor
open Go Go.Proofs Go.RowKit
set_option maxHeartbeats 8000000
structure Rw (w : World) (G : Nat → Prop) (v5 v6 : Value) (ns : List (List UInt8)) (ks : List Int) : Prop where
 r5 : w.ownsRow 0 9 1 v5 ns.length ((bss ns).map .string)
 r6 : w.ownsRow 0 3 1 v6 ks.length (ks.map iv)
 g5 : ∀ g, v5.ownBlock = some g → G g
 g6 : ∀ g, v6.ownBlock = some g → G g
section
variable {B : PE} {G : Nat → Prop} {w w1 w2 w4 : World} {s s' : St} {v5 v6 v' : Value} {ns : List (List UInt8)} {ks : List Int}
theorem Rw.nil (w : World) (G : Nat → Prop) : Rw w G (.slice none 0 0) (.slice none 0 0) [] [] := ⟨zdb _ _ _ _, zdb _ _ _ _, fun _ e => zcc e, fun _ e => zcc e⟩
theorem Rw.call (o : Rw w1 G v5 v6 ns ks) (h : AftO B G w s w1) (k : Aft (B.with G) w1 s' w2) : Rw w2 G v5 v6 ns ks := ⟨h.row k o.r5 o.g5, h.row k o.r6 o.g6, o.g5, o.g6⟩
theorem Rw.below (o : Rw w1 G v5 v6 ns ks) (hb : Below w1.heap.size w1 w2) : Rw w2 G v5 v6 ns ks := ⟨zaj o.r5 hb, zaj o.r6 hb, o.g5, o.g6⟩
theorem Rw.app5 {x : List UInt8} (h : AftO B G w s w2) (hbw : B.base ≤ w.heap.size) (o : Rw w2 G v5 v6 ns ks) (hown : w4.ownsRow 0 9 1 v' (ns.length + 1) ((bss ns).map .string ++ [.string (bs x)])) (hg : (w2.alloc (.cells #[.string (bs x)] 9)).grownBy w4 v5.ownBlock) (hl : v'.ownBlock = v5.ownBlock ∨ v'.ownBlock = some (w2.alloc (.cells #[.string (bs x)] 9)).heap.size) :
 ∃ G' : Nat → Prop, AftO B G' w s w4 ∧ Rw w4 G' v' v6 (ns ++ [x]) ks := by
 have hb : Below w2.heap.size w2 (w2.alloc (.cells #[.string (bs x)] 9)) := (zJx _ _).alloc (zJw _) _;have o3 := o.below hb;have h4 := (h.below hb).app hbw o.g5 hg hl (zb8 hown);exact ⟨_, h4, by simpa [bss] using hown, o3.r6.kept hg (zbx o3.r6 o3.r5 (by decide)), fun g e => .inr e, fun g e => .inl (o.g6 g e)⟩
theorem Rw.app6 {x : Int} (h : AftO B G w s w2) (hbw : B.base ≤ w.heap.size) (o : Rw w2 G v5 v6 ns ks) (hown : w4.ownsRow 0 3 1 v' (ks.length + 1) (ks.map iv ++ [iv x])) (hg : (w2.alloc (.cells #[iv x] 3)).grownBy w4 v6.ownBlock) (hl : v'.ownBlock = v6.ownBlock ∨ v'.ownBlock = some (w2.alloc (.cells #[iv x] 3)).heap.size) :
 ∃ G' : Nat → Prop, AftO B G' w s w4 ∧ Rw w4 G' v5 v' ns (ks ++ [x]) := by
 have hb : Below w2.heap.size w2 (w2.alloc (.cells #[iv x] 3)) := (zJx _ _).alloc (zJw _) _;have o3 := o.below hb;have h4 := (h.below hb).app hbw o.g6 hg hl (zb8 hown);exact ⟨_, h4, o3.r5.kept hg (zbx o3.r5 o3.r6 (by decide)), by simpa using hown, fun g e => .inl (o.g5 g e), fun g e => .inr e⟩
end
theorem AftO.kAt {B : PE} {G : Nat → Prop} {w w' : World} {s : St} (h : AftO B G w s w') : YtidmeodmkcomlaaGreatDoor.kAt B w' = s.k := h.ps.kAt
def ResF (B : PE) (w : World) (s0 : St) (r : R3 (List (List UInt8) × List Int)) (e : Ending) (w' : World) : Prop :=
 match r with
 | .ok x s' => ∃ (G : Nat → Prop) (A5 A6 : Option Addr) (n5 n6 c5 c6 : Nat), e = .returned (.tuple #[.slice A5 n5 c5, .slice A6 n6 c6]) ∧ AftO B G w s' w' ∧ Rw w' G (.slice A5 n5 c5) (.slice A6 n6 c6) x.1 x.2 ∧ x.1.length ≤ 16384 ∧ x.2.length ≤ 16384
 | .bad c p => e = zbi c p ∧ ∃ s1 : St, s1.op = s0.op ∧ Aft B w s1 w'
 | .un => True
theorem zlh {ts : List Tk} (hT : TsOk ts) {o kind : Nat} (h0 : kind ≠ 0) : Prog3 ts (ownM ts o kind) := fun s i s' hk h => by
 have := zmi (q := True) (o := o) hT h0 hk;rw [h] at this;exact ⟨this.1, this.2⟩
set_option maxRecDepth 100000 in
theorem zfs (fc : FuncId) (hfc : ∀ (x : Value) (w : World), (callFunc fc #[x]).run Tryz.prog w = .ok (.enter fc #[x]) w) {ts : List Tk} (hT : TsOk ts) {P : St → R3 Nat} (hP : Rule3 ts fc P) (pP : Prog3 ts P) {B : PE} {w : World} {s : St} (hBts : B.ts = ts) (h : PS B w s) (hk : s.k < ts.length) (owner : Nat) (ho : owner ≤ 4294967296) (sign : List UInt8) (hu : zan ts P owner sign s ≠ .un) :
 Calls Tryz.prog 79 #[B.ptr, .int .i64 (owner : Int), .string ⟨sign.toArray⟩, .func (.func fc) #[B.ptr] #[]] w (ResF B w s (zan ts P owner sign s)) := by
 generalize hR : zan ts P owner sign s = R at hu ⊢;unfold zan at hR;have hbw := h.bw;have hfew := hT.few;by_cases hc : isA ts s [[125]] = true
 · rw [if_pos hc] at hR
   have cT := zei hBts h hk [125] hc;clear h;go_enter Tryz.func79, Tryz.ntmps79
   go_wp2_with fail
   refine cT.mono ?_;rintro e w1 ⟨rfl, a1⟩;have A1 := zJv a1;clear a1 cT;go_wp2_with fail
   refine bodyPost_ret (v := .tuple #[.slice none 0 0, .slice none 0 0]) (by simp [results, Tryz.results79, go_sem]) rfl ?_;rw [← hR];exact ⟨_, none, none, 0, 0, 0, 0, rfl, A1.out.none, Rw.nil _ _, zK8 _, zK8 _⟩
 rw [if_neg hc] at hR;have hc2 : isA ts s [[125]] = false := by simpa using hc
 have cT := zed hBts h hk [125] hc2;have H := zJv h;have HP0 := zJv hP;have HPR := zJv pP;have HB := zJv hBts;clear h hP pP hBts hc hc2;go_enter Tryz.func79, Tryz.ntmps79
 go_wp2_with fail
 refine cT.mono ?_;rintro e w1 ⟨rfl, hb1⟩;have Q1 := zJv (H.out.aft hb1).none;clear hb1 cT;go_wp2_with fail
 go_loopw [8, 9] (fun v8 v9 wr => ∃ (ns : List (List UInt8)) (ks : List Int) (s1 : St) (f : Nat) (G : Nat → Prop), Hid (AftO B G w s1 wr) ∧ Hid (Rw wr G v8 v9 ns ks) ∧ Hid (s1.k < ts.length) ∧ Hid (s1.op = s.op) ∧ Hid (zbc ts P owner sign f ns ks s1 = R) ∧ Hid (ns.length ≤ s1.k ∧ ks.length ≤ s1.k)) (fun _ _ wr => ts.length - kAt B wr)
 case atStart => exact ⟨[], [], s, _, _, Q1, zJv (Rw.nil _ _), zJv hk, zJv rfl, zJv hR, zJv ⟨zK8 _, zK8 _⟩⟩
 case round =>
  clear Q1 hR;obtain ⟨ns, ks, s1, f, G, HA, HX, HK, HO, HQ, HL⟩ := hrel;have hP := HQ.out;have hkA := HA.out.kAt;have hl := HL.out;have hkk := HK.out
  cases f with
  | zero => exact absurd hP.symm hu
  | succ f =>
   unfold zbc at hP;have oX := HX.out;obtain ⟨A5, c5, rfl⟩ := za8 oX.r5;obtain ⟨A6, c6, rfl⟩ := za8 oX.r6;go_wp2_with fail
   rcases hM2 : ownM ts owner 1 s1 with ⟨x, s2⟩ | ⟨c, p⟩ | _
   case un => rw [hM2] at hP; (try simp only [R3.unB] at hP); exact absurd hP.symm hu
   case bad =>
    have cc := ownR (B := (B.with G)) hT HB.out HA.out.ps HK.out owner 1 ho;rw [hM2] at cc hP;try simp only [R3.badB] at hP
    refine cc.mono ?_;rintro e w2 ⟨rfl, k2⟩;have A := zJv (HA.out.bad (s0 := s) (HO.out) k2 rfl);clear k2 cc;go_wp2_with fail
    refine ⟨rfl, ?_⟩;rw [← hP];exact ⟨rfl, A.out⟩
   have cc := ownR (B := (B.with G)) hT HB.out HA.out.ps HK.out owner 1 ho;rw [hM2] at cc hP;try simp only [R3.okB] at hP
   obtain ⟨g2, k2, o2⟩ := zlh hT (by decide) s1 x s2 HK.out hM2;refine cc.mono ?_;rintro e w2 ⟨rfl, a2⟩;have q2 := HA.out.call a2;have oX := oX.call HA.out a2;clear a2 cc;have hn5 : ns.length ≤ 1000000 := by omega
   have hn6 : ks.length ≤ 1000000 := by omega
   go_wp2_with (at_builtin; refine zB8 rfl _ _ rfl (v := .slice A5 ns.length c5) (by simp [Act.eval]) oX.r5 (by simp [Act.eval]) rfl hn5 ?_; intro v7 w7 hown hgrow hloc)
   obtain ⟨G7, q7, o7⟩ := oX.app5 q2 hbw hown hgrow hloc;clear oX hown hgrow hloc;have oX := o7;clear o7;rcases hM11 : mustM ts sign s2 with ⟨u, s3⟩ | ⟨c, p⟩ | _
   case un => rw [hM11] at hP; (try simp only [R3.unB] at hP); exact absurd hP.symm hu
   case bad =>
    have cc := mustR (B := (B.with G7)) HB.out q7.ps k2 sign;rw [hM11] at cc hP;try simp only [R3.badB] at hP
    refine cc.mono ?_;rintro e w11 ⟨rfl, k11⟩;have A := zJv (q7.bad (s0 := s) (o2.trans (HO.out)) k11 rfl);clear k11 cc;go_wp2_with fail
    refine ⟨rfl, ?_⟩;rw [← hP];exact ⟨rfl, A.out⟩
   have cc := mustR (B := (B.with G7)) HB.out q7.ps k2 sign;rw [hM11] at cc hP;try simp only [R3.okB] at hP
   obtain ⟨g11, k11, o11⟩ := zap hT s2 u s3 k2 hM11;refine cc.mono ?_;rintro e w11 ⟨rfl, a11⟩;have q11 := q7.call a11;have oX := oX.call q7 a11;clear a11 cc;go_wp2_with fail
   rcases hM12 : P s3 with ⟨i, s4⟩ | ⟨c, p⟩ | _
   case un => rw [hM12] at hP; (try simp only [R3.unB] at hP); exact absurd hP.symm hu
   case bad =>
    have cc := HP0.out (B.with G7) w11 s3 HB.out q11.ps k11 (by rw [hM12]; simp);rw [hM12] at cc hP;try simp only [R3.badB] at hP
    refine cc.mono ?_;rintro e w12 ⟨rfl, k12⟩;have A := zJv (q11.bad (s0 := s) (o11.trans (o2.trans (HO.out))) k12 rfl);clear k12 cc;go_wp2_with fail
    refine ⟨rfl, ?_⟩;rw [← hP];exact ⟨rfl, A.out⟩
   have cc := HP0.out (B.with G7) w11 s3 HB.out q11.ps k11 (by rw [hM12]; simp);rw [hM12] at cc hP;try simp only [R3.okB] at hP
   obtain ⟨g12, k12, o12⟩ := HPR.out s3 i s4 k11 hM12;refine cc.mono ?_;rintro e w12 ⟨rfl, a12⟩;have q12 := q11.call a12;have oX := oX.call q11 a12;clear a12 cc;go_wp2_with (at_builtin; refine zDj rfl _ _ rfl (v := .slice A6 ks.length c6) (by simp [Act.eval]) oX.r6 (by simp [Act.eval]) rfl hn6 ?_; intro v8 w8 hown hgrow hloc)
   obtain ⟨G8, q8, o8⟩ := oX.app6 q12 hbw hown hgrow hloc;clear oX hown hgrow hloc;have oX := o8;clear o8;have hlen : (ns ++ [x]).length ≤ s4.k ∧ (ks ++ [(i : Int)]).length ≤ s4.k := by simp only [zK5, zK2, zKc]; omega
   by_cases hz : isA ts s4 [[125]] = true
   · rw [if_pos hz] at hP
     refine (zei (B := (B.with G8)) HB.out q8.ps k12 [125] hz).mono ?_;rintro e w21 ⟨rfl, a21⟩;have q21 := q8.call a21;have oX := oX.call q8 a21;clear a21;obtain ⟨A7, c7, rfl⟩ := za8 oX.r5;obtain ⟨A8, c8, rfl⟩ := za8 oX.r6;have Q := zJv q21;have QX := zJv oX;clear q21 oX;go_wp2_with fail
     refine bodyPost_ret (v := .tuple #[.slice A7 (ns ++ [x]).length c7, .slice A8 (ks ++ [(i : Int)]).length c8]) (by simp [results, Tryz.results79, go_sem]) rfl ?_;rw [← hP];exact ⟨_, _, _, _, _, _, _, rfl, Q.out, QX.out, zK4 hlen.1 (by omega), zK4 hlen.2 (by omega)⟩
   · rw [if_neg hz] at hP
     have hz2 : isA ts s4 [[125]] = false := by simpa using hz
     refine (zed (B := (B.with G8)) HB.out q8.ps k12 [125] hz2).mono ?_;rintro e w21 ⟨rfl, hb21⟩;have q21 := q8.below hb21;have oX := oX.below hb21;clear hb21;go_wp2_with fail
     rcases hM22 : mustM ts [44] s4 with ⟨u, s5⟩ | ⟨c, p⟩ | _
     case un => rw [hM22] at hP; (try simp only [R3.unB] at hP); exact absurd hP.symm hu
     case bad =>
      have cc := mustR (B := (B.with G8)) HB.out q21.ps k12 [44];rw [hM22] at cc hP;try simp only [R3.badB] at hP
      refine cc.mono ?_;rintro e w22 ⟨rfl, k22⟩;have A := zJv (q21.bad (s0 := s) (o12.trans (o11.trans (o2.trans (HO.out)))) k22 rfl);clear k22 cc;go_wp2_with fail
      refine ⟨rfl, ?_⟩;rw [← hP];exact ⟨rfl, A.out⟩
     have cc := mustR (B := (B.with G8)) HB.out q21.ps k12 [44];rw [hM22] at cc hP;try simp only [R3.okB] at hP
     obtain ⟨g22, k22, o22⟩ := zap hT s4 u s5 k12 hM22;refine cc.mono ?_;rintro e w22 ⟨rfl, a22⟩;have q22 := q21.call a22;have oX := oX.call q21 a22;clear a22 cc;have QX := zJv oX;have Q23 := zJv q22;clear q22 oX;go_wp2_with fail
     exact ⟨⟨_, _, s5, f, _, Q23, QX, zJv k22, zJv (o22.trans (o12.trans (o11.trans (o2.trans (HO.out))))), zJv hP, zJv ⟨by omega, by omega⟩⟩, by
      rw [Q23.out.kAt, hkA]
      omega⟩
end Go.Proofs.YtidmeodmkcomlaaGreatDoor
