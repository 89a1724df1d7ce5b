/- Variants, which may be as deep as a text is long: what the rule gives, or what is wrong. -/
import Derived.Test.YtidmeodmkcomlaaGreatDoorK44
set_option linter.unusedSimpArgs false
set_option linter.unusedVariables false
namespace Go.Proofs.YtidmeodmkcomlaaGreatDoor
open Go Go.Proofs Go.RowKit
set_option maxHeartbeats 8000000
theorem zAi : (Tryz.prog.info? 40).map (fun i => (i.zero, i.size, i.bytes)) = some (some (.agg #[.int .i64 0, .int .i64 0, .string ByteArray.empty, .slice none 0 0, .slice none 0 0, .bool false]), 6, 88) := by kernel_rfl
abbrev zz6 (p : Int) : Value := .agg #[.int .i64 9, .int .i64 p, .string ⟨#[]⟩, .slice none 0 0, .slice none 0 0, .bool false]
set_option maxRecDepth 100000 in
theorem zpg {ts : List Tk} {B : PE} {w : World} {s : St} (hBts : B.ts = ts) (h : PS B w s) (hk : s.k < ts.length) (bx : Nat) (hc : w.cell? ⟨bx, 0, none⟩ = some B.ptr) (hbx : bx < w.heap.size) :
 Calls Tryz.prog 118 #[.pointer (some ⟨bx, 0, none⟩)] w fun e w' => e = .returned (zz6 ((tkA ts s.k).2.2 : Int)) ∧ Aft B w (s.on 1) w' := by
 obtain ⟨W0, hW0⟩ : ∃ W0, w.alloc (.cells zTyp.toArray 40) = W0 := ⟨_, rfl⟩;have hB0 : Below w.heap.size w W0 := by rw [← hW0]; exact (zJx _ _).alloc (zJw _) _
 have hX0 : Blk W0 w.heap.size 40 zTyp.toArray := by rw [← hW0]; exact Blk.new w 40 _
 have l0 := hX0.lt;have o0 := AftO.start h hB0 (fun b => b = w.heap.size) (fun b hb => by subst hb; exact ⟨zJw _, l0⟩);have cX := nextR (B := B.with (fun b => b = w.heap.size)) hBts o0.ps hk;have hc0 : W0.cell? ⟨bx, 0, none⟩ = some B.ptr := (hB0.cell (p := ⟨bx, 0, none⟩) hbx).trans hc;have hfd := tokF2;have hbw := h.bw;generalize tkA ts s.k = t at *;have O0 := zJv o0;have X0 := zJv hX0;clear h o0 hX0 hB0;go_enter Tryz.func118, Tryz.ntmps118
 go_wp2_with fail
 refine cX.mono ?_;rintro e w2 ⟨rfl, a2⟩;have hX2 : Blk w2 w.heap.size 40 zTyp.toArray := (O0.out.same a2 rfl).trans X0.out;have o2 := O0.out.call a2;have x0 := hX2.cell 0;have x1 := hX2.cell 1;have x2 := hX2.cell 2;have x3 := hX2.cell 3;have x4 := hX2.cell 4;have x5 := hX2.cell 5;have y0 := hX2.frozen 0;have y1 := hX2.frozen 1;have y2 := hX2.frozen 2;have y3 := hX2.frozen 3;have y4 := hX2.frozen 4;have y5 := hX2.frozen 5;simp only [gA, gB, gC] at x0 x1 x2 x3 x4 x5;have O2 := zJv o2;have Y2 := zJv hX2;clear a2 hX2 cX o2 hW0;go_wp2_with fail
 have hZ := zfp Y2.out (.int .i64 9) (.int .i64 (t.2.2 : Int)) (.string ⟨#[]⟩) (.slice none 0 0) (.slice none 0 0) (.bool false);have q0 := hZ.cell 0;have q1 := hZ.cell 1;have q2 := hZ.cell 2;have q3 := hZ.cell 3;have q4 := hZ.cell 4;have q5 := hZ.cell 5;simp only [gA, gB, gC] at q0 q1 q2 q3 q4 q5;exact bodyPost_ret (v := zz6 (t.2.2 : Int)) (by simp [results, Tryz.results118, go_sem, q0, q1, q2, q3, q4, q5]) rfl ⟨rfl, ((((((O2.out.set rfl 0 _ hbw).set rfl 1 _ hbw).set rfl 2 _ hbw).set rfl 3 _ hbw).set rfl 4 _ hbw).set rfl 5 _ hbw).out⟩
def PreOk : List Vr → List El → Prop
 | [], pre => ∃ p : Ptr2, pre = [(⟨0, 0, ⟨#[]⟩, [], [], false⟩, p)]
 | z :: r, pre => ∃ (pre' : List El) (p : Ptr2), pre = pre' ++ [(vrD z false, p)] ∧ PreOk r pre'
theorem PreOk.len : ∀ {r : List Vr} {pre : List El}, PreOk r pre → pre.length = r.length + 1
 | [], pre, h => by obtain ⟨p, rfl⟩ := h; rfl
 | z :: r, pre, h => by
  obtain ⟨pre', p, rfl, h⟩ := h;have := h.len;simp [this]
theorem zpy (n m : Nat) (h : n = m + 1) (hm : m ≤ 16384) : IntKind.i64.wrap ((n : Int) - 1) = (m : Int) := by
 rw [IntKind.wrap_i64];omega
theorem zF4 (w : World) (G : Nat → Prop) (hG : G w.heap.size) (pos : Int) : Stk (w.alloc (.cells #[.int .i64 0, .int .i64 0, .string ⟨#[]⟩, .slice none 0 0, .slice none 0 0, .bool false, .int .i64 9, .int .i64 pos, .string ⟨#[]⟩, .slice none 0 0, .slice none 0 0, .bool false] 40)) G (.slice (some ⟨w.heap.size, 0, none⟩) 2 2) [(⟨0, 0, ⟨#[]⟩, [], [], false⟩, ⟨none, 0, none, 0⟩), (⟨9, pos, ⟨#[]⟩, [], [], false⟩, ⟨none, 0, none, 0⟩)] :=
 ⟨⟨rfl, .inr ⟨w.heap.size, 2, _, rfl, zK8 _, Blk.new w 40 _, zJw _, by decide, rfl, rfl⟩⟩, fun g e => by rw [zgi e]; exact hG,
  fun x hx => by simp only [zKf, zKn, or_false] at hx; rcases hx with rfl | rfl <;> exact zdb _ _ _ _,
  fun x hx => by simp only [zKf, zKn, or_false] at hx; rcases hx with rfl | rfl <;> exact zdb _ _ _ _,
  fun x hx g e => by simp only [zKf, zKn, or_false] at hx; rcases hx with rfl | rfl <;> exact zcc e,
  fun x hx g e => by simp only [zKf, zKn, or_false] at hx; rcases hx with rfl | rfl <;> exact zcc e,
  List.pairwise_pair.2 AparV.nil, List.pairwise_pair.2 AparV.nil⟩
theorem Stk.typ {w : World} {G : Nat → Prop} {v : Value} {els : List El} {x : El} (o : Stk w G v els) (hx : x ∈ els) : TypOk (Lt w.heap.size) w x.1 x.2 := by
 obtain ⟨A, c, e, _, h⟩ := SlAt.of_own (o.r3 x hx);obtain ⟨A', c', e', _, h'⟩ := SlAt.of_own (o.r4 x hx);injection e with e
 injection e' with e'
 subst e;subst e';exact ⟨h.imp (fun b q => q.2), h'.imp (fun b q => q.2)⟩
theorem Stk.capLe {w : World} {G : Nat → Prop} {els : List El} {b n c : Nat} (o : Stk w G (.slice (some ⟨b, 0, none⟩) n c) els) (hn : n = els.length) : n ≤ c := by
 subst hn;obtain ⟨_, _, h, _⟩ := zfr o.row;exact h
theorem PreOk.last {r : List Vr} {pre : List El} (h : PreOk r pre) : ∃ (pre1 : List El) (zz : El), pre = pre1 ++ [zz] ∧ ((r = [] ∧ pre1 = [] ∧ zz.1 = ⟨0, 0, ⟨#[]⟩, [], [], false⟩) ∨ ∃ (z : Vr) (r' : List Vr), r = z :: r' ∧ zz.1 = vrD z false ∧ PreOk r' pre1) := by
 cases r with
 | nil => obtain ⟨p, rfl⟩ := h; exact ⟨[], _, rfl, .inl ⟨rfl, rfl, rfl⟩⟩
 | cons z r => obtain ⟨pre', p, rfl, h⟩ := h; exact ⟨pre', _, rfl, .inr ⟨z, r, rfl, rfl, h⟩⟩
theorem rd_el (w : World) (us : List Value) (t : TypeId) : RdAt (w.alloc (.cells us.toArray t)) (some ⟨w.heap.size, 0, none⟩) us := .inr ⟨_, _, rfl, fun j x hx => by
 rw [(Blk.new w t us.toArray).cell (0 + j), Nat.zero_add]
 simpa using hx⟩
theorem zFx {ops : Array Oper} {rest : List Oper} {o : Oper} {a : Act} {Q : Exit → Act → World → Prop} {w : World} {v : Value} {n : Nat} {xs : List Value} (hgd : o.guard = none) (s x : Operand)
 (ho : o.op = .call { callee := .builtin .append, args := #[s, x], argTypes := #[24, 24] })
 (hs : a.eval s = v) (hown : w.ownsRow 0 40 6 v n xs) (pos : Int) (hx : a.eval x = .slice (some ⟨w.heap.size, 0, none⟩) 1 1) (hn : n ≤ 1000000)
 (h : ∀ v' w', w'.ownsRow 0 40 6 v' (n + 1) (xs ++ za4 ⟨9, pos, ⟨#[]⟩, [], [], false⟩ ⟨none, 0, none, 0⟩) → (w.alloc (.cells #[.int .i64 9, .int .i64 pos, .string ⟨#[]⟩, .slice none 0 0, .slice none 0 0, .bool false] 40)).grownBy w' v.ownBlock → (v'.ownBlock = v.ownBlock ∨ v'.ownBlock = some (w.alloc (.cells #[.int .i64 9, .int .i64 pos, .string ⟨#[]⟩, .slice none 0 0, .slice none 0 0, .bool false] 40)).heap.size) → wpList Tryz.prog ops Q rest (a.put o.dst v') w') :
 wpList Tryz.prog ops Q (o :: rest) a (w.alloc (.cells #[.int .i64 9, .int .i64 pos, .string ⟨#[]⟩, .slice none 0 0, .slice none 0 0, .bool false] 40)) := by
 obtain ⟨i0, hi, hz0, hz1, hz2⟩ := info_parts zAi;exact zca (P := Tryz.prog) _ hgd s x 24 ho 0 40 i0 _ 6 88 Tryz.underlying24 hi hz0 hz1 hz2 rfl (by decide) v n xs hs (zaj hown ((zJx _ _).alloc (zJw _) _)) (some ⟨w.heap.size, 0, none⟩) 1 1 [.int .i64 9, .int .i64 pos, .string ⟨#[]⟩, .slice none 0 0, .slice none 0 0, .bool false] hx rfl (rd_el w [.int .i64 9, .int .i64 pos, .string ⟨#[]⟩, .slice none 0 0, .slice none 0 0, .bool false] 40) (by intro u' hu; simp only [zKf, zKn, or_false] at hu; rcases hu with rfl | rfl | rfl | rfl | rfl | rfl <;> rfl) (by unfold maxLen; omega) (by omega) (zK8 _) h
theorem zpt {ts : List Tk} (hT : TsOk ts) {T : St → R3 Nat} (pY : Prog3 ts T) : Prog3 ts (zay ts T) := by
 intro s i s' hk e;have := zik (q := True) hT (zav pY s.op) s hk rfl;rw [e] at this;exact this
def Small (s : St) (y : Vr) : Prop := y.2.1.length ≤ s.k ∧ y.2.2.length ≤ s.k ∧ y.1 ≤ 1048576
theorem Small.mono {s s' : St} {y : Vr} (h : Small s y) (hk : s.k ≤ s'.k) : Small s' y := ⟨zK4 h.1 hk, zK4 h.2.1 hk, h.2.2⟩
theorem zoq {ts : List Tk} (hT : TsOk ts) {x : Vr} {s : St} {y : Vr × Option Bool} {s' : St} (hk : s.k < ts.length) (h : itemM ts x s = .ok y s') : s.k < s'.k ∧ s'.k < ts.length ∧ s'.op = s.op := by
 have := zuj (q := True) hT x s hk;rw [h] at this;exact ⟨this.1, this.2⟩
theorem zwp {ts : List Tk} (hT : TsOk ts) {x : Vr} {s : St} {y : Vr × Option Bool} {s' : St} (hk : s.k < ts.length) (h : itemM ts x s = .ok y s') (hx : Small s x) : Small s' y.1 := by
 have hp := zoq hT hk h;unfold itemM at h;split at h
 · injection h with h _
   subst h;exact hx.mono (by omega)
 obtain ⟨_, s1, h1, h2⟩ := R3.bind_ok h
 have hk1 : s.k ≤ s1.k ∧ s1.k < ts.length := by
  split at h1
  · injection h1 with _ h1; subst h1; exact ⟨zJw _, hk⟩
  · have := zap hT _ _ _ hk h1; exact ⟨by omega, this.2.1⟩
 split at h2
 · obtain ⟨_, s2, h3, h4⟩ := R3.bind_ok h2
   injection h4 with h4 _
   subst h4;exact hx.mono (by omega)
 · obtain ⟨n, s2, h3, h4⟩ := R3.bind_ok h2
   injection h4 with h4 h5
   subst h4;subst h5;have := zlh hT (by decide) _ _ _ hk1.2 h3;have q := hx.mono (s' := s1) hk1.1;exact ⟨by simp only [zK5, zK2, zKc]; have := q.1; omega, by have := q.2.1; dsimp only; omega, q.2.2⟩
set_option maxRecDepth 100000 in
theorem zgq {ts : List Tk} (hT : TsOk ts) (T : St → R3 Nat) (hY : Rule3 ts 21 T) (pY : Prog3 ts T) : VRule ts T := by
 intro B w s hBts h hk hs hu;generalize hR : zbp ts T s = R at hu ⊢;unfold zbp at hR;have hk1 : (s.on 1).k < ts.length := hT.step hk hs;have hpl := hT.plc s.k;have hfew := hT.few;have hbw0 := h.bw;obtain ⟨i40, hi, hz0, hz1, hz2⟩ := info_parts zAi;obtain ⟨W0, hW0⟩ : ∃ W, w.alloc (.cells #[B.ptr] 54) = W := ⟨_, rfl⟩;have hb0 : Below w.heap.size w W0 := by rw [← hW0]; exact (zJx _ _).alloc (zJw _) _
 have hX : Blk W0 w.heap.size 54 #[B.ptr] := by rw [← hW0]; exact Blk.new w 54 _
 have hXl := hX.lt;have O0 := zJv (AftO.start h hb0 (fun b => b = w.heap.size) (fun b hb => by subst hb; exact ⟨zJw _, hXl⟩));have hnm := O0.out.nm _ rfl;have hbx : ∀ (G : Nat → Prop) (W : World) (s' : St), AftO (B.with (fun b => b = w.heap.size)) G W0 s' W → W.cell? ⟨w.heap.size, 0, none⟩ = some B.ptr ∧ w.heap.size < W.heap.size := fun G W s' a => ⟨(zKb (a := ⟨w.heap.size, 0, none⟩) (a.kt.block hXl hnm)).trans (hX.at_ rfl), zJy hXl a.kt.1⟩;have HX := zJv hbx;have hbw : ((B.with (fun b => b = w.heap.size))).base ≤ W0.heap.size := zK4 hbw0 hb0.size;have cG := zpg (B := (B.with (fun b => b = w.heap.size))) hBts O0.out.ps hk w.heap.size (hX.at_ rfl) hXl;have hmf : ∀ (fn : Fn) (first cap : Array Value) (w : World), (Instr.makeFunc fn first cap).run Tryz.prog w = .ok (.func fn first cap) w := fun _ _ _ _ => rfl;have hxc := hX.at_ (j := 0) (u := B.ptr) rfl;have hpos : posA ts s = (tkA ts s.k).2.2 := rfl;rw [hpos] at hR;generalize (tkA ts s.k).2.2 = p0 at *;clear hX h hb0 hbx hpos;go_enter Tryz.func78, Tryz.ntmps78
 go_wp2_with fail
 refine cG.mono ?_;rintro e w2 ⟨rfl, a2⟩;have qn := a2.none;clear a2 cG;go_wp2_with fail
 obtain ⟨w3, hW3⟩ : ∃ W, w2.alloc (.cells #[.int .i64 0, .int .i64 0, .string ⟨#[]⟩, .slice none 0 0, .slice none 0 0, .bool false, .int .i64 9, .int .i64 (p0 : Int), .string ⟨#[]⟩, .slice none 0 0, .slice none 0 0, .bool false] 40) = W := ⟨_, rfl⟩;have hb3 : Below w2.heap.size w2 w3 := by rw [← hW3]; exact (zJx _ _).alloc (zJw _) _
 have q3 := qn.grow hbw hb3 w2.heap.size (zJw _) (by rw [← hW3]; simp);have oS := zF4 w2 (fun b => False ∨ b = w2.heap.size) (.inr rfl) (p0 : Int);rw [hW3] at oS;rw [hW3];have Q3 := zJv q3;have QS := zJv oS;clear q3 oS qn hb3 hW3;go_loopw [4, 5] (fun v4 _ wr => ∃ (b n c : Nat) (els : List El) (G : Nat → Prop) (s1 : St), v4 = .slice (some ⟨b, 0, none⟩) n c ∧ Hid (n = els.length) ∧ Hid (AftO (B.with (fun b => b = w.heap.size)) G W0 s1 wr) ∧ Hid (Stk wr G (.slice (some ⟨b, 0, none⟩) n c) els) ∧ Hid (s1.k < ts.length) ∧ Hid (s1.op = s.op) ∧ Hid ((∃ (f : Nat) (x : Vr) (r : List Vr) (pre : List El) (p : Ptr2), els = pre ++ [(vrD x false, p)] ∧ PreOk r pre ∧ zaq ts T f x r s1 = R ∧ r.length + 1 ≤ s1.k ∧ ∀ y ∈ x :: r, Small s1 y) ∨ ∃ (d : TypD) (p : Ptr2) (i : Nat), els = [(d, p)] ∧ d.kids = [(i : Int)] ∧ R = .ok i s1)) (fun _ _ wr => ts.length - kAt B wr)
 case atStart => exact ⟨_, _, _, _, _, s.on 1, rfl, zJv rfl, Q3, QS, zJv hk1, zJv rfl, zJv (.inl ⟨_, (p0, [], []), [], [(⟨0, 0, ⟨#[]⟩, [], [], false⟩, ⟨none, 0, none, 0⟩)], ⟨none, 0, none, 0⟩, rfl, ⟨_, rfl⟩, hR, Nat.le_add_left 1 s.k, fun y hy => by simp only [zK7] at hy; subst hy; exact ⟨zK8 _, zK8 _, hpl⟩⟩)⟩
 case round =>
  clear Q3 QS hR;obtain ⟨b, n, c, els, G, s1, rfl, HN, HA, HS, HK, HO, HQ⟩ := hrel;have hkA : kAt B wr = s1.k := HA.out.kAt;have hkk := HK.out;obtain ⟨hxc, hxl⟩ := HX.out _ _ _ HA.out;rcases HQ.out with ⟨f, x, r, pre, p, rfl, hpre, hP, hrl, hsm⟩ | ⟨d, p, i, rfl, hdk, hP⟩
  · cases f with
    | zero => exact absurd hP.symm hu
    | succ f =>
     unfold zaq at hP;have hpl2 := hpre.len;obtain ⟨m, hm⟩ : ∃ m, m = pre.length := ⟨_, rfl⟩;have hn := HN.out;have hnm1 : n = m + 1 := by rw [hn, hm]; simp
     have hm1 : 1 ≤ m := by omega
     have hmb : m ≤ 16384 := by omega
     have hgt : decide ((1 : Int) < (n : Int)) = true := by rw [zKq]; omega
     have hwn := zpy n m hnm1 hmb;have hlt : (m : Int) < (n : Int) := by omega
     have h0m : (0 : Int) ≤ (m : Int) := by omega
     have oS := HS.out;have hcap := oS.capLe hn;have HM := zJv (⟨hm, hn, hnm1, hpl2⟩ : m = pre.length ∧ n = _ ∧ n = m + 1 ∧ pre.length = r.length + 1);clear hm hn hnm1 hpl2;go_wp2_with fail
     have qd := HA.out.below (w2 := wr.drew) (zJx _ _).drew;have oS := oS.below (w2 := wr.drew) (zJx _ _).drew;have cI := zxh (B := (B.with (fun b => b = w.heap.size))) hT hBts hbw qd oS HM.out.2.1 HK.out (zK4 (hsm x (List.mem_cons_self ..)).2.2 (by decide)) (zK4 (hsm x (List.mem_cons_self ..)).1 (by have := HK.out; omega));rw [← HM.out.1] at cI;rcases hM : itemM ts x s1 with ⟨⟨y, oo⟩, s2⟩ | ⟨c1, p1⟩ | _
     case un => exact (ztv hM).elim
     case bad =>
      rw [hM] at cI hP;try simp only [R3.badB] at hP
      refine za5 (S := fun W => W.cell? ⟨w.heap.size, 0, none⟩ = some B.ptr) (fun j => false) (by kernel_rfl) (hxc) (fun hHeld => ?_);refine tkG 0 ?_;try simp only [Act.put, sA, sB, sC]
      refine tkG 1 ?_;try simp only [Act.put, sA, sB, sC]
      refine tkG 2 ?_;try simp only [Act.put, sA, sB, sC]
      refine tkG 3 ?_;try simp only [Act.put, sA, sB, sC]
      refine rdG 4 (fun K hK => ?_);go_simp
      refine cI.mono ?_;rintro e w5 ⟨rfl, s9, o9, a9⟩;have A := zJv ((O0.out.call a9).out);have ho9 : s9.op = s.op := o9.trans HO.out;clear a9 cI qd oS;go_wp2_with fail
      rw [← hP];exact ⟨rfl, rfl, s9, ho9, A.out⟩
     rw [hM] at cI hP;simp only [R3.okB] at hP;have hip := zoq hT HK.out hM;have hsy := zwp hT HK.out hM (hsm x (List.mem_cons_self ..));dsimp only at hsy
     cases oo with
     | some oc =>
      dsimp only at hP;refine wp_region_noPanic ?_;refine za5 (S := fun W => W.cell? ⟨w.heap.size, 0, none⟩ = some B.ptr) (fun j => false) (by kernel_rfl) (hxc) (fun hHeld => ?_);refine tkG 0 ?_;try simp only [Act.put, sA, sB, sC]
      refine tkG 1 ?_;try simp only [Act.put, sA, sB, sC]
      refine tkG 2 ?_;try simp only [Act.put, sA, sB, sC]
      refine tkG 3 ?_;try simp only [Act.put, sA, sB, sC]
      refine rdG 4 (fun K hK => ?_);go_simp
      refine cI.mono ?_;rintro e w5 ⟨rfl, G5, p5, q5, oS⟩;dsimp only [Option.getD] at oS;have hxc := (HX.out _ _ _ q5).1;have hxl := (HX.out _ _ _ q5).2;clear cI qd;go_wp2_with fail
      refine hK.out _ _ ?hSva10 (fun hHeld => ?_)
      case hSva10 => exact hxc
      clear hK K;try simp only [Act.put, sA, sB, sC]
      refine tkG 5 ?_;try simp only [Act.put, sA, sB, sC]
      refine tkG 6 ?_;try simp only [Act.put, sA, sB, sC]
      refine zah (by kernel_rfl) ?_ _;refine NoPanic.normal ?_;obtain ⟨pre1, zz, hpz, hzz⟩ := hpre.last;obtain ⟨hm, hn, hnm1, hpl2⟩ := HM.out;clear HM;subst hpz;obtain ⟨m1, hm1e⟩ : ∃ m1, m1 = pre1.length := ⟨_, rfl⟩;have hmm : m = m1 + 1 := by rw [hm, hm1e]; simp
      have hwm := zpy m m1 hmm (by omega);have h0m1 : (0 : Int) ≤ (m1 : Int) := by omega
      have hlt1 : (m1 : Int) < (n : Int) := by omega
      have hmc : (m : Int) ≤ (c : Int) := by omega
      have hn2 : n = (pre1 ++ zz :: [(vrD y oc, p5)]).length := by rw [hn]; simp
      have e12 : pre1 ++ [zz] ++ [(vrD y oc, p5)] = pre1 ++ zz :: [(vrD y oc, p5)] := by simp
      rw [e12] at oS
      have hkz : zz.1.kids.length ≤ 1000000 := by
       rcases hzz with ⟨_, _, e⟩ | ⟨z, r', e1, e2, _⟩
       · rw [e]; simp
       · rw [e2]; subst e1; exact zK4 (hsm z (by simp)).2.1 (by omega)
      have hlast : (pre1 ++ [zz]).length = m := hm.symm;have HE := zJv (⟨hm1e, hmm, hn2, hlast, e12, hnm1, hpl2⟩ : _ ∧ _ ∧ _ ∧ _ ∧ _ ∧ _ ∧ _);clear hm hm1e hmm hn2 hlast e12 hn hnm1 hpl2;go_wp2_with fail
      have qd := q5.below (w2 := w5.drew) (zJx _ _).drew;have oS := oS.below (w2 := w5.drew) (zJx _ _).drew;have hS7 : ∀ (W : World) (G : Nat → Prop) (s' : St), AftO (B.with (fun b => b = w.heap.size)) G W0 s' W → Stk W G (.slice (some ⟨b, 0, none⟩) n c) (pre1 ++ zz :: [(vrD y oc, p5)]) → (fun W => W.cell? ⟨w.heap.size, 0, none⟩ = some B.ptr ∧ W.cell? ⟨b, m1 * 6 + 4, none⟩ = some (.slice zz.2.a4 zz.1.kids.length zz.2.c4) ∧ W.cell? ⟨b, m * 6, none⟩ = some (.int .i64 9) ∧ W.cell? ⟨b, m * 6 + 1, none⟩ = some (.int .i64 (y.1 : Int)) ∧ W.cell? ⟨b, m * 6 + 2, none⟩ = some (.string (bs [])) ∧ W.cell? ⟨b, m * 6 + 3, none⟩ = some (.slice p5.a3 (bss y.2.1).length p5.c3) ∧ W.cell? ⟨b, m * 6 + 4, none⟩ = some (.slice p5.a4 y.2.2.length p5.c4) ∧ W.cell? ⟨b, m * 6 + 5, none⟩ = some (.bool oc)) W := fun W G s' a o => ⟨(HX.out _ _ _ a).1, by rw [HE.out.1]; exact o.cell HE.out.2.2.1 (j := 4) (by decide) rfl, (by rw [← HE.out.2.2.2.1]; exact Stk.cell (pre := pre1 ++ [zz]) (post := []) (by simpa using o) (by simpa using HE.out.2.2.1) (j := 0) (by decide) rfl), (by rw [← HE.out.2.2.2.1]; exact Stk.cell (pre := pre1 ++ [zz]) (post := []) (by simpa using o) (by simpa using HE.out.2.2.1) (j := 1) (by decide) rfl), (by rw [← HE.out.2.2.2.1]; exact Stk.cell (pre := pre1 ++ [zz]) (post := []) (by simpa using o) (by simpa using HE.out.2.2.1) (j := 2) (by decide) rfl), (by rw [← HE.out.2.2.2.1]; exact Stk.cell (pre := pre1 ++ [zz]) (post := []) (by simpa using o) (by simpa using HE.out.2.2.1) (j := 3) (by decide) rfl), (by rw [← HE.out.2.2.2.1]; exact Stk.cell (pre := pre1 ++ [zz]) (post := []) (by simpa using o) (by simpa using HE.out.2.2.1) (j := 4) (by decide) rfl), (by rw [← HE.out.2.2.2.1]; exact Stk.cell (pre := pre1 ++ [zz]) (post := []) (by simpa using o) (by simpa using HE.out.2.2.1) (j := 5) (by decide) rfl)⟩;dsimp only at hS7;have HS7 := zJv hS7;clear hS7;have cN := zin (B := ((B.with (fun b => b = w.heap.size)).with G5)) qd.ps (vrD y oc) p5 (oS.typ (x := (vrD y oc, p5)) (by simp)) ⟨by simp only [bss, zKd]; have := hsy.1; omega, by have := hsy.2.1; show y.2.2.length ≤ _; omega⟩;dsimp only [za4, vrD] at cN;rcases hN : newY s2 (vrD y oc) with ⟨i, s3⟩ | ⟨c1, p1⟩ | _
      case un => exact (znm hN).elim
      case bad =>
       have cN2 := cN;unfold vrD at hN;try dsimp only at hN
       rw [hN] at cN2;rw [show newY s2 (vrD y oc) = _ from hN] at hP;try simp only [R3.badB] at hP
       refine za5 (S := fun W => W.cell? ⟨w.heap.size, 0, none⟩ = some B.ptr ∧ W.cell? ⟨b, m1 * 6 + 4, none⟩ = some (.slice zz.2.a4 zz.1.kids.length zz.2.c4) ∧ W.cell? ⟨b, m * 6, none⟩ = some (.int .i64 9) ∧ W.cell? ⟨b, m * 6 + 1, none⟩ = some (.int .i64 (y.1 : Int)) ∧ W.cell? ⟨b, m * 6 + 2, none⟩ = some (.string (bs [])) ∧ W.cell? ⟨b, m * 6 + 3, none⟩ = some (.slice p5.a3 (bss y.2.1).length p5.c3) ∧ W.cell? ⟨b, m * 6 + 4, none⟩ = some (.slice p5.a4 y.2.2.length p5.c4) ∧ W.cell? ⟨b, m * 6 + 5, none⟩ = some (.bool oc)) (fun j => j == 19) (by kernel_rfl) (HS7.out _ _ _ qd oS) (fun hHeld => ?_);refine tkG 0 ?_;try simp only [Act.put, sA, sB, sC]
       refine tkG 1 ?_;try simp only [Act.put, sA, sB, sC]
       refine tkG 2 ?_;try simp only [Act.put, sA, sB, sC]
       refine tkG 3 ?_;try simp only [Act.put, sA, sB, sC]
       refine tkG 4 ?_;try simp only [Act.put, sA, sB, sC]
       refine tkG 5 ?_;try simp only [Act.put, sA, sB, sC]
       refine tkG 6 ?_;try simp only [Act.put, sA, sB, sC]
       refine tkG 7 ?_;try simp only [Act.put, sA, sB, sC]
       refine tkG 8 ?_;try simp only [Act.put, sA, sB, sC]
       refine tkG 9 ?_;try simp only [Act.put, sA, sB, sC]
       refine tkG 10 ?_;try simp only [Act.put, sA, sB, sC]
       refine tkG 11 ?_;try simp only [Act.put, sA, sB, sC]
       refine tkG 12 ?_;try simp only [Act.put, sA, sB, sC]
       refine tkG 13 ?_;try simp only [Act.put, sA, sB, sC]
       refine rdG 14 (fun K hK => ?_);go_simp
       refine cN2.mono ?_;rintro e w6 ⟨rfl, k6⟩;obtain ⟨s9, o9, a9⟩ := qd.bad (s0 := s) (hip.2.2.trans HO.out) k6 rfl;have A := zJv ((O0.out.call a9).out);clear a9 k6 cN cN2 qd oS;go_wp2_with fail
       rw [← hP];exact ⟨rfl, rfl, s9, o9, A.out⟩
      have cN2 := cN;unfold vrD at hN;try dsimp only at hN
      rw [hN] at cN2;rw [show newY s2 (vrD y oc) = _ from hN] at hP;simp only [R3.okB] at hP;obtain ⟨hk3, hk3t, hop3⟩ := zts hN hip.2.1;refine wp_region_noPanic ?_;refine za5 (S := fun W => W.cell? ⟨w.heap.size, 0, none⟩ = some B.ptr ∧ W.cell? ⟨b, m1 * 6 + 4, none⟩ = some (.slice zz.2.a4 zz.1.kids.length zz.2.c4) ∧ W.cell? ⟨b, m * 6, none⟩ = some (.int .i64 9) ∧ W.cell? ⟨b, m * 6 + 1, none⟩ = some (.int .i64 (y.1 : Int)) ∧ W.cell? ⟨b, m * 6 + 2, none⟩ = some (.string (bs [])) ∧ W.cell? ⟨b, m * 6 + 3, none⟩ = some (.slice p5.a3 (bss y.2.1).length p5.c3) ∧ W.cell? ⟨b, m * 6 + 4, none⟩ = some (.slice p5.a4 y.2.2.length p5.c4) ∧ W.cell? ⟨b, m * 6 + 5, none⟩ = some (.bool oc)) (fun j => j == 19) (by kernel_rfl) (HS7.out _ _ _ qd oS) (fun hHeld => ?_);refine tkG 0 ?_;try simp only [Act.put, sA, sB, sC]
      refine tkG 1 ?_;try simp only [Act.put, sA, sB, sC]
      refine tkG 2 ?_;try simp only [Act.put, sA, sB, sC]
      refine tkG 3 ?_;try simp only [Act.put, sA, sB, sC]
      refine tkG 4 ?_;try simp only [Act.put, sA, sB, sC]
      refine tkG 5 ?_;try simp only [Act.put, sA, sB, sC]
      refine tkG 6 ?_;try simp only [Act.put, sA, sB, sC]
      refine tkG 7 ?_;try simp only [Act.put, sA, sB, sC]
      refine tkG 8 ?_;try simp only [Act.put, sA, sB, sC]
      refine tkG 9 ?_;try simp only [Act.put, sA, sB, sC]
      refine tkG 10 ?_;try simp only [Act.put, sA, sB, sC]
      refine tkG 11 ?_;try simp only [Act.put, sA, sB, sC]
      refine tkG 12 ?_;try simp only [Act.put, sA, sB, sC]
      refine tkG 13 ?_;try simp only [Act.put, sA, sB, sC]
      refine rdG 14 (fun K hK => ?_);go_simp
      refine cN2.mono ?_;rintro e w6 ⟨rfl, a6⟩;have q6 := qd.call a6;have oS := oS.call qd a6;clear a6 cN cN2;go_wp2_with fail
      refine hK.out _ _ ?hSvb42 (fun hHeld => ?_)
      case hSvb42 => exact HS7.out _ _ _ q6 oS
      clear hK K;try simp only [Act.put, sA, sB, sC]
      refine rdG 15 (fun K hK => ?_);go_simp
      have hal : Below w6.heap.size w6 (w6.alloc (.cells #[.int .i64 ((i : Nat) : Int)] 3)) := (zJx _ _).alloc (zJw _) _;refine hK.out _ _ ?hSvb43 (fun hHeld => ?_)
      case hSvb43 => exact HS7.out _ _ _ (q6.below hal) (oS.below hal)
      clear hK K;try simp only [Act.put, sA, sB, sC]
      refine rdG 16 (fun K hK => ?_);refine zcj rfl _ _ rfl (v := (.slice zz.2.a4 zz.1.kids.length zz.2.c4)) (by simp [Act.eval]) (oS.r4 zz zaw) (by simp [Act.eval]) rfl hkz ?_;intro u7 w7 hown hgrow hloc;obtain ⟨A7, d7, e7⟩ : ∃ A c, u7 = .slice A (zz.1.kids.length + 1) c := za8 hown;subst e7;obtain ⟨G7, q7, oT⟩ := oS.kids (pre := pre1) (post := [(vrD y oc, p5)]) q6 hbw HE.out.2.2.1 hal hown hgrow hloc;have oU := zjt oS HE.out.2.2.1 hal hgrow (oS.r4 zz zaw) (by decide);have hb7 : w7.cell? ⟨w.heap.size, 0, none⟩ = some B.ptr := (zKb (a := ⟨w.heap.size, 0, none⟩) (hgrow.block w.heap.size (zJy (HX.out _ _ _ q6).2 hal.size) (fun e => by have := q6.ge _ (oS.g4 zz zaw _ e.symm); omega))).trans ((hal.cell (p := ⟨w.heap.size, 0, none⟩) (HX.out _ _ _ q6).2).trans (HX.out _ _ _ q6).1);have z7 : ∀ j u, (zar (pre1 ++ zz :: [(vrD y oc, p5)]))[j]? = some u → w7.cell? ⟨b, j, none⟩ = some u := zeb oU;have hS8 : (fun W => W.cell? ⟨w.heap.size, 0, none⟩ = some B.ptr ∧ W.cell? ⟨b, m1 * 6 + 4, none⟩ = some (.slice zz.2.a4 zz.1.kids.length zz.2.c4) ∧ W.cell? ⟨b, m * 6, none⟩ = some (.int .i64 9) ∧ W.cell? ⟨b, m * 6 + 1, none⟩ = some (.int .i64 (y.1 : Int)) ∧ W.cell? ⟨b, m * 6 + 2, none⟩ = some (.string (bs [])) ∧ W.cell? ⟨b, m * 6 + 3, none⟩ = some (.slice p5.a3 (bss y.2.1).length p5.c3) ∧ W.cell? ⟨b, m * 6 + 4, none⟩ = some (.slice p5.a4 y.2.2.length p5.c4) ∧ W.cell? ⟨b, m * 6 + 5, none⟩ = some (.bool oc)) w7 := ⟨hb7, by rw [HE.out.1]; exact z7 _ _ ((zbs pre1 _ zz (j := 4) (by decide)).trans rfl), (by rw [← HE.out.2.2.2.1]; rw [← HE.out.2.2.2.2.1] at z7; exact z7 _ _ ((zbs (pre1 ++ [zz]) [] _ (j := 0) (by decide)).trans rfl)), (by rw [← HE.out.2.2.2.1]; rw [← HE.out.2.2.2.2.1] at z7; exact z7 _ _ ((zbs (pre1 ++ [zz]) [] _ (j := 1) (by decide)).trans rfl)), (by rw [← HE.out.2.2.2.1]; rw [← HE.out.2.2.2.2.1] at z7; exact z7 _ _ ((zbs (pre1 ++ [zz]) [] _ (j := 2) (by decide)).trans rfl)), (by rw [← HE.out.2.2.2.1]; rw [← HE.out.2.2.2.2.1] at z7; exact z7 _ _ ((zbs (pre1 ++ [zz]) [] _ (j := 3) (by decide)).trans rfl)), (by rw [← HE.out.2.2.2.1]; rw [← HE.out.2.2.2.2.1] at z7; exact z7 _ _ ((zbs (pre1 ++ [zz]) [] _ (j := 4) (by decide)).trans rfl)), (by rw [← HE.out.2.2.2.1]; rw [← HE.out.2.2.2.2.1] at z7; exact z7 _ _ ((zbs (pre1 ++ [zz]) [] _ (j := 5) (by decide)).trans rfl))⟩;have zf : w7.frozen? ⟨b, m1 * 6 + 4, none⟩ = false := zfd oU _;obtain ⟨w8, hW8⟩ : ∃ W, w7.setCell ⟨b, m1 * 6 + 4, none⟩ (.slice A7 (zz.1.kids.length + 1) d7) = W := ⟨_, rfl⟩;rw [← HE.out.1, hW8] at q7 oT;clear hown hgrow hloc oS oU z7 hb7;refine hK.out _ _ ?hSvb44 (fun hHeld => ?_)
      case hSvb44 => exact hS8
      clear hK K;try simp only [Act.put, sA, sB, sC]
      refine rdG 17 (fun K hK => ?_);go_simp
      refine hK.out _ _ ?hSvb45 (fun hHeld => ?_)
      case hSvb45 => exact hHeld
      clear hK K;try simp only [Act.put, sA, sB, sC]
      refine rdG 18 (fun K hK => ?_);go_simp
      refine hK.out _ _ ?hSvb46 (fun hHeld => ?_)
      case hSvb46 => exact hHeld
      clear hK K;try simp only [Act.put, sA, sB, sC]
      refine rdL 19 (fun K hK => ?_);go_simp
      try rw [hW8]
      refine hK.out _ _ ?_;clear hK K;try simp only [Act.put, sA, sB, sC]
      refine zah (by kernel_rfl) ?_ _;refine NoPanic.normal ?_;have oP := Stk.pop (pre := pre1 ++ [({ zz.1 with kids := zz.1.kids ++ [((i : Nat) : Int)] }, { zz.2 with a4 := A7, c4 := d7 })]) (x := (vrD y oc, p5)) (by simpa using oT) (by simpa using HE.out.2.2.1);rw [show (pre1 ++ [(({ zz.1 with kids := zz.1.kids ++ [((i : Nat) : Int)] } : TypD), ({ zz.2 with a4 := A7, c4 := d7 } : Ptr2))]).length = m by rw [HE.out.2.1, HE.out.1]; simp] at oP;have Q8 := zJv q7;have QP := zJv oP;clear q7 oT oP hS8 hHeld hxc hxl zf HS HA;go_wp2_with fail
      have hlen8 : m = (pre1 ++ [(({ zz.1 with kids := zz.1.kids ++ [((i : Nat) : Int)] } : TypD), ({ zz.2 with a4 := A7, c4 := d7 } : Ptr2))]).length := by rw [HE.out.2.1, HE.out.1]; simp
      have hmea : ts.length - kAt B w8 < ts.length - kAt B wr := by
       rw [show kAt B w8 = s3.k from Q8.out.kAt, hkA];have := hip.1;have := HK.out;omega
      have hk3' : s3.k < ts.length := hk3t;refine ⟨⟨b, m, c, _, G7, s3, rfl, zJv hlen8, Q8, QP, zJv hk3', zJv (hop3.trans (hip.2.2.trans HO.out)), zJv ?_⟩, hmea⟩;rcases hzz with ⟨e1, e2, e3⟩ | ⟨z, r', e1, e2, hpr⟩
      · subst e1
        subst e2;exact .inr ⟨_, _, i, rfl, by rw [e3]; rfl, hP.symm⟩
      · subst e1
        dsimp only at hP;refine .inl ⟨f, _, r', pre1, { zz.2 with a4 := A7, c4 := d7 }, ?_, hpr, hP, ?_, ?_⟩
        · rw [e2]
        · have := hip.1
          have : r'.length + 1 + 1 ≤ s1.k := hrl;omega
        · have hm3 : s1.k ≤ s3.k := by have := hip.1; omega
          intro y' hy';rcases List.mem_cons.1 hy' with rfl | hy'
          · have q := (hsm z (by simp))
            refine ⟨zK4 q.1 hm3, ?_, q.2.2⟩;have := q.2.1;have := hip.1;simp only [zK5, zK2, zKc];omega
          · exact (hsm y' (by simp [hy'])).mono hm3
     | none =>
      dsimp only at hP;refine wp_region_noPanic ?_;refine za5 (S := fun W => W.cell? ⟨w.heap.size, 0, none⟩ = some B.ptr) (fun j => false) (by kernel_rfl) (hxc) (fun hHeld => ?_);refine tkG 0 ?_;try simp only [Act.put, sA, sB, sC]
      refine tkG 1 ?_;try simp only [Act.put, sA, sB, sC]
      refine tkG 2 ?_;try simp only [Act.put, sA, sB, sC]
      refine tkG 3 ?_;try simp only [Act.put, sA, sB, sC]
      refine rdG 4 (fun K hK => ?_);go_simp
      refine cI.mono ?_;rintro e w5 ⟨rfl, G5, p5, q5, oS⟩;dsimp only [Option.getD] at oS;have hxc := (HX.out _ _ _ q5).1;have hxl := (HX.out _ _ _ q5).2;clear cI qd;go_wp2_with fail
      refine hK.out _ _ ?hSvb52 (fun hHeld => ?_)
      case hSvb52 => exact hxc
      clear hK K;try simp only [Act.put, sA, sB, sC]
      refine tkG 5 ?_;try simp only [Act.put, sA, sB, sC]
      refine tkG 6 ?_;try simp only [Act.put, sA, sB, sC]
      refine zah (by kernel_rfl) ?_ _;refine NoPanic.normal ?_;by_cases hb : isA ts s2 [[91]] = true
      · rw [if_pos hb] at hP
        have hk3 : (s2.on 1).k < ts.length := hT.step hip.2.1 (za0 hb);have cS := zee (B := ((B.with (fun b => b = w.heap.size)).with G5)) hBts q5.ps hip.2.1 [91];rw [hb] at cS;go_wp2_with fail
        refine (cS).mono ?_;rintro e w11 ⟨rfl, hb11⟩;have q11 := q5.below hb11;have oS := oS.below hb11;clear hb11;clear cS;go_wp2_with fail
        refine (zpg (B := ((B.with (fun b => b = w.heap.size)).with G5)) hBts q11.ps hip.2.1 w.heap.size (HX.out _ _ _ q11).1 (HX.out _ _ _ q11).2).mono ?_;rintro e w12 ⟨rfl, a12⟩;have q12 := q11.call a12;have oS := oS.call q11 a12;clear a12;have hpl9 := hT.plc s2.k;have hp9 : posA ts s2 = (tkA ts s2.k).2.2 := rfl;rw [hp9] at hP;generalize (tkA ts s2.k).2.2 = p9 at *;have hne : (pre ++ [(vrD y false, p5)]).length = n := by rw [HM.out.2.1]; simp
        have hnb : (pre ++ [(vrD y false, p5)]).length ≤ 1000000 := by have := HM.out.2.2.1; rw [hne]; omega
        have HE := zJv hne;clear hne;have oR := oS.row;go_wp2_with (at_builtin; refine zFx rfl _ _ rfl (v := .slice (some ⟨b, 0, none⟩) n c) (by simp [Act.eval]) oR (p9 : Int) (by simp [Act.eval]) hnb ?_; intro v7 w7 hown hgrow hloc)
        obtain ⟨b7, c7, e7⟩ : ∃ b c, v7 = .slice (some ⟨b, 0, none⟩) ((pre ++ [(vrD y false, p5)]).length + 1) c := zpv hown (Nat.succ_pos _);subst e7;obtain ⟨G7, q7, oT⟩ := oS.push q12 hbw ((zJx _ _).alloc (zJw _) _) 9 (p9 : Int) ⟨#[]⟩ hown hgrow hloc;have Q7 := zJv q7;have QT := zJv oT;clear q7 oT oS oR hown hgrow hloc;generalize hL7 : (pre ++ [(vrD y false, p5)]).length + 1 = l7 at *;have HL := zJv hL7;clear hL7;go_wp2_with fail
        have hmea : ts.length - kAt B w7 < ts.length - kAt B wr := by
         rw [show kAt B w7 = s2.k + 1 from Q7.out.kAt, hkA];have := hip.1;have := HK.out;omega
        refine ⟨⟨b7, l7, c7, _, G7, s2.on 1, rfl, zJv ?_, Q7, QT, zJv hk3, zJv (hip.2.2.trans HO.out), zJv (.inl ⟨f, (p9, [], []), y :: r, pre ++ [(vrD y false, p5)], ⟨none, 0, none, 0⟩, rfl, ⟨pre, p5, rfl, hpre⟩, hP, ?_, ?_⟩)⟩, hmea⟩
        · rw [← HL.out]; simp
        · show r.length + 1 + 1 ≤ s2.k + 1
          have := hip.1;omega
        · have hm3 : s2.k ≤ (s2.on 1).k := Nat.le_succ _
          intro y' hy';rcases List.mem_cons.1 hy' with rfl | hy'
          · exact ⟨zK8 _, zK8 _, hpl9⟩
          rcases List.mem_cons.1 hy' with rfl | hy'
          · exact hsy.mono hm3
          · exact (hsm y' (by simp [hy'])).mono (zK4 (Nat.le_of_lt hip.1) hm3)
      · rw [if_neg hb] at hP
        have hb2 : isA ts s2 [[91]] = false := by simpa using hb
        clear hb;have cS := zee (B := ((B.with (fun b => b = w.heap.size)).with G5)) hBts q5.ps hip.2.1 [91];rw [hb2] at cS;go_wp2_with fail
        refine (cS).mono ?_;rintro e w11 ⟨rfl, hb11⟩;have q11 := q5.below hb11;have oS := oS.below hb11;clear hb11;clear cS;have hlast : pre.length = m := HM.out.1.symm;have hn2 : n = (pre ++ [(vrD y false, p5)]).length := by rw [HM.out.2.1]; simp
        have HE := zJv (And.intro hlast hn2);have hkz : y.2.2.length ≤ 1000000 := by have := hsy.2.1; have := hip.2.1; omega
        clear hlast hn2;go_wp2_with fail
        have qd := q11.below (w2 := w11.drew) (zJx _ _).drew;have oS := oS.below (w2 := w11.drew) (zJx _ _).drew;have hS5 : ∀ (W : World) (G : Nat → Prop) (s' : St), AftO (B.with (fun b => b = w.heap.size)) G W0 s' W → Stk W G (.slice (some ⟨b, 0, none⟩) n c) (pre ++ [(vrD y false, p5)]) → (fun W => W.cell? ⟨w.heap.size, 0, none⟩ = some B.ptr ∧ W.cell? ⟨b, m * 6 + 4, none⟩ = some (.slice p5.a4 y.2.2.length p5.c4)) W := fun W G s' a o => ⟨(HX.out _ _ _ a).1, by rw [← HE.out.1]; exact o.cell HE.out.2 (j := 4) (by decide) rfl⟩;dsimp only at hS5;have HS5 := zJv hS5;clear hS5;rcases hN : zay ts T s2 with ⟨i, s3⟩ | ⟨c1, p1⟩ | _
        case un => rw [hN] at hP; (try simp only [R3.unB] at hP); exact absurd hP.symm hu
        case bad =>
         have cN2 := zh3 (B := ((B.with (fun b => b = w.heap.size)).with G5)) hT hY pY hBts qd.ps hip.2.1 hb2 (by rw [hN]; simp);rw [hN] at cN2 hP;try simp only [R3.badB] at hP
         refine za5 (S := fun W => W.cell? ⟨w.heap.size, 0, none⟩ = some B.ptr ∧ W.cell? ⟨b, m * 6 + 4, none⟩ = some (.slice p5.a4 y.2.2.length p5.c4)) (fun j => j == 13) (by kernel_rfl) (HS5.out _ _ _ qd oS) (fun hHeld => ?_);refine tkG 0 ?_;try simp only [Act.put, sA, sB, sC]
         refine tkG 1 ?_;try simp only [Act.put, sA, sB, sC]
         refine tkG 2 ?_;try simp only [Act.put, sA, sB, sC]
         refine tkG 3 ?_;try simp only [Act.put, sA, sB, sC]
         refine tkG 4 ?_;try simp only [Act.put, sA, sB, sC]
         refine tkG 5 ?_;try simp only [Act.put, sA, sB, sC]
         refine tkG 6 ?_;try simp only [Act.put, sA, sB, sC]
         refine tkG 7 ?_;try simp only [Act.put, sA, sB, sC]
         refine rdG 8 (fun K hK => ?_);go_simp
         refine cN2.mono ?_;rintro e w6 ⟨rfl, k6⟩;obtain ⟨s9, o9, a9⟩ := qd.bad (s0 := s) (hip.2.2.trans HO.out) k6 rfl;have A := zJv ((O0.out.call a9).out);clear a9 k6 cN2 qd oS;go_wp2_with fail
         rw [← hP];exact ⟨rfl, rfl, s9, o9, A.out⟩
        have cN2 := zh3 (B := ((B.with (fun b => b = w.heap.size)).with G5)) hT hY pY hBts qd.ps hip.2.1 hb2 (by rw [hN]; simp);rw [hN] at cN2 hP;simp only [R3.okB] at hP;obtain ⟨hk3, hk3t, hop3⟩ := zpt hT pY _ _ _ hip.2.1 hN;refine wp_region_noPanic ?_;refine za5 (S := fun W => W.cell? ⟨w.heap.size, 0, none⟩ = some B.ptr ∧ W.cell? ⟨b, m * 6 + 4, none⟩ = some (.slice p5.a4 y.2.2.length p5.c4)) (fun j => j == 13) (by kernel_rfl) (HS5.out _ _ _ qd oS) (fun hHeld => ?_);refine tkG 0 ?_;try simp only [Act.put, sA, sB, sC]
        refine tkG 1 ?_;try simp only [Act.put, sA, sB, sC]
        refine tkG 2 ?_;try simp only [Act.put, sA, sB, sC]
        refine tkG 3 ?_;try simp only [Act.put, sA, sB, sC]
        refine tkG 4 ?_;try simp only [Act.put, sA, sB, sC]
        refine tkG 5 ?_;try simp only [Act.put, sA, sB, sC]
        refine tkG 6 ?_;try simp only [Act.put, sA, sB, sC]
        refine tkG 7 ?_;try simp only [Act.put, sA, sB, sC]
        refine rdG 8 (fun K hK => ?_);go_simp
        refine cN2.mono ?_;rintro e w6 ⟨rfl, a6⟩;have q6 := qd.call a6;have oS := oS.call qd a6;clear a6 cN2;go_wp2_with fail
        refine hK.out _ _ ?hSvc72 (fun hHeld => ?_)
        case hSvc72 => exact HS5.out _ _ _ q6 oS
        clear hK K;try simp only [Act.put, sA, sB, sC]
        refine rdG 9 (fun K hK => ?_);go_simp
        have hal : Below w6.heap.size w6 (w6.alloc (.cells #[.int .i64 ((i : Nat) : Int)] 3)) := (zJx _ _).alloc (zJw _) _;refine hK.out _ _ ?hSvc73 (fun hHeld => ?_)
        case hSvc73 => exact HS5.out _ _ _ (q6.below hal) (oS.below hal)
        clear hK K;try simp only [Act.put, sA, sB, sC]
        refine rdG 10 (fun K hK => ?_);refine zcj rfl _ _ rfl (v := (.slice p5.a4 y.2.2.length p5.c4)) (by simp [Act.eval]) (oS.r4 _ zaw) (by simp [Act.eval]) rfl hkz ?_;intro u7 w7 hown hgrow hloc;obtain ⟨A7, d7, e7⟩ : ∃ A c, u7 = .slice A (y.2.2.length + 1) c := za8 hown;subst e7;obtain ⟨G7, q7, oT⟩ := oS.kids (pre := pre) (post := []) q6 hbw HE.out.2 hal hown hgrow hloc;have oU := zjt oS HE.out.2 hal hgrow (oS.r4 _ zaw) (by decide);have hb7 : w7.cell? ⟨w.heap.size, 0, none⟩ = some B.ptr := (zKb (a := ⟨w.heap.size, 0, none⟩) (hgrow.block w.heap.size (zJy (HX.out _ _ _ q6).2 hal.size) (fun e => by have := q6.ge _ (oS.g4 _ zaw _ e.symm); omega))).trans ((hal.cell (p := ⟨w.heap.size, 0, none⟩) (HX.out _ _ _ q6).2).trans (HX.out _ _ _ q6).1);have z7 : w7.cell? ⟨b, m * 6 + 4, none⟩ = some (.slice p5.a4 y.2.2.length p5.c4) := by rw [← HE.out.1]; exact zeb oU _ _ ((zbs pre [] _ (by decide)).trans rfl)
        have hS8 : (fun W => W.cell? ⟨w.heap.size, 0, none⟩ = some B.ptr ∧ W.cell? ⟨b, m * 6 + 4, none⟩ = some (.slice p5.a4 y.2.2.length p5.c4)) w7 := ⟨hb7, z7⟩;have zf : w7.frozen? ⟨b, m * 6 + 4, none⟩ = false := zfd oU _;obtain ⟨w8, hW8⟩ : ∃ W, w7.setCell ⟨b, m * 6 + 4, none⟩ (.slice A7 (y.2.2.length + 1) d7) = W := ⟨_, rfl⟩;have hml : pre.length = m := HE.out.1;rw [hml, hW8] at q7 oT;clear hml hown hgrow hloc oS oU z7 hb7;refine hK.out _ _ ?hSvc74 (fun hHeld => ?_)
        case hSvc74 => exact hS8
        clear hK K;try simp only [Act.put, sA, sB, sC]
        refine rdG 11 (fun K hK => ?_);go_simp
        refine hK.out _ _ ?hSvc75 (fun hHeld => ?_)
        case hSvc75 => exact hHeld
        clear hK K;try simp only [Act.put, sA, sB, sC]
        refine rdG 12 (fun K hK => ?_);go_simp
        refine hK.out _ _ ?hSvc76 (fun hHeld => ?_)
        case hSvc76 => exact hHeld
        clear hK K;try simp only [Act.put, sA, sB, sC]
        refine rdL 13 (fun K hK => ?_);go_simp
        try rw [hW8]
        refine hK.out _ _ ?_;clear hK K;try simp only [Act.put, sA, sB, sC]
        refine zah (by kernel_rfl) ?_ _;refine NoPanic.normal ?_;have Q8 := zJv q7;have QP := zJv oT;clear q7 oT hS8 hHeld hxc hxl zf HS HA;go_wp2_with fail
        have hmea : ts.length - kAt B w8 < ts.length - kAt B wr := by
         rw [show kAt B w8 = s3.k from Q8.out.kAt, hkA];have := hip.1;have := HK.out;omega
        refine ⟨⟨b, n, c, _, G7, s3, rfl, zJv ?_, Q8, QP, zJv hk3t, zJv (hop3.trans (hip.2.2.trans HO.out)), zJv (.inl ⟨f, (y.1, y.2.1, y.2.2 ++ [((i : Nat) : Int)]), r, pre, { p5 with a4 := A7, c4 := d7 }, rfl, hpre, hP, ?_, ?_⟩)⟩, hmea⟩
        · rw [HM.out.2.1]; simp
        · have := hip.1
          omega
        · have hm3 : s2.k ≤ s3.k := Nat.le_of_lt hk3
          intro y' hy';rcases List.mem_cons.1 hy' with rfl | hy'
          · refine ⟨zK4 hsy.1 hm3, ?_, hsy.2.2⟩
            have := hsy.2.1;simp only [zK5, zK2, zKc];omega
          · exact (hsm y' (by simp [hy'])).mono (zK4 (Nat.le_of_lt hip.1) hm3)
  · have hn := HN.out
    have hn1 : n = 1 := hn;subst hn1;have oS := HS.out;have x4 := oS.cell (pre := []) (post := []) rfl (j := 4) (by decide) rfl;have r4 := oS.r4 (d, p) (List.mem_singleton_self _);have hk4 : 0 < d.kids.length := by rw [hdk]; exact Nat.one_pos
    obtain ⟨b4, c4, e4⟩ := zpv r4 hk4;injection e4 with e5 e7 e6
    dsimp only at e5 e6;dsimp only [n4] at r4 x4;rw [e5, hdk] at r4 x4;have z4 : wr.cell? ⟨b4, 0, none⟩ = some (iv (i : Int)) := zeb r4 0 (iv (i : Int)) rfl;simp only [zKc, Nat.zero_mul, Nat.zero_add, zK2] at x4;have Q := zJv ((O0.out.nest HA.out).out);clear oS r4 HS HA HN hn hxc;go_wp2_with fail
    go_ret;try rw [hP]
    exact ⟨rfl, Q.out⟩
end Go.Proofs.YtidmeodmkcomlaaGreatDoor
