/- Two texts that are alike: a parser that reads the one goes as a parser that reads the other, but for places. The inner part of a record, or of a record type: -/
import Derived.Test.YtidmeodmkcomlaaGreatDoorK18
set_option linter.unusedSimpArgs false
set_option linter.unusedVariables false
namespace Go.Proofs.YtidmeodmkcomlaaGreatDoor
open Go Go.Proofs Go.RowKit
abbrev shK (d : Nat) (t : Tk) : Tk := (t.1, t.2.1, t.2.2 + d)
def shT (d : Nat) (x : TermD) : TermD := { x with pos := x.pos + (d : Int) }
def shY (d : Nat) (x : TypD) : TypD := { x with pos := x.pos + (d : Int) }
def shA (d : Nat) (x : AliD) : AliD := { x with pos := x.pos + (d : Int) }
def shB (d : Nat) (x : Bo) : Bo := (x.1 + d, x.2)
structure Off where
 a : Nat
 d : Nat
 o : Nat
def St.sh (F : Off) (s : St) : St := ⟨F.a + s.k, F.o + s.op, s.t1.map (shT F.d), s.t2.map (shY F.d), s.t3.map (shA F.d), s.m.map (shB F.d)⟩
def Calm (t : Tk) : Prop := t.1 = 0 ∨ (t.1 = 8 ∧ t.2.1 = [41])
structure Alike (ts us : List Tk) (F : Off) (st : Prop) : Prop where
 tok : ∀ k, k + 1 < ts.length → tkA us (F.a + k) = shK F.d (tkA ts k)
 last : ∀ k, k + 1 = ts.length → Calm (tkA us (F.a + k)) ∧ (st → tkA us (F.a + k) = shK F.d (tkA ts k))
 so : st → F.o = 0
def Rel {α : Type} (n : Nat) (F : Off) (st : Prop) (p : Nat) (v : α → α) : R3 α → R3 α → Prop
 | .un, _ => True
 | .ok i s, R => R = .un ∨ (0 < F.o ∧ ∃ q, R = .bad 5 q) ∨ (s.k < n ∧ s.op = p ∧ R = .ok (v i) (s.sh F))
 | .bad c q, R => R = .un ∨ (st → R = .bad c (if c = 6 then 0 else q + F.d))
section
variable {ts us : List Tk} {F : Off} {st : Prop} {p : Nat} {α β : Type}
theorem Rel.un {v : α → α} {R : R3 α} : Rel ts.length F st p v R .un := by
 cases R with
 | ok i s => exact .inl rfl
 | bad c q => exact .inl rfl
 | un => trivial
theorem Rel.bind {v : α → α} {w : β → β} {P P' : R3 α} {f g : α → St → R3 β} (hF : Alike ts us F st) (h : Rel ts.length F st p v P P') (k : ∀ i s, s.k < ts.length → s.op = p → Rel ts.length F st p w (f i s) (g (v i) (s.sh F))) : Rel ts.length F st p w (P.bind f) (P'.bind g) := by
 cases P with
 | ok i s =>
  rcases h with h | ⟨h0, q, h⟩ | ⟨h1, h2, h⟩
  · rw [h]; exact Rel.un
  · rw [h]
    show Rel _ _ _ _ _ (f i s) (.bad 5 q)
    cases f i s with
    | ok j t => exact .inr (.inl ⟨h0, q, rfl⟩)
    | bad c q => exact .inr (fun hs => absurd (hF.so hs) (by omega))
    | un => trivial
  · rw [h]; exact k i s h1 h2
 | bad c q =>
  rcases h with h | h
  · rw [h]; exact Rel.un
  · exact .inr (fun hs => by rw [h hs]; rfl)
 | un => trivial
theorem Rel.ok_ {v : α → α} {i : α} {s : St} (hk : s.k < ts.length) (ho : s.op = p) : Rel ts.length F st p v (.ok i s) (.ok (v i) (s.sh F)) := .inr (.inr ⟨hk, ho, rfl⟩)
theorem Rel.bad_ {v : α → α} {c q q' : Nat} (hc : c ≠ 6) (h : st → q' = q + F.d) : Rel ts.length F st p v (.bad c q) (.bad c q') := .inr (fun hs => by rw [if_neg hc, h hs])
theorem Alike.at_ (hF : Alike ts us F st) (hT : TsOk ts) {k : Nat} (hk : k < ts.length) (h : (tkA ts k).1 ≠ 0) : tkA us (F.a + k) = shK F.d (tkA ts k) := hF.tok k (hT.step hk h)
variable {P P' E E' T T' : St → R3 Nat}
theorem Rel.down {R R' : R3 Nat} (h : Rel ts.length F st (p + 1) id R R') (hF : Alike ts us F st) : Rel ts.length F st p id (R.bind fun i s => .ok i s.down) (R'.bind fun i s => .ok i s.down) := by
 cases R with
 | ok i s =>
  rcases h with h | ⟨h0, q, h⟩ | ⟨h1, h2, h⟩
  · rw [h]; exact Rel.un
  · rw [h]; exact .inr (.inl ⟨h0, q, rfl⟩)
  · rw [h]
    refine .inr (.inr ⟨h1, by show s.op - 1 = p; omega, ?_⟩);show R3.ok i (s.sh F).down = R3.ok i (s.down.sh F)
    have : F.o + s.op - 1 = F.o + (s.op - 1) := by omega
    unfold St.sh St.down;dsimp only;rw [this]
 | bad c q =>
  rcases h with h | h
  · rw [h]; exact Rel.un
  · exact .inr (fun hs => by rw [h hs]; rfl)
 | un => trivial
end
set_option maxHeartbeats 8000000
structure Rw (w : World) (G : Nat → Prop) (v5 v6 : Value) (ns : List (List UInt8)) (ks : List Int) : Prop where
 r5 : w.ownsRow 0 9 1 v5 ns.length ((bss ns).map .string)
 r6 : w.ownsRow 0 3 1 v6 ks.length (ks.map iv)
 g5 : ∀ g, v5.ownBlock = some g → G g
 g6 : ∀ g, v6.ownBlock = some g → G g
section
variable {B : PE} {G : Nat → Prop} {w w1 w2 w4 : World} {s s' : St} {v5 v6 v' : Value} {ns : List (List UInt8)} {ks : List Int}
theorem Rw.nil (w : World) (G : Nat → Prop) : Rw w G (.slice none 0 0) (.slice none 0 0) [] [] := ⟨zdb _ _ _ _, zdb _ _ _ _, fun _ e => zcc e, fun _ e => zcc e⟩
theorem Rw.call (o : Rw w1 G v5 v6 ns ks) (h : AftO B G w s w1) (k : Aft (B.with G) w1 s' w2) : Rw w2 G v5 v6 ns ks := ⟨h.row k o.r5 o.g5, h.row k o.r6 o.g6, o.g5, o.g6⟩
theorem Rw.below (o : Rw w1 G v5 v6 ns ks) (hb : Below w1.heap.size w1 w2) : Rw w2 G v5 v6 ns ks := ⟨zaj o.r5 hb, zaj o.r6 hb, o.g5, o.g6⟩
theorem Rw.app5 {x : List UInt8} (h : AftO B G w s w2) (hbw : B.base ≤ w.heap.size) (o : Rw w2 G v5 v6 ns ks) (hown : w4.ownsRow 0 9 1 v' (ns.length + 1) ((bss ns).map .string ++ [.string (bs x)])) (hg : (w2.alloc (.cells #[.string (bs x)] 9)).grownBy w4 v5.ownBlock) (hl : v'.ownBlock = v5.ownBlock ∨ v'.ownBlock = some (w2.alloc (.cells #[.string (bs x)] 9)).heap.size) :
 ∃ G' : Nat → Prop, AftO B G' w s w4 ∧ Rw w4 G' v' v6 (ns ++ [x]) ks := by
 have hb : Below w2.heap.size w2 (w2.alloc (.cells #[.string (bs x)] 9)) := (zJx _ _).alloc (zJw _) _;have o3 := o.below hb;have h4 := (h.below hb).app hbw o.g5 hg hl (zb8 hown);exact ⟨_, h4, by simpa [bss] using hown, o3.r6.kept hg (zbx o3.r6 o3.r5 (by decide)), fun g e => .inr e, fun g e => .inl (o.g6 g e)⟩
theorem Rw.app6 {x : Int} (h : AftO B G w s w2) (hbw : B.base ≤ w.heap.size) (o : Rw w2 G v5 v6 ns ks) (hown : w4.ownsRow 0 3 1 v' (ks.length + 1) (ks.map iv ++ [iv x])) (hg : (w2.alloc (.cells #[iv x] 3)).grownBy w4 v6.ownBlock) (hl : v'.ownBlock = v6.ownBlock ∨ v'.ownBlock = some (w2.alloc (.cells #[iv x] 3)).heap.size) :
 ∃ G' : Nat → Prop, AftO B G' w s w4 ∧ Rw w4 G' v5 v' ns (ks ++ [x]) := by
 have hb : Below w2.heap.size w2 (w2.alloc (.cells #[iv x] 3)) := (zJx _ _).alloc (zJw _) _;have o3 := o.below hb;have h4 := (h.below hb).app hbw o.g6 hg hl (zb8 hown);exact ⟨_, h4, o3.r5.kept hg (zbx o3.r5 o3.r6 (by decide)), by simpa using hown, fun g e => .inl (o.g5 g e), fun g e => .inr e⟩
end
theorem AftO.kAt {B : PE} {G : Nat → Prop} {w w' : World} {s : St} (h : AftO B G w s w') : YtidmeodmkcomlaaGreatDoor.kAt B w' = s.k := h.ps.kAt
def ResF (B : PE) (w : World) (s0 : St) (r : R3 (List (List UInt8) × List Int)) (e : Ending) (w' : World) : Prop :=
 match r with
 | .ok x s' => ∃ (G : Nat → Prop) (A5 A6 : Option Addr) (n5 n6 c5 c6 : Nat), e = .returned (.tuple #[.slice A5 n5 c5, .slice A6 n6 c6]) ∧ AftO B G w s' w' ∧ Rw w' G (.slice A5 n5 c5) (.slice A6 n6 c6) x.1 x.2 ∧ x.1.length ≤ 16384 ∧ x.2.length ≤ 16384
 | .bad c p => e = zbi c p ∧ ∃ s1 : St, s1.op = s0.op ∧ Aft B w s1 w'
 | .un => True
theorem zlh {ts : List Tk} (hT : TsOk ts) {o kind : Nat} (h0 : kind ≠ 0) : Prog3 ts (ownM ts o kind) := fun s i s' hk h => by
 have := zmi (q := True) (o := o) hT h0 hk;rw [h] at this;exact ⟨this.1, this.2⟩
set_option maxRecDepth 100000 in
theorem zNu {ts : List Tk} (hT : TsOk ts) {P : St → R3 Nat} (hP : Rule3 ts 21 P) (pP : Prog3 ts P) {B : PE} {w : World} {s : St} (hBts : B.ts = ts) (h : PS B w s) (hk : s.k < ts.length) (owner : Nat) (ho : owner ≤ 4294967296) (sign : List UInt8) (hu : zan ts P owner sign s ≠ .un) :
 Calls Tryz.prog 79 #[B.ptr, .int .i64 (owner : Int), .string ⟨sign.toArray⟩, .func (.func 21) #[B.ptr] #[]] w (ResF B w s (zan ts P owner sign s)) := by
 generalize hR : zan ts P owner sign s = R at hu ⊢;unfold zan at hR;have hbw := h.bw;have hfew := hT.few;by_cases hc : isA ts s [[125]] = true
 · rw [if_pos hc] at hR
   have cT := zei hBts h hk [125] hc;clear h;go_enter Tryz.func79, Tryz.ntmps79
   go_wp2_with fail
   refine cT.mono ?_;rintro e w1 ⟨rfl, a1⟩;have A1 := zJv a1;clear a1 cT;go_wp2_with fail
   refine bodyPost_ret (v := .tuple #[.slice none 0 0, .slice none 0 0]) (by simp [results, Tryz.results79, go_sem]) rfl ?_;rw [← hR];exact ⟨_, none, none, 0, 0, 0, 0, rfl, A1.out.none, Rw.nil _ _, zK8 _, zK8 _⟩
 rw [if_neg hc] at hR;have hc2 : isA ts s [[125]] = false := by simpa using hc
 have cT := zed hBts h hk [125] hc2;have H := zJv h;have HP0 := zJv hP;have HPR := zJv pP;have HB := zJv hBts;clear h hP pP hBts hc hc2;go_enter Tryz.func79, Tryz.ntmps79
 go_wp2_with fail
 refine cT.mono ?_;rintro e w1 ⟨rfl, hb1⟩;have Q1 := zJv (H.out.aft hb1).none;clear hb1 cT;go_wp2_with fail
 go_loopw [8, 9] (fun v8 v9 wr => ∃ (ns : List (List UInt8)) (ks : List Int) (s1 : St) (f : Nat) (G : Nat → Prop), Hid (AftO B G w s1 wr) ∧ Hid (Rw wr G v8 v9 ns ks) ∧ Hid (s1.k < ts.length) ∧ Hid (s1.op = s.op) ∧ Hid (zbc ts P owner sign f ns ks s1 = R) ∧ Hid (ns.length ≤ s1.k ∧ ks.length ≤ s1.k)) (fun _ _ wr => ts.length - kAt B wr)
 case atStart => exact ⟨[], [], s, _, _, Q1, zJv (Rw.nil _ _), zJv hk, zJv rfl, zJv hR, zJv ⟨zK8 _, zK8 _⟩⟩
 case round =>
  clear Q1 hR;obtain ⟨ns, ks, s1, f, G, HA, HX, HK, HO, HQ, HL⟩ := hrel;have hP := HQ.out;have hkA := HA.out.kAt;have hl := HL.out;have hkk := HK.out
  cases f with
  | zero => exact absurd hP.symm hu
  | succ f =>
   unfold zbc at hP;have oX := HX.out;obtain ⟨A5, c5, rfl⟩ := za8 oX.r5;obtain ⟨A6, c6, rfl⟩ := za8 oX.r6;go_wp2_with fail
   rcases hM2 : ownM ts owner 1 s1 with ⟨x, s2⟩ | ⟨c, p⟩ | _
   case un => rw [hM2] at hP; (try simp only [R3.unB] at hP); exact absurd hP.symm hu
   case bad =>
    have cc := ownR (B := (B.with G)) hT HB.out HA.out.ps HK.out owner 1 ho;rw [hM2] at cc hP;try simp only [R3.badB] at hP
    refine cc.mono ?_;rintro e w2 ⟨rfl, k2⟩;have A := zJv (HA.out.bad (s0 := s) (HO.out) k2 rfl);clear k2 cc;go_wp2_with fail
    refine ⟨rfl, ?_⟩;rw [← hP];exact ⟨rfl, A.out⟩
   have cc := ownR (B := (B.with G)) hT HB.out HA.out.ps HK.out owner 1 ho;rw [hM2] at cc hP;try simp only [R3.okB] at hP
   obtain ⟨g2, k2, o2⟩ := zlh hT (by decide) s1 x s2 HK.out hM2;refine cc.mono ?_;rintro e w2 ⟨rfl, a2⟩;have q2 := HA.out.call a2;have oX := oX.call HA.out a2;clear a2 cc;have hn5 : ns.length ≤ 1000000 := by omega
   have hn6 : ks.length ≤ 1000000 := by omega
   go_wp2_with (at_builtin; refine zB8 rfl _ _ rfl (v := .slice A5 ns.length c5) (by simp [Act.eval]) oX.r5 (by simp [Act.eval]) rfl hn5 ?_; intro v7 w7 hown hgrow hloc)
   obtain ⟨G7, q7, o7⟩ := oX.app5 q2 hbw hown hgrow hloc;clear oX hown hgrow hloc;have oX := o7;clear o7;rcases hM11 : mustM ts sign s2 with ⟨u, s3⟩ | ⟨c, p⟩ | _
   case un => rw [hM11] at hP; (try simp only [R3.unB] at hP); exact absurd hP.symm hu
   case bad =>
    have cc := mustR (B := (B.with G7)) HB.out q7.ps k2 sign;rw [hM11] at cc hP;try simp only [R3.badB] at hP
    refine cc.mono ?_;rintro e w11 ⟨rfl, k11⟩;have A := zJv (q7.bad (s0 := s) (o2.trans (HO.out)) k11 rfl);clear k11 cc;go_wp2_with fail
    refine ⟨rfl, ?_⟩;rw [← hP];exact ⟨rfl, A.out⟩
   have cc := mustR (B := (B.with G7)) HB.out q7.ps k2 sign;rw [hM11] at cc hP;try simp only [R3.okB] at hP
   obtain ⟨g11, k11, o11⟩ := zap hT s2 u s3 k2 hM11;refine cc.mono ?_;rintro e w11 ⟨rfl, a11⟩;have q11 := q7.call a11;have oX := oX.call q7 a11;clear a11 cc;go_wp2_with fail
   rcases hM12 : P s3 with ⟨i, s4⟩ | ⟨c, p⟩ | _
   case un => rw [hM12] at hP; (try simp only [R3.unB] at hP); exact absurd hP.symm hu
   case bad =>
    have cc := HP0.out (B.with G7) w11 s3 HB.out q11.ps k11 (by rw [hM12]; simp);rw [hM12] at cc hP;try simp only [R3.badB] at hP
    refine cc.mono ?_;rintro e w12 ⟨rfl, k12⟩;have A := zJv (q11.bad (s0 := s) (o11.trans (o2.trans (HO.out))) k12 rfl);clear k12 cc;go_wp2_with fail
    refine ⟨rfl, ?_⟩;rw [← hP];exact ⟨rfl, A.out⟩
   have cc := HP0.out (B.with G7) w11 s3 HB.out q11.ps k11 (by rw [hM12]; simp);rw [hM12] at cc hP;try simp only [R3.okB] at hP
   obtain ⟨g12, k12, o12⟩ := HPR.out s3 i s4 k11 hM12;refine cc.mono ?_;rintro e w12 ⟨rfl, a12⟩;have q12 := q11.call a12;have oX := oX.call q11 a12;clear a12 cc;go_wp2_with (at_builtin; refine zDj rfl _ _ rfl (v := .slice A6 ks.length c6) (by simp [Act.eval]) oX.r6 (by simp [Act.eval]) rfl hn6 ?_; intro v8 w8 hown hgrow hloc)
   obtain ⟨G8, q8, o8⟩ := oX.app6 q12 hbw hown hgrow hloc;clear oX hown hgrow hloc;have oX := o8;clear o8;have hlen : (ns ++ [x]).length ≤ s4.k ∧ (ks ++ [(i : Int)]).length ≤ s4.k := by simp only [zK5, zK2, zKc]; omega
   by_cases hz : isA ts s4 [[125]] = true
   · rw [if_pos hz] at hP
     refine (zei (B := (B.with G8)) HB.out q8.ps k12 [125] hz).mono ?_;rintro e w21 ⟨rfl, a21⟩;have q21 := q8.call a21;have oX := oX.call q8 a21;clear a21;obtain ⟨A7, c7, rfl⟩ := za8 oX.r5;obtain ⟨A8, c8, rfl⟩ := za8 oX.r6;have Q := zJv q21;have QX := zJv oX;clear q21 oX;go_wp2_with fail
     refine bodyPost_ret (v := .tuple #[.slice A7 (ns ++ [x]).length c7, .slice A8 (ks ++ [(i : Int)]).length c8]) (by simp [results, Tryz.results79, go_sem]) rfl ?_;rw [← hP];exact ⟨_, _, _, _, _, _, _, rfl, Q.out, QX.out, zK4 hlen.1 (by omega), zK4 hlen.2 (by omega)⟩
   · rw [if_neg hz] at hP
     have hz2 : isA ts s4 [[125]] = false := by simpa using hz
     refine (zed (B := (B.with G8)) HB.out q8.ps k12 [125] hz2).mono ?_;rintro e w21 ⟨rfl, hb21⟩;have q21 := q8.below hb21;have oX := oX.below hb21;clear hb21;go_wp2_with fail
     rcases hM22 : mustM ts [44] s4 with ⟨u, s5⟩ | ⟨c, p⟩ | _
     case un => rw [hM22] at hP; (try simp only [R3.unB] at hP); exact absurd hP.symm hu
     case bad =>
      have cc := mustR (B := (B.with G8)) HB.out q21.ps k12 [44];rw [hM22] at cc hP;try simp only [R3.badB] at hP
      refine cc.mono ?_;rintro e w22 ⟨rfl, k22⟩;have A := zJv (q21.bad (s0 := s) (o12.trans (o11.trans (o2.trans (HO.out)))) k22 rfl);clear k22 cc;go_wp2_with fail
      refine ⟨rfl, ?_⟩;rw [← hP];exact ⟨rfl, A.out⟩
     have cc := mustR (B := (B.with G8)) HB.out q21.ps k12 [44];rw [hM22] at cc hP;try simp only [R3.okB] at hP
     obtain ⟨g22, k22, o22⟩ := zap hT s4 u s5 k12 hM22;refine cc.mono ?_;rintro e w22 ⟨rfl, a22⟩;have q22 := q21.call a22;have oX := oX.call q21 a22;clear a22 cc;have QX := zJv oX;have Q23 := zJv q22;clear q22 oX;go_wp2_with fail
     exact ⟨⟨_, _, s5, f, _, Q23, QX, zJv k22, zJv (o22.trans (o12.trans (o11.trans (o2.trans (HO.out))))), zJv hP, zJv ⟨by omega, by omega⟩⟩, by
      rw [Q23.out.kAt, hkA]
      omega⟩
set_option maxHeartbeats 8000000
def Pl (ts : List Tk) : Prop := ∀ k, ∀ x ∈ [[40], [123], [102, 117, 110], [108, 101, 116], [105, 102], [99, 97, 115, 101], [116, 121, 112, 101]], za2 (tkA ts k) [x] = false
theorem zAh {t : Tk} {x : TermD} (h : leafM t = some x) : x.names = [] ∧ x.kids = [] ∧ x.types = [] := by
 unfold leafM at h;repeat' split at h
 all_goals first | (injection h with h; subst h; exact ⟨rfl, rfl, rfl⟩) | cases h
theorem zD8 {B : PE} {w : World} {s : St} (h : PS B w s) (x : TermD) (hx : x.names = [] ∧ x.kids = [] ∧ x.types = []) : Calls Tryz.prog 114 #[B.ptr, .agg (za1 x nP3).toArray] w (Res natV B w s (newT s x)) :=
 zl2 h x nP3 ⟨by rw [hx.1]; exact SlAt.nil, by rw [hx.2.1]; exact SlAt.nil, by rw [hx.2.2]; exact SlAt.nil⟩ ⟨by rw [hx.1]; simp, by rw [hx.2.1]; simp, by rw [hx.2.2]; simp⟩
theorem zB4 {ts : List Tk} (hT : TsOk ts) {B : PE} {w : World} {s : St} (hBts : B.ts = ts) (h : PS B w s) (hk : s.k < ts.length) :
 Calls Tryz.prog 175 #[B.ptr] w fun e w' => (match leafM (tkA ts s.k) with
  | some x => e = .returned (.agg (za1 x nP3).toArray)
  | none => e = zbi 4 (posA ts s)) ∧ Below w.heap.size w w' := by
 subst hBts
 cases hx : leafM (tkA B.ts s.k) with
 | some x => exact zkx h hk x hx (hT.len _) (hT.int _) (hT.flt _)
 | none => exact zDy h hk hx
theorem on1T' {ts : List Tk} {B : PE} {w : World} {s : St} (hBts : B.ts = ts) (h : PS B w s) (hk : s.k < ts.length) : Aft B w (s.on 1) (w.setCell ⟨B.pb, 1, none⟩ (.int .i64 ((s.k : Int) + 1))) := h.on1 (by rw [hBts]; exact hk)
set_option maxRecDepth 100000 in
theorem zzd {ts : List Tk} (hT : TsOk ts) (hPl : Pl ts) {E T : St → R3 Nat} : Rule3 ts 168 (atomM ts E T) := by
 intro B w s hBts h hk hu;generalize hR : atomM ts E T s = R at hu ⊢;unfold atomM at hR;have cS : ∀ (x : List UInt8) W, PS B W s → Calls Tryz.prog 47 #[B.ptr, .slice (some ⟨W.heap.size, 0, none⟩) 1 1] (W.alloc (.cells #[.string ⟨x.toArray⟩] 9)) fun e w' => e = .returned (.bool (isA ts s [x])) ∧ Below W.heap.size W w' := fun x W p => zee hBts p hk x;have H := zJv h;clear h;have hc2 : isA ts s [[40]] = false := hPl s.k _ (by simp);have hc : ¬ isA ts s [[40]] = true := by rw [hc2]; simp
 rw [if_neg hc] at hR;have hd2 : isA ts s [[123]] = false := hPl s.k _ (by simp);have hd : ¬ isA ts s [[123]] = true := by rw [hd2]; simp
 rw [if_neg hd] at hR;have cA := cS [40] w H.out;rw [hc2] at cA;have cB := cS [123];rw [hd2] at cB;have cP := fun (W : World) (p : PS B W s) => zB4 hT hBts p hk;clear cS hd hd2 hc hc2;rcases hx : leafM (tkA ts s.k) with _ | x
 case none =>
  rw [hx] at hR cP;dsimp only at hR cP;go_enter Tryz.func168, Tryz.ntmps168
  go_wp2_with fail
  refine (cA).mono ?_;rintro e w2 ⟨rfl, hb2⟩;have q2 := H.out.aft hb2;clear hb2;clear cA;go_wp2_with fail
  refine (cB w2 q2.ps).mono ?_;rintro e w3 ⟨rfl, hb3⟩;have q3 := q2.below hb3;clear hb3;clear cB;go_wp2_with fail
  refine (cP w3 q3.ps).mono ?_;rintro e w4 ⟨rfl, hb4⟩;have q4 := q3.below hb4;clear hb4 cP;have Q5 := zJv q4;clear q4;go_wp2_with fail
  rw [← hR];exact ⟨rfl, rfl, s, rfl, Q5.out⟩
 rw [hx] at hR cP;dsimp only at hR cP;have hk1 : (s.on 1).k < ts.length := hT.step hk (zfm hx);have hfl := zAh hx;dsimp only [za1] at cP;have cN := fun (W : World) (p : PS B W (s.on 1)) => zD8 p x hfl;dsimp only [za1] at cN;simp only [hfl.1, hfl.2.1, hfl.2.2, zKc] at cP cN;go_enter Tryz.func168, Tryz.ntmps168
 go_wp2_with fail
 refine (cA).mono ?_;rintro e w6 ⟨rfl, hb6⟩;have q6 := H.out.aft hb6;clear hb6;clear cA;go_wp2_with fail
 refine (cB w6 q6.ps).mono ?_;rintro e w7 ⟨rfl, hb7⟩;have q7 := q6.below hb7;clear hb7;clear cB;go_wp2_with fail
 refine (cP w7 q7.ps).mono ?_;rintro e w8 ⟨rfl, hb8⟩;have q8 := q7.below hb8;clear hb8 cP;go_upto_region 6 with fail
 obtain ⟨w9, hW9⟩ : ∃ W, w8.alloc (.cells #[.int .i64 x.kind, .int .i64 x.pos, .string x.name, .int .i64 x.int, .int .u64 (x.bits : Int), .slice none 0 0, .slice none 0 0, .slice none 0 0] 38) = W := ⟨_, rfl⟩;rw [hW9];have hb9 : Below w8.heap.size w8 w9 := by rw [← hW9]; exact (zJx _ _).alloc (zJw _) _
 have hX : Blk w9 w8.heap.size 38 #[.int .i64 x.kind, .int .i64 x.pos, .string x.name, .int .i64 x.int, .int .u64 (x.bits : Int), .slice none 0 0, .slice none 0 0, .slice none 0 0] := by rw [← hW9]; exact Blk.new w8 38 _
 have q9 := q8.below hb9;clear hW9;have hpb := H.out.blk.lt;have hsz : w.heap.size ≤ w8.heap.size := q8.kt.1;have c1 := q9.ps.blk.cell 1;have f1 := q9.ps.blk.frozen 1;simp only [PE.cells, gA, gB, gC] at c1;have hlb : s.k ≤ 2097152 := by have := hT.few; omega
 obtain ⟨w10, hW10⟩ : ∃ W, w9.setCell ⟨B.pb, 1, none⟩ (.int .i64 ((s.k : Int) + 1)) = W := ⟨_, rfl⟩;have a10 := on1T' (B := B) hBts q9.ps hk;have a10 : Aft B w9 (s.on 1) w10 := by rw [← hW10]; exact a10
 have q10 := q9.trans a10;clear a10;have hX := hX.far (p := ⟨B.pb, 1, none⟩) (by dsimp only; omega) (.int .i64 ((s.k : Int) + 1));rw [hW10] at hX;have x0 := hX.cell 0;have x1 := hX.cell 1;have x2 := hX.cell 2;have x3 := hX.cell 3;have x4 := hX.cell 4;have x5 := hX.cell 5;have x6 := hX.cell 6;have x7 := hX.cell 7;simp only [gA, gB, gC] at x0 x1 x2 x3 x4 x5 x6 x7;have cM := cN w10 q10.ps;clear cN;rcases hN : newT (s.on 1) x with ⟨i9, s9⟩ | ⟨c, p⟩ | _
 case un => exact (zda hN).elim
 case bad =>
  rw [hN] at cM hR;have Q11 := zJv q10;clear q10 hX hb9;go_wp2_with fail
  refine cM.mono ?_;rintro e w12 ⟨rfl, k12⟩;have A := zJv (Q11.out.bad (s0 := s) (rfl) k12 rfl);clear k12 cM;go_wp2_with fail
  rw [← hR];exact ⟨rfl, rfl, A.out⟩
 rw [hN] at cM hR;have Q13 := zJv q10;clear q10 hX hb9;go_wp2_with fail
 refine cM.mono ?_;rintro e w14 ⟨rfl, a14⟩;have Q14 := zJv (Q13.out.trans a14);clear a14 cM;go_wp2_with fail
 go_ret;rw [← hR];exact ⟨rfl, Q14.out⟩
end Go.Proofs.YtidmeodmkcomlaaGreatDoor
