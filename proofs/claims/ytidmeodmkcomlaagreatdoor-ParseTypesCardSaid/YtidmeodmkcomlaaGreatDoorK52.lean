/- What the document's parser answers of the bytes of a type. Types of one tree that lies twice in memory are the same, and at the same -/
import Derived.Test.YtidmeodmkcomlaaGreatDoorK51
set_option linter.unusedSimpArgs false
set_option linter.unusedVariables false
namespace Go.Proofs.YtidmeodmkcomlaaGreatDoor
open Go Go.Proofs Go.RowKit
set_option maxHeartbeats 2000000
abbrev zNm : Value := .agg #[.slice none 0 0, .slice none 0 0, .slice none 0 0]
abbrev diagV (c p : Nat) : Value := .agg #[.int .i64 (c : Int), .int .i64 (p : Int), .string ⟨#[]⟩]
def zNn (w : World) (l : List UInt8) (e : Ending) (w' : World) : Prop :=
 Below w.heap.size w w' ∧ match lexA l with
 | .error (c, p) => e = .returned (.tuple #[zNm, diagV c p])
 | .ok ts => ∀ s, docD ts = some s → if s.bad = true then e = .returned (.tuple #[zNm, diagV s.c s.p])
  else ∃ A c, e = .returned (.tuple #[.agg #[.slice none 0 0, .slice A s.t2.length c, .slice none 0 0], diagV s.c s.p]) ∧ TypsAt (fun b => w.heap.size ≤ b ∧ b < w'.heap.size) w' A s.t2
theorem zNv {w2 : World} {X0 X1 : Nat} (hne : X0 ≠ X1) (a0 a1 a2 b0 b1 b2 : Value) {z0 z1 : Array Value} {t0 t1 : TypeId} (h0 : Blk w2 X0 t0 z0) (h1 : Blk w2 X1 t1 z1) (n0 : z0.size = 3) (n1 : z1.size = 3) {S : World} (hS : (((((w2.setCell ⟨X0, 0, none⟩ a0).setCell ⟨X0, 1, none⟩ a1).setCell ⟨X0, 2, none⟩ a2).setCell ⟨X1, 0, none⟩ b0).setCell ⟨X1, 1, none⟩ b1).setCell ⟨X1, 2, none⟩ b2 = S) {n : Nat} {w : World} (hb : Below n w w2) (m0 : n ≤ X0) (m1 : n ≤ X1) :
 Blk S X0 t0 #[a0, a1, a2] ∧ Blk S X1 t1 #[b0, b1, b2] ∧ Below n w S ∧ (∀ b, b ≠ X0 → b ≠ X1 → S.heap[b]? = w2.heap[b]?) ∧ w2.heap.size ≤ S.heap.size := by
 obtain ⟨c0, c1, hB, hk, hz⟩ := zN4 hne a0 a1 a2 b0 b1 b2 h0 h1 n0 n1 (WF := S.drew) (by rw [hS]) hb m0 m1;exact ⟨c0, c1, ⟨hB.os, hB.tape, hB.output, hB.size, hB.block⟩, hk, hz⟩
theorem zOu {w2 : World} {X0 X1 : Nat} (hne : X0 ≠ X1) (a0 a1 a2 b0 b1 b2 : Value) {z0 z1 : Array Value} {t0 t1 : TypeId} (h0 : Blk w2 X0 t0 z0) (h1 : Blk w2 X1 t1 z1) (n0 : z0.size = 3) (n1 : z1.size = 3) (o : Obj) {WF : World} (hW : (((((((w2.setCell ⟨X0, 0, none⟩ a0).setCell ⟨X0, 1, none⟩ a1).setCell ⟨X0, 2, none⟩ a2).setCell ⟨X1, 0, none⟩ b0).setCell ⟨X1, 1, none⟩ b1).setCell ⟨X1, 2, none⟩ b2).alloc o).drew = WF) {n : Nat} {w : World} (hb : Below n w w2) (m0 : n ≤ X0) (m1 : n ≤ X1) :
 Blk WF X0 t0 #[a0, a1, a2] ∧ Blk WF X1 t1 #[b0, b1, b2] ∧ Below n w WF := by
 obtain ⟨S, hS⟩ : ∃ S, (((((w2.setCell ⟨X0, 0, none⟩ a0).setCell ⟨X0, 1, none⟩ a1).setCell ⟨X0, 2, none⟩ a2).setCell ⟨X1, 0, none⟩ b0).setCell ⟨X1, 1, none⟩ b1).setCell ⟨X1, 2, none⟩ b2 = S := ⟨_, rfl⟩;obtain ⟨c0, c1, hB, _, hz⟩ := zN4 hne a0 a1 a2 b0 b1 b2 h0 h1 n0 n1 (WF := S.drew) (by rw [hS]) hb m0 m1;rw [hS] at hW;subst hW;have d0 : Blk S X0 t0 #[a0, a1, a2] := c0;have d1 : Blk S X1 t1 #[b0, b1, b2] := c1;have hB' : Below n w S := ⟨hB.os, hB.tape, hB.output, hB.size, hB.block⟩;exact ⟨(d0.alloc o).drew, (d1.alloc o).drew, (hB'.alloc (zK4 m0 (Nat.le_of_lt d0.lt)) o).drew⟩
set_option maxRecDepth 100000 in
theorem zPv (l : List UInt8) (hs : l.length ≤ 900) (a : Option Addr) (len cap : Nat) (w : World) (hl : l.length = len) (hEnv : Env w) (hI : TextAt w.heap.size w (.slice a len cap) l) :
 Calls Tryz.prog 13 #[.slice a len cap] w (zNn w l) := by
 obtain ⟨W0, hW0⟩ : ∃ W0, w.alloc (.cells #[.slice none 0 0, .slice none 0 0, .slice none 0 0] 27) = W0 := ⟨_, rfl⟩;obtain ⟨W1, hW1⟩ : ∃ W1, W0.alloc (.cells #[.int .i64 0, .int .i64 0, .string ⟨#[]⟩] 30) = W1 := ⟨_, rfl⟩;have hb0 : Below w.heap.size w W0 := by rw [← hW0]; exact (zJx _ _).alloc (zJw _) _
 have hb1 : Below W0.heap.size W0 W1 := by rw [← hW1]; exact (zJx _ _).alloc (zJw _) _
 have hb01 : Below w.heap.size w W1 := hb0.trans (hb1.mono hb0.size)
 have hX0 : Blk W1 w.heap.size 27 #[.slice none 0 0, .slice none 0 0, .slice none 0 0] := by
  have : Blk W0 w.heap.size 27 #[.slice none 0 0, .slice none 0 0, .slice none 0 0] := by rw [← hW0]; exact Blk.new w 27 _
  exact this.below hb1 this.lt
 have hX1 : Blk W1 W0.heap.size 30 #[.int .i64 0, .int .i64 0, .string ⟨#[]⟩] := by rw [← hW1]; exact Blk.new W0 30 _
 have hs0 := hb0.size;have hs1 := hb1.size;have cL := zPe a len cap l W1 hl (TextAt.more hb01.size (hI.below hb01));unfold zc5 at cL;unfold zNn;obtain ⟨X0, hx0⟩ : ∃ X, w.heap.size = X := ⟨_, rfl⟩;obtain ⟨X1, hx1⟩ : ∃ X, W0.heap.size = X := ⟨_, rfl⟩;have hne : X0 ≠ X1 := by rw [← hx0, ← hx1, ← hW0]; simp
 have H0 := zJv hX0;have H1 := zJv hX1;rw [hx0] at H0;rw [hx1] at H1;have ge0 : w.heap.size ≤ X0 := Nat.le_of_eq hx0;have ge1 : w.heap.size ≤ X1 := by rw [← hx1]; exact hb0.size
 have lt0 : X0 < W1.heap.size := H0.out.lt;have lt1 : X1 < W1.heap.size := H1.out.lt;have HB := zJv hb01;have HE := zJv hEnv;clear hX0 hX1 hb0 hb1 hb01 hI hEnv
 cases hA : lexA l with
 | error e =>
  obtain ⟨c, p⟩ := e;rw [hA] at cL;dsimp only at cL ⊢;go_enter Tryz.func13, Tryz.ntmps13
  go_wp2_with fail
  refine cL.mono ?_;rintro e w1 ⟨rfl, hb1⟩;have hc := ziu hA;have e1 : ((c : Int) != 0) = true := by simp; omega
  have Z0 := H0.out.below hb1 lt0;have Z1 := H1.out.below hb1 lt1;have p0 := Z0.cell 0;have p1 := Z0.cell 1;have p2 := Z0.cell 2;have q0 := Z1.cell 0;have q1 := Z1.cell 1;have q2 := Z1.cell 2;have pf0 := Z0.frozen 0;have pf1 := Z0.frozen 1;have pf2 := Z0.frozen 2;have qf0 := Z1.frozen 0;have qf1 := Z1.frozen 1;have qf2 := Z1.frozen 2;simp only [gA, gB, gC] at p0 p1 p2 q0 q1 q2;have lz0 := Z0.lt;have lz1 := Z1.lt;have Y0 := zJv Z0;have Y1 := zJv Z1;have B1 := zJv hb1;clear Z0 Z1 hb1 hc cL;go_wp2
  go_region
  obtain ⟨WF, hWF⟩ : ∃ W, (((((((w1.setCell ⟨X0, 0, none⟩ (.slice none 0 0)).setCell ⟨X0, 1, none⟩ (.slice none 0 0)).setCell ⟨X0, 2, none⟩ (.slice none 0 0)).setCell ⟨X1, 0, none⟩ (.int .i64 (c : Int))).setCell ⟨X1, 1, none⟩ (.int .i64 (p : Int))).setCell ⟨X1, 2, none⟩ (.string ⟨#[]⟩)).alloc (.cells #[.int .i64 (c : Int), .int .i64 (p : Int), .string ⟨#[]⟩] 30)).drew = W := ⟨_, rfl⟩;have bA : Below w.heap.size w w1 := HB.out.trans (B1.out.mono HB.out.size);obtain ⟨V0, V1, hbel⟩ := zOu hne _ _ _ _ _ _ Y0.out Y1.out rfl rfl _ hWF bA ge0 ge1;rw [hWF];have y0 := V0.cell 0;have y1 := V0.cell 1;have y2 := V0.cell 2;have u0 := V1.cell 0;have u1 := V1.cell 1;have u2 := V1.cell 2;simp only [gA, gB, gC] at y0 y1 y2 u0 u1 u2;clear p0 p1 p2 q0 q1 q2 pf0 pf1 pf2 qf0 qf1 qf2 V0 V1 hWF bA;have FIN := zJv hbel;clear hbel;go_wp2
  exact bodyPost_ret (v := .tuple #[zNm, diagV c p]) (by simp [results, Tryz.results13, go_sem, y0, y1, y2, u0, u1, u2]) rfl ⟨FIN.out, rfl⟩
 | ok ts =>
  rw [hA] at cL;dsimp only at cL ⊢;have hT := zc8 hA (by omega);obtain ⟨sd, hsd, _⟩ := zO7 hs hA;have HSD := zJv hsd;clear hsd;go_enter Tryz.func13, Tryz.ntmps13
  go_wp2_with fail
  refine cL.mono ?_;rintro e w1 ⟨⟨v, rfl, hrow⟩, hb1⟩;obtain ⟨g, c, rfl, hg1, hg2, hg3, hgc⟩ := zcs hrow hT.pos;have B1 := zJv hb1;have HGC := zJv hgc;clear hgc hrow cL hb1;go_wp2_with fail
  obtain ⟨w2, hw2⟩ : ∃ W, w1.alloc (.cells #[.int .i64 0, .int .i64 0, .string ⟨#[]⟩] 30) = W := ⟨_, rfl⟩;obtain ⟨w3, hw3⟩ : ∃ W, w2.alloc (.cells #[.slice (some ⟨g, 0, none⟩) ts.length c, .int .i64 0, .int .i64 0, .slice none 0 0, .slice none 0 0, .slice none 0 0, .int .i64 0, .int .i64 0, .string ⟨#[]⟩] 61) = W := ⟨_, rfl⟩;rw [hw2, hw3];have b12 : Below w1.heap.size w1 w2 := by rw [← hw2]; exact (zJx _ _).alloc (zJw _) _
  have z2 : w2.heap.size = w1.heap.size + 1 := by rw [← hw2]; simp
  have b23 : Below w2.heap.size w2 w3 := by rw [← hw3]; exact (zJx _ _).alloc (zJw _) _
  have b13 : Below w1.heap.size w1 w3 := b12.trans (b23.mono b12.size);have hXp : Blk w3 (w1.heap.size + 1) 61 #[.slice (some ⟨g, 0, none⟩) ts.length c, .int .i64 0, .int .i64 0, .slice none 0 0, .slice none 0 0, .slice none 0 0, .int .i64 0, .int .i64 0, .string ⟨#[]⟩] := by rw [← hw3, ← z2]; exact Blk.new w2 61 _
  have bw1 : Below w.heap.size w w1 := HB.out.trans (B1.out.mono HB.out.size);have e6 := (HE.out.on bw1).size
  have ds : DS ⟨g, c, w1.heap.size + 1, w1.heap.size, ts, fun _ => False⟩ w3 St.zero.sg :=
   { env := (HE.out.on bw1).on b13
     ex := ⟨.slice none 0 0, [], hXp, ⟨zdb _ _ _ _, fun x hx => by simp at hx⟩, rfl⟩
     tok := fun j u hu => (b13.cell (p := ⟨g, j, none⟩) hg2).trans (HGC.out j u hu)
     gb := hg2
     b6 := e6
     bw := b13.size
     pbb := Nat.le_succ _
     cap := hg3
     n2 := zK8 _
     kb := hT.pos
     ob := zK8 _
     lb := by have := hT.few; show ts.length ≤ 2097152; omega
     ll := fun b hb => hb.elim }
  obtain ⟨B, HBe⟩ : ∃ B : DE, Hid ((⟨g, c, w1.heap.size + 1, w1.heap.size, ts, fun _ => False⟩ : DE) = B) := ⟨_, zJv rfl⟩;have hd := HSD.out;unfold docD at hd
  cases hty : typeS ts 257 St.zero.sg with
  | none => rw [hty] at hd; cases hd
  | some y =>
   obtain ⟨i, s1⟩ := y;rw [hty] at hd;have hd : endS ts s1 = sd := by injection hd
   have c25 : Calls Tryz.prog 25 #[.pointer (some ⟨w1.heap.size + 1, 0, none⟩)] w3 fun e w' => e = .returned (.int .i64 (i : Nat)) ∧ DAft B w3 s1 w' := by
    rw [← HBe.out];exact zOh hT 257 _ w3 St.zero.sg i s1 rfl ds hty
   with_reducible refine c25.mono ?_
   rintro e w4 ⟨rfl, a4⟩
   have c26 : Calls Tryz.prog 26 #[.pointer (some ⟨w1.heap.size + 1, 0, none⟩)] w4 fun e w' => DEnd B w4 sd e w' := by
    have := zP1 a4.ps;rw [← HBe.out] at this ⊢;rw [← hd];exact this
   have hbs : B.base = w1.heap.size := by rw [← HBe.out]
   have b14 : Below w1.heap.size w1 w4 := b13.trans (hbs ▸ a4.bel);have Q14 := zJv b14;clear a4 c25 ds hXp b12 b23 b13 z2 hw2 hw3 b14 hty hd;go_wp2_with fail
   with_reducible refine c26.mono ?_
   rintro e w5 ⟨b45, hE⟩;rw [hbs] at b45;have b15 := Q14.out.trans b45;have Z0 := H0.out.below (B1.out.trans (b15.mono B1.out.size)) lt0;have Z1 := H1.out.below (B1.out.trans (b15.mono B1.out.size)) lt1;have p0 := Z0.cell 0;have p1 := Z0.cell 1;have p2 := Z0.cell 2;have q0 := Z1.cell 0;have q1 := Z1.cell 1;have q2 := Z1.cell 2;have pf0 := Z0.frozen 0;have pf1 := Z0.frozen 1;have pf2 := Z0.frozen 2;have qf0 := Z1.frozen 0;have qf1 := Z1.frozen 1;have qf2 := Z1.frozen 2;simp only [gA, gB, gC] at p0 p1 p2 q0 q1 q2;have lz0 := Z0.lt;have lz1 := Z1.lt;have Y0 := zJv Z0;have Y1 := zJv Z1;have B15 := zJv b15;clear Z0 Z1 b15 b45 c26;have hdet : ∀ s, docD ts = some s → s = sd := fun s h => by rw [HSD.out] at h; injection h with h; exact h.symm
   have HD := zJv hdet;clear hdet;generalize hbe : sd.bad = bb at hE;rcases bb with _ | _
   · rw [if_neg (by simp)] at hE
     obtain ⟨A, c5, rfl, hty⟩ := hE;have HTY := zJv hty;clear hty;go_wp2
     obtain ⟨S, hS⟩ : ∃ S, (((((w5.setCell ⟨X0, 0, none⟩ (.slice none 0 0)).setCell ⟨X0, 1, none⟩ (.slice A sd.t2.length c5)).setCell ⟨X0, 2, none⟩ (.slice none 0 0)).setCell ⟨X1, 0, none⟩ (.int .i64 (sd.c : Int))).setCell ⟨X1, 1, none⟩ (.int .i64 (sd.p : Int))).setCell ⟨X1, 2, none⟩ (.string ⟨#[]⟩) = S := ⟨_, rfl⟩;obtain ⟨V0, V1, hbel, hkeep, hsz⟩ := zNv hne _ _ _ _ _ _ Y0.out Y1.out rfl rfl hS (bw1.trans (B15.out.mono bw1.size)) ge0 ge1;rw [hS];have y0 := V0.cell 0;have y1 := V0.cell 1;have y2 := V0.cell 2;have u0 := V1.cell 0;have u1 := V1.cell 1;have u2 := V1.cell 2;simp only [gA, gB, gC] at y0 y1 y2 u0 u1 u2;refine bodyPost_ret (v := .tuple #[.agg #[.slice none 0 0, .slice A sd.t2.length c5, .slice none 0 0], diagV sd.c sd.p]) (by simp [results, Tryz.results13, go_sem, y0, y1, y2, u0, u1, u2]) rfl ⟨hbel, fun s hs => ?_⟩;rw [HD.out s hs, hbe];rw [if_neg (by simp)];have l1 : X0 < w1.heap.size := zJy lt0 B1.out.size;have l2 : X1 < w1.heap.size := zJy lt1 B1.out.size;refine ⟨A, c5, rfl, (HTY.out.keep (fun b o q => zKb (a := ⟨b, o, none⟩) (hkeep b (fun e => ?_) (fun e => ?_)))).imp (fun b q => ⟨zK4 bw1.size (hbs ▸ q.1), zJy q.2 hsz⟩)⟩
     · have q1 := q.1; rw [hbs] at q1; omega
     · have q1 := q.1; rw [hbs] at q1; omega
   · rw [if_pos rfl] at hE
     subst hE;go_wp2
     obtain ⟨S, hS⟩ : ∃ S, (((((w5.setCell ⟨X0, 0, none⟩ (.slice none 0 0)).setCell ⟨X0, 1, none⟩ (.slice none 0 0)).setCell ⟨X0, 2, none⟩ (.slice none 0 0)).setCell ⟨X1, 0, none⟩ (.int .i64 (sd.c : Int))).setCell ⟨X1, 1, none⟩ (.int .i64 (sd.p : Int))).setCell ⟨X1, 2, none⟩ (.string ⟨#[]⟩) = S := ⟨_, rfl⟩;obtain ⟨V0, V1, hbel, hkeep, hsz⟩ := zNv hne _ _ _ _ _ _ Y0.out Y1.out rfl rfl hS (bw1.trans (B15.out.mono bw1.size)) ge0 ge1;rw [hS];have y0 := V0.cell 0;have y1 := V0.cell 1;have y2 := V0.cell 2;have u0 := V1.cell 0;have u1 := V1.cell 1;have u2 := V1.cell 2;simp only [gA, gB, gC] at y0 y1 y2 u0 u1 u2;refine bodyPost_ret (v := .tuple #[.agg #[.slice none 0 0, .slice none 0 0, .slice none 0 0], diagV sd.c sd.p]) (by simp [results, Tryz.results13, go_sem, y0, y1, y2, u0, u1, u2]) rfl ⟨hbel, fun s hs => ?_⟩;rw [HD.out s hs, hbe];rw [if_pos rfl]
set_option maxHeartbeats 8000000
theorem zcu {t : TreeD} {p : Ptr6} {w w' : World} (h : TreeAt (Lt w.heap.size) w t p) (hb : Below w.heap.size w w') : TreeAt (Lt w'.heap.size) w' t p :=
 (h.keep (fun b o hl => hb.cell (p := ⟨b, o, none⟩) hl)).imp (fun b hl => zJy hl hb.size)
set_option maxRecDepth 100000 in
theorem zig (t : TreeD) (p q : Ptr6) (hdn : ∀ (j : Nat) (x : TypD), t.types[j]? = some x → ∀ k ∈ x.kids, 0 ≤ k ∧ k < (j : Int)) (hfw : ∀ x ∈ t.types, x.kids.length ≤ 1000000) (hn : t.types.length ≤ 1000000) (hn1 : t.nodes.length ≤ 1000000) (hn3 : t.aliases.length ≤ 1000000) : ∀ (m i : Nat), i < m → i < t.types.length → ∀ (w : World), TreeAt (Lt w.heap.size) w t p → TreeAt (Lt w.heap.size) w t q →
 Calls Tryz.prog 15 #[treeV t p, .int .i64 (i : Int), treeV t q, .int .i64 (i : Int)] w fun e w' => e = .returned (.bool true) ∧ Below w.heap.size w w'
 | 0, _, h, _, _, _, _ => by omega
 | m + 1, i, hm, hi, w, hTa, hTb => by
  have IH := zJv (fun (k : Nat) (hk : k < m) (hkn : k < t.types.length) (W : World) (hA : TreeAt (Lt W.heap.size) W t p) (hB : TreeAt (Lt W.heap.size) W t q) => zig t p q hdn hfw hn hn1 hn3 m k hk hkn W hA hB);obtain ⟨a1, c1, a2, c2, a3, c3⟩ := p;obtain ⟨b1, d1, b2, d2, b3, d3⟩ := q;have tT := hTa.2.1;have uT := hTb.2.1;dsimp only at tT uT;obtain ⟨W1, hW1⟩ : ∃ W1, (w.alloc (.cells #[.slice a1 t.nodes.length c1, .slice a2 t.types.length c2, .slice a3 t.aliases.length c3] 27)).alloc (.cells #[.slice b1 t.nodes.length d1, .slice b2 t.types.length d2, .slice b3 t.aliases.length d3] 27) = W1 := ⟨_, rfl⟩;have hB1 : Below w.heap.size w W1 := by rw [← hW1]; exact ((zJx _ _).alloc (zJw _) _).alloc (by simp) _
  have hX : Blk W1 w.heap.size 27 #[.slice a1 t.nodes.length c1, .slice a2 t.types.length c2, .slice a3 t.aliases.length c3] := by rw [← hW1]; exact (Blk.new w 27 _).alloc _
  have hY : Blk W1 (w.heap.size + 1) 27 #[.slice b1 t.nodes.length d1, .slice b2 t.types.length d2, .slice b3 t.aliases.length d3] := by
   rw [← hW1];have := Blk.new (w.alloc (.cells #[.slice a1 t.nodes.length c1, .slice a2 t.types.length c2, .slice a3 t.aliases.length c3] 27)) 27 #[.slice b1 t.nodes.length d1, .slice b2 t.types.length d2, .slice b3 t.aliases.length d3];rwa [zKh] at this
  have x1 := hX.cell 1;have y1 := hY.cell 1;simp only [gA, gB, gC] at x1 y1;have hzX := hX.lt;have hzY := hY.lt;have HX := zJv hX;have HY := zJv hY;have HTa := zJv hTa;have HTb := zJv hTb;obtain ⟨bb, off, rfl, hbb, hcell⟩ := tT (by omega);have hx := zK1 hi;obtain ⟨⟨p3, q3, p4, q4⟩, hq, hcq⟩ := hcell i _ hx;obtain ⟨be, oe, rfl, hbe, hcell'⟩ := uT (by omega);obtain ⟨⟨s3, t3, s4, t4⟩, hq', hcq'⟩ := hcell' i _ hx;have hkl := hfw _ (zKe hi);have hrg := hdn i _ hx;obtain ⟨x, hx'⟩ : ∃ x, t.types[i] = x := ⟨_, rfl⟩;rw [hx'] at hq hcq hq' hcq' hkl hrg;have e0 : W1.cell? ⟨bb, off + i * 6, none⟩ = some (.int .i64 x.kind) := (hB1.cell (p := ⟨bb, off + i * 6, none⟩) hbb).trans (hcq 0 _ rfl);have e1 : W1.cell? ⟨bb, off + i * 6 + 1, none⟩ = some (.int .i64 x.pos) := (hB1.cell (p := ⟨bb, off + i * 6 + 1, none⟩) hbb).trans (hcq 1 _ rfl);have e2 : W1.cell? ⟨bb, off + i * 6 + 2, none⟩ = some (.string x.name) := (hB1.cell (p := ⟨bb, off + i * 6 + 2, none⟩) hbb).trans (hcq 2 _ rfl);have e3 : W1.cell? ⟨bb, off + i * 6 + 3, none⟩ = some (.slice p3 x.names.length q3) := (hB1.cell (p := ⟨bb, off + i * 6 + 3, none⟩) hbb).trans (hcq 3 _ rfl);have e4 : W1.cell? ⟨bb, off + i * 6 + 4, none⟩ = some (.slice p4 x.kids.length q4) := (hB1.cell (p := ⟨bb, off + i * 6 + 4, none⟩) hbb).trans (hcq 4 _ rfl);have e5 : W1.cell? ⟨bb, off + i * 6 + 5, none⟩ = some (.bool x.opn) := (hB1.cell (p := ⟨bb, off + i * 6 + 5, none⟩) hbb).trans (hcq 5 _ rfl);have l0 : W1.cell? ⟨be, oe + i * 6, none⟩ = some (.int .i64 x.kind) := (hB1.cell (p := ⟨be, oe + i * 6, none⟩) hbe).trans (hcq' 0 _ rfl);have l1 : W1.cell? ⟨be, oe + i * 6 + 1, none⟩ = some (.int .i64 x.pos) := (hB1.cell (p := ⟨be, oe + i * 6 + 1, none⟩) hbe).trans (hcq' 1 _ rfl);have l2 : W1.cell? ⟨be, oe + i * 6 + 2, none⟩ = some (.string x.name) := (hB1.cell (p := ⟨be, oe + i * 6 + 2, none⟩) hbe).trans (hcq' 2 _ rfl);have l3 : W1.cell? ⟨be, oe + i * 6 + 3, none⟩ = some (.slice s3 x.names.length t3) := (hB1.cell (p := ⟨be, oe + i * 6 + 3, none⟩) hbe).trans (hcq' 3 _ rfl);have l4 : W1.cell? ⟨be, oe + i * 6 + 4, none⟩ = some (.slice s4 x.kids.length t4) := (hB1.cell (p := ⟨be, oe + i * 6 + 4, none⟩) hbe).trans (hcq' 4 _ rfl);have l5 : W1.cell? ⟨be, oe + i * 6 + 5, none⟩ = some (.bool x.opn) := (hB1.cell (p := ⟨be, oe + i * 6 + 5, none⟩) hbe).trans (hcq' 5 _ rfl);have HK : Hid (SlAt (Lt w.heap.size) w p4 x.kids.length (x.kids.map iv)) := zJv hq.2;have HK' : Hid (SlAt (Lt w.heap.size) w s4 x.kids.length (x.kids.map iv)) := zJv hq'.2;have HRG := zJv hrg;have i1 : (0 : Int) ≤ (i : Int) := by omega
  have i2 : (i : Int) < (t.types.length : Int) := by omega
  clear hX hY hTa hTb hcell hcq hcell' hcq' hq hq' hx hx' hrg tT uT;go_enter Tryz.func15, Tryz.ntmps15
  go_wp2
  clear hW1
  have HSS : Hid (∀ W, Below W1.heap.size W1 W → (fun W : World => W.cell? ⟨bb, off + i * 6, none⟩ = some (.int .i64 x.kind) ∧ W.cell? ⟨bb, off + i * 6 + 1, none⟩ = some (.int .i64 x.pos) ∧ W.cell? ⟨bb, off + i * 6 + 2, none⟩ = some (.string x.name) ∧ W.cell? ⟨bb, off + i * 6 + 3, none⟩ = some (.slice p3 x.names.length q3) ∧ W.cell? ⟨bb, off + i * 6 + 4, none⟩ = some (.slice p4 x.kids.length q4) ∧ W.cell? ⟨bb, off + i * 6 + 5, none⟩ = some (.bool x.opn) ∧ W.cell? ⟨be, oe + i * 6, none⟩ = some (.int .i64 x.kind) ∧ W.cell? ⟨be, oe + i * 6 + 1, none⟩ = some (.int .i64 x.pos) ∧ W.cell? ⟨be, oe + i * 6 + 2, none⟩ = some (.string x.name) ∧ W.cell? ⟨be, oe + i * 6 + 3, none⟩ = some (.slice s3 x.names.length t3) ∧ W.cell? ⟨be, oe + i * 6 + 4, none⟩ = some (.slice s4 x.kids.length t4) ∧ W.cell? ⟨be, oe + i * 6 + 5, none⟩ = some (.bool x.opn) ∧ W.cell? ⟨w.heap.size, 1, none⟩ = some (.slice (some ⟨bb, off, none⟩) t.types.length c2) ∧ W.cell? ⟨w.heap.size + 1, 1, none⟩ = some (.slice (some ⟨be, oe, none⟩) t.types.length d2)) W) := zJv fun W hW => by
   have hl := hB1.size;exact ⟨(hW.cell (p := ⟨bb, _, none⟩) (zJy hbb hl)).trans e0, (hW.cell (p := ⟨bb, _, none⟩) (zJy hbb hl)).trans e1, (hW.cell (p := ⟨bb, _, none⟩) (zJy hbb hl)).trans e2, (hW.cell (p := ⟨bb, _, none⟩) (zJy hbb hl)).trans e3, (hW.cell (p := ⟨bb, _, none⟩) (zJy hbb hl)).trans e4, (hW.cell (p := ⟨bb, _, none⟩) (zJy hbb hl)).trans e5, (hW.cell (p := ⟨be, _, none⟩) (zJy hbe hl)).trans l0, (hW.cell (p := ⟨be, _, none⟩) (zJy hbe hl)).trans l1, (hW.cell (p := ⟨be, _, none⟩) (zJy hbe hl)).trans l2, (hW.cell (p := ⟨be, _, none⟩) (zJy hbe hl)).trans l3, (hW.cell (p := ⟨be, _, none⟩) (zJy hbe hl)).trans l4, (hW.cell (p := ⟨be, _, none⟩) (zJy hbe hl)).trans l5, (hW.cell (p := ⟨w.heap.size, 1, none⟩) hzX).trans x1, (hW.cell (p := ⟨w.heap.size + 1, 1, none⟩) hzY).trans y1⟩
  go_cut [9, 10] from 11 (fun v9 v10 wx => ∃ B9 B10, v9 = .pointer (some ⟨B9, 0, none⟩) ∧ v10 = .pointer (some ⟨B10, 0, none⟩) ∧ Hid (Blk wx B9 40 #[.int .i64 x.kind, .int .i64 x.pos, .string x.name, .slice p3 x.names.length q3, .slice p4 x.kids.length q4, .bool x.opn]) ∧ Hid (Blk wx B10 40 #[.int .i64 x.kind, .int .i64 x.pos, .string x.name, .slice s3 x.names.length t3, .slice s4 x.kids.length t4, .bool x.opn]) ∧ Below W1.heap.size W1 wx)
  case first =>
   clear e0 e1 e2 e3 e4 e5 l0 l1 l2 l3 l4 l5 x1 y1;refine wp_region_noPanic ?_;refine wp_region_held_drew (S := fun W => W.cell? ⟨bb, off + i * 6, none⟩ = some (.int .i64 x.kind) ∧ W.cell? ⟨bb, off + i * 6 + 1, none⟩ = some (.int .i64 x.pos) ∧ W.cell? ⟨bb, off + i * 6 + 2, none⟩ = some (.string x.name) ∧ W.cell? ⟨bb, off + i * 6 + 3, none⟩ = some (.slice p3 x.names.length q3) ∧ W.cell? ⟨bb, off + i * 6 + 4, none⟩ = some (.slice p4 x.kids.length q4) ∧ W.cell? ⟨bb, off + i * 6 + 5, none⟩ = some (.bool x.opn) ∧ W.cell? ⟨be, oe + i * 6, none⟩ = some (.int .i64 x.kind) ∧ W.cell? ⟨be, oe + i * 6 + 1, none⟩ = some (.int .i64 x.pos) ∧ W.cell? ⟨be, oe + i * 6 + 2, none⟩ = some (.string x.name) ∧ W.cell? ⟨be, oe + i * 6 + 3, none⟩ = some (.slice s3 x.names.length t3) ∧ W.cell? ⟨be, oe + i * 6 + 4, none⟩ = some (.slice s4 x.kids.length t4) ∧ W.cell? ⟨be, oe + i * 6 + 5, none⟩ = some (.bool x.opn) ∧ W.cell? ⟨w.heap.size, 1, none⟩ = some (.slice (some ⟨bb, off, none⟩) t.types.length c2) ∧ W.cell? ⟨w.heap.size + 1, 1, none⟩ = some (.slice (some ⟨be, oe, none⟩) t.types.length d2)) (by kernel_rfl) (HSS.out _ (by repeat (first | (with_reducible exact zJx _ _) | (with_reducible refine Below.drew ?_)))) (fun hHeld => ?_);refine tkH 0 ?_;try simp only [Act.put, sA, sB, sC]
   refine tkH 1 ?_;try simp only [Act.put, sA, sB, sC]
   refine tkH 2 ?_;try simp only [Act.put, sA, sB, sC]
   refine tkH 3 ?_;try simp only [Act.put, sA, sB, sC]
   refine tkH 4 ?_;try simp only [Act.put, sA, sB, sC]
   refine tkH 5 ?_;try simp only [Act.put, sA, sB, sC]
   refine tkH 6 ?_;try simp only [Act.put, sA, sB, sC]
   refine tkH 7 ?_;try simp only [Act.put, sA, sB, sC]
   refine tkH 8 ?_;try simp only [Act.put, sA, sB, sC]
   refine tkH 9 ?_;try simp only [Act.put, sA, sB, sC]
   refine wpAnyH_ready (rs := [10, 11]) (by kernel_rfl) (by simp) ?_;refine (AllReadyH.cons (by simp only [gA, gB, gC]; rfl) (fun K hK => ?sta11) (AllReadyH.cons (by simp only [gA, gB, gC]; rfl) (fun K hK => ?sta12) AllReadyH.nil))
   case sta11 =>
    go_simp
    refine hK.out _ _ ?hSa11 (fun hHeld => ?_)
    case hSa11 => exact HSS.out _ (by repeat (first | (with_reducible exact zJx _ _) | (with_reducible refine Below.drew ?_) | (with_reducible refine Below.alloc ?_ (by simp) _)))
    clear hK K;try simp only [Act.put, sA, sB, sC]
    refine rdH 11 (fun K hK => ?sta11b)
    case sta11b =>
     go_simp
     refine hK.out _ _ ?hSa11b (fun hHeld => ?_)
     case hSa11b => exact HSS.out _ (by repeat (first | (with_reducible exact zJx _ _) | (with_reducible refine Below.drew ?_) | (with_reducible refine Below.alloc ?_ (by simp) _)))
     clear hK K;try simp only [Act.put, sA, sB, sC]
     refine rdH 12 (fun K hK => ?sta11c)
     case sta11c =>
      go_simp
      refine hK.out _ _ ?hSa11c (fun hHeld => ?_)
      case hSa11c => exact HSS.out _ (by repeat (first | (with_reducible exact zJx _ _) | (with_reducible refine Below.drew ?_) | (with_reducible refine Below.alloc ?_ (by simp) _)))
      clear hK K;try simp only [Act.put, sA, sB, sC]
      refine rdH 13 (fun K hK => ?sta11d)
      case sta11d =>
       go_simp
       refine hK.out _ _ ?hSa11d (fun hHeld => ?_)
       case hSa11d => exact HSS.out _ (by repeat (first | (with_reducible exact zJx _ _) | (with_reducible refine Below.drew ?_) | (with_reducible refine Below.alloc ?_ (by simp) _)))
       clear hK K;try simp only [Act.put, sA, sB, sC]
       refine wpAnyH_done (by kernel_rfl) ?_ _;refine NoPanic.normal ?_;go_wp2_with fail
       go_meet
       case rel => exact ⟨_, _, rfl, rfl, zJv ((Blk.new W1 40 _).alloc _), zJv (by have := Blk.new (W1.alloc (.cells #[.int .i64 x.kind, .int .i64 x.pos, .string x.name, .slice p3 x.names.length q3, .slice p4 x.kids.length q4, .bool x.opn] 40)) 40 #[.int .i64 x.kind, .int .i64 x.pos, .string x.name, .slice s3 x.names.length t3, .slice s4 x.kids.length t4, .bool x.opn]; rwa [zKh] at this), by repeat (first | (with_reducible exact zJx _ _) | (with_reducible refine Below.drew ?_) | (with_reducible refine Below.alloc ?_ (by simp) _))⟩
   case sta12 =>
    go_simp
    refine hK.out _ _ ?hSa12 (fun hHeld => ?_)
    case hSa12 => exact HSS.out _ (by repeat (first | (with_reducible exact zJx _ _) | (with_reducible refine Below.drew ?_) | (with_reducible refine Below.alloc ?_ (by simp) _)))
    clear hK K;try simp only [Act.put, sA, sB, sC]
    refine rdH 10 (fun K hK => ?sta12b)
    case sta12b =>
     go_simp
     refine hK.out _ _ ?hSa12b (fun hHeld => ?_)
     case hSa12b => exact HSS.out _ (by repeat (first | (with_reducible exact zJx _ _) | (with_reducible refine Below.drew ?_) | (with_reducible refine Below.alloc ?_ (by simp) _)))
     clear hK K;try simp only [Act.put, sA, sB, sC]
     refine rdH 12 (fun K hK => ?sta12c)
     case sta12c =>
      go_simp
      refine hK.out _ _ ?hSa12c (fun hHeld => ?_)
      case hSa12c => exact HSS.out _ (by repeat (first | (with_reducible exact zJx _ _) | (with_reducible refine Below.drew ?_) | (with_reducible refine Below.alloc ?_ (by simp) _)))
      clear hK K;try simp only [Act.put, sA, sB, sC]
      refine rdH 13 (fun K hK => ?sta12d)
      case sta12d =>
       go_simp
       refine hK.out _ _ ?hSa12d (fun hHeld => ?_)
       case hSa12d => exact HSS.out _ (by repeat (first | (with_reducible exact zJx _ _) | (with_reducible refine Below.drew ?_) | (with_reducible refine Below.alloc ?_ (by simp) _)))
       clear hK K;try simp only [Act.put, sA, sB, sC]
       refine wpAnyH_done (by kernel_rfl) ?_ _;refine NoPanic.normal ?_;go_wp2_with fail
       go_meet
       case rel => exact ⟨_, _, rfl, rfl, zJv (by have := Blk.new (W1.alloc (.cells #[.int .i64 x.kind, .int .i64 x.pos, .string x.name, .slice s3 x.names.length t3, .slice s4 x.kids.length t4, .bool x.opn] 40)) 40 #[.int .i64 x.kind, .int .i64 x.pos, .string x.name, .slice p3 x.names.length q3, .slice p4 x.kids.length q4, .bool x.opn]; rwa [zKh] at this), zJv ((Blk.new W1 40 _).alloc _), by repeat (first | (with_reducible exact zJx _ _) | (with_reducible refine Below.drew ?_) | (with_reducible refine Below.alloc ?_ (by simp) _))⟩
  case rest =>
   obtain ⟨B9, B10, rfl, rfl, HX9, HX10, hBc⟩ := hcut;have hBw : Below w.heap.size w wc := hB1.trans (hBc.mono hB1.size);have h9 := HX9.out.lt;have h10 := HX10.out.lt;have hszc := hBc.size;clear e0 e1 e2 e3 e4 e5 l0 l1 l2 l3 l4 l5 x1 y1 HSS;have m1 := HX9.out.cell 1;have m4 := HX9.out.cell 4;simp only [gA, gB, gC] at m1 m4;have u1 := HX10.out.cell 1;have u4 := HX10.out.cell 4;simp only [gA, gB, gC] at u1 u4;have HXc := zJv (HX.out.below hBc hzX);have HYc := zJv (HY.out.below hBc hzY);have hp1 : (x.pos != x.pos) = false := by simp
   have hp4 : ((x.kids.length : Int) != (x.kids.length : Int)) = false := by simp
   go_wp2
   have hz3 := hBw.size;obtain ⟨WS, hWS⟩ : ∃ WS, WS = wc := ⟨wc, rfl⟩;subst hWS;go_loopw [11, 39] (fun _ k0 wr => ∃ (k : Nat), k ≤ x.kids.length ∧ k0 = .int .i64 k ∧ Below WS.heap.size WS wr) (fun _ k0 _ => x.kids.length - (intOf k0).toNat)
   case atStart => exact ⟨0, zK8 _, rfl, zJx _ _⟩
   case round =>
    obtain ⟨k, hk, rfl, hB⟩ := hrel;have hBr : Below w.heap.size w wr := hBw.trans (hB.mono hz3);have hzr := hB.size;by_cases hlt : k < x.kids.length
    · obtain ⟨bx, ox, rfl, hwx, hcx⟩ := HK.out.at_ hlt
      obtain ⟨by_, oy, rfl, hwy, hcy⟩ := HK'.out.at_ hlt;have f1 := (hBr.cell (p := ⟨bx, ox + k, none⟩) hwx).trans (hcx k (iv x.kids[k]) (by simp [hlt]));have f2 := (hBr.cell (p := ⟨by_, oy + k, none⟩) hwy).trans (hcy k (iv x.kids[k]) (by simp [hlt]));unfold iv at f1 f2;have hlx : bx < wr.heap.size := zJy hwx hBr.size;have hly : by_ < wr.heap.size := zJy hwy hBr.size;have hz1 := HRG.out _ (zKe hlt);obtain ⟨z, hz⟩ : ∃ z, x.kids[k] = z := ⟨_, rfl⟩;rw [hz] at f1 f2 hz1;obtain ⟨k1, hk1⟩ : ∃ n : Nat, z = (n : Int) := ⟨z.toNat, by omega⟩;subst hk1;have kI : Hid (∀ W, Below wr.heap.size wr W → Calls Tryz.prog 15 #[treeV t ⟨a1, c1, (some ⟨bb, off, none⟩), c2, a3, c3⟩, .int .i64 (k1 : Int), treeV t ⟨b1, d1, (some ⟨be, oe, none⟩), d2, b3, d3⟩, .int .i64 (k1 : Int)] W fun e w' => e = .returned (.bool true) ∧ Below W.heap.size W w') := zJv fun W hW => IH.out k1 (by omega) (by omega) W (zcu HTa.out (hBr.trans (hW.mono hBr.size))) (zcu HTb.out (hBr.trans (hW.mono hBr.size)));unfold treeV at kI;dsimp only at kI;have HXr := zJv (HXc.out.below hB HXc.out.lt);have HYr := zJv (HYc.out.below hB HYc.out.lt);have HMr := zJv (HX9.out.below hB h9);have HUr := zJv (HX10.out.below hB h10);have xl := HXr.out.lt;have yl := HYr.out.lt;have ml := HMr.out.lt;have ul := HUr.out.lt
      have HSS : Hid (∀ W, Below wr.heap.size wr W → (fun W : World => W.cell? ⟨w.heap.size, 0, none⟩ = some (.slice a1 t.nodes.length c1) ∧ W.cell? ⟨w.heap.size, 1, none⟩ = some (.slice (some ⟨bb, off, none⟩) t.types.length c2) ∧ W.cell? ⟨w.heap.size, 2, none⟩ = some (.slice a3 t.aliases.length c3) ∧ W.cell? ⟨w.heap.size + 1, 0, none⟩ = some (.slice b1 t.nodes.length d1) ∧ W.cell? ⟨w.heap.size + 1, 1, none⟩ = some (.slice (some ⟨be, oe, none⟩) t.types.length d2) ∧ W.cell? ⟨w.heap.size + 1, 2, none⟩ = some (.slice b3 t.aliases.length d3) ∧ W.cell? ⟨B9, 4, none⟩ = some (.slice (some ⟨bx, ox, none⟩) x.kids.length q4) ∧ W.cell? ⟨B10, 4, none⟩ = some (.slice (some ⟨by_, oy, none⟩) x.kids.length t4) ∧ W.cell? ⟨bx, ox + k, none⟩ = some (.int .i64 (k1 : Int)) ∧ W.cell? ⟨by_, oy + k, none⟩ = some (.int .i64 (k1 : Int)) ∧ Below wr.heap.size wr W) W) := zJv fun W hW => by
       have A := HXr.out.below hW xl;have B := HYr.out.below hW yl;have C := HMr.out.below hW ml;have D := HUr.out.below hW ul;have A0 := A.cell 0;have A1 := A.cell 1;have A2 := A.cell 2;have B0 := B.cell 0;have B1 := B.cell 1;have B2 := B.cell 2;have C4 := C.cell 4;have D4 := D.cell 4;simp only [gA, gB, gC] at A0 A1 A2 B0 B1 B2 C4 D4;exact ⟨A0, A1, A2, B0, B1, B2, C4, D4, (hW.cell (p := ⟨bx, _, none⟩) hlx).trans f1, (hW.cell (p := ⟨by_, _, none⟩) hly).trans f2, hW⟩
      have i1 : (0 : Int) ≤ (k : Int) := by omega
      have i2 : (k : Int) < (x.kids.length : Int) := by omega
      have hB0 := zJx wr.heap.size wr;clear hz f1 f2 m4 u4 m1 u1 hwx hwy hcx hcy;go_wp2_with fail
      refine wp_region_noPanic ?_;refine wp_region_held_drew (S := fun W => W.cell? ⟨w.heap.size, 0, none⟩ = some (.slice a1 t.nodes.length c1) ∧ W.cell? ⟨w.heap.size, 1, none⟩ = some (.slice (some ⟨bb, off, none⟩) t.types.length c2) ∧ W.cell? ⟨w.heap.size, 2, none⟩ = some (.slice a3 t.aliases.length c3) ∧ W.cell? ⟨w.heap.size + 1, 0, none⟩ = some (.slice b1 t.nodes.length d1) ∧ W.cell? ⟨w.heap.size + 1, 1, none⟩ = some (.slice (some ⟨be, oe, none⟩) t.types.length d2) ∧ W.cell? ⟨w.heap.size + 1, 2, none⟩ = some (.slice b3 t.aliases.length d3) ∧ W.cell? ⟨B9, 4, none⟩ = some (.slice (some ⟨bx, ox, none⟩) x.kids.length q4) ∧ W.cell? ⟨B10, 4, none⟩ = some (.slice (some ⟨by_, oy, none⟩) x.kids.length t4) ∧ W.cell? ⟨bx, ox + k, none⟩ = some (.int .i64 (k1 : Int)) ∧ W.cell? ⟨by_, oy + k, none⟩ = some (.int .i64 (k1 : Int)) ∧ Below wr.heap.size wr W) (by kernel_rfl) (HSS.out _ (Below.drew hB0)) (fun hHeld => ?_);refine tkH 0 ?_;try simp only [Act.put, sA, sB, sC]
      refine tkH 1 ?_;try simp only [Act.put, sA, sB, sC]
      refine tkH 2 ?_;try simp only [Act.put, sA, sB, sC]
      refine tkH 3 ?_;try simp only [Act.put, sA, sB, sC]
      refine tkH 4 ?_;try simp only [Act.put, sA, sB, sC]
      refine tkH 5 ?_;try simp only [Act.put, sA, sB, sC]
      refine tkH 6 ?_;try simp only [Act.put, sA, sB, sC]
      refine tkH 7 ?_;try simp only [Act.put, sA, sB, sC]
      refine tkH 8 ?_;try simp only [Act.put, sA, sB, sC]
      refine tkH 9 ?_;try simp only [Act.put, sA, sB, sC]
      refine tkH 10 ?_;try simp only [Act.put, sA, sB, sC]
      refine tkH 11 ?_;try simp only [Act.put, sA, sB, sC]
      refine rdH 12 (fun K hK => ?_);go_simp; go_at_call 15; (with_reducible refine (kI.out _ (Below.drew hB0)).mono ?_); rintro e w6 ⟨rfl, b6'⟩; have b6 := (Below.drew hB0).trans (b6'.mono (by exact zJw _))
      go_wp2_with fail
      refine hK.out _ _ ?hSq13 (fun hHeld => ?_)
      case hSq13 => exact HSS.out _ b6
      clear hK K;try simp only [Act.put, sA, sB, sC]
      refine tkH 13 ?_;try simp only [Act.put, sA, sB, sC]
      refine wpAnyH_done (by kernel_rfl) ?_ _;refine NoPanic.normal ?_;go_wp2
      go_roundw
      case rel => exact ⟨k + 1, by omega, by go_num, hB.trans (b6.mono hzr)⟩
      case measure => simp [intOf]; omega
    · obtain rfl : k = x.kids.length := by omega
      go_wp2
      go_ret;exact ⟨rfl, hBr⟩
end Go.Proofs.YtidmeodmkcomlaaGreatDoor
