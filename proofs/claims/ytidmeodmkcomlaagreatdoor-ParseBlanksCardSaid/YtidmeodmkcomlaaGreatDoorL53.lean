/- ParseBlanks: the law's walk. What the -/
import Derived.Test.YtidmeodmkcomlaaGreatDoorL52
import Derived.Test.YtidmeodmkcomlaaGreatDoorCards
import Derived.Test.YtidmeodmkcomlaaGreatDoorTie
import Derived.ProofKit
import Derived.OpenShut
import Derived.LaidMore
import Derived.Lay
import Derived.PinnedBridge
import Derived.Lib.LaidU8T
import Derived.Stop.Joined
import Derived.Stop.LaidErr
namespace Go.Proofs.YtidmeodmkcomlaaGreatDoor
open Go Go.Proofs Go.RowKit
set_option maxHeartbeats 40000000
set_option maxRecDepth 100000 in
theorem zLo (l : List UInt8) (a : Option Addr) (len cap : Nat) (w : World) (_hl : l.length = len) (h5 : 500 < len) (hE : Env w) : Calls Tryz.prog 4 #[.slice a len cap] w fun e w' => e = .returned (.bool true) ∧ Below w.heap.size w w' := by
 have cV := zjm w hE;have hd : decide ((500 : Int) < (len : Int)) = true := by rw [zKq]; omega
 go_enter Tryz.func4, Tryz.ntmps4
 go_wp2_with fail
 refine cV.mono ?_;rintro e w1 ⟨rfl, hb1⟩;have cW := zjm w1 (hE.on hb1);have HB1 := zJv hb1;clear cV hb1;go_wp2_with fail
 refine cW.mono ?_;rintro e w2 ⟨rfl, hb2⟩;have HB2 := zJv (HB1.out.trans (hb2.mono HB1.out.size));clear cW hb2;go_wp2_with fail
 go_ret;exact ⟨rfl, HB2.out⟩
theorem zLt (t : TreeD) : t.sh 0 = t := by
 obtain ⟨n, y, a⟩ := t;have e1 : shT 0 = id := by funext x; cases x; simp [shT]
 have e2 : shY 0 = id := by funext x; cases x; simp [shY]
 have e3 : shA 0 = id := by funext x; cases x; simp [shA]
 show (⟨n.map (shT 0), y.map (shY 0), a.map (shA 0)⟩ : TreeD) = _
 rw [e1, e2, e3, List.map_id, List.map_id, List.map_id]
theorem zLx (t : TreeD) (p q : Ptr6) (hW : Whole t) (hF : zb1 t) (w : World) (hA : TreeAt (Lt w.heap.size) w t p) (hB : TreeAt (Lt w.heap.size) w t q) :
 Calls Tryz.prog 12 #[treeV t p, treeV t q] w fun e w' => e = .returned (.bool true) ∧ Below w.heap.size w w' :=
 zLw t p q hW hF (fun W hA hB => by
  have h := zL0 t 0 p q hW hF W hA (by rw [zLt]; exact hB);rw [zLt] at h
  exact h) w hA hB
theorem zLl {B : Nat} {x : Int} (h : InB (B : Int) x) (hB : B ≤ 1000) : IntKind.i64.wrap (x + 1) = x + 1 := by
 rw [IntKind.wrap_i64];have := h.1;have := h.2;omega
theorem zLu (w2 : World) (A B : Array Value) (ta tb : TypeId) : (((w2.alloc (.cells A ta)).alloc (.cells B tb)).alloc (.cells #[.int .u8 32] 5)).ownsRow (w2.heap.size + 1 + 1) 5 1 (.slice (some ⟨w2.heap.size + 1 + 1, 0, none⟩) 1 1) 1 (zai [32]) := by
 have h := World.ownsRow_lit (base := w2.heap.size + 1 + 1) (e := 5) (size := 1) ((w2.alloc (.cells A ta)).alloc (.cells B tb)) #[.int .u8 32] 1 (by simp only [zKh]; exact zJw _) (by decide) rfl;simp only [zKh] at h;exact h
theorem zLq (w2 : World) (A B : Array Value) : Blk (((w2.alloc (.cells A 27)).alloc (.cells B 30)).alloc (.cells #[.int .u8 32] 5)) w2.heap.size 27 A ∧ Blk (((w2.alloc (.cells A 27)).alloc (.cells B 30)).alloc (.cells #[.int .u8 32] 5)) (w2.heap.size + 1) 30 B ∧ Below w2.heap.size w2 (((w2.alloc (.cells A 27)).alloc (.cells B 30)).alloc (.cells #[.int .u8 32] 5)) ∧ (((w2.alloc (.cells A 27)).alloc (.cells B 30)).alloc (.cells #[.int .u8 32] 5)).heap.size = w2.heap.size + 3 := by
 refine ⟨((Blk.new w2 27 A).alloc _).alloc _, ?_, (((zJx _ _).alloc (zJw _) _).alloc (by simp only [zKh]; omega) _).alloc (by simp only [zKh]; omega) _, by simp only [zKh]⟩;have := (Blk.new (w2.alloc (.cells A 27)) 30 B).alloc (.cells #[.int .u8 32] 5);rwa [zKh] at this
theorem zLp {w : World} {lo e s n c : Nat} {A : Option Addr} {xs : List Value} (h : w.ownsRow lo e s (.slice A n c) n xs) : ∀ x, A = some x → lo ≤ x.block ∧ x.block < w.heap.size := by
 intro x hx;have := h.lt x.block (by rw [hx]; rfl);exact this
theorem OwnTr.rng {lo : Nat} {w : World} {t : TreeD} {p : Ptr6} (h : OwnTr lo w t p) : (∀ x, p.a1 = some x → lo ≤ x.block ∧ x.block < w.heap.size) ∧ (∀ x, p.a2 = some x → lo ≤ x.block ∧ x.block < w.heap.size) ∧ ∀ x, p.a3 = some x → lo ≤ x.block ∧ x.block < w.heap.size := by
 obtain ⟨r1, r2, h⟩ := h;exact ⟨zLp h.o1, zLp h.o2, zLp h.o3⟩
theorem OwnTr.lt {lo : Nat} {w : World} {t : TreeD} {p : Ptr6} (h : OwnTr lo w t p) : TreeAt (Lt w.heap.size) w t p := h.at_.imp (fun _b k => k.2)
theorem zLs {B : Nat} {a w : World} {A : Option Addr} (h : a.grownBy w (A.map (·.block))) (hA : ∀ x, A = some x → B ≤ x.block) (hB : B ≤ a.heap.size) : Below B a w :=
 ⟨h.os, h.tape, h.output, h.size, fun i hi => h.block i (by omega) (fun e => by
  cases A with
  | none => cases e
  | some x =>
   injection e with e
   have := hA x rfl;dsimp only at e
   omega)⟩
theorem zAu {a w : World} {A : Option Addr} (h : a.grownBy w (A.map (·.block))) {b : Nat} (hA : ∀ x, A = some x → x.block ≠ b) (hb : b < a.heap.size) : w.heap[b]? = a.heap[b]? :=
 h.block b hb (fun e => by
  cases A with
  | none => cases e
  | some x =>
   injection e with e
   exact hA x rfl e.symm)
theorem zLh {a w : World} {A : Option Addr} {g o : Nat} (h : a.grownBy w (A.map (·.block))) (hA : A = some ⟨g, 0, none⟩) (v : Value) : a.grownBy (w.setCell ⟨g, o, none⟩ v) (A.map (·.block)) := by
 subst hA;exact za9 (p := ⟨g, o, none⟩) (g := g) h (.inl rfl) v
structure StB (w0 : World) (lo b2 m6 b7 : Nat) (t u : TreeD) (p q : Ptr6) (w : World) : Prop where
 bx : Blk w b2 27 #[.slice p.a1 t.nodes.length p.c1, .slice p.a2 t.types.length p.c2, .slice p.a3 t.aliases.length p.c3]
 bu : Blk w b7 27 #[.slice q.a1 u.nodes.length q.c1, .slice q.a2 u.types.length q.c2, .slice q.a3 u.aliases.length q.c3]
 tr : TreeAt (fun b => m6 ≤ b ∧ b < w.heap.size) w u q
 bel : Below w0.heap.size w0 w
 l0 : w0.heap.size ≤ lo
 l1 : b2 ≤ m6
 l2 : m6 ≤ b7
theorem StB.step {w0 w w' : World} {lo b2 m6 b7 : Nat} {t u : TreeD} {p q : Ptr6} {A : Option Addr} (h : StB w0 lo b2 m6 b7 t u p q w) (hG : w.grownBy w' (A.map (·.block))) (hA : ∀ x, A = some x → lo ≤ x.block ∧ x.block < b2) : StB w0 lo b2 m6 b7 t u p q w' :=
 ⟨(zAu hG (fun x hx => Nat.ne_of_lt (hA x hx).2) h.bx.lt).trans h.bx,
  (zAu hG (fun x hx => by have := (hA x hx).2; have := h.l1; have := h.l2; omega) h.bu.lt).trans h.bu,
  (h.tr.keep (fun b o hb => zKb (a := ⟨b, o, none⟩) (zAu (b := b) hG (fun x hx => by have := (hA x hx).2; have := h.l1; have := hb.1; omega) hb.2))).imp (fun b hb => ⟨hb.1, zJy hb.2 hG.size⟩),
  h.bel.trans (zLs hG (fun x hx => zK4 h.l0 (hA x hx).1) h.bel.size), h.l0, h.l1, h.l2⟩
set_option maxRecDepth 100000 in
theorem zLm (l : List UInt8) (a : Option Addr) (cap : Nat) (w : World) (h5 : l.length ≤ 500) (hE : Env w) (hI : TextAt w.heap.size w (.slice a l.length cap) l) : Calls Tryz.prog 4 #[.slice a l.length cap] w fun e w' => e = .returned (.bool true) ∧ Below w.heap.size w w' := by
 have cV := zjm w hE;have hd : decide ((500 : Int) < (l.length : Int)) = false := by rw [zKs]; omega
 go_enter Tryz.func4, Tryz.ntmps4
 go_wp2_with fail
 refine cV.mono ?_;rintro e w1 ⟨rfl, hb1⟩;have hE1 := hE.on hb1;have hI1 : TextAt w1.heap.size w1 (.slice a l.length cap) l := (hI.below hb1).more hb1.size;have cT := zLe l (by omega) a l.length cap w1 rfl hE1 hI1;have HB1 := zJv hb1;have HE1 := zJv hE1;have HI1 := zJv hI1;have HBL := zJv (zJ7 (l := l) (by omega));have H5 := zJv h5;clear cV hb1 hE1 hI1 hE hI
 cases hR : textR l with
 | error e0 =>
  obtain ⟨c, q⟩ := e0;obtain ⟨hq, hc⟩ := zLb (by omega) hR;rw [hR] at cT;have hcb : ((c : Int) != 0) = true := by rw [bne_iff_ne]; omega
  obtain ⟨q', hR', hq'⟩ := HBL.out.2 c q hR;go_wp2_with fail
  refine cT.mono ?_;rintro e w2 ⟨rfl, hb2⟩;have HB12 := zJv hb2;have HB2 := zJv (HB1.out.trans (hb2.mono HB1.out.size));clear cT hb2;have hiA : ∀ (A B : Array Value) (ta tb : TypeId), TextAt (w2.heap.size + 1 + 1 + 1) (((w2.alloc (.cells A ta)).alloc (.cells B tb)).alloc (.cells #[.int .u8 32] 5)) (.slice a l.length cap) l := fun A B ta tb => (HI1.out.below (((HB12.out.alloc HB12.out.size _).alloc (by simp only [zKh]; have := HB12.out.size; omega) _).alloc (by simp only [zKh]; have := HB12.out.size; omega) _)).more (by have := HB12.out.size; omega);go_wp2_with (at_builtin; go_loud (refine zzy rfl _ _ rfl (w2.heap.size + 1 + 1) (.slice (some ⟨w2.heap.size + 1 + 1, 0, none⟩) 1 1) 1 [32] rfl (zLu w2 _ _ _ _) (w2.heap.size + 1 + 1 + 1) (.slice a l.length cap) l rfl (hiA _ _ _ _) (by omega) (by simp only [zKh]; omega) ?_); intro v6 w6 hown6 hgrow6)
  obtain ⟨A6, c6, rfl⟩ := za8 hown6;have hT6 : TextAt w6.heap.size w6 (.slice A6 (1 + l.length) c6) (32 :: l) := zq4 hown6;have hbx := zLq w2 #[.slice none 0 0, .slice none 0 0, .slice none 0 0] #[.int .i64 (c : Int), .int .i64 (q : Int), .string ⟨#[]⟩];generalize hW5 : ((w2.alloc (.cells #[.slice none 0 0, .slice none 0 0, .slice none 0 0] 27)).alloc (.cells #[.int .i64 (c : Int), .int .i64 (q : Int), .string ⟨#[]⟩] 30)).alloc (.cells #[.int .u8 32] 5) = W5 at hgrow6 hbx;obtain ⟨hX3, hX4, hb25, hs5⟩ := hbx;have hb56 : Below (w2.heap.size + 1 + 1) W5 w6 := ⟨hgrow6.os, hgrow6.tape, hgrow6.output, hgrow6.size, fun k hk => hgrow6.block k (by omega) (by intro e; injection e with e; dsimp only at e; omega)⟩;have hb26 : Below w2.heap.size w2 w6 := hb25.trans (hb56.mono (by omega));have hE6 : Env w6 := HE1.out.on (HB12.out.trans (hb26.mono HB12.out.size));have hs6 := hgrow6.size;have hX3' := hX3.below hb56 (by omega);have hX4' := hX4.below hb56 (by omega);have cU := zLe (32 :: l) (by simp only [zK2]; omega) A6 (1 + l.length) c6 w6 (by simp only [zK2]; omega) hE6 hT6;rw [hR'] at cU;refine cU.mono ?_;rintro e w7 ⟨rfl, hb7⟩;have hX7 := hX4'.below hb7 (by omega);have x0 := hX7.cell 0;have x1 := hX7.cell 1;simp only [gA, gB, gC] at x0 x1;have hl7 := hX7.lt;have hl7' : w2.heap.size < w7.heap.size := by omega
  have HB7 := zJv (HB2.out.trans ((hb26.trans (hb7.mono hb26.size)).mono HB2.out.size));have hwq : IntKind.i64.wrap ((q : Int) + 1) = (q : Int) + 1 := by rw [IntKind.wrap_i64]; omega
  clear cU hb7 hX7 hX3' hX4' hs6 hE6 hb26 hb56 hb25 hX3 hX4 hgrow6 hown6 hT6 hW5 hiA hR';rcases hq' with hq' | rfl
  · have he : ((q' : Int) == (q : Int) + 1) = true := by rw [beq_iff_eq]; omega
    go_wp2_with fail
    go_ret;exact ⟨rfl, (HB7.out.alloc HB7.out.size _).alloc (by simp only [zKh]; have := HB7.out.size; omega) _⟩
  · obtain ⟨b, hb⟩ : ∃ b, ((q' : Int) == (q : Int) + 1) = b := ⟨_, rfl⟩
    cases b
    all_goals
     go_wp2_with fail
     go_ret;exact ⟨rfl, (HB7.out.alloc HB7.out.size _).alloc (by simp only [zKh]; have := HB7.out.size; omega) _⟩
 | ok t =>
  obtain ⟨hW, hF⟩ := zJ5 (by omega) hR;have hR2 := HBL.out.1 t hR;have HP := zJv (zJt hR);have HW := zJv hW;have HF := zJv hF;obtain ⟨_, _, _, hn3, hn1, hn2⟩ := hF;rw [hR] at cT;clear hW;go_wp2_with fail
  refine cT.mono ?_;rintro e w2 ⟨p, rfl, hO, hb2⟩;have HB12 := zJv hb2;have HB2 := zJv (HB1.out.trans (hb2.mono HB1.out.size));have HO := zJv hO;clear cT hb2 hO;have hiA : ∀ (A B : Array Value) (ta tb : TypeId), TextAt (w2.heap.size + 1 + 1 + 1) (((w2.alloc (.cells A ta)).alloc (.cells B tb)).alloc (.cells #[.int .u8 32] 5)) (.slice a l.length cap) l := fun A B ta tb => (HI1.out.below (((HB12.out.alloc HB12.out.size _).alloc (by simp only [zKh]; have := HB12.out.size; omega) _).alloc (by simp only [zKh]; have := HB12.out.size; omega) _)).more (by have := HB12.out.size; omega);go_wp2_with (at_builtin; go_loud (refine zzy rfl _ _ rfl (w2.heap.size + 1 + 1) (.slice (some ⟨w2.heap.size + 1 + 1, 0, none⟩) 1 1) 1 [32] rfl (zLu w2 _ _ _ _) (w2.heap.size + 1 + 1 + 1) (.slice a l.length cap) l rfl (hiA _ _ _ _) (by omega) (by simp only [zKh]; omega) ?_); intro v6 w6 hown6 hgrow6)
  obtain ⟨A6, c6, rfl⟩ := za8 hown6;have hT6 : TextAt w6.heap.size w6 (.slice A6 (1 + l.length) c6) (32 :: l) := zq4 hown6;have hbx := zLq w2 #[.slice p.a1 t.nodes.length p.c1, .slice p.a2 t.types.length p.c2, .slice p.a3 t.aliases.length p.c3] #[.int .i64 0, .int .i64 0, .string ⟨#[]⟩];generalize hW5 : ((w2.alloc (.cells #[.slice p.a1 t.nodes.length p.c1, .slice p.a2 t.types.length p.c2, .slice p.a3 t.aliases.length p.c3] 27)).alloc (.cells #[.int .i64 0, .int .i64 0, .string ⟨#[]⟩] 30)).alloc (.cells #[.int .u8 32] 5) = W5 at hgrow6 hbx;obtain ⟨hX3, hX4, hb25, hs5⟩ := hbx;have hb56 : Below (w2.heap.size + 1 + 1) W5 w6 := ⟨hgrow6.os, hgrow6.tape, hgrow6.output, hgrow6.size, fun k hk => hgrow6.block k (by omega) (by intro e; injection e with e; dsimp only at e; omega)⟩;have hb26 : Below w2.heap.size w2 w6 := hb25.trans (hb56.mono (by omega));have hE6 : Env w6 := HE1.out.on (HB12.out.trans (hb26.mono HB12.out.size));have hs6 := hgrow6.size;have hX3' := hX3.below hb56 (by omega);have hX4' := hX4.below hb56 (by omega);have cU := zLe (32 :: l) (by simp only [zK2]; omega) A6 (1 + l.length) c6 w6 (by simp only [zK2]; omega) hE6 hT6;rw [hR2] at cU;have HR := zJv HO.out.rng;refine cU.mono ?_;rintro e w7 ⟨q, rfl, hO2, hb7⟩;have hb27 : Below w2.heap.size w2 w7 := hb26.trans (hb7.mono hb26.size);have hO7 := HO.out.below hb27;have hX7 := hX3'.below hb7 (by omega);have hY7 := hX4'.below hb7 (by omega);have x0 := hX7.cell 0;have x1 := hX7.cell 1;have x2 := hX7.cell 2;have y0 := hY7.cell 0;simp only [gA, gB, gC] at x0 x1 x2 y0;have hl7 := hY7.lt;have hl7' : w2.heap.size < w7.heap.size := by omega
  have hm6 : w2.heap.size ≤ w6.heap.size := hb26.size;have HM := zJv (And.intro hm6 hb7.size);have HX7 := zJv hX7;have HO7 := zJv hO7;have HO2 := zJv hO2;have HB7 := zJv (HB2.out.trans (hb27.mono HB2.out.size));clear cU hb7 hX7 hY7 hO7 hO2 hX3' hX4' hs6 hE6 hb26 hb27 hb56 hb25 hX3 hX4 hgrow6 hown6 hT6 hW5 hiA hm6;go_wp2_with fail
  obtain ⟨W9, hW9⟩ : ∃ W9, (w7.alloc (.cells #[.slice q.a1 (t.sh 1).nodes.length q.c1, .slice q.a2 (t.sh 1).types.length q.c2, .slice q.a3 (t.sh 1).aliases.length q.c3] 27)).alloc (.cells #[.int .i64 0, .int .i64 0, .string ⟨#[]⟩] 30) = W9 := ⟨_, rfl⟩;rw [hW9];have hb79 : Below w7.heap.size w7 W9 := by rw [← hW9]; exact ((zJx _ _).alloc (zJw _) _).alloc (by simp only [zKh]; omega) _
  have hs9 : W9.heap.size = w7.heap.size + 2 := by rw [← hW9]; simp only [zKh]
  have hU9 : Blk W9 w7.heap.size 27 #[.slice q.a1 (t.sh 1).nodes.length q.c1, .slice q.a2 (t.sh 1).types.length q.c2, .slice q.a3 (t.sh 1).aliases.length q.c3] := by rw [← hW9]; exact (Blk.new w7 27 _).alloc _
  have hX9 := HX7.out.below hb79 HX7.out.lt;have hO9 := HO7.out.below hb79;have hV9 := HO2.out.below hb79;have cS := zL0 t 1 p q HW.out HF.out W9 hO9.lt hV9.lt;refine cS.mono ?_;rintro e wA ⟨rfl, hbA⟩;have hXA := hX9.below hbA hX9.lt;have hUA := hU9.below hbA hU9.lt;have HOA := zJv (hO9.below hbA);have HSA : Hid (StB w w1.heap.size w2.heap.size w6.heap.size w7.heap.size t (t.sh 1) p q wA) := zJv ⟨hXA, hUA, (hV9.below hbA).at_, HB7.out.trans ((hb79.trans (hbA.mono hb79.size)).mono HB7.out.size), HB1.out.size, HM.out.1, HM.out.2⟩;have x0 := hXA.cell 0;simp only [gA, gB] at x0;clear cS hW9 hb79 hs9 hU9 hX9 hO9 hV9 hbA hXA hUA HX7 HO7 HO2 x1 x2 y0 hl7 hl7';go_wp2_with fail
  go_loopw [7, 58] (fun _ i wr => ∃ k : Nat, k ≤ t.nodes.length ∧ i = .int .i64 k ∧ Hid (OwnTr w1.heap.size wr ⟨incs (shT 1) k t.nodes, t.types, t.aliases⟩ p) ∧ Hid (wA.grownBy wr (p.a1.map (·.block)))) (fun _ i _ => t.nodes.length - (intOf i).toNat)
  case atStart => exact ⟨0, zK8 _, rfl, zJv (by rw [zLg]; exact HOA.out), zJv (zaf _ _)⟩
  case round =>
   obtain ⟨k, hk, rfl, HO1, HG1⟩ := hrel;have HSB := zJv (HSA.out.step HG1.out HR.out.1);by_cases hlt : k < t.nodes.length
   · obtain ⟨g, hA, hlo, hg, hc, hf, hO'⟩ := HO1.out.incN (zLk (shT 1) (zK1 hlt))
     have hw := zLl (HP.out.1 _ (zKe hlt)) (show l.length ≤ 1000 by omega);dsimp only at hO';rw [zLf (shT 1) (zK1 hlt)] at hO';have x0 : wr.cell? ⟨w2.heap.size, 0, none⟩ = some (.slice (some ⟨g, 0, none⟩) t.nodes.length p.c1) := by rw [← hA]; exact (HSB.out.bx.cell 0).trans rfl
     have HO' := zJv hO';have HG' := zJv (zLh (o := k * 8 + 1) HG1.out hA (.int .i64 (t.nodes[k].pos + 1)));generalize t.nodes[k].pos = z at hc hw HO' HG';clear hO' hA;go_wp2_with fail
     go_roundw
     case rel => exact ⟨k + 1, by omega, by go_num, HO', HG'⟩
     case measure => simp [intOf]; omega
   · obtain rfl : k = t.nodes.length := by omega
     obtain ⟨wB, rfl⟩ : ∃ wB, wB = wr := ⟨wr, rfl⟩;have HOB : Hid (OwnTr w1.heap.size wB ⟨t.nodes.map (shT 1), t.types, t.aliases⟩ p) := zJv (by have h := HO1.out; rw [zLj] at h; exact h);clear HO1 HG1 hlt hk HOA HSA;have x1 : wB.cell? ⟨w2.heap.size, 1, none⟩ = some (.slice p.a2 t.types.length p.c2) := (HSB.out.bx.cell 1).trans rfl;clear x0;go_wp2_with fail
     go_loopw [8, 74] (fun _ i wr => ∃ k : Nat, k ≤ t.types.length ∧ i = .int .i64 k ∧ Hid (OwnTr w1.heap.size wr ⟨t.nodes.map (shT 1), incs (shY 1) k t.types, t.aliases⟩ p) ∧ Hid (wB.grownBy wr (p.a2.map (·.block)))) (fun _ i _ => t.types.length - (intOf i).toNat)
     case atStart => exact ⟨0, zK8 _, rfl, zJv (by rw [zLg]; exact HOB.out), zJv (zaf _ _)⟩
     case round =>
      obtain ⟨k, hk, rfl, HO1, HG1⟩ := hrel;have HSC := zJv (HSB.out.step HG1.out HR.out.2.1);by_cases hlt : k < t.types.length
      · obtain ⟨g, hA, hlo, hg, hc, hf, hO'⟩ := HO1.out.incY (zLk (shY 1) (zK1 hlt))
        have hw := zLl (HP.out.2.1 _ (zKe hlt)) (show l.length ≤ 1000 by omega);dsimp only at hO';rw [zLf (shY 1) (zK1 hlt)] at hO';have x0 : wr.cell? ⟨w2.heap.size, 1, none⟩ = some (.slice (some ⟨g, 0, none⟩) t.types.length p.c2) := by rw [← hA]; exact (HSC.out.bx.cell 1).trans rfl
        have HO' := zJv hO';have HG' := zJv (zLh (o := k * 6 + 1) HG1.out hA (.int .i64 (t.types[k].pos + 1)));generalize t.types[k].pos = z at hc hw HO' HG';clear hO' hA;go_wp2_with fail
        go_roundw
        case rel => exact ⟨k + 1, by omega, by go_num, HO', HG'⟩
        case measure => simp [intOf]; omega
      · obtain rfl : k = t.types.length := by omega
        obtain ⟨wC, rfl⟩ : ∃ wC, wC = wr := ⟨wr, rfl⟩;have HOC : Hid (OwnTr w1.heap.size wC ⟨t.nodes.map (shT 1), t.types.map (shY 1), t.aliases⟩ p) := zJv (by have h := HO1.out; rw [zLj] at h; exact h);clear HO1 HG1 hlt hk HOB HSB;have x2 : wC.cell? ⟨w2.heap.size, 2, none⟩ = some (.slice p.a3 t.aliases.length p.c3) := (HSC.out.bx.cell 2).trans rfl;go_wp2_with fail
        go_loopw [9, 90] (fun _ i wr => ∃ k : Nat, k ≤ t.aliases.length ∧ i = .int .i64 k ∧ Hid (OwnTr w1.heap.size wr ⟨t.nodes.map (shT 1), t.types.map (shY 1), incs (shA 1) k t.aliases⟩ p) ∧ Hid (wC.grownBy wr (p.a3.map (·.block)))) (fun _ i _ => t.aliases.length - (intOf i).toNat)
        case atStart => exact ⟨0, zK8 _, rfl, zJv (by rw [zLg]; exact HOC.out), zJv (zaf _ _)⟩
        case round =>
         obtain ⟨k, hk, rfl, HO1, HG1⟩ := hrel;have HSD := zJv (HSC.out.step HG1.out HR.out.2.2);by_cases hlt : k < t.aliases.length
         · obtain ⟨g, hA, hlo, hg, hc, hf, hO'⟩ := HO1.out.incA (zLk (shA 1) (zK1 hlt))
           have hw := zLl (HP.out.2.2 _ (zKe hlt)) (show l.length ≤ 1000 by omega);dsimp only at hO';rw [zLf (shA 1) (zK1 hlt)] at hO';have x0 : wr.cell? ⟨w2.heap.size, 2, none⟩ = some (.slice (some ⟨g, 0, none⟩) t.aliases.length p.c3) := by rw [← hA]; exact (HSD.out.bx.cell 2).trans rfl
           have HO' := zJv hO';have HG' := zJv (zLh (o := k * 3 + 2) HG1.out hA (.int .i64 (t.aliases[k].pos + 1)));generalize t.aliases[k].pos = z at hc hw HO' HG';clear hO' hA;go_wp2_with fail
           go_roundw
           case rel => exact ⟨k + 1, by omega, by go_num, HO', HG'⟩
           case measure => simp [intOf]; omega
         · obtain rfl : k = t.aliases.length := by omega
           obtain ⟨wD, rfl⟩ : ∃ wD, wD = wr := ⟨wr, rfl⟩;have HOD : Hid (OwnTr w1.heap.size wD (t.sh 1) p) := zJv (by have h := HO1.out; rw [zLj] at h; exact h);clear HO1 HG1 hlt hk HOC HSC;have u0 := (HSD.out.bu.cell 0).trans rfl;have u1 := (HSD.out.bu.cell 1).trans rfl;have u2 := (HSD.out.bu.cell 2).trans rfl;have x0 := (HSD.out.bx.cell 0).trans rfl;have x1 := (HSD.out.bx.cell 1).trans rfl;have x2 := (HSD.out.bx.cell 2).trans rfl;have cI := zLx (t.sh 1) p q (zqz HW.out 1) (zIb HF.out 1) wD HOD.out.lt (HSD.out.tr.imp (fun b hb => hb.2));rw [show treeV (t.sh 1) p = .agg #[.slice p.a1 t.nodes.length p.c1, .slice p.a2 t.types.length p.c2, .slice p.a3 t.aliases.length p.c3] from by unfold treeV; rw [(zs2 1 t).1, (zs2 1 t).2.1, (zs2 1 t).2.2]] at cI;go_wp2_with fail
           refine cI.mono ?_;rintro e wE ⟨rfl, hbE⟩;have HE := zJv (HSD.out.bel.trans (hbE.mono HSD.out.bel.size));clear cI hbE;go_wp2_with fail
           go_ret;exact ⟨rfl, HE.out⟩
theorem zLr (l : List UInt8) (a : Option Addr) (len cap : Nat) (w : World) (hl : l.length = len) (hE : Env w) (hI : TextAt w.heap.size w (.slice a len cap) l) : Calls Tryz.prog 4 #[.slice a len cap] w fun e w' => e = .returned (.bool true) ∧ Below w.heap.size w w' := by
 subst hl;by_cases h3 : 500 < l.length
 · exact zLo l a l.length cap w rfl h3 hE
 · exact zLm l a cap w (by omega) hE hI
end Go.Proofs.YtidmeodmkcomlaaGreatDoor
namespace Go.Proofs.YtidmeodmkcomlaaGreatDoor
open Go Go.Proofs Go.RowKit Go.Shelf Go.Lib
open Go.ChangeShapes Go.WideShapes Go.ChangeAt
theorem own : ownKnob Tryz.prog.godebug = none := by kernel_rfl
theorem zJg : laidOutB Tryz.prog = true := by kernel_rfl
def laid2 : List (String × DataW Unit) := Rows.parseRowsRow.laid
def zr2 : Ren := ⟨fun n => n, fun | 5 => 5 | 119 => 160 | 138 => 162 | 139 => 163 | n => n, fun | 3 => 0 | 4 => 1 | n => n⟩
theorem zD9 : U8Types Tryz.prog zr2 := ⟨by kernel_rfl, by kernel_rfl, by kernel_rfl, by kernel_rfl⟩
theorem zBn : U8Extra Tryz.prog zr2 := ⟨by kernel_rfl, by kernel_rfl, by kernel_rfl, by kernel_rfl, by kernel_rfl, by kernel_rfl, by kernel_rfl⟩
theorem zzp : (Rows.laid_unicode_utf8_acceptRanges : DataW Unit) = acceptData := by kernel_rfl
theorem zDq : Rows.laid_unicode_utf8_first = firstData := Pinned.utf8First_eq
theorem gER : Tryz.prog.globalNamed "strconv.ErrRange" = some 5 := by kernel_rfl
theorem zGd : (Tryz.prog.globals[5]?).map (·.type) = some 145 := by kernel_rfl
theorem zJ3 : Tryz.prog.cellsOf 182 = 1 := by kernel_rfl
theorem zIw : Tryz.prog.cellsOf 9 = 1 := by kernel_rfl
def nmES : String := match (Rows.laid_strconv_ErrRange : DataW Unit) with
 | .iface n _ => n
 | _ => ""
theorem rowE (u : TypeId) (h : Tryz.prog.typeName? 3 u = some nmES) : u = 180 :=
 typeName_ptr_named (nm := "errors.errorString") (by kernel_rfl) (by kernel_rfl) (by decide) u (h.trans (congrArg some (by kernel_rfl)))
theorem zkh {W : World} (h : laidMetH Tryz.prog laid2 W) : Env W := by
 rw [MakeChecks.laidMetH_plain _ _ _ (by kernel_rfl)] at h;have hT : Lib.Utf8Tabs 0 1 W := utf8Tabs_of_readsT (ρ := zr2) zD9 zBn (zDq ▸ Lib.laidMet.reads h (.tail _ (.tail _ (.tail _ (.tail _ (.tail _ (.tail _ (.head _)))))))) (zzp ▸ Lib.laidMet.reads h (.tail _ (.tail _ (.tail _ (.head _)))));obtain ⟨a, s, hv, _⟩ := laid_sentinel (h.tail.tail.tail.tail) gER zGd Tryz.underlying145 rowE Tryz.underlying180 Tryz.underlying182 rfl rfl Tryz.underlying9 zJ3 zIw
 have hc : W.cell? ⟨5, 0, none⟩ = some (.iface 180 (.pointer (some a))) := by
  have := World.var?_cell gER hv 0;simpa using this
 exact ⟨hT, ⟨180, _, hc⟩, by have := block_lt_of_cell hc; dsimp only at this; omega⟩
def IsRow (w : World) (a : Option Addr) (len cap : Nat) (zs : List Int) : Prop :=
 (a = none ∧ len = 0 ∧ cap = 0 ∧ zs = []) ∨
 ∃ x, a = some x ∧ len ≤ cap ∧ cap ≤ maxLen ∧ zs.length = cap ∧ (∀ i, i < zs.length → w.cell? (x.add i) = some (.int .u8 (zs.getD i 0))) ∧ ∀ n ∈ zs, (Lit.int .u8 n).wf = true
theorem zJ4 {w : World} {a : Option Addr} {len cap : Nat} {zs : List Int} (h : IsRow w a len cap zs) : ∃ l : List UInt8, l.length = len ∧ TextAt w.heap.size w (.slice a len cap) l := by
 rcases h with ⟨rfl, rfl, rfl, _⟩ | ⟨x, rfl, hlc, _, hz, hc, hw⟩
 · exact ⟨[], rfl, .inl ⟨none, 0, fun _ => rfl, rfl, rfl⟩⟩
 · by_cases h0 : len = 0
   · subst h0
     exact ⟨[], rfl, .inl ⟨some x, cap, (fun e => by cases e), rfl, rfl⟩⟩
   · obtain ⟨b, off, rfl, hcell⟩ := ints_at hc (by omega)
     have hlen : ((zs.take len).map fun n => UInt8.ofNat n.toNat).length = len := by simp; omega
     refine ⟨(zs.take len).map fun n => UInt8.ofNat n.toNat, hlen, .inr ⟨b, off, cap, by rw [hlen], ?_, by omega, ?_⟩⟩
     · have := block_lt_of_cell (hcell 0 (by omega))
       simpa using this
     · intro j hj
       rw [hlen] at hj;have hjz : j < zs.length := by omega
       rw [hcell j hjz];have hm : zs[j] ∈ zs := zKe hjz;have hb := hw _ hm;have hb' : 0 ≤ zs[j] ∧ zs[j] ≤ 255 := by simpa [Lit.wf, IntKind.min, IntKind.max, IntKind.signed, IntKind.bits] using hb
       simp [hj, hjz]
       omega
end Go.Proofs.YtidmeodmkcomlaaGreatDoor
