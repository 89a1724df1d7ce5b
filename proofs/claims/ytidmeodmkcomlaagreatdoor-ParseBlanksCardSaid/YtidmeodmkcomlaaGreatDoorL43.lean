/- The chapter's example holds: the walk, -/
import Derived.Test.YtidmeodmkcomlaaGreatDoorL31
import Derived.Test.YtidmeodmkcomlaaGreatDoorL42
import Derived.OneCell
namespace Go.Proofs.YtidmeodmkcomlaaGreatDoor
open Go Go.Proofs Go.RowKit
set_option maxHeartbeats 8000000
theorem exFew : zb1 ⟨exTree, [], []⟩ := by
 refine ⟨fun x hx => ?_, fun x hx => by simp at hx, fun x hx => by simp at hx, by simp, by simp [exTree], by simp⟩;simp only [exTree, zKf, zKn, or_false] at hx;rcases hx with rfl | rfl | rfl | rfl
 all_goals simp [zbb, bs]
 all_goals simp [ByteArray.size]
theorem znp : zbq ⟨exTree, [], []⟩ = true := by kernel_rfl
set_option maxRecDepth 100000 in
theorem zjm (w : World) (hE : Env w) : Calls Tryz.prog 8 #[] w fun e W' => e = .returned (.bool true) ∧ Below w.heap.size w W' := by
 obtain ⟨w0, hw0⟩ : ∃ w0, w.alloc (.cells #[.int .u8 102, .int .u8 32, .int .u8 120, .int .u8 46, .int .u8 97] 5 (5, 6)) = w0 := ⟨_, rfl⟩;have hb0 : Below w.heap.size w w0 := by rw [← hw0]; exact (zJx _ w).alloc (zJw _) _
 have hs0 : w0.heap.size = w.heap.size + 1 := by rw [← hw0]; simp
 have hT : TextAt w0.heap.size w0 (.slice (some ⟨w.heap.size, 0, none⟩) 5 5) exL := by
  rw [← hw0];exact zr5 _ w _ (5, 6) exL rfl (by simp)
 have cL := zvp exL (by decide) (some ⟨w.heap.size, 0, none⟩) 5 5 w0 rfl (hE.on hb0) hT;rw [zI4] at cL;have kc := fun (w : World) (C : Array Value) (n c : Nat) => Lib.run_convert_bytes_const (P := Tryz.prog) w 33 5 C n c Tryz.underlying33 Tryz.underlying5;clear hT;go_enter Tryz.func8, Tryz.ntmps8
 go_wp2_with fail
 refine cL.mono ?_;rintro e w1 ⟨p, rfl, hTA, hb1⟩;go_wp2_with fail
 obtain ⟨W2, hW2⟩ : ∃ W2, w1.alloc (.cells #[.slice p.a1 exTree.length p.c1, .slice p.a2 0 p.c2, .slice p.a3 0 p.c3] 27) = W2 := ⟨_, rfl⟩;obtain ⟨W3, hW3⟩ : ∃ W3, W2.alloc (.cells #[.int .i64 0, .int .i64 0, .string ⟨#[]⟩] 30) = W3 := ⟨_, rfl⟩;rw [hW2, hW3];have hb2 : Below w1.heap.size w1 W2 := by rw [← hW2]; exact (zJx _ _).alloc (zJw _) _
 have hb3 : Below W2.heap.size W2 W3 := by rw [← hW3]; exact (zJx _ _).alloc (zJw _) _
 have hX2 : Blk W2 w1.heap.size 27 #[.slice p.a1 exTree.length p.c1, .slice p.a2 0 p.c2, .slice p.a3 0 p.c3] := by rw [← hW2]; exact Blk.new w1 27 _
 have hX3 := hX2.below hb3 hX2.lt;have hb13 : Below w1.heap.size w1 W3 := hb2.trans (hb3.mono hb2.size);have hTA3 : TreeAt (Lt W3.heap.size) W3 ⟨exTree, [], []⟩ p := (hTA.keep (fun b o hb => hb13.cell (p := ⟨b, o, none⟩) hb.2)).imp (fun b hb => zJy hb.2 hb13.size)
 have cR := zhc ⟨exTree, [], []⟩ p W3 hTA3 exFew (fun x hx => by
  simp only [exTree, zKf, zKn, or_false] at hx;rcases hx with rfl | rfl | rfl | rfl
  all_goals decide)
 rw [znp] at cR;obtain ⟨b, off, hpa, hbb, hcell⟩ := hTA3.1 (by decide);obtain ⟨q, _, hq⟩ := hcell 3 _ rfl;have f0 := hq 0 _ rfl;have f1 := hq 1 _ rfl;have hbw : Below w.heap.size w W3 := hb0.trans ((hb1.trans (hb13.mono hb1.size)).mono hb0.size);have HBW := zJv hbw;have hexl : exTree.length = 4 := rfl;clear hTA hTA3 hcell hq hb0 hb1 hb2 hb3 hb13 hbw cL kc hX2;refine cR.mono ?_;rintro e w4 ⟨rfl, hb4⟩;have hX4 := hX3.below hb4 hX3.lt;have x0 := hX4.cell 0;simp only [gA, gB] at x0;have g0 := (hb4.cell (p := ⟨b, off + 3 * 8 + 0, none⟩) hbb).trans f0;have g1 := (hb4.cell (p := ⟨b, off + 3 * 8 + 1, none⟩) hbb).trans f1;rw [hpa, hexl] at x0;have HB4 := zJv hb4;clear hb4 cR f0 f1 hX3 hX4 hW2 hW3;go_wp2_with fail
 go_ret;exact ⟨rfl, HBW.out.trans (HB4.out.mono HBW.out.size)⟩
theorem zj6 {α : Type} (f : α → List Value) (s : Nat) (hf : ∀ a, (f a).length = s) : ∀ (l : List α) (i j : Nat) (a b : α) (v : Value), l[i]? = some a → j < s → f b = (f a).set j v → (l.flatMap f).set (i * s + j) v = (l.set i b).flatMap f
 | [], i, j, a, b, v, h, _, _ => by simp at h
 | c :: l, 0, j, a, b, v, h, hj, hb => by
  simp only [gB, zKt] at h;subst h;rw [tah, sB, tah, Nat.zero_mul, tai, List.set_append_left _ _ (by rw [hf]; exact hj), hb]
 | c :: l, i + 1, j, a, b, v, h, hj, hb => by
  simp only [gC] at h;have hle : s ≤ (i + 1) * s + j := by rw [Nat.add_mul]; omega
  have he : (i + 1) * s + j - s = i * s + j := by rw [Nat.add_mul]; omega
  rw [tah, sC, tah, List.set_append_right _ _ (by rw [hf]; exact hle), hf, he, zj6 f s hf l i j a b v h hj hb]
theorem zjw {w : World} {lo e s n c : Nat} {A : Option Addr} {xs : List Value} (h : w.ownsRow lo e s (.slice A n c) n xs) (h0 : 0 < n) : ∃ g, A = some ⟨g, 0, none⟩ ∧ lo ≤ g ∧ g < w.heap.size := by
 rcases h.2 with ⟨_, e⟩ | ⟨g, cap, cur, e, hb, hg, _⟩
 · omega
 · injection e with e
   exact ⟨g, e, hb, (Array.getElem?_eq_some_iff.1 hg).1⟩
theorem zEk {α β : Type} {f : α → β} {r : List α} {l : List β} {k : Nat} {x : β} (h : r.map f = l) (hx : l[k]? = some x) : ∃ y, r[k]? = some y ∧ f y = x := by
 rw [← h, tac, zKg] at hx;exact hx
theorem OwnTr.incN {lo : Nat} {w : World} {t : TreeD} {p : Ptr6} (h : OwnTr lo w t p) {k : Nat} {x : TermD} (hx : t.nodes[k]? = some x) :
 ∃ g, p.a1 = some ⟨g, 0, none⟩ ∧ lo ≤ g ∧ g < w.heap.size ∧ w.cell? ⟨g, k * 8 + 1, none⟩ = some (.int .i64 x.pos) ∧ w.frozen? ⟨g, k * 8 + 1, none⟩ = false ∧ OwnTr lo (w.setCell ⟨g, k * 8 + 1, none⟩ (.int .i64 (x.pos + 1))) ⟨t.nodes.set k (shT 1 x), t.types, t.aliases⟩ p := by
 obtain ⟨r1, r2, h⟩ := h;have hk : k < t.nodes.length := (List.getElem?_eq_some_iff.1 hx).1;have l1 : r1.length = t.nodes.length := by rw [← h.e1, zKd]
 obtain ⟨g, hA, hb, hg⟩ := zjw h.o1 (by omega);obtain ⟨y, hy, rfl⟩ := zEk h.e1 hx;have o1 := h.o1;rw [hA] at o1;have hle : (k + 1) * 8 ≤ t.nodes.length * 8 := Nat.mul_le_mul_right 8 hk;have hc := o1.cellAt (k * 8 + 1) (by omega);rw [zlj (fun x : TermD × Ptr3 => za1 x.1 x.2) 8 (fun a => rfl) r1 k y 1 hy (by decide)] at hc;have hs := o1.stored (k * 8 + 1) (.int .i64 (y.1.pos + 1));have hfs := zj6 (fun x : TermD × Ptr3 => za1 x.1 x.2) 8 (fun a => rfl) r1 k 1 y (shT 1 y.1, y.2) (.int .i64 (y.1.pos + 1)) hy (by decide) rfl;rw [show (zf2 r1).set (k * 8 + 1) (.int .i64 (y.1.pos + 1)) = zf2 (r1.set k (shT 1 y.1, y.2)) from hfs] at hs;have n2 := zcp h.o1 h.o2 (by decide) g (by rw [hA]; rfl);have n3 := zcp h.o1 h.o3 (by decide) g (by rw [hA]; rfl);refine ⟨g, hA, hb, hg, hc.trans rfl, o1.frozenAt _, r1.set k (shT 1 y.1, y.2), r2, ?_, h.e2, ?_, ownsRow_setCell_other h.o2 n2 _, ownsRow_setCell_other h.o3 n3 _, fun z hz => ?_, fun z hz => ?_⟩
 · rw [List.map_set, h.e1]
 · show World.ownsRow _ _ _ _ (.slice p.a1 (t.nodes.set k (shT 1 y.1)).length p.c1) (t.nodes.set k (shT 1 y.1)).length _
   rw [tan, hA];exact hs.1
 · have kp : ∀ {x : TermD} {q : Ptr3}, TermOk (Part3 w lo (.slice p.a1 t.nodes.length p.c1) (.slice p.a2 t.types.length p.c2) (.slice p.a3 t.aliases.length p.c3)) w x q → TermOk (Part3 (w.setCell ⟨g, k * 8 + 1, none⟩ (.int .i64 (y.1.pos + 1))) lo (.slice p.a1 (t.nodes.set k (shT 1 y.1)).length p.c1) (.slice p.a2 t.types.length p.c2) (.slice p.a3 t.aliases.length p.c3)) (w.setCell ⟨g, k * 8 + 1, none⟩ (.int .i64 (y.1.pos + 1))) x q := fun hq =>
    (hq.keep (fun b o kb => zK0 _ _ _ _ (by intro e; injection e with e; exact kb.2.2.1 (by rw [hA, ← e]; rfl)))).imp (fun b kb => ⟨kb.1, by rw [tay]; exact kb.2.1, by have := kb.2.2; simpa only [tan] using this⟩)
   rcases List.mem_or_eq_of_mem_set hz with hz | rfl
   · exact kp (h.k1 z hz)
   · exact kp (h.k1 y (List.mem_of_getElem? hy))
 · exact ((h.k2 z hz).keep (fun b o kb => zK0 _ _ _ _ (by intro e; injection e with e; exact kb.2.2.1 (by rw [hA, ← e]; rfl)))).imp (fun b kb => ⟨kb.1, by rw [tay]; exact kb.2.1, by have := kb.2.2; simpa only [tan] using this⟩)
theorem OwnTr.incY {lo : Nat} {w : World} {t : TreeD} {p : Ptr6} (h : OwnTr lo w t p) {k : Nat} {x : TypD} (hx : t.types[k]? = some x) :
 ∃ g, p.a2 = some ⟨g, 0, none⟩ ∧ lo ≤ g ∧ g < w.heap.size ∧ w.cell? ⟨g, k * 6 + 1, none⟩ = some (.int .i64 x.pos) ∧ w.frozen? ⟨g, k * 6 + 1, none⟩ = false ∧ OwnTr lo (w.setCell ⟨g, k * 6 + 1, none⟩ (.int .i64 (x.pos + 1))) ⟨t.nodes, t.types.set k (shY 1 x), t.aliases⟩ p := by
 obtain ⟨r1, r2, h⟩ := h;have hk : k < t.types.length := (List.getElem?_eq_some_iff.1 hx).1;have l2 : r2.length = t.types.length := by rw [← h.e2, zKd]
 obtain ⟨g, hA, hb, hg⟩ := zjw h.o2 (by omega);obtain ⟨y, hy, rfl⟩ := zEk h.e2 hx;have o2 := h.o2;rw [hA] at o2;have hle : (k + 1) * 6 ≤ t.types.length * 6 := Nat.mul_le_mul_right 6 hk;have hc := o2.cellAt (k * 6 + 1) (by omega);rw [zlj (fun x : TypD × Ptr2 => za4 x.1 x.2) 6 (fun a => rfl) r2 k y 1 hy (by decide)] at hc;have hs := o2.stored (k * 6 + 1) (.int .i64 (y.1.pos + 1));have hfs := zj6 (fun x : TypD × Ptr2 => za4 x.1 x.2) 6 (fun a => rfl) r2 k 1 y (shY 1 y.1, y.2) (.int .i64 (y.1.pos + 1)) hy (by decide) rfl;rw [show (zar r2).set (k * 6 + 1) (.int .i64 (y.1.pos + 1)) = zar (r2.set k (shY 1 y.1, y.2)) from hfs] at hs;have n1 := zcp h.o2 h.o1 (by decide) g (by rw [hA]; rfl);have n3 := zcp h.o2 h.o3 (by decide) g (by rw [hA]; rfl);refine ⟨g, hA, hb, hg, hc.trans rfl, o2.frozenAt _, r1, r2.set k (shY 1 y.1, y.2), h.e1, ?_, ownsRow_setCell_other h.o1 n1 _, ?_, ownsRow_setCell_other h.o3 n3 _, fun z hz => ?_, fun z hz => ?_⟩
 · rw [List.map_set, h.e2]
 · show World.ownsRow _ _ _ _ (.slice p.a2 (t.types.set k (shY 1 y.1)).length p.c2) (t.types.set k (shY 1 y.1)).length _
   rw [tan, hA];exact hs.1
 · exact ((h.k1 z hz).keep (fun b o kb => zK0 _ _ _ _ (by intro e; injection e with e; exact kb.2.2.2.1 (by rw [hA, ← e]; rfl)))).imp (fun b kb => ⟨kb.1, by rw [tay]; exact kb.2.1, by have := kb.2.2; simpa only [tan] using this⟩)
 · have kp : ∀ {x : TypD} {q : Ptr2}, TypOk (Part3 w lo (.slice p.a1 t.nodes.length p.c1) (.slice p.a2 t.types.length p.c2) (.slice p.a3 t.aliases.length p.c3)) w x q → TypOk (Part3 (w.setCell ⟨g, k * 6 + 1, none⟩ (.int .i64 (y.1.pos + 1))) lo (.slice p.a1 t.nodes.length p.c1) (.slice p.a2 (t.types.set k (shY 1 y.1)).length p.c2) (.slice p.a3 t.aliases.length p.c3)) (w.setCell ⟨g, k * 6 + 1, none⟩ (.int .i64 (y.1.pos + 1))) x q := fun hq =>
    (hq.keep (fun b o kb => zK0 _ _ _ _ (by intro e; injection e with e; exact kb.2.2.2.1 (by rw [hA, ← e]; rfl)))).imp (fun b kb => ⟨kb.1, by rw [tay]; exact kb.2.1, by have := kb.2.2; simpa only [tan] using this⟩)
   rcases List.mem_or_eq_of_mem_set hz with hz | rfl
   · exact kp (h.k2 z hz)
   · exact kp (h.k2 y (List.mem_of_getElem? hy))
theorem OwnTr.incA {lo : Nat} {w : World} {t : TreeD} {p : Ptr6} (h : OwnTr lo w t p) {k : Nat} {x : AliD} (hx : t.aliases[k]? = some x) :
 ∃ g, p.a3 = some ⟨g, 0, none⟩ ∧ lo ≤ g ∧ g < w.heap.size ∧ w.cell? ⟨g, k * 3 + 2, none⟩ = some (.int .i64 x.pos) ∧ w.frozen? ⟨g, k * 3 + 2, none⟩ = false ∧ OwnTr lo (w.setCell ⟨g, k * 3 + 2, none⟩ (.int .i64 (x.pos + 1))) ⟨t.nodes, t.types, t.aliases.set k (shA 1 x)⟩ p := by
 obtain ⟨r1, r2, h⟩ := h;have hk : k < t.aliases.length := (List.getElem?_eq_some_iff.1 hx).1;obtain ⟨g, hA, hb, hg⟩ := zjw h.o3 (by omega);have o3 := h.o3;rw [hA] at o3;have hle : (k + 1) * 3 ≤ t.aliases.length * 3 := Nat.mul_le_mul_right 3 hk;have hc := o3.cellAt (k * 3 + 2) (by omega);rw [zlj zco 3 (fun a => rfl) t.aliases k x 2 hx (by decide)] at hc;have hs := o3.stored (k * 3 + 2) (.int .i64 (x.pos + 1));have hfs := zj6 zco 3 (fun a => rfl) t.aliases k 2 x (shA 1 x) (.int .i64 (x.pos + 1)) hx (by decide) rfl;rw [show (zd2 t.aliases).set (k * 3 + 2) (.int .i64 (x.pos + 1)) = zd2 (t.aliases.set k (shA 1 x)) from hfs] at hs;have n1 := zcp h.o3 h.o1 (by decide) g (by rw [hA]; rfl);have n2 := zcp h.o3 h.o2 (by decide) g (by rw [hA]; rfl);refine ⟨g, hA, hb, hg, hc.trans rfl, o3.frozenAt _, r1, r2, h.e1, h.e2, ownsRow_setCell_other h.o1 n1 _, ownsRow_setCell_other h.o2 n2 _, ?_, fun z hz => ?_, fun z hz => ?_⟩
 · show World.ownsRow _ _ _ _ (.slice p.a3 (t.aliases.set k (shA 1 x)).length p.c3) (t.aliases.set k (shA 1 x)).length _
   rw [tan, hA];exact hs.1
 · exact ((h.k1 z hz).keep (fun b o kb => zK0 _ _ _ _ (by intro e; injection e with e; exact kb.2.2.2.2 (by rw [hA, ← e]; rfl)))).imp (fun b kb => ⟨kb.1, by rw [tay]; exact kb.2.1, by have := kb.2.2; simpa only [tan] using this⟩)
 · exact ((h.k2 z hz).keep (fun b o kb => zK0 _ _ _ _ (by intro e; injection e with e; exact kb.2.2.2.2 (by rw [hA, ← e]; rfl)))).imp (fun b kb => ⟨kb.1, by rw [tay]; exact kb.2.1, by have := kb.2.2; simpa only [tan] using this⟩)
def incs {α : Type} (f : α → α) (k : Nat) (l : List α) : List α := (l.take k).map f ++ l.drop k
theorem zLg {α : Type} (f : α → α) (l : List α) : incs f 0 l = l := by simp [incs]
theorem zLj {α : Type} (f : α → α) (l : List α) : incs f l.length l = l.map f := by simp [incs]
theorem zLk {α : Type} (f : α → α) {k : Nat} {l : List α} {x : α} (h : l[k]? = some x) : (incs f k l)[k]? = some x := by
 have hk : k < l.length := (List.getElem?_eq_some_iff.1 h).1;have hm : ((l.take k).map f).length = k := by rw [zKd, zKi]; omega
 unfold incs;rw [zKl (by omega), hm, Nat.sub_self, List.getElem?_drop];simpa using h
theorem zLf {α : Type} (f : α → α) {k : Nat} {l : List α} {x : α} (h : l[k]? = some x) : (incs f k l).set k (f x) = incs f (k + 1) l := by
 have hk : k < l.length := (List.getElem?_eq_some_iff.1 h).1;have hm : ((l.take k).map f).length = k := by rw [zKd, zKi]; omega
 have hx : l[k] = x := by rw [zK1 hk] at h; injection h
 unfold incs;rw [List.set_append_right _ _ (by omega), hm, Nat.sub_self, List.drop_eq_getElem_cons hk, sB, zK9 hk, taz, hx];simp
abbrev InB (B x : Int) : Prop := 0 ≤ x ∧ x ≤ B
def PbS (B : Int) (s : St) : Prop := (∀ x ∈ s.t1, InB B x.pos) ∧ (∀ x ∈ s.t2, InB B x.pos) ∧ ∀ x ∈ s.t3, InB B x.pos
def Pb {α : Type} (B : Int) (v : α → Prop) (s : St) : R3 α → Prop
 | .ok i s' => v i ∧ (PbS B s → PbS B s')
 | .bad e q => InB B (q : Int) ∧ e ≠ 0
 | .un => True
abbrev HK (ts : List Tk) (B : Int) : Prop := ∀ k, InB B ((tkA ts k).2.2 : Int)
abbrev Tru {α : Type} : α → Prop := fun _ => True
section
variable {α β : Type} {ts : List Tk} {B : Int}
theorem Pb.bind {v : α → Prop} {u : β → Prop} {s : St} {P : R3 α} {f : α → St → R3 β} (h : Pb B v s P) (k : ∀ i s1, v i → Pb B u s1 (f i s1)) : Pb B u s (P.bind f) := by
 cases P with
 | ok i s1 =>
  have := k i s1 h.1;show Pb B u s (f i s1)
  cases hf : f i s1 with
  | ok j s2 =>
   rw [hf] at this;exact ⟨this.1, fun q => this.2 (h.2 q)⟩
  | bad e p => rw [hf] at this; exact this
  | un => trivial
 | bad e p => exact h
 | un => trivial
theorem Pb.moved {v : α → Prop} {s s1 : St} {P : R3 α} (h : Pb B v s1 P) (h1 : s1.t1 = s.t1) (h2 : s1.t2 = s.t2) (h3 : s1.t3 = s.t3) : Pb B v s P := by
 cases P with
 | ok i s2 => exact ⟨h.1, fun q => h.2 (by unfold PbS at *; rw [h1, h2, h3]; exact q)⟩
 | bad e p => exact h
 | un => trivial
theorem Pb.on {v : α → Prop} {n : Nat} {s : St} {P : R3 α} (h : Pb B v (s.on n) P) : Pb B v s P := h.moved rfl rfl rfl
theorem pb_on {s : St} {n : Nat} {i : α} : Pb B Tru s (.ok i (s.on n)) := ⟨trivial, fun q => q⟩
theorem pb_ok {s : St} {i : α} : Pb B Tru s (.ok i s) := ⟨trivial, fun q => q⟩
theorem zeu (hk : HK ts B) {kind : Nat} {s : St} : Pb B (fun t : Tk => InB B (t.2.2 : Int)) s (zag ts kind s) := by
 unfold zag;split
 · exact ⟨hk _, fun q => q⟩
 · exact ⟨hk _, by decide⟩
theorem zce (hk : HK ts B) {x : List UInt8} {s : St} : Pb B Tru s (mustM ts x s) := by
 unfold mustM;split
 · exact pb_on
 · exact ⟨hk _, by decide⟩
theorem zqs (hk : HK ts B) {o kind : Nat} {s : St} : Pb B Tru s (ownM ts o kind s) := by
 refine Pb.bind (zeu hk) (fun t s1 ht => ?_);split
 · exact ⟨ht, by decide⟩
 · exact ⟨trivial, fun q => q⟩
theorem zd4 (hk : HK ts B) {x : TermD} {s : St} (hx : InB B x.pos) : Pb B Tru s (newT s x) := by
 unfold newT;split
 · refine ⟨trivial, fun q => ⟨fun y hy => ?_, q.2.1, q.2.2⟩⟩
   rcases List.mem_append.1 hy with hy | hy
   · exact q.1 y hy
   · simp only [zK7] at hy; subst hy; exact hx
 · exact ⟨⟨Int.le_refl _, Int.le_trans (hk 0).1 (hk 0).2⟩, by decide⟩
theorem zk4 (hk : HK ts B) {x : TypD} {s : St} (hx : InB B x.pos) : Pb B Tru s (newY s x) := by
 unfold newY;split
 · refine ⟨trivial, fun q => ⟨q.1, fun y hy => ?_, q.2.2⟩⟩
   rcases List.mem_append.1 hy with hy | hy
   · exact q.2.1 y hy
   · simp only [zK7] at hy; subst hy; exact hx
 · exact ⟨⟨Int.le_refl _, Int.le_trans (hk 0).1 (hk 0).2⟩, by decide⟩
theorem zHg {t : Tk} {x : TermD} (h : leafM t = some x) (ht : InB B (t.2.2 : Int)) : InB B x.pos := by
 unfold leafM at h;repeat' split at h
 all_goals first | (injection h with h; subst h; exact ht) | cases h
theorem zE0 {t : Tk} {x : TypD} (h : zc0 t = some x) (ht : InB B (t.2.2 : Int)) : InB B x.pos := by
 unfold zc0 at h;repeat' split at h
 all_goals first | (injection h with h; subst h; exact ht) | cases h
def PbT (B : Int) (P : St → R3 Nat) : Prop := ∀ s, Pb B Tru s (P s)
variable {P E T : St → R3 Nat}
theorem zv7 (hk : HK ts B) (hP : PbT B P) (o : Nat) (sign : List UInt8) : ∀ (f : Nat) (ns : List (List UInt8)) (ks : List Int) (s : St), Pb B Tru s (zbc ts P o sign f ns ks s) := by
 intro f
 induction f with
 | zero => intro ns ks s; trivial
 | succ f ih =>
  intro ns ks s;unfold zbc;refine (zqs hk).bind (fun x s1 _ => (zce hk).bind (fun _ s2 _ => (hP s2).bind (fun i s3 _ => ?_)));split
  · exact pb_on
  · exact (zce hk).bind (fun _ s4 _ => ih _ _ s4)
theorem zok (hk : HK ts B) (hP : PbT B P) (o : Nat) (sign : List UInt8) (s : St) : Pb B Tru s (zan ts P o sign s) := by
 unfold zan;split
 · exact pb_on
 · exact zv7 hk hP o sign _ _ _ s
theorem zmn (hk : HK ts B) (hT : PbT B T) : PbT B (zay ts T) := by
 intro s;unfold zay;split
 · exact Pb.on ((hT (s.on 1)).bind (fun i s1 _ => (zce hk).bind (fun _ s2 _ => pb_ok)))
 split
 · exact Pb.on ((zok hk hT _ _ (s.on 1)).bind (fun x s1 _ => zk4 hk (hk _)))
 split
 · rename_i x hx
   exact Pb.on (zk4 hk (zE0 hx (hk _)))
 · exact ⟨hk _, by decide⟩
theorem zHc (hk : HK ts B) (x : Vr) (s : St) (hx : InB B (x.1 : Int)) : Pb B (fun y : Vr × Option Bool => InB B (y.1.1 : Int)) s (itemM ts x s) := by
 unfold itemM;split
 · exact ⟨hx, fun q => q⟩
 refine Pb.bind (v := Tru) ?_ (fun _ s1 _ => ?_)
 · split
   · exact pb_ok
   · exact zce hk
 split
 · exact Pb.on ((zce hk).bind (fun _ s2 _ => ⟨hx, fun q => q⟩))
 · exact (zqs hk).bind (fun n s2 _ => ⟨hx, fun q => q⟩)
theorem zsq (hk : HK ts B) (hT : PbT B T) : ∀ (f : Nat) (x : Vr) (r : List Vr) (s : St), InB B (x.1 : Int) → (∀ z ∈ r, InB B (z.1 : Int)) → Pb B Tru s (zaq ts T f x r s) := by
 intro f
 induction f with
 | zero => intro x r s _ _; trivial
 | succ f ih =>
  intro x r s hx hr;unfold zaq;refine (zHc hk x s hx).bind (fun y s1 hy => ?_);split
  · refine (zk4 hk hy).bind (fun i s2 _ => ?_)
    cases r with
    | nil => exact pb_ok
    | cons z r' => exact ih _ _ s2 (hr z (by simp)) (fun q hq => hr q (by simp [hq]))
  · split
    · refine Pb.on (ih _ _ (s1.on 1) (hk _) (fun q hq => ?_))
      rcases List.mem_cons.1 hq with rfl | hq
      · exact hy
      · exact hr q hq
    · exact (zmn hk hT s1).bind (fun i s2 _ => ih _ _ s2 hy hr)
theorem zzv (hk : HK ts B) (hT : PbT B T) : PbT B (zak ts T) := by
 intro s;unfold zak;split
 · unfold zbp
   exact Pb.on (zsq hk hT _ _ _ (s.on 1) (hk _) (fun q hq => (by cases hq)))
 · exact zmn hk hT s
theorem zu0 (hk : HK ts B) : ∀ f, PbT B (typeM ts f) := by
 intro f
 induction f with
 | zero => intro s; trivial
 | succ f ih =>
  intro s;unfold typeM;split
  · exact ⟨hk _, by decide⟩
  refine Pb.moved (s1 := s.up) ((zzv hk ih s.up).bind (fun i s1 _ => ?_)) rfl rfl rfl;split
  · exact Pb.on ((ih (s1.on 1)).bind (fun j s2 _ => (zk4 hk (hk _)).bind (fun l s3 _ => ⟨trivial, fun q => q⟩)))
  · exact ⟨trivial, fun q => q⟩
theorem zwh (hk : HK ts B) (hE : PbT B E) (hY : PbT B T) (s : St) : Pb B Tru s (zas ts E T s) := by
 unfold zas;refine Pb.on ((hE (s.on 1)).bind (fun i s1 _ => ?_));split
 · exact pb_on
 refine (zce hk).bind (fun _ s2 _ => (hY s2).bind (fun j s3 _ => ?_));split
 · exact Pb.on ((hY (s3.on 1)).bind (fun l s4 _ => (zce hk).bind (fun _ s5 _ => zd4 hk (hk _))))
 · exact (zce hk).bind (fun _ s5 _ => zd4 hk (hk _))
theorem zFi (hk : HK ts B) (hE : PbT B E) (hY : PbT B T) : PbT B (atomM ts E T) := by
 intro s;unfold atomM;split
 · exact zwh hk hE hY s
 split
 · unfold zbu
   exact Pb.on ((zok hk hE _ _ (s.on 1)).bind (fun x s1 _ => zd4 hk (hk _)))
 split
 · rename_i x hx
   exact Pb.on (zd4 hk (zHg hx (hk _)))
 · exact ⟨hk _, by decide⟩
theorem zCc (hk : HK ts B) : ∀ (f left : Nat) (s : St), Pb B Tru s (postL ts f left s) := by
 intro f
 induction f with
 | zero => intro left s; trivial
 | succ f ih =>
  intro left s;unfold postL;split
  · exact Pb.on ((zeu hk).bind (fun t s1 _ => (zd4 hk (hk _)).bind (fun i s2 _ => ih i s2)))
  · exact pb_ok
theorem zti (hk : HK ts B) (hE : PbT B E) (hY : PbT B T) : PbT B (postM ts E T) := fun s => (zFi hk hE hY s).bind (fun i s1 _ => zCc hk _ i s1)
theorem zuv (hk : HK ts B) (hE : PbT B E) (hY : PbT B T) : PbT B (unitM ts E T) := by
 intro s;unfold unitM;split
 · exact Pb.on ((zti hk hE hY (s.on 1)).bind (fun i s1 _ => zd4 hk (hk _)))
 · exact zti hk hE hY s
theorem zyi (hk : HK ts B) (hE : PbT B E) (hY : PbT B T) : ∀ (f left : Nat) (s : St), Pb B Tru s (zat ts E T f left s) := by
 intro f
 induction f with
 | zero => intro left s; trivial
 | succ f ih =>
  intro left s;unfold zat;split
  · exact (zuv hk hE hY s).bind (fun i s1 _ => (zd4 hk (hk _)).bind (fun j s2 _ => ih j s2))
  · exact pb_ok
theorem zD2 (hk : HK ts B) (hE : PbT B E) (hY : PbT B T) : PbT B (zb0 ts E T) := fun s => (zuv hk hE hY s).bind (fun i s1 _ => zyi hk hE hY _ i s1)
theorem pb_op (hk : HK ts B) (hP : PbT B P) (left : Nat) (s : St) : Pb B Tru s (opM ts P left s) := Pb.on ((hP (s.on 1)).bind (fun _ _ _ => zd4 hk (hk _)))
theorem zGw (hk : HK ts B) (hP : PbT B P) (sg : List (List UInt8)) : ∀ (f left : Nat) (s : St), Pb B Tru s (rowL ts P sg f left s) := by
 intro f
 induction f with
 | zero => intro left s; trivial
 | succ f ih =>
  intro left s;unfold rowL;split
  · exact (pb_op hk hP left s).bind (fun i s1 _ => ih i s1)
  · exact pb_ok
theorem zrn (hk : HK ts B) (hP : PbT B P) (sg : List (List UInt8)) : PbT B (rowM ts P sg) := fun s => (hP s).bind (fun i s1 _ => zGw hk hP sg _ i s1)
theorem zum (hk : HK ts B) (hE : PbT B E) (hY : PbT B T) : PbT B (joinM ts E T) := zrn hk (zrn hk (zrn hk (zD2 hk hE hY) _) _) _
theorem zvw (hk : HK ts B) (hE : PbT B E) (hY : PbT B T) : PbT B (zad ts E T) := by
 intro s;refine (zum hk hE hY s).bind (fun i s1 _ => ?_);split
 · exact pb_op hk (zum hk hE hY) i s1
 · exact pb_ok
theorem zzt (hk : HK ts B) (hE : PbT B E) (o : Nat) : ∀ (f : Nat) (ns : List (List UInt8)) (ks : List Int) (s : St), Pb B Tru s (zbz ts E o f ns ks s) := by
 intro f
 induction f with
 | zero => intro ns ks s; trivial
 | succ f ih =>
  intro ns ks s;unfold zbz;split
  · split
    · exact Pb.on ((zce hk).bind (fun _ s1 _ => (hE s1).bind (fun i s2 _ => pb_ok)))
    · exact Pb.on ((zqs hk).bind (fun x s1 _ => (zeu hk).bind (fun t s2 _ => (zce hk).bind (fun _ s3 _ => (hE s3).bind (fun i s4 _ => ih _ _ s4)))))
  · exact pb_ok
theorem zCl (hk : HK ts B) (hE : PbT B E) (hY : PbT B T) : PbT B (zba ts E T) := by
 intro s;unfold zba;split
 · unfold funM
   exact Pb.on ((zeu hk).bind (fun t s1 _ => (zce hk).bind (fun _ s2 _ => (hE s2).bind (fun i s3 _ => zd4 hk (hk _)))))
 split
 · unfold letM
   dsimp only;split
   · exact Pb.on ((zeu hk).bind (fun t s1 _ => (zce hk).bind (fun _ s2 _ => (hE s2).bind (fun i s3 _ => (zce hk).bind (fun _ s4 _ => (hE s4).bind (fun j s5 _ => zd4 hk (hk _)))))))
   · exact Pb.on ((zeu hk).bind (fun t s1 _ => (zce hk).bind (fun _ s2 _ => (hE s2).bind (fun i s3 _ => (zce hk).bind (fun _ s4 _ => (hE s4).bind (fun j s5 _ => zd4 hk (hk _)))))))
 split
 · unfold zby
   exact Pb.on ((hE (s.on 1)).bind (fun i s1 _ => (zce hk).bind (fun _ s2 _ => (hE s2).bind (fun j s3 _ => (zce hk).bind (fun _ s4 _ => (hE s4).bind (fun l s5 _ => zd4 hk (hk _)))))))
 split
 · unfold zci
   exact Pb.on ((hE (s.on 1)).bind (fun i s1 _ => (zce hk).bind (fun _ s2 _ => (zzt hk hE _ _ _ _ s2).bind (fun x s3 _ => (zce hk).bind (fun _ s4 _ => zd4 hk (hk _))))))
 exact zvw hk hE hY s
theorem zFr (hk : HK ts B) : ∀ f, PbT B (termM ts f) := by
 intro f
 induction f with
 | zero => intro s; trivial
 | succ f ih =>
  intro s;unfold termM;split
  · exact ⟨hk _, by decide⟩
  refine Pb.moved (s1 := s.up) ((zCl hk ih (zu0 hk f) s.up).bind (fun i s1 _ => ?_)) rfl rfl rfl;exact ⟨trivial, fun q => q⟩
theorem zE7 (hk : HK ts B) (hY : PbT B T) : ∀ (f : Nat) (s : St), Pb B Tru s (zb7 ts T f s) := by
 intro f
 induction f with
 | zero => intro s; trivial
 | succ f ih =>
  intro s;unfold zb7;split
  · refine Pb.on ((zeu hk).bind (fun t s1 ht => (zce hk).bind (fun _ s2 _ => (hY s2).bind (fun i s3 _ => ?_))))
    have h1 : Pb B Tru (s3.addA ⟨bs t.2.1, (i : Int), (t.2.2 : Nat)⟩) ((mustM ts [59] (s3.addA ⟨bs t.2.1, (i : Int), (t.2.2 : Nat)⟩)).bind fun _ s4 => zb7 ts T f s4) := (zce hk).bind (fun _ s4 _ => ih s4);revert h1
    generalize (mustM ts [59] (s3.addA ⟨bs t.2.1, (i : Int), (t.2.2 : Nat)⟩)).bind (fun _ s4 => zb7 ts T f s4) = R;intro h1
    cases R with
    | ok j s5 =>
     refine ⟨trivial, fun q => h1.2 ⟨q.1, q.2.1, fun y hy => ?_⟩⟩;rcases List.mem_append.1 hy with hy | hy
     · exact q.2.2 y hy
     · simp only [zK7] at hy; subst hy; exact ht
    | bad e p => exact h1
    | un => trivial
  · exact pb_ok
theorem zH5 (hk : HK ts B) (f : Nat) (s : St) : Pb B Tru s (textM ts f s) := (zE7 hk (zu0 hk f) _ s).bind (fun _ s1 _ => (zFr hk f s1).bind (fun _ _ _ => pb_ok))
end
theorem zzj : ∀ (n : Nat) (l : List UInt8) (k q : Nat), l.length ≤ n → lexR l k = .error q → q ≤ k + l.length := by
 intro n
 induction n with
 | zero =>
  intro l k q h e;obtain rfl : l = [] := List.length_eq_zero_iff.1 (by omega);rw [zaz [] k (by simp)] at e;cases e
 | succ n ih =>
  intro l k q h e;have hsk := zh8 l.length l (zJw _);by_cases h0 : l.drop (skipN l) = []
  · rw [zaz l k h0] at e; cases e
  · cases ht : tok (l.drop (skipN l)) with
    | none =>
     rw [zcd l k h0 ht] at e;injection e with e
     omega
    | some x =>
     obtain ⟨t, m⟩ := x;rw [zbw l k t m ht] at e;have hle := zg2 ht;rw [zKa] at hle
     cases hr : lexR (l.drop (skipN l + m)) (k + skipN l + m) with
     | ok us => rw [hr] at e; cases e
     | error q' =>
      rw [hr] at e;injection e with e
      subst e;have := ih _ _ _ (by rw [zKa]; omega) hr;rw [zKa] at this;omega
theorem zz4 {l : List UInt8} {c q : Nat} (h : lexA l = .error (c, q)) : q ≤ l.length := by
 unfold lexA at h;split at h
 · injection h with h; injection h with _ h; omega
 split at h
 · injection h with h; injection h with _ h; omega
 split at h
 · cases h
 · rename_i p hp
   injection h with h
   injection h with _ h
   subst h;have := zzj _ l 0 _ (zJw _) hp;omega
theorem zpi {l : List UInt8} {ts : List Tk} (hA : lexA l = .ok ts) : ∀ k, InB (l.length : Int) ((tkA ts k).2.2 : Int) := by
 obtain ⟨init, rfl, h1, h2, h3⟩ := zgj _ l 0 ts (zJw _) (zfn hA).1;intro k;refine ⟨Int.natCast_nonneg _, ?_⟩;rcases Nat.lt_trichotomy k init.length with q | q | q
 · have := (h1 _ (zh2 (z := (0, [], 0 + l.length)) q)).2.2.2; omega
 · subst q; rw [zfq]; show ((0 + l.length : Nat) : Int) ≤ _; omega
 · rw [zio (by simp; omega)]; exact Int.natCast_nonneg _
theorem zLb {l : List UInt8} {c q : Nat} (hl : l.length ≤ 16000) (h : textR l = .error (c, q)) : q ≤ l.length ∧ c ≠ 0 := by
 unfold textR readM at h
 cases hA : lexA l with
 | error e => rw [hA] at h; injection h with h; subst h; exact ⟨zz4 hA, ziu hA⟩
 | ok ts =>
  rw [hA] at h;dsimp only at h;have hk := zpi hA;have hp := zH5 hk 257 St.zero
  cases hM : textM ts 257 St.zero with
  | un =>
   have hg := zgg (q := False) (zc8 hA hl) 257 (.inr (zJw _)) St.zero (zc8 hA hl).pos rfl;rw [hM] at hg;exact hg.elim
  | bad c' q' =>
   rw [hM] at h hp;injection h with h
   injection h with h1 h
   subst h;subst h1;have : (q' : Int) ≤ (l.length : Int) := hp.1.2;exact ⟨by omega, hp.2⟩
  | ok u s' =>
   rw [hM] at h;dsimp only at h;split at h
   · cases h
   · injection h with h
     injection h with _ h
     have := (hk s'.k).2;omega
theorem zJt {l : List UInt8} {t : TreeD} (h : textR l = .ok t) : (∀ x ∈ t.nodes, InB (l.length : Int) x.pos) ∧ (∀ x ∈ t.types, InB (l.length : Int) x.pos) ∧ ∀ x ∈ t.aliases, InB (l.length : Int) x.pos := by
 unfold textR readM at h
 cases hA : lexA l with
 | error e => rw [hA] at h; cases h
 | ok ts =>
  rw [hA] at h;dsimp only at h;have hk := zpi hA;have hp := zH5 hk 257 St.zero
  cases hM : textM ts 257 St.zero with
  | un => rw [hM] at h; cases h
  | bad c q => rw [hM] at h; cases h
  | ok u s' =>
   rw [hM] at h hp;dsimp only at h;split at h
   · injection h with h
     subst h;exact hp.2 ⟨fun x hx => (by cases hx), fun x hx => (by cases hx), fun x hx => (by cases hx)⟩
   · cases h
def smT (x y : TermD) : Bool := decide (x.kind = y.kind ∧ x.name = y.name ∧ x.int = y.int ∧ x.bits = y.bits ∧ x.names = y.names ∧ x.kids.length = y.kids.length)
def smY (x y : TypD) : Bool := decide (x.kind = y.kind ∧ x.name = y.name ∧ x.opn = y.opn ∧ x.names = y.names)
def smA (x y : AliD) : Bool := decide (x.name = y.name)
def atT (a b : TreeD) (i j : Nat) : Bool := match a.nodes[i]?, b.nodes[j]? with | some x, some y => smT x y | _, _ => false
def atY (a b : TreeD) (i j : Nat) : Bool := match a.types[i]?, b.types[j]? with | some x, some y => smY x y | _, _ => false
def zam (t : TreeD) : List Nat := walk (tmK t) (t.nodes.length - 1)
def zd5 (t : TreeD) (i : Nat) : List Int := match t.nodes[i]? with | some x => x.types | none => []
def zdi (t : TreeD) (l : List Nat) : List Int := l.flatMap (zd5 t) ++ t.aliases.map (·.type)
def zcr (t : TreeD) (l : List Nat) : List Nat := (nats (zdi t l)).flatMap (walk (tyK t))
def sameB (a b : TreeD) : Bool :=
 zbq a && (zbq b && (all2 (atT a b) (zam a) (zam b) && (all2 smA a.aliases b.aliases && all2 (atY a b) (zcr a (zam a)) (zcr b (zam b)))))
theorem zrg (x : TermD) : smT x x = true := by simp [smT]
theorem zqx (x : TypD) : smY x x = true := by simp [smY]
theorem zrt (x : AliD) : smA x x = true := by simp [smA]
theorem zn3 {kids : Nat → List Nat} {n i : Nat} (hd : Dn kids n) (hi : i < n) : ∀ j ∈ walk kids i, j < n := fun j hj => by
 have := zek hd (i + 1) i (by omega) hi j hj;omega
theorem zp2 {t : TreeD} (h : Rng t) : ∀ i ∈ zam t, i < t.nodes.length := zn3 h.dnN (by have := h.one; omega)
theorem zmm {t : TreeD} (h : Rng t) (i : Nat) : ∀ k ∈ zd5 t i, 0 ≤ k ∧ k < (t.types.length : Int) := fun k hk => by
 unfold zd5 at hk;split at hk
 · rename_i x hx
   exact (h.nod i x hx).2.1 k hk
 · cases hk
theorem zho {t : TreeD} (h : Rng t) (l : List Nat) : ∀ k ∈ zdi t l, 0 ≤ k ∧ k < (t.types.length : Int) := fun k hk => by
 unfold zdi at hk;rcases List.mem_append.1 hk with hk | hk
 · obtain ⟨i, _, hk⟩ := List.mem_flatMap.1 hk
   exact zmm h i k hk
 · obtain ⟨x, hx, rfl⟩ := List.mem_map.1 hk
   exact ⟨(h.ali x hx).1, (h.ali x hx).2.1⟩
structure Inv (n : Nat) (s : St) (p q : List Nat) : Prop where
 hk : s.k < n
 nod : ∀ (j : Nat) (x : TermD), s.t1[j]? = some x → (∀ k ∈ x.kids, 0 ≤ k ∧ k < (j : Int)) ∧ (∀ k ∈ x.types, 0 ≤ k ∧ k < (s.t2.length : Int)) ∧ termB x = true ∧ zbb x
 typ : ∀ (j : Nat) (x : TypD), s.t2[j]? = some x → (∀ k ∈ x.kids, 0 ≤ k ∧ k < (j : Int)) ∧ typB x = true ∧ zfg x
 ali : ∀ x ∈ s.t3, 0 ≤ x.type ∧ x.type < (s.t2.length : Int) ∧ zbo (tl x.name) = true ∧ x.name.size ≤ 1000
 pN : ∀ a : Nat, (nats (s.t1.flatMap (·.kids))).count a + p.count a = if a < s.t1.length then 1 else 0
 pT : ∀ a : Nat, (nats (s.t1.flatMap (·.types))).count a + (nats (s.t2.flatMap (·.kids))).count a + (nats (s.t3.map (·.type))).count a + q.count a = if a < s.t2.length then 1 else 0
 few : s.t3.length ≤ s.k
 big : s.t1.length ≤ 65536 ∧ s.t2.length ≤ 65536
def Wh {α : Type} (s : St) (post : α → St → Prop) : R3 α → Prop
 | .ok i s' => post i s' ∧ s.k ≤ s'.k ∧ ∀ x ∈ s.m, x ∈ s'.m
 | _ => True
section
variable {n : Nat} {ts : List Tk} {α β : Type} {s : St} {p q : List Nat}
theorem Wh.bind {post1 : α → St → Prop} {post : β → St → Prop} {P : R3 α} {f : α → St → R3 β} (h : Wh s post1 P) (k : ∀ i s1, P = .ok i s1 → post1 i s1 → s.k ≤ s1.k → (∀ x ∈ s.m, x ∈ s1.m) → Wh s1 post (f i s1)) : Wh s post (P.bind f) := by
 cases P with
 | ok i s1 =>
  obtain ⟨h1, h2, h3⟩ := h;have := k i s1 rfl h1 h2 h3;show Wh s post (f i s1)
  cases hf : f i s1 with
  | ok j s2 =>
   rw [hf] at this;obtain ⟨g1, g2, g3⟩ := this;exact ⟨g1, zK4 h2 g2, fun x hx => g3 x (h3 x hx)⟩
  | bad e p => trivial
  | un => trivial
 | bad e p => trivial
 | un => trivial
theorem Wh.imp {post1 post : α → St → Prop} {P : R3 α} (h : Wh s post1 P) (k : ∀ i s1, P = .ok i s1 → post1 i s1 → s.k ≤ s1.k → (∀ x ∈ s.m, x ∈ s1.m) → post i s1) : Wh s post P := by
 cases P with
 | ok i s1 => exact ⟨k i s1 rfl h.1 h.2.1 h.2.2, h.2⟩
 | bad e p => trivial
 | un => trivial
theorem Wh.moved {post : α → St → Prop} {P : R3 α} {s1 : St} (h : Wh s1 post P) (hk : s.k ≤ s1.k) (hm : s1.m = s.m) : Wh s post P := by
 cases P with
 | ok i s2 => exact ⟨h.1, zK4 hk h.2.1, fun x hx => h.2.2 x (by rw [hm]; exact hx)⟩
 | bad e p => trivial
 | un => trivial
theorem Wh.ok_ {post : α → St → Prop} {i : α} (h : post i s) : Wh s post (.ok i s) := ⟨h, zJw _, fun _ h => h⟩
theorem Inv.re {p' q' : List Nat} (h : Inv n s p q) (hp : ∀ a, p'.count a = p.count a) (hq : ∀ a, q'.count a = q.count a) : Inv n s p' q' := ⟨h.hk, h.nod, h.typ, h.ali, fun a => by rw [hp]; exact h.pN a, fun a => by rw [hq]; exact h.pT a, h.few, h.big⟩
theorem Inv.go {s' : St} (h : Inv n s p q) (hk : s'.k < n) (hle : s.k ≤ s'.k) (h1 : s'.t1 = s.t1) (h2 : s'.t2 = s.t2) (h3 : s'.t3 = s.t3) : Inv n s' p q :=
 ⟨hk, by rw [h1, h2]; exact h.nod, by rw [h2]; exact h.typ, by rw [h3, h2]; exact h.ali, by rw [h1]; exact h.pN, by rw [h1, h2, h3]; exact h.pT, by rw [h3]; exact zK4 h.few hle, by rw [h1, h2]; exact h.big⟩
theorem Inv.ltN (h : Inv n s p q) {a : Nat} (ha : a ∈ p) : a < s.t1.length := by
 have h1 := h.pN a;have h2 := List.count_pos_iff.2 ha;by_cases h3 : a < s.t1.length
 · exact h3
 · rw [if_neg h3] at h1; omega
theorem Inv.ltT (h : Inv n s p q) {a : Nat} (ha : a ∈ q) : a < s.t2.length := by
 have h1 := h.pT a;have h2 := List.count_pos_iff.2 ha;by_cases h3 : a < s.t2.length
 · exact h3
 · rw [if_neg h3] at h1; omega
theorem zld {ks : List Int} {k : Int} (h : k ∈ ks) : k.toNat ∈ nats ks := List.mem_map.2 ⟨k, h, rfl⟩
theorem zGc {x : TermD} (h : Inv n s (nats x.kids ++ p) (nats x.types ++ q)) (h0 : ∀ k ∈ x.kids, 0 ≤ k) (h1 : ∀ k ∈ x.types, 0 ≤ k) (hB : termB x = true) (hF : zbb x) : Wh s (fun i s' => Inv n s' (i :: p) q) (newT s x) := by
 unfold newT;split
 · rename_i hlt
   refine ⟨⟨h.hk, fun j y hy => ?_, h.typ, h.ali, fun a => ?_, fun a => ?_, h.few, ⟨by show (s.t1 ++ [x]).length ≤ 65536; rw [zK5]; exact hlt, h.big.2⟩⟩, zJw _, fun _ h => h⟩
   · have hy : (s.t1 ++ [x])[j]? = some y := hy
     rcases Nat.lt_trichotomy j s.t1.length with g | g | g
     · rw [zKm g] at hy
       exact h.nod j y hy
     · subst g
       rw [zKl (zJw _), Nat.sub_self] at hy;simp only [gB, zKt] at hy;subst hy;refine ⟨fun k hk => ⟨h0 k hk, ?_⟩, fun k hk => ⟨h1 k hk, ?_⟩, hB, hF⟩
       · have := h.ltN (ta3 _ (zld hk)); have := h0 k hk; omega
       · have := h.ltT (ta3 _ (zld hk)); have := h1 k hk
         show k < (s.t2.length : Int)
         omega
     · rw [List.getElem?_eq_none (by simp; omega)] at hy; cases hy
   · have := h.pN a
     show (nats ((s.t1 ++ [x]).flatMap (·.kids))).count a + (s.t1.length :: p).count a = if a < (s.t1 ++ [x]).length then 1 else 0
     simp only [List.flatMap_append, tah, List.flatMap_nil, List.append_nil, zb6, zKk, taa, zK5, zK2, zKc, beq_iff_eq] at this ⊢;split at this <;> split <;> split <;> omega
   · have := h.pT a
     show (nats ((s.t1 ++ [x]).flatMap (·.types))).count a + (nats (s.t2.flatMap (·.kids))).count a + (nats (s.t3.map (·.type))).count a + q.count a = if a < s.t2.length then 1 else 0
     rw [← this];simp only [List.flatMap_append, tah, List.flatMap_nil, List.append_nil, zb6, zKk];omega
 · trivial
theorem zk6 {x : TypD} (h : Inv n s p (nats x.kids ++ q)) (h0 : ∀ k ∈ x.kids, 0 ≤ k) (hB : typB x = true) (hF : zfg x) : Wh s (fun i s' => Inv n s' p (i :: q)) (newY s x) := by
 unfold newY;split
 · rename_i hlt
   refine ⟨⟨h.hk, fun j y hy => ?_, fun j y hy => ?_, fun y hy => ?_, h.pN, fun a => ?_, h.few, ⟨h.big.1, by show (s.t2 ++ [x]).length ≤ 65536; rw [zK5]; exact hlt⟩⟩, zJw _, fun _ h => h⟩
   · have := h.nod j y hy
     refine ⟨this.1, fun k hk => ⟨(this.2.1 k hk).1, ?_⟩, this.2.2⟩;have := (this.2.1 k hk).2;show k < ((s.t2 ++ [x]).length : Int)
     rw [zK5];simp only [zK2, zKc];omega
   · have hy : (s.t2 ++ [x])[j]? = some y := hy
     rcases Nat.lt_trichotomy j s.t2.length with g | g | g
     · rw [zKm g] at hy
       exact h.typ j y hy
     · subst g
       rw [zKl (zJw _), Nat.sub_self] at hy;simp only [gB, zKt] at hy;subst hy;refine ⟨fun k hk => ⟨h0 k hk, ?_⟩, hB, hF⟩;have := h.ltT (ta3 _ (zld hk)); have := h0 k hk; omega
     · rw [List.getElem?_eq_none (by simp; omega)] at hy; cases hy
   · have := h.ali y hy
     refine ⟨this.1, ?_, this.2.2⟩;have := this.2.1;show y.type < ((s.t2 ++ [x]).length : Int)
     rw [zK5];simp only [zK2, zKc];omega
   · have := h.pT a
     show (nats (s.t1.flatMap (·.types))).count a + (nats ((s.t2 ++ [x]).flatMap (·.kids))).count a + (nats (s.t3.map (·.type))).count a + (s.t2.length :: q).count a = if a < (s.t2 ++ [x]).length then 1 else 0
     simp only [List.flatMap_append, tah, List.flatMap_nil, List.append_nil, zb6, zKk, taa, zK5, zK2, zKc, beq_iff_eq] at this ⊢;split at this <;> split <;> split <;> omega
 · trivial
theorem zEi {x : AliD} {i : Nat} {s' : St} (h : Inv n s p (i :: q)) (hx : x.type = (i : Int)) (hB : zbo (tl x.name) = true) (hF : x.name.size ≤ 1000) (h1 : s'.t1 = s.t1) (h2 : s'.t2 = s.t2) (h3 : s'.t3 = s.t3 ++ [x]) (hk : s.k + 1 ≤ s'.k) (hk2 : s'.k < n) : Inv n s' p q := by
 have hi := h.ltT (ta9 ..);have hf := h.few;refine ⟨hk2, by rw [h1, h2]; exact h.nod, by rw [h2]; exact h.typ, fun y hy => ?_, by rw [h1]; exact h.pN, fun a => ?_, ?_, by rw [h1, h2]; exact h.big⟩
 · rw [h3] at hy
   rw [h2];rcases List.mem_append.1 hy with hy | hy
   · exact h.ali y hy
   · simp only [zK7] at hy
     subst hy;exact ⟨by omega, by omega, hB, hF⟩
 · have := h.pT a
   rw [h1, h2, h3, ← this];simp only [taz, tae, tak, zb6, zKk, hx];simp only [nats, tae, tak, tam, taa, tad, beq_iff_eq];omega
 · rw [h3]
   simp only [zK5, zK2, zKc];omega
end
end Go.Proofs.YtidmeodmkcomlaaGreatDoor
