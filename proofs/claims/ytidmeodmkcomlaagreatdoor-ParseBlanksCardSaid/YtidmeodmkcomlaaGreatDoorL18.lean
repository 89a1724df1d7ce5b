/- A term, or a type, of a call's own that -/
import Derived.Test.YtidmeodmkcomlaaGreatDoorL17
namespace Go.Proofs.YtidmeodmkcomlaaGreatDoor
open Go Go.Proofs Go.RowKit
theorem AftO.nest {B : PE} {G G' : Nat → Prop} {w w1 w2 : World} {s s' : St} (h : AftO B G w s w1) (k : AftO (B.with G) G' w1 s' w2) : AftO B (fun b => G b ∨ G' b) w s' w2 := by
 have e : (B.with G).with G' = B.with (fun b => G b ∨ G' b) := by
  unfold PE.with
  simp only [PE.mk.injEq, true_and];funext b
  exact propext or_assoc
 have hm : ∀ b, Mu (B.with G) w2 b ↔ Mu B w2 b := fun b => Iff.rfl
 exact ⟨e ▸ k.ps, h.kt.trans k.kt, h.bel.trans k.bel, fun b hb => by
  rcases hb with hb | hb
  · exact (k.kt.2 b (h.lt hb) (h.nm b hb)).2
  · exact k.nm b hb, fun b hb => by
  rcases hb with hb | hb
  · exact h.ge b hb
  · exact zK4 h.kt.1 (k.ge b hb)⟩
theorem AftO.same2 {B : PE} {G G' : Nat → Prop} {w w1 w2 : World} {s s' : St} (h : AftO B G w s w1) (k : AftO (B.with G) G' w1 s' w2) {b : Nat} (hb : G b) : w2.heap[b]? = w1.heap[b]? := h.same k.out hb
theorem Aft.own {B : PE} {w w1 w2 : World} {s : St} (h : Aft B w s w1) (hb : Below w1.heap.size w1 w2) (G : Nat → Prop) (hg : ∀ b, G b → w1.heap.size ≤ b ∧ b < w2.heap.size) : AftO B G w s w2 :=
 have o := AftO.start h.ps hb G hg;⟨o.ps, h.kt.trans o.kt, h.bel.trans o.bel, o.nm, fun b hb => zK4 h.kt.1 (o.ge b hb)⟩
theorem Aft.own1 {B : PE} {w w1 w2 : World} {s : St} (h : Aft B w s w1) (hb : Below w1.heap.size w1 w2) (g : Nat) (h1 : w1.heap.size ≤ g) (h2 : g < w2.heap.size) : ∃ G : Nat → Prop, G g ∧ AftO B G w s w2 :=
 ⟨fun b => b = g, rfl, h.own hb _ (fun b e => by subst e; exact ⟨h1, h2⟩)⟩
theorem Aft.none {B : PE} {w w1 : World} {s : St} (h : Aft B w s w1) : AftO B (fun _ => False) w s w1 := h.own (zJx _ _) _ (fun _ e => e.elim)
theorem zdb (w : World) (base : Nat) (e : TypeId) (k : Nat) : w.ownsRow base e k (.slice none 0 0) 0 [] := ⟨by simp, .inl ⟨rfl, rfl⟩⟩
theorem zcc {g : Nat} {p : Prop} (h : (Value.slice none 0 0).ownBlock = some g) : p := by simp [Value.ownBlock] at h
theorem AftO.blk {B : PE} {G : Nat → Prop} {w w1 w2 : World} {s s' : St} (h : AftO B G w s w1) (k : Aft (B.with G) w1 s' w2) {X : Nat} {t : TypeId} {cs : Array Value} (m : G X) (hX : Blk w1 X t cs) : Blk w2 X t cs := (h.same k m).trans hX
theorem zda {s : St} {x : TermD} (h : newT s x = .un) : False := by unfold newT at h; split at h <;> cases h
theorem znm {s : St} {x : TypD} (h : newY s x = .un) : False := by unfold newY at h; split at h <;> cases h
theorem zu4 {ts : List Tk} {s : St} {x : List UInt8} (h : mustM ts x s = .un) : False := by unfold mustM at h; split at h <;> cases h
theorem zqi {ts : List Tk} {s : St} {o x : Nat} (h : ownM ts o x s = .un) : False := by
 unfold ownM zag at h;split at h
 · unfold R3.bind at h
   dsimp only at h;split at h <;> cases h
 · cases h
theorem zG3 (w : World) (e : TypeId) (cs : List Value) (n : Nat) (hn : cs.length = n) (h63 : n ≤ maxLen) : (w.alloc (.cells cs.toArray e)).ownsRow 0 e 1 (.slice (some ⟨w.heap.size, 0, Option.none⟩) n n) n cs := by
 refine ⟨by omega, .inr ⟨w.heap.size, n, cs.toArray, rfl, zK8 _, Blk.new w e _, zJw _, h63, by simp; omega, ?_⟩⟩;simp only [Nat.mul_one];rw [← hn, tap]
theorem zbx {w : World} {b1 b2 : Nat} {e1 e2 : TypeId} {s1 s2 n1 n2 : Nat} {v1 v2 : Value} {x1 x2 : List Value} (h1 : w.ownsRow b1 e1 s1 v1 n1 x1) (h2 : w.ownsRow b2 e2 s2 v2 n2 x2) (hne : e1 ≠ e2) : v1.ownBlock = none ∨ v1.ownBlock ≠ v2.ownBlock := by
 rcases zae h1 with e | ⟨g, e, _⟩
 · exact .inl e
 · exact .inr (fun e2 => zcp h1 h2 hne g e (e2 ▸ e))
structure OwnT (w : World) (G : Nat → Prop) (X : Nat) (x : TermD) (v5 v6 v7 : Value) : Prop where
 blk : Blk w X 38 #[iv x.kind, iv x.pos, .string x.name, iv x.int, .int .u64 (x.bits : Int), v5, v6, v7]
 gx : G X
 r5 : w.ownsRow 0 9 1 v5 x.names.length (x.names.map .string)
 r6 : w.ownsRow 0 3 1 v6 x.kids.length (x.kids.map iv)
 r7 : w.ownsRow 0 3 1 v7 x.types.length (x.types.map iv)
 g5 : ∀ g, v5.ownBlock = some g → G g
 g6 : ∀ g, v6.ownBlock = some g → G g
 g7 : ∀ g, v7.ownBlock = some g → G g
 d67 : ∀ g, v6.ownBlock = some g → v7.ownBlock ≠ some g
section
variable {B : PE} {G G' : Nat → Prop} {w w1 w2 w3 w4 : World} {s s' : St} {X : Nat} {x : TermD} {v5 v6 v7 v' : Value}
theorem OwnT.call (h : AftO B G w s w1) (k : Aft (B.with G) w1 s' w2) (o : OwnT w1 G X x v5 v6 v7) : OwnT w2 G X x v5 v6 v7 :=
 ⟨(h.same k o.gx).trans o.blk, o.gx, h.row k o.r5 o.g5, h.row k o.r6 o.g6, h.row k o.r7 o.g7, o.g5, o.g6, o.g7, o.d67⟩
theorem OwnT.call2 (h : AftO B G w s w1) (k : AftO (B.with G) G' w1 s' w2) (o : OwnT w1 G X x v5 v6 v7) : OwnT w2 (fun b => G b ∨ G' b) X x v5 v6 v7 :=
 ⟨(h.same2 k o.gx).trans o.blk, .inl o.gx, h.row k.out o.r5 o.g5, h.row k.out o.r6 o.g6, h.row k.out o.r7 o.g7, fun g e => .inl (o.g5 g e), fun g e => .inl (o.g6 g e), fun g e => .inl (o.g7 g e), o.d67⟩
theorem OwnT.below (o : OwnT w1 G X x v5 v6 v7) (hb : Below w1.heap.size w1 w2) : OwnT w2 G X x v5 v6 v7 :=
 ⟨o.blk.below hb o.blk.lt, o.gx, zaj o.r5 hb, zaj o.r6 hb, zaj o.r7 hb, o.g5, o.g6, o.g7, o.d67⟩
theorem OwnT.app5 (h : AftO B G w s w2) (hbw : B.base ≤ w.heap.size) (o : OwnT w2 G X x v5 v6 v7) (hb : Below w2.heap.size w2 w3) {news : List ByteArray} {m : Nat} (hm : news.length = m) (hown : w4.ownsRow 0 9 1 v' (x.names.length + m) (x.names.map .string ++ news.map .string)) (hg : w3.grownBy w4 v5.ownBlock) (hl : v'.ownBlock = v5.ownBlock ∨ v'.ownBlock = some w3.heap.size) :
 ∃ G' : Nat → Prop, AftO B G' w s (w4.setCell ⟨X, 5, none⟩ v') ∧ OwnT (w4.setCell ⟨X, 5, none⟩ v') G' X { x with names := x.names ++ news } v' v6 v7 := by
 have o3 := o.below hb;have h3 := h.below hb;have h4 := h3.app hbw o.g5 hg hl (zb8 hown);have h5 := h4.set (.inl o.gx) 5 v' hbw;have hset : w4.grownBy (w4.setCell ⟨X, 5, none⟩ v') (some X) := za9 (zaf w4 (some X)) (.inl rfl) v';have b4 := o3.blk.grown hg (fun e => za3 o3.r5 o3.blk (by decide) e.symm);have k6 := o3.r6.kept hg (zbx o3.r6 o3.r5 (by decide));have k7 := o3.r7.kept hg (zbx o3.r7 o3.r5 (by decide));have k5 := hown;exact ⟨_, h5, ⟨by have := b4.set_ 5 v'; simpa using this, .inl o.gx, (by simpa [hm] using k5.kept hset (.inr (za3 k5 b4 (by decide)))), k6.kept hset (.inr (za3 k6 b4 (by decide))), k7.kept hset (.inr (za3 k7 b4 (by decide))), (fun g e => .inr e), (fun g e => .inl (o.g6 g e)), (fun g e => .inl (o.g7 g e)), o.d67⟩⟩
theorem OwnT.put6 (h : AftO B G w s w1) (hbw : B.base ≤ w.heap.size) (o : OwnT w1 G X x v5 v6 v7) {ns : List Int} (hr : w1.ownsRow 0 3 1 v' ns.length (ns.map iv)) (hg : ∀ g, v'.ownBlock = some g → G g) (hd : ∀ g, v'.ownBlock = some g → v7.ownBlock ≠ some g) :
 AftO B G w s (w1.setCell ⟨X, 6, none⟩ v') ∧ OwnT (w1.setCell ⟨X, 6, none⟩ v') G X { x with kids := ns } v5 v' v7 := by
 have hset : w1.grownBy (w1.setCell ⟨X, 6, none⟩ v') (some X) := za9 (zaf w1 (some X)) (.inl rfl) v';exact ⟨h.set o.gx 6 v' hbw, ⟨by have := o.blk.set_ 6 v'; simpa using this, o.gx, o.r5.kept hset (.inr (za3 o.r5 o.blk (by decide))), hr.kept hset (.inr (za3 hr o.blk (by decide))), o.r7.kept hset (.inr (za3 o.r7 o.blk (by decide))), o.g5, hg, o.g7, hd⟩⟩
theorem OwnT.app6 (h : AftO B G w s w2) (hbw : B.base ≤ w.heap.size) (o : OwnT w2 G X x v5 v6 v7) (hb : Below w2.heap.size w2 w3) {news : List Int} {m : Nat} (hm : news.length = m) (hown : w4.ownsRow 0 3 1 v' (x.kids.length + m) (x.kids.map iv ++ news.map iv)) (hg : w3.grownBy w4 v6.ownBlock) (hl : v'.ownBlock = v6.ownBlock ∨ v'.ownBlock = some w3.heap.size) :
 ∃ G' : Nat → Prop, AftO B G' w s (w4.setCell ⟨X, 6, none⟩ v') ∧ OwnT (w4.setCell ⟨X, 6, none⟩ v') G' X { x with kids := x.kids ++ news } v5 v' v7 := by
 have o3 := o.below hb;have h3 := h.below hb;have h4 := h3.app hbw o.g6 hg hl (zb8 hown);have h5 := h4.set (.inl o.gx) 6 v' hbw;have hset : w4.grownBy (w4.setCell ⟨X, 6, none⟩ v') (some X) := za9 (zaf w4 (some X)) (.inl rfl) v';have b4 := o3.blk.grown hg (fun e => za3 o3.r6 o3.blk (by decide) e.symm);have k5 := o3.r5.kept hg (zbx o3.r5 o3.r6 (by decide));have k7 := o3.r7.kept hg ((by rcases zae o3.r7 with e | ⟨g, e, _⟩; exact .inl e; exact .inr (fun e2 => o.d67 g (e2 ▸ e) e)));have k6 := hown
 exact ⟨_, h5, ⟨by have := b4.set_ 6 v'; simpa using this, .inl o.gx, k5.kept hset (.inr (za3 k5 b4 (by decide))), (by simpa [hm] using k6.kept hset (.inr (za3 k6 b4 (by decide)))), k7.kept hset (.inr (za3 k7 b4 (by decide))), (fun g e => .inl (o.g5 g e)), (fun g e => .inr e), (fun g e => .inl (o.g7 g e)), (fun g e k => by
  rcases hl with q | q
  · exact o.d67 g (q ▸ e) k
  · rw [q] at e; have := zb8 o3.r7 g k; injection e with e; omega)⟩⟩
theorem OwnT.was5 (o : OwnT w2 G X x v5 v6 v7) (hb : Below w2.heap.size w2 w3) (hg : w3.grownBy w4 v5.ownBlock) : Blk w4 X 38 #[iv x.kind, iv x.pos, .string x.name, iv x.int, .int .u64 (x.bits : Int), v5, v6, v7] :=
 (o.below hb).blk.grown hg (fun e => za3 (o.below hb).r5 (o.below hb).blk (by decide) e.symm)
theorem OwnT.was6 (o : OwnT w2 G X x v5 v6 v7) (hb : Below w2.heap.size w2 w3) (hg : w3.grownBy w4 v6.ownBlock) : Blk w4 X 38 #[iv x.kind, iv x.pos, .string x.name, iv x.int, .int .u64 (x.bits : Int), v5, v6, v7] :=
 (o.below hb).blk.grown hg (fun e => za3 (o.below hb).r6 (o.below hb).blk (by decide) e.symm)
theorem OwnT.was7 (o : OwnT w2 G X x v5 v6 v7) (hb : Below w2.heap.size w2 w3) (hg : w3.grownBy w4 v7.ownBlock) : Blk w4 X 38 #[iv x.kind, iv x.pos, .string x.name, iv x.int, .int .u64 (x.bits : Int), v5, v6, v7] :=
 (o.below hb).blk.grown hg (fun e => za3 (o.below hb).r7 (o.below hb).blk (by decide) e.symm)
theorem OwnT.new (h : AftO B G w s w1) (o : OwnT w1 G X x v5 v6 v7) (hf : zdr x) : Calls Tryz.prog 114 #[B.ptr, .agg #[iv x.kind, iv x.pos, .string x.name, iv x.int, .int .u64 (x.bits : Int), v5, v6, v7]] w1 (Res natV (B.with G) w1 s (newT s x)) := by
 obtain ⟨A5, c5, rfl, _, k5⟩ := SlAt.of_own o.r5;obtain ⟨A6, c6, rfl, _, k6⟩ := SlAt.of_own o.r6;obtain ⟨A7, c7, rfl, _, k7⟩ := SlAt.of_own o.r7;exact zl2 h.ps x ⟨A5, c5, A6, c6, A7, c7⟩ ⟨k5.imp (fun b q => q.2), k6.imp (fun b q => q.2), k7.imp (fun b q => q.2)⟩ hf
end
structure OwnY (w : World) (G : Nat → Prop) (X : Nat) (x : TypD) (v3 v4 : Value) : Prop where
 blk : Blk w X 40 #[iv x.kind, iv x.pos, .string x.name, v3, v4, .bool x.opn]
 gx : G X
 r3 : w.ownsRow 0 9 1 v3 x.names.length (x.names.map .string)
 r4 : w.ownsRow 0 3 1 v4 x.kids.length (x.kids.map iv)
 g3 : ∀ g, v3.ownBlock = some g → G g
 g4 : ∀ g, v4.ownBlock = some g → G g
section
variable {B : PE} {G G' : Nat → Prop} {w w1 w2 w3 w4 : World} {s s' : St} {X : Nat} {x : TypD} {v3 v4 v' : Value}
theorem OwnY.call2 (h : AftO B G w s w1) (k : AftO (B.with G) G' w1 s' w2) (o : OwnY w1 G X x v3 v4) : OwnY w2 (fun b => G b ∨ G' b) X x v3 v4 :=
 ⟨(h.same2 k o.gx).trans o.blk, .inl o.gx, h.row k.out o.r3 o.g3, h.row k.out o.r4 o.g4, fun g e => .inl (o.g3 g e), fun g e => .inl (o.g4 g e)⟩
theorem OwnY.new (h : AftO B G w s w1) (o : OwnY w1 G X x v3 v4) (hf : zff x) : Calls Tryz.prog 49 #[B.ptr, .agg #[iv x.kind, iv x.pos, .string x.name, v3, v4, .bool x.opn]] w1 (Res natV (B.with G) w1 s (newY s x)) := by
 obtain ⟨A3, c3, rfl, _, k3⟩ := SlAt.of_own o.r3;obtain ⟨A4, c4, rfl, _, k4⟩ := SlAt.of_own o.r4;exact zin h.ps x ⟨A3, c3, A4, c4⟩ ⟨k3.imp (fun b q => q.2), k4.imp (fun b q => q.2)⟩ hf
end
theorem Blk.at_ {w : World} {g : Nat} {t : TypeId} {cs : Array Value} {j : Nat} {u : Value} (h : Blk w g t cs) (hu : cs[j]? = some u) : w.cell? ⟨g, j, none⟩ = some u := (h.cell j).trans hu
section
variable {B : PE} {G : Nat → Prop} {w w1 : World} {s : St} {X : Nat} {x : TermD} {v5 v6 v7 : Value}
theorem OwnT.put0 (h : AftO B G w s w1) (hbw : B.base ≤ w.heap.size) (o : OwnT w1 G X x v5 v6 v7) (n : Int) : AftO B G w s (w1.setCell ⟨X, 0, none⟩ (.int .i64 n)) ∧ OwnT (w1.setCell ⟨X, 0, none⟩ (.int .i64 n)) G X { x with kind := n } v5 v6 v7 := by
 have hset : w1.grownBy (w1.setCell ⟨X, 0, none⟩ (.int .i64 n)) (some X) := za9 (zaf w1 (some X)) (.inl rfl) _;exact ⟨h.set o.gx 0 _ hbw, ⟨by have := o.blk.set_ 0 (.int .i64 n); simpa using this, o.gx, o.r5.kept hset (.inr (za3 o.r5 o.blk (by decide))), o.r6.kept hset (.inr (za3 o.r6 o.blk (by decide))), o.r7.kept hset (.inr (za3 o.r7 o.blk (by decide))), o.g5, o.g6, o.g7, o.d67⟩⟩
theorem OwnT.put2 (h : AftO B G w s w1) (hbw : B.base ≤ w.heap.size) (o : OwnT w1 G X x v5 v6 v7) (n : ByteArray) : AftO B G w s (w1.setCell ⟨X, 2, none⟩ (.string n)) ∧ OwnT (w1.setCell ⟨X, 2, none⟩ (.string n)) G X { x with name := n } v5 v6 v7 := by
 have hset : w1.grownBy (w1.setCell ⟨X, 2, none⟩ (.string n)) (some X) := za9 (zaf w1 (some X)) (.inl rfl) _;exact ⟨h.set o.gx 2 _ hbw, ⟨by have := o.blk.set_ 2 (.string n); simpa using this, o.gx, o.r5.kept hset (.inr (za3 o.r5 o.blk (by decide))), o.r6.kept hset (.inr (za3 o.r6 o.blk (by decide))), o.r7.kept hset (.inr (za3 o.r7 o.blk (by decide))), o.g5, o.g6, o.g7, o.d67⟩⟩
theorem OwnT.fresh (h : Aft B w s w1) (kind pos : Int) (name : ByteArray) : ∃ G : Nat → Prop, AftO B G w s (w1.alloc (.cells #[iv kind, iv pos, .string name, .int .i64 0, .int .u64 0, .slice Option.none 0 0, .slice Option.none 0 0, .slice Option.none 0 0] 38)) ∧ OwnT (w1.alloc (.cells #[iv kind, iv pos, .string name, .int .i64 0, .int .u64 0, .slice Option.none 0 0, .slice Option.none 0 0, .slice Option.none 0 0] 38)) G w1.heap.size ⟨kind, pos, name, 0, 0, [], [], []⟩ (.slice Option.none 0 0) (.slice Option.none 0 0) (.slice Option.none 0 0) := by
 have hb : Below w1.heap.size w1 (w1.alloc (.cells #[iv kind, iv pos, .string name, .int .i64 0, .int .u64 0, .slice Option.none 0 0, .slice Option.none 0 0, .slice Option.none 0 0] 38)) := (zJx _ _).alloc (zJw _) _;have hX := Blk.new w1 38 #[iv kind, iv pos, .string name, .int .i64 0, .int .u64 0, .slice Option.none 0 0, .slice Option.none 0 0, .slice Option.none 0 0];obtain ⟨G, m, a⟩ := h.own1 hb w1.heap.size (zJw _) hX.lt;exact ⟨G, a, ⟨hX, m, zdb _ _ _ _, zdb _ _ _ _, zdb _ _ _ _, fun g e => zcc e, fun g e => zcc e, fun g e => zcc e, fun g e => zcc e⟩⟩
theorem OwnY.fresh (h : Aft B w s w1) (kind pos : Int) (name : ByteArray) : ∃ G : Nat → Prop, AftO B G w s (w1.alloc (.cells #[iv kind, iv pos, .string name, .slice Option.none 0 0, .slice Option.none 0 0, .bool false] 40)) ∧ OwnY (w1.alloc (.cells #[iv kind, iv pos, .string name, .slice Option.none 0 0, .slice Option.none 0 0, .bool false] 40)) G w1.heap.size ⟨kind, pos, name, [], [], false⟩ (.slice Option.none 0 0) (.slice Option.none 0 0) := by
 have hb : Below w1.heap.size w1 (w1.alloc (.cells #[iv kind, iv pos, .string name, .slice Option.none 0 0, .slice Option.none 0 0, .bool false] 40)) := (zJx _ _).alloc (zJw _) _;have hX := Blk.new w1 40 #[iv kind, iv pos, .string name, .slice Option.none 0 0, .slice Option.none 0 0, .bool false];obtain ⟨G, m, a⟩ := h.own1 hb w1.heap.size (zJw _) hX.lt;exact ⟨G, a, ⟨hX, m, zdb _ _ _ _, zdb _ _ _ _, fun g e => zcc e, fun g e => zcc e⟩⟩
end
section
variable {w : World} {v : Value} {n : Nat} {xs : List Value} {u : Value}
theorem zcj {ops : Array Oper} {o : Oper} {a : Act} {K : Act → World → Prop} {Q : Exit → Act → World → Prop} {E : Prop} (hgd : o.guard = none) (s x : Operand)
 (ho : o.op = .call { callee := .builtin .append, args := #[s, x], argTypes := #[36, 36] })
 (hs : a.eval s = v) (hown : w.ownsRow 0 3 1 v n xs) (hx : a.eval x = .slice (some ⟨w.heap.size, 0, none⟩) 1 1) (h1 : u.oneCell' = true) (hn : n ≤ 1000000)
 (h : ∀ v' w', w'.ownsRow 0 3 1 v' (n + 1) (xs ++ [u]) → (w.alloc (.cells #[u] 3)).grownBy w' v.ownBlock → (v'.ownBlock = v.ownBlock ∨ v'.ownBlock = some (w.alloc (.cells #[u] 3)).heap.size) → K (a.put o.dst v') w') :
 if Region.wanted o (yielded ops a.tmps) = true then Oper.wp Tryz.prog o a (w.alloc (.cells #[u] 3)) K Q else E := by
 obtain ⟨i0, hi, hz0, hz1, hz2⟩ := info_parts info3;exact zdy (P := Tryz.prog) _ hgd s x 36 ho 0 3 i0 (.int .i64 0) 1 8 Tryz.underlying36 hi hz0 hz1 hz2 rfl (by decide) v n xs hs (zaj hown ((zJx _ _).alloc (zJw _) _)) (some ⟨w.heap.size, 0, none⟩) 1 1 [u] hx rfl (zeh w u 3) (by intro u' hu; simp only [zK7] at hu; subst hu; exact h1) (by unfold maxLen; omega) (by omega) (zK8 _) h
theorem zDj {ops : Array Oper} {rest : List Oper} {o : Oper} {a : Act} {Q : Exit → Act → World → Prop} (hgd : o.guard = none) (s x : Operand)
 (ho : o.op = .call { callee := .builtin .append, args := #[s, x], argTypes := #[36, 36] })
 (hs : a.eval s = v) (hown : w.ownsRow 0 3 1 v n xs) (hx : a.eval x = .slice (some ⟨w.heap.size, 0, none⟩) 1 1) (h1 : u.oneCell' = true) (hn : n ≤ 1000000)
 (h : ∀ v' w', w'.ownsRow 0 3 1 v' (n + 1) (xs ++ [u]) → (w.alloc (.cells #[u] 3)).grownBy w' v.ownBlock → (v'.ownBlock = v.ownBlock ∨ v'.ownBlock = some (w.alloc (.cells #[u] 3)).heap.size) → wpList Tryz.prog ops Q rest (a.put o.dst v') w') :
 wpList Tryz.prog ops Q (o :: rest) a (w.alloc (.cells #[u] 3)) := by
 obtain ⟨i0, hi, hz0, hz1, hz2⟩ := info_parts info3;exact zca (P := Tryz.prog) _ hgd s x 36 ho 0 3 i0 (.int .i64 0) 1 8 Tryz.underlying36 hi hz0 hz1 hz2 rfl (by decide) v n xs hs (zaj hown ((zJx _ _).alloc (zJw _) _)) (some ⟨w.heap.size, 0, none⟩) 1 1 [u] hx rfl (zeh w u 3) (by intro u' hu; simp only [zK7] at hu; subst hu; exact h1) (by unfold maxLen; omega) (by omega) (zK8 _) h
end
section
variable {w : World} {v : Value} {n : Nat} {xs : List Value} {u : Value}
theorem zhd {ops : Array Oper} {o : Oper} {a : Act} {K : Act → World → Prop} {Q : Exit → Act → World → Prop} {E : Prop} (hgd : o.guard = none) (s x : Operand)
 (ho : o.op = .call { callee := .builtin .append, args := #[s, x], argTypes := #[35, 35] })
 (hs : a.eval s = v) (hown : w.ownsRow 0 9 1 v n xs) (hx : a.eval x = .slice (some ⟨w.heap.size, 0, none⟩) 1 1) (h1 : u.oneCell' = true) (hn : n ≤ 1000000)
 (h : ∀ v' w', w'.ownsRow 0 9 1 v' (n + 1) (xs ++ [u]) → (w.alloc (.cells #[u] 9)).grownBy w' v.ownBlock → (v'.ownBlock = v.ownBlock ∨ v'.ownBlock = some (w.alloc (.cells #[u] 9)).heap.size) → K (a.put o.dst v') w') :
 if Region.wanted o (yielded ops a.tmps) = true then Oper.wp Tryz.prog o a (w.alloc (.cells #[u] 9)) K Q else E := by
 obtain ⟨i0, hi, hz0, hz1, hz2⟩ := info_parts info9;exact zdy (P := Tryz.prog) _ hgd s x 35 ho 0 9 i0 (.string ByteArray.empty) 1 16 Tryz.underlying35 hi hz0 hz1 hz2 rfl (by decide) v n xs hs (zaj hown ((zJx _ _).alloc (zJw _) _)) (some ⟨w.heap.size, 0, none⟩) 1 1 [u] hx rfl (zeh w u 9) (by intro u' hu; simp only [zK7] at hu; subst hu; exact h1) (by unfold maxLen; omega) (by omega) (zK8 _) h
theorem zB8 {ops : Array Oper} {rest : List Oper} {o : Oper} {a : Act} {Q : Exit → Act → World → Prop} (hgd : o.guard = none) (s x : Operand)
 (ho : o.op = .call { callee := .builtin .append, args := #[s, x], argTypes := #[35, 35] })
 (hs : a.eval s = v) (hown : w.ownsRow 0 9 1 v n xs) (hx : a.eval x = .slice (some ⟨w.heap.size, 0, none⟩) 1 1) (h1 : u.oneCell' = true) (hn : n ≤ 1000000)
 (h : ∀ v' w', w'.ownsRow 0 9 1 v' (n + 1) (xs ++ [u]) → (w.alloc (.cells #[u] 9)).grownBy w' v.ownBlock → (v'.ownBlock = v.ownBlock ∨ v'.ownBlock = some (w.alloc (.cells #[u] 9)).heap.size) → wpList Tryz.prog ops Q rest (a.put o.dst v') w') :
 wpList Tryz.prog ops Q (o :: rest) a (w.alloc (.cells #[u] 9)) := by
 obtain ⟨i0, hi, hz0, hz1, hz2⟩ := info_parts info9;exact zca (P := Tryz.prog) _ hgd s x 35 ho 0 9 i0 (.string ByteArray.empty) 1 16 Tryz.underlying35 hi hz0 hz1 hz2 rfl (by decide) v n xs hs (zaj hown ((zJx _ _).alloc (zJw _) _)) (some ⟨w.heap.size, 0, none⟩) 1 1 [u] hx rfl (zeh w u 9) (by intro u' hu; simp only [zK7] at hu; subst hu; exact h1) (by unfold maxLen; omega) (by omega) (zK8 _) h
end
theorem OwnT.mono {w : World} {G G' : Nat → Prop} {X : Nat} {x : TermD} {v5 v6 v7 : Value} (o : OwnT w G X x v5 v6 v7) (h : ∀ b, G b → G' b) : OwnT w G' X x v5 v6 v7 := ⟨o.blk, h _ o.gx, o.r5, o.r6, o.r7, fun g e => h _ (o.g5 g e), fun g e => h _ (o.g6 g e), fun g e => h _ (o.g7 g e), o.d67⟩
theorem AftO.lit {B : PE} {G : Nat → Prop} {w w1 : World} {s : St} (h : AftO B G w s w1) (hbw : B.base ≤ w.heap.size) (cs : List Int) (n : Nat) (hn : cs.length = n) (h63 : n ≤ 1000000) :
 ∃ G' : Nat → Prop, (∀ b, G b → G' b) ∧ G' w1.heap.size ∧ AftO B G' w s (w1.alloc (.cells (cs.map iv).toArray 3)) ∧ (w1.alloc (.cells (cs.map iv).toArray 3)).ownsRow 0 3 1 (.slice (some ⟨w1.heap.size, 0, none⟩) n n) n (cs.map iv) := by
 have hb : Below w1.heap.size w1 (w1.alloc (.cells (cs.map iv).toArray 3)) := (zJx _ _).alloc (zJw _) _;exact ⟨_, fun b k => .inl k, .inr rfl, h.grow hbw hb w1.heap.size (zJw _) (Blk.new w1 3 _).lt, zG3 w1 3 (cs.map iv) n (by simpa using hn) (by unfold maxLen; omega)⟩
theorem zgi {g n m : Nat} {A : Addr} (h : (Value.slice (some A) n m).ownBlock = some g) : g = A.block := by simpa [Value.ownBlock] using h.symm
section
variable {B : PE} {G : Nat → Prop} {w w1 : World} {s : St} {X : Nat} {x : TermD} {v5 v6 v7 u5 u6 u7 : Value}
theorem OwnT.put67 (h : AftO B G w s w1) (hbw : B.base ≤ w.heap.size) (o : OwnT w1 G X x v5 v6 v7) {ks ys : List Int} (h6 : w1.ownsRow 0 3 1 u6 ks.length (ks.map iv)) (g6 : ∀ g, u6.ownBlock = some g → G g) (h7 : w1.ownsRow 0 3 1 u7 ys.length (ys.map iv)) (g7 : ∀ g, u7.ownBlock = some g → G g) (hd : ∀ g, u6.ownBlock = some g → u7.ownBlock ≠ some g) :
 AftO B G w s ((w1.setCell ⟨X, 6, none⟩ u6).setCell ⟨X, 7, none⟩ u7) ∧ OwnT ((w1.setCell ⟨X, 6, none⟩ u6).setCell ⟨X, 7, none⟩ u7) G X { x with kids := ks, types := ys } v5 u6 u7 := by
 have s1 : w1.grownBy (w1.setCell ⟨X, 6, none⟩ u6) (some X) := za9 (zaf w1 (some X)) (.inl rfl) _;have s2 : (w1.setCell ⟨X, 6, none⟩ u6).grownBy ((w1.setCell ⟨X, 6, none⟩ u6).setCell ⟨X, 7, none⟩ u7) (some X) := za9 (zaf _ (some X)) (.inl rfl) _;have b1 := o.blk.set_ 6 u6;have b2 := b1.set_ 7 u7
 have k : ∀ {e n v xs}, e ≠ 38 → w1.ownsRow 0 e 1 v n xs → ((w1.setCell ⟨X, 6, none⟩ u6).setCell ⟨X, 7, none⟩ u7).ownsRow 0 e 1 v n xs := fun he hr =>
  have r1 := hr.kept s1 (.inr (za3 hr o.blk he));r1.kept s2 (.inr (za3 r1 b1 he))
 exact ⟨(h.set o.gx 6 _ hbw).set o.gx 7 _ hbw, ⟨by simpa using b2, o.gx, k (by decide) o.r5, k (by decide) h6, k (by decide) h7, o.g5, g6, g7, hd⟩⟩
theorem OwnT.put56 (h : AftO B G w s w1) (hbw : B.base ≤ w.heap.size) (o : OwnT w1 G X x v5 v6 (.slice none 0 0)) (ht : x.types = []) {ns : List ByteArray} {ks : List Int} (h5 : w1.ownsRow 0 9 1 u5 ns.length (ns.map .string)) (g5 : ∀ g, u5.ownBlock = some g → G g) (h6 : w1.ownsRow 0 3 1 u6 ks.length (ks.map iv)) (g6 : ∀ g, u6.ownBlock = some g → G g) :
 AftO B G w s ((w1.setCell ⟨X, 5, none⟩ u5).setCell ⟨X, 6, none⟩ u6) ∧ OwnT ((w1.setCell ⟨X, 5, none⟩ u5).setCell ⟨X, 6, none⟩ u6) G X { x with names := ns, kids := ks } u5 u6 (.slice none 0 0) := by
 have s1 : w1.grownBy (w1.setCell ⟨X, 5, none⟩ u5) (some X) := za9 (zaf w1 (some X)) (.inl rfl) _;have s2 : (w1.setCell ⟨X, 5, none⟩ u5).grownBy ((w1.setCell ⟨X, 5, none⟩ u5).setCell ⟨X, 6, none⟩ u6) (some X) := za9 (zaf _ (some X)) (.inl rfl) _;have b1 := o.blk.set_ 5 u5;have b2 := b1.set_ 6 u6
 have k : ∀ {e n v xs}, e ≠ 38 → w1.ownsRow 0 e 1 v n xs → ((w1.setCell ⟨X, 5, none⟩ u5).setCell ⟨X, 6, none⟩ u6).ownsRow 0 e 1 v n xs := fun he hr =>
  have r1 := hr.kept s1 (.inr (za3 hr o.blk he));r1.kept s2 (.inr (za3 r1 b1 he))
 exact ⟨(h.set o.gx 5 _ hbw).set o.gx 6 _ hbw, ⟨by simpa using b2, o.gx, k (by decide) h5, k (by decide) h6, (by rw [show ({ x with names := ns, kids := ks } : TermD).types = [] from ht]; exact zdb _ _ _ _), g5, g6, fun g e => zcc e, fun g _ e => zcc e⟩⟩
end
section
variable {B : PE} {G : Nat → Prop} {w w1 : World} {s : St} {X : Nat} {x : TypD} {v3 v4 u3 u4 : Value}
theorem OwnY.put34 (h : AftO B G w s w1) (hbw : B.base ≤ w.heap.size) (o : OwnY w1 G X x v3 v4) {ns : List ByteArray} {ks : List Int} (h3 : w1.ownsRow 0 9 1 u3 ns.length (ns.map .string)) (g3 : ∀ g, u3.ownBlock = some g → G g) (h4 : w1.ownsRow 0 3 1 u4 ks.length (ks.map iv)) (g4 : ∀ g, u4.ownBlock = some g → G g) :
 AftO B G w s ((w1.setCell ⟨X, 3, none⟩ u3).setCell ⟨X, 4, none⟩ u4) ∧ OwnY ((w1.setCell ⟨X, 3, none⟩ u3).setCell ⟨X, 4, none⟩ u4) G X { x with names := ns, kids := ks } u3 u4 := by
 have s1 : w1.grownBy (w1.setCell ⟨X, 3, none⟩ u3) (some X) := za9 (zaf w1 (some X)) (.inl rfl) _;have s2 : (w1.setCell ⟨X, 3, none⟩ u3).grownBy ((w1.setCell ⟨X, 3, none⟩ u3).setCell ⟨X, 4, none⟩ u4) (some X) := za9 (zaf _ (some X)) (.inl rfl) _;have b1 := o.blk.set_ 3 u3;have b2 := b1.set_ 4 u4
 have k : ∀ {e n v xs}, e ≠ 40 → w1.ownsRow 0 e 1 v n xs → ((w1.setCell ⟨X, 3, none⟩ u3).setCell ⟨X, 4, none⟩ u4).ownsRow 0 e 1 v n xs := fun he hr =>
  have r1 := hr.kept s1 (.inr (za3 hr o.blk he));r1.kept s2 (.inr (za3 r1 b1 he))
 exact ⟨(h.set o.gx 3 _ hbw).set o.gx 4 _ hbw, ⟨by simpa using b2, o.gx, k (by decide) h3, k (by decide) h4, g3, g4⟩⟩
end
section
variable {B : PE} {G : Nat → Prop} {w w1 w2 w3 w4 : World} {s : St} {X : Nat} {x : TermD} {v5 v6 v7 v' : Value}
theorem OwnT.app7k (h : AftO B G w s w2) (hbw : B.base ≤ w.heap.size) (o : OwnT w2 G X x v5 v6 v7) (hb : Below w2.heap.size w2 w3) {news : List Int} {m : Nat} (hm : news.length = m) (hown : w4.ownsRow 0 3 1 v' (x.types.length + m) (x.types.map iv ++ news.map iv)) (hg : w3.grownBy w4 v7.ownBlock) (hl : v'.ownBlock = v7.ownBlock ∨ v'.ownBlock = some w3.heap.size) (n : Int) :
 ∃ G' : Nat → Prop, AftO B G' w s ((w4.setCell ⟨X, 0, none⟩ (.int .i64 n)).setCell ⟨X, 7, none⟩ v') ∧ OwnT ((w4.setCell ⟨X, 0, none⟩ (.int .i64 n)).setCell ⟨X, 7, none⟩ v') G' X { x with kind := n, types := x.types ++ news } v5 v6 v' := by
 have o3 := o.below hb;have h3 := h.below hb;have h4 := h3.app hbw o.g7 hg hl (zb8 hown);have h5 := (h4.set (.inl o.gx) 0 (.int .i64 n) hbw).set (.inl o.gx) 7 v' hbw;have s1 : w4.grownBy (w4.setCell ⟨X, 0, none⟩ (.int .i64 n)) (some X) := za9 (zaf w4 (some X)) (.inl rfl) _;have s2 : (w4.setCell ⟨X, 0, none⟩ (.int .i64 n)).grownBy ((w4.setCell ⟨X, 0, none⟩ (.int .i64 n)).setCell ⟨X, 7, none⟩ v') (some X) := za9 (zaf _ (some X)) (.inl rfl) _;have b4 := o3.blk.grown hg (fun e => za3 o3.r7 o3.blk (by decide) e.symm);have b5 := b4.set_ 0 (.int .i64 n);have b6 := b5.set_ 7 v';have k5 := o3.r5.kept hg (zbx o3.r5 o3.r7 (by decide));have k6 := o3.r6.kept hg ((by rcases zae o3.r6 with e | ⟨g, e, _⟩; exact .inl e; exact .inr (fun e2 => o.d67 g e (e2 ▸ e))))
 have k : ∀ {e : TypeId} {m : Nat} {v : Value} {xs : List Value}, e ≠ 38 → w4.ownsRow 0 e 1 v m xs → ((w4.setCell ⟨X, 0, none⟩ (.int .i64 n)).setCell ⟨X, 7, none⟩ v').ownsRow 0 e 1 v m xs := fun he hr =>
  have r1 := hr.kept s1 (.inr (za3 hr b4 he));r1.kept s2 (.inr (za3 r1 b5 he))
 exact ⟨_, h5, ⟨by simpa using b6, .inl o.gx, k (by decide) k5, k (by decide) k6, (by simpa [hm] using k (by decide) hown), (fun g e => .inl (o.g5 g e)), (fun g e => .inl (o.g6 g e)), (fun g e => .inr e), (fun g e k => by
  rcases hl with q | q
  · exact o.d67 g e (q ▸ k)
  · rw [q] at k; have := zb8 o3.r6 g e; injection k with k; omega)⟩⟩
end
set_option maxHeartbeats 8000000
structure Rw (w : World) (G : Nat → Prop) (v5 v6 : Value) (ns : List (List UInt8)) (ks : List Int) : Prop where
 r5 : w.ownsRow 0 9 1 v5 ns.length ((bss ns).map .string)
 r6 : w.ownsRow 0 3 1 v6 ks.length (ks.map iv)
 g5 : ∀ g, v5.ownBlock = some g → G g
 g6 : ∀ g, v6.ownBlock = some g → G g
section
variable {B : PE} {G : Nat → Prop} {w w1 w2 w4 : World} {s s' : St} {v5 v6 v' : Value} {ns : List (List UInt8)} {ks : List Int}
theorem Rw.nil (w : World) (G : Nat → Prop) : Rw w G (.slice none 0 0) (.slice none 0 0) [] [] := ⟨zdb _ _ _ _, zdb _ _ _ _, fun _ e => zcc e, fun _ e => zcc e⟩
theorem Rw.call (o : Rw w1 G v5 v6 ns ks) (h : AftO B G w s w1) (k : Aft (B.with G) w1 s' w2) : Rw w2 G v5 v6 ns ks := ⟨h.row k o.r5 o.g5, h.row k o.r6 o.g6, o.g5, o.g6⟩
theorem Rw.below (o : Rw w1 G v5 v6 ns ks) (hb : Below w1.heap.size w1 w2) : Rw w2 G v5 v6 ns ks := ⟨zaj o.r5 hb, zaj o.r6 hb, o.g5, o.g6⟩
theorem Rw.app5 {x : List UInt8} (h : AftO B G w s w2) (hbw : B.base ≤ w.heap.size) (o : Rw w2 G v5 v6 ns ks) (hown : w4.ownsRow 0 9 1 v' (ns.length + 1) ((bss ns).map .string ++ [.string (bs x)])) (hg : (w2.alloc (.cells #[.string (bs x)] 9)).grownBy w4 v5.ownBlock) (hl : v'.ownBlock = v5.ownBlock ∨ v'.ownBlock = some (w2.alloc (.cells #[.string (bs x)] 9)).heap.size) :
 ∃ G' : Nat → Prop, AftO B G' w s w4 ∧ Rw w4 G' v' v6 (ns ++ [x]) ks := by
 have hb : Below w2.heap.size w2 (w2.alloc (.cells #[.string (bs x)] 9)) := (zJx _ _).alloc (zJw _) _;have o3 := o.below hb;have h4 := (h.below hb).app hbw o.g5 hg hl (zb8 hown);exact ⟨_, h4, by simpa [bss] using hown, o3.r6.kept hg (zbx o3.r6 o3.r5 (by decide)), fun g e => .inr e, fun g e => .inl (o.g6 g e)⟩
theorem Rw.app6 {x : Int} (h : AftO B G w s w2) (hbw : B.base ≤ w.heap.size) (o : Rw w2 G v5 v6 ns ks) (hown : w4.ownsRow 0 3 1 v' (ks.length + 1) (ks.map iv ++ [iv x])) (hg : (w2.alloc (.cells #[iv x] 3)).grownBy w4 v6.ownBlock) (hl : v'.ownBlock = v6.ownBlock ∨ v'.ownBlock = some (w2.alloc (.cells #[iv x] 3)).heap.size) :
 ∃ G' : Nat → Prop, AftO B G' w s w4 ∧ Rw w4 G' v5 v' ns (ks ++ [x]) := by
 have hb : Below w2.heap.size w2 (w2.alloc (.cells #[iv x] 3)) := (zJx _ _).alloc (zJw _) _;have o3 := o.below hb;have h4 := (h.below hb).app hbw o.g6 hg hl (zb8 hown);exact ⟨_, h4, o3.r5.kept hg (zbx o3.r5 o3.r6 (by decide)), by simpa using hown, fun g e => .inl (o.g5 g e), fun g e => .inr e⟩
end
theorem AftO.kAt {B : PE} {G : Nat → Prop} {w w' : World} {s : St} (h : AftO B G w s w') : YtidmeodmkcomlaaGreatDoor.kAt B w' = s.k := h.ps.kAt
def ResF (B : PE) (w : World) (s0 : St) (r : R3 (List (List UInt8) × List Int)) (e : Ending) (w' : World) : Prop :=
 match r with
 | .ok x s' => ∃ (G : Nat → Prop) (A5 A6 : Option Addr) (n5 n6 c5 c6 : Nat), e = .returned (.tuple #[.slice A5 n5 c5, .slice A6 n6 c6]) ∧ AftO B G w s' w' ∧ Rw w' G (.slice A5 n5 c5) (.slice A6 n6 c6) x.1 x.2 ∧ x.1.length ≤ 16384 ∧ x.2.length ≤ 16384
 | .bad c p => e = zbi c p ∧ ∃ s1 : St, s1.op = s0.op ∧ Aft B w s1 w'
 | .un => True
theorem zlh {ts : List Tk} (hT : TsOk ts) {o kind : Nat} (h0 : kind ≠ 0) : Prog3 ts (ownM ts o kind) := fun s i s' hk h => by
 have := zmi (q := True) (o := o) hT h0 hk;rw [h] at this;exact ⟨this.1, this.2⟩
set_option maxRecDepth 100000 in
theorem zfs (fc : FuncId) (hfc : ∀ (x : Value) (w : World), (callFunc fc #[x]).run Tryz.prog w = .ok (.enter fc #[x]) w) {ts : List Tk} (hT : TsOk ts) {P : St → R3 Nat} (hP : Rule3 ts fc P) (pP : Prog3 ts P) {B : PE} {w : World} {s : St} (hBts : B.ts = ts) (h : PS B w s) (hk : s.k < ts.length) (owner : Nat) (ho : owner ≤ 4294967296) (sign : List UInt8) (hu : zan ts P owner sign s ≠ .un) :
 Calls Tryz.prog 79 #[B.ptr, .int .i64 (owner : Int), .string ⟨sign.toArray⟩, .func (.func fc) #[B.ptr] #[]] w (ResF B w s (zan ts P owner sign s)) := by
 generalize hR : zan ts P owner sign s = R at hu ⊢;unfold zan at hR;have hbw := h.bw;have hfew := hT.few;by_cases hc : isA ts s [[125]] = true
 · rw [if_pos hc] at hR
   have cT := zei hBts h hk [125] hc;clear h;go_enter Tryz.func79, Tryz.ntmps79
   go_wp2_with fail
   refine cT.mono ?_;rintro e w1 ⟨rfl, a1⟩;have A1 := zJv a1;clear a1 cT;go_wp2_with fail
   refine bodyPost_ret (v := .tuple #[.slice none 0 0, .slice none 0 0]) (by simp [results, Tryz.results79, go_sem]) rfl ?_;rw [← hR];exact ⟨_, none, none, 0, 0, 0, 0, rfl, A1.out.none, Rw.nil _ _, zK8 _, zK8 _⟩
 rw [if_neg hc] at hR;have hc2 : isA ts s [[125]] = false := by simpa using hc
 have cT := zed hBts h hk [125] hc2;have H := zJv h;have HP0 := zJv hP;have HPR := zJv pP;have HB := zJv hBts;clear h hP pP hBts hc hc2;go_enter Tryz.func79, Tryz.ntmps79
 go_wp2_with fail
 refine cT.mono ?_;rintro e w1 ⟨rfl, hb1⟩;have Q1 := zJv (H.out.aft hb1).none;clear hb1 cT;go_wp2_with fail
 go_loopw [8, 9] (fun v8 v9 wr => ∃ (ns : List (List UInt8)) (ks : List Int) (s1 : St) (f : Nat) (G : Nat → Prop), Hid (AftO B G w s1 wr) ∧ Hid (Rw wr G v8 v9 ns ks) ∧ Hid (s1.k < ts.length) ∧ Hid (s1.op = s.op) ∧ Hid (zbc ts P owner sign f ns ks s1 = R) ∧ Hid (ns.length ≤ s1.k ∧ ks.length ≤ s1.k)) (fun _ _ wr => ts.length - kAt B wr)
 case atStart => exact ⟨[], [], s, _, _, Q1, zJv (Rw.nil _ _), zJv hk, zJv rfl, zJv hR, zJv ⟨zK8 _, zK8 _⟩⟩
 case round =>
  clear Q1 hR;obtain ⟨ns, ks, s1, f, G, HA, HX, HK, HO, HQ, HL⟩ := hrel;have hP := HQ.out;have hkA := HA.out.kAt;have hl := HL.out;have hkk := HK.out
  cases f with
  | zero => exact absurd hP.symm hu
  | succ f =>
   unfold zbc at hP;have oX := HX.out;obtain ⟨A5, c5, rfl⟩ := za8 oX.r5;obtain ⟨A6, c6, rfl⟩ := za8 oX.r6;go_wp2_with fail
   rcases hM2 : ownM ts owner 1 s1 with ⟨x, s2⟩ | ⟨c, p⟩ | _
   case un => rw [hM2] at hP; (try simp only [R3.unB] at hP); exact absurd hP.symm hu
   case bad =>
    have cc := ownR (B := (B.with G)) hT HB.out HA.out.ps HK.out owner 1 ho;rw [hM2] at cc hP;try simp only [R3.badB] at hP
    refine cc.mono ?_;rintro e w2 ⟨rfl, k2⟩;have A := zJv (HA.out.bad (s0 := s) (HO.out) k2 rfl);clear k2 cc;go_wp2_with fail
    refine ⟨rfl, ?_⟩;rw [← hP];exact ⟨rfl, A.out⟩
   have cc := ownR (B := (B.with G)) hT HB.out HA.out.ps HK.out owner 1 ho;rw [hM2] at cc hP;try simp only [R3.okB] at hP
   obtain ⟨g2, k2, o2⟩ := zlh hT (by decide) s1 x s2 HK.out hM2;refine cc.mono ?_;rintro e w2 ⟨rfl, a2⟩;have q2 := HA.out.call a2;have oX := oX.call HA.out a2;clear a2 cc;have hn5 : ns.length ≤ 1000000 := by omega
   have hn6 : ks.length ≤ 1000000 := by omega
   go_wp2_with (at_builtin; refine zB8 rfl _ _ rfl (v := .slice A5 ns.length c5) (by simp [Act.eval]) oX.r5 (by simp [Act.eval]) rfl hn5 ?_; intro v7 w7 hown hgrow hloc)
   obtain ⟨G7, q7, o7⟩ := oX.app5 q2 hbw hown hgrow hloc;clear oX hown hgrow hloc;have oX := o7;clear o7;rcases hM11 : mustM ts sign s2 with ⟨u, s3⟩ | ⟨c, p⟩ | _
   case un => rw [hM11] at hP; (try simp only [R3.unB] at hP); exact absurd hP.symm hu
   case bad =>
    have cc := mustR (B := (B.with G7)) HB.out q7.ps k2 sign;rw [hM11] at cc hP;try simp only [R3.badB] at hP
    refine cc.mono ?_;rintro e w11 ⟨rfl, k11⟩;have A := zJv (q7.bad (s0 := s) (o2.trans (HO.out)) k11 rfl);clear k11 cc;go_wp2_with fail
    refine ⟨rfl, ?_⟩;rw [← hP];exact ⟨rfl, A.out⟩
   have cc := mustR (B := (B.with G7)) HB.out q7.ps k2 sign;rw [hM11] at cc hP;try simp only [R3.okB] at hP
   obtain ⟨g11, k11, o11⟩ := zap hT s2 u s3 k2 hM11;refine cc.mono ?_;rintro e w11 ⟨rfl, a11⟩;have q11 := q7.call a11;have oX := oX.call q7 a11;clear a11 cc;go_wp2_with fail
   rcases hM12 : P s3 with ⟨i, s4⟩ | ⟨c, p⟩ | _
   case un => rw [hM12] at hP; (try simp only [R3.unB] at hP); exact absurd hP.symm hu
   case bad =>
    have cc := HP0.out (B.with G7) w11 s3 HB.out q11.ps k11 (by rw [hM12]; simp);rw [hM12] at cc hP;try simp only [R3.badB] at hP
    refine cc.mono ?_;rintro e w12 ⟨rfl, k12⟩;have A := zJv (q11.bad (s0 := s) (o11.trans (o2.trans (HO.out))) k12 rfl);clear k12 cc;go_wp2_with fail
    refine ⟨rfl, ?_⟩;rw [← hP];exact ⟨rfl, A.out⟩
   have cc := HP0.out (B.with G7) w11 s3 HB.out q11.ps k11 (by rw [hM12]; simp);rw [hM12] at cc hP;try simp only [R3.okB] at hP
   obtain ⟨g12, k12, o12⟩ := HPR.out s3 i s4 k11 hM12;refine cc.mono ?_;rintro e w12 ⟨rfl, a12⟩;have q12 := q11.call a12;have oX := oX.call q11 a12;clear a12 cc;go_wp2_with (at_builtin; refine zDj rfl _ _ rfl (v := .slice A6 ks.length c6) (by simp [Act.eval]) oX.r6 (by simp [Act.eval]) rfl hn6 ?_; intro v8 w8 hown hgrow hloc)
   obtain ⟨G8, q8, o8⟩ := oX.app6 q12 hbw hown hgrow hloc;clear oX hown hgrow hloc;have oX := o8;clear o8;have hlen : (ns ++ [x]).length ≤ s4.k ∧ (ks ++ [(i : Int)]).length ≤ s4.k := by simp only [zK5, zK2, zKc]; omega
   by_cases hz : isA ts s4 [[125]] = true
   · rw [if_pos hz] at hP
     refine (zei (B := (B.with G8)) HB.out q8.ps k12 [125] hz).mono ?_;rintro e w21 ⟨rfl, a21⟩;have q21 := q8.call a21;have oX := oX.call q8 a21;clear a21;obtain ⟨A7, c7, rfl⟩ := za8 oX.r5;obtain ⟨A8, c8, rfl⟩ := za8 oX.r6;have Q := zJv q21;have QX := zJv oX;clear q21 oX;go_wp2_with fail
     refine bodyPost_ret (v := .tuple #[.slice A7 (ns ++ [x]).length c7, .slice A8 (ks ++ [(i : Int)]).length c8]) (by simp [results, Tryz.results79, go_sem]) rfl ?_;rw [← hP];exact ⟨_, _, _, _, _, _, _, rfl, Q.out, QX.out, zK4 hlen.1 (by omega), zK4 hlen.2 (by omega)⟩
   · rw [if_neg hz] at hP
     have hz2 : isA ts s4 [[125]] = false := by simpa using hz
     refine (zed (B := (B.with G8)) HB.out q8.ps k12 [125] hz2).mono ?_;rintro e w21 ⟨rfl, hb21⟩;have q21 := q8.below hb21;have oX := oX.below hb21;clear hb21;go_wp2_with fail
     rcases hM22 : mustM ts [44] s4 with ⟨u, s5⟩ | ⟨c, p⟩ | _
     case un => rw [hM22] at hP; (try simp only [R3.unB] at hP); exact absurd hP.symm hu
     case bad =>
      have cc := mustR (B := (B.with G8)) HB.out q21.ps k12 [44];rw [hM22] at cc hP;try simp only [R3.badB] at hP
      refine cc.mono ?_;rintro e w22 ⟨rfl, k22⟩;have A := zJv (q21.bad (s0 := s) (o12.trans (o11.trans (o2.trans (HO.out)))) k22 rfl);clear k22 cc;go_wp2_with fail
      refine ⟨rfl, ?_⟩;rw [← hP];exact ⟨rfl, A.out⟩
     have cc := mustR (B := (B.with G8)) HB.out q21.ps k12 [44];rw [hM22] at cc hP;try simp only [R3.okB] at hP
     obtain ⟨g22, k22, o22⟩ := zap hT s4 u s5 k12 hM22;refine cc.mono ?_;rintro e w22 ⟨rfl, a22⟩;have q22 := q21.call a22;have oX := oX.call q21 a22;clear a22 cc;have QX := zJv oX;have Q23 := zJv q22;clear q22 oX;go_wp2_with fail
     exact ⟨⟨_, _, s5, f, _, Q23, QX, zJv k22, zJv (o22.trans (o12.trans (o11.trans (o2.trans (HO.out))))), zJv hP, zJv ⟨by omega, by omega⟩⟩, by
      rw [Q23.out.kAt, hkA]
      omega⟩
end Go.Proofs.YtidmeodmkcomlaaGreatDoor
