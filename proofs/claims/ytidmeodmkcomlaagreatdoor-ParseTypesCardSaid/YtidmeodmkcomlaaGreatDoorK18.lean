/- A term, or a type, of a call's own that is being made: its cells, and its rows, which lie apart; what is put into it, and appended. -/
import Derived.Test.YtidmeodmkcomlaaGreatDoorK17
set_option linter.unusedSimpArgs false
set_option linter.unusedVariables false
namespace Go.Proofs.YtidmeodmkcomlaaGreatDoor
open Go Go.Proofs Go.RowKit
theorem AftO.nest {B : PE} {G G' : Nat → Prop} {w w1 w2 : World} {s s' : St} (h : AftO B G w s w1) (k : AftO (B.with G) G' w1 s' w2) : AftO B (fun b => G b ∨ G' b) w s' w2 := by
 have e : (B.with G).with G' = B.with (fun b => G b ∨ G' b) := by
  unfold PE.with
  simp only [PE.mk.injEq, true_and];funext b
  exact propext or_assoc
 have hm : ∀ b, Mu (B.with G) w2 b ↔ Mu B w2 b := fun b => Iff.rfl
 exact ⟨e ▸ k.ps, h.kt.trans k.kt, h.bel.trans k.bel, fun b hb => by
  rcases hb with hb | hb
  · exact (k.kt.2 b (h.lt hb) (h.nm b hb)).2
  · exact k.nm b hb, fun b hb => by
  rcases hb with hb | hb
  · exact h.ge b hb
  · exact zK4 h.kt.1 (k.ge b hb)⟩
theorem AftO.same2 {B : PE} {G G' : Nat → Prop} {w w1 w2 : World} {s s' : St} (h : AftO B G w s w1) (k : AftO (B.with G) G' w1 s' w2) {b : Nat} (hb : G b) : w2.heap[b]? = w1.heap[b]? := h.same k.out hb
theorem Aft.own {B : PE} {w w1 w2 : World} {s : St} (h : Aft B w s w1) (hb : Below w1.heap.size w1 w2) (G : Nat → Prop) (hg : ∀ b, G b → w1.heap.size ≤ b ∧ b < w2.heap.size) : AftO B G w s w2 :=
 have o := AftO.start h.ps hb G hg;⟨o.ps, h.kt.trans o.kt, h.bel.trans o.bel, o.nm, fun b hb => zK4 h.kt.1 (o.ge b hb)⟩
theorem Aft.own1 {B : PE} {w w1 w2 : World} {s : St} (h : Aft B w s w1) (hb : Below w1.heap.size w1 w2) (g : Nat) (h1 : w1.heap.size ≤ g) (h2 : g < w2.heap.size) : ∃ G : Nat → Prop, G g ∧ AftO B G w s w2 :=
 ⟨fun b => b = g, rfl, h.own hb _ (fun b e => by subst e; exact ⟨h1, h2⟩)⟩
theorem Aft.none {B : PE} {w w1 : World} {s : St} (h : Aft B w s w1) : AftO B (fun _ => False) w s w1 := h.own (zJx _ _) _ (fun _ e => e.elim)
theorem zdb (w : World) (base : Nat) (e : TypeId) (k : Nat) : w.ownsRow base e k (.slice none 0 0) 0 [] := ⟨by simp, .inl ⟨rfl, rfl⟩⟩
theorem zcc {g : Nat} {p : Prop} (h : (Value.slice none 0 0).ownBlock = some g) : p := by simp [Value.ownBlock] at h
theorem AftO.blk {B : PE} {G : Nat → Prop} {w w1 w2 : World} {s s' : St} (h : AftO B G w s w1) (k : Aft (B.with G) w1 s' w2) {X : Nat} {t : TypeId} {cs : Array Value} (m : G X) (hX : Blk w1 X t cs) : Blk w2 X t cs := (h.same k m).trans hX
theorem zda {s : St} {x : TermD} (h : newT s x = .un) : False := by unfold newT at h; split at h <;> cases h
theorem znm {s : St} {x : TypD} (h : newY s x = .un) : False := by unfold newY at h; split at h <;> cases h
theorem zu4 {ts : List Tk} {s : St} {x : List UInt8} (h : mustM ts x s = .un) : False := by unfold mustM at h; split at h <;> cases h
theorem zqi {ts : List Tk} {s : St} {o x : Nat} (h : ownM ts o x s = .un) : False := by
 unfold ownM zag at h;split at h
 · unfold R3.bind at h
   dsimp only at h;split at h <;> cases h
 · cases h
theorem zbx {w : World} {b1 b2 : Nat} {e1 e2 : TypeId} {s1 s2 n1 n2 : Nat} {v1 v2 : Value} {x1 x2 : List Value} (h1 : w.ownsRow b1 e1 s1 v1 n1 x1) (h2 : w.ownsRow b2 e2 s2 v2 n2 x2) (hne : e1 ≠ e2) : v1.ownBlock = none ∨ v1.ownBlock ≠ v2.ownBlock := by
 rcases zae h1 with e | ⟨g, e, _⟩
 · exact .inl e
 · exact .inr (fun e2 => zcp h1 h2 hne g e (e2 ▸ e))
structure OwnT (w : World) (G : Nat → Prop) (X : Nat) (x : TermD) (v5 v6 v7 : Value) : Prop where
 blk : Blk w X 38 #[iv x.kind, iv x.pos, .string x.name, iv x.int, .int .u64 (x.bits : Int), v5, v6, v7]
 gx : G X
 r5 : w.ownsRow 0 9 1 v5 x.names.length (x.names.map .string)
 r6 : w.ownsRow 0 3 1 v6 x.kids.length (x.kids.map iv)
 r7 : w.ownsRow 0 3 1 v7 x.types.length (x.types.map iv)
 g5 : ∀ g, v5.ownBlock = some g → G g
 g6 : ∀ g, v6.ownBlock = some g → G g
 g7 : ∀ g, v7.ownBlock = some g → G g
 d67 : ∀ g, v6.ownBlock = some g → v7.ownBlock ≠ some g
section
variable {B : PE} {G G' : Nat → Prop} {w w1 w2 w3 w4 : World} {s s' : St} {X : Nat} {x : TermD} {v5 v6 v7 v' : Value}
theorem OwnT.call (h : AftO B G w s w1) (k : Aft (B.with G) w1 s' w2) (o : OwnT w1 G X x v5 v6 v7) : OwnT w2 G X x v5 v6 v7 :=
 ⟨(h.same k o.gx).trans o.blk, o.gx, h.row k o.r5 o.g5, h.row k o.r6 o.g6, h.row k o.r7 o.g7, o.g5, o.g6, o.g7, o.d67⟩
theorem OwnT.call2 (h : AftO B G w s w1) (k : AftO (B.with G) G' w1 s' w2) (o : OwnT w1 G X x v5 v6 v7) : OwnT w2 (fun b => G b ∨ G' b) X x v5 v6 v7 :=
 ⟨(h.same2 k o.gx).trans o.blk, .inl o.gx, h.row k.out o.r5 o.g5, h.row k.out o.r6 o.g6, h.row k.out o.r7 o.g7, fun g e => .inl (o.g5 g e), fun g e => .inl (o.g6 g e), fun g e => .inl (o.g7 g e), o.d67⟩
theorem OwnT.below (o : OwnT w1 G X x v5 v6 v7) (hb : Below w1.heap.size w1 w2) : OwnT w2 G X x v5 v6 v7 :=
 ⟨o.blk.below hb o.blk.lt, o.gx, zaj o.r5 hb, zaj o.r6 hb, zaj o.r7 hb, o.g5, o.g6, o.g7, o.d67⟩
theorem OwnT.app5 (h : AftO B G w s w2) (hbw : B.base ≤ w.heap.size) (o : OwnT w2 G X x v5 v6 v7) (hb : Below w2.heap.size w2 w3) {news : List ByteArray} {m : Nat} (hm : news.length = m) (hown : w4.ownsRow 0 9 1 v' (x.names.length + m) (x.names.map .string ++ news.map .string)) (hg : w3.grownBy w4 v5.ownBlock) (hl : v'.ownBlock = v5.ownBlock ∨ v'.ownBlock = some w3.heap.size) :
 ∃ G' : Nat → Prop, AftO B G' w s (w4.setCell ⟨X, 5, none⟩ v') ∧ OwnT (w4.setCell ⟨X, 5, none⟩ v') G' X { x with names := x.names ++ news } v' v6 v7 := by
 have o3 := o.below hb;have h3 := h.below hb;have h4 := h3.app hbw o.g5 hg hl (zb8 hown);have h5 := h4.set (.inl o.gx) 5 v' hbw;have hset : w4.grownBy (w4.setCell ⟨X, 5, none⟩ v') (some X) := za9 (zaf w4 (some X)) (.inl rfl) v';have b4 := o3.blk.grown hg (fun e => za3 o3.r5 o3.blk (by decide) e.symm);have k6 := o3.r6.kept hg (zbx o3.r6 o3.r5 (by decide));have k7 := o3.r7.kept hg (zbx o3.r7 o3.r5 (by decide));have k5 := hown;exact ⟨_, h5, ⟨by have := b4.set_ 5 v'; simpa using this, .inl o.gx, (by simpa [hm] using k5.kept hset (.inr (za3 k5 b4 (by decide)))), k6.kept hset (.inr (za3 k6 b4 (by decide))), k7.kept hset (.inr (za3 k7 b4 (by decide))), (fun g e => .inr e), (fun g e => .inl (o.g6 g e)), (fun g e => .inl (o.g7 g e)), o.d67⟩⟩
theorem OwnT.app6 (h : AftO B G w s w2) (hbw : B.base ≤ w.heap.size) (o : OwnT w2 G X x v5 v6 v7) (hb : Below w2.heap.size w2 w3) {news : List Int} {m : Nat} (hm : news.length = m) (hown : w4.ownsRow 0 3 1 v' (x.kids.length + m) (x.kids.map iv ++ news.map iv)) (hg : w3.grownBy w4 v6.ownBlock) (hl : v'.ownBlock = v6.ownBlock ∨ v'.ownBlock = some w3.heap.size) :
 ∃ G' : Nat → Prop, AftO B G' w s (w4.setCell ⟨X, 6, none⟩ v') ∧ OwnT (w4.setCell ⟨X, 6, none⟩ v') G' X { x with kids := x.kids ++ news } v5 v' v7 := by
 have o3 := o.below hb;have h3 := h.below hb;have h4 := h3.app hbw o.g6 hg hl (zb8 hown);have h5 := h4.set (.inl o.gx) 6 v' hbw;have hset : w4.grownBy (w4.setCell ⟨X, 6, none⟩ v') (some X) := za9 (zaf w4 (some X)) (.inl rfl) v';have b4 := o3.blk.grown hg (fun e => za3 o3.r6 o3.blk (by decide) e.symm);have k5 := o3.r5.kept hg (zbx o3.r5 o3.r6 (by decide));have k7 := o3.r7.kept hg ((by rcases zae o3.r7 with e | ⟨g, e, _⟩; exact .inl e; exact .inr (fun e2 => o.d67 g (e2 ▸ e) e)));have k6 := hown
 exact ⟨_, h5, ⟨by have := b4.set_ 6 v'; simpa using this, .inl o.gx, k5.kept hset (.inr (za3 k5 b4 (by decide))), (by simpa [hm] using k6.kept hset (.inr (za3 k6 b4 (by decide)))), k7.kept hset (.inr (za3 k7 b4 (by decide))), (fun g e => .inl (o.g5 g e)), (fun g e => .inr e), (fun g e => .inl (o.g7 g e)), (fun g e k => by
  rcases hl with q | q
  · exact o.d67 g (q ▸ e) k
  · rw [q] at e; have := zb8 o3.r7 g k; injection e with e; omega)⟩⟩
theorem OwnT.new (h : AftO B G w s w1) (o : OwnT w1 G X x v5 v6 v7) (hf : zdr x) : Calls Tryz.prog 114 #[B.ptr, .agg #[iv x.kind, iv x.pos, .string x.name, iv x.int, .int .u64 (x.bits : Int), v5, v6, v7]] w1 (Res natV (B.with G) w1 s (newT s x)) := by
 obtain ⟨A5, c5, rfl, _, k5⟩ := SlAt.of_own o.r5;obtain ⟨A6, c6, rfl, _, k6⟩ := SlAt.of_own o.r6;obtain ⟨A7, c7, rfl, _, k7⟩ := SlAt.of_own o.r7;exact zl2 h.ps x ⟨A5, c5, A6, c6, A7, c7⟩ ⟨k5.imp (fun b q => q.2), k6.imp (fun b q => q.2), k7.imp (fun b q => q.2)⟩ hf
end
structure OwnY (w : World) (G : Nat → Prop) (X : Nat) (x : TypD) (v3 v4 : Value) : Prop where
 blk : Blk w X 40 #[iv x.kind, iv x.pos, .string x.name, v3, v4, .bool x.opn]
 gx : G X
 r3 : w.ownsRow 0 9 1 v3 x.names.length (x.names.map .string)
 r4 : w.ownsRow 0 3 1 v4 x.kids.length (x.kids.map iv)
 g3 : ∀ g, v3.ownBlock = some g → G g
 g4 : ∀ g, v4.ownBlock = some g → G g
section
variable {B : PE} {G G' : Nat → Prop} {w w1 w2 w3 w4 : World} {s s' : St} {X : Nat} {x : TypD} {v3 v4 v' : Value}
theorem OwnY.call (h : AftO B G w s w1) (k : Aft (B.with G) w1 s' w2) (o : OwnY w1 G X x v3 v4) : OwnY w2 G X x v3 v4 :=
 ⟨(h.same k o.gx).trans o.blk, o.gx, h.row k o.r3 o.g3, h.row k o.r4 o.g4, o.g3, o.g4⟩
theorem OwnY.call2 (h : AftO B G w s w1) (k : AftO (B.with G) G' w1 s' w2) (o : OwnY w1 G X x v3 v4) : OwnY w2 (fun b => G b ∨ G' b) X x v3 v4 :=
 ⟨(h.same2 k o.gx).trans o.blk, .inl o.gx, h.row k.out o.r3 o.g3, h.row k.out o.r4 o.g4, fun g e => .inl (o.g3 g e), fun g e => .inl (o.g4 g e)⟩
theorem OwnY.below (o : OwnY w1 G X x v3 v4) (hb : Below w1.heap.size w1 w2) : OwnY w2 G X x v3 v4 :=
 ⟨o.blk.below hb o.blk.lt, o.gx, zaj o.r3 hb, zaj o.r4 hb, o.g3, o.g4⟩
theorem OwnY.was3 (o : OwnY w2 G X x v3 v4) (hb : Below w2.heap.size w2 w3) (hg : w3.grownBy w4 v3.ownBlock) : Blk w4 X 40 #[iv x.kind, iv x.pos, .string x.name, v3, v4, .bool x.opn] :=
 (o.below hb).blk.grown hg (fun e => za3 (o.below hb).r3 (o.below hb).blk (by decide) e.symm)
theorem OwnY.was4 (o : OwnY w2 G X x v3 v4) (hb : Below w2.heap.size w2 w3) (hg : w3.grownBy w4 v4.ownBlock) : Blk w4 X 40 #[iv x.kind, iv x.pos, .string x.name, v3, v4, .bool x.opn] :=
 (o.below hb).blk.grown hg (fun e => za3 (o.below hb).r4 (o.below hb).blk (by decide) e.symm)
theorem OwnY.new (h : AftO B G w s w1) (o : OwnY w1 G X x v3 v4) (hf : zff x) : Calls Tryz.prog 49 #[B.ptr, .agg #[iv x.kind, iv x.pos, .string x.name, v3, v4, .bool x.opn]] w1 (Res natV (B.with G) w1 s (newY s x)) := by
 obtain ⟨A3, c3, rfl, _, k3⟩ := SlAt.of_own o.r3;obtain ⟨A4, c4, rfl, _, k4⟩ := SlAt.of_own o.r4;exact zin h.ps x ⟨A3, c3, A4, c4⟩ ⟨k3.imp (fun b q => q.2), k4.imp (fun b q => q.2)⟩ hf
end
theorem Blk.at_ {w : World} {g : Nat} {t : TypeId} {cs : Array Value} {j : Nat} {u : Value} (h : Blk w g t cs) (hu : cs[j]? = some u) : w.cell? ⟨g, j, none⟩ = some u := (h.cell j).trans hu
section
variable {B : PE} {G : Nat → Prop} {w w1 : World} {s : St} {X : Nat} {x : TermD} {v5 v6 v7 : Value}
theorem OwnT.fresh (h : Aft B w s w1) (kind pos : Int) (name : ByteArray) : ∃ G : Nat → Prop, AftO B G w s (w1.alloc (.cells #[iv kind, iv pos, .string name, .int .i64 0, .int .u64 0, .slice Option.none 0 0, .slice Option.none 0 0, .slice Option.none 0 0] 38)) ∧ OwnT (w1.alloc (.cells #[iv kind, iv pos, .string name, .int .i64 0, .int .u64 0, .slice Option.none 0 0, .slice Option.none 0 0, .slice Option.none 0 0] 38)) G w1.heap.size ⟨kind, pos, name, 0, 0, [], [], []⟩ (.slice Option.none 0 0) (.slice Option.none 0 0) (.slice Option.none 0 0) := by
 have hb : Below w1.heap.size w1 (w1.alloc (.cells #[iv kind, iv pos, .string name, .int .i64 0, .int .u64 0, .slice Option.none 0 0, .slice Option.none 0 0, .slice Option.none 0 0] 38)) := (zJx _ _).alloc (zJw _) _;have hX := Blk.new w1 38 #[iv kind, iv pos, .string name, .int .i64 0, .int .u64 0, .slice Option.none 0 0, .slice Option.none 0 0, .slice Option.none 0 0];obtain ⟨G, m, a⟩ := h.own1 hb w1.heap.size (zJw _) hX.lt;exact ⟨G, a, ⟨hX, m, zdb _ _ _ _, zdb _ _ _ _, zdb _ _ _ _, fun g e => zcc e, fun g e => zcc e, fun g e => zcc e, fun g e => zcc e⟩⟩
theorem OwnY.fresh (h : Aft B w s w1) (kind pos : Int) (name : ByteArray) : ∃ G : Nat → Prop, AftO B G w s (w1.alloc (.cells #[iv kind, iv pos, .string name, .slice Option.none 0 0, .slice Option.none 0 0, .bool false] 40)) ∧ OwnY (w1.alloc (.cells #[iv kind, iv pos, .string name, .slice Option.none 0 0, .slice Option.none 0 0, .bool false] 40)) G w1.heap.size ⟨kind, pos, name, [], [], false⟩ (.slice Option.none 0 0) (.slice Option.none 0 0) := by
 have hb : Below w1.heap.size w1 (w1.alloc (.cells #[iv kind, iv pos, .string name, .slice Option.none 0 0, .slice Option.none 0 0, .bool false] 40)) := (zJx _ _).alloc (zJw _) _;have hX := Blk.new w1 40 #[iv kind, iv pos, .string name, .slice Option.none 0 0, .slice Option.none 0 0, .bool false];obtain ⟨G, m, a⟩ := h.own1 hb w1.heap.size (zJw _) hX.lt;exact ⟨G, a, ⟨hX, m, zdb _ _ _ _, zdb _ _ _ _, fun g e => zcc e, fun g e => zcc e⟩⟩
end
section
variable {w : World} {v : Value} {n : Nat} {xs : List Value} {u : Value}
theorem zcj {ops : Array Oper} {o : Oper} {a : Act} {K : Act → World → Prop} {Q : Exit → Act → World → Prop} {E : Prop} (hgd : o.guard = none) (s x : Operand)
 (ho : o.op = .call { callee := .builtin .append, args := #[s, x], argTypes := #[36, 36] })
 (hs : a.eval s = v) (hown : w.ownsRow 0 3 1 v n xs) (hx : a.eval x = .slice (some ⟨w.heap.size, 0, none⟩) 1 1) (h1 : u.oneCell' = true) (hn : n ≤ 1000000)
 (h : ∀ v' w', w'.ownsRow 0 3 1 v' (n + 1) (xs ++ [u]) → (w.alloc (.cells #[u] 3)).grownBy w' v.ownBlock → (v'.ownBlock = v.ownBlock ∨ v'.ownBlock = some (w.alloc (.cells #[u] 3)).heap.size) → K (a.put o.dst v') w') :
 if Region.wanted o (yielded ops a.tmps) = true then Oper.wp Tryz.prog o a (w.alloc (.cells #[u] 3)) K Q else E := by
 obtain ⟨i0, hi, hz0, hz1, hz2⟩ := info_parts info3;exact zdy (P := Tryz.prog) _ hgd s x 36 ho 0 3 i0 (.int .i64 0) 1 8 Tryz.underlying36 hi hz0 hz1 hz2 rfl (by decide) v n xs hs (zaj hown ((zJx _ _).alloc (zJw _) _)) (some ⟨w.heap.size, 0, none⟩) 1 1 [u] hx rfl (zeh w u 3) (by intro u' hu; simp only [zK7] at hu; subst hu; exact h1) (by unfold maxLen; omega) (by omega) (zK8 _) h
theorem zDj {ops : Array Oper} {rest : List Oper} {o : Oper} {a : Act} {Q : Exit → Act → World → Prop} (hgd : o.guard = none) (s x : Operand)
 (ho : o.op = .call { callee := .builtin .append, args := #[s, x], argTypes := #[36, 36] })
 (hs : a.eval s = v) (hown : w.ownsRow 0 3 1 v n xs) (hx : a.eval x = .slice (some ⟨w.heap.size, 0, none⟩) 1 1) (h1 : u.oneCell' = true) (hn : n ≤ 1000000)
 (h : ∀ v' w', w'.ownsRow 0 3 1 v' (n + 1) (xs ++ [u]) → (w.alloc (.cells #[u] 3)).grownBy w' v.ownBlock → (v'.ownBlock = v.ownBlock ∨ v'.ownBlock = some (w.alloc (.cells #[u] 3)).heap.size) → wpList Tryz.prog ops Q rest (a.put o.dst v') w') :
 wpList Tryz.prog ops Q (o :: rest) a (w.alloc (.cells #[u] 3)) := by
 obtain ⟨i0, hi, hz0, hz1, hz2⟩ := info_parts info3;exact zca (P := Tryz.prog) _ hgd s x 36 ho 0 3 i0 (.int .i64 0) 1 8 Tryz.underlying36 hi hz0 hz1 hz2 rfl (by decide) v n xs hs (zaj hown ((zJx _ _).alloc (zJw _) _)) (some ⟨w.heap.size, 0, none⟩) 1 1 [u] hx rfl (zeh w u 3) (by intro u' hu; simp only [zK7] at hu; subst hu; exact h1) (by unfold maxLen; omega) (by omega) (zK8 _) h
end
section
variable {w : World} {v : Value} {n : Nat} {xs : List Value} {u : Value}
theorem zhd {ops : Array Oper} {o : Oper} {a : Act} {K : Act → World → Prop} {Q : Exit → Act → World → Prop} {E : Prop} (hgd : o.guard = none) (s x : Operand)
 (ho : o.op = .call { callee := .builtin .append, args := #[s, x], argTypes := #[35, 35] })
 (hs : a.eval s = v) (hown : w.ownsRow 0 9 1 v n xs) (hx : a.eval x = .slice (some ⟨w.heap.size, 0, none⟩) 1 1) (h1 : u.oneCell' = true) (hn : n ≤ 1000000)
 (h : ∀ v' w', w'.ownsRow 0 9 1 v' (n + 1) (xs ++ [u]) → (w.alloc (.cells #[u] 9)).grownBy w' v.ownBlock → (v'.ownBlock = v.ownBlock ∨ v'.ownBlock = some (w.alloc (.cells #[u] 9)).heap.size) → K (a.put o.dst v') w') :
 if Region.wanted o (yielded ops a.tmps) = true then Oper.wp Tryz.prog o a (w.alloc (.cells #[u] 9)) K Q else E := by
 obtain ⟨i0, hi, hz0, hz1, hz2⟩ := info_parts info9;exact zdy (P := Tryz.prog) _ hgd s x 35 ho 0 9 i0 (.string ByteArray.empty) 1 16 Tryz.underlying35 hi hz0 hz1 hz2 rfl (by decide) v n xs hs (zaj hown ((zJx _ _).alloc (zJw _) _)) (some ⟨w.heap.size, 0, none⟩) 1 1 [u] hx rfl (zeh w u 9) (by intro u' hu; simp only [zK7] at hu; subst hu; exact h1) (by unfold maxLen; omega) (by omega) (zK8 _) h
theorem zB8 {ops : Array Oper} {rest : List Oper} {o : Oper} {a : Act} {Q : Exit → Act → World → Prop} (hgd : o.guard = none) (s x : Operand)
 (ho : o.op = .call { callee := .builtin .append, args := #[s, x], argTypes := #[35, 35] })
 (hs : a.eval s = v) (hown : w.ownsRow 0 9 1 v n xs) (hx : a.eval x = .slice (some ⟨w.heap.size, 0, none⟩) 1 1) (h1 : u.oneCell' = true) (hn : n ≤ 1000000)
 (h : ∀ v' w', w'.ownsRow 0 9 1 v' (n + 1) (xs ++ [u]) → (w.alloc (.cells #[u] 9)).grownBy w' v.ownBlock → (v'.ownBlock = v.ownBlock ∨ v'.ownBlock = some (w.alloc (.cells #[u] 9)).heap.size) → wpList Tryz.prog ops Q rest (a.put o.dst v') w') :
 wpList Tryz.prog ops Q (o :: rest) a (w.alloc (.cells #[u] 9)) := by
 obtain ⟨i0, hi, hz0, hz1, hz2⟩ := info_parts info9;exact zca (P := Tryz.prog) _ hgd s x 35 ho 0 9 i0 (.string ByteArray.empty) 1 16 Tryz.underlying35 hi hz0 hz1 hz2 rfl (by decide) v n xs hs (zaj hown ((zJx _ _).alloc (zJw _) _)) (some ⟨w.heap.size, 0, none⟩) 1 1 [u] hx rfl (zeh w u 9) (by intro u' hu; simp only [zK7] at hu; subst hu; exact h1) (by unfold maxLen; omega) (by omega) (zK8 _) h
end
theorem OwnT.mono {w : World} {G G' : Nat → Prop} {X : Nat} {x : TermD} {v5 v6 v7 : Value} (o : OwnT w G X x v5 v6 v7) (h : ∀ b, G b → G' b) : OwnT w G' X x v5 v6 v7 := ⟨o.blk, h _ o.gx, o.r5, o.r6, o.r7, fun g e => h _ (o.g5 g e), fun g e => h _ (o.g6 g e), fun g e => h _ (o.g7 g e), o.d67⟩
theorem OwnY.mono {w : World} {G G' : Nat → Prop} {X : Nat} {x : TypD} {v3 v4 : Value} (o : OwnY w G X x v3 v4) (h : ∀ b, G b → G' b) : OwnY w G' X x v3 v4 := ⟨o.blk, h _ o.gx, o.r3, o.r4, fun g e => h _ (o.g3 g e), fun g e => h _ (o.g4 g e)⟩
theorem zgi {g n m : Nat} {A : Addr} (h : (Value.slice (some A) n m).ownBlock = some g) : g = A.block := by simpa [Value.ownBlock] using h.symm
section
variable {B : PE} {G : Nat → Prop} {w w1 : World} {s : St} {X : Nat} {x : TermD} {v5 v6 v7 u5 u6 u7 : Value}
end
section
variable {B : PE} {G : Nat → Prop} {w w1 : World} {s : St} {X : Nat} {x : TypD} {v3 v4 u3 u4 : Value}
theorem OwnY.put34 (h : AftO B G w s w1) (hbw : B.base ≤ w.heap.size) (o : OwnY w1 G X x v3 v4) {ns : List ByteArray} {ks : List Int} (h3 : w1.ownsRow 0 9 1 u3 ns.length (ns.map .string)) (g3 : ∀ g, u3.ownBlock = some g → G g) (h4 : w1.ownsRow 0 3 1 u4 ks.length (ks.map iv)) (g4 : ∀ g, u4.ownBlock = some g → G g) :
 AftO B G w s ((w1.setCell ⟨X, 3, none⟩ u3).setCell ⟨X, 4, none⟩ u4) ∧ OwnY ((w1.setCell ⟨X, 3, none⟩ u3).setCell ⟨X, 4, none⟩ u4) G X { x with names := ns, kids := ks } u3 u4 := by
 have s1 : w1.grownBy (w1.setCell ⟨X, 3, none⟩ u3) (some X) := za9 (zaf w1 (some X)) (.inl rfl) _;have s2 : (w1.setCell ⟨X, 3, none⟩ u3).grownBy ((w1.setCell ⟨X, 3, none⟩ u3).setCell ⟨X, 4, none⟩ u4) (some X) := za9 (zaf _ (some X)) (.inl rfl) _;have b1 := o.blk.set_ 3 u3;have b2 := b1.set_ 4 u4
 have k : ∀ {e n v xs}, e ≠ 40 → w1.ownsRow 0 e 1 v n xs → ((w1.setCell ⟨X, 3, none⟩ u3).setCell ⟨X, 4, none⟩ u4).ownsRow 0 e 1 v n xs := fun he hr =>
  have r1 := hr.kept s1 (.inr (za3 hr o.blk he));r1.kept s2 (.inr (za3 r1 b1 he))
 exact ⟨(h.set o.gx 3 _ hbw).set o.gx 4 _ hbw, ⟨by simpa using b2, o.gx, k (by decide) h3, k (by decide) h4, g3, g4⟩⟩
end
section
variable {B : PE} {G : Nat → Prop} {w w1 w2 w3 w4 : World} {s : St} {X : Nat} {x : TermD} {v5 v6 v7 v' : Value}
end
end Go.Proofs.YtidmeodmkcomlaaGreatDoor
