/- A parser in memory: its block, its tokens, what it has built; and what a rule leaves as it is. -/
import Derived.Test.YtidmeodmkcomlaaGreatDoorK08
set_option linter.unusedSimpArgs false
set_option linter.unusedVariables false
namespace Go.Proofs.YtidmeodmkcomlaaGreatDoor
open Go Go.Proofs Go.RowKit
structure PE where
 g : Nat
 cap : Nat
 pb : Nat
 cb : Nat
 base : Nat
 mb : Nat
 ts : List Tk
 L : Nat → Prop
abbrev PE.cells (B : PE) (s : St) : Array Value := #[.slice (some ⟨B.g, 0, none⟩) B.ts.length B.cap, .int .i64 (s.k : Nat), .int .i64 (s.op : Nat), .map (some B.mb), .pointer (some ⟨B.cb, 0, none⟩)]
def Mu (B : PE) (w : World) (b : Nat) : Prop := (b = B.pb ∨ b = B.mb) ∨ b = B.cb ∨ ∃ j v, w.cell? ⟨B.cb, j, none⟩ = some v ∧ v.ownBlock = some b
def Kt (B : PE) (w w' : World) : Prop := w.heap.size ≤ w'.heap.size ∧ ∀ b, b < w.heap.size → ¬ Mu B w b → w'.heap[b]? = w.heap[b]? ∧ ¬ Mu B w' b
theorem Kt.refl (B : PE) (w : World) : Kt B w w := ⟨zJw _, fun _ _ h => ⟨rfl, h⟩⟩
theorem Kt.trans {B : PE} {a b c : World} (h : Kt B a b) (k : Kt B b c) : Kt B a c := ⟨zK4 h.1 k.1, fun g hg hm => by
 obtain ⟨e1, m1⟩ := h.2 g hg hm;obtain ⟨e2, m2⟩ := k.2 g (zJy hg h.1) m1
 exact ⟨e2.trans e1, m2⟩⟩
theorem Kt.block {B : PE} {w w' : World} (h : Kt B w w') {b : Nat} (hb : b < w.heap.size) (hm : ¬ Mu B w b) : w'.heap[b]? = w.heap[b]? := (h.2 b hb hm).1
theorem zgv {B : PE} {w w' : World} {n : Nat} (hb : Below n w w') (hc : B.cb < n) (b : Nat) : Mu B w' b ↔ Mu B w b := by
 unfold Mu;have e : ∀ j, w'.cell? ⟨B.cb, j, none⟩ = w.cell? ⟨B.cb, j, none⟩ := fun j => hb.cell (p := ⟨B.cb, j, none⟩) hc;simp only [e]
theorem Kt.of_below {B : PE} {w w' : World} (h : Below w.heap.size w w') (hc : B.cb < w.heap.size) : Kt B w w' := ⟨h.size, fun b hb hm => ⟨h.block b hb, fun k => hm ((zgv h hc b).1 k)⟩⟩
section
variable {Pb Qb : Nat → Prop} {w : World}
theorem SlAt.and {A : Option Addr} {n : Nat} {xs : List Value} (h : SlAt Pb w A n xs) (k : SlAt Qb w A n xs) : SlAt (fun b => Pb b ∧ Qb b) w A n xs :=
 ⟨h.1, fun hn => by
  obtain ⟨b, off, e, hb, hc⟩ := h.2 hn;obtain ⟨b', off', e', hb', _⟩ := k.2 hn;rw [e] at e';injection e' with e'
  injection e' with e1 e2
  subst e1
  exact ⟨b, off, e, ⟨hb, hb'⟩, hc⟩⟩
theorem TermOk.and {x : TermD} {p : Ptr3} (h : TermOk Pb w x p) (k : TermOk Qb w x p) : TermOk (fun b => Pb b ∧ Qb b) w x p := ⟨h.1.and k.1, h.2.1.and k.2.1, h.2.2.and k.2.2⟩
theorem TypOk.and {x : TypD} {p : Ptr2} (h : TypOk Pb w x p) (k : TypOk Qb w x p) : TypOk (fun b => Pb b ∧ Qb b) w x p := ⟨h.1.and k.1, h.2.and k.2⟩
end
structure BuiltIn (B : PE) (w : World) (v1 v2 v3 : Value) (r1 : List (TermD × Ptr3)) (r2 : List (TypD × Ptr2)) (r3 : List AliD) : Prop where
 tr : TreeOwn w B.base B.cb 99 v1 v2 v3 r1 r2 r3
 q1 : ∀ x ∈ r1, TermOk (fun b => b ≠ B.pb ∧ ¬ B.L b) w x.1 x.2
 q2 : ∀ x ∈ r2, TypOk (fun b => b ≠ B.pb ∧ ¬ B.L b) w x.1 x.2
theorem BuiltIn.ne {B : PE} {w : World} {v1 v2 v3 : Value} {r1 : List (TermD × Ptr3)} {r2 : List (TypD × Ptr2)} {r3 : List AliD} {cs : Array Value} (h : BuiltIn B w v1 v2 v3 r1 r2 r3) (hg : Blk w B.pb 75 cs) : B.pb ≠ B.cb := fun e => by
 have h1 := h.tr.blk;unfold Blk at h1 hg;rw [← e, hg] at h1;injection h1 with h1
 injection h1 with _ h1
 exact absurd h1 (by decide)
def BuiltAt (B : PE) (w : World) (t1 : List TermD) (t2 : List TypD) (t3 : List AliD) : Prop := ∃ v1 v2 v3 r1 r2 r3, BuiltIn B w v1 v2 v3 r1 r2 r3 ∧ r1.map (·.1) = t1 ∧ r2.map (·.1) = t2 ∧ r3 = t3
def zdr (x : TermD) : Prop := x.names.length ≤ 65536 ∧ x.kids.length ≤ 65536 ∧ x.types.length ≤ 65536
def zff (x : TypD) : Prop := x.names.length ≤ 65536 ∧ x.kids.length ≤ 65536
structure PS (B : PE) (w : World) (s : St) : Prop where
 env : Env w
 blk : Blk w B.pb 75 (B.cells s)
 tok : ∀ j u, (tkV B.ts)[j]? = some u → w.cell? ⟨B.g, j, none⟩ = some u
 gb : B.g < B.base
 b6 : 6 ≤ B.base
 bw : B.base ≤ w.heap.size
 pbb : B.base ≤ B.pb
 cap : B.ts.length ≤ B.cap
 built : BuiltAt B w s.t1 s.t2 s.t3
 n1 : s.t1.length ≤ 65536
 n2 : s.t2.length ≤ 65536
 f1 : ∀ x ∈ s.t1, zdr x
 f2 : ∀ x ∈ s.t2, zff x
 kb : s.k ≤ 4294967296
 ob : s.op ≤ 256
 lb : B.ts.length ≤ 2097152
 ll : ∀ b, B.L b → b < w.heap.size
 mp : MapAt w B.mb s.m
 mb : B.base ≤ B.mb
 ml : ¬ B.L B.mb
 mle : s.m.length ≤ s.k
 n3 : s.t3.length ≤ s.k
theorem BuiltIn.mbn {B : PE} {w : World} {v1 v2 v3 : Value} {r1 : List (TermD × Ptr3)} {r2 : List (TypD × Ptr2)} {r3 : List AliD} {m : List Bo} (h : BuiltIn B w v1 v2 v3 r1 r2 r3) (hm : MapAt w B.mb m) : B.mb ≠ B.cb ∧ v1.ownBlock ≠ some B.mb ∧ v2.ownBlock ≠ some B.mb ∧ v3.ownBlock ≠ some B.mb := by
 have hr : ∀ {base : Nat} {e : TypeId} {k n : Nat} {v : Value} {xs : List Value}, w.ownsRow base e k v n xs → v.ownBlock ≠ some B.mb := fun {base e k n v xs} hr he => by
  rcases hr.2 with ⟨rfl, _⟩ | ⟨g, cap, cur, rfl, _, hh, _⟩
  · simp [Value.ownBlock] at he
  · simp only [Value.ownBlock, zKt] at he
    rw [he] at hh;exact hm.no_cells hh
 exact ⟨fun e => by
  have h1 := h.tr.blk;unfold Blk at h1;rw [← e] at h1
  exact hm.no_cells h1, hr h.tr.o1, hr h.tr.o2, hr h.tr.o3⟩
theorem PS.pbm {B : PE} {w : World} {s : St} (h : PS B w s) : B.mb ≠ B.pb := fun e => by
 have h1 := h.blk;unfold Blk at h1;rw [← e] at h1;exact h.mp.no_cells h1
theorem PS.cbl {B : PE} {w : World} {s : St} (h : PS B w s) : B.cb < w.heap.size := by
 obtain ⟨_, _, _, _, _, _, hB, _⟩ := h.built;exact hB.tr.blk.lt
theorem PS.ne {B : PE} {w : World} {s : St} (h : PS B w s) : B.pb ≠ B.cb := by
 obtain ⟨_, _, _, _, _, _, hB, _⟩ := h.built;exact hB.ne h.blk
theorem PS.fresh {B : PE} {w w' : World} {s : St} (h : PS B w s) (hb : Below w.heap.size w w') {b : Nat} (hn : w.heap.size ≤ b) : ¬ Mu B w' b := fun k => by
 obtain ⟨v1, v2, v3, r1, r2, r3, hB, _⟩ := h.built;rcases (zgv hb h.cbl b).1 k with (e | e) | e | ⟨j, v, e, e2⟩
 · have := h.blk.lt; omega
 · have := h.mp.lt; omega
 · have := h.cbl; omega
 · have hc := hB.tr.blk.cell j
   rw [hc] at e
   match j, e with
   | 0, e => simp at e; subst e; have := zb8 hB.tr.o1 b e2; omega
   | 1, e => simp at e; subst e; have := zb8 hB.tr.o2 b e2; omega
   | 2, e => simp at e; subst e; have := zb8 hB.tr.o3 b e2; omega
   | j + 3, e => simp at e
structure Aft (B : PE) (w : World) (s : St) (w' : World) : Prop where
 ps : PS B w' s
 kt : Kt B w w'
 bel : Below B.base w w'
theorem Aft.refl {B : PE} {w : World} {s : St} (h : PS B w s) : Aft B w s w := ⟨h, Kt.refl B w, zJx _ w⟩
theorem Aft.trans {B : PE} {w w1 w2 : World} {s s' : St} (h : Aft B w s w1) (k : Aft B w1 s' w2) : Aft B w s' w2 := ⟨k.ps, h.kt.trans k.kt, h.bel.trans k.bel⟩
theorem BuiltIn.below {B : PE} {w w' : World} {v1 v2 v3 : Value} {r1 : List (TermD × Ptr3)} {r2 : List (TypD × Ptr2)} {r3 : List AliD} (h : BuiltIn B w v1 v2 v3 r1 r2 r3) (hb : Below w.heap.size w w') : BuiltIn B w' v1 v2 v3 r1 r2 r3 :=
 ⟨h.tr.below hb, fun x hx => (((h.tr.k1 x hx).and (h.q1 x hx)).keep (fun b o k => hb.cell (p := ⟨b, o, none⟩) k.1.2.1)).imp (fun _ k => k.2),
  fun x hx => (((h.tr.k2 x hx).and (h.q2 x hx)).keep (fun b o k => hb.cell (p := ⟨b, o, none⟩) k.1.2.1)).imp (fun _ k => k.2)⟩
theorem BuiltAt.below {B : PE} {w w' : World} {t1 : List TermD} {t2 : List TypD} {t3 : List AliD} (h : BuiltAt B w t1 t2 t3) (hb : Below w.heap.size w w') : BuiltAt B w' t1 t2 t3 := by
 obtain ⟨v1, v2, v3, r1, r2, r3, h, e1, e2, e9⟩ := h;exact ⟨v1, v2, v3, r1, r2, r3, h.below hb, e1, e2, e9⟩
theorem PS.below {B : PE} {w w' : World} {s : St} (h : PS B w s) (hb : Below w.heap.size w w') : PS B w' s :=
 { h with
   env := h.env.on hb
   blk := h.blk.below hb h.blk.lt
   tok := fun j u hu => (hb.cell (p := ⟨B.g, j, none⟩) (zJy h.gb h.bw)).trans (h.tok j u hu)
   bw := zK4 h.bw hb.size
   ll := fun b hl => zJy (h.ll b hl) hb.size
   mp := h.mp.same (hb.block B.mb h.mp.lt)
   built := h.built.below hb }
theorem PS.aft {B : PE} {w w' : World} {s : St} (h : PS B w s) (hb : Below w.heap.size w w') : Aft B w s w' := ⟨h.below hb, Kt.of_below hb h.cbl, hb.mono h.bw⟩
theorem Aft.below {B : PE} {w w1 w2 : World} {s : St} (h : Aft B w s w1) (hb : Below w1.heap.size w1 w2) : Aft B w s w2 := h.trans (h.ps.aft hb)
theorem BuiltIn.set_ {B : PE} {w : World} {v1 v2 v3 : Value} {r1 : List (TermD × Ptr3)} {r2 : List (TypD × Ptr2)} {r3 : List AliD} {cs : Array Value} (h : BuiltIn B w v1 v2 v3 r1 r2 r3) (hg : Blk w B.pb 75 cs) (k : Nat) (u : Value) : BuiltIn B (w.setCell ⟨B.pb, k, none⟩ u) v1 v2 v3 r1 r2 r3 := by
 have hset : w.grownBy (w.setCell ⟨B.pb, k, none⟩ u) (some B.pb) := za9 (zaf w (some B.pb)) (.inl rfl) u;have hne := h.ne hg;have hkp : ∀ b o, b ≠ B.pb → (w.setCell ⟨B.pb, k, none⟩ u).cell? ⟨b, o, none⟩ = w.cell? ⟨b, o, none⟩ := fun b o hb => zK0 _ _ _ _ (by intro e; injection e with e; exact hb e.symm);have hsz : (w.setCell ⟨B.pb, k, none⟩ u).heap.size = w.heap.size := by simp
 have him : ∀ b, Part w B.base B.cb v1 v2 v3 b → Part (w.setCell ⟨B.pb, k, none⟩ u) B.base B.cb v1 v2 v3 b := fun b hp => ⟨hp.1, by rw [hsz]; exact hp.2.1, hp.2.2⟩
 refine ⟨⟨h.tr.blk.grown hset (fun e => hne (by injection e with e; exact e.symm)), h.tr.tys, h.tr.bas, h.tr.o1.kept hset (.inr (za3 h.tr.o1 hg (by decide))), h.tr.o2.kept hset (.inr (za3 h.tr.o2 hg (by decide))), h.tr.o3.kept hset (.inr (za3 h.tr.o3 hg (by decide))),
  fun x hx => (((h.tr.k1 x hx).and (h.q1 x hx)).keep (fun b o q => hkp b o q.2.1)).imp (fun b q => him b q.1), fun x hx => (((h.tr.k2 x hx).and (h.q2 x hx)).keep (fun b o q => hkp b o q.2.1)).imp (fun b q => him b q.1)⟩,
  fun x hx => (h.q1 x hx).keep (fun b o q => hkp b o q.1), fun x hx => (h.q2 x hx).keep (fun b o q => hkp b o q.1)⟩
theorem zq3 {B : PE} {w : World} (hc : B.pb ≠ B.cb) (k : Nat) (u : Value) : Kt B w (w.setCell ⟨B.pb, k, none⟩ u) := by
 refine ⟨by simp, fun b hb hm => ⟨zKp _ _ _ _ (fun e => hm (.inl (.inl e))), fun k2 => hm ?_⟩⟩;rcases k2 with e | e | ⟨j, v, e, e2⟩
 · exact .inl e
 · exact .inr (.inl e)
 · refine .inr (.inr ⟨j, v, ?_, e2⟩)
   rw [zK0 _ _ _ _ (by intro e; injection e with e; exact hc e)] at e;exact e
theorem PS.set_ {B : PE} {w : World} {s : St} (h : PS B w s) (k op : Nat) (j : Nat) (u : Value) (hkk : s.k ≤ k) (hk : k ≤ 4294967296) (ho : op ≤ 256) (hc : (B.cells s).setIfInBounds j u = B.cells { s with k := k, op := op }) : Aft B w { s with k := k, op := op } (w.setCell ⟨B.pb, j, none⟩ u) := by
 have hb : Below B.base w (w.setCell ⟨B.pb, j, none⟩ u) := (zJx _ w).setCell h.pbb u;have hp := h.blk.set_ j u;rw [hc] at hp;obtain ⟨v1, v2, v3, r1, r2, r3, hB, e1, e2, e9⟩ := h.built
 exact ⟨{ h with
  env := h.env.below h.b6 hb (by simpa using h.env.size)
  blk := hp
  tok := fun j u hu => (hb.cell (p := ⟨B.g, j, none⟩) h.gb).trans (h.tok j u hu)
  bw := by simpa using h.bw
  ll := fun b hl => by simpa using h.ll b hl
  built := ⟨v1, v2, v3, r1, r2, r3, hB.set_ h.blk j u, e1, e2, e9⟩
  kb := hk
  ob := ho
  mp := h.mp.same (zKp _ _ _ _ h.pbm)
  mle := zK4 h.mle hkk
  n3 := zK4 h.n3 hkk }, zq3 h.ne j u, hb⟩
theorem PS.moved {B : PE} {w w' : World} {s : St} (h : PS B w s) (k op : Nat) (hkk : s.k ≤ k) (hk : k ≤ 4294967296) (ho : op ≤ 256) (hb : Below B.base w w') (hp : Blk w' B.pb 75 (B.cells { s with k := k, op := op })) (hot : ∀ b, b < w.heap.size → b ≠ B.pb → w'.heap[b]? = w.heap[b]?) : Aft B w { s with k := k, op := op } w' := by
 obtain ⟨v1, v2, v3, r1, r2, r3, hB, e1, e2, e9⟩ := h.built;have hne := h.ne;have hset : w.grownBy w' (some B.pb) := ⟨hb.os, hb.tape, hb.output, hb.size, fun b hb1 hb2 => hot b hb1 (fun e => hb2 (by rw [e]))⟩;have hkp : ∀ b o, Part w B.base B.cb v1 v2 v3 b ∧ (b ≠ B.pb ∧ ¬ B.L b) → w'.cell? ⟨b, o, none⟩ = w.cell? ⟨b, o, none⟩ := fun b o q => zKb (a := ⟨b, o, none⟩) (hot b q.1.2.1 q.2.1);have him : ∀ b, Part w B.base B.cb v1 v2 v3 b → Part w' B.base B.cb v1 v2 v3 b := fun b q => ⟨q.1, zJy q.2.1 hb.size, q.2.2⟩;have hcb : ∀ j, w'.cell? ⟨B.cb, j, none⟩ = w.cell? ⟨B.cb, j, none⟩ := fun j => zKb (a := ⟨B.cb, j, none⟩) (hot B.cb h.cbl (fun e => hne e.symm))
 refine ⟨{ h with
  env := h.env.below h.b6 hb (zK4 h.env.size hb.size)
  blk := hp
  tok := fun j u hu => (hb.cell (p := ⟨B.g, j, none⟩) h.gb).trans (h.tok j u hu)
  bw := zK4 h.bw hb.size
  ll := fun b hl => zJy (h.ll b hl) hb.size
  built := ⟨v1, v2, v3, r1, r2, r3, ⟨⟨hB.tr.blk.grown hset (fun e => hne (by injection e with e; exact e.symm)), hB.tr.tys, hB.tr.bas, hB.tr.o1.kept hset (.inr (za3 hB.tr.o1 h.blk (by decide))), hB.tr.o2.kept hset (.inr (za3 hB.tr.o2 h.blk (by decide))), hB.tr.o3.kept hset (.inr (za3 hB.tr.o3 h.blk (by decide))),
   fun x hx => (((hB.tr.k1 x hx).and (hB.q1 x hx)).keep hkp).imp (fun b q => him b q.1), fun x hx => (((hB.tr.k2 x hx).and (hB.q2 x hx)).keep hkp).imp (fun b q => him b q.1)⟩,
   fun x hx => (((hB.tr.k1 x hx).and (hB.q1 x hx)).keep hkp).imp (fun b q => q.2), fun x hx => (((hB.tr.k2 x hx).and (hB.q2 x hx)).keep hkp).imp (fun b q => q.2)⟩, e1, e2, e9⟩
  kb := hk
  ob := ho
  mp := h.mp.same (hot B.mb h.mp.lt h.pbm)
  mle := zK4 h.mle hkk
  n3 := zK4 h.n3 hkk }, ⟨hb.size, fun b hb1 hm => ⟨hot b hb1 (fun e => hm (.inl (.inl e))), fun k2 => hm ?_⟩⟩, hb⟩
 rcases k2 with e | e | ⟨j, v, e, e3⟩
 · exact .inl e
 · exact .inr (.inl e)
 · rw [hcb j] at e
   exact .inr (.inr ⟨j, v, e, e3⟩)
theorem PS.setK {B : PE} {w : World} {s : St} (h : PS B w s) (n : Nat) (hk : s.k + n ≤ 4294967296) : Aft B w (s.on n) (w.setCell ⟨B.pb, 1, none⟩ (.int .i64 ((s.k + n : Nat) : Int))) := h.set_ (s.k + n) s.op 1 _ (Nat.le_add_right _ _) hk h.ob rfl
theorem PS.up {B : PE} {w : World} {s : St} (h : PS B w s) (hk : s.op < 256) : Aft B w s.up (w.setCell ⟨B.pb, 2, none⟩ (.int .i64 ((s.op + 1 : Nat) : Int))) := h.set_ s.k (s.op + 1) 2 _ (zJw _) h.kb (by omega) rfl
theorem PS.down {B : PE} {w : World} {s : St} (h : PS B w s) : Aft B w s.down (w.setCell ⟨B.pb, 2, none⟩ (.int .i64 ((s.op - 1 : Nat) : Int))) := h.set_ s.k (s.op - 1) 2 _ (zJw _) h.kb (by have := h.ob; omega) rfl
def PE.with (B : PE) (G : Nat → Prop) : PE := { B with L := fun b => B.L b ∨ G b }
structure AftO (B : PE) (G : Nat → Prop) (w : World) (s : St) (w' : World) : Prop where
 ps : PS (B.with G) w' s
 kt : Kt B w w'
 bel : Below B.base w w'
 nm : ∀ b, G b → ¬ Mu B w' b
 ge : ∀ b, G b → w.heap.size ≤ b
theorem AftO.start {B : PE} {w w' : World} {s : St} (h : PS B w s) (hb : Below w.heap.size w w') (G : Nat → Prop) (hg : ∀ b, G b → w.heap.size ≤ b ∧ b < w'.heap.size) : AftO B G w s w' := by
 have p := h.below hb;have hp := h.blk.lt;obtain ⟨v1, v2, v3, r1, r2, r3, hB, e1, e2, e9⟩ := h.built
 have hG : ∀ v1 v2 b, Part w B.base B.cb v1 v2 v3 b ∧ (b ≠ B.pb ∧ ¬ B.L b) → b ≠ (B.with G).pb ∧ ¬ (B.with G).L b := fun v1 v2 b k => ⟨k.2.1, fun hl => by
  rcases hl with hl | hl
  · exact k.2.2 hl
  · have h1 := (hg b hl).1; have h2 := k.1.2.1; omega⟩
 exact ⟨{ p with
  ll := fun b hl => by
   rcases hl with hl | hl
   · exact p.ll b hl
   · exact (hg b hl).2
  ml := fun hl => by
   rcases hl with hl | hl
   · exact p.ml hl
   · have h1 := (hg _ hl).1; have h2 : B.mb < w.heap.size := h.mp.lt; have h3 : (B.with G).mb = B.mb := rfl; omega
  built := ⟨v1, v2, v3, r1, r2, r3, ⟨hB.tr.below hb, fun x hx => (((hB.tr.k1 x hx).and (hB.q1 x hx)).keep (fun b o k => hb.cell (p := ⟨b, o, none⟩) k.1.2.1)).imp (hG v1 v2), fun x hx => (((hB.tr.k2 x hx).and (hB.q2 x hx)).keep (fun b o k => hb.cell (p := ⟨b, o, none⟩) k.1.2.1)).imp (hG v1 v2)⟩, e1, e2, e9⟩ }, Kt.of_below hb h.cbl, hb.mono h.bw, fun b k => h.fresh hb (hg b k).1, fun b k => (hg b k).1⟩
theorem AftO.lt {B : PE} {G : Nat → Prop} {w w1 : World} {s : St} (h : AftO B G w s w1) {b : Nat} (hb : G b) : b < w1.heap.size := h.ps.ll b (.inr hb)
theorem AftO.call {B : PE} {G : Nat → Prop} {w w1 w2 : World} {s s' : St} (h : AftO B G w s w1) (k : Aft (B.with G) w1 s' w2) : AftO B G w s' w2 :=
 ⟨k.ps, h.kt.trans k.kt, h.bel.trans k.bel, fun b hb => (k.kt.2 b (h.lt hb) (h.nm b hb)).2, h.ge⟩
theorem AftO.below {B : PE} {G : Nat → Prop} {w w1 w2 : World} {s : St} (h : AftO B G w s w1) (hb : Below w1.heap.size w1 w2) : AftO B G w s w2 := h.call (h.ps.aft hb)
theorem AftO.same {B : PE} {G : Nat → Prop} {w w1 w2 : World} {s s' : St} (h : AftO B G w s w1) (k : Aft (B.with G) w1 s' w2) {b : Nat} (hb : G b) : w2.heap[b]? = w1.heap[b]? := k.kt.block (h.lt hb) (h.nm b hb)
theorem AftO.set {B : PE} {G : Nat → Prop} {w w1 : World} {s : St} (h : AftO B G w s w1) {g : Nat} (hg : G g) (k : Nat) (u : Value) (hbw : B.base ≤ w.heap.size) : AftO B G w s (w1.setCell ⟨g, k, none⟩ u) := by
 have hge := h.ge g hg;have hnm := h.nm g hg;have hb : Below B.base w1 (w1.setCell ⟨g, k, none⟩ u) := (zJx _ w1).setCell (by dsimp only; omega) u;have hgp : g ≠ B.pb := fun e => hnm (.inl (.inl e));have hgm : B.mb ≠ g := fun e => hnm (.inl (.inr e.symm));have hgc : g ≠ B.cb := fun e => hnm (.inr (.inl e));have hset : w1.grownBy (w1.setCell ⟨g, k, none⟩ u) (some g) := za9 (zaf w1 (some g)) (.inl rfl) u;obtain ⟨v1, v2, v3, r1, r2, r3, hB, e1, e2, e9⟩ := h.ps.built;have n1 : v1.ownBlock ≠ some g := fun e => hnm (.inr (.inr ⟨0, v1, hB.tr.blk.cell 0, e⟩));have n2 : v2.ownBlock ≠ some g := fun e => hnm (.inr (.inr ⟨1, v2, hB.tr.blk.cell 1, e⟩));have n3 : v3.ownBlock ≠ some g := fun e => hnm (.inr (.inr ⟨2, v3, hB.tr.blk.cell 2, e⟩));have hkp : ∀ b o, b ≠ (B.with G).pb ∧ ¬ (B.with G).L b → (w1.setCell ⟨g, k, none⟩ u).cell? ⟨b, o, none⟩ = w1.cell? ⟨b, o, none⟩ := fun b o q => zK0 _ _ _ _ (by intro e; injection e with e; exact q.2 (.inr (e ▸ hg)));have hsz : (w1.setCell ⟨g, k, none⟩ u).heap.size = w1.heap.size := by simp
 have him : ∀ b, Part w1 B.base B.cb v1 v2 v3 b → Part (w1.setCell ⟨g, k, none⟩ u) B.base B.cb v1 v2 v3 b := fun b hp => ⟨hp.1, by rw [hsz]; exact hp.2.1, hp.2.2⟩
 have hmu : ∀ b, Mu B (w1.setCell ⟨g, k, none⟩ u) b → Mu B w1 b := fun b k2 => by
  rcases k2 with e | e | ⟨j, v, e, e3⟩
  · exact .inl e
  · exact .inr (.inl e)
  · rw [zK0 _ _ _ _ (by intro e; injection e with e; exact hgc e)] at e
    exact .inr (.inr ⟨j, v, e, e3⟩)
 refine ⟨{ h.ps with
  env := h.ps.env.below h.ps.b6 hb (by rw [hsz]; exact h.ps.env.size)
  blk := h.ps.blk.far (fun e => hgp e.symm) u
  tok := fun j u hu => (hb.cell (p := ⟨B.g, j, none⟩) h.ps.gb).trans (h.ps.tok j u hu)
  bw := by rw [hsz]; exact h.ps.bw
  ll := fun b hl => by rw [hsz]; exact h.ps.ll b hl
  mp := h.ps.mp.same (zKp _ _ _ _ hgm)
  built := ⟨v1, v2, v3, r1, r2, r3, ⟨⟨hB.tr.blk.grown hset (fun e => hgc (by injection e with e; exact e.symm)), hB.tr.tys, hB.tr.bas, hB.tr.o1.kept hset (.inr n1), hB.tr.o2.kept hset (.inr n2), hB.tr.o3.kept hset (.inr n3),
   fun x hx => (((hB.tr.k1 x hx).and (hB.q1 x hx)).keep (fun b o q => hkp b o q.2)).imp (fun b q => him b q.1), fun x hx => (((hB.tr.k2 x hx).and (hB.q2 x hx)).keep (fun b o q => hkp b o q.2)).imp (fun b q => him b q.1)⟩,
   fun x hx => (hB.q1 x hx).keep hkp, fun x hx => (hB.q2 x hx).keep hkp⟩, e1, e2, e9⟩ },
  ⟨by rw [hsz]; exact h.kt.1, fun b hb1 hm => ⟨(zKp _ _ _ _ (by dsimp only; omega)).trans (h.kt.2 b hb1 hm).1, fun k2 => (h.kt.2 b hb1 hm).2 (hmu b k2)⟩⟩,
  h.bel.trans hb, fun b hb1 k2 => h.nm b hb1 (hmu b k2), h.ge⟩
theorem AftO.out {B : PE} {G : Nat → Prop} {w w' : World} {s : St} (h : AftO B G w s w') : Aft B w s w' := by
 obtain ⟨v1, v2, v3, r1, r2, r3, hB, e1, e2, e9⟩ := h.ps.built
 exact ⟨{ h.ps with
  ll := fun b hl => h.ps.ll b (.inl hl)
  ml := fun hl => h.ps.ml (.inl hl)
  built := ⟨v1, v2, v3, r1, r2, r3, ⟨hB.tr, fun x hx => (hB.q1 x hx).imp (fun b q => ⟨q.1, fun hl => q.2 (.inl hl)⟩), fun x hx => (hB.q2 x hx).imp (fun b q => ⟨q.1, fun hl => q.2 (.inl hl)⟩)⟩, e1, e2, e9⟩ }, h.kt, h.bel⟩
theorem PS.now {B : PE} {w : World} {s : St} (h : PS B w s) (hk : s.k < B.ts.length) :
 w.cell? ⟨B.g, s.k * 3, none⟩ = some (.int .i64 ((tkA B.ts s.k).1 : Int)) ∧ w.cell? ⟨B.g, s.k * 3 + 1, none⟩ = some (.string (bs (tkA B.ts s.k).2.1)) ∧ w.cell? ⟨B.g, s.k * 3 + 2, none⟩ = some (.int .i64 ((tkA B.ts s.k).2.2 : Int)) := by
 have hg : ∀ (l : List Tk) (k : Nat), k < l.length → (tkV l)[k * 3]? = some (.int .i64 ((tkA l k).1 : Int)) ∧ (tkV l)[k * 3 + 1]? = some (.string (bs (tkA l k).2.1)) ∧ (tkV l)[k * 3 + 2]? = some (.int .i64 ((tkA l k).2.2 : Int)) := by
  intro l
  induction l with
  | nil => intro k hk; simp at hk
  | cons x r ih =>
   intro k hk;have e : tkV (x :: r) = [.int .i64 (x.1 : Int), .string ⟨x.2.1.toArray⟩, .int .i64 (x.2.2 : Int)] ++ tkV r := by simp [tkV]
   rw [e]
   cases k with
   | zero => exact ⟨rfl, rfl, rfl⟩
   | succ k =>
    have := ih k (by simpa using hk);rw [show (k + 1) * 3 = k * 3 + 3 by omega, show k * 3 + 3 + 1 = (k * 3 + 1) + 3 by omega, show k * 3 + 3 + 2 = (k * 3 + 2) + 3 by omega];rw [zKl (by simp), zKl (by simp), zKl (by simp)];simpa [tkA] using this
 have := hg B.ts s.k hk;exact ⟨h.tok _ _ this.1, h.tok _ _ this.2.1, h.tok _ _ this.2.2⟩
theorem PS.pushT {B : PE} {w w' : World} {s : St} (h : PS B w s) {v1 v2 v3 v' : Value} {r1 : List (TermD × Ptr3)} {r2 : List (TypD × Ptr2)} {r3 : List AliD} (hB : BuiltIn B w v1 v2 v3 r1 r2 r3) (e1 : r1.map (·.1) = s.t1) (e2 : r2.map (·.1) = s.t2) (e9 : r3 = s.t3) {x : TermD} {p' : Ptr3} (hf : zdr x) (hn : s.t1.length < 65536)
 (hT : TreeOwn w' B.base B.cb 99 v' v2 v3 (r1 ++ [(x, p')]) r2 r3) (hbel : ∀ n, n ≤ B.base → n ≤ w.heap.size → Below n w w') (hk : ∀ g, g < w.heap.size → g ≠ B.cb → v1.ownBlock ≠ some g → w'.heap[g]? = w.heap[g]?) (hnew : TermOk (fun b => w.heap.size ≤ b) w' x p') (hv : ∀ g, v'.ownBlock = some g → g < w.heap.size → v1.ownBlock = some g) :
 Aft B w (s.addT x) w' := by
 have hb := hbel B.base (zJw _) h.bw;have hpl := h.blk.lt;have hsame := hk B.pb hpl h.ne (za3 hB.tr.o1 h.blk (by decide));have hkp : ∀ b o, Part w B.base B.cb v1 v2 v3 b ∧ (b ≠ B.pb ∧ ¬ B.L b) → w'.cell? ⟨b, o, none⟩ = w.cell? ⟨b, o, none⟩ := fun b o q => zKb (a := ⟨b, o, none⟩) (hk b q.1.2.1 q.1.2.2.1 q.1.2.2.2.1);have hl : s.t1.length = r1.length := by rw [← e1]; simp
 refine ⟨{ h with
  env := h.env.below h.b6 hb (zK4 h.env.size hb.size)
  blk := by unfold Blk; rw [hsame]; exact h.blk
  tok := fun j u hu => (hb.cell (p := ⟨B.g, j, none⟩) h.gb).trans (h.tok j u hu)
  bw := zK4 h.bw hb.size
  ll := fun b hl => zJy (h.ll b hl) hb.size
  built := ⟨v', v2, v3, r1 ++ [(x, p')], r2, r3, ⟨hT, fun y hy => ?_, fun y hy => (((hB.tr.k2 y hy).and (hB.q2 y hy)).keep hkp).imp (fun _ q => q.2)⟩, by simp [e1, St.addT], e2, e9⟩
  n1 := by simp [St.addT]; omega
  mp := h.mp.same (hk B.mb h.mp.lt (hB.mbn h.mp).1 (hB.mbn h.mp).2.1)
  f1 := fun y hy => by
   rcases List.mem_append.1 hy with hy | hy
   · exact h.f1 y hy
   · simp only [zK7] at hy; subst hy; exact hf }, ⟨hb.size, fun b hb1 hm => ⟨hk b hb1 (fun e => hm (.inr (.inl e))) (fun e => hm (.inr (.inr ⟨0, v1, hB.tr.blk.cell 0, e⟩))), fun k => hm ?_⟩⟩, hb⟩
 · rcases List.mem_append.1 hy with hy | hy
   · exact (((hB.tr.k1 y hy).and (hB.q1 y hy)).keep hkp).imp (fun _ q => q.2)
   · simp only [zK7] at hy
     subst hy;exact hnew.imp (fun b q => ⟨by omega, fun hl => by have := h.ll b hl; omega⟩)
 · rcases k with e | e | ⟨j, v, e, e3⟩
   · exact .inl e
   · exact .inr (.inl e)
   · rw [hT.blk.cell j] at e
     match j, e with
     | 0, e => simp at e; subst e; exact .inr (.inr ⟨0, v1, hB.tr.blk.cell 0, hv b e3 hb1⟩)
     | 1, e => simp at e; subst e; exact .inr (.inr ⟨1, v2, hB.tr.blk.cell 1, e3⟩)
     | 2, e => simp at e; subst e; exact .inr (.inr ⟨2, v3, hB.tr.blk.cell 2, e3⟩)
     | j + 3, e => simp at e
theorem PS.pushY {B : PE} {w w' : World} {s : St} (h : PS B w s) {v1 v2 v3 v' : Value} {r1 : List (TermD × Ptr3)} {r2 : List (TypD × Ptr2)} {r3 : List AliD} (hB : BuiltIn B w v1 v2 v3 r1 r2 r3) (e1 : r1.map (·.1) = s.t1) (e2 : r2.map (·.1) = s.t2) (e9 : r3 = s.t3) {x : TypD} {p' : Ptr2} (hf : zff x) (hn : s.t2.length < 65536)
 (hT : TreeOwn w' B.base B.cb 99 v1 v' v3 r1 (r2 ++ [(x, p')]) r3) (hbel : ∀ n, n ≤ B.base → n ≤ w.heap.size → Below n w w') (hk : ∀ g, g < w.heap.size → g ≠ B.cb → v2.ownBlock ≠ some g → w'.heap[g]? = w.heap[g]?) (hnew : TypOk (fun b => w.heap.size ≤ b) w' x p') (hv : ∀ g, v'.ownBlock = some g → g < w.heap.size → v2.ownBlock = some g) :
 Aft B w (s.addY x) w' := by
 have hb := hbel B.base (zJw _) h.bw;have hpl := h.blk.lt;have hsame := hk B.pb hpl h.ne (za3 hB.tr.o2 h.blk (by decide));have hkp : ∀ b o, Part w B.base B.cb v1 v2 v3 b ∧ (b ≠ B.pb ∧ ¬ B.L b) → w'.cell? ⟨b, o, none⟩ = w.cell? ⟨b, o, none⟩ := fun b o q => zKb (a := ⟨b, o, none⟩) (hk b q.1.2.1 q.1.2.2.1 q.1.2.2.2.2.1);have hl : s.t2.length = r2.length := by rw [← e2]; simp
 refine ⟨{ h with
  env := h.env.below h.b6 hb (zK4 h.env.size hb.size)
  blk := by unfold Blk; rw [hsame]; exact h.blk
  tok := fun j u hu => (hb.cell (p := ⟨B.g, j, none⟩) h.gb).trans (h.tok j u hu)
  bw := zK4 h.bw hb.size
  ll := fun b hl => zJy (h.ll b hl) hb.size
  built := ⟨v1, v', v3, r1, r2 ++ [(x, p')], r3, ⟨hT, fun y hy => (((hB.tr.k1 y hy).and (hB.q1 y hy)).keep hkp).imp (fun _ q => q.2), fun y hy => ?_⟩, e1, by simp [e2, St.addY], e9⟩
  n2 := by simp [St.addY]; omega
  mp := h.mp.same (hk B.mb h.mp.lt (hB.mbn h.mp).1 (hB.mbn h.mp).2.2.1)
  f2 := fun y hy => by
   rcases List.mem_append.1 hy with hy | hy
   · exact h.f2 y hy
   · simp only [zK7] at hy; subst hy; exact hf }, ⟨hb.size, fun b hb1 hm => ⟨hk b hb1 (fun e => hm (.inr (.inl e))) (fun e => hm (.inr (.inr ⟨1, v2, hB.tr.blk.cell 1, e⟩))), fun k => hm ?_⟩⟩, hb⟩
 · rcases List.mem_append.1 hy with hy | hy
   · exact (((hB.tr.k2 y hy).and (hB.q2 y hy)).keep hkp).imp (fun _ q => q.2)
   · simp only [zK7] at hy
     subst hy;exact hnew.imp (fun b q => ⟨by omega, fun hl => by have := h.ll b hl; omega⟩)
 · rcases k with e | e | ⟨j, v, e, e3⟩
   · exact .inl e
   · exact .inr (.inl e)
   · rw [hT.blk.cell j] at e
     match j, e with
     | 0, e => simp at e; subst e; exact .inr (.inr ⟨0, v1, hB.tr.blk.cell 0, e3⟩)
     | 1, e => simp at e; subst e; exact .inr (.inr ⟨1, v2, hB.tr.blk.cell 1, hv b e3 hb1⟩)
     | 2, e => simp at e; subst e; exact .inr (.inr ⟨2, v3, hB.tr.blk.cell 2, e3⟩)
     | j + 3, e => simp at e
theorem PS.metAt {B : PE} {w w' : World} {s : St} (h : PS B w s) (x : Bo) (hm : MapAt w' B.mb (x :: s.m)) (hg : w.grownBy w' (some B.mb)) (hl : s.m.length + 1 ≤ s.k) : Aft B w (s.met x) w' := by
 have hb : Below B.base w w' := ⟨hg.os, hg.tape, hg.output, hg.size, fun b hb => hg.block b (zJy hb h.bw) (fun e => by injection e with e; have := h.mb; omega)⟩;have hot : ∀ b, b < w.heap.size → b ≠ B.mb → w'.heap[b]? = w.heap[b]? := fun b h1 h2 => hg.block b h1 (fun e => h2 (by injection e));obtain ⟨v1, v2, v3, r1, r2, r3, hB, e1, e2, e9⟩ := h.built;obtain ⟨m0, m1, m2, m3⟩ := hB.mbn h.mp
 have hno : ∀ {W : World} {m : List Bo}, MapAt W B.mb m → ∀ o, W.cell? ⟨B.mb, o, none⟩ = none := fun {W m} hM o => by
  obtain ⟨D, n, ⟨es, clock, hbb, _⟩, _⟩ := hM;simp [World.cell?, hbb]
 have hkp : ∀ b o, b < w.heap.size → w'.cell? ⟨b, o, none⟩ = w.cell? ⟨b, o, none⟩ := fun b o hb1 => by
  by_cases e : b = B.mb
  · rw [e, hno hm, hno h.mp]
  · exact zKb (a := ⟨b, o, none⟩) (hot b hb1 e)
 have him : ∀ b, Part w B.base B.cb v1 v2 v3 b → Part w' B.base B.cb v1 v2 v3 b := fun b q => ⟨q.1, zJy q.2.1 hb.size, q.2.2⟩
 refine ⟨{ h with
  env := h.env.below h.b6 hb (zK4 h.env.size hb.size)
  blk := (hot B.pb h.blk.lt (fun e => h.pbm e.symm)).trans h.blk
  tok := fun j u hu => (hb.cell (p := ⟨B.g, j, none⟩) h.gb).trans (h.tok j u hu)
  bw := zK4 h.bw hb.size
  ll := fun b hl => zJy (h.ll b hl) hb.size
  mp := hm
  mle := hl
  built := ⟨v1, v2, v3, r1, r2, r3, ⟨⟨hB.tr.blk.grown hg (fun e => m0 (by injection e with e; exact e.symm)), hB.tr.tys, hB.tr.bas, hB.tr.o1.kept hg (.inr m1), hB.tr.o2.kept hg (.inr m2), hB.tr.o3.kept hg (.inr m3),
   fun x hx => ((hB.tr.k1 x hx).keep (fun b o q => hkp b o q.2.1)).imp (fun b q => him b q), fun x hx => ((hB.tr.k2 x hx).keep (fun b o q => hkp b o q.2.1)).imp (fun b q => him b q)⟩,
   fun x hx => (((hB.tr.k1 x hx).and (hB.q1 x hx)).keep (fun b o q => hkp b o q.1.2.1)).imp (fun b q => q.2), fun x hx => (((hB.tr.k2 x hx).and (hB.q2 x hx)).keep (fun b o q => hkp b o q.1.2.1)).imp (fun b q => q.2)⟩, e1, e2, e9⟩ },
  ⟨hb.size, fun b hb1 hmu => ⟨hot b hb1 (fun e => hmu (.inl (.inr e))), fun k2 => hmu ?_⟩⟩, hb⟩
 rcases k2 with e | e | ⟨j, v, e, e3⟩
 · exact .inl e
 · exact .inr (.inl e)
 · rw [hkp B.cb j h.cbl] at e
   exact .inr (.inr ⟨j, v, e, e3⟩)
end Go.Proofs.YtidmeodmkcomlaaGreatDoor
