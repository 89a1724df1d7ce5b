/- The document's parser in memory: its block, its tokens, the types it has built; and what a call leaves as it is. -/
import Derived.Test.YtidmeodmkcomlaaGreatDoorK18
set_option linter.unusedSimpArgs false
set_option linter.unusedVariables false
namespace Go.Proofs.YtidmeodmkcomlaaGreatDoor
open Go Go.Proofs Go.RowKit
structure DE where
 g : Nat
 cap : Nat
 pb : Nat
 base : Nat
 ts : List Tk
 L : Nat → Prop
abbrev nilV : Value := .slice none 0 0
abbrev DE.cells (B : DE) (s : Dst) (v : Value) : Array Value := #[.slice (some ⟨B.g, 0, none⟩) B.ts.length B.cap, .int .i64 (s.k : Nat), .int .i64 (s.op : Nat), nilV, v, nilV, .int .i64 (s.c : Nat), .int .i64 (s.p : Nat), .string ⟨#[]⟩]
abbrev DE.ptr (B : DE) : Value := .pointer (some ⟨B.pb, 0, none⟩)
def DMu (B : DE) (w : World) (b : Nat) : Prop := b = B.pb ∨ ∃ v, w.cell? ⟨B.pb, 4, none⟩ = some v ∧ v.ownBlock = some b
def DKt (B : DE) (w w' : World) : Prop := w.heap.size ≤ w'.heap.size ∧ ∀ b, b < w.heap.size → ¬ DMu B w b → w'.heap[b]? = w.heap[b]? ∧ ¬ DMu B w' b
theorem DKt.refl (B : DE) (w : World) : DKt B w w := ⟨zJw _, fun _ _ h => ⟨rfl, h⟩⟩
theorem DKt.trans {B : DE} {a b c : World} (h : DKt B a b) (k : DKt B b c) : DKt B a c := ⟨zK4 h.1 k.1, fun g hg hm => by
 obtain ⟨e1, m1⟩ := h.2 g hg hm;obtain ⟨e2, m2⟩ := k.2 g (zJy hg h.1) m1
 exact ⟨e2.trans e1, m2⟩⟩
theorem zN7 {B : DE} {w w' : World} {n : Nat} (hb : Below n w w') (hc : B.pb < n) (b : Nat) : DMu B w' b ↔ DMu B w b := by
 unfold DMu;rw [hb.cell (p := ⟨B.pb, 4, none⟩) hc]
theorem DKt.of_below {B : DE} {w w' : World} (h : Below w.heap.size w w') (hc : B.pb < w.heap.size) : DKt B w w' := ⟨h.size, fun b hb hm => ⟨h.block b hb, fun k => hm ((zN7 h hc b).1 k)⟩⟩
def DPart (B : DE) (w : World) (v : Value) (b : Nat) : Prop := B.base ≤ b ∧ b < w.heap.size ∧ b ≠ B.pb ∧ v.ownBlock ≠ some b ∧ ¬ B.L b
structure DT (B : DE) (w : World) (v : Value) (r2 : List (TypD × Ptr2)) : Prop where
 o2 : w.ownsRow B.base 40 6 v r2.length (zar r2)
 k2 : ∀ x ∈ r2, TypOk (DPart B w v) w x.1 x.2
structure DS (B : DE) (w : World) (s : Dst) : Prop where
 env : Env w
 ex : ∃ v r2, Blk w B.pb 61 (B.cells s v) ∧ DT B w v r2 ∧ r2.map (·.1) = s.t2
 tok : ∀ j u, (tkV B.ts)[j]? = some u → w.cell? ⟨B.g, j, none⟩ = some u
 gb : B.g < B.base
 b6 : 6 ≤ B.base
 bw : B.base ≤ w.heap.size
 pbb : B.base ≤ B.pb
 cap : B.ts.length ≤ B.cap
 n2 : s.t2.length ≤ 65536
 kb : s.k < B.ts.length
 ob : s.op ≤ 256
 lb : B.ts.length ≤ 2097152
 ll : ∀ b, B.L b → b < w.heap.size
theorem DS.pl {B : DE} {w : World} {s : Dst} (h : DS B w s) : B.pb < w.heap.size := by
 obtain ⟨v, r2, hb, _⟩ := h.ex;exact hb.lt
theorem DT.ne {B : DE} {w : World} {v : Value} {r2 : List (TypD × Ptr2)} {s : Dst} (h : DT B w v r2) (hb : Blk w B.pb 61 (B.cells s v)) : v.ownBlock ≠ some B.pb := za3 h.o2 hb (by decide)
theorem DT.on {B B' : DE} {w w' : World} {v : Value} {r2 : List (TypD × Ptr2)} (h : DT B w v r2) (hsz : w.heap.size ≤ w'.heap.size) (h1 : ∀ b, b < w.heap.size → b ≠ B.pb → ¬ B.L b → w'.heap[b]? = w.heap[b]?) (h2 : ∀ g, v.ownBlock = some g → w'.heap[g]? = w.heap[g]?)
 (hp : B'.pb = B.pb) (hbs : B'.base = B.base) (hL : ∀ b, B'.L b → B.L b ∨ w.heap.size ≤ b) : DT B' w' v r2 := by
 refine ⟨?_, fun x hx => ((h.k2 x hx).keep (fun b o q => zKb (a := ⟨b, o, none⟩) (h1 b q.2.1 q.2.2.1 q.2.2.2.2))).imp (fun b q => ⟨by rw [hbs]; exact q.1, zJy q.2.1 hsz, by rw [hp]; exact q.2.2.1, q.2.2.2.1, fun hl => ?_⟩)⟩
 · rw [hbs]
   rcases h.o2.2 with ⟨rfl, hn⟩ | ⟨g, cap, cur, rfl, hg1, hh, r⟩
   · exact ⟨h.o2.1, .inl ⟨rfl, hn⟩⟩
   · exact ⟨h.o2.1, .inr ⟨g, cap, cur, rfl, hg1, (h2 g rfl).trans hh, r⟩⟩
 · rcases hL b hl with k | k
   · exact q.2.2.2.2 k
   · have := q.2.1; omega
structure DAft (B : DE) (w : World) (s : Dst) (w' : World) : Prop where
 ps : DS B w' s
 kt : DKt B w w'
 bel : Below B.base w w'
theorem DAft.refl {B : DE} {w : World} {s : Dst} (h : DS B w s) : DAft B w s w := ⟨h, DKt.refl B w, zJx _ w⟩
theorem DAft.trans {B : DE} {w w1 w2 : World} {s s' : Dst} (h : DAft B w s w1) (k : DAft B w1 s' w2) : DAft B w s' w2 := ⟨k.ps, h.kt.trans k.kt, h.bel.trans k.bel⟩
theorem DS.below {B : DE} {w w' : World} {s : Dst} (h : DS B w s) (hb : Below w.heap.size w w') : DS B w' s := by
 obtain ⟨v, r2, hk, hD, e2⟩ := h.ex
 exact { h with
  env := h.env.on hb
  ex := ⟨v, r2, hk.below hb hk.lt, hD.on hb.size (fun b hb1 _ _ => hb.block b hb1) (fun g e => hb.block g (zb8 hD.o2 g e)) rfl rfl (fun b hl => .inl hl), e2⟩
  tok := fun j u hu => (hb.cell (p := ⟨B.g, j, none⟩) (zJy h.gb h.bw)).trans (h.tok j u hu)
  bw := zK4 h.bw hb.size
  ll := fun b hl => zJy (h.ll b hl) hb.size }
theorem DS.aft {B : DE} {w w' : World} {s : Dst} (h : DS B w s) (hb : Below w.heap.size w w') : DAft B w s w' := ⟨h.below hb, DKt.of_below hb h.pl, hb.mono h.bw⟩
theorem DAft.below {B : DE} {w w1 w2 : World} {s : Dst} (h : DAft B w s w1) (hb : Below w1.heap.size w1 w2) : DAft B w s w2 := h.trans (h.ps.aft hb)
theorem DS.moved {B : DE} {w w' : World} {s s' : Dst} (h : DS B w s) (hk : s'.k < B.ts.length) (ho : s'.op ≤ 256) (ht : s'.t2 = s.t2) (hb : Below B.base w w') (hp : ∀ v, Blk w B.pb 61 (B.cells s v) → Blk w' B.pb 61 (B.cells s' v)) (hot : ∀ b, b < w.heap.size → b ≠ B.pb → w'.heap[b]? = w.heap[b]?) : DAft B w s' w' := by
 obtain ⟨v, r2, hB, hD, e2⟩ := h.ex;have hne := hD.ne hB
 refine ⟨{ h with
  env := h.env.below h.b6 hb (zK4 h.env.size hb.size)
  ex := ⟨v, r2, hp v hB, hD.on hb.size (fun b hb1 hb2 _ => hot b hb1 hb2) (fun g e => hot g (zb8 hD.o2 g e) (fun e2 => hne (by rw [e, e2]))) rfl rfl (fun b hl => .inl hl), by rw [ht]; exact e2⟩
  tok := fun j u hu => (hb.cell (p := ⟨B.g, j, none⟩) h.gb).trans (h.tok j u hu)
  bw := zK4 h.bw hb.size
  n2 := by rw [ht]; exact h.n2
  kb := hk
  ob := ho
  ll := fun b hl => zJy (h.ll b hl) hb.size }, ⟨hb.size, fun b hb1 hm => ⟨hot b hb1 (fun e => hm (.inl e)), fun k2 => hm ?_⟩⟩, hb⟩
 rcases k2 with e | ⟨u, e, e3⟩
 · exact .inl e
 · rw [(hp v hB).cell 4] at e
   exact .inr ⟨u, (hB.cell 4).trans e, e3⟩
theorem DS.set1 {B : DE} {w : World} {s s' : Dst} (h : DS B w s) (j : Nat) (u : Value) (hk : s'.k < B.ts.length) (ho : s'.op ≤ 256) (ht : s'.t2 = s.t2) (hc : ∀ v, (B.cells s v).setIfInBounds j u = B.cells s' v) : DAft B w s' (w.setCell ⟨B.pb, j, none⟩ u) :=
 h.moved hk ho ht ((zJx _ w).setCell h.pbb u) (fun v hb => by have := hb.set_ j u; rwa [hc] at this) (fun b _ hb => zKp _ _ _ _ hb)
theorem DS.pushY {B : DE} {w w' : World} {s : Dst} (h : DS B w s) {v v' : Value} {r2 : List (TypD × Ptr2)} {x : TypD} {p' : Ptr2} (hB : Blk w B.pb 61 (B.cells s v)) (hD : DT B w v r2) (e2 : r2.map (·.1) = s.t2) (hn : s.t2.length < 65536)
 (hB' : Blk w' B.pb 61 (B.cells { s with t2 := s.t2 ++ [x] } v')) (o2 : w'.ownsRow B.base 40 6 v' (r2.length + 1) (zar (r2 ++ [(x, p')]))) (hb : Below B.base w w') (hot : ∀ g, g < w.heap.size → g ≠ B.pb → v.ownBlock ≠ some g → w'.heap[g]? = w.heap[g]?)
 (hx : TypOk (fun b => B.base ≤ b ∧ b < w.heap.size ∧ b ≠ B.pb ∧ v.ownBlock ≠ some b ∧ ¬ B.L b) w x p') (hv : ∀ g, v'.ownBlock = some g → g < w.heap.size → v.ownBlock = some g) : DAft B w { s with t2 := s.t2 ++ [x] } w' := by
 have hq : ∀ b, DPart B w v b → DPart B w' v' b := fun b q => ⟨q.1, zJy q.2.1 hb.size, q.2.2.1, fun e => q.2.2.2.1 (hv b e q.2.1), q.2.2.2.2⟩;have hkp : ∀ b o, DPart B w v b → w'.cell? ⟨b, o, none⟩ = w.cell? ⟨b, o, none⟩ := fun b o q => zKb (a := ⟨b, o, none⟩) (hot b q.2.1 q.2.2.1 q.2.2.2.1)
 refine ⟨{ h with
  env := h.env.below h.b6 hb (zK4 h.env.size hb.size)
  ex := ⟨v', r2 ++ [(x, p')], hB', ⟨by simpa using o2, fun y hy => ?_⟩, by simp [e2]⟩
  tok := fun j u hu => (hb.cell (p := ⟨B.g, j, none⟩) h.gb).trans (h.tok j u hu)
  bw := zK4 h.bw hb.size
  n2 := by simp; omega
  ll := fun b hl => zJy (h.ll b hl) hb.size }, ⟨hb.size, fun b hb1 hm => ⟨hot b hb1 (fun e => hm (.inl e)) (fun e => hm (.inr ⟨v, hB.cell 4, e⟩)), fun k2 => hm ?_⟩⟩, hb⟩
 · rcases List.mem_append.1 hy with hy | hy
   · exact ((hD.k2 y hy).keep hkp).imp hq
   · simp only [zK7] at hy
     subst hy;exact (TypOk.keep (Pb := DPart B w v) hx hkp).imp hq
 · rcases k2 with e | ⟨u, e, e3⟩
   · exact .inl e
   · rw [hB'.cell 4] at e
     have e : v' = u := by simpa using e
     subst e;exact .inr ⟨v, hB.cell 4, hv b e3 hb1⟩
def DE.with (B : DE) (G : Nat → Prop) : DE := { B with L := fun b => B.L b ∨ G b }
structure DOwn (B : DE) (G : Nat → Prop) (w : World) (s : Dst) (w' : World) : Prop where
 ps : DS (B.with G) w' s
 kt : DKt B w w'
 bel : Below B.base w w'
 nm : ∀ b, G b → ¬ DMu B w' b
 ge : ∀ b, G b → w.heap.size ≤ b
section
variable {B : DE} {G G' : Nat → Prop} {w w1 w2 : World} {s s' : Dst}
theorem DOwn.lt (h : DOwn B G w s w1) {b : Nat} (hb : G b) : b < w1.heap.size := h.ps.ll b (.inr hb)
theorem DOwn.call (h : DOwn B G w s w1) (k : DAft (B.with G) w1 s' w2) : DOwn B G w s' w2 :=
 ⟨k.ps, h.kt.trans k.kt, h.bel.trans k.bel, fun b hb => (k.kt.2 b (h.lt hb) (h.nm b hb)).2, h.ge⟩
theorem DOwn.below (h : DOwn B G w s w1) (hb : Below w1.heap.size w1 w2) : DOwn B G w s w2 := h.call (h.ps.aft hb)
theorem DOwn.same (h : DOwn B G w s w1) (k : DAft (B.with G) w1 s' w2) {b : Nat} (hb : G b) : w2.heap[b]? = w1.heap[b]? := (k.kt.2 b (h.lt hb) (h.nm b hb)).1
theorem DOwn.out (h : DOwn B G w s w1) : DAft B w s w1 := by
 obtain ⟨v, r2, hB, hD, e2⟩ := h.ps.ex
 exact ⟨{ h.ps with
  ex := ⟨v, r2, hB, ⟨hD.o2, fun x hx => (hD.k2 x hx).imp (fun b q => ⟨q.1, q.2.1, q.2.2.1, q.2.2.2.1, fun hl => q.2.2.2.2 (.inl hl)⟩)⟩, e2⟩
  ll := fun b hl => h.ps.ll b (.inl hl) }, h.kt, h.bel⟩
theorem DOwn.turn (h : DOwn B G w s w1) (hb : Below B.base w1 w2) (hot : ∀ b, b < w1.heap.size → ¬ G b → w2.heap[b]? = w1.heap[b]?)
 (hG : ∀ b, G' b → (G b ∨ w1.heap.size ≤ b) ∧ b < w2.heap.size) : DOwn B G' w s w2 := by
 obtain ⟨v, r2, hB, hD, e2⟩ := h.ps.ex;have n0 : ¬ G B.pb := fun e => h.nm _ e (.inl rfl);have hpl : B.pb < w1.heap.size := hB.lt;have hp := hot B.pb hpl n0;have c4 : ∀ j, w2.cell? ⟨B.pb, j, none⟩ = w1.cell? ⟨B.pb, j, none⟩ := fun j => zKb (a := ⟨B.pb, j, none⟩) hp
 have hm : ∀ b, DMu B w2 b → DMu B w1 b := fun b k => by
  rcases k with e | ⟨u, e, e3⟩
  · exact .inl e
  · rw [c4] at e; exact .inr ⟨u, e, e3⟩
 have hv : ∀ g, v.ownBlock = some g → ¬ G g := fun g e hg => h.nm g hg (.inr ⟨v, hB.cell 4, e⟩)
 refine ⟨{ h.ps with
  env := h.ps.env.below h.ps.b6 hb (zK4 h.ps.env.size hb.size)
  ex := ⟨v, r2, hp.trans hB, hD.on (B' := B.with G') hb.size (fun b h1 _ h3 => hot b h1 (fun e => h3 (.inr e))) (fun g e => hot g (zb8 hD.o2 g e) (hv g e)) rfl rfl (fun b hl => ?_), e2⟩
  tok := fun j u hu => (hb.cell (p := ⟨B.g, j, none⟩) h.ps.gb).trans (h.ps.tok j u hu)
  bw := zK4 h.ps.bw hb.size
  ll := fun b hl => ?_ }, ⟨zK4 h.kt.1 hb.size, fun b hb1 hmu => ?_⟩, h.bel.trans hb, fun b hg hmu => ?_, fun b hg => ?_⟩
 · rcases hl with hl | hl
   · exact .inl (.inl hl)
   · rcases (hG b hl).1 with k | k
     · exact .inl (.inr k)
     · exact .inr k
 · rcases hl with hl | hl
   · exact zJy (h.ps.ll b (.inl hl)) hb.size
   · exact (hG b hl).2
 · obtain ⟨q1, q2⟩ := h.kt.2 b hb1 hmu
   exact ⟨(hot b (zJy hb1 h.kt.1) (fun e => absurd (h.ge b e) (by omega))).trans q1, fun k => q2 (hm b k)⟩
 · have hmu := hm b hmu
   rcases (hG b hg).1 with k | k
   · exact h.nm b k hmu
   · rcases hmu with e | ⟨u, e, e3⟩
     · omega
     · have e : (B.with G).cells s v |>.toList[4]? = some u := by rw [Array.getElem?_toList]; exact (hB.cell 4).symm.trans e
       have e : v = u := by simpa using e
       subst e;have := zb8 hD.o2 b e3;omega
 · rcases (hG b hg).1 with k | k
   · exact h.ge b k
   · exact zK4 h.kt.1 k
theorem DOwn.set (h : DOwn B G w s w1) {g : Nat} (hg : G g) (k : Nat) (u : Value) (hbw : B.base ≤ w.heap.size) : DOwn B G w s (w1.setCell ⟨g, k, none⟩ u) := by
 have hge := h.ge g hg;refine h.turn ((zJx _ w1).setCell (by dsimp only; omega) u) (fun b _ hb => zKp _ _ _ _ (fun e => hb (e ▸ hg))) (fun b hb => ⟨.inl hb, by have := h.lt hb; simpa using this⟩)
theorem DOwn.row (h : DOwn B G w s w1) (k : DAft (B.with G) w1 s' w2) {b0 : Nat} {e : TypeId} {size n : Nat} {v : Value} {xs : List Value} (hr : w1.ownsRow b0 e size v n xs) (hv : ∀ g, v.ownBlock = some g → G g) : w2.ownsRow b0 e size v n xs := by
 rcases hr.2 with ⟨rfl, hn⟩ | ⟨g, cap, cur, rfl, hg1, hh, r⟩
 · exact ⟨hr.1, .inl ⟨rfl, hn⟩⟩
 · exact ⟨hr.1, .inr ⟨g, cap, cur, rfl, hg1, (h.same k (hv g rfl)).trans hh, r⟩⟩
theorem DOwn.app (h : DOwn B G w s w1) (hbw : B.base ≤ w.heap.size) {v v' : Value} (hv : ∀ g, v.ownBlock = some g → G g) (hg : w1.grownBy w2 v.ownBlock) (hl : v'.ownBlock = v.ownBlock ∨ v'.ownBlock = some w1.heap.size) (hlt : ∀ g, v'.ownBlock = some g → g < w2.heap.size) :
 DOwn B (fun b => G b ∨ v'.ownBlock = some b) w s w2 := by
 refine h.turn ⟨hg.os, hg.tape, hg.output, hg.size, fun b hb => hg.block b (zJy hb (zK4 hbw h.kt.1)) (fun e => ?_)⟩ (fun b hb hn => hg.block b hb (fun e => hn (hv b e.symm))) (fun b hb => ?_)
 · have := h.ge b (hv b e.symm)
   omega
 · rcases hb with hb | hb
   · exact ⟨.inl hb, zJy (h.lt hb) hg.size⟩
   · refine ⟨?_, hlt b hb⟩
     rcases hl with e | e
     · exact .inl (hv b (e ▸ hb))
     · rw [e] at hb
       injection hb with hb
       exact .inr (by omega)
theorem DOwn.grow (h : DOwn B G w s w1) (hbw : B.base ≤ w.heap.size) (hb : Below w1.heap.size w1 w2) (g : Nat) (h1 : w1.heap.size ≤ g) (h2 : g < w2.heap.size) : DOwn B (fun b => G b ∨ b = g) w s w2 :=
 h.turn (hb.mono (zK4 hbw h.kt.1)) (fun b hb1 _ => hb.block b hb1) (fun b k => by
  rcases k with k | k
  · exact ⟨.inl k, zJy (h.lt k) hb.size⟩
  · subst k; exact ⟨.inr h1, h2⟩)
theorem DAft.idle (h : DAft B w s w1) : DOwn B (fun _ => False) w s w1 := by
 obtain ⟨v, r2, hB, hD, e2⟩ := h.ps.ex
 exact ⟨{ h.ps with
  ex := ⟨v, r2, hB, ⟨hD.o2, fun x hx => (hD.k2 x hx).imp (fun b q => ⟨q.1, q.2.1, q.2.2.1, q.2.2.2.1, fun hl => hl.elim q.2.2.2.2 id⟩)⟩, e2⟩
  ll := fun b hl => h.ps.ll b (hl.elim id False.elim) }, h.kt, h.bel, fun _ e => e.elim, fun _ e => e.elim⟩
theorem DAft.own1 (h : DAft B w s w1) (hbw : B.base ≤ w.heap.size) (hb : Below w1.heap.size w1 w2) (g : Nat) (h1 : w1.heap.size ≤ g) (h2 : g < w2.heap.size) : ∃ G : Nat → Prop, G g ∧ DOwn B G w s w2 :=
 ⟨_, .inr rfl, h.idle.grow hbw hb g h1 h2⟩
variable {X : Nat} {x : TypD} {v3 v4 v' : Value} {w3 w4 : World}
theorem OwnY.callD (h : DOwn B G w s w1) (k : DAft (B.with G) w1 s' w2) (o : OwnY w1 G X x v3 v4) : OwnY w2 G X x v3 v4 :=
 ⟨(h.same k o.gx).trans o.blk, o.gx, h.row k o.r3 o.g3, h.row k o.r4 o.g4, o.g3, o.g4⟩
theorem OwnY.app3D (h : DOwn B G w s w2) (hbw : B.base ≤ w.heap.size) (o : OwnY w2 G X x v3 v4) (hb : Below w2.heap.size w2 w3) {news : List ByteArray} {m : Nat} (hm : news.length = m) (hown : w4.ownsRow 0 9 1 v' (x.names.length + m) (x.names.map .string ++ news.map .string)) (hg : w3.grownBy w4 v3.ownBlock) (hl : v'.ownBlock = v3.ownBlock ∨ v'.ownBlock = some w3.heap.size) :
 ∃ G' : Nat → Prop, DOwn B G' w s (w4.setCell ⟨X, 3, none⟩ v') ∧ OwnY (w4.setCell ⟨X, 3, none⟩ v') G' X { x with names := x.names ++ news } v' v4 := by
 have o3 := o.below hb;have h3 := h.below hb;have h4 := h3.app hbw o.g3 hg hl (zb8 hown);have h5 := h4.set (.inl o.gx) 3 v' hbw;have hset : w4.grownBy (w4.setCell ⟨X, 3, none⟩ v') (some X) := za9 (zaf w4 (some X)) (.inl rfl) v';have b4 := o3.blk.grown hg (fun e => za3 o3.r3 o3.blk (by decide) e.symm);have k4 := o3.r4.kept hg (zbx o3.r4 o3.r3 (by decide));have k3 := hown;exact ⟨_, h5, ⟨by have := b4.set_ 3 v'; simpa using this, .inl o.gx, (by simpa [hm] using k3.kept hset (.inr (za3 k3 b4 (by decide)))), k4.kept hset (.inr (za3 k4 b4 (by decide))), (fun g e => .inr e), (fun g e => .inl (o.g4 g e))⟩⟩
theorem OwnY.app4D (h : DOwn B G w s w2) (hbw : B.base ≤ w.heap.size) (o : OwnY w2 G X x v3 v4) (hb : Below w2.heap.size w2 w3) {news : List Int} {m : Nat} (hm : news.length = m) (hown : w4.ownsRow 0 3 1 v' (x.kids.length + m) (x.kids.map iv ++ news.map iv)) (hg : w3.grownBy w4 v4.ownBlock) (hl : v'.ownBlock = v4.ownBlock ∨ v'.ownBlock = some w3.heap.size) :
 ∃ G' : Nat → Prop, DOwn B G' w s (w4.setCell ⟨X, 4, none⟩ v') ∧ OwnY (w4.setCell ⟨X, 4, none⟩ v') G' X { x with kids := x.kids ++ news } v3 v' := by
 have o3 := o.below hb;have h3 := h.below hb;have h4 := h3.app hbw o.g4 hg hl (zb8 hown);have h5 := h4.set (.inl o.gx) 4 v' hbw;have hset : w4.grownBy (w4.setCell ⟨X, 4, none⟩ v') (some X) := za9 (zaf w4 (some X)) (.inl rfl) v';have b4 := o3.blk.grown hg (fun e => za3 o3.r4 o3.blk (by decide) e.symm);have k3 := o3.r3.kept hg (zbx o3.r3 o3.r4 (by decide));have k4 := hown;exact ⟨_, h5, ⟨by have := b4.set_ 4 v'; simpa using this, .inl o.gx, k3.kept hset (.inr (za3 k3 b4 (by decide))), (by simpa [hm] using k4.kept hset (.inr (za3 k4 b4 (by decide)))), (fun g e => .inl (o.g3 g e)), (fun g e => .inr e)⟩⟩
theorem OwnY.freshD (h : DAft B w s w1) (hbw : B.base ≤ w.heap.size) (kind pos : Int) (name : ByteArray) : ∃ G : Nat → Prop, DOwn B G w s (w1.alloc (.cells #[iv kind, iv pos, .string name, .slice Option.none 0 0, .slice Option.none 0 0, .bool false] 40)) ∧ OwnY (w1.alloc (.cells #[iv kind, iv pos, .string name, .slice Option.none 0 0, .slice Option.none 0 0, .bool false] 40)) G w1.heap.size ⟨kind, pos, name, [], [], false⟩ (.slice Option.none 0 0) (.slice Option.none 0 0) := by
 have hb : Below w1.heap.size w1 (w1.alloc (.cells #[iv kind, iv pos, .string name, .slice Option.none 0 0, .slice Option.none 0 0, .bool false] 40)) := (zJx _ _).alloc (zJw _) _;have hX := Blk.new w1 40 #[iv kind, iv pos, .string name, .slice Option.none 0 0, .slice Option.none 0 0, .bool false];obtain ⟨G, m, a⟩ := h.own1 hbw hb w1.heap.size (zJw _) hX.lt;exact ⟨G, a, ⟨hX, m, zdb _ _ _ _, zdb _ _ _ _, fun g e => zcc e, fun g e => zcc e⟩⟩
theorem SlAt.owned {Pb : Nat → Prop} {A : Option Addr} {n c : Nat} {xs : List Value} (h : SlAt Pb w A n xs) : SlAt (fun b => (Value.slice A n c).ownBlock = some b) w A n xs :=
 ⟨h.1, fun hn => by obtain ⟨b, off, rfl, _, hc⟩ := h.2 hn; exact ⟨b, off, rfl, by simp [Value.ownBlock], hc⟩⟩
theorem OwnY.okD (h : DOwn B G w s w1) (hbw : B.base ≤ w.heap.size) (hL : ∀ b, B.L b → b < w.heap.size) (o : OwnY w1 G X x v3 v4) : ∃ p : Ptr2, (#[iv x.kind, iv x.pos, .string x.name, v3, v4, .bool x.opn] = (za4 x p).toArray) ∧ TypOk (fun b => B.base ≤ b ∧ b < w1.heap.size ∧ ¬ DMu B w1 b ∧ ¬ B.L b) w1 x p := by
 obtain ⟨A3, c3, rfl, _, k3⟩ := SlAt.of_own o.r3;obtain ⟨A4, c4, rfl, _, k4⟩ := SlAt.of_own o.r4;have hG : ∀ b, G b → B.base ≤ b ∧ b < w1.heap.size ∧ ¬ DMu B w1 b ∧ ¬ B.L b := fun b g => ⟨zK4 hbw (h.ge b g), h.lt g, h.nm b g, fun hl => absurd (h.ge b g) (Nat.not_le.2 (hL b hl))⟩;exact ⟨⟨A3, c3, A4, c4⟩, rfl, k3.owned.imp (fun b e => hG b (o.g3 b e)), k4.owned.imp (fun b e => hG b (o.g4 b e))⟩
end
end Go.Proofs.YtidmeodmkcomlaaGreatDoor
