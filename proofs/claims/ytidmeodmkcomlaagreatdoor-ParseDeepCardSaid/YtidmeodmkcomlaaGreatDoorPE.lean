/- The parser as a function of its tokens; a parser in memory; its smallest functions; atoms. -/
import Derived.Test.YtidmeodmkcomlaaGreatDoorOwn3
import Derived.Test.YtidmeodmkcomlaaGreatDoorLexer
import Derived.Test.YtidmeodmkcomlaaGreatDoorBuilder
import Derived.BigQuiet
import Derived.RegionCalls
import Derived.Deep.RegionLaw
import Derived.Defers
import Derived.Deep.QuietTactic
import Derived.Deep.Cut
namespace Go.Proofs.YtidmeodmkcomlaaGreatDoor
open Go Go.Proofs Go.RowKit

/-- Where a parser stands, how many rules are open, and what is built. -/
structure St where
  k : Nat
  op : Nat
  t1 : List TermD
  t2 : List TypD

/-- What a rule gives: a number and the new state; 'un': nothing is said here. -/
inductive PR where
  | ok (i : Nat) (s : St)
  | un

def PR.bind : PR → (Nat → St → PR) → PR
  | .ok i s, f => f i s
  | .un, _ => .un

theorem PR.bind_ok {p : PR} {f : Nat → St → PR} {i : Nat} {s : St} (h : p.bind f = .ok i s) : ∃ i1 s1, p = .ok i1 s1 ∧ f i1 s1 = .ok i s := by
  cases p with
  | ok i1 s1 => exact ⟨i1, s1, rfl, h⟩
  | un => cases h

def bs (l : List UInt8) : ByteArray := ⟨l.toArray⟩
def tkA (ts : List Tk) (k : Nat) : Tk := ts.getD k (0, [], 0)
/-- Is it one of these words and signs? -/
def standsB (t : Tk) (l : List (List UInt8)) : Bool := (t.1 == 7 || t.1 == 8) && l.any (fun x => x == t.2.1)

def newT (s : St) (x : TermD) : PR := if s.t1.length < 65536 then .ok s.t1.length ⟨s.k, s.op, s.t1 ++ [x], s.t2⟩ else .un
def newY (s : St) (x : TypD) : PR := if s.t2.length < 65536 then .ok s.t2.length ⟨s.k, s.op, s.t1, s.t2 ++ [x]⟩ else .un
def St.on (s : St) (n : Nat) : St := ⟨s.k + n, s.op, s.t1, s.t2⟩
def St.up (s : St) : St := ⟨s.k, s.op + 1, s.t1, s.t2⟩
def St.down (s : St) : St := ⟨s.k, s.op - 1, s.t1, s.t2⟩

def leafM (t : Tk) : Option TermD :=
  if t.1 = 1 then some ⟨0, (t.2.2 : Nat), bs t.2.1, 0, 0, [], [], []⟩
  else if t.1 = 6 then some ⟨3, (t.2.2 : Nat), bs t.2.1, 0, 0, [], [], []⟩
  else if t.1 = 4 then (match Lib.parseIntB 64 t.2.1 with
    | .ok v => some ⟨1, (t.2.2 : Nat), bs [], v, 0, [], [], []⟩
    | _ => none)
  else none

section
variable (ts : List Tk)
def atomM (s : St) : PR :=
  if (tkA ts s.k).1 = 7 ∨ (tkA ts s.k).1 = 8 then .un else
  match leafM (tkA ts s.k) with
  | none => .un
  | some x => newT (s.on 1) x

def postL : Nat → Nat → St → PR
  | 0, _, _ => .un
  | f + 1, left, s =>
    if standsB (tkA ts s.k) [[46]] = true then
      if (tkA ts (s.k + 1)).1 = 1 then
        (newT (s.on 2) ⟨13, ((tkA ts s.k).2.2 : Nat), bs (tkA ts (s.k + 1)).2.1, 0, 0, [], [(left : Int)], []⟩).bind (postL f)
      else .un
    else .ok left s
def postM (s : St) : PR := (atomM ts s).bind (postL ts ts.length)

def unitM (s : St) : PR := if (tkA ts s.k).1 = 3 then .un else postM ts s
def unitB (t : Tk) : Bool := t.1 == 3 || t.1 == 1 || t.1 == 4 || t.1 == 5 || t.1 == 6 || standsB t [[116, 114, 117, 101], [102, 97, 108, 115, 101], [40], [123]]

def applyL : Nat → Nat → St → PR
  | 0, _, _ => .un
  | f + 1, left, s =>
    if unitB (tkA ts s.k) = true then
      (unitM ts s).bind fun i s' => (newT s' ⟨6, ((tkA ts s.k).2.2 : Nat), bs [], 0, 0, [], [(left : Int), (i : Int)], []⟩).bind (applyL f)
    else .ok left s
def applyM (s : St) : PR := (unitM ts s).bind (applyL ts ts.length)

def opM (P : St → PR) (left : Nat) (s : St) : PR :=
  (P (s.on 1)).bind fun i s' => newT s' ⟨14, ((tkA ts s.k).2.2 : Nat), bs (tkA ts s.k).2.1, 0, 0, [], [(left : Int), (i : Int)], []⟩
def rowL (P : St → PR) (sg : List (List UInt8)) : Nat → Nat → St → PR
  | 0, _, _ => .un
  | f + 1, left, s => if standsB (tkA ts s.k) sg = true then (opM ts P left s).bind (rowL P sg f) else .ok left s
def rowM (P : St → PR) (sg : List (List UInt8)) (s : St) : PR := (P s).bind (rowL ts P sg ts.length)

def productM (s : St) : PR := rowM ts (applyM ts) [[42], [47], [42, 46], [47, 46]] s
def sumM (s : St) : PR := rowM ts (productM ts) [[43], [45], [43, 46], [45, 46]] s
def joinM (s : St) : PR := rowM ts (sumM ts) [[94]] s
def compareM (s : St) : PR := (joinM ts s).bind fun i s' => if standsB (tkA ts s'.k) [[61, 61], [60], [60, 46]] = true then .un else .ok i s'
def termM (s : St) : PR :=
  if s.op = 256 then .un else
  if (tkA ts s.k).1 = 7 ∨ (tkA ts s.k).1 = 8 then .un else
  (compareM ts s.up).bind fun i s' => .ok i s'.down

def simpleM (s : St) : PR :=
  if (tkA ts s.k).1 = 7 ∧ (tkA ts s.k).2.1 = [105, 110, 116] then newY (s.on 1) ⟨0, ((tkA ts s.k).2.2 : Nat), bs [], [], [], false⟩ else .un
def typeM : Nat → St → PR
  | 0, _ => .un
  | f + 1, s =>
    if s.op = 256 then .un else
    (simpleM ts s.up).bind fun i s' =>
      if standsB (tkA ts s'.k) [[45, 62]] = true then
        (typeM f (s'.on 1)).bind fun j s'' => (newY s'' ⟨7, ((tkA ts s'.k).2.2 : Nat), bs [], [], [(i : Int), (j : Int)], false⟩).bind fun l s3 => .ok l s3.down
      else .ok i s'.down
end
end Go.Proofs.YtidmeodmkcomlaaGreatDoor

namespace Go.Proofs.YtidmeodmkcomlaaGreatDoor
open Go Go.Proofs Go.RowKit

/-- What does not change while a parser runs: where its block, its builder, its tokens lie; its tokens; its map; and blocks of the callers' own, in which nothing of the tree lies. -/
structure PE where
  g : Nat
  cap : Nat
  pb : Nat
  cb : Nat
  base : Nat
  mv : Value
  ts : List Tk
  L : Nat → Prop

abbrev PE.cells (B : PE) (s : St) : Array Value := #[.slice (some ⟨B.g, 0, none⟩) B.ts.length B.cap, .int .i64 (s.k : Nat), .int .i64 (s.op : Nat), B.mv, .pointer (some ⟨B.cb, 0, none⟩)]

/-- The blocks that a parser writes: its own, its builder's, and those of the builder's rows. -/
def Mu (B : PE) (w : World) (b : Nat) : Prop := b = B.pb ∨ b = B.cb ∨ ∃ j v, w.cell? ⟨B.cb, j, none⟩ = some v ∧ v.ownBlock = some b
/-- Every other block is as it was, and stays another. -/
def Kt (B : PE) (w w' : World) : Prop := w.heap.size ≤ w'.heap.size ∧ ∀ b, b < w.heap.size → ¬ Mu B w b → w'.heap[b]? = w.heap[b]? ∧ ¬ Mu B w' b
theorem Kt.refl (B : PE) (w : World) : Kt B w w := ⟨Nat.le_refl _, fun _ _ h => ⟨rfl, h⟩⟩
theorem Kt.trans {B : PE} {a b c : World} (h : Kt B a b) (k : Kt B b c) : Kt B a c := ⟨Nat.le_trans h.1 k.1, fun g hg hm => by
  obtain ⟨e1, m1⟩ := h.2 g hg hm
  obtain ⟨e2, m2⟩ := k.2 g (Nat.lt_of_lt_of_le hg h.1) m1
  exact ⟨e2.trans e1, m2⟩⟩
theorem Kt.block {B : PE} {w w' : World} (h : Kt B w w') {b : Nat} (hb : b < w.heap.size) (hm : ¬ Mu B w b) : w'.heap[b]? = w.heap[b]? := (h.2 b hb hm).1
theorem mu_below {B : PE} {w w' : World} {n : Nat} (hb : Below n w w') (hc : B.cb < n) (b : Nat) : Mu B w' b ↔ Mu B w b := by
  unfold Mu
  have e : ∀ j, w'.cell? ⟨B.cb, j, none⟩ = w.cell? ⟨B.cb, j, none⟩ := fun j => hb.cell (p := ⟨B.cb, j, none⟩) hc
  simp only [e]
theorem Kt.of_below {B : PE} {w w' : World} (h : Below w.heap.size w w') (hc : B.cb < w.heap.size) : Kt B w w' := ⟨h.size, fun b hb hm => ⟨h.block b hb, fun k => hm ((mu_below h hc b).1 k)⟩⟩

section
variable {Pb Qb : Nat → Prop} {w : World}
theorem SlAt.and {A : Option Addr} {n : Nat} {xs : List Value} (h : SlAt Pb w A n xs) (k : SlAt Qb w A n xs) : SlAt (fun b => Pb b ∧ Qb b) w A n xs :=
  ⟨h.1, fun hn => by
    obtain ⟨b, off, e, hb, hc⟩ := h.2 hn
    obtain ⟨b', off', e', hb', _⟩ := k.2 hn
    rw [e] at e'
    injection e' with e'
    injection e' with e1 e2
    subst e1
    exact ⟨b, off, e, ⟨hb, hb'⟩, hc⟩⟩
theorem TermOk.and {x : TermD} {p : Ptr3} (h : TermOk Pb w x p) (k : TermOk Qb w x p) : TermOk (fun b => Pb b ∧ Qb b) w x p := ⟨h.1.and k.1, h.2.1.and k.2.1, h.2.2.and k.2.2⟩
theorem TypOk.and {x : TypD} {p : Ptr2} (h : TypOk Pb w x p) (k : TypOk Qb w x p) : TypOk (fun b => Pb b ∧ Qb b) w x p := ⟨h.1.and k.1, h.2.and k.2⟩
end

/-- What is built so far: the builder's tree, whose parts lie in no block of the parser's. -/
structure BuiltIn (B : PE) (w : World) (v1 v2 : Value) (r1 : List (TermD × Ptr3)) (r2 : List (TypD × Ptr2)) : Prop where
  tr : TreeOwn w B.base B.cb 99 v1 v2 (.slice none 0 0) r1 r2 []
  q1 : ∀ x ∈ r1, TermOk (fun b => b ≠ B.pb ∧ ¬ B.L b) w x.1 x.2
  q2 : ∀ x ∈ r2, TypOk (fun b => b ≠ B.pb ∧ ¬ B.L b) w x.1 x.2
theorem BuiltIn.ne {B : PE} {w : World} {v1 v2 : Value} {r1 : List (TermD × Ptr3)} {r2 : List (TypD × Ptr2)} {cs : Array Value} (h : BuiltIn B w v1 v2 r1 r2) (hg : Blk w B.pb 75 cs) : B.pb ≠ B.cb := fun e => by
  have h1 := h.tr.blk
  unfold Blk at h1 hg
  rw [← e, hg] at h1
  injection h1 with h1
  injection h1 with _ h1
  exact absurd h1 (by decide)
def BuiltAt (B : PE) (w : World) (t1 : List TermD) (t2 : List TypD) : Prop := ∃ v1 v2 r1 r2, BuiltIn B w v1 v2 r1 r2 ∧ r1.map (·.1) = t1 ∧ r2.map (·.1) = t2
def shortT (x : TermD) : Prop := x.names.length ≤ 65536 ∧ x.kids.length ≤ 65536 ∧ x.types.length ≤ 65536
def shortY (x : TypD) : Prop := x.names.length ≤ 65536 ∧ x.kids.length ≤ 65536

structure PS (B : PE) (w : World) (s : St) : Prop where
  env : Env w
  blk : Blk w B.pb 75 (B.cells s)
  tok : ∀ j u, (tkV B.ts)[j]? = some u → w.cell? ⟨B.g, j, none⟩ = some u
  gb : B.g < B.base
  b6 : 6 ≤ B.base
  bw : B.base ≤ w.heap.size
  pbb : B.base ≤ B.pb
  cap : B.ts.length ≤ B.cap
  built : BuiltAt B w s.t1 s.t2
  n1 : s.t1.length ≤ 65536
  n2 : s.t2.length ≤ 65536
  f1 : ∀ x ∈ s.t1, shortT x
  f2 : ∀ x ∈ s.t2, shortY x
  kb : s.k ≤ 4294967296
  ob : s.op ≤ 256
  lb : B.ts.length ≤ 2097152
  ll : ∀ b, B.L b → b < w.heap.size

theorem PS.cbl {B : PE} {w : World} {s : St} (h : PS B w s) : B.cb < w.heap.size := by
  obtain ⟨_, _, _, _, hB, _⟩ := h.built
  exact hB.tr.blk.lt
theorem PS.ne {B : PE} {w : World} {s : St} (h : PS B w s) : B.pb ≠ B.cb := by
  obtain ⟨_, _, _, _, hB, _⟩ := h.built
  exact hB.ne h.blk
/-- A block that is new is none that the parser writes. -/
theorem PS.fresh {B : PE} {w w' : World} {s : St} (h : PS B w s) (hb : Below w.heap.size w w') {b : Nat} (hn : w.heap.size ≤ b) : ¬ Mu B w' b := fun k => by
  obtain ⟨v1, v2, r1, r2, hB, _⟩ := h.built
  rcases (mu_below hb h.cbl b).1 k with e | e | ⟨j, v, e, e2⟩
  · have := h.blk.lt; omega
  · have := h.cbl; omega
  · have hc := hB.tr.blk.cell j
    rw [hc] at e
    match j, e with
    | 0, e => simp at e; subst e; have := row_lt hB.tr.o1 b e2; omega
    | 1, e => simp at e; subst e; have := row_lt hB.tr.o2 b e2; omega
    | 2, e => simp at e; subst e; simp [Value.ownBlock] at e2
    | j + 3, e => simp at e

/-- What a rule leaves. -/
structure Aft (B : PE) (w : World) (s : St) (w' : World) : Prop where
  ps : PS B w' s
  kt : Kt B w w'
  bel : Below B.base w w'

theorem Aft.refl {B : PE} {w : World} {s : St} (h : PS B w s) : Aft B w s w := ⟨h, Kt.refl B w, Below.refl _ w⟩
theorem Aft.trans {B : PE} {w w1 w2 : World} {s s' : St} (h : Aft B w s w1) (k : Aft B w1 s' w2) : Aft B w s' w2 := ⟨k.ps, h.kt.trans k.kt, h.bel.trans k.bel⟩

theorem BuiltIn.below {B : PE} {w w' : World} {v1 v2 : Value} {r1 : List (TermD × Ptr3)} {r2 : List (TypD × Ptr2)} (h : BuiltIn B w v1 v2 r1 r2) (hb : Below w.heap.size w w') : BuiltIn B w' v1 v2 r1 r2 :=
  ⟨h.tr.below hb, fun x hx => (((h.tr.k1 x hx).and (h.q1 x hx)).keep (fun b o k => hb.cell (p := ⟨b, o, none⟩) k.1.2.1)).imp (fun _ k => k.2),
    fun x hx => (((h.tr.k2 x hx).and (h.q2 x hx)).keep (fun b o k => hb.cell (p := ⟨b, o, none⟩) k.1.2.1)).imp (fun _ k => k.2)⟩
theorem BuiltAt.below {B : PE} {w w' : World} {t1 : List TermD} {t2 : List TypD} (h : BuiltAt B w t1 t2) (hb : Below w.heap.size w w') : BuiltAt B w' t1 t2 := by
  obtain ⟨v1, v2, r1, r2, h, e1, e2⟩ := h
  exact ⟨v1, v2, r1, r2, h.below hb, e1, e2⟩

/-- New blocks, and blocks of the call's own, turn nothing of a parser. -/
theorem PS.below {B : PE} {w w' : World} {s : St} (h : PS B w s) (hb : Below w.heap.size w w') : PS B w' s :=
  { h with
    env := h.env.on hb
    blk := h.blk.below hb h.blk.lt
    tok := fun j u hu => (hb.cell (p := ⟨B.g, j, none⟩) (Nat.lt_of_lt_of_le h.gb h.bw)).trans (h.tok j u hu)
    bw := Nat.le_trans h.bw hb.size
    ll := fun b hl => Nat.lt_of_lt_of_le (h.ll b hl) hb.size
    built := h.built.below hb }
theorem PS.aft {B : PE} {w w' : World} {s : St} (h : PS B w s) (hb : Below w.heap.size w w') : Aft B w s w' := ⟨h.below hb, Kt.of_below hb h.cbl, hb.mono h.bw⟩
theorem Aft.below {B : PE} {w w1 w2 : World} {s : St} (h : Aft B w s w1) (hb : Below w1.heap.size w1 w2) : Aft B w s w2 := h.trans (h.ps.aft hb)

/-- A cell of the parser's own block is written. -/
theorem BuiltIn.set_ {B : PE} {w : World} {v1 v2 : Value} {r1 : List (TermD × Ptr3)} {r2 : List (TypD × Ptr2)} {cs : Array Value} (h : BuiltIn B w v1 v2 r1 r2) (hg : Blk w B.pb 75 cs) (k : Nat) (u : Value) : BuiltIn B (w.setCell ⟨B.pb, k, none⟩ u) v1 v2 r1 r2 := by
  have hset : w.grownBy (w.setCell ⟨B.pb, k, none⟩ u) (some B.pb) := only_setCell (only_refl w (some B.pb)) (.inl rfl) u
  have hne := h.ne hg
  have hkp : ∀ b o, b ≠ B.pb → (w.setCell ⟨B.pb, k, none⟩ u).cell? ⟨b, o, none⟩ = w.cell? ⟨b, o, none⟩ := fun b o hb => World.cell?_setCell_other _ _ _ _ (by intro e; injection e with e; exact hb e.symm)
  have hsz : (w.setCell ⟨B.pb, k, none⟩ u).heap.size = w.heap.size := by simp
  have him : ∀ b, Part w B.base B.cb v1 v2 (.slice none 0 0) b → Part (w.setCell ⟨B.pb, k, none⟩ u) B.base B.cb v1 v2 (.slice none 0 0) b := fun b hp => ⟨hp.1, by rw [hsz]; exact hp.2.1, hp.2.2⟩
  refine ⟨⟨h.tr.blk.grown hset (fun e => hne (by injection e with e; exact e.symm)), h.tr.tys, h.tr.bas, h.tr.o1.kept hset (.inr (own_blk_ne h.tr.o1 hg (by decide))), h.tr.o2.kept hset (.inr (own_blk_ne h.tr.o2 hg (by decide))), h.tr.o3.kept hset (.inl rfl),
    fun x hx => (((h.tr.k1 x hx).and (h.q1 x hx)).keep (fun b o q => hkp b o q.2.1)).imp (fun b q => him b q.1), fun x hx => (((h.tr.k2 x hx).and (h.q2 x hx)).keep (fun b o q => hkp b o q.2.1)).imp (fun b q => him b q.1)⟩,
    fun x hx => (h.q1 x hx).keep (fun b o q => hkp b o q.1), fun x hx => (h.q2 x hx).keep (fun b o q => hkp b o q.1)⟩

theorem kt_set {B : PE} {w : World} (hc : B.pb ≠ B.cb) (k : Nat) (u : Value) : Kt B w (w.setCell ⟨B.pb, k, none⟩ u) := by
  refine ⟨by simp, fun b hb hm => ⟨Below.heap_setCell _ _ _ _ (fun e => hm (.inl e)), fun k2 => hm ?_⟩⟩
  rcases k2 with e | e | ⟨j, v, e, e2⟩
  · exact .inl e
  · exact .inr (.inl e)
  · refine .inr (.inr ⟨j, v, ?_, e2⟩)
    rw [World.cell?_setCell_other _ _ _ _ (by intro e; injection e with e; exact hc e)] at e
    exact e

theorem PS.set_ {B : PE} {w : World} {s : St} (h : PS B w s) (k op : Nat) (j : Nat) (u : Value) (hk : k ≤ 4294967296) (ho : op ≤ 256) (hc : (B.cells s).setIfInBounds j u = B.cells ⟨k, op, s.t1, s.t2⟩) : Aft B w ⟨k, op, s.t1, s.t2⟩ (w.setCell ⟨B.pb, j, none⟩ u) := by
  have hb : Below B.base w (w.setCell ⟨B.pb, j, none⟩ u) := (Below.refl _ w).setCell h.pbb u
  have hp := h.blk.set_ j u
  rw [hc] at hp
  obtain ⟨v1, v2, r1, r2, hB, e1, e2⟩ := h.built
  exact ⟨{ h with
    env := h.env.below h.b6 hb (by simpa using h.env.size)
    blk := hp
    tok := fun j u hu => (hb.cell (p := ⟨B.g, j, none⟩) h.gb).trans (h.tok j u hu)
    bw := by simpa using h.bw
    ll := fun b hl => by simpa using h.ll b hl
    built := ⟨v1, v2, r1, r2, hB.set_ h.blk j u, e1, e2⟩
    kb := hk
    ob := ho }, kt_set h.ne j u, hb⟩
/-- The parser's own block is written, and new blocks. -/
theorem PS.moved {B : PE} {w w' : World} {s : St} (h : PS B w s) (k op : Nat) (hk : k ≤ 4294967296) (ho : op ≤ 256) (hb : Below B.base w w') (hp : Blk w' B.pb 75 (B.cells ⟨k, op, s.t1, s.t2⟩)) (hot : ∀ b, b < w.heap.size → b ≠ B.pb → w'.heap[b]? = w.heap[b]?) : Aft B w ⟨k, op, s.t1, s.t2⟩ w' := by
  obtain ⟨v1, v2, r1, r2, hB, e1, e2⟩ := h.built
  have hne := h.ne
  have hset : w.grownBy w' (some B.pb) := ⟨hb.os, hb.tape, hb.output, hb.size, fun b hb1 hb2 => hot b hb1 (fun e => hb2 (by rw [e]))⟩
  have hkp : ∀ b o, Part w B.base B.cb v1 v2 (.slice none 0 0) b ∧ (b ≠ B.pb ∧ ¬ B.L b) → w'.cell? ⟨b, o, none⟩ = w.cell? ⟨b, o, none⟩ := fun b o q => World.cell?_of_block (a := ⟨b, o, none⟩) (hot b q.1.2.1 q.2.1)
  have him : ∀ b, Part w B.base B.cb v1 v2 (.slice none 0 0) b → Part w' B.base B.cb v1 v2 (.slice none 0 0) b := fun b q => ⟨q.1, Nat.lt_of_lt_of_le q.2.1 hb.size, q.2.2⟩
  have hcb : ∀ j, w'.cell? ⟨B.cb, j, none⟩ = w.cell? ⟨B.cb, j, none⟩ := fun j => World.cell?_of_block (a := ⟨B.cb, j, none⟩) (hot B.cb h.cbl (fun e => hne e.symm))
  refine ⟨{ h with
    env := h.env.below h.b6 hb (Nat.le_trans h.env.size hb.size)
    blk := hp
    tok := fun j u hu => (hb.cell (p := ⟨B.g, j, none⟩) h.gb).trans (h.tok j u hu)
    bw := Nat.le_trans h.bw hb.size
    ll := fun b hl => Nat.lt_of_lt_of_le (h.ll b hl) hb.size
    built := ⟨v1, v2, r1, r2, ⟨⟨hB.tr.blk.grown hset (fun e => hne (by injection e with e; exact e.symm)), hB.tr.tys, hB.tr.bas, hB.tr.o1.kept hset (.inr (own_blk_ne hB.tr.o1 h.blk (by decide))), hB.tr.o2.kept hset (.inr (own_blk_ne hB.tr.o2 h.blk (by decide))), hB.tr.o3.kept hset (.inl rfl),
      fun x hx => (((hB.tr.k1 x hx).and (hB.q1 x hx)).keep hkp).imp (fun b q => him b q.1), fun x hx => (((hB.tr.k2 x hx).and (hB.q2 x hx)).keep hkp).imp (fun b q => him b q.1)⟩,
      fun x hx => (((hB.tr.k1 x hx).and (hB.q1 x hx)).keep hkp).imp (fun b q => q.2), fun x hx => (((hB.tr.k2 x hx).and (hB.q2 x hx)).keep hkp).imp (fun b q => q.2)⟩, e1, e2⟩
    kb := hk
    ob := ho }, ⟨hb.size, fun b hb1 hm => ⟨hot b hb1 (fun e => hm (.inl e)), fun k2 => hm ?_⟩⟩, hb⟩
  rcases k2 with e | e | ⟨j, v, e, e3⟩
  · exact .inl e
  · exact .inr (.inl e)
  · rw [hcb j] at e
    exact .inr (.inr ⟨j, v, e, e3⟩)
theorem PS.setK {B : PE} {w : World} {s : St} (h : PS B w s) (n : Nat) (hk : s.k + n ≤ 4294967296) : Aft B w (s.on n) (w.setCell ⟨B.pb, 1, none⟩ (.int .i64 ((s.k + n : Nat) : Int))) := h.set_ (s.k + n) s.op 1 _ hk h.ob rfl
theorem PS.up {B : PE} {w : World} {s : St} (h : PS B w s) (hk : s.op < 256) : Aft B w s.up (w.setCell ⟨B.pb, 2, none⟩ (.int .i64 ((s.op + 1 : Nat) : Int))) := h.set_ s.k (s.op + 1) 2 _ h.kb (by omega) rfl
theorem PS.down {B : PE} {w : World} {s : St} (h : PS B w s) : Aft B w s.down (w.setCell ⟨B.pb, 2, none⟩ (.int .i64 ((s.op - 1 : Nat) : Int))) := h.set_ s.k (s.op - 1) 2 _ h.kb (by have := h.ob; omega) rfl

/-- Blocks of a call's own, which it writes while the parser runs. -/
def PE.with (B : PE) (G : Nat → Prop) : PE := { B with L := fun b => B.L b ∨ G b }
structure AftO (B : PE) (G : Nat → Prop) (w : World) (s : St) (w' : World) : Prop where
  ps : PS (B.with G) w' s
  kt : Kt B w w'
  bel : Below B.base w w'
  nm : ∀ b, G b → ¬ Mu B w' b
  ge : ∀ b, G b → w.heap.size ≤ b

theorem AftO.start {B : PE} {w w' : World} {s : St} (h : PS B w s) (hb : Below w.heap.size w w') (G : Nat → Prop) (hg : ∀ b, G b → w.heap.size ≤ b ∧ b < w'.heap.size) : AftO B G w s w' := by
  have p := h.below hb
  have hp := h.blk.lt
  obtain ⟨v1, v2, r1, r2, hB, e1, e2⟩ := h.built
  have hG : ∀ v1 v2 b, Part w B.base B.cb v1 v2 (.slice none 0 0) b ∧ (b ≠ B.pb ∧ ¬ B.L b) → b ≠ (B.with G).pb ∧ ¬ (B.with G).L b := fun v1 v2 b k => ⟨k.2.1, fun hl => by
    rcases hl with hl | hl
    · exact k.2.2 hl
    · have h1 := (hg b hl).1; have h2 := k.1.2.1; omega⟩
  exact ⟨{ p with
    ll := fun b hl => by
      rcases hl with hl | hl
      · exact p.ll b hl
      · exact (hg b hl).2
    built := ⟨v1, v2, r1, r2, ⟨hB.tr.below hb, fun x hx => (((hB.tr.k1 x hx).and (hB.q1 x hx)).keep (fun b o k => hb.cell (p := ⟨b, o, none⟩) k.1.2.1)).imp (hG v1 v2), fun x hx => (((hB.tr.k2 x hx).and (hB.q2 x hx)).keep (fun b o k => hb.cell (p := ⟨b, o, none⟩) k.1.2.1)).imp (hG v1 v2)⟩, e1, e2⟩ }, Kt.of_below hb h.cbl, hb.mono h.bw, fun b k => h.fresh hb (hg b k).1, fun b k => (hg b k).1⟩
theorem AftO.lt {B : PE} {G : Nat → Prop} {w w1 : World} {s : St} (h : AftO B G w s w1) {b : Nat} (hb : G b) : b < w1.heap.size := h.ps.ll b (.inr hb)
theorem AftO.call {B : PE} {G : Nat → Prop} {w w1 w2 : World} {s s' : St} (h : AftO B G w s w1) (k : Aft (B.with G) w1 s' w2) : AftO B G w s' w2 :=
  ⟨k.ps, h.kt.trans k.kt, h.bel.trans k.bel, fun b hb => (k.kt.2 b (h.lt hb) (h.nm b hb)).2, h.ge⟩
theorem AftO.below {B : PE} {G : Nat → Prop} {w w1 w2 : World} {s : St} (h : AftO B G w s w1) (hb : Below w1.heap.size w1 w2) : AftO B G w s w2 := h.call (h.ps.aft hb)
theorem AftO.same {B : PE} {G : Nat → Prop} {w w1 w2 : World} {s s' : St} (h : AftO B G w s w1) (k : Aft (B.with G) w1 s' w2) {b : Nat} (hb : G b) : w2.heap[b]? = w1.heap[b]? := k.kt.block (h.lt hb) (h.nm b hb)
theorem AftO.set {B : PE} {G : Nat → Prop} {w w1 : World} {s : St} (h : AftO B G w s w1) {g : Nat} (hg : G g) (k : Nat) (u : Value) (hbw : B.base ≤ w.heap.size) : AftO B G w s (w1.setCell ⟨g, k, none⟩ u) := by
  have hge := h.ge g hg
  have hnm := h.nm g hg
  have hb : Below B.base w1 (w1.setCell ⟨g, k, none⟩ u) := (Below.refl _ w1).setCell (by dsimp only; omega) u
  have hgp : g ≠ B.pb := fun e => hnm (.inl e)
  have hgc : g ≠ B.cb := fun e => hnm (.inr (.inl e))
  have hset : w1.grownBy (w1.setCell ⟨g, k, none⟩ u) (some g) := only_setCell (only_refl w1 (some g)) (.inl rfl) u
  obtain ⟨v1, v2, r1, r2, hB, e1, e2⟩ := h.ps.built
  have n1 : v1.ownBlock ≠ some g := fun e => hnm (.inr (.inr ⟨0, v1, hB.tr.blk.cell 0, e⟩))
  have n2 : v2.ownBlock ≠ some g := fun e => hnm (.inr (.inr ⟨1, v2, hB.tr.blk.cell 1, e⟩))
  have hkp : ∀ b o, b ≠ (B.with G).pb ∧ ¬ (B.with G).L b → (w1.setCell ⟨g, k, none⟩ u).cell? ⟨b, o, none⟩ = w1.cell? ⟨b, o, none⟩ := fun b o q => World.cell?_setCell_other _ _ _ _ (by intro e; injection e with e; exact q.2 (.inr (e ▸ hg)))
  have hsz : (w1.setCell ⟨g, k, none⟩ u).heap.size = w1.heap.size := by simp
  have him : ∀ b, Part w1 B.base B.cb v1 v2 (.slice none 0 0) b → Part (w1.setCell ⟨g, k, none⟩ u) B.base B.cb v1 v2 (.slice none 0 0) b := fun b hp => ⟨hp.1, by rw [hsz]; exact hp.2.1, hp.2.2⟩
  have hmu : ∀ b, Mu B (w1.setCell ⟨g, k, none⟩ u) b → Mu B w1 b := fun b k2 => by
    rcases k2 with e | e | ⟨j, v, e, e3⟩
    · exact .inl e
    · exact .inr (.inl e)
    · rw [World.cell?_setCell_other _ _ _ _ (by intro e; injection e with e; exact hgc e)] at e
      exact .inr (.inr ⟨j, v, e, e3⟩)
  refine ⟨{ h.ps with
    env := h.ps.env.below h.ps.b6 hb (by rw [hsz]; exact h.ps.env.size)
    blk := h.ps.blk.far (fun e => hgp e.symm) u
    tok := fun j u hu => (hb.cell (p := ⟨B.g, j, none⟩) h.ps.gb).trans (h.ps.tok j u hu)
    bw := by rw [hsz]; exact h.ps.bw
    ll := fun b hl => by rw [hsz]; exact h.ps.ll b hl
    built := ⟨v1, v2, r1, r2, ⟨⟨hB.tr.blk.grown hset (fun e => hgc (by injection e with e; exact e.symm)), hB.tr.tys, hB.tr.bas, hB.tr.o1.kept hset (.inr n1), hB.tr.o2.kept hset (.inr n2), hB.tr.o3.kept hset (.inl rfl),
      fun x hx => (((hB.tr.k1 x hx).and (hB.q1 x hx)).keep (fun b o q => hkp b o q.2)).imp (fun b q => him b q.1), fun x hx => (((hB.tr.k2 x hx).and (hB.q2 x hx)).keep (fun b o q => hkp b o q.2)).imp (fun b q => him b q.1)⟩,
      fun x hx => (hB.q1 x hx).keep hkp, fun x hx => (hB.q2 x hx).keep hkp⟩, e1, e2⟩ },
    ⟨by rw [hsz]; exact h.kt.1, fun b hb1 hm => ⟨(Below.heap_setCell _ _ _ _ (by dsimp only; omega)).trans (h.kt.2 b hb1 hm).1, fun k2 => (h.kt.2 b hb1 hm).2 (hmu b k2)⟩⟩,
    h.bel.trans hb, fun b hb1 k2 => h.nm b hb1 (hmu b k2), h.ge⟩
theorem AftO.out {B : PE} {G : Nat → Prop} {w w' : World} {s : St} (h : AftO B G w s w') : Aft B w s w' := by
  obtain ⟨v1, v2, r1, r2, hB, e1, e2⟩ := h.ps.built
  exact ⟨{ h.ps with
    ll := fun b hl => h.ps.ll b (.inl hl)
    built := ⟨v1, v2, r1, r2, ⟨hB.tr, fun x hx => (hB.q1 x hx).imp (fun b q => ⟨q.1, fun hl => q.2 (.inl hl)⟩), fun x hx => (hB.q2 x hx).imp (fun b q => ⟨q.1, fun hl => q.2 (.inl hl)⟩)⟩, e1, e2⟩ }, h.kt, h.bel⟩

/-- The cells of a token. -/
theorem PS.now {B : PE} {w : World} {s : St} (h : PS B w s) (hk : s.k < B.ts.length) :
    w.cell? ⟨B.g, s.k * 3, none⟩ = some (.int .i64 ((tkA B.ts s.k).1 : Int)) ∧ w.cell? ⟨B.g, s.k * 3 + 1, none⟩ = some (.string (bs (tkA B.ts s.k).2.1)) ∧ w.cell? ⟨B.g, s.k * 3 + 2, none⟩ = some (.int .i64 ((tkA B.ts s.k).2.2 : Int)) := by
  have hg : ∀ (l : List Tk) (k : Nat), k < l.length → (tkV l)[k * 3]? = some (.int .i64 ((tkA l k).1 : Int)) ∧ (tkV l)[k * 3 + 1]? = some (.string (bs (tkA l k).2.1)) ∧ (tkV l)[k * 3 + 2]? = some (.int .i64 ((tkA l k).2.2 : Int)) := by
    intro l
    induction l with
    | nil => intro k hk; simp at hk
    | cons x r ih =>
      intro k hk
      have e : tkV (x :: r) = [.int .i64 (x.1 : Int), .string ⟨x.2.1.toArray⟩, .int .i64 (x.2.2 : Int)] ++ tkV r := by simp [tkV]
      rw [e]
      cases k with
      | zero => exact ⟨rfl, rfl, rfl⟩
      | succ k =>
        have := ih k (by simpa using hk)
        rw [show (k + 1) * 3 = k * 3 + 3 by omega, show k * 3 + 3 + 1 = (k * 3 + 1) + 3 by omega, show k * 3 + 3 + 2 = (k * 3 + 2) + 3 by omega]
        rw [List.getElem?_append_right (by simp), List.getElem?_append_right (by simp), List.getElem?_append_right (by simp)]
        simpa [tkA] using this
  have := hg B.ts s.k hk
  exact ⟨h.tok _ _ this.1, h.tok _ _ this.2.1, h.tok _ _ this.2.2⟩

/-- A term is put in. -/
theorem PS.pushT {B : PE} {w w' : World} {s : St} (h : PS B w s) {v1 v2 v' : Value} {r1 : List (TermD × Ptr3)} {r2 : List (TypD × Ptr2)} (hB : BuiltIn B w v1 v2 r1 r2) (e1 : r1.map (·.1) = s.t1) (e2 : r2.map (·.1) = s.t2) {x : TermD} {p' : Ptr3} (hf : shortT x) (hn : s.t1.length < 65536)
    (hT : TreeOwn w' B.base B.cb 99 v' v2 (.slice none 0 0) (r1 ++ [(x, p')]) r2 []) (hbel : ∀ n, n ≤ B.base → n ≤ w.heap.size → Below n w w') (hk : ∀ g, g < w.heap.size → g ≠ B.cb → v1.ownBlock ≠ some g → w'.heap[g]? = w.heap[g]?) (hnew : TermOk (fun b => w.heap.size ≤ b) w' x p') (hv : ∀ g, v'.ownBlock = some g → g < w.heap.size → v1.ownBlock = some g) :
    Aft B w ⟨s.k, s.op, s.t1 ++ [x], s.t2⟩ w' := by
  have hb := hbel B.base (Nat.le_refl _) h.bw
  have hpl := h.blk.lt
  have hsame := hk B.pb hpl h.ne (own_blk_ne hB.tr.o1 h.blk (by decide))
  have hkp : ∀ b o, Part w B.base B.cb v1 v2 (.slice none 0 0) b ∧ (b ≠ B.pb ∧ ¬ B.L b) → w'.cell? ⟨b, o, none⟩ = w.cell? ⟨b, o, none⟩ := fun b o q => World.cell?_of_block (a := ⟨b, o, none⟩) (hk b q.1.2.1 q.1.2.2.1 q.1.2.2.2.1)
  have hl : s.t1.length = r1.length := by rw [← e1]; simp
  refine ⟨{ h with
    env := h.env.below h.b6 hb (Nat.le_trans h.env.size hb.size)
    blk := by unfold Blk; rw [hsame]; exact h.blk
    tok := fun j u hu => (hb.cell (p := ⟨B.g, j, none⟩) h.gb).trans (h.tok j u hu)
    bw := Nat.le_trans h.bw hb.size
    ll := fun b hl => Nat.lt_of_lt_of_le (h.ll b hl) hb.size
    built := ⟨v', v2, r1 ++ [(x, p')], r2, ⟨hT, fun y hy => ?_, fun y hy => (((hB.tr.k2 y hy).and (hB.q2 y hy)).keep hkp).imp (fun _ q => q.2)⟩, by simp [e1], e2⟩
    n1 := by simp; omega
    f1 := fun y hy => by
      rcases List.mem_append.1 hy with hy | hy
      · exact h.f1 y hy
      · simp only [List.mem_singleton] at hy; subst hy; exact hf }, ⟨hb.size, fun b hb1 hm => ⟨hk b hb1 (fun e => hm (.inr (.inl e))) (fun e => hm (.inr (.inr ⟨0, v1, hB.tr.blk.cell 0, e⟩))), fun k => hm ?_⟩⟩, hb⟩
  · rcases List.mem_append.1 hy with hy | hy
    · exact (((hB.tr.k1 y hy).and (hB.q1 y hy)).keep hkp).imp (fun _ q => q.2)
    · simp only [List.mem_singleton] at hy
      subst hy
      exact hnew.imp (fun b q => ⟨by omega, fun hl => by have := h.ll b hl; omega⟩)
  · rcases k with e | e | ⟨j, v, e, e3⟩
    · exact .inl e
    · exact .inr (.inl e)
    · rw [hT.blk.cell j] at e
      match j, e with
      | 0, e => simp at e; subst e; exact .inr (.inr ⟨0, v1, hB.tr.blk.cell 0, hv b e3 hb1⟩)
      | 1, e => simp at e; subst e; exact .inr (.inr ⟨1, v2, hB.tr.blk.cell 1, e3⟩)
      | 2, e => simp at e; subst e; simp [Value.ownBlock] at e3
      | j + 3, e => simp at e

/-- A type is put in. -/
theorem PS.pushY {B : PE} {w w' : World} {s : St} (h : PS B w s) {v1 v2 v' : Value} {r1 : List (TermD × Ptr3)} {r2 : List (TypD × Ptr2)} (hB : BuiltIn B w v1 v2 r1 r2) (e1 : r1.map (·.1) = s.t1) (e2 : r2.map (·.1) = s.t2) {x : TypD} {p' : Ptr2} (hf : shortY x) (hn : s.t2.length < 65536)
    (hT : TreeOwn w' B.base B.cb 99 v1 v' (.slice none 0 0) r1 (r2 ++ [(x, p')]) []) (hbel : ∀ n, n ≤ B.base → n ≤ w.heap.size → Below n w w') (hk : ∀ g, g < w.heap.size → g ≠ B.cb → v2.ownBlock ≠ some g → w'.heap[g]? = w.heap[g]?) (hnew : TypOk (fun b => w.heap.size ≤ b) w' x p') (hv : ∀ g, v'.ownBlock = some g → g < w.heap.size → v2.ownBlock = some g) :
    Aft B w ⟨s.k, s.op, s.t1, s.t2 ++ [x]⟩ w' := by
  have hb := hbel B.base (Nat.le_refl _) h.bw
  have hpl := h.blk.lt
  have hsame := hk B.pb hpl h.ne (own_blk_ne hB.tr.o2 h.blk (by decide))
  have hkp : ∀ b o, Part w B.base B.cb v1 v2 (.slice none 0 0) b ∧ (b ≠ B.pb ∧ ¬ B.L b) → w'.cell? ⟨b, o, none⟩ = w.cell? ⟨b, o, none⟩ := fun b o q => World.cell?_of_block (a := ⟨b, o, none⟩) (hk b q.1.2.1 q.1.2.2.1 q.1.2.2.2.2.1)
  have hl : s.t2.length = r2.length := by rw [← e2]; simp
  refine ⟨{ h with
    env := h.env.below h.b6 hb (Nat.le_trans h.env.size hb.size)
    blk := by unfold Blk; rw [hsame]; exact h.blk
    tok := fun j u hu => (hb.cell (p := ⟨B.g, j, none⟩) h.gb).trans (h.tok j u hu)
    bw := Nat.le_trans h.bw hb.size
    ll := fun b hl => Nat.lt_of_lt_of_le (h.ll b hl) hb.size
    built := ⟨v1, v', r1, r2 ++ [(x, p')], ⟨hT, fun y hy => (((hB.tr.k1 y hy).and (hB.q1 y hy)).keep hkp).imp (fun _ q => q.2), fun y hy => ?_⟩, e1, by simp [e2]⟩
    n2 := by simp; omega
    f2 := fun y hy => by
      rcases List.mem_append.1 hy with hy | hy
      · exact h.f2 y hy
      · simp only [List.mem_singleton] at hy; subst hy; exact hf }, ⟨hb.size, fun b hb1 hm => ⟨hk b hb1 (fun e => hm (.inr (.inl e))) (fun e => hm (.inr (.inr ⟨1, v2, hB.tr.blk.cell 1, e⟩))), fun k => hm ?_⟩⟩, hb⟩
  · rcases List.mem_append.1 hy with hy | hy
    · exact (((hB.tr.k2 y hy).and (hB.q2 y hy)).keep hkp).imp (fun _ q => q.2)
    · simp only [List.mem_singleton] at hy
      subst hy
      exact hnew.imp (fun b q => ⟨by omega, fun hl => by have := h.ll b hl; omega⟩)
  · rcases k with e | e | ⟨j, v, e, e3⟩
    · exact .inl e
    · exact .inr (.inl e)
    · rw [hT.blk.cell j] at e
      match j, e with
      | 0, e => simp at e; subst e; exact .inr (.inr ⟨0, v1, hB.tr.blk.cell 0, e3⟩)
      | 1, e => simp at e; subst e; exact .inr (.inr ⟨1, v2, hB.tr.blk.cell 1, hv b e3 hb1⟩)
      | 2, e => simp at e; subst e; simp [Value.ownBlock] at e3
      | j + 3, e => simp at e
end Go.Proofs.YtidmeodmkcomlaaGreatDoor

namespace Go.Proofs.YtidmeodmkcomlaaGreatDoor
open Go Go.Proofs Go.RowKit

abbrev tokV (t : Tk) : Value := .agg #[.int .i64 (t.1 : Int), .string (bs t.2.1), .int .i64 (t.2.2 : Int)]
abbrev PE.ptr (B : PE) : Value := .pointer (some ⟨B.pb, 0, none⟩)

set_option maxHeartbeats 2000000 in
theorem now_any {B : PE} {w : World} {s : St} (h : PS B w s) (hk : s.k < B.ts.length) : Calls Tryz.prog 70 #[B.ptr] w fun e w' => e = .returned (tokV (tkA B.ts s.k)) ∧ Below w.heap.size w w' := by
  obtain ⟨f0, f1, f2⟩ := h.now hk
  have c0 := h.blk.cell 0
  have c1 := h.blk.cell 1
  simp only [PE.cells, List.getElem?_toArray, List.getElem?_cons_zero, List.getElem?_cons_succ] at c0 c1
  have hp := h.blk.lt
  have hg : B.g < w.heap.size := Nat.lt_of_lt_of_le h.gb h.bw
  have hl := h.lb
  have hcap := h.cap
  generalize tkA B.ts s.k = t at f0 f1 f2 ⊢
  go_enter Tryz.func70, Tryz.ntmps70
  go_wp2
  go_region
  go_wp2
  exact bodyPost_ret (v := tokV t) (by simp [results, Tryz.results70, go_sem]) rfl ⟨rfl, ((Below.refl _ _).alloc (Nat.le_refl _) _).drew⟩

theorem bs_toList (l : List UInt8) : (bs l).toList = l := by
  unfold bs
  rw [ByteArray.toList_eq]
/-- Where a text stands first among some; -1: nowhere. -/
def ixS (xs : List (List UInt8)) (v : List UInt8) : Int := if xs.any (fun x => x == v) = true then (xs.findIdx (fun x => x == v) : Nat) else -1

set_option maxHeartbeats 2000000 in
theorem ix_any (b n cap : Nat) (xs : List (List UInt8)) (v : List UInt8) (w : World) (hn : xs.length = n) (hb : n ≤ 70000) (hc : ∀ j x, xs[j]? = some x → w.cell? ⟨b, j, none⟩ = some (.string (bs x))) :
    Calls Tryz.prog 120 #[.slice (some ⟨b, 0, none⟩) n cap, .string (bs v)] w fun e w' => e = .returned (.int .i64 (ixS xs v)) ∧ w' = w := by
  go_enter Tryz.func120, Tryz.ntmps120
  go_wp2
  go_loopw [8] (fun i wr => ∃ k : Nat, k ≤ n ∧ i = .int .i64 k ∧ wr = w ∧ Hid (∀ x ∈ xs.take k, (x == v) = false)) (fun i _ => n - (intOf i).toNat)
  case atStart => exact ⟨0, Nat.zero_le _, rfl, rfl, Lib.hid (by simp)⟩
  case round =>
    obtain ⟨k, hk, rfl, rfl, HT⟩ := hrel
    by_cases hlt : k < n
    · have hx := hc k xs[k] (List.getElem?_eq_getElem (by omega))
      go_wp2
      case roundEnd =>
        rename_i he
        rw [bs_toList, bs_toList] at he
        go_roundw
        case rel =>
          refine ⟨k + 1, by omega, rfl, trivial, Lib.hid fun x hx => ?_⟩
          rw [List.take_succ_eq_append_getElem (by omega)] at hx
          rcases List.mem_append.1 hx with hx | hx
          · exact HT.out x hx
          · simp only [List.mem_singleton] at hx
            subst hx
            rw [beq_eq_false_iff_ne] at he ⊢
            exact fun e => he e.symm
        case measure => simp [intOf]; omega
      · rename_i he
        rw [bs_toList, bs_toList] at he
        go_ret
        refine ⟨?_, rfl⟩
        have he2 : v = xs[k] := by simpa using he
        have hf : xs.findIdx (fun x => x == v) = k := by
          rw [List.findIdx_eq (by omega)]
          refine ⟨by simp [he2], fun j hj => HT.out _ ?_⟩
          rw [List.mem_take_iff_getElem]
          exact ⟨j, by omega, rfl⟩
        unfold ixS
        rw [if_pos (by rw [List.any_eq_true]; exact ⟨xs[k], List.getElem_mem _, by simp [he2]⟩), hf]
        rfl
    · obtain rfl : k = n := by omega
      go_wp2
      go_ret
      refine ⟨?_, rfl⟩
      unfold ixS
      rw [if_neg (fun hh => by
        obtain ⟨x, hx, he⟩ := List.any_eq_true.1 hh
        have := HT.out x (by rw [← hn, List.take_length]; exact hx)
        rw [this] at he
        cases he)]
      rfl

theorem ix_ge (xs : List (List UInt8)) (v : List UInt8) : decide (0 ≤ ixS xs v) = xs.any (fun x => x == v) := by
  unfold ixS
  by_cases h : xs.any (fun x => x == v) = true
  · rw [if_pos h, h]; simp
  · rw [if_neg h]
    cases hx : xs.any (fun x => x == v)
    · rfl
    · exact absurd hx h
theorem contains_any (b n cap : Nat) (xs : List (List UInt8)) (v : List UInt8) (w : World) (hn : xs.length = n) (hb : n ≤ 70000) (hc : ∀ j x, xs[j]? = some x → w.cell? ⟨b, j, none⟩ = some (.string (bs x))) :
    Calls Tryz.prog 81 #[.slice (some ⟨b, 0, none⟩) n cap, .string (bs v)] w fun e w' => e = .returned (.bool (xs.any (fun x => x == v))) ∧ w' = w := by
  rw [← ix_ge]
  have c := ix_any b n cap xs v w hn hb hc
  go_enter Tryz.func81, Tryz.ntmps81
  go_wp2_with fail
  with_reducible refine c.mono ?_
  rintro e w1 ⟨rfl, rfl⟩
  go_wp2
  go_ret
  exact ⟨rfl, rfl⟩

set_option maxHeartbeats 4000000 in
theorem stands_any {B : PE} {w : World} {s : St} (h : PS B w s) (hk : s.k < B.ts.length) (b n cap : Nat) (xs : List (List UInt8)) (hn : xs.length = n) (hb : n ≤ 70000) (hbl : b < w.heap.size) (hc : ∀ j x, xs[j]? = some x → w.cell? ⟨b, j, none⟩ = some (.string (bs x))) :
    Calls Tryz.prog 47 #[B.ptr, .slice (some ⟨b, 0, none⟩) n cap] w fun e w' => e = .returned (.bool (standsB (tkA B.ts s.k) xs)) ∧ Below w.heap.size w w' := by
  have cN := now_any h hk
  have cC := fun (W : World) (hW : Below w.heap.size w W) => contains_any b n cap xs (tkA B.ts s.k).2.1 W hn hb (fun j x hx => (hW.cell (p := ⟨b, j, none⟩) hbl).trans (hc j x hx))
  generalize tkA B.ts s.k = t at cN cC ⊢
  unfold standsB
  have e7 : ((t.1 : Int) == 7) = (t.1 == 7) := by rw [Bool.eq_iff_iff]; simp; omega
  have e8 : ((t.1 : Int) == 8) = (t.1 == 8) := by rw [Bool.eq_iff_iff]; simp; omega
  clear hc
  rcases h7 : (t.1 == 7) with _ | _
  · rw [h7] at e7
    rcases h8 : (t.1 == 8) with _ | _
    · rw [h8] at e8
      go_enter Tryz.func47, Tryz.ntmps47
      go_wp2_with fail
      with_reducible refine cN.mono ?_
      rintro e w1 ⟨rfl, hb1⟩
      go_wp2_with fail
      go_ret
      exact ⟨rfl, hb1.alloc hb1.size _⟩
    · rw [h8] at e8
      go_enter Tryz.func47, Tryz.ntmps47
      go_wp2_with fail
      with_reducible refine cN.mono ?_
      rintro e w1 ⟨rfl, hb1⟩
      go_wp2_with fail
      with_reducible refine (cC _ (hb1.alloc hb1.size _)).mono ?_
      rintro e w2 ⟨rfl, rfl⟩
      go_wp2_with fail
      go_ret
      exact ⟨rfl, hb1.alloc hb1.size _⟩
  · rw [h7] at e7
    go_enter Tryz.func47, Tryz.ntmps47
    go_wp2_with fail
    with_reducible refine cN.mono ?_
    rintro e w1 ⟨rfl, hb1⟩
    go_wp2_with fail
    with_reducible refine (cC _ (hb1.alloc hb1.size _)).mono ?_
    rintro e w2 ⟨rfl, rfl⟩
    go_wp2_with fail
    go_ret
    exact ⟨rfl, hb1.alloc hb1.size _⟩

theorem PS.on1 {B : PE} {w : World} {s : St} (h : PS B w s) (hk : s.k < B.ts.length) : Aft B w (s.on 1) (w.setCell ⟨B.pb, 1, none⟩ (.int .i64 ((s.k : Int) + 1))) := by
  have := h.setK 1 (by have := h.lb; omega)
  rwa [show ((s.k + 1 : Nat) : Int) = (s.k : Int) + 1 by omega] at this

abbrev zTok : List Value := [.int .i64 0, .string ⟨#[]⟩, .int .i64 0]
abbrev tokL (t : Tk) : List Value := [.int .i64 (t.1 : Int), .string (bs t.2.1), .int .i64 (t.2.2 : Int)]

set_option maxHeartbeats 4000000 in
theorem next_any {B : PE} {w : World} {s : St} (h : PS B w s) (hk : s.k < B.ts.length) : Calls Tryz.prog 48 #[B.ptr] w fun e w' => e = .returned (tokV (tkA B.ts s.k)) ∧ Aft B w (s.on 1) w' := by
  have hl := h.lb
  have hp := h.blk.lt
  obtain ⟨W0, hW0⟩ : ∃ W0, w.alloc (.cells zTok.toArray 77) = W0 := ⟨_, rfl⟩
  have hB0 : Below w.heap.size w W0 := by rw [← hW0]; exact (Below.refl _ _).alloc (Nat.le_refl _) _
  have hX0 : Blk W0 w.heap.size 77 zTok.toArray := by rw [← hW0]; exact Blk.new w 77 _
  have cN := now_any (h.below hB0) hk
  generalize ht : tkA B.ts s.k = t at cN ⊢
  have H := Lib.hid h
  clear ht h
  go_enter Tryz.func48, Tryz.ntmps48
  go_wp2_with fail
  with_reducible refine cN.mono ?_
  rintro e w1 ⟨rfl, hb1⟩
  obtain ⟨W2, hW2⟩ : ∃ W2, w1.alloc (.cells (tokL t).toArray 77) = W2 := ⟨_, rfl⟩
  have hB2 : Below W0.heap.size W0 W2 := by rw [← hW2]; exact hb1.alloc hb1.size _
  have hB02 : Below w.heap.size w W2 := hB0.trans (hB2.mono hB0.size)
  have hX2 : Blk W2 w1.heap.size 77 (tokL t).toArray := by rw [← hW2]; exact Blk.new w1 77 _
  have p2 := H.out.below hB02
  have a3 := p2.on1 hk
  have c1 := p2.blk.cell 1
  have g1 := p2.blk.frozen 1
  simp only [PE.cells, List.getElem?_toArray, List.getElem?_cons_zero, List.getElem?_cons_succ] at c1
  have s0 := hB0.size
  have s1 := hb1.size
  have l0 := hX0.lt
  obtain ⟨W3, hW3⟩ : ∃ W3, W2.setCell ⟨B.pb, 1, none⟩ (.int .i64 ((s.k : Int) + 1)) = W3 := ⟨_, rfl⟩
  have hX3 : Blk W3 w1.heap.size 77 (tokL t).toArray := by rw [← hW3]; exact hX2.far (by dsimp only; omega) _
  have hY3 : Blk W3 w.heap.size 77 zTok.toArray := by rw [← hW3]; exact (hX0.below hB2 l0).far (by dsimp only; omega) _
  rw [hW3] at a3
  have d0 := hX3.cell 0
  have d1 := hX3.cell 1
  have d2 := hX3.cell 2
  have x0 := hY3.cell 0
  have x1 := hY3.cell 1
  have x2 := hY3.cell 2
  have y0 := hY3.frozen 0
  have y1 := hY3.frozen 1
  have y2 := hY3.frozen 2
  simp only [List.getElem?_toArray, List.getElem?_cons_zero, List.getElem?_cons_succ] at d0 d1 d2 x0 x1 x2
  have A3 := Lib.hid a3
  have Y3 := Lib.hid hY3
  have B02 := Lib.hid hB02
  clear a3 hX3 hY3 hX2 hB2 hB02 hX0 p2 cN hb1 hB0
  go_wp2_with fail
  have hZ := ((Y3.out.set_ 0 (.int .i64 (t.1 : Int))).set_ 1 (.string (bs t.2.1))).set_ 2 (.int .i64 (t.2.2 : Int))
  have q0 := hZ.cell 0
  have q1 := hZ.cell 1
  have q2 := hZ.cell 2
  simp only [List.setIfInBounds_toArray, List.set_cons_zero, List.set_cons_succ, List.getElem?_toArray, List.getElem?_cons_zero, List.getElem?_cons_succ] at q0 q1 q2
  refine bodyPost_ret (v := tokV t) (by simp [results, Tryz.results48, go_sem, q0, q1, q2]) rfl ⟨rfl, ?_⟩
  have e3 : ∀ b, b ≠ B.pb → W3.heap[b]? = W2.heap[b]? := fun b hb => by rw [← hW3]; exact Below.heap_setCell _ _ _ _ hb
  have hb3 : Below B.base w W3 := (B02.out.mono H.out.bw).trans A3.out.bel
  have hbb := H.out.bw
  refine H.out.moved (s.k + 1) s.op (by omega) H.out.ob (((hb3.setCell (p := ⟨w.heap.size, 0, none⟩) hbb _).setCell (p := ⟨w.heap.size, 1, none⟩) hbb _).setCell (p := ⟨w.heap.size, 2, none⟩) hbb _) (((A3.out.ps.blk.far (by dsimp only; omega) _).far (by dsimp only; omega) _).far (by dsimp only; omega) _) (fun b hb1 hb2 => ?_)
  rw [Below.heap_setCell _ _ _ _ (by dsimp only; omega), Below.heap_setCell _ _ _ _ (by dsimp only; omega), Below.heap_setCell _ _ _ _ (by dsimp only; omega), e3 b hb2]
  exact B02.out.block b hb1

theorem begin_any {B : PE} {w : World} {s : St} (h : PS B w s) (hk : s.op ≠ 256) : Calls Tryz.prog 44 #[B.ptr] w fun e w' => e = .returned (.tuple #[]) ∧ Aft B w s.up w' := by
  have hp := h.blk.lt
  have hob := h.ob
  have c2 := h.blk.cell 2
  have g2 := h.blk.frozen 2
  simp only [PE.cells, List.getElem?_toArray, List.getElem?_cons_zero, List.getElem?_cons_succ] at c2
  have h5 : ((s.op : Int) == 256) = false := by rw [beq_eq_false_iff_ne]; omega
  have a := h.up (by omega)
  rw [show ((s.op + 1 : Nat) : Int) = (s.op : Int) + 1 by omega] at a
  have A := Lib.hid a
  clear a h
  go_enter Tryz.func44, Tryz.ntmps44
  go_wp2
  go_end0
  exact ⟨rfl, A.out⟩

theorem newTerm_any {B : PE} {w : World} {s : St} (h : PS B w s) (hn : s.t1.length < 65536) (x : TermD) (q : Ptr3) (hq : TermOk (Lt w.heap.size) w x q) (hf : shortT x) :
    Calls Tryz.prog 114 #[B.ptr, .agg (termCells x q).toArray] w fun e w' => e = .returned (.int .i64 (s.t1.length : Nat)) ∧ Aft B w ⟨s.k, s.op, s.t1 ++ [x], s.t2⟩ w' := by
  obtain ⟨W0, hW0⟩ : ∃ W0, w.alloc (.cells (termCells x q).toArray 38) = W0 := ⟨_, rfl⟩
  have hB0 : Below w.heap.size w W0 := by rw [← hW0]; exact (Below.refl _ _).alloc (Nat.le_refl _) _
  have hX0 : Blk W0 w.heap.size 38 (termCells x q).toArray := by rw [← hW0]; exact Blk.new w 38 _
  have p0 := h.below hB0
  obtain ⟨v1, v2, r1, r2, hB, e1, e2⟩ := p0.built
  have hl : r1.length = s.t1.length := by rw [← e1]; simp
  have hq0 : TermOk (Lt W0.heap.size) W0 x q := (hq.keep (keep_below hB0)).imp (lt_mono hB0.size)
  have cT := fun (W : World) (hW : Below W0.heap.size W0 W) => term_any B.base B.cb x q W (hB.tr.below hW) (by omega) ((hq0.keep (keep_below hW)).imp (lt_mono hW.size)) hf.1 hf.2.1 hf.2.2
  have c4 := p0.blk.cell 4
  simp only [PE.cells, List.getElem?_toArray, List.getElem?_cons_zero, List.getElem?_cons_succ] at c4
  have hp := p0.blk.lt
  have d0 := hX0.cell 0
  have d1 := hX0.cell 1
  have d2 := hX0.cell 2
  have d3 := hX0.cell 3
  have d4 := hX0.cell 4
  have d5 := hX0.cell 5
  have d6 := hX0.cell 6
  have d7 := hX0.cell 7
  simp only [termCells, List.getElem?_toArray, List.getElem?_cons_zero, List.getElem?_cons_succ] at d0 d1 d2 d3 d4 d5 d6 d7
  unfold termCells at hW0 cT ⊢
  have P0 := Lib.hid p0
  have HB := Lib.hid hB
  have HL := Lib.hid hl
  have H := Lib.hid h
  have B0 := Lib.hid hB0
  have E1 := Lib.hid e1
  have E2 := Lib.hid e2
  clear p0 hB hl h hB0 hq0 hX0 e1 e2 hq
  go_enter Tryz.func114, Tryz.ntmps114
  go_wp2
  go_region_with (go_at_call 137; refine (cT _ (by exact (Below.refl _ W0).drew)).mono ?_; rintro e w2 ⟨p', v', rfl, hT, hbel, hk, hnew, hv⟩)
  all_goals
    have hD : Below W0.heap.size W0 W0.drew := (Below.refl _ W0).drew
    have a := (P0.out.below hD).pushT (HB.out.below hD) E1.out E2.out hf hn hT hbel hk hnew hv
    have A := Lib.hid ((H.out.aft (B0.out.trans (hD.mono B0.out.size))).trans a)
    have hl := HL.out
    clear hT hbel hk hnew hv a
    go_wp2
    go_ret
    exact ⟨rfl, A.out⟩

theorem newType_any {B : PE} {w : World} {s : St} (h : PS B w s) (hn : s.t2.length < 65536) (x : TypD) (q : Ptr2) (hq : TypOk (Lt w.heap.size) w x q) (hf : shortY x) :
    Calls Tryz.prog 49 #[B.ptr, .agg (typCells x q).toArray] w fun e w' => e = .returned (.int .i64 (s.t2.length : Nat)) ∧ Aft B w ⟨s.k, s.op, s.t1, s.t2 ++ [x]⟩ w' := by
  obtain ⟨W0, hW0⟩ : ∃ W0, w.alloc (.cells (typCells x q).toArray 40) = W0 := ⟨_, rfl⟩
  have hB0 : Below w.heap.size w W0 := by rw [← hW0]; exact (Below.refl _ _).alloc (Nat.le_refl _) _
  have hX0 : Blk W0 w.heap.size 40 (typCells x q).toArray := by rw [← hW0]; exact Blk.new w 40 _
  have p0 := h.below hB0
  obtain ⟨v1, v2, r1, r2, hB, e1, e2⟩ := p0.built
  have hl : r2.length = s.t2.length := by rw [← e2]; simp
  have hq0 : TypOk (Lt W0.heap.size) W0 x q := (hq.keep (keep_below hB0)).imp (lt_mono hB0.size)
  have cT := fun (W : World) (hW : Below W0.heap.size W0 W) => type_any B.base B.cb x q W (hB.tr.below hW) (by omega) ((hq0.keep (keep_below hW)).imp (lt_mono hW.size)) hf.1 hf.2
  have c4 := p0.blk.cell 4
  simp only [PE.cells, List.getElem?_toArray, List.getElem?_cons_zero, List.getElem?_cons_succ] at c4
  have hp := p0.blk.lt
  have d0 := hX0.cell 0
  have d1 := hX0.cell 1
  have d2 := hX0.cell 2
  have d3 := hX0.cell 3
  have d4 := hX0.cell 4
  have d5 := hX0.cell 5
  simp only [typCells, List.getElem?_toArray, List.getElem?_cons_zero, List.getElem?_cons_succ] at d0 d1 d2 d3 d4 d5
  unfold typCells at hW0 cT ⊢
  have P0 := Lib.hid p0
  have HB := Lib.hid hB
  have HL := Lib.hid hl
  have H := Lib.hid h
  have B0 := Lib.hid hB0
  have E1 := Lib.hid e1
  have E2 := Lib.hid e2
  clear p0 hB hl h hB0 hq0 hX0 e1 e2 hq
  go_enter Tryz.func49, Tryz.ntmps49
  go_wp2
  go_region_with (go_at_call 82; refine (cT _ (by exact (Below.refl _ W0).drew)).mono ?_; rintro e w2 ⟨p', v', rfl, hT, hbel, hk, hnew, hv⟩)
  all_goals
    have hD : Below W0.heap.size W0 W0.drew := (Below.refl _ W0).drew
    have a := (P0.out.below hD).pushY (HB.out.below hD) E1.out E2.out hf hn hT hbel hk hnew hv
    have A := Lib.hid ((H.out.aft (B0.out.trans (hD.mono B0.out.size))).trans a)
    have hl := HL.out
    clear hT hbel hk hnew hv a
    go_wp2
    go_ret
    exact ⟨rfl, A.out⟩

/-- The deferred call that closes a rule. -/
theorem end_d {B : PE} {w : World} {s : St} (h : PS B w s) (hk : 1 ≤ s.op) (u : FrameMode) : CallsD Tryz.prog 45 #[B.ptr] u w fun e u' w' => u' = u ∧ e = .returned (.tuple #[]) ∧ Aft B w s.down w' := by
  have hp := h.blk.lt
  have hob := h.ob
  have c2 := h.blk.cell 2
  have g2 := h.blk.frozen 2
  simp only [PE.cells, List.getElem?_toArray, List.getElem?_cons_zero, List.getElem?_cons_succ] at c2
  have a := h.down
  rw [show ((s.op - 1 : Nat) : Int) = (s.op : Int) - 1 by omega] at a
  have A := Lib.hid a
  clear a h
  go_enter_d Tryz.func45, Tryz.ntmps45
  go_wp2
  go_end0
  exact ⟨rfl, A.out⟩

theorem tokF0 (a c : Int) (s : ByteArray) (w : World) : (Instr.field 77 (.agg #[.int .i64 a, .string s, .int .i64 c]) 0).run Tryz.prog w = .ok (.int .i64 a) w := by kernel_rfl
theorem tokF1 (a c : Int) (s : ByteArray) (w : World) : (Instr.field 77 (.agg #[.int .i64 a, .string s, .int .i64 c]) 1).run Tryz.prog w = .ok (.string s) w := by kernel_rfl
theorem tokF2 (a c : Int) (s : ByteArray) (w : World) : (Instr.field 77 (.agg #[.int .i64 a, .string s, .int .i64 c]) 2).run Tryz.prog w = .ok (.int .i64 c) w := by kernel_rfl

set_option maxHeartbeats 4000000 in
theorem token_any {B : PE} {w : World} {s : St} (h : PS B w s) (hk : s.k < B.ts.length) (kind : Nat) (he : (tkA B.ts s.k).1 = kind) : Calls Tryz.prog 38 #[B.ptr, .int .i64 (kind : Int)] w fun e w' => e = .returned (tokV (tkA B.ts s.k)) ∧ Aft B w (s.on 1) w' := by
  obtain ⟨W0, hW0⟩ : ∃ W0, w.alloc (.cells zTok.toArray 77) = W0 := ⟨_, rfl⟩
  have hB0 : Below w.heap.size w W0 := by rw [← hW0]; exact (Below.refl _ _).alloc (Nat.le_refl _) _
  have hX0 : Blk W0 w.heap.size 77 zTok.toArray := by rw [← hW0]; exact Blk.new w 77 _
  have l0 := hX0.lt
  have o0 := AftO.start h hB0 (fun b => b = w.heap.size) (fun b hb => by subst hb; exact ⟨Nat.le_refl _, l0⟩)
  have cN : Calls Tryz.prog 70 #[B.ptr] W0 fun e w' => e = .returned (tokV (tkA B.ts s.k)) ∧ Below W0.heap.size W0 w' := now_any (B := B.with (fun b => b = w.heap.size)) o0.ps hk
  have cX : ∀ (W : World), Below W0.heap.size W0 W → Calls Tryz.prog 48 #[B.ptr] W fun e w' => e = .returned (tokV (tkA B.ts s.k)) ∧ Aft (B.with (fun b => b = w.heap.size)) W (s.on 1) w' := fun W hW => next_any (B := B.with (fun b => b = w.heap.size)) (o0.ps.below hW) hk
  generalize ht : tkA B.ts s.k = t at cN cX he ⊢
  have hne : ((t.1 : Int) != (kind : Int)) = false := by rw [he]; simp
  have hfd := tokF0
  clear he
  have HB := h.bw
  have O0 := Lib.hid o0
  have X0 := Lib.hid hX0
  clear ht h o0 hX0 hB0
  go_enter Tryz.func38, Tryz.ntmps38
  go_wp2_with fail
  with_reducible refine cN.mono ?_
  rintro e w1 ⟨rfl, hb1⟩
  clear hW0
  go_wp2_with fail
  with_reducible refine (cX w1 hb1).mono ?_
  rintro e w2 ⟨rfl, a2⟩
  have o1 := O0.out.below hb1
  have hX2 : Blk w2 w.heap.size 77 zTok.toArray := (o1.same a2 rfl).trans (X0.out.below hb1 l0)
  have o2 := o1.call a2
  have x0 := hX2.cell 0
  have x1 := hX2.cell 1
  have x2 := hX2.cell 2
  have y0 := hX2.frozen 0
  have y1 := hX2.frozen 1
  have y2 := hX2.frozen 2
  simp only [List.getElem?_toArray, List.getElem?_cons_zero, List.getElem?_cons_succ] at x0 x1 x2
  have O2 := Lib.hid o2
  have Y2 := Lib.hid hX2
  clear a2 hX2 cN cX hb1 o1 o2
  go_wp2_with fail
  have hZ := ((Y2.out.set_ 0 (.int .i64 (t.1 : Int))).set_ 1 (.string (bs t.2.1))).set_ 2 (.int .i64 (t.2.2 : Int))
  have q0 := hZ.cell 0
  have q1 := hZ.cell 1
  have q2 := hZ.cell 2
  simp only [List.setIfInBounds_toArray, List.set_cons_zero, List.set_cons_succ, List.getElem?_toArray, List.getElem?_cons_zero, List.getElem?_cons_succ] at q0 q1 q2
  exact bodyPost_ret (v := tokV t) (by simp [results, Tryz.results38, go_sem, q0, q1, q2]) rfl ⟨rfl, (((O2.out.set rfl 0 _ HB).set rfl 1 _ HB).set rfl 2 _ HB).out⟩
end Go.Proofs.YtidmeodmkcomlaaGreatDoor

namespace Go.Proofs.YtidmeodmkcomlaaGreatDoor
open Go Go.Proofs Go.RowKit

abbrev nP3 : Ptr3 := ⟨none, 0, none, 0, none, 0⟩
abbrev zTerm : List Value := [.int .i64 0, .int .i64 0, .string ⟨#[]⟩, .int .i64 0, .int .u64 0, .slice none 0 0, .slice none 0 0, .slice none 0 0]

theorem bs_size (l : List UInt8) : (bs l).size = l.length := by simp [bs, ByteArray.size]
theorem bs_data (l : List UInt8) : (bs l).data.toList = l := by simp [bs]

theorem put8_blk {W : World} {g : Nat} {t : TypeId} {z0 z1 z2 z3 z4 z5 z6 z7 : Value} (h : Blk W g t [z0, z1, z2, z3, z4, z5, z6, z7].toArray) (v0 v1 v2 v3 v4 v5 v6 v7 : Value) : Blk ((((((((W.setCell ⟨g, 0, none⟩ v0).setCell ⟨g, 1, none⟩ v1).setCell ⟨g, 2, none⟩ v2).setCell ⟨g, 3, none⟩ v3).setCell ⟨g, 4, none⟩ v4).setCell ⟨g, 5, none⟩ v5).setCell ⟨g, 6, none⟩ v6).setCell ⟨g, 7, none⟩ v7) g t [v0, v1, v2, v3, v4, v5, v6, v7].toArray := by
  have := (((((((h.set_ 0 v0).set_ 1 v1).set_ 2 v2).set_ 3 v3).set_ 4 v4).set_ 5 v5).set_ 6 v6).set_ 7 v7
  simpa using this
theorem put8_below {w W : World} {n g : Nat} (h : Below n w W) (hg : n ≤ g) (v0 v1 v2 v3 v4 v5 v6 v7 : Value) : Below n w ((((((((W.setCell ⟨g, 0, none⟩ v0).setCell ⟨g, 1, none⟩ v1).setCell ⟨g, 2, none⟩ v2).setCell ⟨g, 3, none⟩ v3).setCell ⟨g, 4, none⟩ v4).setCell ⟨g, 5, none⟩ v5).setCell ⟨g, 6, none⟩ v6).setCell ⟨g, 7, none⟩ v7) :=
  (((((((h.setCell (p := ⟨g, 0, none⟩) hg _).setCell (p := ⟨g, 1, none⟩) hg _).setCell (p := ⟨g, 2, none⟩) hg _).setCell (p := ⟨g, 3, none⟩) hg _).setCell (p := ⟨g, 4, none⟩) hg _).setCell (p := ⟨g, 5, none⟩) hg _).setCell (p := ⟨g, 6, none⟩) hg _).setCell (p := ⟨g, 7, none⟩) hg _

set_option maxRecDepth 100000 in
set_option maxHeartbeats 8000000 in
theorem leaf_any {B : PE} {w : World} {s : St} (h : PS B w s) (hk : s.k < B.ts.length) (x : TermD) (hx : leafM (tkA B.ts s.k) = some x) (hlen : (tkA B.ts s.k).2.1.length ≤ 1048576) :
    Calls Tryz.prog 175 #[B.ptr] w fun e w' => e = .returned (.agg (termCells x nP3).toArray) ∧ Below w.heap.size w w' := by
  obtain ⟨W0, hW0⟩ : ∃ W0, w.alloc (.cells zTerm.toArray 38) = W0 := ⟨_, rfl⟩
  have hB0 : Below w.heap.size w W0 := by rw [← hW0]; exact (Below.refl _ _).alloc (Nat.le_refl _) _
  have hX0 : Blk W0 w.heap.size 38 zTerm.toArray := by rw [← hW0]; exact Blk.new w 38 _
  have cN := now_any (h.below hB0) hk
  have l0 := hX0.lt
  generalize tkA B.ts s.k = t at cN hx hlen
  have hX := Lib.hid hx
  clear hx h
  go_enter Tryz.func175, Tryz.ntmps175
  go_wp2_with fail
  with_reducible refine cN.mono ?_
  rintro e w1 ⟨rfl, hb1⟩
  obtain ⟨W2, hW2⟩ : ∃ W2, w1.alloc (.cells (tokL t).toArray 77) = W2 := ⟨_, rfl⟩
  have hB2 : Below W0.heap.size W0 W2 := by rw [← hW2]; exact hb1.alloc hb1.size _
  have hT2 : Blk W2 w1.heap.size 77 (tokL t).toArray := by rw [← hW2]; exact Blk.new w1 77 _
  have hX2 := hX0.below hB2 l0
  have t0 := hT2.cell 0
  have t1 := hT2.cell 1
  have t2 := hT2.cell 2
  simp only [List.getElem?_toArray, List.getElem?_cons_zero, List.getElem?_cons_succ] at t0 t1 t2
  have x0 := hX2.cell 0
  have x1 := hX2.cell 1
  have x2 := hX2.cell 2
  have x3 := hX2.cell 3
  have x4 := hX2.cell 4
  have x5 := hX2.cell 5
  have x6 := hX2.cell 6
  have x7 := hX2.cell 7
  have y0 := hX2.frozen 0
  have y1 := hX2.frozen 1
  have y2 := hX2.frozen 2
  have y3 := hX2.frozen 3
  have y4 := hX2.frozen 4
  have y5 := hX2.frozen 5
  have y6 := hX2.frozen 6
  have y7 := hX2.frozen 7
  simp only [List.getElem?_toArray, List.getElem?_cons_zero, List.getElem?_cons_succ] at x0 x1 x2 x3 x4 x5 x6 x7
  have XX := Lib.hid hX2
  have BB := Lib.hid (hB0.trans (hB2.mono hB0.size))
  clear hX2 hT2 hB2 hX0 hB0 cN hb1
  by_cases e1 : t.1 = 1
  · have hx := hX.out
    unfold leafM at hx
    rw [if_pos e1] at hx
    have e1' : (t.1 : Int) = 1 := by omega
    rw [e1'] at t0
    injection hx with hx
    subst hx
    clear e1 e1' hX
    go_wp2_with fail
    have hZ := put8_blk XX.out (.int .i64 0) (.int .i64 (t.2.2 : Int)) (.string (bs t.2.1)) (.int .i64 0) (.int .u64 0) (.slice none 0 0) (.slice none 0 0) (.slice none 0 0)
    have q0 := hZ.cell 0
    have q1 := hZ.cell 1
    have q2 := hZ.cell 2
    have q3 := hZ.cell 3
    have q4 := hZ.cell 4
    have q5 := hZ.cell 5
    have q6 := hZ.cell 6
    have q7 := hZ.cell 7
    simp only [List.getElem?_toArray, List.getElem?_cons_zero, List.getElem?_cons_succ] at q0 q1 q2 q3 q4 q5 q6 q7
    exact bodyPost_ret (v := .agg [.int .i64 0, .int .i64 (t.2.2 : Int), .string (bs t.2.1), .int .i64 0, .int .u64 0, .slice none 0 0, .slice none 0 0, .slice none 0 0].toArray) (by simp [results, Tryz.results175, go_sem, q0, q1, q2, q3, q4, q5, q6, q7]) rfl ⟨rfl, put8_below BB.out (Nat.le_refl _) _ _ _ _ _ _ _ _⟩
  by_cases e6 : t.1 = 6
  · have hx := hX.out
    unfold leafM at hx
    rw [if_neg e1, if_pos e6] at hx
    have e6' : (t.1 : Int) = 6 := by omega
    rw [e6'] at t0
    injection hx with hx
    subst hx
    clear e1 e6 e6' hX
    go_wp2_with fail
    have hZ := put8_blk XX.out (.int .i64 3) (.int .i64 (t.2.2 : Int)) (.string (bs t.2.1)) (.int .i64 0) (.int .u64 0) (.slice none 0 0) (.slice none 0 0) (.slice none 0 0)
    have q0 := hZ.cell 0
    have q1 := hZ.cell 1
    have q2 := hZ.cell 2
    have q3 := hZ.cell 3
    have q4 := hZ.cell 4
    have q5 := hZ.cell 5
    have q6 := hZ.cell 6
    have q7 := hZ.cell 7
    simp only [List.getElem?_toArray, List.getElem?_cons_zero, List.getElem?_cons_succ] at q0 q1 q2 q3 q4 q5 q6 q7
    exact bodyPost_ret (v := .agg [.int .i64 3, .int .i64 (t.2.2 : Int), .string (bs t.2.1), .int .i64 0, .int .u64 0, .slice none 0 0, .slice none 0 0, .slice none 0 0].toArray) (by simp [results, Tryz.results175, go_sem, q0, q1, q2, q3, q4, q5, q6, q7]) rfl ⟨rfl, put8_below BB.out (Nat.le_refl _) _ _ _ _ _ _ _ _⟩
  by_cases e4 : t.1 = 4
  · have hx := hX.out
    unfold leafM at hx
    rw [if_neg e1, if_neg e6, if_pos e4] at hx
    have e4' : (t.1 : Int) = 4 := by omega
    rw [e4'] at t0
    rcases hp : Lib.parseIntB 64 t.2.1 with v | _ | _
    · rw [hp] at hx
      injection hx with hx
      subst hx
      have cP := fun (W : World) => Tryz.strconv_ParseInt_10_at64_ok (bs t.2.1) (by rw [bs_size]; omega) v (by rw [bs_data]; exact hp) W
      clear e1 e6 e4 e4' hX hp
      go_wp2_with fail
      with_reducible refine (cP W2).mono ?_
      rintro e w4 ⟨rfl, hw4⟩
      have hb4 : Below W2.heap.size W2 w4 := by
        rcases hw4 with rfl | ⟨b, rfl⟩
        · exact Below.refl _ _
        · exact Go.Joins.below_bytesWorld _ _ _ _ (Nat.le_refl _)
      have X4 := XX.out.below hb4 XX.out.lt
      have l1 : w1.heap.size < W2.heap.size := by rw [← hW2]; simp
      have BB4 := Lib.hid (BB.out.trans (hb4.mono BB.out.size))
      have r0 := (hb4.cell (p := ⟨w1.heap.size, 0, none⟩) l1).trans t0
      have r1 := (hb4.cell (p := ⟨w1.heap.size, 1, none⟩) l1).trans t1
      have r2 := (hb4.cell (p := ⟨w1.heap.size, 2, none⟩) l1).trans t2
      clear x0 x1 x2 x3 x4 x5 x6 x7 y0 y1 y2 y3 y4 y5 y6 y7 t0 t1 t2
      have x0 := X4.cell 0
      have x1 := X4.cell 1
      have x2 := X4.cell 2
      have x3 := X4.cell 3
      have x4 := X4.cell 4
      have x5 := X4.cell 5
      have x6 := X4.cell 6
      have x7 := X4.cell 7
      have y0 := X4.frozen 0
      have y1 := X4.frozen 1
      have y2 := X4.frozen 2
      have y3 := X4.frozen 3
      have y4 := X4.frozen 4
      have y5 := X4.frozen 5
      have y6 := X4.frozen 6
      have y7 := X4.frozen 7
      simp only [List.getElem?_toArray, List.getElem?_cons_zero, List.getElem?_cons_succ] at x0 x1 x2 x3 x4 x5 x6 x7
      have XX4 := Lib.hid X4
      clear X4 hw4 hb4 cP
      go_wp2_with fail
      have hZ := put8_blk XX4.out (.int .i64 1) (.int .i64 (t.2.2 : Int)) (.string ⟨#[]⟩) (.int .i64 v) (.int .u64 0) (.slice none 0 0) (.slice none 0 0) (.slice none 0 0)
      have q0 := hZ.cell 0
      have q1 := hZ.cell 1
      have q2 := hZ.cell 2
      have q3 := hZ.cell 3
      have q4 := hZ.cell 4
      have q5 := hZ.cell 5
      have q6 := hZ.cell 6
      have q7 := hZ.cell 7
      simp only [List.getElem?_toArray, List.getElem?_cons_zero, List.getElem?_cons_succ] at q0 q1 q2 q3 q4 q5 q6 q7
      exact bodyPost_ret (v := .agg [.int .i64 1, .int .i64 (t.2.2 : Int), .string ⟨#[]⟩, .int .i64 v, .int .u64 0, .slice none 0 0, .slice none 0 0, .slice none 0 0].toArray) (by simp [results, Tryz.results175, go_sem, q0, q1, q2, q3, q4, q5, q6, q7]) rfl ⟨rfl, put8_below BB4.out (Nat.le_refl _) _ _ _ _ _ _ _ _⟩
    · rw [hp] at hx; cases hx
    · rw [hp] at hx; cases hx
  · have hx := hX.out
    unfold leafM at hx
    rw [if_neg e1, if_neg e6, if_neg e4] at hx
    cases hx
end Go.Proofs.YtidmeodmkcomlaaGreatDoor

namespace Go.Proofs.YtidmeodmkcomlaaGreatDoor
open Go Go.Proofs Go.RowKit

/-- What the lexer says of the tokens: the last one, and it alone, is the end. -/
structure TsOk (ts : List Tk) : Prop where
  pos : 0 < ts.length
  last : (tkA ts (ts.length - 1)).1 = 0
  len : ∀ k, (tkA ts k).2.1.length ≤ 1048576
theorem TsOk.step {ts : List Tk} (h : TsOk ts) {k : Nat} (hk : k < ts.length) (h0 : (tkA ts k).1 ≠ 0) : k + 1 < ts.length := by
  have := h.last
  rcases Nat.lt_or_ge (k + 1) ts.length with q | q
  · exact q
  · rw [show ts.length - 1 = k by omega] at this
    exact absurd this h0

/-- A function reads what the rule M says. -/
def Rule (ts : List Tk) (f : FuncId) (M : St → PR) : Prop :=
  ∀ (B : PE) (w : World) (s : St) (i : Nat) (s' : St), B.ts = ts → PS B w s → s.k < ts.length → M s = .ok i s' →
    s'.k < ts.length ∧ Calls Tryz.prog f #[B.ptr] w fun e w' => e = .returned (.int .i64 (i : Nat)) ∧ Aft B w s' w'

theorem newT_ok {s s' : St} {x : TermD} {i : Nat} (h : newT s x = .ok i s') : s.t1.length < 65536 ∧ i = s.t1.length ∧ s' = ⟨s.k, s.op, s.t1 ++ [x], s.t2⟩ := by
  unfold newT at h
  by_cases hl : s.t1.length < 65536
  · rw [if_pos hl] at h
    injection h with h1 h2
    exact ⟨hl, h1.symm, h2.symm⟩
  · rw [if_neg hl] at h; cases h
theorem newY_ok {s s' : St} {x : TypD} {i : Nat} (h : newY s x = .ok i s') : s.t2.length < 65536 ∧ i = s.t2.length ∧ s' = ⟨s.k, s.op, s.t1, s.t2 ++ [x]⟩ := by
  unfold newY at h
  by_cases hl : s.t2.length < 65536
  · rw [if_pos hl] at h
    injection h with h1 h2
    exact ⟨hl, h1.symm, h2.symm⟩
  · rw [if_neg hl] at h; cases h

/-- Is the token one of some words and signs, which are laid for it? -/
theorem stands_new {B : PE} {w : World} {s : St} (h : PS B w s) (hk : s.k < B.ts.length) (xs : List (List UInt8)) (n : Nat) (hn : xs.length = n) (hb : n ≤ 70000) (V : Array Value) (hV : V = (xs.map fun x => Value.string (bs x)).toArray) :
    Calls Tryz.prog 47 #[B.ptr, .slice (some ⟨w.heap.size, 0, none⟩) n n] (w.alloc (.cells V 9)) fun e w' => e = .returned (.bool (standsB (tkA B.ts s.k) xs)) ∧ Below w.heap.size w w' := by
  have hB0 : Below w.heap.size w (w.alloc (.cells V 9)) := (Below.refl _ _).alloc (Nat.le_refl _) _
  have hX : Blk (w.alloc (.cells V 9)) w.heap.size 9 V := Blk.new w 9 V
  refine (stands_any (h.below hB0) hk w.heap.size n n xs hn hb hX.lt (fun j x hx => ?_)).mono (fun e w' q => ⟨q.1, hB0.trans (q.2.mono hB0.size)⟩)
  rw [hX.cell j, hV]
  simp [hx]

set_option maxRecDepth 100000 in
set_option maxHeartbeats 8000000 in
theorem atom_any {ts : List Tk} (hT : TsOk ts) : Rule ts 168 (atomM ts) := by
  intro B w s i s' hBts h hk hM
  subst hBts
  unfold atomM at hM
  by_cases h78 : (tkA B.ts s.k).1 = 7 ∨ (tkA B.ts s.k).1 = 8
  · rw [if_pos h78] at hM; cases hM
  rw [if_neg h78] at hM
  cases hx : leafM (tkA B.ts s.k) with
  | none => rw [hx] at hM; cases hM
  | some x =>
    rw [hx] at hM
    obtain ⟨hn, rfl, rfl⟩ := newT_ok hM
    have h0 : (tkA B.ts s.k).1 ≠ 0 := by
      intro e
      unfold leafM at hx
      rw [e] at hx
      simp at hx
    have hst := hT.step hk h0
    refine ⟨hst, ?_⟩
    have hs : ∀ xs, standsB (tkA B.ts s.k) xs = false := fun xs => by
      unfold standsB
      rw [show ((tkA B.ts s.k).1 == 7) = false by simp; omega, show ((tkA B.ts s.k).1 == 8) = false by simp; omega]
      rfl
    have hf : shortT x ∧ x.names.length = 0 ∧ x.kids.length = 0 ∧ x.types.length = 0 := by
      unfold leafM at hx
      split at hx
      · injection hx with hx; subst hx; simp [shortT]
      · split at hx
        · injection hx with hx; subst hx; simp [shortT]
        · split at hx
          · split at hx
            · injection hx with hx; subst hx; simp [shortT]
            · cases hx
          · cases hx
    have cS1 : ∀ W, PS B W s → Calls Tryz.prog 47 #[B.ptr, .slice (some ⟨W.heap.size, 0, none⟩) 1 1] (W.alloc (.cells #[.string ⟨#[40]⟩] 9)) fun e w' => e = .returned (.bool false) ∧ Below W.heap.size W w' := fun W p => by
      have := stands_new p hk [[40]] 1 rfl (by decide) #[.string ⟨#[40]⟩] rfl
      rw [hs] at this
      exact this
    have cS2 : ∀ W, PS B W s → Calls Tryz.prog 47 #[B.ptr, .slice (some ⟨W.heap.size, 0, none⟩) 1 1] (W.alloc (.cells #[.string ⟨#[123]⟩] 9)) fun e w' => e = .returned (.bool false) ∧ Below W.heap.size W w' := fun W p => by
      have := stands_new p hk [[123]] 1 rfl (by decide) #[.string ⟨#[123]⟩] rfl
      rw [hs] at this
      exact this
    have cL := fun W (p : PS B W s) => leaf_any p hk x hx (hT.len s.k)
    have H := Lib.hid h
    have cN := fun W (p : PS B W (s.on 1)) => newTerm_any p hn x nP3 ⟨⟨by simp [List.eq_nil_of_length_eq_zero hf.2.1], fun q => by omega⟩, ⟨by simp [List.eq_nil_of_length_eq_zero hf.2.2.1], fun q => by omega⟩, ⟨by simp [List.eq_nil_of_length_eq_zero hf.2.2.2], fun q => by omega⟩⟩ hf.1
    dsimp only [termCells] at cL cN
    simp only [hf.2.1, hf.2.2.1, hf.2.2.2] at cL cN
    clear hf
    clear hs hx h78 hM h0
    go_enter Tryz.func168, Tryz.ntmps168
    go_wp2_with fail
    with_reducible refine (cS1 w H.out).mono ?_
    rintro e w1 ⟨rfl, hb1⟩
    go_wp2_with fail
    with_reducible refine (cS2 w1 (H.out.below hb1)).mono ?_
    rintro e w2 ⟨rfl, hb2⟩
    have hb02 : Below w.heap.size w w2 := hb1.trans (hb2.mono hb1.size)
    go_wp2_with fail
    with_reducible refine (cL w2 (H.out.below hb02)).mono ?_
    rintro e w3 ⟨rfl, hb3⟩
    have hb03 : Below w.heap.size w w3 := hb02.trans (hb3.mono hb02.size)
    obtain ⟨X0, hX0⟩ : ∃ X0, w3.alloc (.cells zTerm.toArray 38) = X0 := ⟨_, rfl⟩
    have hK0 : Blk X0 w3.heap.size 38 zTerm.toArray := by rw [← hX0]; exact Blk.new w3 38 _
    have hbX : Below w.heap.size w X0 := by rw [← hX0]; exact hb03.alloc hb03.size _
    have x0 := hK0.cell 0
    have x1 := hK0.cell 1
    have x2 := hK0.cell 2
    have x3 := hK0.cell 3
    have x4 := hK0.cell 4
    have x5 := hK0.cell 5
    have x6 := hK0.cell 6
    have x7 := hK0.cell 7
    have y0 := hK0.frozen 0
    have y1 := hK0.frozen 1
    have y2 := hK0.frozen 2
    have y3 := hK0.frozen 3
    have y4 := hK0.frozen 4
    have y5 := hK0.frozen 5
    have y6 := hK0.frozen 6
    have y7 := hK0.frozen 7
    simp only [List.getElem?_toArray, List.getElem?_cons_zero, List.getElem?_cons_succ] at x0 x1 x2 x3 x4 x5 x6 x7
    clear cS1 cS2 cL
    go_upto_region 6 with fail
    clear x0 x1 x2 x3 x4 x5 x6 x7 y0 y1 y2 y3 y4 y5 y6 y7 hX0
    have hZ := put8_blk hK0 (.int .i64 x.kind) (.int .i64 x.pos) (.string x.name) (.int .i64 x.int) (.int .u64 (x.bits : Int)) (.slice none 0 0) (.slice none 0 0) (.slice none 0 0)
    have hbZ := put8_below hbX (Nat.le_trans hb02.size hb3.size) (.int .i64 x.kind) (.int .i64 x.pos) (.string x.name) (.int .i64 x.int) (.int .u64 (x.bits : Int)) (.slice none 0 0) (.slice none 0 0) (.slice none 0 0)
    have hsz : w.heap.size ≤ w3.heap.size := hb03.size
    revert hZ hbZ
    generalize ((((((((X0.setCell ⟨w3.heap.size, 0, none⟩ (.int .i64 x.kind)).setCell ⟨w3.heap.size, 1, none⟩ (.int .i64 x.pos)).setCell ⟨w3.heap.size, 2, none⟩ (.string x.name)).setCell ⟨w3.heap.size, 3, none⟩ (.int .i64 x.int)).setCell ⟨w3.heap.size, 4, none⟩ (.int .u64 (x.bits : Int))).setCell ⟨w3.heap.size, 5, none⟩ (.slice none 0 0)).setCell ⟨w3.heap.size, 6, none⟩ (.slice none 0 0)).setCell ⟨w3.heap.size, 7, none⟩ (.slice none 0 0)) = X1
    intro hZ hbZ
    have p1 := H.out.below hbZ
    have c1 := p1.blk.cell 1
    have g1 := p1.blk.frozen 1
    simp only [PE.cells, List.getElem?_toArray, List.getElem?_cons_zero, List.getElem?_cons_succ] at c1
    have a2 := p1.on1 hk
    have hpb := H.out.blk.lt
    have hl := p1.lb
    obtain ⟨X2, hX2⟩ : ∃ X2, X1.setCell ⟨B.pb, 1, none⟩ (.int .i64 ((s.k : Int) + 1)) = X2 := ⟨_, rfl⟩
    have hZ2 := hZ.far (p := ⟨B.pb, 1, none⟩) (by dsimp only; omega) (.int .i64 ((s.k : Int) + 1))
    rw [hX2] at hZ2
    rw [hX2] at a2
    have x0 := hZ2.cell 0
    have x1 := hZ2.cell 1
    have x2 := hZ2.cell 2
    have x3 := hZ2.cell 3
    have x4 := hZ2.cell 4
    have x5 := hZ2.cell 5
    have x6 := hZ2.cell 6
    have x7 := hZ2.cell 7
    simp only [List.getElem?_toArray, List.getElem?_cons_zero, List.getElem?_cons_succ] at x0 x1 x2 x3 x4 x5 x6 x7
    have A2 := Lib.hid ((H.out.aft hbZ).trans a2)
    have cM := cN X2 a2.ps
    clear a2 hZ hZ2 hbZ p1 hbX hK0 hb03 hb02 hb3 hb2 hb1 cN hn hst
    go_wp2_with fail
    with_reducible refine cM.mono ?_
    rintro e w4 ⟨rfl, a4⟩
    have A4 := Lib.hid (A2.out.trans a4)
    clear a4 cM
    go_wp2_with fail
    go_ret
    exact ⟨rfl, A4.out⟩
end Go.Proofs.YtidmeodmkcomlaaGreatDoor
