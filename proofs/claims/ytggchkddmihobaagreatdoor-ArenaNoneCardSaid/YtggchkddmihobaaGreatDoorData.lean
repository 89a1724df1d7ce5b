/- Trees as data, and how a tree lies in memory. -/
import Derived.Below
import Derived.Laws.OwnMore
import Derived.Deep.Draws
import Derived.PlainAid
import Derived.Lib.Hide
import Derived.Test.YtggchkddmihobaaGreatDoorTreeMath
import Derived.Test.YtggchkddmihobaaGreatDoorRefW
namespace Go.Proofs.YtggchkddmihobaaGreatDoor
open Go Go.Proofs Go.RowKit

/-- A term: its kind, place, name, numbers, names, kids and types. -/
structure TermD where
  kind : Int
  pos : Int
  name : ByteArray
  int : Int
  bits : Nat
  names : List ByteArray
  kids : List Int
  types : List Int

/-- A type, as it is written. -/
structure TypD where
  kind : Int
  pos : Int
  name : ByteArray
  names : List ByteArray
  kids : List Int
  opn : Bool

/-- A name for a type. -/
structure AliD where
  name : ByteArray
  type : Int
  pos : Int

structure TreeD where
  nodes : List TermD
  types : List TypD
  aliases : List AliD

abbrev iv (n : Int) : Value := .int .i64 n

/-- A slice of n cells at A holds xs, in a block that meets Pb. -/
def SlAt (Pb : Nat → Prop) (w : World) (A : Option Addr) (n : Nat) (xs : List Value) : Prop :=
  xs.length = n ∧ (0 < n → ∃ b off, A = some ⟨b, off, none⟩ ∧ Pb b ∧ ∀ j u, xs[j]? = some u → w.cell? ⟨b, off + j, none⟩ = some u)

/-- Where a term's three rows lie. -/
structure Ptr3 where
  a5 : Option Addr
  c5 : Nat
  a6 : Option Addr
  c6 : Nat
  a7 : Option Addr
  c7 : Nat
structure Ptr2 where
  a3 : Option Addr
  c3 : Nat
  a4 : Option Addr
  c4 : Nat

def termCells (t : TermD) (p : Ptr3) : List Value :=
  [.int .i64 t.kind, .int .i64 t.pos, .string t.name, .int .i64 t.int, .int .u64 (t.bits : Int), .slice p.a5 t.names.length p.c5, .slice p.a6 t.kids.length p.c6, .slice p.a7 t.types.length p.c7]
def typCells (t : TypD) (p : Ptr2) : List Value :=
  [.int .i64 t.kind, .int .i64 t.pos, .string t.name, .slice p.a3 t.names.length p.c3, .slice p.a4 t.kids.length p.c4, .bool t.opn]
def aliCells (t : AliD) : List Value := [.string t.name, .int .i64 t.type, .int .i64 t.pos]

def TermOk (Pb : Nat → Prop) (w : World) (t : TermD) (p : Ptr3) : Prop :=
  SlAt Pb w p.a5 t.names.length (t.names.map .string) ∧ SlAt Pb w p.a6 t.kids.length (t.kids.map iv) ∧ SlAt Pb w p.a7 t.types.length (t.types.map iv)
def TypOk (Pb : Nat → Prop) (w : World) (t : TypD) (p : Ptr2) : Prop :=
  SlAt Pb w p.a3 t.names.length (t.names.map .string) ∧ SlAt Pb w p.a4 t.kids.length (t.kids.map iv)

def NodesAt (Pb : Nat → Prop) (w : World) (A : Option Addr) (ts : List TermD) : Prop :=
  0 < ts.length → ∃ b off, A = some ⟨b, off, none⟩ ∧ Pb b ∧ ∀ i t, ts[i]? = some t → ∃ p, TermOk Pb w t p ∧ ∀ j u, (termCells t p)[j]? = some u → w.cell? ⟨b, off + i * 8 + j, none⟩ = some u
def TypsAt (Pb : Nat → Prop) (w : World) (A : Option Addr) (ts : List TypD) : Prop :=
  0 < ts.length → ∃ b off, A = some ⟨b, off, none⟩ ∧ Pb b ∧ ∀ i t, ts[i]? = some t → ∃ p, TypOk Pb w t p ∧ ∀ j u, (typCells t p)[j]? = some u → w.cell? ⟨b, off + i * 6 + j, none⟩ = some u
def AlisAt (Pb : Nat → Prop) (w : World) (A : Option Addr) (ts : List AliD) : Prop :=
  0 < ts.length → ∃ b off, A = some ⟨b, off, none⟩ ∧ Pb b ∧ ∀ i t, ts[i]? = some t → ∀ j u, (aliCells t)[j]? = some u → w.cell? ⟨b, off + i * 3 + j, none⟩ = some u

/-- Where a tree's three rows lie. -/
structure Ptr6 where
  a1 : Option Addr
  c1 : Nat
  a2 : Option Addr
  c2 : Nat
  a3 : Option Addr
  c3 : Nat
abbrev treeV (t : TreeD) (p : Ptr6) : Value := .agg #[.slice p.a1 t.nodes.length p.c1, .slice p.a2 t.types.length p.c2, .slice p.a3 t.aliases.length p.c3]
def TreeAt (Pb : Nat → Prop) (w : World) (t : TreeD) (p : Ptr6) : Prop := NodesAt Pb w p.a1 t.nodes ∧ TypsAt Pb w p.a2 t.types ∧ AlisAt Pb w p.a3 t.aliases

section
variable {Pb Qb : Nat → Prop} {w w' : World} {A : Option Addr} {n : Nat} {xs : List Value}

theorem SlAt.nil : SlAt Pb w A 0 [] := ⟨rfl, fun h => absurd h (by omega)⟩
theorem SlAt.at_ {k : Nat} (h : SlAt Pb w A n xs) (hk : k < n) : ∃ b off, A = some ⟨b, off, none⟩ ∧ Pb b ∧ ∀ j u, xs[j]? = some u → w.cell? ⟨b, off + j, none⟩ = some u := h.2 (by omega)
theorem SlAt.keep (h : SlAt Pb w A n xs) (hk : ∀ b o, Pb b → w'.cell? ⟨b, o, none⟩ = w.cell? ⟨b, o, none⟩) : SlAt Pb w' A n xs :=
  ⟨h.1, fun hn => by
    obtain ⟨b, off, e, hb, hc⟩ := h.2 hn
    exact ⟨b, off, e, hb, fun j u hu => (hk _ _ hb).trans (hc j u hu)⟩⟩
theorem SlAt.imp (h : SlAt Pb w A n xs) (hk : ∀ b, Pb b → Qb b) : SlAt Qb w A n xs :=
  ⟨h.1, fun hn => by
    obtain ⟨b, off, e, hb, hc⟩ := h.2 hn
    exact ⟨b, off, e, hk b hb, hc⟩⟩
theorem TermOk.keep {t : TermD} {p : Ptr3} (h : TermOk Pb w t p) (hk : ∀ b o, Pb b → w'.cell? ⟨b, o, none⟩ = w.cell? ⟨b, o, none⟩) : TermOk Pb w' t p := ⟨h.1.keep hk, h.2.1.keep hk, h.2.2.keep hk⟩
theorem TypOk.keep {t : TypD} {p : Ptr2} (h : TypOk Pb w t p) (hk : ∀ b o, Pb b → w'.cell? ⟨b, o, none⟩ = w.cell? ⟨b, o, none⟩) : TypOk Pb w' t p := ⟨h.1.keep hk, h.2.keep hk⟩
theorem NodesAt.keep {ts : List TermD} (h : NodesAt Pb w A ts) (hk : ∀ b o, Pb b → w'.cell? ⟨b, o, none⟩ = w.cell? ⟨b, o, none⟩) : NodesAt Pb w' A ts := fun hn => by
  obtain ⟨b, off, e, hb, hc⟩ := h hn
  refine ⟨b, off, e, hb, fun i t ht => ?_⟩
  obtain ⟨p, hp, hq⟩ := hc i t ht
  exact ⟨p, hp.keep hk, fun j u hu => (hk _ _ hb).trans (hq j u hu)⟩
theorem TypsAt.keep {ts : List TypD} (h : TypsAt Pb w A ts) (hk : ∀ b o, Pb b → w'.cell? ⟨b, o, none⟩ = w.cell? ⟨b, o, none⟩) : TypsAt Pb w' A ts := fun hn => by
  obtain ⟨b, off, e, hb, hc⟩ := h hn
  refine ⟨b, off, e, hb, fun i t ht => ?_⟩
  obtain ⟨p, hp, hq⟩ := hc i t ht
  exact ⟨p, hp.keep hk, fun j u hu => (hk _ _ hb).trans (hq j u hu)⟩
theorem AlisAt.keep {ts : List AliD} (h : AlisAt Pb w A ts) (hk : ∀ b o, Pb b → w'.cell? ⟨b, o, none⟩ = w.cell? ⟨b, o, none⟩) : AlisAt Pb w' A ts := fun hn => by
  obtain ⟨b, off, e, hb, hc⟩ := h hn
  exact ⟨b, off, e, hb, fun i t ht j u hu => (hk _ _ hb).trans (hc i t ht j u hu)⟩
theorem TreeAt.keep {t : TreeD} {p : Ptr6} (h : TreeAt Pb w t p) (hk : ∀ b o, Pb b → w'.cell? ⟨b, o, none⟩ = w.cell? ⟨b, o, none⟩) : TreeAt Pb w' t p := ⟨h.1.keep hk, h.2.1.keep hk, h.2.2.keep hk⟩
theorem TermOk.imp {t : TermD} {p : Ptr3} (h : TermOk Pb w t p) (hk : ∀ b, Pb b → Qb b) : TermOk Qb w t p := ⟨h.1.imp hk, h.2.1.imp hk, h.2.2.imp hk⟩
theorem TypOk.imp {t : TypD} {p : Ptr2} (h : TypOk Pb w t p) (hk : ∀ b, Pb b → Qb b) : TypOk Qb w t p := ⟨h.1.imp hk, h.2.imp hk⟩
theorem NodesAt.imp {ts : List TermD} (h : NodesAt Pb w A ts) (hk : ∀ b, Pb b → Qb b) : NodesAt Qb w A ts := fun hn => by
  obtain ⟨b, off, e, hb, hc⟩ := h hn
  refine ⟨b, off, e, hk b hb, fun i t ht => ?_⟩
  obtain ⟨p, hp, hq⟩ := hc i t ht
  exact ⟨p, hp.imp hk, hq⟩
theorem TypsAt.imp {ts : List TypD} (h : TypsAt Pb w A ts) (hk : ∀ b, Pb b → Qb b) : TypsAt Qb w A ts := fun hn => by
  obtain ⟨b, off, e, hb, hc⟩ := h hn
  refine ⟨b, off, e, hk b hb, fun i t ht => ?_⟩
  obtain ⟨p, hp, hq⟩ := hc i t ht
  exact ⟨p, hp.imp hk, hq⟩
theorem AlisAt.imp {ts : List AliD} (h : AlisAt Pb w A ts) (hk : ∀ b, Pb b → Qb b) : AlisAt Qb w A ts := fun hn => by
  obtain ⟨b, off, e, hb, hc⟩ := h hn
  exact ⟨b, off, e, hk b hb, hc⟩
theorem TreeAt.imp {t : TreeD} {p : Ptr6} (h : TreeAt Pb w t p) (hk : ∀ b, Pb b → Qb b) : TreeAt Qb w t p := ⟨h.1.imp hk, h.2.1.imp hk, h.2.2.imp hk⟩
end

/-- What lies below B stays. -/
abbrev Lt (B : Nat) : Nat → Prop := fun b => b < B
theorem keep_below {B : Nat} {w w' : World} (h : Below B w w') : ∀ b o, Lt B b → w'.cell? ⟨b, o, none⟩ = w.cell? ⟨b, o, none⟩ := fun b o hb => h.cell (p := ⟨b, o, none⟩) hb
theorem lt_mono {B C : Nat} (h : B ≤ C) : ∀ b, Lt B b → Lt C b := fun _ hb => Nat.lt_of_lt_of_le hb h

/-- A block known whole. -/
def Blk (w : World) (g : Nat) (t : TypeId) (cs : Array Value) : Prop := w.heap[g]? = some (.cells cs t (0, 0))
section
variable {w w' : World} {g : Nat} {t : TypeId} {cs : Array Value}
theorem Blk.lt (h : Blk w g t cs) : g < w.heap.size := by
  rcases Nat.lt_or_ge g w.heap.size with hlt | hge
  · exact hlt
  · unfold Blk at h; rw [Array.getElem?_eq_none hge] at h; cases h
theorem Blk.cell (h : Blk w g t cs) (i : Nat) : w.cell? ⟨g, i, none⟩ = cs[i]? := cell_of_row w g i cs t (0, 0) h
theorem Blk.frozen (h : Blk w g t cs) (i : Nat) : w.frozen? ⟨g, i, none⟩ = false := by
  unfold Blk at h
  simp [World.frozen?, h]
theorem Blk.new (w : World) (t : TypeId) (cs : Array Value) : Blk (w.alloc (.cells cs t)) w.heap.size t cs := heap_alloc_new w _
theorem Blk.drew (h : Blk w g t cs) : Blk w.drew g t cs := h
theorem Blk.drewN (h : Blk w g t cs) (n : Nat) : Blk (w.drewN n) g t cs := h
theorem Blk.alloc (h : Blk w g t cs) (o : Obj) : Blk (w.alloc o) g t cs := (Below.heap_alloc w o g h.lt).trans h
theorem Blk.set_ (h : Blk w g t cs) (i : Nat) (u : Value) : Blk (w.setCell ⟨g, i, none⟩ u) g t (cs.setIfInBounds i u) := by
  unfold Blk at h ⊢
  simp [World.setCell, Array.getElem?_modify, h]
theorem Blk.far (h : Blk w g t cs) {p : Addr} (hp : g ≠ p.block) (u : Value) : Blk (w.setCell p u) g t cs := (Below.heap_setCell w p u g hp).trans h
theorem Blk.below {B : Nat} (h : Blk w g t cs) (hb : Below B w w') (hg : g < B) : Blk w' g t cs := (hb.block g hg).trans h
theorem Blk.grown {row : Option Nat} (h : Blk w g t cs) (hb : w.grownBy w' row) (hg : some g ≠ row) : Blk w' g t cs := (hb.block g h.lt hg).trans h
end

/-- Only block g, and what is new, has turned. -/
theorem only_refl (w : World) (row : Option Nat) : w.grownBy w row := ⟨rfl, rfl, rfl, Nat.le_refl _, fun _ _ _ => rfl⟩
theorem only_drewN {a w : World} {row : Option Nat} (h : a.grownBy w row) (n : Nat) : a.grownBy (w.drewN n) row := ⟨h.os, h.tape, h.output, h.size, h.block⟩
theorem only_alloc {a w : World} {row : Option Nat} (h : a.grownBy w row) (o : Obj) : a.grownBy (w.alloc o) row :=
  ⟨h.os, h.tape, h.output, Nat.le_trans h.size (by simp), fun i hi hne => (Below.heap_alloc w o i (Nat.lt_of_lt_of_le hi h.size)).trans (h.block i hi hne)⟩
theorem only_setCell {a w : World} {g : Nat} (h : a.grownBy w (some g)) {p : Addr} (hp : p.block = g ∨ a.heap.size ≤ p.block) (u : Value) : a.grownBy (w.setCell p u) (some g) :=
  ⟨h.os, h.tape, h.output, by simpa [World.setCell] using h.size, fun i hi hne => (Below.heap_setCell w p u i (by
    rintro rfl
    rcases hp with hp | hp
    · exact hne (by rw [hp])
    · omega)).trans (h.block i hi hne)⟩
theorem only_of_below {a w : World} (h : Below a.heap.size a w) (row : Option Nat) : a.grownBy w row := ⟨h.os, h.tape, h.output, h.size, fun i hi _ => h.block i hi⟩
theorem only_trans {a b c : World} {row : Option Nat} (h : a.grownBy b row) (k : b.grownBy c row) : a.grownBy c row :=
  ⟨k.os.trans h.os, k.tape.trans h.tape, k.output.trans h.output, Nat.le_trans h.size k.size, fun i hi hne => (k.block i (Nat.lt_of_lt_of_le hi h.size) hne).trans (h.block i hi hne)⟩
theorem only_below {B : Nat} {a w : World} {g : Nat} (h : a.grownBy w (some g)) (hg : B ≤ g) (hB : B ≤ a.heap.size) : Below B a w := ⟨h.os, h.tape, h.output, h.size, fun i hi => h.block i (by omega) (fun e => by injection e; omega)⟩
theorem only_cell {a w : World} {g : Nat} (h : a.grownBy w (some g)) {p : Addr} (hp : p.block < a.heap.size) (hne : p.block ≠ g) : w.cell? p = a.cell? p := World.cell?_of_block (h.block p.block hp (fun e => hne (by injection e)))

/-- Numbers as cells. -/
abbrev ivs (us : List Int) : Array Value := (us.map iv).toArray
theorem ivs_get (us : List Int) (i : Nat) (h : i < us.length) : (ivs us)[i]? = some (.int .i64 us[i]) := by simp [ivs, h]
theorem ivs_set (us : List Int) (i : Nat) (u : Int) : (ivs us).setIfInBounds i (.int .i64 u) = ivs (us.set i u) := by
  apply Array.ext'
  simp [ivs, List.map_set]
end Go.Proofs.YtggchkddmihobaaGreatDoor
