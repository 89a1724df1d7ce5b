/- Trees as data, and how a tree lies in memory. Rows of a call's own: how they read, what keeps them, and what is appended to them. Copies in new memory: rows of -/
import Derived.Laws.OwnMore
import Derived.Deep.Draws
import Derived.PlainAid
import Derived.Test.YtjbdgjbmbohfmaaGreatDoorK06
import Derived.Maps.AppendAt
import Derived.Deep.AppendLies
import Derived.RegionTactic
import Derived.OwnWalk
import Derived.Deep.RegionHeld3
import Derived.WalkSpells
import Derived.StillTactics
namespace Go.Proofs.YtjbdgjbmbohfmaaGreatDoor
open Go Go.Proofs Go.RowKit
/-- A term: its kind, place, name, numbers, names, kids and types. -/
structure TermD where
 kind : Int
 pos : Int
 name : ByteArray
 int : Int
 bits : Nat
 names : List ByteArray
 kids : List Int
 types : List Int

/-- A type, as it is written. -/
structure TypD where
 kind : Int
 pos : Int
 name : ByteArray
 names : List ByteArray
 kids : List Int
 opn : Bool

/-- A name for a type. -/
structure AliD where
 name : ByteArray
 type : Int
 pos : Int

structure TreeD where
 nodes : List TermD
 types : List TypD
 aliases : List AliD

abbrev iv (n : Int) : Value := .int .i64 n

/-- A slice of n cells at A holds xs, in a block that meets Pb. -/
def SlAt (Pb : Nat → Prop) (w : World) (A : Option Addr) (n : Nat) (xs : List Value) : Prop :=
 xs.length = n ∧ (0 < n → ∃ b off, A = some ⟨b, off, none⟩ ∧ Pb b ∧ ∀ j u, xs[j]? = some u → w.cell? ⟨b, off + j, none⟩ = some u)

/-- Where a term's three rows lie. -/
structure Ptr3 where
 a5 : Option Addr
 c5 : Nat
 a6 : Option Addr
 c6 : Nat
 a7 : Option Addr
 c7 : Nat
structure Ptr2 where
 a3 : Option Addr
 c3 : Nat
 a4 : Option Addr
 c4 : Nat

def termCells (t : TermD) (p : Ptr3) : List Value :=
 [.int .i64 t.kind, .int .i64 t.pos, .string t.name, .int .i64 t.int, .int .u64 (t.bits : Int), .slice p.a5 t.names.length p.c5, .slice p.a6 t.kids.length p.c6, .slice p.a7 t.types.length p.c7]
def typCells (t : TypD) (p : Ptr2) : List Value :=
 [.int .i64 t.kind, .int .i64 t.pos, .string t.name, .slice p.a3 t.names.length p.c3, .slice p.a4 t.kids.length p.c4, .bool t.opn]
def aliCells (t : AliD) : List Value := [.string t.name, .int .i64 t.type, .int .i64 t.pos]

def TermOk (Pb : Nat → Prop) (w : World) (t : TermD) (p : Ptr3) : Prop :=
 SlAt Pb w p.a5 t.names.length (t.names.map .string) ∧ SlAt Pb w p.a6 t.kids.length (t.kids.map iv) ∧ SlAt Pb w p.a7 t.types.length (t.types.map iv)
def TypOk (Pb : Nat → Prop) (w : World) (t : TypD) (p : Ptr2) : Prop :=
 SlAt Pb w p.a3 t.names.length (t.names.map .string) ∧ SlAt Pb w p.a4 t.kids.length (t.kids.map iv)

def NodesAt (Pb : Nat → Prop) (w : World) (A : Option Addr) (ts : List TermD) : Prop :=
 0 < ts.length → ∃ b off, A = some ⟨b, off, none⟩ ∧ Pb b ∧ ∀ i t, ts[i]? = some t → ∃ p, TermOk Pb w t p ∧ ∀ j u, (termCells t p)[j]? = some u → w.cell? ⟨b, off + i * 8 + j, none⟩ = some u
def TypsAt (Pb : Nat → Prop) (w : World) (A : Option Addr) (ts : List TypD) : Prop :=
 0 < ts.length → ∃ b off, A = some ⟨b, off, none⟩ ∧ Pb b ∧ ∀ i t, ts[i]? = some t → ∃ p, TypOk Pb w t p ∧ ∀ j u, (typCells t p)[j]? = some u → w.cell? ⟨b, off + i * 6 + j, none⟩ = some u
def AlisAt (Pb : Nat → Prop) (w : World) (A : Option Addr) (ts : List AliD) : Prop :=
 0 < ts.length → ∃ b off, A = some ⟨b, off, none⟩ ∧ Pb b ∧ ∀ i t, ts[i]? = some t → ∀ j u, (aliCells t)[j]? = some u → w.cell? ⟨b, off + i * 3 + j, none⟩ = some u

/-- Where a tree's three rows lie. -/
structure Ptr6 where
 a1 : Option Addr
 c1 : Nat
 a2 : Option Addr
 c2 : Nat
 a3 : Option Addr
 c3 : Nat
abbrev treeV (t : TreeD) (p : Ptr6) : Value := .agg #[.slice p.a1 t.nodes.length p.c1, .slice p.a2 t.types.length p.c2, .slice p.a3 t.aliases.length p.c3]
def TreeAt (Pb : Nat → Prop) (w : World) (t : TreeD) (p : Ptr6) : Prop := NodesAt Pb w p.a1 t.nodes ∧ TypsAt Pb w p.a2 t.types ∧ AlisAt Pb w p.a3 t.aliases

section
variable {Pb Qb : Nat → Prop} {w w' : World} {A : Option Addr} {n : Nat} {xs : List Value}

theorem SlAt.nil : SlAt Pb w A 0 [] := ⟨rfl, fun h => absurd h (by omega)⟩
theorem SlAt.at_ {k : Nat} (h : SlAt Pb w A n xs) (hk : k < n) : ∃ b off, A = some ⟨b, off, none⟩ ∧ Pb b ∧ ∀ j u, xs[j]? = some u → w.cell? ⟨b, off + j, none⟩ = some u := h.2 (by omega)
theorem SlAt.keep (h : SlAt Pb w A n xs) (hk : ∀ b o, Pb b → w'.cell? ⟨b, o, none⟩ = w.cell? ⟨b, o, none⟩) : SlAt Pb w' A n xs :=
 ⟨h.1, fun hn => by
  obtain ⟨b, off, e, hb, hc⟩ := h.2 hn
  exact ⟨b, off, e, hb, fun j u hu => (hk _ _ hb).trans (hc j u hu)⟩⟩
theorem SlAt.imp (h : SlAt Pb w A n xs) (hk : ∀ b, Pb b → Qb b) : SlAt Qb w A n xs :=
 ⟨h.1, fun hn => by
  obtain ⟨b, off, e, hb, hc⟩ := h.2 hn
  exact ⟨b, off, e, hk b hb, hc⟩⟩
theorem TermOk.keep {t : TermD} {p : Ptr3} (h : TermOk Pb w t p) (hk : ∀ b o, Pb b → w'.cell? ⟨b, o, none⟩ = w.cell? ⟨b, o, none⟩) : TermOk Pb w' t p := ⟨h.1.keep hk, h.2.1.keep hk, h.2.2.keep hk⟩
theorem TypOk.keep {t : TypD} {p : Ptr2} (h : TypOk Pb w t p) (hk : ∀ b o, Pb b → w'.cell? ⟨b, o, none⟩ = w.cell? ⟨b, o, none⟩) : TypOk Pb w' t p := ⟨h.1.keep hk, h.2.keep hk⟩
theorem NodesAt.keep {ts : List TermD} (h : NodesAt Pb w A ts) (hk : ∀ b o, Pb b → w'.cell? ⟨b, o, none⟩ = w.cell? ⟨b, o, none⟩) : NodesAt Pb w' A ts := fun hn => by
 obtain ⟨b, off, e, hb, hc⟩ := h hn
 refine ⟨b, off, e, hb, fun i t ht => ?_⟩
 obtain ⟨p, hp, hq⟩ := hc i t ht
 exact ⟨p, hp.keep hk, fun j u hu => (hk _ _ hb).trans (hq j u hu)⟩
theorem TypsAt.keep {ts : List TypD} (h : TypsAt Pb w A ts) (hk : ∀ b o, Pb b → w'.cell? ⟨b, o, none⟩ = w.cell? ⟨b, o, none⟩) : TypsAt Pb w' A ts := fun hn => by
 obtain ⟨b, off, e, hb, hc⟩ := h hn
 refine ⟨b, off, e, hb, fun i t ht => ?_⟩
 obtain ⟨p, hp, hq⟩ := hc i t ht
 exact ⟨p, hp.keep hk, fun j u hu => (hk _ _ hb).trans (hq j u hu)⟩
theorem AlisAt.keep {ts : List AliD} (h : AlisAt Pb w A ts) (hk : ∀ b o, Pb b → w'.cell? ⟨b, o, none⟩ = w.cell? ⟨b, o, none⟩) : AlisAt Pb w' A ts := fun hn => by
 obtain ⟨b, off, e, hb, hc⟩ := h hn
 exact ⟨b, off, e, hb, fun i t ht j u hu => (hk _ _ hb).trans (hc i t ht j u hu)⟩
theorem TreeAt.keep {t : TreeD} {p : Ptr6} (h : TreeAt Pb w t p) (hk : ∀ b o, Pb b → w'.cell? ⟨b, o, none⟩ = w.cell? ⟨b, o, none⟩) : TreeAt Pb w' t p := ⟨h.1.keep hk, h.2.1.keep hk, h.2.2.keep hk⟩
theorem TermOk.imp {t : TermD} {p : Ptr3} (h : TermOk Pb w t p) (hk : ∀ b, Pb b → Qb b) : TermOk Qb w t p := ⟨h.1.imp hk, h.2.1.imp hk, h.2.2.imp hk⟩
theorem TypOk.imp {t : TypD} {p : Ptr2} (h : TypOk Pb w t p) (hk : ∀ b, Pb b → Qb b) : TypOk Qb w t p := ⟨h.1.imp hk, h.2.imp hk⟩
theorem NodesAt.imp {ts : List TermD} (h : NodesAt Pb w A ts) (hk : ∀ b, Pb b → Qb b) : NodesAt Qb w A ts := fun hn => by
 obtain ⟨b, off, e, hb, hc⟩ := h hn
 refine ⟨b, off, e, hk b hb, fun i t ht => ?_⟩
 obtain ⟨p, hp, hq⟩ := hc i t ht
 exact ⟨p, hp.imp hk, hq⟩
theorem TypsAt.imp {ts : List TypD} (h : TypsAt Pb w A ts) (hk : ∀ b, Pb b → Qb b) : TypsAt Qb w A ts := fun hn => by
 obtain ⟨b, off, e, hb, hc⟩ := h hn
 refine ⟨b, off, e, hk b hb, fun i t ht => ?_⟩
 obtain ⟨p, hp, hq⟩ := hc i t ht
 exact ⟨p, hp.imp hk, hq⟩
theorem AlisAt.imp {ts : List AliD} (h : AlisAt Pb w A ts) (hk : ∀ b, Pb b → Qb b) : AlisAt Qb w A ts := fun hn => by
 obtain ⟨b, off, e, hb, hc⟩ := h hn
 exact ⟨b, off, e, hk b hb, hc⟩
theorem TreeAt.imp {t : TreeD} {p : Ptr6} (h : TreeAt Pb w t p) (hk : ∀ b, Pb b → Qb b) : TreeAt Qb w t p := ⟨h.1.imp hk, h.2.1.imp hk, h.2.2.imp hk⟩
end

/-- What lies below B stays. -/
abbrev Lt (B : Nat) : Nat → Prop := fun b => b < B
theorem keep_below {B : Nat} {w w' : World} (h : Below B w w') : ∀ b o, Lt B b → w'.cell? ⟨b, o, none⟩ = w.cell? ⟨b, o, none⟩ := fun b o hb => h.cell (p := ⟨b, o, none⟩) hb
theorem lt_mono {B C : Nat} (h : B ≤ C) : ∀ b, Lt B b → Lt C b := fun _ hb => Nat.lt_of_lt_of_le hb h

/-- A block known whole. -/
def Blk (w : World) (g : Nat) (t : TypeId) (cs : Array Value) : Prop := w.heap[g]? = some (.cells cs t (0, 0))
section
variable {w w' : World} {g : Nat} {t : TypeId} {cs : Array Value}
theorem Blk.lt (h : Blk w g t cs) : g < w.heap.size := by
 rcases Nat.lt_or_ge g w.heap.size with hlt | hge
 ·exact hlt
 ·unfold Blk at h; rw [Array.getElem?_eq_none hge] at h; cases h
theorem Blk.cell (h : Blk w g t cs) (i : Nat) : w.cell? ⟨g, i, none⟩ = cs[i]? := cell_of_row w g i cs t (0, 0) h
theorem Blk.frozen (h : Blk w g t cs) (i : Nat) : w.frozen? ⟨g, i, none⟩ = false := by
 unfold Blk at h
 simp [World.frozen?, h]
theorem Blk.new (w : World) (t : TypeId) (cs : Array Value) : Blk (w.alloc (.cells cs t)) w.heap.size t cs := heap_alloc_new w _
theorem Blk.drew (h : Blk w g t cs) : Blk w.drew g t cs := h
theorem Blk.drewN (h : Blk w g t cs) (n : Nat) : Blk (w.drewN n) g t cs := h
theorem Blk.alloc (h : Blk w g t cs) (o : Obj) : Blk (w.alloc o) g t cs := (Below.heap_alloc w o g h.lt).trans h
theorem Blk.set_ (h : Blk w g t cs) (i : Nat) (u : Value) : Blk (w.setCell ⟨g, i, none⟩ u) g t (cs.setIfInBounds i u) := by
 unfold Blk at h ⊢
 simp [World.setCell, Array.getElem?_modify, h]
theorem Blk.far (h : Blk w g t cs) {p : Addr} (hp : g ≠ p.block) (u : Value) : Blk (w.setCell p u) g t cs := (Below.heap_setCell w p u g hp).trans h
theorem Blk.below {B : Nat} (h : Blk w g t cs) (hb : Below B w w') (hg : g < B) : Blk w' g t cs := (hb.block g hg).trans h
theorem Blk.grown {row : Option Nat} (h : Blk w g t cs) (hb : w.grownBy w' row) (hg : some g ≠ row) : Blk w' g t cs := (hb.block g h.lt hg).trans h
end

/-- Only block g, and what is new, has turned. -/
theorem only_refl (w : World) (row : Option Nat) : w.grownBy w row := ⟨rfl, rfl, rfl, Nat.le_refl _, fun _ _ _ => rfl⟩
theorem only_alloc {a w : World} {row : Option Nat} (h : a.grownBy w row) (o : Obj) : a.grownBy (w.alloc o) row :=
 ⟨h.os, h.tape, h.output, Nat.le_trans h.size (by simp), fun i hi hne => (Below.heap_alloc w o i (Nat.lt_of_lt_of_le hi h.size)).trans (h.block i hi hne)⟩
theorem only_setCell {a w : World} {g : Nat} (h : a.grownBy w (some g)) {p : Addr} (hp : p.block = g ∨ a.heap.size ≤ p.block) (u : Value) : a.grownBy (w.setCell p u) (some g) :=
 ⟨h.os, h.tape, h.output, by simpa [World.setCell] using h.size, fun i hi hne => (Below.heap_setCell w p u i (by
  rintro rfl
  rcases hp with hp | hp
  ·exact hne (by rw [hp])
  ·omega)).trans (h.block i hi hne)⟩
theorem only_of_below {a w : World} (h : Below a.heap.size a w) (row : Option Nat) : a.grownBy w row := ⟨h.os, h.tape, h.output, h.size, fun i hi _ => h.block i hi⟩
theorem only_below {B : Nat} {a w : World} {g : Nat} (h : a.grownBy w (some g)) (hg : B ≤ g) (hB : B ≤ a.heap.size) : Below B a w := ⟨h.os, h.tape, h.output, h.size, fun i hi => h.block i (by omega) (fun e => by injection e; omega)⟩
theorem only_cell {a w : World} {g : Nat} (h : a.grownBy w (some g)) {p : Addr} (hp : p.block < a.heap.size) (hne : p.block ≠ g) : w.cell? p = a.cell? p := World.cell?_of_block (h.block p.block hp (fun e => hne (by injection e)))

/-- Numbers as cells. -/
abbrev ivs (us : List Int) : Array Value := (us.map iv).toArray
theorem ivs_get (us : List Int) (i : Nat) (h : i < us.length) : (ivs us)[i]? = some (.int .i64 us[i]) := by simp [ivs, h]
theorem ivs_set (us : List Int) (i : Nat) (u : Int) : (ivs us).setIfInBounds i (.int .i64 u) = ivs (us.set i u) := by
 apply Array.ext'
 simp [ivs, List.map_set]
section
variable {w w1 : World} {base : Nat} {e : TypeId} {size : Nat} {v : Value} {n : Nat} {xs : List Value}

theorem own_block (h : w.ownsRow base e size v n xs) : v.ownBlock = none ∨ ∃ g, v.ownBlock = some g ∧ base ≤ g ∧ g < w.heap.size := by
 rcases h.2 with ⟨rfl, _⟩ | ⟨g, cap, cur, rfl, hb, hh, _⟩
 ·exact .inl rfl
 ·refine .inr ⟨g, rfl, hb, ?_⟩
  rcases Nat.lt_or_ge g w.heap.size with hlt | hge
  ·exact hlt
  ·rw [Array.getElem?_eq_none hge] at hh; cases hh
theorem own_below (h : w.ownsRow base e size v n xs) (hb : Below w.heap.size w w1) : w1.ownsRow base e size v n xs :=
 h.kept (only_of_below hb none) (by
  rcases own_block h with h1 | ⟨g, h1, _⟩
  ·exact .inl h1
  ·exact .inr (by rw [h1]; simp))
theorem own_grown {B : Nat} {a : World} (hb : Below B a w) (h : w.ownsRow base e size v n xs) (hg : w.grownBy w1 v.ownBlock) (hB : B ≤ base) (hs : B ≤ w.heap.size) : Below B a w1 :=
 hb.grown hg (Nat.le_trans hs (Nat.le_refl _)) (fun j hj => by
  rcases own_block h with h1 | ⟨g', h1, h2, _⟩
  ·rw [h1] at hj; cases hj
  ·rw [h1] at hj; cases hj; omega)
/-- A row of the call's own reads as a list. -/
theorem SlAt.of_own (h : w.ownsRow base e 1 v n xs) : ∃ A c, v = .slice A n c ∧ n ≤ c ∧ SlAt (fun b => base ≤ b ∧ b < w.heap.size) w A n xs := by
 obtain ⟨hl, h | h⟩ := h
 ·obtain ⟨rfl, rfl⟩ := h
  have : xs = [] := List.eq_nil_of_length_eq_zero (by simpa using hl)
  subst this
  exact ⟨none, 0, rfl, Nat.le_refl _, SlAt.nil⟩
 ·obtain ⟨g, cap, cur, rfl, hb, hh, hnc, hcm, hsz, hx⟩ := h
  refine ⟨_, _, rfl, hnc, by simpa using hl, fun hn => ⟨g, 0, rfl, ⟨hb, ?_⟩, fun j u hu => ?_⟩⟩
  ·rcases Nat.lt_or_ge g w.heap.size with hlt | hge
   ·exact hlt
   ·rw [Array.getElem?_eq_none hge] at hh; cases hh
  ·rw [cell_of_row w g (0 + j) cur e (0, 0) hh, Nat.zero_add]
   rw [← hx] at hu
   have hj : j < n * 1 := by
    have := (List.getElem?_eq_some_iff.1 hu).1
    rw [List.length_take] at this
    omega
   rw [List.getElem?_take_of_lt hj] at hu
   simpa using hu
end

theorem bcell {W w1 : World} (hb : Below W.heap.size W w1) : (∀ b o, b < W.heap.size → w1.cell? ⟨b, o, none⟩ = W.cell? ⟨b, o, none⟩) ∧ (∀ b o, b < W.heap.size → w1.frozen? ⟨b, o, none⟩ = W.frozen? ⟨b, o, none⟩) :=
 ⟨fun b o h => hb.cell (p := ⟨b, o, none⟩) h, fun b o h => hb.frozen (p := ⟨b, o, none⟩) h⟩

theorem info9 : (Tryz.prog.info? 9).map (fun i => (i.zero, i.size, i.bytes)) = some (some (.string ByteArray.empty), 1, 16) := by kernel_rfl
theorem info3 : (Tryz.prog.info? 3).map (fun i => (i.zero, i.size, i.bytes)) = some (some (.int .i64 0), 1, 8) := by kernel_rfl

/-- Cells that lie at A, whatever their length. -/
def RdAt (w : World) (A : Option Addr) (xs : List Value) : Prop := xs = [] ∨ ∃ b off, A = some ⟨b, off, none⟩ ∧ ∀ j u, xs[j]? = some u → w.cell? ⟨b, off + j, none⟩ = some u
theorem RdAt.of_sl {Pb : Nat → Prop} {w : World} {A : Option Addr} {n : Nat} {xs : List Value} (h : SlAt Pb w A n xs) : RdAt w A xs := by
 rcases Nat.eq_zero_or_pos n with rfl | hn
 ·exact .inl (List.eq_nil_of_length_eq_zero h.1)
 ·obtain ⟨b, off, e, _, hc⟩ := h.2 hn
  exact .inr ⟨b, off, e, hc⟩
theorem rd_one (w : World) (u : Value) (t : TypeId) : RdAt (w.alloc (.cells #[u] t)) (some ⟨w.heap.size, 0, none⟩) [u] := .inr ⟨_, _, rfl, fun j x hx => by
 rw [(Blk.new w t #[u]).cell (0 + j), Nat.zero_add]
 simpa using hx⟩

section
variable {P : Program} (w : World)
theorem app_nil (base : Nat) (t ty e : TypeId) (i : TypeInfo) (size : Nat) (ht : P.underlying t = some (.slice e)) (hi : P.info? e = some i)
 (v : Value) (n : Nat) (xs : List Value) (hown : w.ownsRow base e size v n xs) (c : Nat) : (Builtin.append_ #[t, t] ty #[v, .slice none 0 c]).run P w = .ok v w := by
 rcases hown.2 with ⟨rfl, rfl⟩ | ⟨g, cap, cur, rfl, _, _, hnc, _⟩
 ·simp [Builtin.append_, run_underlying ht, sizeOf, typeInfo, hi, Builtin.lenOf, Builtin.firstCells]
 ·simp [Builtin.append_, run_underlying ht, sizeOf, typeInfo, hi, Builtin.lenOf, Builtin.firstCells, hnc, storeCells]

/-- append onto a row of the call's own, from whatever lies at A. -/
theorem run_app (base : Nat) (t ty e : TypeId) (i : TypeInfo) (z : Value) (size bytes : Nat) (ht : P.underlying t = some (.slice e)) (hi : P.info? e = some i) (hz : i.zero = some z)
 (hsize : i.size = size) (hby : i.bytes = bytes) (hzs : z.cells.size = size) (hsz : 0 < size)
 (v : Value) (n : Nat) (xs : List Value) (hown : w.ownsRow base e size v n xs)
 (A : Option Addr) (m c : Nat) (news : List Value) (hl : news.length = m * size) (hr : RdAt w A news) (h1 : ∀ u ∈ news, u.oneCell' = true)
 (h63 : n + m ≤ maxLen) (hbytes : (n + m) * bytes ≤ 140737488355328) (hbase : base ≤ w.heap.size) :
 ∃ v' w', (Builtin.append_ #[t, t] ty #[v, .slice A m c]).run P w = .ok v' w' ∧ w'.ownsRow base e size v' (n + m) (xs ++ news) ∧ w.grownBy w' v.ownBlock ∧
  (v'.ownBlock = v.ownBlock ∨ v'.ownBlock = some w.heap.size) := by
 rcases A with _ | ad
 ·have hn : news = [] := by
   rcases hr with h | ⟨b, off, h, _⟩
   ·exact h
   ·cases h
  subst hn
  have hm : m = 0 := by
   have : m * size = 0 := by simpa using hl.symm
   rcases Nat.mul_eq_zero.1 this with h | h <;> omega
  subst hm
  exact ⟨v, w, app_nil w base t ty e i size ht hi v n xs hown c, by simpa using hown, World.grownBy.refl w _, .inl rfl⟩
 ·have hcells : ∀ j u, news[j]? = some u → w.cell? (ad.add j) = some u := by
   intro j u hu
   rcases hr with rfl | ⟨b, off, h, hc⟩
   ·simp at hu
   ·injection h with h
    subst h
    have := hc j u hu
    unfold Addr.add
    split
    ·rename_i h0; subst h0; simpa using this
    ·simpa using this
  obtain ⟨v', w', hrun, h2, h3, _, h5⟩ := run_append_own_at (P := P) w base t ty e i z size bytes ht hi hz hsize hby hzs hsz v n xs hown ad m c news hl hcells h1 h63 hbytes hbase
  exact ⟨v', w', hrun, h2, h3, h5⟩

theorem wpList_app {ops : Array Oper} {rest : List Oper} {o : Oper} {a : Act} {Q : Exit → Act → World → Prop} (hgd : o.guard = none) (s x : Operand) (t : TypeId)
 (ho : o.op = .call { callee := .builtin .append, args := #[s, x], argTypes := #[t, t] })
 (base : Nat) (e : TypeId) (i : TypeInfo) (z : Value) (size bytes : Nat) (ht : P.underlying t = some (.slice e)) (hi : P.info? e = some i) (hz : i.zero = some z)
 (hsize : i.size = size) (hby : i.bytes = bytes) (hzs : z.cells.size = size) (hsz : 0 < size)
 (v : Value) (n : Nat) (xs : List Value) (hs : a.eval s = v) (hown : w.ownsRow base e size v n xs)
 (A : Option Addr) (m c : Nat) (news : List Value) (hx : a.eval x = .slice A m c) (hl : news.length = m * size) (hr : RdAt w A news) (h1 : ∀ u ∈ news, u.oneCell' = true)
 (h63 : n + m ≤ maxLen) (hbytes : (n + m) * bytes ≤ 140737488355328) (hbase : base ≤ w.heap.size)
 (h : ∀ v' w', w'.ownsRow base e size v' (n + m) (xs ++ news) → w.grownBy w' v.ownBlock → (v'.ownBlock = v.ownBlock ∨ v'.ownBlock = some w.heap.size) → wpList P ops Q rest (a.put o.dst v') w') : wpList P ops Q (o :: rest) a w := by
 refine wpList_plain hgd fun _ hK => ?_
 obtain ⟨v', w', hrun, h2, h3, h4⟩ := run_app (P := P) w base t o.type e i z size bytes ht hi hz hsize hby hzs hsz v n xs hown A m c news hl hr h1 h63 hbytes hbase
 unfold Oper.wp execOp
 simp only [ho, resolve, invoke, builtin, Sem.run_bind, Sem.run_pure, Result.andThen_ok, List.map_toArray, List.map_cons, List.map_nil, hs, hx, hrun]
 exact hK _ _ (h v' w' h2 h3 h4)
end
/-- A copy: a slice that reads so, in new memory. -/
def CopyPost (w : World) (n : Nat) (xs : List Value) (e : Ending) (w' : World) : Prop :=
 ∃ A c, e = .returned (.slice A n c) ∧ SlAt (fun b => w.heap.size ≤ b ∧ b < w'.heap.size) w' A n xs ∧ Below w.heap.size w w'

set_option maxHeartbeats 1000000 in
theorem copyS_any (A : Option Addr) (c : Nat) (ss : List ByteArray) (w : World) (hS : RdAt w A (ss.map .string)) (hn : ss.length ≤ 65536) : Calls Tryz.prog 244 #[.slice A ss.length c] w (CopyPost w ss.length (ss.map .string)) := by
 obtain ⟨i0, hi, hz0, hz1, hz2⟩ := info_parts info9
 have hr0 := Below.refl w.heap.size w
 go_enter Tryz.func244, Tryz.ntmps244
 go_wp2_with (at_builtin; refine wpList_app _ rfl _ _ 48 rfl w.heap.size 9 i0 (.string ByteArray.empty) 1 16 Tryz.underlying48 hi hz0 hz1 hz2 rfl (by decide) (.slice none 0 0) 0 [] rfl (World.ownsRow_nil _ _ _ _) A ss.length c (ss.map .string) rfl (by simp) hS (by intro u hu; obtain ⟨s, _, rfl⟩ := List.mem_map.1 hu; rfl) (by unfold maxLen; omega) (by omega) (Nat.le_refl _) ?_; intro v' w2 hown2 hgrow2 hloc2)
 go_ret
 rw [Nat.zero_add, List.nil_append] at hown2
 obtain ⟨A', c', rfl, _, h2⟩ := SlAt.of_own hown2
 exact ⟨A', c', rfl, h2, hgrow2.os, hgrow2.tape, hgrow2.output, hgrow2.size, fun i hi => hgrow2.block i hi (by simp [Value.ownBlock])⟩

set_option maxHeartbeats 1000000 in
theorem copyI_any (A : Option Addr) (c : Nat) (ss : List Int) (w : World) (hS : RdAt w A (ss.map iv)) (hn : ss.length ≤ 65536) : Calls Tryz.prog 245 #[.slice A ss.length c] w (CopyPost w ss.length (ss.map iv)) := by
 obtain ⟨i0, hi, hz0, hz1, hz2⟩ := info_parts info3
 have hr0 := Below.refl w.heap.size w
 go_enter Tryz.func245, Tryz.ntmps245
 go_wp2_with (at_builtin; refine wpList_app _ rfl _ _ 49 rfl w.heap.size 3 i0 (.int .i64 0) 1 8 Tryz.underlying49 hi hz0 hz1 hz2 rfl (by decide) (.slice none 0 0) 0 [] rfl (World.ownsRow_nil _ _ _ _) A ss.length c (ss.map iv) rfl (by simp) hS (by intro u hu; obtain ⟨s, _, rfl⟩ := List.mem_map.1 hu; rfl) (by unfold maxLen; omega) (by omega) (Nat.le_refl _) ?_; intro v' w2 hown2 hgrow2 hloc2)
 go_ret
 rw [Nat.zero_add, List.nil_append] at hown2
 obtain ⟨A', c', rfl, _, h2⟩ := SlAt.of_own hown2
 exact ⟨A', c', rfl, h2, hgrow2.os, hgrow2.tape, hgrow2.output, hgrow2.size, fun i hi => hgrow2.block i hi (by simp [Value.ownBlock])⟩

/-- In new memory. -/
abbrev New (w w' : World) : Nat → Prop := fun b => w.heap.size ≤ b ∧ b < w'.heap.size
theorem SlAt.rd {Pb : Nat → Prop} {w w' : World} {A : Option Addr} {n : Nat} {xs : List Value} (h : SlAt Pb w A n xs) (hk : ∀ b o, Pb b → w'.cell? ⟨b, o, none⟩ = w.cell? ⟨b, o, none⟩) : RdAt w' A xs := RdAt.of_sl (h.keep hk)
end Go.Proofs.YtjbdgjbmbohfmaaGreatDoor
