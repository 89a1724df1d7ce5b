/- Trees as the program lays them, and the small functions over their rows. -/
import Derived.Below
import Derived.Laws.OwnMore
import Derived.Deep.Draws
import Derived.PlainAid
import Derived.Lib.Hide
import Derived.Test.YtinajnkjfhbmkaaGreatDoorTreeMath
import Derived.Test.YtinajnkjfhbmkaaGreatDoorRefW
import Derived.Maps.AppendAt
import Derived.Deep.AppendLies
import Derived.RegionTactic
import Derived.OwnWalk
import Derived.Deep.QuietTactic
import Derived.BigQuiet
import Derived.LoopTactic
namespace Go.Proofs.YtinajnkjfhbmkaaGreatDoor
open Go Go.Proofs Go.RowKit

/-- A term: its kind, place, name, numbers, names, kids and types. -/
structure TermD where
  kind : Int
  pos : Int
  name : ByteArray
  int : Int
  bits : Nat
  names : List ByteArray
  kids : List Int
  types : List Int

/-- A type, as it is written. -/
structure TypD where
  kind : Int
  pos : Int
  name : ByteArray
  names : List ByteArray
  kids : List Int
  opn : Bool

/-- A name for a type. -/
structure AliD where
  name : ByteArray
  type : Int
  pos : Int

structure TreeD where
  nodes : List TermD
  types : List TypD
  aliases : List AliD

abbrev iv (n : Int) : Value := .int .i64 n

/-- A slice of n cells at A holds xs, in a block that meets Pb. -/
def SlAt (Pb : Nat → Prop) (w : World) (A : Option Addr) (n : Nat) (xs : List Value) : Prop :=
  xs.length = n ∧ (0 < n → ∃ b off, A = some ⟨b, off, none⟩ ∧ Pb b ∧ ∀ j u, xs[j]? = some u → w.cell? ⟨b, off + j, none⟩ = some u)

/-- Where a term's three rows lie. -/
structure Ptr3 where
  a5 : Option Addr
  c5 : Nat
  a6 : Option Addr
  c6 : Nat
  a7 : Option Addr
  c7 : Nat
structure Ptr2 where
  a3 : Option Addr
  c3 : Nat
  a4 : Option Addr
  c4 : Nat

def termCells (t : TermD) (p : Ptr3) : List Value :=
  [.int .i64 t.kind, .int .i64 t.pos, .string t.name, .int .i64 t.int, .int .u64 (t.bits : Int), .slice p.a5 t.names.length p.c5, .slice p.a6 t.kids.length p.c6, .slice p.a7 t.types.length p.c7]
def typCells (t : TypD) (p : Ptr2) : List Value :=
  [.int .i64 t.kind, .int .i64 t.pos, .string t.name, .slice p.a3 t.names.length p.c3, .slice p.a4 t.kids.length p.c4, .bool t.opn]
def aliCells (t : AliD) : List Value := [.string t.name, .int .i64 t.type, .int .i64 t.pos]

def TermOk (Pb : Nat → Prop) (w : World) (t : TermD) (p : Ptr3) : Prop :=
  SlAt Pb w p.a5 t.names.length (t.names.map .string) ∧ SlAt Pb w p.a6 t.kids.length (t.kids.map iv) ∧ SlAt Pb w p.a7 t.types.length (t.types.map iv)
def TypOk (Pb : Nat → Prop) (w : World) (t : TypD) (p : Ptr2) : Prop :=
  SlAt Pb w p.a3 t.names.length (t.names.map .string) ∧ SlAt Pb w p.a4 t.kids.length (t.kids.map iv)

def NodesAt (Pb : Nat → Prop) (w : World) (A : Option Addr) (ts : List TermD) : Prop :=
  0 < ts.length → ∃ b off, A = some ⟨b, off, none⟩ ∧ Pb b ∧ ∀ i t, ts[i]? = some t → ∃ p, TermOk Pb w t p ∧ ∀ j u, (termCells t p)[j]? = some u → w.cell? ⟨b, off + i * 8 + j, none⟩ = some u
def TypsAt (Pb : Nat → Prop) (w : World) (A : Option Addr) (ts : List TypD) : Prop :=
  0 < ts.length → ∃ b off, A = some ⟨b, off, none⟩ ∧ Pb b ∧ ∀ i t, ts[i]? = some t → ∃ p, TypOk Pb w t p ∧ ∀ j u, (typCells t p)[j]? = some u → w.cell? ⟨b, off + i * 6 + j, none⟩ = some u
def AlisAt (Pb : Nat → Prop) (w : World) (A : Option Addr) (ts : List AliD) : Prop :=
  0 < ts.length → ∃ b off, A = some ⟨b, off, none⟩ ∧ Pb b ∧ ∀ i t, ts[i]? = some t → ∀ j u, (aliCells t)[j]? = some u → w.cell? ⟨b, off + i * 3 + j, none⟩ = some u

/-- Where a tree's three rows lie. -/
structure Ptr6 where
  a1 : Option Addr
  c1 : Nat
  a2 : Option Addr
  c2 : Nat
  a3 : Option Addr
  c3 : Nat
abbrev treeV (t : TreeD) (p : Ptr6) : Value := .agg #[.slice p.a1 t.nodes.length p.c1, .slice p.a2 t.types.length p.c2, .slice p.a3 t.aliases.length p.c3]
def TreeAt (Pb : Nat → Prop) (w : World) (t : TreeD) (p : Ptr6) : Prop := NodesAt Pb w p.a1 t.nodes ∧ TypsAt Pb w p.a2 t.types ∧ AlisAt Pb w p.a3 t.aliases

section
variable {Pb Qb : Nat → Prop} {w w' : World} {A : Option Addr} {n : Nat} {xs : List Value}

theorem SlAt.nil : SlAt Pb w A 0 [] := ⟨rfl, fun h => absurd h (by omega)⟩
theorem SlAt.at_ {k : Nat} (h : SlAt Pb w A n xs) (hk : k < n) : ∃ b off, A = some ⟨b, off, none⟩ ∧ Pb b ∧ ∀ j u, xs[j]? = some u → w.cell? ⟨b, off + j, none⟩ = some u := h.2 (by omega)
theorem SlAt.keep (h : SlAt Pb w A n xs) (hk : ∀ b o, Pb b → w'.cell? ⟨b, o, none⟩ = w.cell? ⟨b, o, none⟩) : SlAt Pb w' A n xs :=
  ⟨h.1, fun hn => by
    obtain ⟨b, off, e, hb, hc⟩ := h.2 hn
    exact ⟨b, off, e, hb, fun j u hu => (hk _ _ hb).trans (hc j u hu)⟩⟩
theorem SlAt.imp (h : SlAt Pb w A n xs) (hk : ∀ b, Pb b → Qb b) : SlAt Qb w A n xs :=
  ⟨h.1, fun hn => by
    obtain ⟨b, off, e, hb, hc⟩ := h.2 hn
    exact ⟨b, off, e, hk b hb, hc⟩⟩
theorem TermOk.keep {t : TermD} {p : Ptr3} (h : TermOk Pb w t p) (hk : ∀ b o, Pb b → w'.cell? ⟨b, o, none⟩ = w.cell? ⟨b, o, none⟩) : TermOk Pb w' t p := ⟨h.1.keep hk, h.2.1.keep hk, h.2.2.keep hk⟩
theorem TypOk.keep {t : TypD} {p : Ptr2} (h : TypOk Pb w t p) (hk : ∀ b o, Pb b → w'.cell? ⟨b, o, none⟩ = w.cell? ⟨b, o, none⟩) : TypOk Pb w' t p := ⟨h.1.keep hk, h.2.keep hk⟩
theorem NodesAt.keep {ts : List TermD} (h : NodesAt Pb w A ts) (hk : ∀ b o, Pb b → w'.cell? ⟨b, o, none⟩ = w.cell? ⟨b, o, none⟩) : NodesAt Pb w' A ts := fun hn => by
  obtain ⟨b, off, e, hb, hc⟩ := h hn
  refine ⟨b, off, e, hb, fun i t ht => ?_⟩
  obtain ⟨p, hp, hq⟩ := hc i t ht
  exact ⟨p, hp.keep hk, fun j u hu => (hk _ _ hb).trans (hq j u hu)⟩
theorem TypsAt.keep {ts : List TypD} (h : TypsAt Pb w A ts) (hk : ∀ b o, Pb b → w'.cell? ⟨b, o, none⟩ = w.cell? ⟨b, o, none⟩) : TypsAt Pb w' A ts := fun hn => by
  obtain ⟨b, off, e, hb, hc⟩ := h hn
  refine ⟨b, off, e, hb, fun i t ht => ?_⟩
  obtain ⟨p, hp, hq⟩ := hc i t ht
  exact ⟨p, hp.keep hk, fun j u hu => (hk _ _ hb).trans (hq j u hu)⟩
theorem AlisAt.keep {ts : List AliD} (h : AlisAt Pb w A ts) (hk : ∀ b o, Pb b → w'.cell? ⟨b, o, none⟩ = w.cell? ⟨b, o, none⟩) : AlisAt Pb w' A ts := fun hn => by
  obtain ⟨b, off, e, hb, hc⟩ := h hn
  exact ⟨b, off, e, hb, fun i t ht j u hu => (hk _ _ hb).trans (hc i t ht j u hu)⟩
theorem TreeAt.keep {t : TreeD} {p : Ptr6} (h : TreeAt Pb w t p) (hk : ∀ b o, Pb b → w'.cell? ⟨b, o, none⟩ = w.cell? ⟨b, o, none⟩) : TreeAt Pb w' t p := ⟨h.1.keep hk, h.2.1.keep hk, h.2.2.keep hk⟩
theorem TermOk.imp {t : TermD} {p : Ptr3} (h : TermOk Pb w t p) (hk : ∀ b, Pb b → Qb b) : TermOk Qb w t p := ⟨h.1.imp hk, h.2.1.imp hk, h.2.2.imp hk⟩
theorem TypOk.imp {t : TypD} {p : Ptr2} (h : TypOk Pb w t p) (hk : ∀ b, Pb b → Qb b) : TypOk Qb w t p := ⟨h.1.imp hk, h.2.imp hk⟩
theorem NodesAt.imp {ts : List TermD} (h : NodesAt Pb w A ts) (hk : ∀ b, Pb b → Qb b) : NodesAt Qb w A ts := fun hn => by
  obtain ⟨b, off, e, hb, hc⟩ := h hn
  refine ⟨b, off, e, hk b hb, fun i t ht => ?_⟩
  obtain ⟨p, hp, hq⟩ := hc i t ht
  exact ⟨p, hp.imp hk, hq⟩
theorem TypsAt.imp {ts : List TypD} (h : TypsAt Pb w A ts) (hk : ∀ b, Pb b → Qb b) : TypsAt Qb w A ts := fun hn => by
  obtain ⟨b, off, e, hb, hc⟩ := h hn
  refine ⟨b, off, e, hk b hb, fun i t ht => ?_⟩
  obtain ⟨p, hp, hq⟩ := hc i t ht
  exact ⟨p, hp.imp hk, hq⟩
theorem AlisAt.imp {ts : List AliD} (h : AlisAt Pb w A ts) (hk : ∀ b, Pb b → Qb b) : AlisAt Qb w A ts := fun hn => by
  obtain ⟨b, off, e, hb, hc⟩ := h hn
  exact ⟨b, off, e, hk b hb, hc⟩
theorem TreeAt.imp {t : TreeD} {p : Ptr6} (h : TreeAt Pb w t p) (hk : ∀ b, Pb b → Qb b) : TreeAt Qb w t p := ⟨h.1.imp hk, h.2.1.imp hk, h.2.2.imp hk⟩
end

/-- What lies below B stays. -/
abbrev Lt (B : Nat) : Nat → Prop := fun b => b < B
theorem keep_below {B : Nat} {w w' : World} (h : Below B w w') : ∀ b o, Lt B b → w'.cell? ⟨b, o, none⟩ = w.cell? ⟨b, o, none⟩ := fun b o hb => h.cell (p := ⟨b, o, none⟩) hb
theorem lt_mono {B C : Nat} (h : B ≤ C) : ∀ b, Lt B b → Lt C b := fun _ hb => Nat.lt_of_lt_of_le hb h

/-- A block known whole. -/
def Blk (w : World) (g : Nat) (t : TypeId) (cs : Array Value) : Prop := w.heap[g]? = some (.cells cs t (0, 0))
section
variable {w w' : World} {g : Nat} {t : TypeId} {cs : Array Value}
theorem Blk.lt (h : Blk w g t cs) : g < w.heap.size := by
  rcases Nat.lt_or_ge g w.heap.size with hlt | hge
  · exact hlt
  · unfold Blk at h; rw [Array.getElem?_eq_none hge] at h; cases h
theorem Blk.cell (h : Blk w g t cs) (i : Nat) : w.cell? ⟨g, i, none⟩ = cs[i]? := cell_of_row w g i cs t (0, 0) h
theorem Blk.frozen (h : Blk w g t cs) (i : Nat) : w.frozen? ⟨g, i, none⟩ = false := by
  unfold Blk at h
  simp [World.frozen?, h]
theorem Blk.new (w : World) (t : TypeId) (cs : Array Value) : Blk (w.alloc (.cells cs t)) w.heap.size t cs := heap_alloc_new w _
theorem Blk.drew (h : Blk w g t cs) : Blk w.drew g t cs := h
theorem Blk.drewN (h : Blk w g t cs) (n : Nat) : Blk (w.drewN n) g t cs := h
theorem Blk.alloc (h : Blk w g t cs) (o : Obj) : Blk (w.alloc o) g t cs := (Below.heap_alloc w o g h.lt).trans h
theorem Blk.set_ (h : Blk w g t cs) (i : Nat) (u : Value) : Blk (w.setCell ⟨g, i, none⟩ u) g t (cs.setIfInBounds i u) := by
  unfold Blk at h ⊢
  simp [World.setCell, Array.getElem?_modify, h]
theorem Blk.far (h : Blk w g t cs) {p : Addr} (hp : g ≠ p.block) (u : Value) : Blk (w.setCell p u) g t cs := (Below.heap_setCell w p u g hp).trans h
theorem Blk.below {B : Nat} (h : Blk w g t cs) (hb : Below B w w') (hg : g < B) : Blk w' g t cs := (hb.block g hg).trans h
theorem Blk.grown {row : Option Nat} (h : Blk w g t cs) (hb : w.grownBy w' row) (hg : some g ≠ row) : Blk w' g t cs := (hb.block g h.lt hg).trans h
end

/-- Only block g, and what is new, has turned. -/
theorem only_refl (w : World) (row : Option Nat) : w.grownBy w row := ⟨rfl, rfl, rfl, Nat.le_refl _, fun _ _ _ => rfl⟩
theorem only_drewN {a w : World} {row : Option Nat} (h : a.grownBy w row) (n : Nat) : a.grownBy (w.drewN n) row := ⟨h.os, h.tape, h.output, h.size, h.block⟩
theorem only_alloc {a w : World} {row : Option Nat} (h : a.grownBy w row) (o : Obj) : a.grownBy (w.alloc o) row :=
  ⟨h.os, h.tape, h.output, Nat.le_trans h.size (by simp), fun i hi hne => (Below.heap_alloc w o i (Nat.lt_of_lt_of_le hi h.size)).trans (h.block i hi hne)⟩
theorem only_setCell {a w : World} {g : Nat} (h : a.grownBy w (some g)) {p : Addr} (hp : p.block = g ∨ a.heap.size ≤ p.block) (u : Value) : a.grownBy (w.setCell p u) (some g) :=
  ⟨h.os, h.tape, h.output, by simpa [World.setCell] using h.size, fun i hi hne => (Below.heap_setCell w p u i (by
    rintro rfl
    rcases hp with hp | hp
    · exact hne (by rw [hp])
    · omega)).trans (h.block i hi hne)⟩
theorem only_of_below {a w : World} (h : Below a.heap.size a w) (row : Option Nat) : a.grownBy w row := ⟨h.os, h.tape, h.output, h.size, fun i hi _ => h.block i hi⟩
theorem only_trans {a b c : World} {row : Option Nat} (h : a.grownBy b row) (k : b.grownBy c row) : a.grownBy c row :=
  ⟨k.os.trans h.os, k.tape.trans h.tape, k.output.trans h.output, Nat.le_trans h.size k.size, fun i hi hne => (k.block i (Nat.lt_of_lt_of_le hi h.size) hne).trans (h.block i hi hne)⟩
theorem only_below {B : Nat} {a w : World} {g : Nat} (h : a.grownBy w (some g)) (hg : B ≤ g) (hB : B ≤ a.heap.size) : Below B a w := ⟨h.os, h.tape, h.output, h.size, fun i hi => h.block i (by omega) (fun e => by injection e; omega)⟩
theorem only_cell {a w : World} {g : Nat} (h : a.grownBy w (some g)) {p : Addr} (hp : p.block < a.heap.size) (hne : p.block ≠ g) : w.cell? p = a.cell? p := World.cell?_of_block (h.block p.block hp (fun e => hne (by injection e)))

/-- Numbers as cells. -/
abbrev ivs (us : List Int) : Array Value := (us.map iv).toArray
theorem ivs_get (us : List Int) (i : Nat) (h : i < us.length) : (ivs us)[i]? = some (.int .i64 us[i]) := by simp [ivs, h]
theorem ivs_set (us : List Int) (i : Nat) (u : Int) : (ivs us).setIfInBounds i (.int .i64 u) = ivs (us.set i u) := by
  apply Array.ext'
  simp [ivs, List.map_set]
end Go.Proofs.YtinajnkjfhbmkaaGreatDoor

namespace Go.Proofs.YtinajnkjfhbmkaaGreatDoor
open Go Go.Proofs Go.RowKit

section
variable {w w1 : World} {base : Nat} {e : TypeId} {size : Nat} {v : Value} {n : Nat} {xs : List Value}

theorem own_block (h : w.ownsRow base e size v n xs) : v.ownBlock = none ∨ ∃ g, v.ownBlock = some g ∧ base ≤ g ∧ g < w.heap.size := by
  rcases h.2 with ⟨rfl, _⟩ | ⟨g, cap, cur, rfl, hb, hh, _⟩
  · exact .inl rfl
  · refine .inr ⟨g, rfl, hb, ?_⟩
    rcases Nat.lt_or_ge g w.heap.size with hlt | hge
    · exact hlt
    · rw [Array.getElem?_eq_none hge] at hh; cases hh
theorem own_below (h : w.ownsRow base e size v n xs) (hb : Below w.heap.size w w1) : w1.ownsRow base e size v n xs :=
  h.kept (only_of_below hb none) (by
    rcases own_block h with h1 | ⟨g, h1, _⟩
    · exact .inl h1
    · exact .inr (by rw [h1]; simp))
/-- A row is kept where one other block has turned. -/
theorem own_only {g : Nat} (h : w.ownsRow base e size v n xs) (hg : w.grownBy w1 (some g)) (hne : g < base) : w1.ownsRow base e size v n xs :=
  h.kept hg (by
    rcases own_block h with h1 | ⟨g', h1, h2, _⟩
    · exact .inl h1
    · exact .inr (by rw [h1]; intro e; injection e; omega))
theorem own_grown {B : Nat} {a : World} (hb : Below B a w) (h : w.ownsRow base e size v n xs) (hg : w.grownBy w1 v.ownBlock) (hB : B ≤ base) (hs : B ≤ w.heap.size) : Below B a w1 :=
  hb.grown hg (Nat.le_trans hs (Nat.le_refl _)) (fun j hj => by
    rcases own_block h with h1 | ⟨g', h1, h2, _⟩
    · rw [h1] at hj; cases hj
    · rw [h1] at hj; cases hj; omega)
theorem own_mono {base' : Nat} (h : w.ownsRow base e size v n xs) (hb : base' ≤ base) : w.ownsRow base' e size v n xs := by
  refine ⟨h.1, ?_⟩
  rcases h.2 with h1 | ⟨g, cap, cur, h2, h3, h4⟩
  · exact .inl h1
  · exact .inr ⟨g, cap, cur, h2, by omega, h4⟩

/-- A row of the call's own reads as a list. -/
theorem SlAt.of_own (h : w.ownsRow base e 1 v n xs) : ∃ A c, v = .slice A n c ∧ n ≤ c ∧ SlAt (fun b => base ≤ b ∧ b < w.heap.size) w A n xs := by
  obtain ⟨hl, h | h⟩ := h
  · obtain ⟨rfl, rfl⟩ := h
    have : xs = [] := List.eq_nil_of_length_eq_zero (by simpa using hl)
    subst this
    exact ⟨none, 0, rfl, Nat.le_refl _, SlAt.nil⟩
  · obtain ⟨g, cap, cur, rfl, hb, hh, hnc, hcm, hsz, hx⟩ := h
    refine ⟨_, _, rfl, hnc, by simpa using hl, fun hn => ⟨g, 0, rfl, ⟨hb, ?_⟩, fun j u hu => ?_⟩⟩
    · rcases Nat.lt_or_ge g w.heap.size with hlt | hge
      · exact hlt
      · rw [Array.getElem?_eq_none hge] at hh; cases hh
    · rw [cell_of_row w g (0 + j) cur e (0, 0) hh, Nat.zero_add]
      rw [← hx] at hu
      have hj : j < n * 1 := by
        have := (List.getElem?_eq_some_iff.1 hu).1
        rw [List.length_take] at this
        omega
      rw [List.getElem?_take_of_lt hj] at hu
      simpa using hu
end

theorem bcell {W w1 : World} (hb : Below W.heap.size W w1) : (∀ b o, b < W.heap.size → w1.cell? ⟨b, o, none⟩ = W.cell? ⟨b, o, none⟩) ∧ (∀ b o, b < W.heap.size → w1.frozen? ⟨b, o, none⟩ = W.frozen? ⟨b, o, none⟩) :=
  ⟨fun b o h => hb.cell (p := ⟨b, o, none⟩) h, fun b o h => hb.frozen (p := ⟨b, o, none⟩) h⟩

theorem info9 : (Tryz.prog.info? 9).map (fun i => (i.zero, i.size, i.bytes)) = some (some (.string ByteArray.empty), 1, 16) := by kernel_rfl
theorem info3 : (Tryz.prog.info? 3).map (fun i => (i.zero, i.size, i.bytes)) = some (some (.int .i64 0), 1, 8) := by kernel_rfl

/-- Cells that lie at A, whatever their length. -/
def RdAt (w : World) (A : Option Addr) (xs : List Value) : Prop := xs = [] ∨ ∃ b off, A = some ⟨b, off, none⟩ ∧ ∀ j u, xs[j]? = some u → w.cell? ⟨b, off + j, none⟩ = some u
theorem RdAt.of_sl {Pb : Nat → Prop} {w : World} {A : Option Addr} {n : Nat} {xs : List Value} (h : SlAt Pb w A n xs) : RdAt w A xs := by
  rcases Nat.eq_zero_or_pos n with rfl | hn
  · exact .inl (List.eq_nil_of_length_eq_zero h.1)
  · obtain ⟨b, off, e, _, hc⟩ := h.2 hn
    exact .inr ⟨b, off, e, hc⟩
theorem rd_one (w : World) (u : Value) (t : TypeId) : RdAt (w.alloc (.cells #[u] t)) (some ⟨w.heap.size, 0, none⟩) [u] := .inr ⟨_, _, rfl, fun j x hx => by
  rw [(Blk.new w t #[u]).cell (0 + j), Nat.zero_add]
  simpa using hx⟩

section
variable {P : Program} (w : World)
theorem app_nil (base : Nat) (t ty e : TypeId) (i : TypeInfo) (size : Nat) (ht : P.underlying t = some (.slice e)) (hi : P.info? e = some i)
    (v : Value) (n : Nat) (xs : List Value) (hown : w.ownsRow base e size v n xs) (c : Nat) : (Builtin.append_ #[t, t] ty #[v, .slice none 0 c]).run P w = .ok v w := by
  rcases hown.2 with ⟨rfl, rfl⟩ | ⟨g, cap, cur, rfl, _, _, hnc, _⟩
  · simp [Builtin.append_, run_underlying ht, sizeOf, typeInfo, hi, Builtin.lenOf, Builtin.firstCells]
  · simp [Builtin.append_, run_underlying ht, sizeOf, typeInfo, hi, Builtin.lenOf, Builtin.firstCells, hnc, storeCells]

/-- append onto a row of the call's own, from whatever lies at A. -/
theorem run_app (base : Nat) (t ty e : TypeId) (i : TypeInfo) (z : Value) (size bytes : Nat) (ht : P.underlying t = some (.slice e)) (hi : P.info? e = some i) (hz : i.zero = some z)
    (hsize : i.size = size) (hby : i.bytes = bytes) (hzs : z.cells.size = size) (hsz : 0 < size)
    (v : Value) (n : Nat) (xs : List Value) (hown : w.ownsRow base e size v n xs)
    (A : Option Addr) (m c : Nat) (news : List Value) (hl : news.length = m * size) (hr : RdAt w A news) (h1 : ∀ u ∈ news, u.oneCell' = true)
    (h63 : n + m ≤ maxLen) (hbytes : (n + m) * bytes ≤ 140737488355328) (hbase : base ≤ w.heap.size) :
    ∃ v' w', (Builtin.append_ #[t, t] ty #[v, .slice A m c]).run P w = .ok v' w' ∧ w'.ownsRow base e size v' (n + m) (xs ++ news) ∧ w.grownBy w' v.ownBlock ∧
      (v'.ownBlock = v.ownBlock ∨ v'.ownBlock = some w.heap.size) := by
  rcases A with _ | ad
  · have hn : news = [] := by
      rcases hr with h | ⟨b, off, h, _⟩
      · exact h
      · cases h
    subst hn
    have hm : m = 0 := by
      have : m * size = 0 := by simpa using hl.symm
      rcases Nat.mul_eq_zero.1 this with h | h <;> omega
    subst hm
    exact ⟨v, w, app_nil w base t ty e i size ht hi v n xs hown c, by simpa using hown, World.grownBy.refl w _, .inl rfl⟩
  · have hcells : ∀ j u, news[j]? = some u → w.cell? (ad.add j) = some u := by
      intro j u hu
      rcases hr with rfl | ⟨b, off, h, hc⟩
      · simp at hu
      · injection h with h
        subst h
        have := hc j u hu
        unfold Addr.add
        split
        · rename_i h0; subst h0; simpa using this
        · simpa using this
    obtain ⟨v', w', hrun, h2, h3, _, h5⟩ := run_append_own_at (P := P) w base t ty e i z size bytes ht hi hz hsize hby hzs hsz v n xs hown ad m c news hl hcells h1 h63 hbytes hbase
    exact ⟨v', w', hrun, h2, h3, h5⟩

theorem wpList_app {ops : Array Oper} {rest : List Oper} {o : Oper} {a : Act} {Q : Exit → Act → World → Prop} (hgd : o.guard = none) (s x : Operand) (t : TypeId)
    (ho : o.op = .call { callee := .builtin .append, args := #[s, x], argTypes := #[t, t] })
    (base : Nat) (e : TypeId) (i : TypeInfo) (z : Value) (size bytes : Nat) (ht : P.underlying t = some (.slice e)) (hi : P.info? e = some i) (hz : i.zero = some z)
    (hsize : i.size = size) (hby : i.bytes = bytes) (hzs : z.cells.size = size) (hsz : 0 < size)
    (v : Value) (n : Nat) (xs : List Value) (hs : a.eval s = v) (hown : w.ownsRow base e size v n xs)
    (A : Option Addr) (m c : Nat) (news : List Value) (hx : a.eval x = .slice A m c) (hl : news.length = m * size) (hr : RdAt w A news) (h1 : ∀ u ∈ news, u.oneCell' = true)
    (h63 : n + m ≤ maxLen) (hbytes : (n + m) * bytes ≤ 140737488355328) (hbase : base ≤ w.heap.size)
    (h : ∀ v' w', w'.ownsRow base e size v' (n + m) (xs ++ news) → w.grownBy w' v.ownBlock → (v'.ownBlock = v.ownBlock ∨ v'.ownBlock = some w.heap.size) → wpList P ops Q rest (a.put o.dst v') w') : wpList P ops Q (o :: rest) a w := by
  refine wpList_plain hgd fun _ hK => ?_
  obtain ⟨v', w', hrun, h2, h3, h4⟩ := run_app (P := P) w base t o.type e i z size bytes ht hi hz hsize hby hzs hsz v n xs hown A m c news hl hr h1 h63 hbytes hbase
  unfold Oper.wp execOp
  simp only [ho, resolve, invoke, builtin, Sem.run_bind, Sem.run_pure, Result.andThen_ok, List.map_toArray, List.map_cons, List.map_nil, hs, hx, hrun]
  exact hK _ _ (h v' w' h2 h3 h4)
end
end Go.Proofs.YtinajnkjfhbmkaaGreatDoor

namespace Go.Proofs.YtinajnkjfhbmkaaGreatDoor
open Go Go.Proofs Go.RowKit

theorem rd_at {w : World} {A : Option Addr} {xs : List Int} {k : Nat} (h : RdAt w A (xs.map iv)) (hk : k < xs.length) : ∃ b off, A = some ⟨b, off, none⟩ ∧ w.cell? ⟨b, off + k, none⟩ = some (.int .i64 xs[k]) := by
  rcases h with h | ⟨b, off, e, h⟩
  · have : xs = [] := by simpa using h
    subst this
    simp at hk
  · exact ⟨b, off, e, h k _ (by simp [hk])⟩

theorem below_drewN (n₀ : Nat) (w : World) (d : Nat) : Below n₀ w (w.drewN d) := ⟨rfl, rfl, rfl, Nat.le_refl _, fun _ _ => rfl⟩
theorem drewN_two (w : World) (a b : Nat) : (w.drewN a).drewN b = w.drewN (a + b) := by simp [World.drewN, Nat.add_assoc]

set_option maxRecDepth 100000 in
set_option maxHeartbeats 2000000 in
theorem same_any (A1 A2 : Option Addr) (c1 c2 : Nat) (xs ys : List Int) (w : World) (h1 : RdAt w A1 (xs.map iv)) (h2 : RdAt w A2 (ys.map iv)) (hx : xs.length ≤ 140737488351232) (hy : ys.length ≤ 140737488351232) :
    Calls Tryz.prog 15 #[.slice A1 xs.length c1, .slice A2 ys.length c2] w fun e w' => e = .returned (.bool (decide (xs = ys))) ∧ Below w.heap.size w w' := by
  obtain ⟨r, hr⟩ : ∃ r, decide (xs = ys) = r := ⟨_, rfl⟩
  rw [hr]
  have HR := Lib.hid hr
  clear hr
  by_cases hlen : xs.length = ys.length
  · obtain ⟨n, hn⟩ : ∃ n, ys.length = n := ⟨_, rfl⟩
    rw [hn] at hlen hy ⊢
    rw [hlen] at hx ⊢
    have HX := Lib.hid hlen
    have HY := Lib.hid hn
    clear hlen hn
    have hne : ((n : Int) != (n : Int)) = false := by simp
    have hB0 := Below.refl w.heap.size w
    go_enter Tryz.func15, Tryz.ntmps15
    go_wp2
    go_loopw [5, 13] (fun _ i wr => ∃ k : Nat, k ≤ n ∧ i = .int .i64 k ∧ Hid (xs.take k = ys.take k) ∧ Below w.heap.size w wr ∧ ∃ d, wr = w.drewN d) (fun _ i _ => n - (intOf i).toNat)
    case atStart => exact ⟨0, Nat.zero_le _, rfl, Lib.hid (by simp), hB0, 0, rfl⟩
    case round =>
      obtain ⟨k, hk, rfl, HT, hB, d, hwr⟩ := hrel
      by_cases hlt : k < n
      · have lx : k < xs.length := by rw [HX.out]; exact hlt
        have ly : k < ys.length := by rw [HY.out]; exact hlt
        obtain ⟨b, off, rfl, e1⟩ := rd_at h1 lx
        obtain ⟨b', off', rfl, e2⟩ := rd_at h2 ly
        have f1 : wr.cell? ⟨b, off + k, none⟩ = some (.int .i64 xs[k]) := by rw [hwr]; exact e1
        have f2 : wr.cell? ⟨b', off' + k, none⟩ = some (.int .i64 ys[k]) := by rw [hwr]; exact e2
        have htx : xs.take (k + 1) = xs.take k ++ [xs[k]] := List.take_succ_eq_append_getElem lx
        have hty : ys.take (k + 1) = ys.take k ++ [ys[k]] := List.take_succ_eq_append_getElem ly
        have hbad : xs[k] ≠ ys[k] → r = false := fun h => by
          rw [← HR.out, decide_eq_false_iff_not]
          intro he
          subst he
          exact h rfl
        obtain ⟨x, hxk⟩ : ∃ x, xs[k] = x := ⟨_, rfl⟩
        obtain ⟨y, hyk⟩ : ∃ y, ys[k] = y := ⟨_, rfl⟩
        rw [hxk] at f1 htx hbad
        rw [hyk] at f2 hty hbad
        have HTX := Lib.hid htx
        have HTY := Lib.hid hty
        have HBAD := Lib.hid hbad
        have HW := Lib.hid hwr
        clear hxk hyk htx hty hbad e1 e2 hwr h1 h2
        have i1 : (0 : Int) ≤ (k : Int) := by omega
        have i2 : (k : Int) < (n : Int) := by omega
        by_cases hxy : x = y
        · subst hxy
          have hq : (x != x) = false := by simp
          go_wp2
          go_quiet (fail)
          go_wp2
          go_roundw
          case rel => exact ⟨k + 1, by omega, by go_num, Lib.hid (by rw [HTX.out, HTY.out, HT.out]), hB.trans (below_drewN _ _ _), by have := HW.out; subst this; exact ⟨_, drewN_two _ _ _⟩⟩
          case measure => simp [intOf]; omega
        · have hq : (x != y) = true := by simpa using hxy
          have HF := Lib.hid (HBAD.out hxy)
          go_wp2
          go_quiet (fail)
          go_wp2
          go_ret
          exact ⟨ret_bool HF.out.symm, hB.trans (below_drewN _ _ _)⟩
      · obtain rfl : k = n := by omega
        have hT : r = true := by
          rw [← HR.out, decide_eq_true_eq]
          have := HT.out
          rwa [List.take_of_length_le (Nat.le_of_eq HX.out), List.take_of_length_le (Nat.le_of_eq HY.out)] at this
        have HF := Lib.hid hT
        clear hT hwr
        go_wp2
        go_ret
        exact ⟨ret_bool HF.out.symm, hB⟩
  · have hF : r = false := by
      rw [← HR.out, decide_eq_false_iff_not]
      intro he
      subst he
      exact hlen rfl
    have HF := Lib.hid hF
    clear hF
    have hne : ((xs.length : Int) != (ys.length : Int)) = true := by rw [bne_iff_ne]; omega
    go_enter Tryz.func15, Tryz.ntmps15
    go_wp2
    go_ret
    exact ⟨ret_bool HF.out.symm, Below.refl _ _⟩
end Go.Proofs.YtinajnkjfhbmkaaGreatDoor

namespace Go.Proofs.YtinajnkjfhbmkaaGreatDoor
open Go Go.Proofs Go.RowKit

/-- What becomes of the counts us when the parts ks are taken, each below e. -/
def takeF : List Int → List Int → Int → Bool × List Int
  | us, [], _ => (true, us)
  | us, k :: ks, e => if k < 0 ∨ e ≤ k then (false, us) else
    if 0 < us.getD k.toNat 0 then (false, us.set k.toNat (us.getD k.toNat 0 + 1)) else takeF (us.set k.toNat (us.getD k.toNat 0 + 1)) ks e

def TakePost (g : Nat) (us ks : List Int) (e : Int) (w : World) (en : Ending) (w' : World) : Prop :=
  en = .returned (.bool (takeF us ks e).1) ∧ Blk w' g 3 (ivs (takeF us ks e).2) ∧ w.grownBy w' (some g)
theorem TakePost.of {g : Nat} {us ks : List Int} {e : Int} {w w' : World} {b : Bool} {us' : List Int} (h : takeF us ks e = (b, us')) (hB : Blk w' g 3 (ivs us')) (hg : w.grownBy w' (some g)) :
    TakePost g us ks e w (.returned (.bool b)) w' := by
  unfold TakePost
  rw [h]
  exact ⟨rfl, hB, hg⟩

/-- Each count is 0 or 1. -/
def Bits01 (us : List Int) : Prop := ∀ u ∈ us, 0 ≤ u ∧ u ≤ 1
theorem Bits01.set {us : List Int} (h : Bits01 us) (j : Nat) {u : Int} (hu : 0 ≤ u ∧ u ≤ 1) : Bits01 (us.set j u) := fun x hx => by
  rcases List.mem_or_eq_of_mem_set hx with h1 | rfl
  · exact h _ h1
  · exact hu

set_option maxHeartbeats 2000000 in
theorem take_any (g m cap c : Nat) (us ks : List Int) (A : Option Addr) (e : Int) (w : World) (hB : Blk w g 3 (ivs us)) (hm : us.length = m)
    (hS : SlAt (fun b => b < w.heap.size ∧ b ≠ g) w A ks.length (ks.map iv)) (hn : ks.length ≤ 9223372036854775807) (he : e ≤ m) (hu : Bits01 us) :
    Calls Tryz.prog 57 #[.slice (some ⟨g, 0, none⟩) m cap, .slice A ks.length c, .int .i64 e] w (TakePost g us ks e w) := by
  have hr := only_refl w (some g)
  go_enter Tryz.func57, Tryz.ntmps57
  go_wp2
  go_loopw [11] (fun i wr => ∃ (k : Nat) (cur : List Int), k ≤ ks.length ∧ i = .int .i64 k ∧ cur.length = m ∧ Bits01 cur ∧ takeF us ks e = takeF cur (ks.drop k) e ∧ Blk wr g 3 (ivs cur) ∧ w.grownBy wr (some g)) (fun i _ => ks.length - (intOf i).toNat)
  case atStart => exact ⟨0, us, Nat.zero_le _, rfl, hm, hu, rfl, hB, hr⟩
  case round =>
    obtain ⟨k, cur, hk, rfl, hcl, hcu, hT, hBr, hgr⟩ := hrel
    have HT := Lib.hid hT
    clear hT
    by_cases hlt : k < ks.length
    · obtain ⟨b, off, rfl, ⟨hb, hbg⟩, hcell⟩ := hS.at_ hlt
      have hq := hcell k (.int .i64 ks[k]) (by simp [hlt])
      have hd : ks.drop k = ks[k] :: ks.drop (k + 1) := List.drop_eq_getElem_cons hlt
      obtain ⟨x, hx⟩ : ∃ x, ks[k] = x := ⟨_, rfl⟩
      rw [hx] at hq hd
      clear hx
      have hq' : wr.cell? ⟨b, off + k, none⟩ = some (.int .i64 x) := (only_cell hgr (p := ⟨b, off + k, none⟩) hb hbg).trans hq
      have HD := Lib.hid hd
      clear hd hq hcell
      by_cases h0 : x < 0
      · go_wp2
        go_ret
        exact TakePost.of (by rw [HT.out, HD.out, takeF, if_pos (.inl h0)]) hBr hgr
      · by_cases h1 : e ≤ x
        · go_wp2
          go_ret
          exact TakePost.of (by rw [HT.out, HD.out, takeF, if_pos (.inr h1)]) hBr hgr
        · obtain ⟨j, rfl⟩ : ∃ j : Nat, x = (j : Int) := ⟨x.toNat, by omega⟩
          have hjm : j < m := by omega
          have hjc : j < cur.length := by omega
          have hf := hBr.frozen j
          have hc := (hBr.cell j).trans (ivs_get cur j hjc)
          obtain ⟨hu0, hu1⟩ := hcu _ (List.getElem_mem hjc)
          have hget : cur.getD j 0 = cur[j] := by simp [List.getD_eq_getElem?_getD, hjc]
          have hgd : cur.getD (j : Int).toNat 0 = cur[j] := hget
          have HS := Lib.hid (hBr.set_ j (.int .i64 (cur[j] + 1)))
          have hgs := only_setCell hgr (p := ⟨g, j, none⟩) (.inl rfl) (.int .i64 (cur[j] + 1))
          have HG := Lib.hid hgd
          clear hgd hget
          obtain ⟨u, hu⟩ : ∃ u, cur[j] = u := ⟨_, rfl⟩
          rw [hu] at hc hu0 hu1 HS HG hgs
          clear hu
          by_cases hz : 0 < u
          · go_wp2
            go_ret
            refine TakePost.of (us' := cur.set j (u + 1)) ?_ (by rw [← ivs_set]; exact HS.out) hgs
            rw [HT.out, HD.out, takeF, if_neg (by omega), HG.out, if_pos hz]; rfl
          · obtain rfl : u = 0 := by omega
            go_wp2
            go_roundw
            case rel => exact ⟨k + 1, cur.set j 1, by omega, by go_num, by simpa using hcl, hcu.set j (by omega), by rw [HT.out, HD.out, takeF, if_neg (by omega), HG.out, if_neg (by omega)]; rfl, by rw [← ivs_set]; exact HS.out, hgs⟩
            case measure => simp [intOf]; omega
    · obtain rfl : k = ks.length := by omega
      go_wp2
      go_ret
      exact TakePost.of (by rw [HT.out, List.drop_length, takeF]) hBr hgr
end Go.Proofs.YtinajnkjfhbmkaaGreatDoor

namespace Go.Proofs.YtinajnkjfhbmkaaGreatDoor
open Go Go.Proofs Go.RowKit

theorem idx0_any (g m cap : Nat) (us : List Int) (w : World) (hB : Blk w g 3 (ivs us)) (hm : m ≤ us.length) (hn : us.length ≤ 9223372036854775807) :
    Calls Tryz.prog 75 #[.slice (some ⟨g, 0, none⟩) m cap, .int .i64 0] w fun e w' => (∃ n : Int, e = .returned (.int .i64 n) ∧ -1 ≤ n ∧ (0 ≤ n ↔ 0 ∈ us.take m)) ∧ w = w' := by
  go_enter Tryz.func75, Tryz.ntmps75
  go_wp2
  go_loop [5, 8] (fun _ i => ∃ (k : Nat), k ≤ m ∧ i = .int .i64 k ∧ ¬ 0 ∈ us.take k) (fun _ i => m - (intOf i).toNat)
  case atStart => exact ⟨0, Nat.zero_le _, rfl, by simp⟩
  case round =>
    obtain ⟨k, hk, rfl, hno⟩ := hrel
    have HN := Lib.hid hno
    clear hno
    by_cases hlt : k < m
    · have hkl : k < us.length := by omega
      have hc := (hB.cell k).trans (ivs_get us k hkl)
      have ht : us.take (k + 1) = us.take k ++ [us[k]] := by rw [List.take_succ_eq_append_getElem hkl]
      have hin : us[k] = 0 → 0 ∈ us.take m := fun h => by
        rw [← h]
        exact List.mem_take_iff_getElem.2 ⟨k, by omega, rfl⟩
      have HT := Lib.hid ht
      have HI := Lib.hid hin
      clear ht hin
      obtain ⟨u, hu⟩ : ∃ u, us[k] = u := ⟨_, rfl⟩
      rw [hu] at hc HT HI
      clear hu
      by_cases h0 : u = 0
      · subst h0
        go_wp2
        go_ret
        exact ⟨⟨_, rfl, by omega, ⟨fun _ => HI.out (by simp), fun _ => by omega⟩⟩, rfl⟩
      · have h0' : ((0 : Int) == u) = false := by simpa using fun h => h0 h.symm
        go_wp2
        go_round
        case rel => exact ⟨k + 1, by omega, by go_num, by rw [HT.out]; simp; exact ⟨HN.out, fun h => h0 h.symm⟩⟩
        case measure => simp [intOf]; omega
    · obtain rfl : k = m := by omega
      go_wp2
      go_ret
      exact ⟨⟨_, rfl, by omega, ⟨fun h => absurd h (by omega), fun h => absurd h HN.out⟩⟩, rfl⟩

theorem has0_any (g m cap : Nat) (us : List Int) (w : World) (hB : Blk w g 3 (ivs us)) (hm : m ≤ us.length) (hn : us.length ≤ 9223372036854775807) :
    Calls Tryz.prog 61 #[.slice (some ⟨g, 0, none⟩) m cap, .int .i64 0] w fun e w' => e = .returned (.bool (decide (0 ∈ us.take m))) ∧ w = w' := by
  have c := fun w hB => idx0_any g m cap us w hB hm hn
  go_enter Tryz.func61, Tryz.ntmps61
  go_wp2_with (go_at_call 75; refine (c _ hB).mono ?_; rintro e w' ⟨⟨n, rfl, h1, h2⟩, rfl⟩; have H := Lib.hid h2; clear h2)
  go_ret
  exact ⟨ret_bool (by rw [decide_eq_decide]; exact H.out), rfl⟩

theorem all_any (g m cap : Nat) (us : List Int) (w : World) (hB : Blk w g 3 (ivs us)) (hm : m ≤ us.length) (hn : us.length ≤ 9223372036854775807) :
    Calls Tryz.prog 30 #[.slice (some ⟨g, 0, none⟩) m cap] w fun e w' => e = .returned (.bool (!decide (0 ∈ us.take m))) ∧ w = w' := by
  have c := has0_any g m cap us w hB hm hn
  go_enter Tryz.func30, Tryz.ntmps30
  go_wp2_with (go_at_call 61; refine c.mono ?_; rintro e w' ⟨rfl, rfl⟩)
  go_ret
  exact ⟨rfl, rfl⟩

/-- Numbers as cells. -/
abbrev nvs (ds : List Nat) : Array Value := (ds.map fun n : Nat => iv (n : Int)).toArray
theorem nvs_get (ds : List Nat) (i : Nat) (h : i < ds.length) : (nvs ds)[i]? = some (.int .i64 (ds[i] : Nat)) := by simp [nvs, h]
theorem nvs_set (ds : List Nat) (i : Nat) (u : Nat) : (nvs ds).setIfInBounds i (.int .i64 (u : Int)) = nvs (ds.set i u) := by
  apply Array.ext'
  simp [nvs, List.map_set]

theorem most_take (f : Int → Nat) (ks : List Int) (k : Nat) (h : k < ks.length) : most ((ks.take (k + 1)).map f) = max (most ((ks.take k).map f)) (f ks[k]) := by
  rw [List.take_succ_eq_append_getElem h, List.map_append, most_append]
  simp [most]

theorem deepest_any (g m cap c : Nat) (ds : List Nat) (ks : List Int) (A : Option Addr) (w : World) (hB : Blk w g 3 (nvs ds)) (hm : ds.length = m) (_hmx : m ≤ 9223372036854775807)
    (hS : SlAt (fun b => b < w.heap.size) w A ks.length (ks.map iv)) (hn : ks.length ≤ 9223372036854775807) (hks : ∀ k ∈ ks, 0 ≤ k ∧ k < m) :
    Calls Tryz.prog 31 #[.slice (some ⟨g, 0, none⟩) m cap, .slice A ks.length c] w fun e w' => e = .returned (.int .i64 (most (ks.map fun k => ds.getD k.toNat 0) : Nat)) ∧ w = w' := by
  go_enter Tryz.func31, Tryz.ntmps31
  go_wp2
  go_loop [5, 10] (fun t i => ∃ (k : Nat), k ≤ ks.length ∧ i = .int .i64 k ∧ t = .int .i64 (most ((ks.take k).map fun k => ds.getD k.toNat 0) : Nat)) (fun _ i => ks.length - (intOf i).toNat)
  case atStart => exact ⟨0, Nat.zero_le _, rfl, rfl⟩
  case round =>
    obtain ⟨k, hk, rfl, rfl⟩ := hrel
    by_cases hlt : k < ks.length
    · obtain ⟨b, off, rfl, hb, hcell⟩ := hS.at_ hlt
      have hq := hcell k (.int .i64 ks[k]) (by simp [hlt])
      obtain ⟨x0, x1⟩ := hks _ (List.getElem_mem hlt)
      have hT := most_take (fun k => ds.getD k.toNat 0) ks k hlt
      obtain ⟨x, hx⟩ : ∃ x, ks[k] = x := ⟨_, rfl⟩
      rw [hx] at hq x0 x1 hT
      clear hx hcell
      obtain ⟨j, rfl⟩ : ∃ j : Nat, x = (j : Int) := ⟨x.toNat, by omega⟩
      have hjm : j < m := by omega
      have hjc : j < ds.length := by omega
      have hc := (hB.cell j).trans (nvs_get ds j hjc)
      have hget : ds.getD (j : Int).toNat 0 = ds[j] := by simp [List.getD_eq_getElem?_getD, hjc]
      rw [hget] at hT
      clear hget
      obtain ⟨u, hu⟩ : ∃ u, ds[j] = u := ⟨_, rfl⟩
      obtain ⟨M, hM⟩ : ∃ M, most ((ks.take k).map fun k => ds.getD k.toNat 0) = M := ⟨_, rfl⟩
      rw [hu] at hc hT
      rw [hM] at hT ⊢
      have HT := Lib.hid hT
      clear hu hM hT
      go_wp2
      go_round
      case rel => exact ⟨k + 1, by omega, by go_num, by rw [HT.out]; go_num⟩
      case measure => simp [intOf]; omega
    · obtain rfl : k = ks.length := by omega
      rw [List.take_length]
      go_wp2
      go_ret
      exact ⟨rfl, rfl⟩
end Go.Proofs.YtinajnkjfhbmkaaGreatDoor
