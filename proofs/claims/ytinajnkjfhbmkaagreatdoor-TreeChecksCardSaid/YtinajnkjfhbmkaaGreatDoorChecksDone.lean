/- TreeChecks returns true at every input: whether any tree may be, its depth, and the order in which it is walked, is what the document says; two tables of the library start as the program's text lays them, tied. -/
import Derived.Test.YtinajnkjfhbmkaaGreatDoorMayA
import Derived.Test.YtinajnkjfhbmkaaGreatDoorCards
import Derived.Test.YtinajnkjfhbmkaaGreatDoorTie
import Derived.ProofKit
import Derived.OpenShut
import Derived.LaidMore
import Derived.Lay
import Derived.PinnedBridge
import Derived.Lib.LaidU8T
import Derived.Stop.Joined
import Derived.SevenTiedAt
import Derived.Test.YtinajnkjfhbmkaaGreatDoorMayMath
import Derived.Deep.Slices
import Derived.Carry
import Derived.Test.YtinajnkjfhbmkaaGreatDoorChecksLaw
import Derived.ChangeOld
import Derived.ChangeMaps5
namespace Go.Proofs.YtinajnkjfhbmkaaGreatDoor
open Go Go.Proofs Go.RowKit Go.Shelf Go.Lib
open Go.ChangeShapes Go.WideShapes Go.ChangeAt

theorem own : ownKnob Tryz.prog.godebug = none := by kernel_rfl
theorem laidOut : laidOutB Tryz.prog = true := by kernel_rfl

def laid2 : List (String × DataW Unit) := Rows.treeChecksRow.laid

/-- The numbers of this dump's types and tables. -/
def tabRen : Ren := ⟨fun n => n, fun | 5 => 5 | 119 => 138 | 138 => 140 | 139 => 141 | n => n, fun | 3 => 1 | 4 => 2 | n => n⟩
theorem tabTypes : U8Types Tryz.prog tabRen := ⟨by kernel_rfl, by kernel_rfl, by kernel_rfl, by kernel_rfl⟩
theorem tabExtra : U8Extra Tryz.prog tabRen := ⟨by kernel_rfl, by kernel_rfl, by kernel_rfl, by kernel_rfl, by kernel_rfl, by kernel_rfl, by kernel_rfl⟩
theorem accept_eq : (Rows.laid_unicode_utf8_acceptRanges : DataW Unit) = acceptData := by kernel_rfl
theorem first_eq : Rows.laid_unicode_utf8_first = firstData := Pinned.utf8First_eq

theorem env_of_laid {W : World} (h : laidMetH Tryz.prog laid2 W) : Env W := by
  rw [MakeChecks.laidMetH_plain _ _ _ (by kernel_rfl)] at h
  have hT : Lib.Utf8Tabs 1 2 W := utf8Tabs_of_readsT (ρ := tabRen) tabTypes tabExtra (first_eq ▸ Lib.laidMet.reads h (.tail _ (.head _))) (accept_eq ▸ Lib.laidMet.reads h (.head _))
  exact ⟨hT, by have := block_lt_of_cell (hT.2 0 (by decide)).1; dsimp only at this; omega⟩
end Go.Proofs.YtinajnkjfhbmkaaGreatDoor

namespace Go.Proofs.YtinajnkjfhbmkaaGreatDoor
open Go Go.Proofs Go.RowKit Go.Deep

theorem cells3 : Tryz.prog.cellsOf 3 = 1 := by kernel_rfl
theorem cells2 : Tryz.prog.cellsOf 2 = 1 := by kernel_rfl
theorem cells4 : Tryz.prog.cellsOf 4 = 1 := by kernel_rfl
theorem cells9 : Tryz.prog.cellsOf 9 = 1 := by kernel_rfl
theorem cells30 : Tryz.prog.cellsOf 42 = 1 := by kernel_rfl
theorem cells31 : Tryz.prog.cellsOf 43 = 1 := by kernel_rfl
theorem cells29 : Tryz.prog.cellsOf 32 = 1 := by kernel_rfl
theorem cells22 : Tryz.prog.cellsOf 22 = 1 := by kernel_rfl
theorem cells23 : Tryz.prog.cellsOf 23 = 1 := by kernel_rfl
theorem cells24 : Tryz.prog.cellsOf 24 = 1 := by kernel_rfl
theorem cells33 : Tryz.prog.cellsOf 45 = 8 := by kernel_rfl
theorem cells47 : Tryz.prog.cellsOf 47 = 6 := by kernel_rfl
theorem cells52 : Tryz.prog.cellsOf 55 = 3 := by kernel_rfl
theorem cells26 : Tryz.prog.cellsOf 26 = 3 := by kernel_rfl

theorem len_cons {α : Type} {l : List α} {n : Nat} (h : l.length = n + 1) : ∃ a l', l = a :: l' ∧ l'.length = n := by
  cases l with
  | nil => simp at h
  | cons a l => exact ⟨a, l, rfl, by simpa using h⟩

section
variable {H : Type} {enc : TypeId × Value → H} {W : World} {base : Nat} {spare : Nat → Bool} {held : Bool}

theorem spot_of_cell {w : World} {a : Addr} {v : Value} (h : w.cell? a = some v) : a = ⟨a.block, a.off, none⟩ := by
  obtain ⟨b, o, s⟩ := a
  cases s with
  | none => rfl
  | some s =>
    exfalso
    unfold World.cell? at h
    split at h
    · simp at h
    · cases h

/-- A slice of elements of one cell, each of one kind. -/
theorem open_row1 {α : Type} {t e : TypeId} (f : α → Value) (ht : Tryz.prog.underlying t = some (.slice e)) (hc : Tryz.prog.cellsOf e = 1) (hf : ∀ n v x, DataW.trod enc Tryz.prog W base spare held n e [v] = some x → ∃ a, v = f a)
    {fuel : Nat} {c : Value} {x : DataW H × List MemPlace} (h : DataW.trod enc Tryz.prog W base spare held fuel t [c] = some x) :
    ∃ A cap, ∃ l : List α, c = .slice A l.length cap ∧ l.length ≤ maxLen ∧ SlAt (Lt W.heap.size) W A l.length (l.map f) := by
  rcases open_slice1 ht hc h with ⟨h0, _⟩ | ⟨a, len, cap, m, n, V, D, Pl, h0, hb, hl, hm, hmm, _, hx⟩
  · injection h0 with h0 _
    subst h0
    exact ⟨none, 0, [], rfl, by simp, SlAt.nil⟩
  · injection h0 with h0 _
    subst h0
    have hle : len ≤ m := by rw [hmm]; split <;> omega
    have key : ∀ k, k ≤ len → ∃ l : List α, l.length = k ∧ ∀ j u, (l.map f)[j]? = some u → W.cell? (a.add j) = some u := by
      intro k
      induction k with
      | zero => exact fun _ => ⟨[], rfl, fun j u hu => by simp at hu⟩
      | succ k ih =>
        intro hk
        obtain ⟨l, hll, hlc⟩ := ih (by omega)
        obtain ⟨h1, h2⟩ := hx k (by omega)
        obtain ⟨y, hy⟩ := hf _ _ _ h2
        refine ⟨l ++ [y], by simp [hll], fun j u hu => ?_⟩
        rw [List.map_append] at hu
        by_cases hj : j < l.length
        · rw [List.getElem?_append_left (by simpa using hj)] at hu
          exact hlc j u hu
        · rw [List.getElem?_append_right (by simp; omega)] at hu
          simp only [List.length_map, List.map_cons, List.map_nil] at hu
          have hj0 : j = k := by
            have := (List.getElem?_eq_some_iff.1 hu).1
            simp at this
            omega
          subst hj0
          rw [hll, Nat.sub_self] at hu
          simp only [List.getElem?_cons_zero, Option.some.injEq] at hu
          rw [h1, hy, hu]
    obtain ⟨l, hll, hlc⟩ := key len (Nat.le_refl _)
    subst hll
    refine ⟨some a, cap, l, rfl, by omega, by simp, fun hn => ?_⟩
    have h0 := hlc 0 (f l[0]) (by simp [hn])
    have hsp := spot_of_cell (hx 0 (by omega)).1
    have e0 : a.add 0 = a := rfl
    rw [e0] at h0 hsp
    obtain ⟨b, off, s⟩ := a
    simp only [Addr.mk.injEq, true_and] at hsp
    subst hsp
    refine ⟨b, off, rfl, block_lt_of_cell h0, fun j u hu => ?_⟩
    have := hlc j u hu
    unfold Addr.add at this
    split at this
    · rename_i hj; subst hj; exact this
    · exact this

theorem open_ints29 {fuel : Nat} {c : Value} {x : DataW H × List MemPlace} (h : DataW.trod enc Tryz.prog W base spare held fuel 32 [c] = some x) :
    ∃ A cap, ∃ l : List Int, c = .slice A l.length cap ∧ l.length ≤ maxLen ∧ SlAt (Lt W.heap.size) W A l.length (l.map iv) :=
  open_row1 iv Tryz.underlying32 cells3 (fun n v x hx => by
    obtain ⟨k, hk, _⟩ := DataW.trod_int Tryz.underlying3 hx
    injection hk with hk _
    exact ⟨k, hk⟩) h
theorem open_strs31 {fuel : Nat} {c : Value} {x : DataW H × List MemPlace} (h : DataW.trod enc Tryz.prog W base spare held fuel 43 [c] = some x) :
    ∃ A cap, ∃ l : List ByteArray, c = .slice A l.length cap ∧ l.length ≤ maxLen ∧ SlAt (Lt W.heap.size) W A l.length (l.map .string) :=
  open_row1 .string Tryz.underlying43 cells9 (fun n v x hx => by
    obtain ⟨k, hk, _⟩ := DataW.trod_string Tryz.underlying9 hx
    injection hk with hk _
    exact ⟨k, hk⟩) h

theorem fld {fs : Array Field} {xs : List (DataW H × List MemPlace)} {n : Nat} {cs : List Value} (hf : ∀ (i : Nat) (f : Field), fs[i]? = some f → DataW.trod enc Tryz.prog W base spare held n f.type ((cs.drop f.offset).take (Tryz.prog.cellsOf f.type)) = xs[i]?)
    (i T o : Nat) {f : Field} (h1 : fs[i]? = some f) (h2 : f.type = T) (h3 : f.offset = o) (hc : Tryz.prog.cellsOf T = 1) {y : DataW H × List MemPlace} (hy : xs[i]? = some y) : DataW.trod enc Tryz.prog W base spare held n T ((cs.drop o).take 1) = some y := by
  have := hf i f h1
  rw [h2, h3, hc] at this
  exact this.trans hy

theorem open_term {fuel : Nat} {cs : List Value} {x : DataW H × List MemPlace} (h : DataW.trod enc Tryz.prog W base spare held fuel 45 cs = some x) : ∃ t p, TermOk (Lt W.heap.size) W t p ∧ t.int ≤ 9223372036854775807 ∧ cs = termCells t p := by
  obtain ⟨xs, n, _, _, hl, hxl, hf⟩ := DataW.trod_struct Tryz.underlying45 h
  rw [cells33] at hl
  obtain ⟨v0, cs0, rfl, hh0⟩ := len_cons hl
  obtain ⟨v1, cs1, rfl, hh1⟩ := len_cons hh0
  obtain ⟨v2, cs2, rfl, hh2⟩ := len_cons hh1
  obtain ⟨v3, cs3, rfl, hh3⟩ := len_cons hh2
  obtain ⟨v4, cs4, rfl, hh4⟩ := len_cons hh3
  obtain ⟨v5, cs5, rfl, hh5⟩ := len_cons hh4
  obtain ⟨v6, cs6, rfl, hh6⟩ := len_cons hh5
  obtain ⟨v7, cs7, rfl, hh7⟩ := len_cons hh6
  obtain rfl : cs7 = [] := List.length_eq_zero_iff.1 hh7
  have get : ∀ i, i < 8 → ∃ y, xs[i]? = some y := fun i hi => ⟨xs[i]'(by rw [hxl]; exact hi), List.getElem?_eq_getElem _⟩
  obtain ⟨y0, h0⟩ := get 0 (by omega)
  obtain ⟨y1, h1⟩ := get 1 (by omega)
  obtain ⟨y2, h2⟩ := get 2 (by omega)
  obtain ⟨y3, h3⟩ := get 3 (by omega)
  obtain ⟨y4, h4⟩ := get 4 (by omega)
  obtain ⟨y5, h5⟩ := get 5 (by omega)
  obtain ⟨y6, h6⟩ := get 6 (by omega)
  obtain ⟨y7, h7⟩ := get 7 (by omega)
  have g0 := fld hf 0 3 0 rfl rfl rfl cells3 h0
  have g1 := fld hf 1 3 1 rfl rfl rfl cells3 h1
  have g2 := fld hf 2 9 2 rfl rfl rfl cells9 h2
  have g3 := fld hf 3 2 3 rfl rfl rfl cells2 h3
  have g4 := fld hf 4 42 4 rfl rfl rfl cells30 h4
  have g5 := fld hf 5 43 5 rfl rfl rfl cells31 h5
  have g6 := fld hf 6 32 6 rfl rfl rfl cells29 h6
  have g7 := fld hf 7 32 7 rfl rfl rfl cells29 h7
  simp only [List.drop_zero, List.drop_succ_cons, List.take_succ_cons, List.take_zero] at g0 g1 g2 g3 g4 g5 g6 g7
  obtain ⟨k0, e0, _⟩ := DataW.trod_int Tryz.underlying3 g0
  obtain ⟨k1, e1, _⟩ := DataW.trod_int Tryz.underlying3 g1
  obtain ⟨k2, e2, _⟩ := DataW.trod_string Tryz.underlying9 g2
  obtain ⟨k3, e3, _, w3⟩ := DataW.trod_int Tryz.underlying2 g3
  obtain ⟨k4, e4, _, w4⟩ := DataW.trod_int Tryz.underlying42 g4
  obtain ⟨a5, c5, l5, e5, _, s5⟩ := open_strs31 g5
  obtain ⟨a6, c6, l6, e6, _, s6⟩ := open_ints29 g6
  obtain ⟨a7, c7, l7, e7, _, s7⟩ := open_ints29 g7
  have hk3 : k3 ≤ 9223372036854775807 := by
    have h := (Bool.and_eq_true _ _ ▸ w3 : _ ∧ _).2
    have h' := of_decide_eq_true h
    simpa [IntKind.max, IntKind.bits, IntKind.signed] using h'
  have hk4 : 0 ≤ k4 := by
    have h := (Bool.and_eq_true _ _ ▸ w4 : _ ∧ _).1
    have h' := of_decide_eq_true h
    simpa [IntKind.min, IntKind.signed] using h'
  obtain ⟨b4, rfl⟩ : ∃ b4 : Nat, k4 = (b4 : Int) := ⟨k4.toNat, by omega⟩
  refine ⟨⟨k0, k1, k2, k3, b4, l5, l6, l7⟩, ⟨a5, c5, a6, c6, a7, c7⟩, ⟨s5, s6, s7⟩, hk3, ?_⟩
  unfold termCells
  simp only [List.cons.injEq, and_true] at e0 e1 e2 e3 e4 ⊢
  exact ⟨e0, e1, e2, e3, e4, e5, e6, e7⟩

theorem open_typ {fuel : Nat} {cs : List Value} {x : DataW H × List MemPlace} (h : DataW.trod enc Tryz.prog W base spare held fuel 47 cs = some x) : ∃ t p, TypOk (Lt W.heap.size) W t p ∧ cs = typCells t p := by
  obtain ⟨xs, n, _, _, hl, hxl, hf⟩ := DataW.trod_struct Tryz.underlying47 h
  rw [cells47] at hl
  obtain ⟨v0, cs0, rfl, hh0⟩ := len_cons hl
  obtain ⟨v1, cs1, rfl, hh1⟩ := len_cons hh0
  obtain ⟨v2, cs2, rfl, hh2⟩ := len_cons hh1
  obtain ⟨v3, cs3, rfl, hh3⟩ := len_cons hh2
  obtain ⟨v4, cs4, rfl, hh4⟩ := len_cons hh3
  obtain ⟨v5, cs5, rfl, hh5⟩ := len_cons hh4
  obtain rfl : cs5 = [] := List.length_eq_zero_iff.1 hh5
  have get : ∀ i, i < 6 → ∃ y, xs[i]? = some y := fun i hi => ⟨xs[i]'(by rw [hxl]; exact hi), List.getElem?_eq_getElem _⟩
  obtain ⟨y0, h0⟩ := get 0 (by omega)
  obtain ⟨y1, h1⟩ := get 1 (by omega)
  obtain ⟨y2, h2⟩ := get 2 (by omega)
  obtain ⟨y3, h3⟩ := get 3 (by omega)
  obtain ⟨y4, h4⟩ := get 4 (by omega)
  obtain ⟨y5, h5⟩ := get 5 (by omega)
  have g0 := fld hf 0 3 0 rfl rfl rfl cells3 h0
  have g1 := fld hf 1 3 1 rfl rfl rfl cells3 h1
  have g2 := fld hf 2 9 2 rfl rfl rfl cells9 h2
  have g3 := fld hf 3 43 3 rfl rfl rfl cells31 h3
  have g4 := fld hf 4 32 4 rfl rfl rfl cells29 h4
  have g5 := fld hf 5 4 5 rfl rfl rfl cells4 h5
  simp only [List.drop_zero, List.drop_succ_cons, List.take_succ_cons, List.take_zero] at g0 g1 g2 g3 g4 g5
  obtain ⟨k0, e0, _⟩ := DataW.trod_int Tryz.underlying3 g0
  obtain ⟨k1, e1, _⟩ := DataW.trod_int Tryz.underlying3 g1
  obtain ⟨k2, e2, _⟩ := DataW.trod_string Tryz.underlying9 g2
  obtain ⟨a3, c3, l3, e3, _, s3⟩ := open_strs31 g3
  obtain ⟨a4, c4, l4, e4, _, s4⟩ := open_ints29 g4
  obtain ⟨k5, e5, _⟩ := DataW.trod_bool Tryz.underlying4 g5
  refine ⟨⟨k0, k1, k2, l3, l4, k5⟩, ⟨a3, c3, a4, c4⟩, ⟨s3, s4⟩, ?_⟩
  unfold typCells
  simp only [List.cons.injEq, and_true] at e0 e1 e2 e5 ⊢
  exact ⟨e0, e1, e2, e3, e4, e5⟩

theorem open_ali {fuel : Nat} {cs : List Value} {x : DataW H × List MemPlace} (h : DataW.trod enc Tryz.prog W base spare held fuel 55 cs = some x) : ∃ t, cs = aliCells t := by
  obtain ⟨xs, n, _, _, hl, hxl, hf⟩ := DataW.trod_struct Tryz.underlying55 h
  rw [cells52] at hl
  obtain ⟨v0, cs0, rfl, hh0⟩ := len_cons hl
  obtain ⟨v1, cs1, rfl, hh1⟩ := len_cons hh0
  obtain ⟨v2, cs2, rfl, hh2⟩ := len_cons hh1
  obtain rfl : cs2 = [] := List.length_eq_zero_iff.1 hh2
  have get : ∀ i, i < 3 → ∃ y, xs[i]? = some y := fun i hi => ⟨xs[i]'(by rw [hxl]; exact hi), List.getElem?_eq_getElem _⟩
  obtain ⟨y0, h0⟩ := get 0 (by omega)
  obtain ⟨y1, h1⟩ := get 1 (by omega)
  obtain ⟨y2, h2⟩ := get 2 (by omega)
  have g0 := fld hf 0 9 0 rfl rfl rfl cells9 h0
  have g1 := fld hf 1 3 1 rfl rfl rfl cells3 h1
  have g2 := fld hf 2 3 2 rfl rfl rfl cells3 h2
  simp only [List.drop_zero, List.drop_succ_cons, List.take_succ_cons, List.take_zero] at g0 g1 g2
  obtain ⟨k0, e0, _⟩ := DataW.trod_string Tryz.underlying9 g0
  obtain ⟨k1, e1, _⟩ := DataW.trod_int Tryz.underlying3 g1
  obtain ⟨k2, e2, _⟩ := DataW.trod_int Tryz.underlying3 g2
  refine ⟨⟨k0, k1, k2⟩, ?_⟩
  unfold aliCells
  simp only [List.cons.injEq, and_true] at e0 e1 e2 ⊢
  exact ⟨e0, e1, e2⟩

/-- A slice of structs, each of one kind. -/
theorem open_rows {α : Type} {t e : TypeId} (s : Nat) (hs : 0 < s) (Q : α → List Value → Prop) (hlen : ∀ a cs, Q a cs → cs.length = s) (ht : Tryz.prog.underlying t = some (.slice e)) (hc : Tryz.prog.cellsOf e = s)
    (hf : ∀ n cs x, DataW.trod enc Tryz.prog W base spare held n e cs = some x → ∃ a, Q a cs)
    {fuel : Nat} {c : Value} {x : DataW H × List MemPlace} (h : DataW.trod enc Tryz.prog W base spare held fuel t [c] = some x) :
    ∃ A cap, ∃ l : List α, c = .slice A l.length cap ∧ l.length ≤ maxLen ∧ (0 < l.length → ∃ b off, A = some ⟨b, off, none⟩ ∧ b < W.heap.size ∧ ∀ i a, l[i]? = some a → ∃ cs, Q a cs ∧ ∀ j u, cs[j]? = some u → W.cell? ⟨b, off + i * s + j, none⟩ = some u) := by
  rcases open_slice ht h with ⟨h0, _⟩ | ⟨a, len, cap, m, n, D, Pl, h0, hb, hl, hm, hmm, _, hx⟩
  · injection h0 with h0 _
    subst h0
    exact ⟨none, 0, [], rfl, by simp, fun h => absurd h (by simp)⟩
  · injection h0 with h0 _
    subst h0
    rw [hc] at hx
    have hle : len ≤ m := by rw [hmm]; split <;> omega
    have one : ∀ k, k < len → ∃ y cs, Q y cs ∧ ∀ j u, cs[j]? = some u → W.cell? ((a.add (k * s)).add j) = some u := fun k hk => by
      obtain ⟨cs, h1, h2⟩ := hx k (by omega)
      obtain ⟨y, hy⟩ := hf _ _ _ h2
      obtain ⟨_, hcl, hcc⟩ := World.cells?_some h1
      refine ⟨y, cs, hy, fun j u hu => ?_⟩
      have hj := (List.getElem?_eq_some_iff.1 hu).1
      rw [hcc j (by omega), hu]
    have key : ∀ k, k ≤ len → ∃ l : List α, l.length = k ∧ ∀ i y, l[i]? = some y → ∃ cs, Q y cs ∧ ∀ j u, cs[j]? = some u → W.cell? ((a.add (i * s)).add j) = some u := by
      intro k
      induction k with
      | zero => exact fun _ => ⟨[], rfl, fun j u hu => by simp at hu⟩
      | succ k ih =>
        intro hk
        obtain ⟨l, hll, hlc⟩ := ih (by omega)
        obtain ⟨y, cs, hy, hcs⟩ := one k (by omega)
        refine ⟨l ++ [y], by simp [hll], fun i z hz => ?_⟩
        by_cases hj : i < l.length
        · rw [List.getElem?_append_left hj] at hz
          exact hlc i z hz
        · rw [List.getElem?_append_right (by omega)] at hz
          have hj0 : i = k := by
            have := (List.getElem?_eq_some_iff.1 hz).1
            simp at this
            omega
          subst hj0
          rw [hll, Nat.sub_self] at hz
          simp only [List.getElem?_cons_zero, Option.some.injEq] at hz
          subst hz
          exact ⟨cs, hy, hcs⟩
    obtain ⟨l, hll, hlc⟩ := key len (Nat.le_refl _)
    subst hll
    refine ⟨some a, cap, l, rfl, by omega, fun hn => ?_⟩
    obtain ⟨cs, hQ, hcs⟩ := hlc 0 l[0] (by simp [hn])
    have hcl := hlen _ _ hQ
    have h0 := hcs 0 cs[0] (by simp [hcl, hs])
    have e0 : (a.add (0 * s)).add 0 = a := by rw [Nat.zero_mul]; rfl
    rw [e0] at h0
    have hsp := spot_of_cell h0
    obtain ⟨b, off, sp⟩ := a
    simp only [Addr.mk.injEq, true_and] at hsp
    subst hsp
    refine ⟨b, off, rfl, block_lt_of_cell h0, fun i y hy => ?_⟩
    obtain ⟨cs, hQ, hcs⟩ := hlc i y hy
    refine ⟨cs, hQ, fun j u hu => ?_⟩
    have := hcs j u hu
    rw [add_add] at this
    unfold Addr.add at this
    split at this
    · rename_i hj
      rw [show off + i * s + j = off by omega]
      exact this
    · rw [show off + i * s + j = off + (i * s + j) by omega]
      exact this

set_option maxRecDepth 100000 in
/-- A TREE THAT CAME IN. -/
theorem open_tree26 {r : Reach} {b0 : Nat} {v : Value} {d : DataW H} {ps : List MemPlace} (hval : Value.okWide Tryz.prog W r b0 26 v) (h : DataW.Trod enc Tryz.prog W base spare held 26 v d ps) :
    ∃ t p, v = treeV t p ∧ TreeAt (Lt W.heap.size) W t p ∧ t.nodes.length ≤ maxLen ∧ t.types.length ≤ maxLen ∧ t.aliases.length ≤ maxLen ∧ ∀ x ∈ t.nodes, x.int ≤ 9223372036854775807 := by
  unfold Value.okWide at hval
  rw [Tryz.underlying26] at hval
  obtain ⟨cs, rfl, hsz, _⟩ := hval
  obtain ⟨fuel, h⟩ := h
  obtain ⟨xs, n, _, _, hl, hxl, hf⟩ := DataW.trod_struct Tryz.underlying26 h
  rw [cells26] at hsz
  obtain ⟨l⟩ := cs
  have hsz' : l.length = 3 := hsz
  obtain ⟨v0, cs0, rfl, hh0⟩ := len_cons hsz'
  obtain ⟨v1, cs1, rfl, hh1⟩ := len_cons hh0
  obtain ⟨v2, cs2, rfl, hh2⟩ := len_cons hh1
  obtain rfl : cs2 = [] := List.length_eq_zero_iff.1 hh2
  have hcs : ((Value.agg (Array.mk [v0, v1, v2])).cells.toList) = [v0, v1, v2] := rfl
  rw [hcs] at hf
  have get : ∀ i, i < 3 → ∃ y, xs[i]? = some y := fun i hi => ⟨xs[i]'(by rw [hxl]; exact hi), List.getElem?_eq_getElem _⟩
  obtain ⟨y0, h0⟩ := get 0 (by omega)
  obtain ⟨y1, h1⟩ := get 1 (by omega)
  obtain ⟨y2, h2⟩ := get 2 (by omega)
  have g0 := fld hf 0 22 0 rfl rfl rfl cells22 h0
  have g1 := fld hf 1 23 1 rfl rfl rfl cells23 h1
  have g2 := fld hf 2 24 2 rfl rfl rfl cells24 h2
  simp only [List.drop_zero, List.drop_succ_cons, List.take_succ_cons, List.take_zero] at g0 g1 g2
  obtain ⟨A1, c1, l1, rfl, m1, t1⟩ := open_rows 8 (by omega) (fun (t : TermD) cs => ∃ p, TermOk (Lt W.heap.size) W t p ∧ t.int ≤ 9223372036854775807 ∧ cs = termCells t p) (fun a cs h => by obtain ⟨p, _, _, rfl⟩ := h; rfl) Tryz.underlying22 cells33 (fun n cs x hx => open_term hx) g0
  obtain ⟨A2, c2, l2, rfl, m2, t2⟩ := open_rows 6 (by omega) (fun (t : TypD) cs => ∃ p, TypOk (Lt W.heap.size) W t p ∧ cs = typCells t p) (fun a cs h => by obtain ⟨p, _, rfl⟩ := h; rfl) Tryz.underlying23 cells47 (fun n cs x hx => open_typ hx) g1
  obtain ⟨A3, c3, l3, rfl, m3, t3⟩ := open_rows 3 (by omega) (fun (t : AliD) cs => cs = aliCells t) (fun a cs h => by subst h; rfl) Tryz.underlying24 cells52 (fun n cs x hx => open_ali hx) g2
  refine ⟨⟨l1, l2, l3⟩, ⟨A1, c1, A2, c2, A3, c3⟩, rfl, ⟨fun hn => ?_, fun hn => ?_, fun hn => ?_⟩, m1, m2, m3, fun x hx => by
    obtain ⟨i, hi, rfl⟩ := List.getElem_of_mem hx
    obtain ⟨b, off, e, hb, hc⟩ := t1 (by dsimp only at hi; omega)
    obtain ⟨cs, ⟨p, hp, hk, rfl⟩, _⟩ := hc i _ (List.getElem?_eq_getElem hi)
    exact hk⟩
  · obtain ⟨b, off, e, hb, hc⟩ := t1 hn
    refine ⟨b, off, e, hb, fun i t ht => ?_⟩
    obtain ⟨cs, ⟨p, hp, _, rfl⟩, hcs⟩ := hc i t ht
    exact ⟨p, hp, hcs⟩
  · obtain ⟨b, off, e, hb, hc⟩ := t2 hn
    refine ⟨b, off, e, hb, fun i t ht => ?_⟩
    obtain ⟨cs, ⟨p, hp, rfl⟩, hcs⟩ := hc i t ht
    exact ⟨p, hp, hcs⟩
  · obtain ⟨b, off, e, hb, hc⟩ := t3 hn
    refine ⟨b, off, e, hb, fun i t ht j u hu => ?_⟩
    obtain ⟨cs, rfl, hcs⟩ := hc i t ht
    exact hcs j u hu
end
end Go.Proofs.YtinajnkjfhbmkaaGreatDoor

namespace Go.Proofs.YtinajnkjfhbmkaaGreatDoor
open Go Go.Proofs Go.RowKit Go.Shelf Go.Lib
open Go.ChangeShapes Go.WideShapes Go.ChangeAt Go.ChangeMaps

set_option maxRecDepth 100000 in
theorem treeChecks_lifted (os : Os) (started : os.Started) (H : Type) (enc : TypeId × Value → H) :
    ReturnsInHanded {} Tryz.checked os 3 .any (fun w args => (Rows.treeChecksSpec.pre enc Tryz.prog Tryz.f3 [] false w args ∧ laidMetH Tryz.prog laid2 w) ∧ sizedMet enc Tryz.prog Tryz.f3 (OpenSpec.ofChange Rows.treeChecksSpec) false w args)
      (Rows.treeChecksSpec.post enc Tryz.prog Tryz.f3 false true false false) := by
  refine returnsInHanded_of_change_and (C := Tryz.checked) (X := fun w _ => laidMetH Tryz.prog laid2 w) (fun _ _ _ hh h => h.of_heap hh) own started (by kernel_rfl) Tryz.func3
    (ChangeSpec.witness_shaped (enc := enc) (C := Tryz.checked) (os := os) (X := fun w _ => laidMetH Tryz.prog laid2 w) false (World.laidAll Tryz.prog os laid2) #[.agg #[.slice none 0 0, .slice none 0 0, .slice none 0 0], .int .i64 0] 8 (World.laidAll_os _ _ _)
      (World.shaped_of_ZipB (by kernel_rfl) (by kernel_rfl)) (by kernel_rfl) (by kernel_rfl) (by kernel_rfl)
      (by rw [MakeChecks.laidMetH_plain _ _ _ (by kernel_rfl)]; exact laidMet_laidAll _ (by kernel_rfl) (by kernel_rfl))) ?_
  intro W base args ds gs before hval0 hW _ _ hL _
  have hval : ∀ (j : Nat) t v, Tryz.f3.params[j]? = some t → args[j]? = some v → Value.okWide Tryz.prog W .any base t v := hval0
  have hW' := hW
  obtain ⟨p, q, hA0, hV, rfl, hfz, hnd⟩ := hW
  have hA : DataW.TrodAll enc Tryz.prog W 0 (fun _ => true) true Tryz.f3.params.toList args.toList ds p := hA0
  rw [Tryz.params3] at hA hval
  obtain ⟨v0, vs0, d0, ds0, p0, q0, hargs, rfl, rfl, h0, r0⟩ := trodAll_cons hA
  obtain ⟨v1, vs1, d1, ds1, p1, q1, rfl, rfl, rfl, h1, r1⟩ := trodAll_cons r0
  obtain ⟨rfl, rfl, rfl⟩ := trodAll_nil r1
  obtain rfl : args = #[v0, v1] := by cases args; simp_all
  obtain ⟨rfl, rfl⟩ := trodVars_none hV
  have k0 := h0
  have lt0 : ∀ x ∈ p0, x.block < W.heap.size := by obtain ⟨m, hm⟩ := k0; exact DataW.trod_lt m _ _ _ hm
  obtain ⟨t, q6, rfl, hT, m1, m2, m3, mI⟩ := open_tree26 (hval 0 26 v0 rfl rfl) h0
  obtain ⟨n1, rfl, rfl, rfl, w1⟩ := open_int Tryz.underlying3 (hval 1 3 v1 rfl rfl) h1
  clear hA0 hval0
  have hE := env_of_laid hL
  refine (checks_any t q6 n1 W hE hT mI m1 m2 m3).mono fun e W' ⟨he, bel⟩ => ?_
  subst he
  exact ⟨_, rfl, _, _, _, [], _, [], hW', trodAll_mk1 (shut_bool Tryz.underlying4 _), (trodAll_cons_mk (Below.trod laidOut (by kernel_rfl) (of_decide_eq_true (by kernel_rfl)) k0 bel lt0) (trodAll_cons_mk (shut_int Tryz.underlying3 w1) trodAll_mk0)), rfl, bel.frame _, fun h => by cases h⟩

theorem treeChecks_row : Rows.TreeChecksSaid :=
  OpenClaim.holds_of_wide 3 Tryz.f3 rfl rfl rfl rfl rfl rfl rfl ⟨rfl, rfl, rfl, rfl, rfl⟩ rfl rfl rfl rfl rfl (by kernel_rfl) Tryz.func3 (by kernel_rfl)
    (of_decide_eq_true (by kernel_rfl)) (by unfold Func.isWrapper; first | (rw [if_pos (by decide +kernel)]; kernel_rfl) | (rw [if_neg (by decide +kernel)]; exact ⟨rfl, rfl⟩))
    (fun os started H enc _ => treeChecks_lifted os started H enc)

theorem treeChecks_holds : Rows.TreeChecksCardSaid :=
  Claim7.holds_tied_plain_at .later [] [.data, .pinned] true (true, "c8d744567cab053a081e8c151a1e8274c0615e6792750cf08c77c1184abda979") false
    treeChecks_row (fun _ h => by cases h) (by kernel_rfl) (fun _ h => by cases h) treeChecks_row_tie rfl ⟨rfl, rfl⟩ (by kernel_rfl) rfl
    (fun f fn hf hfn => by
      obtain rfl : f = 3 := Option.some.inj ((show Tryz.prog.funcNamed Rows.treeChecksRow.func = some 3 by kernel_rfl).symm.trans hf) |>.symm
      obtain rfl : fn = Tryz.f3 := (Option.some.inj (Tryz.func3.symm.trans hfn)).symm
      exact ⟨by kernel_rfl, fun j t ht => by
        rw [Tryz.params3] at ht
        have hm : t ∈ [26, 3] := by simpa using Array.mem_of_getElem? ht
        have hall : ([26, 3].all fun u => !Tryz.prog.wantsStandIn u) = true := by kernel_rfl
        exact (show Tryz.prog.wantsStandIn t = false by simpa using List.all_eq_true.1 hall t hm)⟩)
    (by kernel_rfl)
end Go.Proofs.YtinajnkjfhbmkaaGreatDoor
