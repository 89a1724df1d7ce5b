/- The law ScopeChecks, at every tree: what Check finds, and which names are free. -/
import Derived.Test.YtjbdgjbmbohfmaaGreatDoorK38
import Derived.Test.YtjbdgjbmbohfmaaGreatDoorK51
import Derived.Deep.Slices
import Derived.OpenShut
import Derived.OrdersHeld
import Derived.Deep.RegionHeld3
import Derived.Deep.DrawnRows
import Derived.Deep.QuietTactic
import Derived.BigQuiet
import Derived.LoopTactic
import Derived.Deep.RegionLaw
import Derived.Deep.Cut
import Derived.Deep.CutRange
import Derived.Deep.CutBlock
namespace Go.Proofs.YtjbdgjbmbohfmaaGreatDoor
open Go Go.Proofs Go.RowKit Go.Deep
theorem cells3 : Tryz.prog.cellsOf 3 = 1 := by kernel_rfl
theorem cells2 : Tryz.prog.cellsOf 2 = 1 := by kernel_rfl
theorem cells4 : Tryz.prog.cellsOf 4 = 1 := by kernel_rfl
theorem cells9 : Tryz.prog.cellsOf 9 = 1 := by kernel_rfl
theorem cells30 : Tryz.prog.cellsOf 58 = 1 := by kernel_rfl
theorem cells31 : Tryz.prog.cellsOf 48 = 1 := by kernel_rfl
theorem cells29 : Tryz.prog.cellsOf 49 = 1 := by kernel_rfl
theorem cells22 : Tryz.prog.cellsOf 24 = 1 := by kernel_rfl
theorem cells23 : Tryz.prog.cellsOf 25 = 1 := by kernel_rfl
theorem cells24 : Tryz.prog.cellsOf 26 = 1 := by kernel_rfl
theorem cells33 : Tryz.prog.cellsOf 60 = 8 := by kernel_rfl
theorem cells47 : Tryz.prog.cellsOf 51 = 6 := by kernel_rfl
theorem cells52 : Tryz.prog.cellsOf 77 = 3 := by kernel_rfl
theorem cells26 : Tryz.prog.cellsOf 28 = 3 := by kernel_rfl

theorem len_cons {α : Type} {l : List α} {n : Nat} (h : l.length = n + 1) : ∃ a l', l = a :: l' ∧ l'.length = n := by
 cases l with
 | nil => simp at h
 | cons a l => exact ⟨a, l, rfl, by simpa using h⟩

section
variable {H : Type} {enc : TypeId × Value → H} {W : World} {base : Nat} {spare : Nat → Bool} {held : Bool}

theorem spot_of_cell {w : World} {a : Addr} {v : Value} (h : w.cell? a = some v) : a = ⟨a.block, a.off, none⟩ := by
 obtain ⟨b, o, s⟩ := a
 cases s with
 | none => rfl
 | some s =>
  exfalso
  unfold World.cell? at h
  split at h
  ·simp at h
  ·cases h

/-- A slice of elements of one cell, each of one kind. -/
theorem open_row1 {α : Type} {t e : TypeId} (f : α → Value) (ht : Tryz.prog.underlying t = some (.slice e)) (hc : Tryz.prog.cellsOf e = 1) (hf : ∀ n v x, DataW.trod enc Tryz.prog W base spare held n e [v] = some x → ∃ a, v = f a)
 {fuel : Nat} {c : Value} {x : DataW H × List MemPlace} (h : DataW.trod enc Tryz.prog W base spare held fuel t [c] = some x) :
 ∃ A cap, ∃ l : List α, c = .slice A l.length cap ∧ l.length ≤ maxLen ∧ SlAt (Lt W.heap.size) W A l.length (l.map f) := by
 rcases open_slice1 ht hc h with ⟨h0, _⟩ | ⟨a, len, cap, m, n, V, D, Pl, h0, hb, hl, hm, hmm, _, hx⟩
 ·injection h0 with h0 _
  subst h0
  exact ⟨none, 0, [], rfl, by simp, SlAt.nil⟩
 ·injection h0 with h0 _
  subst h0
  have hle : len ≤ m := by rw [hmm]; split <;> omega
  have key : ∀ k, k ≤ len → ∃ l : List α, l.length = k ∧ ∀ j u, (l.map f)[j]? = some u → W.cell? (a.add j) = some u := by
   intro k
   induction k with
   | zero => exact fun _ => ⟨[], rfl, fun j u hu => by simp at hu⟩
   | succ k ih =>
    intro hk
    obtain ⟨l, hll, hlc⟩ := ih (by omega)
    obtain ⟨h1, h2⟩ := hx k (by omega)
    obtain ⟨y, hy⟩ := hf _ _ _ h2
    refine ⟨l ++ [y], by simp [hll], fun j u hu => ?_⟩
    rw [List.map_append] at hu
    by_cases hj : j < l.length
    ·rw [List.getElem?_append_left (by simpa using hj)] at hu
     exact hlc j u hu
    ·rw [List.getElem?_append_right (by simp; omega)] at hu
     simp only [List.length_map, List.map_cons, List.map_nil] at hu
     have hj0 : j = k := by
      have := (List.getElem?_eq_some_iff.1 hu).1
      simp at this
      omega
     subst hj0
     rw [hll, Nat.sub_self] at hu
     simp only [List.getElem?_cons_zero, Option.some.injEq] at hu
     rw [h1, hy, hu]
  obtain ⟨l, hll, hlc⟩ := key len (Nat.le_refl _)
  subst hll
  refine ⟨some a, cap, l, rfl, by omega, by simp, fun hn => ?_⟩
  have h0 := hlc 0 (f l[0]) (by simp [hn])
  have hsp := spot_of_cell (hx 0 (by omega)).1
  have e0 : a.add 0 = a := rfl
  rw [e0] at h0 hsp
  obtain ⟨b, off, s⟩ := a
  simp only [Addr.mk.injEq, true_and] at hsp
  subst hsp
  refine ⟨b, off, rfl, block_lt_of_cell h0, fun j u hu => ?_⟩
  have := hlc j u hu
  unfold Addr.add at this
  split at this
  ·rename_i hj; subst hj; exact this
  ·exact this

theorem open_ints29 {fuel : Nat} {c : Value} {x : DataW H × List MemPlace} (h : DataW.trod enc Tryz.prog W base spare held fuel 49 [c] = some x) :
 ∃ A cap, ∃ l : List Int, c = .slice A l.length cap ∧ l.length ≤ maxLen ∧ SlAt (Lt W.heap.size) W A l.length (l.map iv) :=
 open_row1 iv Tryz.underlying49 cells3 (fun n v x hx => by
  obtain ⟨k, hk, _⟩ := DataW.trod_int Tryz.underlying3 hx
  injection hk with hk _
  exact ⟨k, hk⟩) h
theorem open_strs31 {fuel : Nat} {c : Value} {x : DataW H × List MemPlace} (h : DataW.trod enc Tryz.prog W base spare held fuel 48 [c] = some x) :
 ∃ A cap, ∃ l : List ByteArray, c = .slice A l.length cap ∧ l.length ≤ maxLen ∧ SlAt (Lt W.heap.size) W A l.length (l.map .string) :=
 open_row1 .string Tryz.underlying48 cells9 (fun n v x hx => by
  obtain ⟨k, hk, _⟩ := DataW.trod_string Tryz.underlying9 hx
  injection hk with hk _
  exact ⟨k, hk⟩) h

theorem fld {fs : Array Field} {xs : List (DataW H × List MemPlace)} {n : Nat} {cs : List Value} (hf : ∀ (i : Nat) (f : Field), fs[i]? = some f → DataW.trod enc Tryz.prog W base spare held n f.type ((cs.drop f.offset).take (Tryz.prog.cellsOf f.type)) = xs[i]?)
 (i T o : Nat) {f : Field} (h1 : fs[i]? = some f) (h2 : f.type = T) (h3 : f.offset = o) (hc : Tryz.prog.cellsOf T = 1) {y : DataW H × List MemPlace} (hy : xs[i]? = some y) : DataW.trod enc Tryz.prog W base spare held n T ((cs.drop o).take 1) = some y := by
 have := hf i f h1
 rw [h2, h3, hc] at this
 exact this.trans hy

theorem open_term {fuel : Nat} {cs : List Value} {x : DataW H × List MemPlace} (h : DataW.trod enc Tryz.prog W base spare held fuel 60 cs = some x) : ∃ t p, TermOk (Lt W.heap.size) W t p ∧ t.int ≤ 9223372036854775807 ∧ cs = termCells t p := by
 obtain ⟨xs, n, _, _, hl, hxl, hf⟩ := DataW.trod_struct Tryz.underlying60 h
 rw [cells33] at hl
 obtain ⟨v0, cs0, rfl, hh0⟩ := len_cons hl
 obtain ⟨v1, cs1, rfl, hh1⟩ := len_cons hh0
 obtain ⟨v2, cs2, rfl, hh2⟩ := len_cons hh1
 obtain ⟨v3, cs3, rfl, hh3⟩ := len_cons hh2
 obtain ⟨v4, cs4, rfl, hh4⟩ := len_cons hh3
 obtain ⟨v5, cs5, rfl, hh5⟩ := len_cons hh4
 obtain ⟨v6, cs6, rfl, hh6⟩ := len_cons hh5
 obtain ⟨v7, cs7, rfl, hh7⟩ := len_cons hh6
 obtain rfl : cs7 = [] := List.length_eq_zero_iff.1 hh7
 have get : ∀ i, i < 8 → ∃ y, xs[i]? = some y := fun i hi => ⟨xs[i]'(by rw [hxl]; exact hi), List.getElem?_eq_getElem _⟩
 obtain ⟨y0, h0⟩ := get 0 (by omega)
 obtain ⟨y1, h1⟩ := get 1 (by omega)
 obtain ⟨y2, h2⟩ := get 2 (by omega)
 obtain ⟨y3, h3⟩ := get 3 (by omega)
 obtain ⟨y4, h4⟩ := get 4 (by omega)
 obtain ⟨y5, h5⟩ := get 5 (by omega)
 obtain ⟨y6, h6⟩ := get 6 (by omega)
 obtain ⟨y7, h7⟩ := get 7 (by omega)
 have g0 := fld hf 0 3 0 rfl rfl rfl cells3 h0
 have g1 := fld hf 1 3 1 rfl rfl rfl cells3 h1
 have g2 := fld hf 2 9 2 rfl rfl rfl cells9 h2
 have g3 := fld hf 3 2 3 rfl rfl rfl cells2 h3
 have g4 := fld hf 4 58 4 rfl rfl rfl cells30 h4
 have g5 := fld hf 5 48 5 rfl rfl rfl cells31 h5
 have g6 := fld hf 6 49 6 rfl rfl rfl cells29 h6
 have g7 := fld hf 7 49 7 rfl rfl rfl cells29 h7
 simp only [List.drop_zero, List.drop_succ_cons, List.take_succ_cons, List.take_zero] at g0 g1 g2 g3 g4 g5 g6 g7
 obtain ⟨k0, e0, _⟩ := DataW.trod_int Tryz.underlying3 g0
 obtain ⟨k1, e1, _⟩ := DataW.trod_int Tryz.underlying3 g1
 obtain ⟨k2, e2, _⟩ := DataW.trod_string Tryz.underlying9 g2
 obtain ⟨k3, e3, _, w3⟩ := DataW.trod_int Tryz.underlying2 g3
 obtain ⟨k4, e4, _, w4⟩ := DataW.trod_int Tryz.underlying58 g4
 obtain ⟨a5, c5, l5, e5, _, s5⟩ := open_strs31 g5
 obtain ⟨a6, c6, l6, e6, _, s6⟩ := open_ints29 g6
 obtain ⟨a7, c7, l7, e7, _, s7⟩ := open_ints29 g7
 have hk3 : k3 ≤ 9223372036854775807 := by
  have h := (Bool.and_eq_true _ _ ▸ w3 : _ ∧ _).2
  have h' := of_decide_eq_true h
  simpa [IntKind.max, IntKind.bits, IntKind.signed] using h'
 have hk4 : 0 ≤ k4 := by
  have h := (Bool.and_eq_true _ _ ▸ w4 : _ ∧ _).1
  have h' := of_decide_eq_true h
  simpa [IntKind.min, IntKind.signed] using h'
 obtain ⟨b4, rfl⟩ : ∃ b4 : Nat, k4 = (b4 : Int) := ⟨k4.toNat, by omega⟩
 refine ⟨⟨k0, k1, k2, k3, b4, l5, l6, l7⟩, ⟨a5, c5, a6, c6, a7, c7⟩, ⟨s5, s6, s7⟩, hk3, ?_⟩
 unfold termCells
 simp only [List.cons.injEq, and_true] at e0 e1 e2 e3 e4 ⊢
 exact ⟨e0, e1, e2, e3, e4, e5, e6, e7⟩

theorem open_typ {fuel : Nat} {cs : List Value} {x : DataW H × List MemPlace} (h : DataW.trod enc Tryz.prog W base spare held fuel 51 cs = some x) : ∃ t p, TypOk (Lt W.heap.size) W t p ∧ cs = typCells t p := by
 obtain ⟨xs, n, _, _, hl, hxl, hf⟩ := DataW.trod_struct Tryz.underlying51 h
 rw [cells47] at hl
 obtain ⟨v0, cs0, rfl, hh0⟩ := len_cons hl
 obtain ⟨v1, cs1, rfl, hh1⟩ := len_cons hh0
 obtain ⟨v2, cs2, rfl, hh2⟩ := len_cons hh1
 obtain ⟨v3, cs3, rfl, hh3⟩ := len_cons hh2
 obtain ⟨v4, cs4, rfl, hh4⟩ := len_cons hh3
 obtain ⟨v5, cs5, rfl, hh5⟩ := len_cons hh4
 obtain rfl : cs5 = [] := List.length_eq_zero_iff.1 hh5
 have get : ∀ i, i < 6 → ∃ y, xs[i]? = some y := fun i hi => ⟨xs[i]'(by rw [hxl]; exact hi), List.getElem?_eq_getElem _⟩
 obtain ⟨y0, h0⟩ := get 0 (by omega)
 obtain ⟨y1, h1⟩ := get 1 (by omega)
 obtain ⟨y2, h2⟩ := get 2 (by omega)
 obtain ⟨y3, h3⟩ := get 3 (by omega)
 obtain ⟨y4, h4⟩ := get 4 (by omega)
 obtain ⟨y5, h5⟩ := get 5 (by omega)
 have g0 := fld hf 0 3 0 rfl rfl rfl cells3 h0
 have g1 := fld hf 1 3 1 rfl rfl rfl cells3 h1
 have g2 := fld hf 2 9 2 rfl rfl rfl cells9 h2
 have g3 := fld hf 3 48 3 rfl rfl rfl cells31 h3
 have g4 := fld hf 4 49 4 rfl rfl rfl cells29 h4
 have g5 := fld hf 5 4 5 rfl rfl rfl cells4 h5
 simp only [List.drop_zero, List.drop_succ_cons, List.take_succ_cons, List.take_zero] at g0 g1 g2 g3 g4 g5
 obtain ⟨k0, e0, _⟩ := DataW.trod_int Tryz.underlying3 g0
 obtain ⟨k1, e1, _⟩ := DataW.trod_int Tryz.underlying3 g1
 obtain ⟨k2, e2, _⟩ := DataW.trod_string Tryz.underlying9 g2
 obtain ⟨a3, c3, l3, e3, _, s3⟩ := open_strs31 g3
 obtain ⟨a4, c4, l4, e4, _, s4⟩ := open_ints29 g4
 obtain ⟨k5, e5, _⟩ := DataW.trod_bool Tryz.underlying4 g5
 refine ⟨⟨k0, k1, k2, l3, l4, k5⟩, ⟨a3, c3, a4, c4⟩, ⟨s3, s4⟩, ?_⟩
 unfold typCells
 simp only [List.cons.injEq, and_true] at e0 e1 e2 e5 ⊢
 exact ⟨e0, e1, e2, e3, e4, e5⟩

theorem open_ali {fuel : Nat} {cs : List Value} {x : DataW H × List MemPlace} (h : DataW.trod enc Tryz.prog W base spare held fuel 77 cs = some x) : ∃ t, cs = aliCells t := by
 obtain ⟨xs, n, _, _, hl, hxl, hf⟩ := DataW.trod_struct Tryz.underlying77 h
 rw [cells52] at hl
 obtain ⟨v0, cs0, rfl, hh0⟩ := len_cons hl
 obtain ⟨v1, cs1, rfl, hh1⟩ := len_cons hh0
 obtain ⟨v2, cs2, rfl, hh2⟩ := len_cons hh1
 obtain rfl : cs2 = [] := List.length_eq_zero_iff.1 hh2
 have get : ∀ i, i < 3 → ∃ y, xs[i]? = some y := fun i hi => ⟨xs[i]'(by rw [hxl]; exact hi), List.getElem?_eq_getElem _⟩
 obtain ⟨y0, h0⟩ := get 0 (by omega)
 obtain ⟨y1, h1⟩ := get 1 (by omega)
 obtain ⟨y2, h2⟩ := get 2 (by omega)
 have g0 := fld hf 0 9 0 rfl rfl rfl cells9 h0
 have g1 := fld hf 1 3 1 rfl rfl rfl cells3 h1
 have g2 := fld hf 2 3 2 rfl rfl rfl cells3 h2
 simp only [List.drop_zero, List.drop_succ_cons, List.take_succ_cons, List.take_zero] at g0 g1 g2
 obtain ⟨k0, e0, _⟩ := DataW.trod_string Tryz.underlying9 g0
 obtain ⟨k1, e1, _⟩ := DataW.trod_int Tryz.underlying3 g1
 obtain ⟨k2, e2, _⟩ := DataW.trod_int Tryz.underlying3 g2
 refine ⟨⟨k0, k1, k2⟩, ?_⟩
 unfold aliCells
 simp only [List.cons.injEq, and_true] at e0 e1 e2 ⊢
 exact ⟨e0, e1, e2⟩

/-- A slice of structs, each of one kind. -/
theorem open_rows {α : Type} {t e : TypeId} (s : Nat) (hs : 0 < s) (Q : α → List Value → Prop) (hlen : ∀ a cs, Q a cs → cs.length = s) (ht : Tryz.prog.underlying t = some (.slice e)) (hc : Tryz.prog.cellsOf e = s)
 (hf : ∀ n cs x, DataW.trod enc Tryz.prog W base spare held n e cs = some x → ∃ a, Q a cs)
 {fuel : Nat} {c : Value} {x : DataW H × List MemPlace} (h : DataW.trod enc Tryz.prog W base spare held fuel t [c] = some x) :
 ∃ A cap, ∃ l : List α, c = .slice A l.length cap ∧ l.length ≤ maxLen ∧ (0 < l.length → ∃ b off, A = some ⟨b, off, none⟩ ∧ b < W.heap.size ∧ ∀ i a, l[i]? = some a → ∃ cs, Q a cs ∧ ∀ j u, cs[j]? = some u → W.cell? ⟨b, off + i * s + j, none⟩ = some u) := by
 rcases open_slice ht h with ⟨h0, _⟩ | ⟨a, len, cap, m, n, D, Pl, h0, hb, hl, hm, hmm, _, hx⟩
 ·injection h0 with h0 _
  subst h0
  exact ⟨none, 0, [], rfl, by simp, fun h => absurd h (by simp)⟩
 ·injection h0 with h0 _
  subst h0
  rw [hc] at hx
  have hle : len ≤ m := by rw [hmm]; split <;> omega
  have one : ∀ k, k < len → ∃ y cs, Q y cs ∧ ∀ j u, cs[j]? = some u → W.cell? ((a.add (k * s)).add j) = some u := fun k hk => by
   obtain ⟨cs, h1, h2⟩ := hx k (by omega)
   obtain ⟨y, hy⟩ := hf _ _ _ h2
   obtain ⟨_, hcl, hcc⟩ := World.cells?_some h1
   refine ⟨y, cs, hy, fun j u hu => ?_⟩
   have hj := (List.getElem?_eq_some_iff.1 hu).1
   rw [hcc j (by omega), hu]
  have key : ∀ k, k ≤ len → ∃ l : List α, l.length = k ∧ ∀ i y, l[i]? = some y → ∃ cs, Q y cs ∧ ∀ j u, cs[j]? = some u → W.cell? ((a.add (i * s)).add j) = some u := by
   intro k
   induction k with
   | zero => exact fun _ => ⟨[], rfl, fun j u hu => by simp at hu⟩
   | succ k ih =>
    intro hk
    obtain ⟨l, hll, hlc⟩ := ih (by omega)
    obtain ⟨y, cs, hy, hcs⟩ := one k (by omega)
    refine ⟨l ++ [y], by simp [hll], fun i z hz => ?_⟩
    by_cases hj : i < l.length
    ·rw [List.getElem?_append_left hj] at hz
     exact hlc i z hz
    ·rw [List.getElem?_append_right (by omega)] at hz
     have hj0 : i = k := by
      have := (List.getElem?_eq_some_iff.1 hz).1
      simp at this
      omega
     subst hj0
     rw [hll, Nat.sub_self] at hz
     simp only [List.getElem?_cons_zero, Option.some.injEq] at hz
     subst hz
     exact ⟨cs, hy, hcs⟩
  obtain ⟨l, hll, hlc⟩ := key len (Nat.le_refl _)
  subst hll
  refine ⟨some a, cap, l, rfl, by omega, fun hn => ?_⟩
  obtain ⟨cs, hQ, hcs⟩ := hlc 0 l[0] (by simp [hn])
  have hcl := hlen _ _ hQ
  have h0 := hcs 0 cs[0] (by simp [hcl, hs])
  have e0 : (a.add (0 * s)).add 0 = a := by rw [Nat.zero_mul]; rfl
  rw [e0] at h0
  have hsp := spot_of_cell h0
  obtain ⟨b, off, sp⟩ := a
  simp only [Addr.mk.injEq, true_and] at hsp
  subst hsp
  refine ⟨b, off, rfl, block_lt_of_cell h0, fun i y hy => ?_⟩
  obtain ⟨cs, hQ, hcs⟩ := hlc i y hy
  refine ⟨cs, hQ, fun j u hu => ?_⟩
  have := hcs j u hu
  rw [add_add] at this
  unfold Addr.add at this
  split at this
  ·rename_i hj
   rw [show off + i * s + j = off by omega]
   exact this
  ·rw [show off + i * s + j = off + (i * s + j) by omega]
   exact this

set_option maxRecDepth 100000 in
/-- A TREE THAT CAME IN. -/
theorem open_tree26 {r : Reach} {b0 : Nat} {v : Value} {d : DataW H} {ps : List MemPlace} (hval : Value.okWide Tryz.prog W r b0 28 v) (h : DataW.Trod enc Tryz.prog W base spare held 28 v d ps) :
 ∃ t p, v = treeV t p ∧ TreeAt (Lt W.heap.size) W t p ∧ t.nodes.length ≤ maxLen ∧ t.types.length ≤ maxLen ∧ t.aliases.length ≤ maxLen ∧ ∀ x ∈ t.nodes, x.int ≤ 9223372036854775807 := by
 unfold Value.okWide at hval
 rw [Tryz.underlying28] at hval
 obtain ⟨cs, rfl, hsz, _⟩ := hval
 obtain ⟨fuel, h⟩ := h
 obtain ⟨xs, n, _, _, hl, hxl, hf⟩ := DataW.trod_struct Tryz.underlying28 h
 rw [cells26] at hsz
 obtain ⟨l⟩ := cs
 have hsz' : l.length = 3 := hsz
 obtain ⟨v0, cs0, rfl, hh0⟩ := len_cons hsz'
 obtain ⟨v1, cs1, rfl, hh1⟩ := len_cons hh0
 obtain ⟨v2, cs2, rfl, hh2⟩ := len_cons hh1
 obtain rfl : cs2 = [] := List.length_eq_zero_iff.1 hh2
 have hcs : ((Value.agg (Array.mk [v0, v1, v2])).cells.toList) = [v0, v1, v2] := rfl
 rw [hcs] at hf
 have get : ∀ i, i < 3 → ∃ y, xs[i]? = some y := fun i hi => ⟨xs[i]'(by rw [hxl]; exact hi), List.getElem?_eq_getElem _⟩
 obtain ⟨y0, h0⟩ := get 0 (by omega)
 obtain ⟨y1, h1⟩ := get 1 (by omega)
 obtain ⟨y2, h2⟩ := get 2 (by omega)
 have g0 := fld hf 0 24 0 rfl rfl rfl cells22 h0
 have g1 := fld hf 1 25 1 rfl rfl rfl cells23 h1
 have g2 := fld hf 2 26 2 rfl rfl rfl cells24 h2
 simp only [List.drop_zero, List.drop_succ_cons, List.take_succ_cons, List.take_zero] at g0 g1 g2
 obtain ⟨A1, c1, l1, rfl, m1, t1⟩ := open_rows 8 (by omega) (fun (t : TermD) cs => ∃ p, TermOk (Lt W.heap.size) W t p ∧ t.int ≤ 9223372036854775807 ∧ cs = termCells t p) (fun a cs h => by obtain ⟨p, _, _, rfl⟩ := h; rfl) Tryz.underlying24 cells33 (fun n cs x hx => open_term hx) g0
 obtain ⟨A2, c2, l2, rfl, m2, t2⟩ := open_rows 6 (by omega) (fun (t : TypD) cs => ∃ p, TypOk (Lt W.heap.size) W t p ∧ cs = typCells t p) (fun a cs h => by obtain ⟨p, _, rfl⟩ := h; rfl) Tryz.underlying25 cells47 (fun n cs x hx => open_typ hx) g1
 obtain ⟨A3, c3, l3, rfl, m3, t3⟩ := open_rows 3 (by omega) (fun (t : AliD) cs => cs = aliCells t) (fun a cs h => by subst h; rfl) Tryz.underlying26 cells52 (fun n cs x hx => open_ali hx) g2
 refine ⟨⟨l1, l2, l3⟩, ⟨A1, c1, A2, c2, A3, c3⟩, rfl, ⟨fun hn => ?_, fun hn => ?_, fun hn => ?_⟩, m1, m2, m3, fun x hx => by
  obtain ⟨i, hi, rfl⟩ := List.getElem_of_mem hx
  obtain ⟨b, off, e, hb, hc⟩ := t1 (by dsimp only at hi; omega)
  obtain ⟨cs, ⟨p, hp, hk, rfl⟩, _⟩ := hc i _ (List.getElem?_eq_getElem hi)
  exact hk⟩
 ·obtain ⟨b, off, e, hb, hc⟩ := t1 hn
  refine ⟨b, off, e, hb, fun i t ht => ?_⟩
  obtain ⟨cs, ⟨p, hp, _, rfl⟩, hcs⟩ := hc i t ht
  exact ⟨p, hp, hcs⟩
 ·obtain ⟨b, off, e, hb, hc⟩ := t2 hn
  refine ⟨b, off, e, hb, fun i t ht => ?_⟩
  obtain ⟨cs, ⟨p, hp, rfl⟩, hcs⟩ := hc i t ht
  exact ⟨p, hp, hcs⟩
 ·obtain ⟨b, off, e, hb, hc⟩ := t3 hn
  refine ⟨b, off, e, hb, fun i t ht j u hu => ?_⟩
  obtain ⟨cs, rfl, hcs⟩ := hc i t ht
  exact hcs j u hu
end
end Go.Proofs.YtjbdgjbmbohfmaaGreatDoor
namespace Go.Proofs.YtjbdgjbmbohfmaaGreatDoor
open Go Go.Proofs Go.RowKit

theorem inB_iff {l : List ByteArray} {s : ByteArray} : inB l s = true ↔ s ∈ l := by
 unfold inB
 rw [List.any_eq_true]
 constructor
 ·rintro ⟨x, hx, h⟩
  rw [← of_decide_eq_true h]; exact hx
 ·intro h
  exact ⟨s, h, by simp⟩
end Go.Proofs.YtjbdgjbmbohfmaaGreatDoor

namespace Go.Proofs.YtjbdgjbmbohfmaaGreatDoor
open Go Go.Proofs

section
variable {P : Program} {ops : Array Oper} {Q : Exit → Act → World → Prop} {md : Region.Mode} {S : World → Prop} {D : Nat → Bool}

/-- Whatever order is picked from here on; S holds behind every operation that is carried out, but those of D. -/
def wpAnyG (P : Program) (md : Region.Mode) (ops : Array Oper) (Q : Exit → Act → World → Prop) (S : World → Prop) (D : Nat → Bool) : Nat → Array Bool → Act → World → Prop
 | 0, listed, a, w => Region.ready md ops listed = [] ∧ Q .normal a w
 | fuel + 1, listed, a, w =>
  (Region.ready md ops listed = [] → Q .normal a w) ∧
  ∀ i ∈ Region.ready md ops listed, wpOp P ops Q i (fun a' w' => (D i = false → S w') ∧ wpAnyG P md ops Q S D fuel (listed.setIfInBounds i true) a' w') a w

theorem wpAny_of_heldG : ∀ (fuel : Nat) (listed : Array Bool) (a : Act) (w : World), wpAnyG P md ops Q S D fuel listed a w → wpAny P md ops Q fuel listed a w
 | 0, _, _, _, h => h
 | fuel + 1, _, _, _, h => ⟨h.1, fun i hi => wpOp_mono (fun a' w' h' => wpAny_of_heldG fuel _ a' w' h'.2) (h.2 i hi)⟩

/-- Number j waits for number i, in f steps. -/
def reach (md : Region.Mode) (ops : Array Oper) (i : Nat) : Nat → Nat → Bool
 | 0, _ => false
 | f + 1, j => match ops[j]? with
  | some o => o.after.any fun e => Region.binds md e && (e.on == i || reach md ops i f e.on)
  | none => false
/-- Those of D wait for number i. -/
def waits (md : Region.Mode) (ops : Array Oper) (D : Nat → Bool) (i : Nat) : Bool := (List.range ops.size).all fun j => !D j || reach md ops i ops.size j
/-- What has come up has all behind it that it waits for. -/
def ClosedL (md : Region.Mode) (ops : Array Oper) (listed : Array Bool) : Prop := ∀ (j : Nat) (o : Oper), ops[j]? = some o → listed.getD j false = true → ∀ e ∈ o.after, Region.binds md e = true → listed.getD e.on false = true
def closedB (md : Region.Mode) (ops : Array Oper) (listed : Array Bool) : Bool := (List.range ops.size).all fun j => !(listed.getD j false) || (match ops[j]? with
 | some o => o.after.all fun e => !(Region.binds md e) || listed.getD e.on false
 | none => true)
theorem closed_spec {listed : Array Bool} (h : closedB md ops listed = true) : ClosedL md ops listed := by
 intro j o ho hl e he hb
 unfold closedB at h
 rw [List.all_eq_true] at h
 have h1 := h j (List.mem_range.2 (Array.getElem?_eq_some_iff.1 ho).1)
 rw [ho] at h1
 simp only [hl, Bool.not_true, Bool.false_or] at h1
 have h2 := Array.all_eq_true_iff_forall_mem.1 h1 e he
 simpa [hb] using h2
theorem reach_unlisted {i : Nat} {listed : Array Bool} (hc : ClosedL md ops listed) (hi : listed.getD i false = false) : ∀ (f j : Nat), reach md ops i f j = true → listed.getD j false = false := by
 intro f
 induction f with
 | zero => intro j h; cases h
 | succ f ih =>
  intro j h
  unfold reach at h
  cases ho : ops[j]? with
  | none => rw [ho] at h; cases h
  | some o =>
   rw [ho] at h
   obtain ⟨e, he, hb⟩ := Array.any_eq_true'.1 h
   simp only [Bool.and_eq_true, Bool.or_eq_true, beq_iff_eq] at hb
   cases hl : listed.getD j false with
   | false => rfl
   | true =>
    have h1 := hc j o ho hl e he hb.1
    rcases hb.2 with h2 | h2
    ·rw [h2, hi] at h1; cases h1
    ·rw [ih _ h2] at h1; cases h1
theorem reach_not_ready {i j : Nat} {oj : Oper} {listed : Array Bool} (hc : ClosedL md ops listed) (hi : listed.getD i false = false) {f : Nat} (hr : reach md ops i f j = true) (hoj : ops[j]? = some oj) (hall : ∀ e ∈ oj.after, Region.binds md e = true → listed.getD e.on false = true) : False := by
 cases f with
 | zero => cases hr
 | succ f =>
  unfold reach at hr
  rw [hoj] at hr
  obtain ⟨e, he, hb⟩ := Array.any_eq_true'.1 hr
  simp only [Bool.and_eq_true, Bool.or_eq_true, beq_iff_eq] at hb
  have h1 := hall e he hb.1
  rcases hb.2 with h2 | h2
  ·rw [h2, hi] at h1; cases h1
  ·rw [reach_unlisted hc hi _ _ h2] at h1; cases h1
theorem ClosedL.set {listed : Array Bool} (hc : ClosedL md ops listed) {j : Nat} {oj : Oper} (hoj : ops[j]? = some oj) (hall : ∀ e ∈ oj.after, Region.binds md e = true → listed.getD e.on false = true) : ClosedL md ops (listed.setIfInBounds j true) := by
 intro k ok hok hl e he hb
 by_cases hjk : j = k
 ·subst hjk
  rw [hoj] at hok
  injection hok with hok
  subst hok
  exact getD_set_true (hall e he hb)
 ·rw [getD_set_ne false hjk] at hl
  exact getD_set_true (hc k ok hok hl e he hb)

theorem wpAnyG_first {i : Nat} {oi : Oper} {v : Value} (hi : ops[i]? = some oi) (hsel : ∀ (j : Nat) (o : Oper) cs b, ops[j]? = some o → o.op ≠ .select cs b)
 (hQ : ∀ c a w, Q (.panic c) (a.put oi.dst v) w → Q (.panic c) a w) (hD : ∀ (j : Nat), j < ops.size → D j = true → reach md ops i ops.size j = true) :
 ∀ (fuel : Nat) (listed : Array Bool) (a : Act) (w : World),
  (∀ j oj, ops[j]? = some oj → j ≠ i → listed.getD j true = false → (∀ e ∈ oj.after, Region.binds md e = true → e.on ≠ i) → oi.apart ops oj = true) →
  ClosedL md ops listed →
  i ∈ Region.ready md ops listed → YieldsIf P ops S oi v a → S w → (D i = false) →
  wpAnyG P md ops Q S D fuel (listed.setIfInBounds i true) (a.put oi.dst v) w → wpAnyG P md ops Q S D (fuel + 1) listed a w := by
 intro fuel
 induction fuel with
 | zero =>
  intro listed a w _ _ hr hy hS _ H
  refine ⟨fun h => (by rw [h] at hr; cases hr), fun j hj => ?_⟩
  by_cases hji : j = i
  ·subst hji; exact hy.wpOp hi hS ⟨fun _ => hS, H⟩
  ·have := ready_mono hj hji
   rw [H.1] at this
   cases this
 | succ fuel ih =>
  intro listed a w hfree hun0 hr hy hS hDi H
  refine ⟨fun h => (by rw [h] at hr; cases hr), fun j hj => ?_⟩
  by_cases hji : j = i
  ·subst hji; exact hy.wpOp hi hS ⟨fun _ => hS, H⟩
  ·have h1 := H.2 j (ready_mono hj hji)
   obtain ⟨hjun, oj, hoj, hall⟩ := mem_ready.1 hj
   have hnot : ∀ e ∈ oj.after, Region.binds md e = true → e.on ≠ i := fun e he hb heq => by
    have h1 := hall e he hb
    have h0 := (mem_ready.1 hr).1
    rw [heq] at h1
    rcases Nat.lt_or_ge i listed.size with h' | h'
    ·simp [h'] at h0 h1; rw [h0] at h1; cases h1
    ·simp [Array.getElem?_eq_none h'] at h1
   have hi0 : listed.getD i false = false := by
    have h0 := (mem_ready.1 hr).1
    rcases Nat.lt_or_ge i listed.size with h' | h'
    ·simp [h'] at h0 ⊢; exact h0
    ·simp [Array.getElem?_eq_none h'] at h0
   have hDj : D j = false := by
    cases hd : D j with
    | false => rfl
    | true => exact (reach_not_ready hun0 hi0 (hD j (Array.getElem?_eq_some_iff.1 hoj).1 hd) hoj hall).elim
   have h2 := wpOp_putIf hoj (hfree j oj hoj hji hjun hnot) (fun cs b => hsel i oi cs b hi) (fun cs b => hsel j oj cs b hoj) hQ hy h1
   have hfree' : ∀ k ok, ops[k]? = some ok → k ≠ i → (listed.setIfInBounds j true).getD k true = false →
    (∀ e ∈ ok.after, Region.binds md e = true → e.on ≠ i) → oi.apart ops ok = true := fun k ok hk hki hun hno => by
    refine hfree k ok hk hki ?_ hno
    by_cases hjk : j = k
    ·subst hjk; exact hjun
    ·rw [getD_set_ne true hjk] at hun; exact hun
   have hun' := hun0.set hoj hall
   refine wpOp_mono (fun a' w' h3 => ⟨h3.2.1, ih (listed.setIfInBounds j true) a' w' hfree' hun' (ready_mono hr (Ne.symm hji)) h3.1 (h3.2.1 hDj) hDi ?_⟩) h2
   rw [Array.setIfInBounds_comm _ _ hji]
   exact h3.2.2

/-- Take number i first. -/
theorem wpAnyG_take {i : Nat} {oi : Oper} {v : Value} {fuel : Nat} {listed : Array Bool} {a : Act} {w : World} (hi : ops[i]? = some oi)
 (hs : Region.noSelect ops = true) (hf : Region.free md ops listed i = true) (hr : (Region.ready md ops listed).contains i = true) (hw : waits md ops D i = true) (hl : closedB md ops listed = true) (hDi : D i = false)
 (hQ : ∀ c a w, Q (.panic c) (a.put oi.dst v) w → Q (.panic c) a w) (hy : YieldsIf P ops S oi v a) (hS : S w)
 (h : wpAnyG P md ops Q S D fuel (listed.setIfInBounds i true) (a.put oi.dst v) w) : wpAnyG P md ops Q S D (fuel + 1) listed a w :=
 wpAnyG_first hi (Region.noSelect_spec hs) hQ (fun j hj hd => by unfold waits at hw; rw [List.all_eq_true] at hw; simpa [hd] using hw j (List.mem_range.2 hj)) fuel listed a w (Region.free_spec hi hf) (closed_spec hl) (by simpa using hr) hy hS hDi h

/-- Each of the operations 'rs' comes up next. -/
def AllReadyG (P : Program) (md : Region.Mode) (ops : Array Oper) (Q : Exit → Act → World → Prop) (S : World → Prop) (D : Nat → Bool) (fuel : Nat) (listed : Array Bool) (a : Act) (w : World) (rs : List Nat) : Prop :=
 ∀ i ∈ rs, wpOp P ops Q i (fun a' w' => (D i = false → S w') ∧ wpAnyG P md ops Q S D fuel (listed.setIfInBounds i true) a' w') a w
theorem AllReadyG.nil {fuel : Nat} {listed : Array Bool} {a : Act} {w : World} : AllReadyG P md ops Q S D fuel listed a w [] := fun _ h => by cases h
/-- One that S holds behind. -/
theorem AllReadyG.held {fuel : Nat} {listed : Array Bool} {a : Act} {w : World} {i : Nat} {o : Oper} {rs : List Nat} (ho : ops[i]? = some o)
 (h : ∀ K' : Act → World → Prop, _root_.Go.Shut (∀ a w, S w → (S w → wpAnyG P md ops Q S D fuel (listed.setIfInBounds i true) a w) → K' a w) → if Region.wanted o (yielded ops a.tmps) = true then Oper.wp P o a w K' Q else K' (a.put o.dst undef) w)
 (hs : AllReadyG P md ops Q S D fuel listed a w rs) : AllReadyG P md ops Q S D fuel listed a w (i :: rs) := fun j hj => by
 rcases List.mem_cons.1 hj with rfl | hj
 ·exact wpOp_step ho (fun K' hK => h K' (fun a w hS hW => hK a w ⟨fun _ => hS, hW hS⟩))
 ·exact hs j hj
theorem wpAnyG_ready {rs : List Nat} {fuel : Nat} {listed : Array Bool} {a : Act} {w : World} (hr : Region.ready md ops listed = rs) (hne : rs ≠ [])
 (h : AllReadyG P md ops Q S D fuel listed a w rs) : wpAnyG P md ops Q S D (fuel + 1) listed a w := ⟨fun h0 => absurd (hr ▸ h0) hne, hr ▸ h⟩
theorem wpAnyG_done {listed : Array Bool} {a : Act} {w : World} (hr : Region.ready md ops listed = []) (h : Q .normal a w) :
 ∀ fuel, wpAnyG P md ops Q S D fuel listed a w
 | 0 => ⟨hr, h⟩
 | _ + 1 => ⟨fun _ => h, by rw [hr]; simp⟩
theorem wp_region_heldG {id : Nat} {a : Act} {w : World} (D : Nat → Bool) (hm : P.follows .mixedOrders = true) (hS : S w.drew)
 (h : S w.drew → wpAnyG P .any ops Q S D ops.size (Array.replicate ops.size false) a w.drew) : (Code.region id ops true).wp P Q a w :=
 wp_region_any hm (wpAny_of_heldG _ _ _ _ (h hS))
end
end Go.Proofs.YtjbdgjbmbohfmaaGreatDoor

namespace Go.Proofs.YtjbdgjbmbohfmaaGreatDoor
open Go Go.Proofs Go.RowKit

def idxV (o : Option Nat) : Int := match o with | some k => (k : Int) | none => -1
end Go.Proofs.YtjbdgjbmbohfmaaGreatDoor

namespace Go.Proofs.YtjbdgjbmbohfmaaGreatDoor
open Go Go.Proofs Go.RowKit

end Go.Proofs.YtjbdgjbmbohfmaaGreatDoor

namespace Go.Proofs.YtjbdgjbmbohfmaaGreatDoor
open Go Go.Proofs Go.RowKit

def nmdN : List AliD → ByteArray → Nat → Option Nat
 | [], _, _ => none
 | x :: l, v, k => if x.name = v then some k else nmdN l v (k + 1)
theorem nmdN_drop {l : List AliD} {v : ByteArray} {k : Nat} (h : k < l.length) (s : Nat) : nmdN (l.drop k) v s = if l[k].name = v then some s else nmdN (l.drop (k + 1)) v (s + 1) := by
 rw [List.drop_eq_getElem_cons h]
 rfl
theorem nmdN_iff : ∀ {l : List AliD} {v : ByteArray} {s : Nat}, nmdN l v s = (firstA l v).map (· + s)
 | [], _, _ => rfl
 | x :: l, v, s => by
  unfold nmdN firstA
  by_cases h : x.name = v
  ·rw [if_pos h, if_pos h]; simp
  ·rw [if_neg h, if_neg h, nmdN_iff, Option.map_map]
   congr 1
   funext n
   simp only [Function.comp]
   omega

set_option maxRecDepth 100000 in
set_option maxHeartbeats 4000000 in
theorem rnamed_any (t : TreeD) (p : Ptr6) (v : ByteArray) (w : World) (hT : TreeAt (Lt w.heap.size) w t p) (hl : t.aliases.length ≤ 1000) :
 Calls Tryz.prog 78 #[treeV t p, .string v] w fun e w' => e = .returned (.int .i64 (idxV (nmdN t.aliases v 0))) ∧ Below w.heap.size w w' := by
 obtain ⟨W0, hW0⟩ : ∃ W0, w.alloc (.cells #[.slice p.a1 t.nodes.length p.c1, .slice p.a2 t.types.length p.c2, .slice p.a3 t.aliases.length p.c3] 28) = W0 := ⟨_, rfl⟩
 obtain ⟨hb0, hX0, hT0⟩ := box_tree t p w W0 hT hW0
 obtain ⟨R, hR⟩ : ∃ R, nmdN t.aliases v 0 = R := ⟨_, rfl⟩
 rw [hR]
 have HR := Lib.hid hR
 have HB0 := Lib.hid hb0
 have HA := hT0.2.2
 have x0 := hX0.cell 0
 have x1 := hX0.cell 1
 have x2 := hX0.cell 2
 simp only [List.getElem?_toArray, List.getElem?_cons_zero, List.getElem?_cons_succ] at x0 x1 x2
 clear hR hb0 hT0 hT hX0
 go_enter Tryz.func78, Tryz.ntmps78
 go_wp2
 go_loopw [5, 6, 10] (fun _ _ vc wr => ∃ k : Nat, k ≤ t.aliases.length ∧ vc = .int .i64 (k : Int) ∧ Hid (nmdN (t.aliases.drop k) v k = R) ∧ Below W0.heap.size W0 wr) (fun _ _ vc _ => t.aliases.length - (intOf vc).toNat)
 case atStart => exact ⟨0, Nat.zero_le _, rfl, HR, Below.refl _ _⟩
 case round =>
  obtain ⟨k, hk, rfl, HK, hBr⟩ := hrel
  have HBr := Lib.hid hBr
  by_cases hlk : k < t.aliases.length
  ·obtain ⟨b, off, hpa, hb, hcell⟩ := HA (by omega)
   have hq := hcell k t.aliases[k] (List.getElem?_eq_getElem hlk)
   obtain ⟨⟨nm, ty, ps⟩, hx⟩ : ∃ x, t.aliases[k] = x := ⟨_, rfl⟩
   have hD := nmdN_drop (v := v) hlk k
   rw [hx] at hq hD
   have d0 := (hBr.cell (p := ⟨b, off + k * 3 + 0, none⟩) hb).trans (hq 0 _ rfl)
   have d1 := (hBr.cell (p := ⟨b, off + k * 3 + 1, none⟩) hb).trans (hq 1 _ rfl)
   have d2 := (hBr.cell (p := ⟨b, off + k * 3 + 2, none⟩) hb).trans (hq 2 _ rfl)
   dsimp only at d0 d1 d2 hD
   rw [Nat.add_zero] at d0
   rw [HK.out] at hD
   have HB2 := Lib.hid (hBr.alloc hBr.size (.cells #[.string nm, .int .i64 ty, .int .i64 ps] 77))
   clear hq hx hcell hBr HR
   by_cases hv : nm = v
   ·have hr : R = some k := by rw [hD, if_pos hv]
    subst hr
    clear hD HK
    subst hv
    go_wp2
    go_ret
    exact ⟨rfl, HB0.out.trans (HB2.out.mono HB0.out.size)⟩
   ·have HN := Lib.hid (show nmdN (t.aliases.drop (k + 1)) v (k + 1) = R by rw [hD, if_neg hv])
    have hq : (nm.toList == v.toList) = false := by rw [beq_eq_false_iff_ne]; exact fun e => hv (rtoList_inj e)
    clear hD
    go_wp2
    go_roundw
    case rel => exact ⟨k + 1, by omega, by go_num, HN, HB2.out⟩
    case measure => simp [intOf]; omega
  ·have hr : R = none := by rw [← HK.out, List.drop_eq_nil_of_le (by omega)]; rfl
   subst hr
   go_wp2
   go_ret
   exact ⟨rfl, HB0.out.trans (HBr.out.mono HB0.out.size)⟩

end Go.Proofs.YtjbdgjbmbohfmaaGreatDoor

namespace Go.Proofs.YtjbdgjbmbohfmaaGreatDoor
open Go Go.Proofs Go.RowKit

end Go.Proofs.YtjbdgjbmbohfmaaGreatDoor

namespace Go.Proofs.YtjbdgjbmbohfmaaGreatDoor
open Go Go.Proofs Go.RowKit

end Go.Proofs.YtjbdgjbmbohfmaaGreatDoor

namespace Go.Proofs.YtjbdgjbmbohfmaaGreatDoor
open Go Go.Proofs Go.RowKit

attribute [local go_sem ↓] Go.wp_at_zero Go.wp_at_succ

/-- Alias names that were looked through, one after the other. -/
structure Seen2 (t : TreeD) (seen : List ByteArray) : Prop where
 nod : seen.Nodup
 al : ∀ s ∈ seen, s ∈ t.aliases.map (·.name)

end Go.Proofs.YtjbdgjbmbohfmaaGreatDoor

namespace Go.Proofs.YtjbdgjbmbohfmaaGreatDoor
open Go Go.Proofs Go.RowKit

attribute [local go_sem ↓] Go.wp_at_zero Go.wp_at_succ

end Go.Proofs.YtjbdgjbmbohfmaaGreatDoor

namespace Go.Proofs.YtjbdgjbmbohfmaaGreatDoor
open Go Go.Proofs Go.RowKit

section
variable {l w0 w : List Int} {i : Nat} {out : List Nat}
end
/-- What is bound around counts by itself. -/
theorem freeL_env {t : TreeD} {s : ByteArray} : ∀ {f i : Nat} {env : List ByteArray}, s ∈ freeL t f i env ↔ s ∈ freeL t f i [] ∧ s ∉ env
 | 0, i, env => by simp [freeL]
 | f + 1, i, env => by
  unfold freeL
  cases hn : t.nodes[i]? with
  | none => simp
  | some n =>
   dsimp only
   rw [List.mem_append, List.mem_append, freeK_mem, freeK_mem]
   have h1 : (s ∈ if n.kind = 0 ∧ inB env n.name = false then [n.name] else []) ↔ n.kind = 0 ∧ s = n.name ∧ s ∉ env := by
    split
    ·rename_i h
     rw [List.mem_singleton]
     constructor
     ·rintro rfl
      refine ⟨h.1, rfl, fun e => ?_⟩
      rw [inB_iff.2 e] at h
      exact absurd h.2 (by decide)
     ·exact fun e => e.2.1
    ·rename_i h
     constructor
     ·intro e; cases e
     ·rintro ⟨e1, rfl, e2⟩
      refine absurd ⟨e1, ?_⟩ h
      cases hb : inB env n.name with
      | false => rfl
      | true => exact absurd (inB_iff.1 hb) e2
   have h2 : (s ∈ if n.kind = 0 ∧ inB [] n.name = false then [n.name] else []) ↔ n.kind = 0 ∧ s = n.name := by
    rw [show inB [] n.name = false from rfl]
    by_cases h : n.kind = 0
    ·rw [if_pos ⟨h, rfl⟩, List.mem_singleton]
     exact ⟨fun e => ⟨h, e⟩, fun e => e.2⟩
    ·rw [if_neg (fun e => h e.1)]
     exact ⟨fun e => (by cases e), fun e => absurd e.1 h⟩
   rw [h1, h2]
   constructor
   ·rintro (⟨a, b, c⟩ | ⟨j, k, a, b⟩)
    ·exact ⟨.inl ⟨a, b⟩, c⟩
    ·rw [freeL_env] at b
     refine ⟨.inr ⟨j, k, a, ?_⟩, fun e => b.2 (List.mem_cons_of_mem _ e)⟩
     rw [freeL_env]
     refine ⟨b.1, fun e => b.2 ?_⟩
     rw [List.mem_singleton] at e
     rw [e]; simp
   ·rintro ⟨⟨a, b⟩ | ⟨j, k, a, b⟩, c⟩
    ·exact .inl ⟨a, b, c⟩
    ·rw [freeL_env] at b
     refine .inr ⟨j, k, a, ?_⟩
     rw [freeL_env]
     refine ⟨b.1, fun e => ?_⟩
     rcases List.mem_cons.1 e with e | e
     ·exact b.2 (by rw [e]; simp)
     ·exact c e
def cmpI (a b : Int) : Int := if a < b then -1 else if b < a then 1 else 0
def cmpS (a b : ByteArray) : Int := if a.data.toList < b.data.toList then -1 else if b.data.toList < a.data.toList then 1 else 0
def orI (a b c : Int) : Int := if a ≠ 0 then a else if b ≠ 0 then b else c
def cmpD (a b : DiagD) : Int := orI (cmpI a.pos b.pos) (cmpI a.err b.err) (cmpS a.name b.name)
def minD (m : DiagD) (l : List DiagD) : DiagD := l.foldl (fun m x => if cmpD x m < 0 then x else m) m
theorem cmpD_lt {a b : DiagD} : cmpD a b < 0 ↔ LtD a b := by
 unfold cmpD LtD orI cmpI cmpS
 by_cases h1 : a.pos < b.pos
 ·rw [if_pos h1]; simp [h1]
 ·by_cases h2 : b.pos < a.pos
  ·rw [if_neg h1, if_pos h2]; simp [h1]; omega
  ·have h3 : a.pos = b.pos := by omega
   rw [if_neg h1, if_neg h2]
   simp only [h3, Int.lt_irrefl, false_or, true_and]
   by_cases h4 : a.err < b.err
   ·rw [if_pos h4]; simp [h4]
   ·by_cases h5 : b.err < a.err
    ·rw [if_neg h4, if_pos h5]; simp [h4]; omega
    ·have h6 : a.err = b.err := by omega
     rw [if_neg h4, if_neg h5]
     simp only [h6, Int.lt_irrefl, false_or, true_and]
     by_cases h7 : a.name.data.toList < b.name.data.toList
     ·rw [if_pos h7]; simp [h7]
     ·rw [if_neg h7]
      simp only [h7, iff_false]
      by_cases h8 : b.name.data.toList < a.name.data.toList
      ·rw [if_pos h8]; decide
      ·rw [if_neg h8]; decide
theorem LtD.irrefl (a : DiagD) : ¬ LtD a a := by
 unfold LtD
 rintro (h | ⟨_, h | ⟨_, h⟩⟩)
 ·omega
 ·omega
 ·exact List.lt_irrefl _ h
/-- It is one of the row, and none is less. -/
theorem minD_spec : ∀ (l : List DiagD) (m : DiagD), minD m l ∈ m :: l ∧ ∀ x ∈ m :: l, ¬ LtD x (minD m l)
 | [], m => ⟨by simp [minD], fun x hx => by
  simp only [List.mem_singleton] at hx
  subst hx
  exact LtD.irrefl _⟩
 | y :: l, m => by
  have e : minD m (y :: l) = minD (if cmpD y m < 0 then y else m) l := rfl
  rw [e]
  obtain ⟨h1, h2⟩ := minD_spec l (if cmpD y m < 0 then y else m)
  have hm := h2 (if cmpD y m < 0 then y else m) (by simp)
  constructor
  ·rcases List.mem_cons.1 h1 with h1 | h1
   ·rw [h1]
    split <;> simp
   ·simp [h1]
  ·intro x hx
   by_cases hc : cmpD y m < 0
   ·rw [if_pos hc] at h2 hm ⊢
    rcases List.mem_cons.1 hx with rfl | hx
    ·intro h
     exact hm ((cmpD_lt.1 hc).trans h)
    ·exact h2 x hx
   ·rw [if_neg hc] at h2 hm ⊢
    rcases List.mem_cons.1 hx with rfl | hx
    ·exact hm
    ·rcases List.mem_cons.1 hx with rfl | hx
     ·intro h
      by_cases hxm : LtD m x
      ·exact hm (hxm.trans h)
      ·have := LtD.eq hxm (fun e => hc (cmpD_lt.2 e))
       subst this
       exact hm h
     ·exact h2 x (by simp [hx])
theorem minD_eq {m m' : DiagD} {l l' : List DiagD} (h : ∀ x, x ∈ m :: l ↔ x ∈ m' :: l') : minD m l = minD m' l' := by
 obtain ⟨h1, h2⟩ := minD_spec l m
 obtain ⟨k1, k2⟩ := minD_spec l' m'
 exact LtD.eq (k2 _ ((h _).1 h1)) (h2 _ ((h _).2 k1))
/-- What is wrong first of a row, or nothing. -/
def firstD : List DiagD → DiagD
 | [] => ⟨0, 0, noName⟩
 | m :: l => minD m l
theorem firstD_eq {l l' : List DiagD} (h : ∀ x, x ∈ l ↔ x ∈ l') : firstD l = firstD l' := by
 cases l with
 | nil =>
  cases l' with
  | nil => rfl
  | cons y l' => exact absurd ((h y).2 (by simp)) (by simp)
 | cons x l =>
  cases l' with
  | nil => exact absurd ((h x).1 (by simp)) (by simp)
  | cons y l' => exact minD_eq h
def twiceL (t : TreeD) : List DiagD := (List.range t.aliases.length).flatMap fun i => match t.aliases[i]? with
 | some a => if firstA t.aliases a.name = some i then [] else [⟨8, a.pos, a.name⟩]
 | none => []
def nameL (t : TreeD) : List DiagD := t.types.flatMap fun n => if n.kind = 10 ∧ firstA t.aliases n.name = none then [⟨7, n.pos, n.name⟩] else []
def loopD (t : TreeD) (i : Nat) : DiagD := match t.aliases[i]? with
 | some a => ⟨9, a.pos, a.name⟩
 | none => ⟨9, 0, noName⟩
theorem nx_onL {t : TreeD} (h : NmOk t) {k : Nat} {a : AliD} (ha : t.aliases[k]? = some a) : nx (onL t) k = atYZ t a.type.toNat := by
 have hl := h.rng a (List.mem_of_getElem? ha)
 unfold nx onL
 rw [List.getElem?_map, ha]
 simp only [Option.map_some]
 unfold onA atYZ
 rw [List.getElem?_eq_getElem hl]
 simp only
 by_cases hk : t.types[a.type.toNat].kind ≠ 10
 ·rw [if_pos hk, h.typ _ _ (List.getElem?_eq_getElem hl) hk, h.no]
  simp
 ·rw [if_neg hk]
  cases firstA t.aliases t.types[a.type.toNat].name with
  | none => simp
  | some m => simp
/-- The document's way: the aliases that are looked through from a type on, each once. -/
def rowF (t : TreeD) : Nat → Nat → List Nat → List Nat
 | 0, _, out => out
 | f + 1, i, out => match atYZ t i with
  | none => out
  | some k => if k ∈ out then out else rowF t f (((t.aliases[k]?).map (·.type.toNat)).getD 0) (out ++ [k])
theorem rowF_all {t : TreeD} (hN : NmOk t) {m0 : Nat} : ∀ (f i : Nat) (out : List Nat), RowI t m0 i out → out.length + f = t.aliases.length + 1 → ∀ x, x ∈ rowF t f i out ↔ ∃ n, nxN (onL t) n m0 = some x
 | 0, i, out, h, hf => absurd h.le (by omega)
 | f + 1, i, out, h, hf => by
  have hend : (∀ k, atYZ t i = some k → k ∈ out) → ∀ x, x ∈ out ↔ ∃ n, nxN (onL t) n m0 = some x := by
   intro hk x
   constructor
   ·exact h.reach x
   ·rintro ⟨n, hn⟩
    refine closed_steps (P := fun j => j ∈ out) (fun j k h1 h2 => ?_) ?_ hn
    ·rcases h.clo j k h1 h2 with e | e
     ·exact e
     ·exact hk k e
    ·rcases h.first with e | e
     ·exact e
     ·exact hk m0 e
  unfold rowF
  cases ha : atYZ t i with
  | none => exact hend (fun k e => by rw [ha] at e; cases e)
  | some k =>
   dsimp only
   by_cases hko : k ∈ out
   ·rw [if_pos hko]
    exact hend (fun k2 e => by rw [ha] at e; injection e with e; rw [← e]; exact hko)
   ·rw [if_neg hko]
    have hkl : k < t.aliases.length := by
     unfold atYZ at ha
     split at ha
     ·split at ha
      ·cases ha
      ·exact firstA_lt ha
     ·cases ha
    have hka : t.aliases[k]? = some t.aliases[k] := List.getElem?_eq_getElem hkl
    have hnx := nx_onL hN hka
    rw [hka]
    simp only [Option.map_some, Option.getD_some]
    obtain ⟨n, hn⟩ := h.now k ha
    refine rowF_all hN f _ _ ⟨?_, ?_, ?_, ?_, ?_, ?_⟩ (by simp; omega)
    ·rw [List.nodup_append]
     refine ⟨h.nod, by simp, fun x hx y hy => ?_⟩
     simp only [List.mem_singleton] at hy
     subst hy
     rintro rfl
     exact hko hx
    ·intro j hj
     rcases List.mem_append.1 hj with hj | hj
     ·exact h.lt j hj
     ·rw [List.mem_singleton] at hj; rw [hj]; exact hkl
    ·intro j hj
     rcases List.mem_append.1 hj with hj | hj
     ·exact h.reach j hj
     ·rw [List.mem_singleton] at hj; rw [hj]; exact ⟨n, hn⟩
    ·intro j hj
     rw [← hnx] at hj
     exact ⟨n + 1, nxN_snoc hn hj⟩
    ·intro j k2 hj hk2
     rcases List.mem_append.1 hj with hj | hj
     ·rcases h.clo j k2 hj hk2 with e | e
      ·exact .inl (List.mem_append_left _ e)
      ·rw [ha] at e
       injection e with e
       exact .inl (by rw [← e]; simp)
     ·rw [List.mem_singleton] at hj
      subst hj
      rw [hnx] at hk2
      exact .inr hk2
    ·rcases h.first with e | e
     ·exact .inl (List.mem_append_left _ e)
     ·rw [ha] at e
      injection e with e
      exact .inl (by rw [e]; simp)
/-- An alias stands in its own row just if it comes back to itself. -/
theorem rowF_cyc {t : TreeD} (hN : NmOk t) {k : Nat} {a : AliD} (ha : t.aliases[k]? = some a) : k ∈ rowF t (t.aliases.length + 1) a.type.toNat [] ↔ Cyc (onL t) k := by
 have hnx := nx_onL hN ha
 cases hm : atYZ t a.type.toNat with
 | none =>
  unfold rowF
  rw [hm]
  rw [hm] at hnx
  constructor
  ·intro h; cases h
  ·intro h
   obtain ⟨j, hj⟩ := cyc_some h
   rw [hnx] at hj
   cases hj
 | some m0 =>
  rw [hm] at hnx
  rw [rowF_all hN (m0 := m0) _ _ [] ⟨by simp, by simp, by simp, fun k2 hk2 => by
   rw [hm] at hk2
   injection hk2 with hk2
   exact ⟨0, by rw [← hk2]; rfl⟩, by simp, .inr hm⟩ (by simp)]
  constructor
  ·rintro ⟨n, hn⟩
   exact ⟨n, by unfold nxN; rw [hnx]; exact hn⟩
  ·rintro ⟨n, hn⟩
   unfold nxN at hn
   rw [hnx] at hn
   exact ⟨n, hn⟩
/-- What the document's answer finds wrong, in its order. -/
def wrongR (t : TreeD) : List DiagD :=
 ((List.range t.aliases.length).flatMap fun k => match t.aliases[k]? with
  | some a => (if firstA t.aliases a.name = some k then [] else [⟨8, a.pos, a.name⟩]) ++ ((rowF t (t.aliases.length + 1) a.type.toNat []).flatMap fun x => if x = k then [⟨9, a.pos, a.name⟩] else [])
  | none => []) ++ nameL t ++ wrongT t
theorem wrong_eq {t : TreeD} (hN : NmOk t) {out : List Nat} (ho : ∀ m, m ∈ out ↔ m < t.aliases.length ∧ Cyc (onL t) m) : firstD (wrongT t ++ (twiceL t ++ nameL t ++ out.map (loopD t))) = firstD (wrongR t) := by
 refine firstD_eq fun x => ?_
 unfold wrongR twiceL
 simp only [List.mem_append, List.mem_flatMap, List.mem_range, List.mem_map]
 constructor
 ·rintro (h | (⟨k, hk, h⟩ | h) | ⟨m, hm, h⟩)
  ·exact .inr h
  ·rw [List.getElem?_eq_getElem hk] at h
   refine .inl (.inl ⟨k, hk, ?_⟩)
   rw [List.getElem?_eq_getElem hk]
   exact List.mem_append_left _ h
  ·exact .inl (.inr h)
  ·obtain ⟨hk, hc⟩ := (ho m).1 hm
   have e := List.getElem?_eq_getElem hk
   refine .inl (.inl ⟨m, hk, ?_⟩)
   unfold loopD at h
   rw [e] at h ⊢
   refine List.mem_append_right _ (List.mem_flatMap.2 ⟨m, (rowF_cyc hN e).2 hc, ?_⟩)
   rw [if_pos rfl, ← h]
   simp
 ·rintro ((⟨k, hk, h⟩ | h) | h)
  ·have e := List.getElem?_eq_getElem hk
   rw [e] at h
   rcases List.mem_append.1 h with h | h
   ·refine .inr (.inl (.inl ⟨k, hk, ?_⟩))
    rw [e]
    exact h
   ·obtain ⟨y, h1, h2⟩ := List.mem_flatMap.1 h
    split at h2
    ·rename_i hy
     subst hy
     rw [List.mem_singleton] at h2
     refine .inr (.inr ⟨y, (ho y).2 ⟨hk, (rowF_cyc hN e).1 h1⟩, ?_⟩)
     unfold loopD
     rw [e, h2]
    ·cases h2
  ·exact .inr (.inl (.inr h))
  ·exact .inl h
end Go.Proofs.YtjbdgjbmbohfmaaGreatDoor

namespace Go.Proofs.YtjbdgjbmbohfmaaGreatDoor
open Go Go.Proofs Go.RowKit

section
variable {P : Program} {md : Region.Mode} {ops : Array Oper} {Q : Exit → Act → World → Prop} {S : World → Prop} {D : Nat → Bool}
theorem tkG (i : Nat) {oi : Oper} {v : Value} {fuel : Nat} {listed : Array Bool} {a : Act} {w : World}
 (h : wpAnyG P md ops Q S D fuel (listed.setIfInBounds i true) (a.put oi.dst v) w)
 (hi : ops[i]? = some oi := by simp only [List.getElem?_toArray, List.getElem?_cons_zero, List.getElem?_cons_succ]; rfl)
 (hs : Region.noSelect ops = true := by kernel_rfl) (hf : Region.free md ops listed i = true := by kernel_rfl) (hr : (Region.ready md ops listed).contains i = true := by kernel_rfl) (hw1 : waits md ops D i = true := by kernel_rfl) (hl : closedB md ops listed = true := by kernel_rfl) (hDi : D i = false := by kernel_rfl)
 (hQ : ∀ c a w, Q (.panic c) (a.put oi.dst v) w → Q (.panic c) a w := by exact fun _ _ _ h => h) (hw : Region.wanted oi (yielded ops a.tmps) = true := by rfl)
 (hy : ∀ w, S w → (execOp a.eval oi).run P w = .ok (.value v) w := by (intro w hSw; (try dsimp only at hSw); go_simp; try with_reducible rfl)) (hS : S w := by assumption) :
 wpAnyG P md ops Q S D (fuel + 1) listed a w := wpAnyG_take hi hs hf hr hw1 hl hDi hQ (.inl ⟨hw, hy⟩) hS h
theorem rdG (i : Nat) {o : Oper} {fuel : Nat} {listed : Array Bool} {a : Act} {w : World}
 (h : ∀ K' : Act → World → Prop, _root_.Go.Shut (∀ a w, S w → (S w → wpAnyG P md ops Q S D fuel (listed.setIfInBounds i true) a w) → K' a w) → if Region.wanted o (yielded ops a.tmps) = true then Oper.wp P o a w K' Q else K' (a.put o.dst undef) w)
 (hr : Region.ready md ops listed = [i] := by kernel_rfl) (ho : ops[i]? = some o := by simp only [List.getElem?_toArray, List.getElem?_cons_zero, List.getElem?_cons_succ]; rfl) :
 wpAnyG P md ops Q S D (fuel + 1) listed a w := wpAnyG_ready hr (by simp) (AllReadyG.held ho h AllReadyG.nil)
theorem skG (i : Nat) {oi : Oper} {fuel : Nat} {listed : Array Bool} {a : Act} {w : World}
 (h : wpAnyG P md ops Q S D fuel (listed.setIfInBounds i true) (a.put oi.dst undef) w)
 (hi : ops[i]? = some oi := by simp only [List.getElem?_toArray, List.getElem?_cons_zero, List.getElem?_cons_succ]; rfl)
 (hs : Region.noSelect ops = true := by kernel_rfl) (hf : Region.free md ops listed i = true := by kernel_rfl) (hr : (Region.ready md ops listed).contains i = true := by kernel_rfl) (hw1 : waits md ops D i = true := by kernel_rfl) (hl : closedB md ops listed = true := by kernel_rfl) (hDi : D i = false := by kernel_rfl)
 (hQ : ∀ c a w, Q (.panic c) (a.put oi.dst undef) w → Q (.panic c) a w := by exact fun _ _ _ h => h) (hw : Region.wanted oi (yielded ops a.tmps) = false := by rfl) (hS : S w := by assumption) :
 wpAnyG P md ops Q S D (fuel + 1) listed a w := wpAnyG_take hi hs hf hr hw1 hl hDi hQ (.inr ⟨hw, rfl⟩) hS h
end
end Go.Proofs.YtjbdgjbmbohfmaaGreatDoor

namespace Go.Proofs.YtjbdgjbmbohfmaaGreatDoor
open Go Go.Proofs Go.RowKit

theorem freeL_name {t : TreeD} {s : ByteArray} : ∀ {f i : Nat} {env : List ByteArray}, s ∈ freeL t f i env → ∃ (j : Nat) (x : TermD), t.nodes[j]? = some x ∧ x.kind = 0 ∧ x.name = s
 | 0, i, env, h => by simp [freeL] at h
 | f + 1, i, env, h => by
  unfold freeL at h
  split at h
  ·simp at h
  ·rename_i n hn
   rcases List.mem_append.1 h with h | h
   ·split at h
    ·rename_i hk
     simp only [List.mem_singleton] at h
     exact ⟨i, n, hn, hk.1, h.symm⟩
    ·simp at h
   ·obtain ⟨j, k, _, h2⟩ := freeK_mem.1 h
    exact freeL_name h2
theorem rise_nodup {ns : List ByteArray} (h : Rise ns) : ns.Nodup := List.Pairwise.imp (fun {a b} hab e => by subst e; exact List.lt_irrefl _ hab) h
theorem free_len {t : TreeD} {ns : List ByteArray} {f i : Nat} {env : List ByteArray} (h : Rise ns) (hm : ∀ s, s ∈ ns → s ∈ freeL t f i env) : ns.length ≤ t.nodes.length := by
 have := nodup_le (rise_nodup h) (m := t.nodes.map (·.name)) fun s hs => by
  obtain ⟨j, x, hx, _, rfl⟩ := freeL_name (hm s hs)
  exact List.mem_map.2 ⟨x, List.mem_of_getElem? hx, rfl⟩
 simpa using this
theorem free_noName {t : TreeD} (hR : Rng t) {f i : Nat} {env : List ByteArray} : noName ∉ freeL t f i env := fun h => by
 obtain ⟨j, x, hx, h0, hn⟩ := freeL_name h
 have hb := (hR.nod j x hx).2.2
 unfold termB at hb
 rw [if_pos h0, hn] at hb
 simp [holdsB] at hb
 exact absurd hb.2.1 (by decide)
end Go.Proofs.YtjbdgjbmbohfmaaGreatDoor

namespace Go.Proofs.YtjbdgjbmbohfmaaGreatDoor
open Go Go.Proofs Go.RowKit

theorem rds_at {w : World} {A : Option Addr} {xs : List ByteArray} {k : Nat} (h : RdAt w A (xs.map .string)) (hk : k < xs.length) : ∃ b off, A = some ⟨b, off, none⟩ ∧ w.cell? ⟨b, off + k, none⟩ = some (.string xs[k]) := by
 rcases h with h | ⟨b, off, e, h⟩
 ·have : xs = [] := by simpa using h
  subst this
  simp at hk
 ·exact ⟨b, off, e, h k _ (by simp [hk])⟩

set_option maxRecDepth 100000 in
set_option maxHeartbeats 2000000 in
theorem lsame_any (A1 A2 : Option Addr) (c1 c2 : Nat) (xs ys : List ByteArray) (w : World) (h1 : RdAt w A1 (xs.map .string)) (h2 : RdAt w A2 (ys.map .string)) (hx : xs.length ≤ 1000000) (hy : ys.length ≤ 1000000) :
 Calls Tryz.prog 37 #[.slice A1 xs.length c1, .slice A2 ys.length c2] w fun e w' => e = .returned (.bool (decide (xs = ys))) ∧ Below w.heap.size w w' := by
 obtain ⟨r, hr⟩ : ∃ r, decide (xs = ys) = r := ⟨_, rfl⟩
 rw [hr]
 have HR := Lib.hid hr
 clear hr
 by_cases hlen : xs.length = ys.length
 ·obtain ⟨n, hn⟩ : ∃ n, ys.length = n := ⟨_, rfl⟩
  rw [hn] at hlen hy ⊢
  rw [hlen] at hx ⊢
  have HX := Lib.hid hlen
  have HY := Lib.hid hn
  clear hlen hn
  have hne : ((n : Int) != (n : Int)) = false := by simp
  have hB0 := Below.refl w.heap.size w
  go_enter Tryz.func37, Tryz.ntmps37
  go_wp2
  go_loopw [5, 13] (fun _ i wr => ∃ k : Nat, k ≤ n ∧ i = .int .i64 k ∧ Hid (xs.take k = ys.take k) ∧ Below w.heap.size w wr ∧ ∃ d, wr = w.drewN d) (fun _ i _ => n - (intOf i).toNat)
  case atStart => exact ⟨0, Nat.zero_le _, rfl, Lib.hid (by simp), hB0, 0, rfl⟩
  case round =>
   obtain ⟨k, hk, rfl, HT, hB, d, hwr⟩ := hrel
   by_cases hlt : k < n
   ·have lx : k < xs.length := by rw [HX.out]; exact hlt
    have ly : k < ys.length := by rw [HY.out]; exact hlt
    obtain ⟨b, off, rfl, e1⟩ := rds_at h1 lx
    obtain ⟨b', off', rfl, e2⟩ := rds_at h2 ly
    have f1 : wr.cell? ⟨b, off + k, none⟩ = some (.string xs[k]) := by rw [hwr]; exact e1
    have f2 : wr.cell? ⟨b', off' + k, none⟩ = some (.string ys[k]) := by rw [hwr]; exact e2
    have htx : xs.take (k + 1) = xs.take k ++ [xs[k]] := List.take_succ_eq_append_getElem lx
    have hty : ys.take (k + 1) = ys.take k ++ [ys[k]] := List.take_succ_eq_append_getElem ly
    have hbad : xs[k] ≠ ys[k] → r = false := fun h => by
     rw [← HR.out, decide_eq_false_iff_not]
     intro he
     subst he
     exact h rfl
    obtain ⟨x, hxk⟩ : ∃ x, xs[k] = x := ⟨_, rfl⟩
    obtain ⟨y, hyk⟩ : ∃ y, ys[k] = y := ⟨_, rfl⟩
    rw [hxk] at f1 htx hbad
    rw [hyk] at f2 hty hbad
    have HTX := Lib.hid htx
    have HTY := Lib.hid hty
    have HBAD := Lib.hid hbad
    have HW := Lib.hid hwr
    clear hxk hyk htx hty hbad e1 e2 hwr h1 h2
    have i1 : (0 : Int) ≤ (k : Int) := by omega
    have i2 : (k : Int) < (n : Int) := by omega
    by_cases hxy : x = y
    ·subst hxy
     have hq : (x.toList != x.toList) = false := by simp
     have hq2 : (x.toList == x.toList) = true := by simp
     go_wp2
     go_quiet (fail)
     go_wp2
     go_roundw
     case rel => exact ⟨k + 1, by omega, by go_num, Lib.hid (by rw [HTX.out, HTY.out, HT.out]), hB.trans (below_drewN _ _ _), by have := HW.out; subst this; exact ⟨_, drewN_two _ _ _⟩⟩
     case measure => simp [intOf]; omega
    ·have hq : (x.toList == y.toList) = false := by rw [beq_eq_false_iff_ne]; exact fun e => hxy (rtoList_inj e)
     have hq2 : (x.toList != y.toList) = true := by rw [bne_iff_ne]; exact fun e => hxy (rtoList_inj e)
     have HF := Lib.hid (HBAD.out hxy)
     go_wp2
     go_quiet (fail)
     go_wp2
     go_ret
     exact ⟨ret_bool HF.out.symm, hB.trans (below_drewN _ _ _)⟩
   ·obtain rfl : k = n := by omega
    have hT : r = true := by
     rw [← HR.out, decide_eq_true_eq]
     have := HT.out
     rwa [List.take_of_length_le (Nat.le_of_eq HX.out), List.take_of_length_le (Nat.le_of_eq HY.out)] at this
    have HF := Lib.hid hT
    clear hT hwr
    go_wp2
    go_ret
    exact ⟨ret_bool HF.out.symm, hB⟩
 ·have hF : r = false := by
   rw [← HR.out, decide_eq_false_iff_not]
   intro he
   subst he
   exact hlen rfl
  have HF := Lib.hid hF
  clear hF
  have hne : ((xs.length : Int) != (ys.length : Int)) = true := by rw [bne_iff_ne]; omega
  go_enter Tryz.func37, Tryz.ntmps37
  go_wp2
  go_ret
  exact ⟨ret_bool HF.out.symm, Below.refl _ _⟩
end Go.Proofs.YtjbdgjbmbohfmaaGreatDoor

namespace Go.Proofs.YtjbdgjbmbohfmaaGreatDoor
open Go Go.Proofs Go.RowKit

set_option maxHeartbeats 2000000 in
theorem nan138_any (a : Int) (w : World) : Calls Tryz.prog 138 #[.int .i64 a] w fun e w' => e = .returned (.bool false) ∧ w = w' := by
 have h : (a != a) = false := by simp
 go_enter Tryz.func138, Tryz.ntmps138
 go_wp2
 go_ret
 exact ⟨rfl, rfl⟩
set_option maxHeartbeats 2000000 in
theorem nan139_any (a : Int) (w : World) : Calls Tryz.prog 139 #[.int .i64 a] w fun e w' => e = .returned (.bool false) ∧ w = w' := by
 have h : (a != a) = false := by simp
 go_enter Tryz.func139, Tryz.ntmps139
 go_wp2
 go_ret
 exact ⟨rfl, rfl⟩
set_option maxHeartbeats 2000000 in
theorem nan140_any (a : ByteArray) (w : World) : Calls Tryz.prog 140 #[.string a] w fun e w' => e = .returned (.bool false) ∧ w = w' := by
 have h : (a.toList != a.toList) = false := by simp
 go_enter Tryz.func140, Tryz.ntmps140
 go_wp2
 go_ret
 exact ⟨rfl, rfl⟩
set_option maxHeartbeats 4000000 in
theorem cmp74_any (a b : Int) (w : World) : Calls Tryz.prog 74 #[.int .i64 a, .int .i64 b] w fun e w' => e = .returned (.int .i64 (cmpI a b)) ∧ w = w' := by
 have c := nan138_any
 unfold cmpI
 by_cases h1 : a < b
 ·rw [if_pos h1]
  go_enter Tryz.func74, Tryz.ntmps74
  go_wp2_with (go_at_call 138; refine (c _ _).mono ?_; rintro e w' ⟨rfl, rfl⟩)
  go_ret
  exact ⟨rfl, rfl⟩
 ·rw [if_neg h1]
  by_cases h2 : b < a
  ·rw [if_pos h2]
   go_enter Tryz.func74, Tryz.ntmps74
   go_wp2_with (go_at_call 138; refine (c _ _).mono ?_; rintro e w' ⟨rfl, rfl⟩)
   go_ret
   exact ⟨rfl, rfl⟩
  ·rw [if_neg h2]
   go_enter Tryz.func74, Tryz.ntmps74
   go_wp2_with (go_at_call 138; refine (c _ _).mono ?_; rintro e w' ⟨rfl, rfl⟩)
   go_ret
   exact ⟨rfl, rfl⟩
set_option maxHeartbeats 4000000 in
theorem cmp75_any (a b : Int) (w : World) : Calls Tryz.prog 75 #[.int .i64 a, .int .i64 b] w fun e w' => e = .returned (.int .i64 (cmpI a b)) ∧ w = w' := by
 have c := nan139_any
 unfold cmpI
 by_cases h1 : a < b
 ·rw [if_pos h1]
  go_enter Tryz.func75, Tryz.ntmps75
  go_wp2_with (go_at_call 139; refine (c _ _).mono ?_; rintro e w' ⟨rfl, rfl⟩)
  go_ret
  exact ⟨rfl, rfl⟩
 ·rw [if_neg h1]
  by_cases h2 : b < a
  ·rw [if_pos h2]
   go_enter Tryz.func75, Tryz.ntmps75
   go_wp2_with (go_at_call 139; refine (c _ _).mono ?_; rintro e w' ⟨rfl, rfl⟩)
   go_ret
   exact ⟨rfl, rfl⟩
  ·rw [if_neg h2]
   go_enter Tryz.func75, Tryz.ntmps75
   go_wp2_with (go_at_call 139; refine (c _ _).mono ?_; rintro e w' ⟨rfl, rfl⟩)
   go_ret
   exact ⟨rfl, rfl⟩
/-- The order of strings is that of their bytes' lists. -/
theorem bl_dec (x : List UInt8) : ∀ y : List UInt8, Op.bytesLess x y = decide (x < y) := by
 induction x with
 | nil => intro y; cases y <;> simp [Op.bytesLess]
 | cons a x ih =>
  intro y
  cases y with
  | nil => simp [Op.bytesLess]
  | cons b y =>
   have e := ih y
   rw [Bool.eq_iff_iff] at e ⊢
   unfold Op.bytesLess
   rw [decide_eq_true_eq] at e ⊢
   rw [List.cons_lt_cons_iff, Bool.or_eq_true, Bool.and_eq_true, e, decide_eq_true_eq, beq_iff_eq]
theorem bl_iff (a b : ByteArray) : Op.bytesLess a.toList b.toList = decide (a.data.toList < b.data.toList) := by rw [bl_dec, Lib.toList_data, Lib.toList_data]
theorem dl_eq {a b : ByteArray} (h : ¬ a.data.toList < b.data.toList) (k : ¬ b.data.toList < a.data.toList) : a = b := by
 have e : a.data.toList = b.data.toList := List.le_antisymm (List.not_lt.1 k) (List.not_lt.1 h)
 obtain ⟨⟨a⟩⟩ := a
 obtain ⟨⟨b⟩⟩ := b
 simp only at e
 rw [e]
set_option maxHeartbeats 4000000 in
theorem cmp76_any (a b : ByteArray) (w : World) : Calls Tryz.prog 76 #[.string a, .string b] w fun e w' => e = .returned (.int .i64 (cmpS a b)) ∧ w = w' := by
 have c := nan140_any
 unfold cmpS
 have f1 := bl_iff a b
 by_cases h1 : a.data.toList < b.data.toList
 ·rw [if_pos h1]
  rw [decide_eq_true h1] at f1
  clear h1
  go_enter Tryz.func76, Tryz.ntmps76
  go_wp2_with (go_at_call 140; refine (c _ _).mono ?_; rintro e w' ⟨rfl, rfl⟩)
  go_ret
  exact ⟨rfl, rfl⟩
 ·rw [if_neg h1]
  rw [decide_eq_false h1] at f1
  by_cases h2 : b.data.toList < a.data.toList
  ·rw [if_pos h2]
   have f2 : (a.toList == b.toList) = false := by
    rw [beq_eq_false_iff_ne]
    intro e
    rw [Lib.toList_data, Lib.toList_data] at e
    rw [e] at h2
    exact List.lt_irrefl _ h2
   clear h1 h2
   go_enter Tryz.func76, Tryz.ntmps76
   go_wp2_with (go_at_call 140; refine (c _ _).mono ?_; rintro e w' ⟨rfl, rfl⟩)
   go_ret
   exact ⟨rfl, rfl⟩
  ·rw [if_neg h2]
   have f2 : (a.toList == b.toList) = true := by rw [dl_eq h1 h2]; simp
   clear h1 h2
   go_enter Tryz.func76, Tryz.ntmps76
   go_wp2_with (go_at_call 140; refine (c _ _).mono ?_; rintro e w' ⟨rfl, rfl⟩)
   go_ret
   exact ⟨rfl, rfl⟩

set_option maxHeartbeats 4000000 in
/-- cmp.Or of three. -/
theorem or_any (A : Option Addr) (c : Nat) (x y z : Int) (w : World) (h : RdAt w A [.int .i64 x, .int .i64 y, .int .i64 z]) :
 Calls Tryz.prog 73 #[.slice A 3 c] w fun e w' => e = .returned (.int .i64 (orI x y z)) ∧ w = w' := by
 rcases h with h | ⟨b, off, rfl, hc⟩
 ·cases h
 have e0 := hc 0 _ rfl
 have e1 := hc 1 _ rfl
 have e2 := hc 2 _ rfl
 rw [Nat.add_zero] at e0
 obtain ⟨R, hR⟩ : ∃ R, orI x y z = R := ⟨_, rfl⟩
 rw [hR]
 have HR := Lib.hid hR
 clear hR hc
 go_enter Tryz.func73, Tryz.ntmps73
 go_wp2
 go_loopw [5, 8] (fun _ vc wr => ∃ k : Nat, k ≤ 3 ∧ vc = .int .i64 (k : Int) ∧ Hid ((0 < k → x = 0) ∧ (1 < k → y = 0) ∧ (2 < k → z = 0)) ∧ wr = w) (fun _ vc _ => 3 - (intOf vc).toNat)
 case atStart => exact ⟨0, by omega, rfl, Lib.hid ⟨by omega, by omega, by omega⟩, rfl⟩
 case round =>
  obtain ⟨k, hk, rfl, HK, rfl⟩ := hrel
  have hcase : k = 0 ∨ k = 1 ∨ k = 2 ∨ k = 3 := by omega
  rcases hcase with rfl | rfl | rfl | rfl
  ·by_cases hx : x = 0
   ·subst hx
    go_wp2
    go_roundw
    case rel => exact ⟨1, by omega, rfl, Lib.hid ⟨fun _ => (by first | rfl | trivial), by omega, by omega⟩, trivial⟩
    case measure => simp [intOf]
   ·have hq : (x != 0) = true := by simpa using hx
    have hr : R = x := by rw [← HR.out]; unfold orI; rw [if_pos hx]
    subst hr
    go_wp2
    go_ret
    exact ⟨rfl, rfl⟩
  ·have hx0 := HK.out.1 (by omega)
   by_cases hx : y = 0
   ·subst hx
    have HX := Lib.hid hx0
    clear hx0
    go_wp2
    go_roundw
    case rel => exact ⟨2, by omega, rfl, Lib.hid ⟨fun _ => HX.out, fun _ => (by first | rfl | trivial), by omega⟩, trivial⟩
    case measure => simp [intOf]
   ·have hq : (y != 0) = true := by simpa using hx
    have hr : R = y := by rw [← HR.out]; unfold orI; rw [if_neg (by simpa using hx0), if_pos hx]
    subst hr
    clear hx0
    go_wp2
    go_ret
    exact ⟨rfl, rfl⟩
  ·have hx0 := HK.out.1 (by omega)
   have hy0 := HK.out.2.1 (by omega)
   by_cases hx : z = 0
   ·subst hx
    have HX := Lib.hid hx0
    have HY := Lib.hid hy0
    clear hx0 hy0
    go_wp2
    go_roundw
    case rel => exact ⟨3, by omega, rfl, Lib.hid ⟨fun _ => HX.out, fun _ => HY.out, fun _ => (by first | rfl | trivial)⟩, trivial⟩
    case measure => simp [intOf]
   ·have hq : (z != 0) = true := by simpa using hx
    have hr : R = z := by rw [← HR.out]; unfold orI; rw [if_neg (by simpa using hx0), if_neg (by simpa using hy0)]
    subst hr
    clear hx0 hy0
    go_wp2
    go_ret
    exact ⟨rfl, rfl⟩
  ·have hr : R = 0 := by rw [← HR.out]; unfold orI; rw [if_neg (by simpa using HK.out.1 (by omega)), if_neg (by simpa using HK.out.2.1 (by omega))]; exact HK.out.2.2 (by omega)
   subst hr
   go_wp2
   go_ret
   exact ⟨rfl, rfl⟩
end Go.Proofs.YtjbdgjbmbohfmaaGreatDoor

namespace Go.Proofs.YtjbdgjbmbohfmaaGreatDoor
open Go Go.Proofs Go.RowKit

attribute [local go_sem ↓] Go.wp_at_zero Go.wp_at_succ

abbrev diagV (a : DiagD) : Value := .agg #[.int .i64 a.err, .int .i64 a.pos, .string a.name]

theorem cellG_new (w : World) (cs : Array Value) (t : TypeId) (j : Nat) (u : Value) (h : cs.toList[j]? = some u) : (w.alloc (.cells cs t)).cell? ⟨w.heap.size, 0 + j, none⟩ = some u := by
 have := (Blk.new w t cs).cell (0 + j)
 rw [this]
 simpa using h

set_option maxRecDepth 100000 in
set_option maxHeartbeats 4000000 in
theorem less_any (a b : DiagD) (w : World) : Calls Tryz.prog 72 #[diagV a, diagV b] w fun e w' => e = .returned (.int .i64 (cmpD a b)) ∧ Below w.heap.size w w' := by
 obtain ⟨W0, hW0⟩ : ∃ W0, (w.alloc (.cells #[.int .i64 a.err, .int .i64 a.pos, .string a.name] 31)).alloc (.cells #[.int .i64 b.err, .int .i64 b.pos, .string b.name] 31) = W0 := ⟨_, rfl⟩
 have hb0 : Below w.heap.size w W0 := by rw [← hW0]; exact ((Below.refl _ w).alloc (Nat.le_refl _) _).alloc (by simp) _
 have hX : Blk W0 w.heap.size 31 #[.int .i64 a.err, .int .i64 a.pos, .string a.name] := by rw [← hW0]; exact (Blk.new w 31 _).alloc _
 have hY : Blk W0 (w.heap.size + 1) 31 #[.int .i64 b.err, .int .i64 b.pos, .string b.name] := by
  rw [← hW0]
  have := Blk.new (w.alloc (.cells #[.int .i64 a.err, .int .i64 a.pos, .string a.name] 31)) 31 #[.int .i64 b.err, .int .i64 b.pos, .string b.name]
  simpa using this
 have x0 := hX.cell 0
 have x1 := hX.cell 1
 have x2 := hX.cell 2
 have y0 := hY.cell 0
 have y1 := hY.cell 1
 have y2 := hY.cell 2
 simp only [List.getElem?_toArray, List.getElem?_cons_zero, List.getElem?_cons_succ] at x0 x1 x2 y0 y1 y2
 have HB0 := Lib.hid hb0
 clear hb0
 go_enter Tryz.func72, Tryz.ntmps72
 go_wp2_with fail
 have HSO := Lib.hid (show ∀ W, Below W0.heap.size W0 W → (W.cell? ⟨w.heap.size, 0, none⟩ = some (.int .i64 a.err) ∧ W.cell? ⟨w.heap.size, 1, none⟩ = some (.int .i64 a.pos) ∧ W.cell? ⟨w.heap.size, 2, none⟩ = some (.string a.name) ∧ W.cell? ⟨w.heap.size + 1, 0, none⟩ = some (.int .i64 b.err) ∧ W.cell? ⟨w.heap.size + 1, 1, none⟩ = some (.int .i64 b.pos) ∧ W.cell? ⟨w.heap.size + 1, 2, none⟩ = some (.string b.name) ∧ Below W0.heap.size W0 W) from fun W hb => ⟨(hb.cell (p := ⟨w.heap.size, 0, none⟩) hX.lt).trans x0, (hb.cell (p := ⟨w.heap.size, 1, none⟩) hX.lt).trans x1, (hb.cell (p := ⟨w.heap.size, 2, none⟩) hX.lt).trans x2, (hb.cell (p := ⟨w.heap.size + 1, 0, none⟩) hY.lt).trans y0, (hb.cell (p := ⟨w.heap.size + 1, 1, none⟩) hY.lt).trans y1, (hb.cell (p := ⟨w.heap.size + 1, 2, none⟩) hY.lt).trans y2, hb⟩)
 clear x0 x1 x2 y0 y1 y2 hW0
 refine wp_region_heldG (S := fun W => W.cell? ⟨w.heap.size, 0, none⟩ = some (.int .i64 a.err) ∧ W.cell? ⟨w.heap.size, 1, none⟩ = some (.int .i64 a.pos) ∧ W.cell? ⟨w.heap.size, 2, none⟩ = some (.string a.name) ∧ W.cell? ⟨w.heap.size + 1, 0, none⟩ = some (.int .i64 b.err) ∧ W.cell? ⟨w.heap.size + 1, 1, none⟩ = some (.int .i64 b.pos) ∧ W.cell? ⟨w.heap.size + 1, 2, none⟩ = some (.string b.name) ∧ Below W0.heap.size W0 W) (fun _ => false) (by kernel_rfl) (HSO.out _ (Below.refl _ W0).drew) (fun hHeld => ?_)
 refine tkG 0 ?_
 try simp only [Act.put, List.setIfInBounds_toArray, List.set_cons_zero, List.set_cons_succ]
 refine tkG 1 ?_
 try simp only [Act.put, List.setIfInBounds_toArray, List.set_cons_zero, List.set_cons_succ]
 refine tkG 2 ?_
 try simp only [Act.put, List.setIfInBounds_toArray, List.set_cons_zero, List.set_cons_succ]
 refine tkG 3 ?_
 try simp only [Act.put, List.setIfInBounds_toArray, List.set_cons_zero, List.set_cons_succ]
 refine tkG 5 ?_
 try simp only [Act.put, List.setIfInBounds_toArray, List.set_cons_zero, List.set_cons_succ]
 refine tkG 6 ?_
 try simp only [Act.put, List.setIfInBounds_toArray, List.set_cons_zero, List.set_cons_succ]
 refine tkG 7 ?_
 try simp only [Act.put, List.setIfInBounds_toArray, List.set_cons_zero, List.set_cons_succ]
 refine tkG 8 ?_
 try simp only [Act.put, List.setIfInBounds_toArray, List.set_cons_zero, List.set_cons_succ]
 refine tkG 10 ?_
 try simp only [Act.put, List.setIfInBounds_toArray, List.set_cons_zero, List.set_cons_succ]
 refine tkG 11 ?_
 try simp only [Act.put, List.setIfInBounds_toArray, List.set_cons_zero, List.set_cons_succ]
 refine tkG 12 ?_
 try simp only [Act.put, List.setIfInBounds_toArray, List.set_cons_zero, List.set_cons_succ]
 refine tkG 13 ?_
 try simp only [Act.put, List.setIfInBounds_toArray, List.set_cons_zero, List.set_cons_succ]
 refine rdG 4 (fun K hK => ?_)
 go_simp
 refine (cmp74_any _ _ _).mono ?_
 rintro e w1 ⟨rfl, rfl⟩
 dsimp only
 refine hK.out _ _ (HSO.out _ (Below.refl _ W0).drew) (fun hHeld => ?_)
 clear hK K 
 try simp only [Act.put, List.setIfInBounds_toArray, List.set_cons_zero, List.set_cons_succ]
 refine rdG 9 (fun K hK => ?_)
 go_simp
 refine (cmp75_any _ _ _).mono ?_
 rintro e w1 ⟨rfl, rfl⟩
 dsimp only
 refine hK.out _ _ (HSO.out _ (Below.refl _ W0).drew) (fun hHeld => ?_)
 clear hK K 
 try simp only [Act.put, List.setIfInBounds_toArray, List.set_cons_zero, List.set_cons_succ]
 refine rdG 14 (fun K hK => ?_)
 go_simp
 refine (cmp76_any _ _ _).mono ?_
 rintro e w1 ⟨rfl, rfl⟩
 dsimp only
 refine hK.out _ _ (HSO.out _ (Below.refl _ W0).drew) (fun hHeld => ?_)
 clear hK K 
 try simp only [Act.put, List.setIfInBounds_toArray, List.set_cons_zero, List.set_cons_succ]
 refine rdG 15 (fun K hK => ?_)
 go_simp
 obtain ⟨Wn, hWn⟩ : ∃ W, (W0.alloc (.cells #[.int .i64 (cmpI a.pos b.pos), .int .i64 (cmpI a.err b.err), .int .i64 (cmpS a.name b.name)] 3)).drew = W := ⟨_, rfl⟩
 rw [hWn]
 have hBn : Below W0.heap.size W0 Wn := by rw [← hWn]; exact ((Below.refl _ W0).alloc (Nat.le_refl _) _).drew
 have hRn : RdAt Wn (some ⟨W0.heap.size, 0, none⟩) [.int .i64 (cmpI a.pos b.pos), .int .i64 (cmpI a.err b.err), .int .i64 (cmpS a.name b.name)] := by rw [← hWn]; exact .inr ⟨_, _, rfl, fun j u hu => by have := cellG_new W0 #[.int .i64 (cmpI a.pos b.pos), .int .i64 (cmpI a.err b.err), .int .i64 (cmpS a.name b.name)] 3 j u hu; simpa using this⟩
 refine hK.out _ _ (HSO.out _ hBn) (fun hHeld => ?_)
 clear hK K hWn hHeld
 try simp only [Act.put, List.setIfInBounds_toArray, List.set_cons_zero, List.set_cons_succ]
 refine rdG 16 (fun K hK => ?_)
 go_simp
 refine (or_any _ _ _ _ _ _ hRn).mono ?_
 rintro e w1 ⟨rfl, rfl⟩
 dsimp only
 refine hK.out _ _ (HSO.out _ hBn) (fun hHeld => ?_)
 clear hK K 
 try simp only [Act.put, List.setIfInBounds_toArray, List.set_cons_zero, List.set_cons_succ]
 have hHeld := HSO.out _ hBn
 refine tkG 17 ?_
 try simp only [Act.put, List.setIfInBounds_toArray, List.set_cons_zero, List.set_cons_succ]
 clear hHeld
 refine wpAnyG_done (by kernel_rfl) ?_ _
 go_wp2
 go_ret
 exact ⟨rfl, HB0.out.trans (hBn.mono HB0.out.size)⟩
end Go.Proofs.YtjbdgjbmbohfmaaGreatDoor

namespace Go.Proofs.YtjbdgjbmbohfmaaGreatDoor
open Go Go.Proofs Go.RowKit

attribute [local go_sem ↓] Go.wp_at_zero Go.wp_at_succ

def slLen : Value → Nat
 | .slice _ n _ => n
 | _ => 0
theorem tree_onZ {w W : World} {t : TreeD} {p : Ptr6} (hT : TreeAt (Lt w.heap.size) w t p) (hb : Below w.heap.size w W) : TreeAt (Lt W.heap.size) W t p := (hT.keep (keep_below hb)).imp (lt_mono hb.size)
theorem own_emptyZ (W : World) (e : TypeId) (base : Nat) (h : base ≤ W.heap.size) : (W.alloc (.cells #[] e)).ownsRow base e 1 (.slice (some ⟨W.heap.size, 0, none⟩) 0 0) 0 [] := by
 refine ⟨rfl, .inr ⟨W.heap.size, 0, #[], rfl, h, ?_, Nat.le_refl _, Nat.zero_le _, rfl, rfl⟩⟩
 show (W.heap.push _)[W.heap.size]? = _
 simp
def RowN (R : List Nat) (w : World) (e : Ending) (w' : World) : Prop := ∃ v, e = .returned v ∧ w'.ownsRow w.heap.size 3 1 v R.length (nvsZ R) ∧ Below w.heap.size w w'
theorem rowF_none {t : TreeD} {f i : Nat} {out : List Nat} (h : atYZ t i = none) : rowF t f i out = out := by
 cases f with
 | zero => rfl
 | succ f => unfold rowF; rw [h]
theorem rowF_in {t : TreeD} {f i k : Nat} {out : List Nat} (h : atYZ t i = some k) (hk : k ∈ out) : rowF t f i out = out := by
 cases f with
 | zero => rfl
 | succ f => unfold rowF; rw [h]; simp [hk]
theorem rowF_len {t : TreeD} : ∀ {f i : Nat} {out : List Nat}, (rowF t f i out).length ≤ out.length + f
 | 0, i, out => by unfold rowF; omega
 | f + 1, i, out => by
  unfold rowF
  split
  ·omega
  ·split
   ·omega
   ·have := @rowF_len t f (((t.aliases[‹Nat›]?).map (·.type.toNat)).getD 0) (out ++ [‹Nat›])
    simp only [List.length_append, List.length_singleton] at this
    omega

set_option maxRecDepth 100000 in
set_option maxHeartbeats 8000000 in
theorem row_any (t : TreeD) (p : Ptr6) (i0 : Nat) (w : World) (hT : TreeAt (Lt w.heap.size) w t p) (hR : Rng t) (hF : TreeFew t) (hi0 : i0 < t.types.length) :
 Calls Tryz.prog 79 #[treeV t p, .int .i64 (i0 : Int)] w (RowN (rowF t (t.aliases.length + 1) i0 []) w) := by
 obtain ⟨a1, c1, a2, c2, a3, c3⟩ := p
 obtain ⟨i3, hi, hz0, hz1, hz2⟩ := info_parts info3
 obtain ⟨W0, hW0⟩ : ∃ W0, (w.alloc (.cells #[.slice a1 t.nodes.length c1, .slice a2 t.types.length c2, .slice a3 t.aliases.length c3] 28)).alloc (.cells #[] 3) = W0 := ⟨_, rfl⟩
 obtain ⟨hb1, hX1, hT1⟩ := box_tree t ⟨a1, c1, a2, c2, a3, c3⟩ w _ hT rfl
 have hb0 : Below w.heap.size w W0 := by rw [← hW0]; exact hb1.alloc hb1.size _
 have hX0 : Blk W0 w.heap.size 28 #[.slice a1 t.nodes.length c1, .slice a2 t.types.length c2, .slice a3 t.aliases.length c3] := by rw [← hW0]; exact hX1.alloc _
 have hO0 : W0.ownsRow (w.heap.size + 1) 3 1 (.slice (some ⟨w.heap.size + 1, 0, none⟩) 0 0) 0 [] := by
  rw [← hW0]
  have := own_emptyZ (w.alloc (.cells #[.slice a1 t.nodes.length c1, .slice a2 t.types.length c2, .slice a3 t.aliases.length c3] 28)) 3 (w.heap.size + 1) (by simp)
  simpa using this
 have hz01 : w.heap.size + 1 < W0.heap.size := by rw [← hW0]; simp
 obtain ⟨R, hRR⟩ : ∃ R, rowF t (t.aliases.length + 1) i0 [] = R := ⟨_, rfl⟩
 rw [hRR]
 have HRR := Lib.hid hRR
 have HB0 := Lib.hid hb0
 have HX0 := Lib.hid hX0
 obtain ⟨b, off, rfl, hb, hcell0⟩ := hT.2.1 (by omega)
 dsimp only [Lt] at hb
 have HT := Lib.hid hT
 have HCL := Lib.hid hcell0
 have HO0 := Lib.hid hO0
 have HRN := Lib.hid hR
 have HF := Lib.hid hF
 have hla : t.aliases.length ≤ 1000 := hF.2.2.2.1
 clear hb1 hX1 hT1 hb0 hX0 hT hO0 hRR hR hF hcell0
 go_enter Tryz.func79, Tryz.ntmps79
 go_wp2
 clear hW0
 go_loopw [1, 5, 6, 8] (fun vi vout _ _ wr => ∃ (X : World) (V : Value) (f i : Nat) (out : List Nat), X = wr ∧ V = vout ∧ vi = .int .i64 (i : Int) ∧ i < t.types.length ∧ Hid (out.length + f = t.aliases.length + 1) ∧ Hid (out.Nodup ∧ ∀ k ∈ out, k < t.aliases.length) ∧ Hid (rowF t f i out = R) ∧ Hid (wr.ownsRow (w.heap.size + 1) 3 1 V out.length (nvsZ out)) ∧ Hid (Below (w.heap.size + 1) W0 wr)) (fun _ vout _ _ _ => t.aliases.length + 1 - slLen vout)
 case atStart => exact ⟨_, _, t.aliases.length + 1, i0, [], rfl, rfl, rfl, hi0, Lib.hid (by simp), Lib.hid ⟨List.nodup_nil, by simp⟩, HRR, HO0, Lib.hid (Below.refl _ _)⟩
 case round =>
  obtain ⟨wr, V, f, i, out, rfl, rfl, rfl, hil, HFU, HND, HK, HO, HBr⟩ := hrel
  obtain ⟨A, c, rfl⟩ := own_sliceZ HO.out
  have hzr0 := HBr.out.size
  have hzr : w.heap.size < wr.heap.size := by omega
  have hXr : Blk wr w.heap.size 28 #[.slice a1 t.nodes.length c1, .slice (some ⟨b, off, none⟩) t.types.length c2, .slice a3 t.aliases.length c3] := (HBr.out.block _ (by omega)).trans HX0.out
  have hBw : Below w.heap.size w wr := HB0.out.trans (HBr.out.mono (by omega))
  have HTr := Lib.hid (tree_onZ HT.out hBw)
  have HBW := Lib.hid hBw
  have y0 := hXr.cell 0
  have y1 := hXr.cell 1
  have y2 := hXr.cell 2
  simp only [List.getElem?_toArray, List.getElem?_cons_zero, List.getElem?_cons_succ] at y0 y1 y2
  obtain ⟨q, _, hq⟩ := HCL.out i t.types[i] (List.getElem?_eq_getElem hil)
  obtain ⟨⟨kind, pos, nm, nms, kids, opn⟩, hx⟩ : ∃ x, t.types[i] = x := ⟨_, rfl⟩
  have hget : t.types[i]? = some ⟨kind, pos, nm, nms, kids, opn⟩ := by rw [List.getElem?_eq_getElem hil, hx]
  rw [hx] at hq
  have e0 := (hBw.cell (p := ⟨b, off + i * 6 + 0, none⟩) hb).trans (hq 0 _ rfl)
  have e2 := (hBw.cell (p := ⟨b, off + i * 6 + 2, none⟩) hb).trans (hq 2 _ rfl)
  dsimp only at e0 e2
  rw [Nat.add_zero] at e0
  have hbw : b < wr.heap.size := by omega
  have HGET := Lib.hid hget
  clear hq hx hget hXr hBw
  by_cases hk10 : kind = 10
  rotate_left
  ·have hr : R = out := by rw [← HK.out]; exact rowF_none (by unfold atYZ; rw [HGET.out]; simp [hk10])
   have hkb : (kind == 10) = false := by simp [hk10]
   subst hr
   go_wp2
   go_ret
   exact ⟨_, rfl, own_baseZ (base' := w.heap.size) HO.out (by omega), HBW.out⟩
  ·subst hk10
   have hat : atYZ t i = firstA t.aliases nm := by unfold atYZ; rw [HGET.out]; simp
   have HAT := Lib.hid hat
   have HCN : Hid (∀ W, TreeAt (Lt W.heap.size) W t ⟨a1, c1, some ⟨b, off, none⟩, c2, a3, c3⟩ → Calls Tryz.prog 78 #[treeV t ⟨a1, c1, some ⟨b, off, none⟩, c2, a3, c3⟩, .string nm] W fun e w' => e = .returned (.int .i64 (idxV (nmdN t.aliases nm 0))) ∧ Below W.heap.size W w') := Lib.hid fun W hT => rnamed_any t _ nm W hT hla
   clear hat
   go_wp2_with fail
   have HSO := Lib.hid (show ∀ W, Below wr.heap.size wr W → (W.cell? ⟨w.heap.size, 0, none⟩ = some (.slice a1 t.nodes.length c1) ∧ W.cell? ⟨w.heap.size, 1, none⟩ = some (.slice (some ⟨b, off, none⟩) t.types.length c2) ∧ W.cell? ⟨w.heap.size, 2, none⟩ = some (.slice a3 t.aliases.length c3) ∧ W.cell? ⟨b, off + i * 6 + 2, none⟩ = some (.string nm) ∧ Below wr.heap.size wr W) from fun W hb => ⟨(hb.cell (p := ⟨w.heap.size, 0, none⟩) hzr).trans y0, (hb.cell (p := ⟨w.heap.size, 1, none⟩) hzr).trans y1, (hb.cell (p := ⟨w.heap.size, 2, none⟩) hzr).trans y2, (hb.cell (p := ⟨b, off + i * 6 + 2, none⟩) hbw).trans e2, hb⟩)
   clear y0 y1 y2 e2 e0
   refine wp_region_heldG (S := fun W => W.cell? ⟨w.heap.size, 0, none⟩ = some (.slice a1 t.nodes.length c1) ∧ W.cell? ⟨w.heap.size, 1, none⟩ = some (.slice (some ⟨b, off, none⟩) t.types.length c2) ∧ W.cell? ⟨w.heap.size, 2, none⟩ = some (.slice a3 t.aliases.length c3) ∧ W.cell? ⟨b, off + i * 6 + 2, none⟩ = some (.string nm) ∧ Below wr.heap.size wr W) (fun _ => false) (by kernel_rfl) (HSO.out _ (Below.refl _ wr).drew) (fun hHeld => ?_)
   refine tkG 0 ?_
   try simp only [Act.put, List.setIfInBounds_toArray, List.set_cons_zero, List.set_cons_succ]
   refine tkG 1 ?_
   try simp only [Act.put, List.setIfInBounds_toArray, List.set_cons_zero, List.set_cons_succ]
   refine tkG 2 ?_
   try simp only [Act.put, List.setIfInBounds_toArray, List.set_cons_zero, List.set_cons_succ]
   refine tkG 3 ?_
   try simp only [Act.put, List.setIfInBounds_toArray, List.set_cons_zero, List.set_cons_succ]
   refine tkG 4 ?_
   try simp only [Act.put, List.setIfInBounds_toArray, List.set_cons_zero, List.set_cons_succ]
   refine tkG 5 ?_
   try simp only [Act.put, List.setIfInBounds_toArray, List.set_cons_zero, List.set_cons_succ]
   refine tkG 6 ?_
   try simp only [Act.put, List.setIfInBounds_toArray, List.set_cons_zero, List.set_cons_succ]
   refine rdG 7 (fun K hK => ?_)
   go_simp
   refine (HCN.out wr.drew (tree_onZ HTr.out (Below.refl _ wr).drew)).mono ?_
   rintro e w2 ⟨rfl, hb2⟩
   have hb2' : Below wr.heap.size wr w2 := (Below.refl _ wr).drew.trans hb2
   dsimp only
   refine hK.out _ _ (HSO.out _ hb2') (fun hHeld => ?_)
   clear hK K 
   try simp only [Act.put, List.setIfInBounds_toArray, List.set_cons_zero, List.set_cons_succ]
   have hHeld := HSO.out _ hb2'
   refine tkG 8 ?_
   try simp only [Act.put, List.setIfInBounds_toArray, List.set_cons_zero, List.set_cons_succ]
   obtain ⟨y0, y1, y2, _, _⟩ := hHeld
   refine wpAnyG_done (by kernel_rfl) ?_ _
   have HO2 := Lib.hid (own_belowZ HO.out hb2')
   have HB2 := Lib.hid (HBr.out.trans (hb2'.mono (by omega)))
   have HTr2 := Lib.hid (tree_onZ HTr.out hb2')
   have hsz2 := hb2'.size
   have hol : out.length ≤ t.aliases.length := by
    have := nodup_le (m := List.range t.aliases.length) HND.out.1 (fun k hk => List.mem_range.2 (HND.out.2 k hk))
    rwa [List.length_range] at this
   clear hb2 hb2' HSO HCN
   cases ha : firstA t.aliases nm with
   | none =>
    have hr : R = out := by rw [← HK.out]; exact rowF_none (HAT.out.trans ha)
    have hid : idxV (nmdN t.aliases nm 0) = -1 := by rw [nmdN_iff, ha]; rfl
    rw [hid]
    clear hid ha
    subst hr
    go_wp2
    go_ret
    exact ⟨_, rfl, own_baseZ (base := w.heap.size + 1) (base' := w.heap.size) HO2.out (Nat.le_succ _), HB0.out.trans (HB2.out.mono (Nat.le_succ _))⟩
   | some k =>
    have hkl := firstA_lt ha
    have hid : idxV (nmdN t.aliases nm 0) = (k : Int) := by rw [nmdN_iff, ha]; rfl
    rw [hid]
    have hk0 : ¬ ((k : Int) < 0) := by omega
    have HA := Lib.hid (HAT.out.trans ha)
    clear hid ha
    go_wp2
    go_loopw [8, 30] (fun _ vc wx => ∃ j : Nat, j ≤ out.length ∧ vc = .int .i64 (j : Int) ∧ Hid (∀ x ∈ out.take j, x ≠ k) ∧ w2 = wx) (fun _ vc _ => out.length - (intOf vc).toNat)
    case atStart => exact ⟨0, Nat.zero_le _, rfl, Lib.hid (by simp), rfl⟩
    case round =>
     obtain ⟨j, hj, rfl, HJ, rfl⟩ := hrel
     by_cases hlt : j < out.length
     ·obtain ⟨A', c', e', _, hSl⟩ := SlAt.of_own HO2.out
      injection e' with e1 _ e3
      subst e1
      subst e3
      obtain ⟨bo, oo, rfl, hbo, hco⟩ := hSl.at_ hlt
      have d0 := hco j (.int .i64 (out[j] : Nat)) (by simp [hlt])
      obtain ⟨y, hy⟩ : ∃ y, out[j] = y := ⟨_, rfl⟩
      rw [hy] at d0
      have HY := Lib.hid hy
      clear hSl hco hy
      by_cases hyk : y = k
      ·have hr : R = out := by rw [← HK.out]; exact rowF_in HA.out (by rw [← hyk, ← HY.out]; exact List.getElem_mem _)
       subst hyk
       subst hr
       go_wp2
       go_ret
       exact ⟨_, rfl, own_baseZ (base := w.heap.size + 1) (base' := w.heap.size) HO2.out (Nat.le_succ _), HB0.out.trans (HB2.out.mono (Nat.le_succ _))⟩
      ·have hq : ((y : Int) == (k : Int)) = false := by rw [beq_eq_false_iff_ne]; omega
       have HJ2 : Hid (∀ x ∈ out.take (j + 1), x ≠ k) := Lib.hid fun x hx => by
        rw [List.take_succ_eq_append_getElem hlt] at hx
        rcases List.mem_append.1 hx with hx | hx
        ·exact HJ.out x hx
        ·simp only [List.mem_singleton] at hx
         rw [hx, HY.out]
         exact hyk
       go_wp2
       go_roundw
       case rel => exact ⟨j + 1, by omega, by go_num, HJ2, trivial⟩
       case measure => simp [intOf]; omega
     ·have hkn : k ∉ out := fun hm => HJ.out k (by rw [List.take_of_length_le (by omega)]; exact hm) rfl
      obtain ⟨f', rfl⟩ : ∃ f', f = f' + 1 := ⟨f - 1, by have := HFU.out; omega⟩
      have hBw2 := HB0.out.trans (HB2.out.mono (by omega : w.heap.size ≤ w.heap.size + 1))
      obtain ⟨b', off', rfl, hb', hcell'⟩ := HT.out.2.2 (by omega)
      dsimp only [Lt] at hb'
      have hq' := hcell' k t.aliases[k] (List.getElem?_eq_getElem hkl)
      have hty := HRN.out.ali t.aliases[k] (List.getElem_mem hkl)
      have hstep : rowF t f' t.aliases[k].type.toNat (out ++ [k]) = R := by
       rw [← HK.out, rowF, HA.out]
       dsimp only
       rw [if_neg hkn, List.getElem?_eq_getElem hkl]
       rfl
      have d1 := (hBw2.cell (p := ⟨b', off' + k * 3 + 1, none⟩) hb').trans (hq' 1 _ rfl)
      obtain ⟨T, hTT⟩ : ∃ T : Nat, t.aliases[k].type = (T : Int) := ⟨t.aliases[k].type.toNat, by omega⟩
      rw [hTT] at d1 hty hstep
      rw [Int.toNat_natCast] at hstep
      have hT9 : T < t.types.length := by omega
      have HST := Lib.hid hstep
      have HKN := Lib.hid hkn
      have hz22 : w.heap.size < w2.heap.size := by omega
      have HY2 := Lib.hid y2
      clear hq' hcell' hty hstep hTT hkn hBw2
      go_wp2_with (at_builtin; refine wpList_append_own_at _ rfl _ _ 49 rfl (w.heap.size + 1) 3 i3 (.int .i64 0) 1 8 Tryz.underlying49 hi hz0 hz1 hz2 rfl (by decide) _ out.length (nvsZ out) rfl ?ra0 ⟨w2.heap.size, 0, none⟩ 1 1 [.int .i64 (k : Int)] rfl rfl (cell_one_new _ _ _) (by simp [Value.oneCell']) ?ra1 ?ra2 ?ra3 ?_)
      case ra0 => exact HO2.out.alloc _
      case ra1 => unfold maxLen; omega
      case ra2 => omega
      case ra3 => simp; omega
      intro v1 W6 hown hg6 _ _
      have hbX : Below (w.heap.size + 1) W0 (w2.alloc (.cells #[.int .i64 (k : Int)] 3)) := HB2.out.alloc (by omega) _
      have hb6 := hbX.grown hg6 (by simp; omega) (fun g hg => (own_atZ HO2.out g hg).1)
      have hw26 : Below (w.heap.size + 1) w2 W6 := ((Below.refl _ w2).alloc (by omega) _).grown hg6 (by simp; omega) (fun g hg => (own_atZ HO2.out g hg).1)
      have u2 := (hw26.cell (p := ⟨w.heap.size, 2, none⟩) (by dsimp only; omega)).trans HY2.out
      have u1 := (hw26.cell (p := ⟨b', off' + k * 3 + 1, none⟩) (by dsimp only; omega)).trans d1
      have HB6 := Lib.hid hb6
      have HR6 : Hid (W6.ownsRow (w.heap.size + 1) 3 1 v1 (out ++ [k]).length (nvsZ (out ++ [k]))) := Lib.hid (by simpa [nvsZ] using hown)
      clear hown hg6 hbX hb6 hw26 d1 y2 y1 y0
      obtain ⟨A1, c1', rfl⟩ := own_sliceZ HR6.out
      go_wp2
      go_roundw
      case rel => exact ⟨_, _, f', T, out ++ [k], rfl, rfl, rfl, hT9, Lib.hid (by have := HFU.out; simp; omega), Lib.hid ⟨by rw [List.nodup_append]; exact ⟨HND.out.1, by simp, fun x hx y hy => by simp only [List.mem_singleton] at hy; subst hy; rintro rfl; exact HKN.out hx⟩, fun x hx => by
       rcases List.mem_append.1 hx with hx | hx
       ·exact HND.out.2 x hx
       ·simp only [List.mem_singleton] at hx; subst hx; exact hkl⟩, HST, HR6, HB6⟩
      case measure => simp [slLen]; omega
end Go.Proofs.YtjbdgjbmbohfmaaGreatDoor

namespace Go.Proofs.YtjbdgjbmbohfmaaGreatDoor
open Go Go.Proofs Go.RowKit

def RowS (R : List ByteArray) (w : World) (e : Ending) (w' : World) : Prop := ∃ v, e = .returned v ∧ w'.ownsRow w.heap.size 9 1 v R.length (R.map .string) ∧ Below w.heap.size w w'
theorem filter_takeZ {ns : List ByteArray} {k : Nat} (h : k < ns.length) (p : ByteArray → Bool) : (ns.take (k + 1)).filter p = (ns.take k).filter p ++ (if p ns[k] then [ns[k]] else []) := by
 rw [List.take_succ_eq_append_getElem h, List.filter_append]
 congr 1
 simp [List.filter_cons]

set_option maxRecDepth 100000 in
set_option maxHeartbeats 8000000 in
theorem without_any (ns : List ByteArray) (A : Option Addr) (c : Nat) (name : ByteArray) (w : World) (hS : SlAt (Lt w.heap.size) w A ns.length (ns.map .string)) (hl : ns.length ≤ 100000) :
 Calls Tryz.prog 80 #[.slice A ns.length c, .string name] w (RowS (ns.filter fun s => decide (s ≠ name)) w) := by
 obtain ⟨i9, hi9, hj0, hj1, hj2⟩ := info_parts info9
 have hO0 := own_emptyZ w 9 w.heap.size (Nat.le_refl _)
 have hb0 : Below w.heap.size w (w.alloc (.cells #[] 9)) := (Below.refl _ w).alloc (Nat.le_refl _) _
 obtain ⟨W0, hW0⟩ : ∃ W0, w.alloc (.cells #[] 9) = W0 := ⟨_, rfl⟩
 rw [hW0] at hO0 hb0
 have HO0 := Lib.hid hO0
 have HB0 := Lib.hid hb0
 have HSL := Lib.hid hS
 obtain ⟨R, hR⟩ : ∃ R, (ns.filter fun s => decide (s ≠ name)) = R := ⟨_, rfl⟩
 rw [hR]
 have HR := Lib.hid hR
 clear hO0 hb0 hS hR
 go_enter Tryz.func80, Tryz.ntmps80
 go_wp2
 clear hW0
 go_loopw [5, 7, 11] (fun v6 _ v59 wr => ∃ (k : Nat) (out : List ByteArray), k ≤ ns.length ∧ v59 = .int .i64 (k : Int) ∧ out.length ≤ 100000 ∧ Hid (out = (ns.take k).filter fun s => decide (s ≠ name)) ∧ Hid (wr.ownsRow w.heap.size 9 1 v6 out.length (out.map .string)) ∧ Hid (Below w.heap.size w wr)) (fun _ _ v59 _ => ns.length - (intOf v59).toNat)
 case atStart => exact ⟨0, [], Nat.zero_le _, rfl, by simp, Lib.hid (by simp), HO0, HB0⟩
 case round =>
  obtain ⟨k, out, hk, rfl, hol, HO, HR1, HBR⟩ := hrel
  by_cases hlt : k < ns.length
  ·obtain ⟨b, off, rfl, hbb, hcell⟩ := HSL.out.at_ hlt
   have e0 := (HBR.out.cell (p := ⟨b, off + k, none⟩) hbb).trans (hcell k (.string ns[k]) (by simp [hlt]))
   obtain ⟨s, hs⟩ : ∃ s, ns[k] = s := ⟨_, rfl⟩
   have hft := filter_takeZ hlt fun s => decide (s ≠ name)
   rw [hs] at e0 hft
   have HFT := Lib.hid hft
   clear hft hs hcell
   by_cases hsn : s = name
   ·subst hsn
    have hq : (s.toList != s.toList) = false := by simp
    have hq2 : (s.toList == s.toList) = true := by simp
    have HO2 : Hid (out = (ns.take (k + 1)).filter fun x => decide (x ≠ s)) := Lib.hid (by rw [HFT.out, ← HO.out]; simp)
    go_wp2
    go_roundw
    case rel => exact ⟨k + 1, out, by omega, by go_num, hol, HO2, HR1, HBR⟩
    case measure => simp [intOf]; omega
   ·have hq : (s.toList == name.toList) = false := by rw [beq_eq_false_iff_ne]; exact fun e => hsn (rtoList_inj e)
    have hq2 : (s.toList != name.toList) = true := by rw [bne_iff_ne]; exact fun e => hsn (rtoList_inj e)
    have HO2 : Hid (out ++ [s] = (ns.take (k + 1)).filter fun x => decide (x ≠ name)) := Lib.hid (by rw [HFT.out, ← HO.out]; simp [hsn])
    have hol2 : (out ++ [s]).length ≤ 100000 := by
     rw [HO2.out]
     exact Nat.le_trans (List.length_filter_le _ _) (by rw [List.length_take]; omega)
    have HOL2 := Lib.hid hol2
    clear hol2
    go_wp2_with (at_builtin; refine wpList_append_own_at _ rfl _ _ 48 rfl w.heap.size 9 i9 (.string ByteArray.empty) 1 16 Tryz.underlying48 hi9 hj0 hj1 hj2 rfl (by decide) _ out.length (out.map .string) rfl ?ra0 ⟨wr.heap.size, 0, none⟩ 1 1 [.string s] rfl rfl (cell_one_new _ _ _) (by simp [Value.oneCell']) ?ra1 ?ra2 ?ra3 ?_)
    case ra0 => exact HR1.out.alloc _
    case ra1 => unfold maxLen; omega
    case ra2 => omega
    case ra3 => have := HBR.out.size; simp; omega
    intro v1 W6 hown hg6 _ _
    have hbX : Below w.heap.size w (wr.alloc (.cells #[.string s] 9)) := HBR.out.alloc HBR.out.size _
    have HB6 := Lib.hid (hbX.grown hg6 hbX.size (fun g hg => (own_atZ HR1.out g hg).1))
    have HR6 : Hid (W6.ownsRow w.heap.size 9 1 v1 (out ++ [s]).length ((out ++ [s]).map .string)) := Lib.hid (by simpa using hown)
    clear hown hg6 hbX
    go_wp2
    go_roundw
    case rel => exact ⟨k + 1, out ++ [s], by omega, by go_num, HOL2.out, HO2, HR6, HB6⟩
    case measure => simp [intOf]; omega
  ·obtain rfl : k = ns.length := by omega
   have hout : out = R := by rw [← HR.out]; have := HO.out; rwa [List.take_length] at this
   subst hout
   go_wp2
   go_ret
   exact ⟨_, rfl, HR1.out, HBR.out⟩

/-! ### one name more -/
theorem rise_lt {ns : List ByteArray} (h : Rise ns) {i j : Nat} (hj : j < ns.length) (hij : i < j) : (ns[i]'(by omega)).data.toList < ns[j].data.toList := List.pairwise_iff_getElem.1 h i j (by omega) hj hij
/-- A name put in where all ahead are less and all behind greater. -/
theorem rise_put {ns : List ByteArray} {s : ByteArray} {k : Nat} (h : Rise ns) (hk : k ≤ ns.length) (h1 : ∀ i (hi : i < ns.length), i < k → ns[i].data.toList < s.data.toList) (h2 : ∀ hk' : k < ns.length, s.data.toList < ns[k].data.toList) : Rise (ns.take k ++ s :: ns.drop k) := by
 unfold Rise
 rw [List.pairwise_append, List.pairwise_cons]
 have hd : ∀ x ∈ ns.drop k, s.data.toList < x.data.toList := by
  intro x hx
  obtain ⟨j, hj, rfl⟩ := List.getElem_of_mem hx
  rw [List.length_drop] at hj
  rw [List.getElem_drop]
  have hk' : k < ns.length := by omega
  by_cases h0 : j = 0
  ·subst h0; exact h2 hk'
  ·exact List.lt_trans (h2 hk') (rise_lt h (by omega) (by omega))
 have ht : ∀ x ∈ ns.take k, x.data.toList < s.data.toList := by
  intro x hx
  obtain ⟨j, hj, rfl⟩ := List.getElem_of_mem hx
  rw [List.length_take] at hj
  rw [List.getElem_take]
  exact h1 j (by omega) (by omega)
 refine ⟨List.Pairwise.sublist (List.take_sublist _ _) h, ⟨hd, List.Pairwise.sublist (List.drop_sublist _ _) h⟩, fun a ha b hb => ?_⟩
 rcases List.mem_cons.1 hb with rfl | hb
 ·exact ht a ha
 ·exact List.lt_trans (ht a ha) (hd b hb)
theorem mem_put {ns : List ByteArray} {s : ByteArray} {k : Nat} (x : ByteArray) : x ∈ ns.take k ++ s :: ns.drop k ↔ x = s ∨ x ∈ ns := by
 have : x ∈ ns ↔ x ∈ ns.take k ∨ x ∈ ns.drop k := by rw [← List.mem_append, List.take_append_drop]
 rw [this, List.mem_append, List.mem_cons]
 constructor
 ·rintro (h | h | h)
  ·exact .inr (.inl h)
  ·exact .inl h
  ·exact .inr (.inr h)
 ·rintro (h | h | h)
  ·exact .inr (.inl h)
  ·exact .inl h
  ·exact .inr (.inr h)

def InsPost (base : Nat) (P : ByteArray → Prop) (n : Nat) (w : World) (e : Ending) (w' : World) : Prop :=
 ∃ v ms, e = .returned v ∧ w'.ownsRow base 9 1 v ms.length (ms.map .string) ∧ Rise ms ∧ (∀ x, x ∈ ms ↔ P x) ∧ ms.length ≤ n ∧ Below w.heap.size w w'

theorem own_rd {W : World} {base : Nat} {A : Option Addr} {n c : Nat} {xs : List Value} (h : W.ownsRow base 9 1 (.slice A n c) n xs) : RdAt W A xs := by
 obtain ⟨A', c', e, _, hs⟩ := SlAt.of_own h
 injection e with e1
 subst e1
 exact RdAt.of_sl hs
theorem rd_takeZ {W : World} {g : Nat} {ns : List ByteArray} (h : RdAt W (some ⟨g, 0, none⟩) (ns.map .string)) (k : Nat) : RdAt W (some ⟨g, 0, none⟩) ((ns.take k).map .string) := by
 rcases h with h | ⟨b, off, e, h⟩
 ·left
  have : ns = [] := by simpa using h
  subst this
  simp
 ·refine .inr ⟨b, off, e, fun j u hu => h j u ?_⟩
  have hj := (List.getElem?_eq_some_iff.1 hu).1
  simp only [List.length_map, List.length_take] at hj
  rw [List.map_take, List.getElem?_take_of_lt (by omega)] at hu
  exact hu
theorem rd_dropZ {W : World} {g : Nat} {ns : List ByteArray} (h : RdAt W (some ⟨g, 0, none⟩) (ns.map .string)) (k : Nat) : RdAt W (some ⟨g, k, none⟩) ((ns.drop k).map .string) := by
 rcases h with h | ⟨b, off, e, h⟩
 ·left
  have : ns = [] := by simpa using h
  subst this
  simp
 ·injection e with e
  injection e with e1 e2
  subst e1
  subst e2
  refine .inr ⟨_, _, rfl, fun j u hu => ?_⟩
  rw [List.map_drop, List.getElem?_drop] at hu
  have := h _ u hu
  simpa using this
theorem rd_bel {w W : World} {g : Nat} {o : Nat} {xs : List Value} (h : RdAt w (some ⟨g, o, none⟩) xs) (hg : g < w.heap.size) (hb : Below w.heap.size w W) : RdAt W (some ⟨g, o, none⟩) xs := by
 rcases h with h | ⟨b, off, e, h⟩
 ·exact .inl h
 ·injection e with e
  injection e with e1 e2
  subst e1
  subst e2
  exact .inr ⟨_, _, rfl, fun j u hu => (hb.cell (p := ⟨g, o + j, none⟩) hg).trans (h j u hu)⟩

section
variable {w w0 : World} {ops : Array Oper} {o : Oper} {a : Act} {K : Act → World → Prop} {Q : Exit → Act → World → Prop} {E : Prop}
theorem below_alS {a w : World} (h : Below a.heap.size a w) (o : Obj) : Below a.heap.size a (w.alloc o) := h.alloc h.size o
theorem below_grS {a w w' : World} {row : Option Nat} (h : Below a.heap.size a w) (hg : w.grownBy w' row) (hr : ∀ g, row = some g → a.heap.size ≤ g) : Below a.heap.size a w' := h.grown hg h.size hr
theorem blkS_new (w : World) (t : TypeId) (cs : Array Value) (g : Nat) (h : g = w.heap.size) : Blk (w.alloc (.cells cs t)) g t cs := h ▸ Blk.new w t cs
theorem blkS_gr {w w' : World} {g : Nat} {t : TypeId} {cs : Array Value} {row : Option Nat} (h : Blk w g t cs) (hb : w.grownBy w' row) (hg : row ≠ some g) : Blk w' g t cs := h.grown hb (fun e => hg e.symm)
theorem maps_one (r : List ByteArray) : ∀ u ∈ r.map Value.string, u.oneCell' = true := fun u hu => by
 obtain ⟨a, _, rfl⟩ := List.mem_map.1 hu
 rfl
/-- A row onto a row of none. -/
theorem stepS1 (hgd : o.guard = none) (s x : Operand) (ho : o.op = .call { callee := .builtin .append, args := #[s, x], argTypes := #[48, 48] }) (g n c : Nat) (A : Option Addr) (r : List ByteArray)
 (hs : a.eval s = .slice (some ⟨g, 0, none⟩) 0 0) (hx : a.eval x = .slice A n c) (hb : Blk w g 9 #[]) (hg : w0.heap.size ≤ g) (hr : r.length = n) (hn : n ≤ 100000) (hrd : RdAt w A (r.map .string)) (hz : w0.heap.size ≤ w.heap.size)
 (h : ∀ v' w', w'.ownsRow w0.heap.size 9 1 v' n (r.map .string) → w.grownBy w' (some g) → K (a.put o.dst v') w') : if Region.wanted o (yielded ops a.tmps) = true then Oper.wp Tryz.prog o a w K Q else E := by
 obtain ⟨i0, hi, hz0, hz1, hz2⟩ := info_parts info9
 refine step_app w hgd s x 48 ho w0.heap.size 9 i0 _ 1 16 Tryz.underlying48 hi hz0 hz1 hz2 rfl (by decide) _ 0 [] hs ⟨rfl, .inr ⟨g, 0, #[], rfl, hg, hb, Nat.le_refl _, by decide, rfl, rfl⟩⟩ A n c (r.map .string) hx (by simp [hr]) hrd (maps_one r) (by unfold maxLen; omega) (by omega) hz fun v' w' h1 h2 _ => h v' w' (by simpa using h1) h2
/-- One name behind it. -/
theorem stepS2 (hgd : o.guard = none) (s x : Operand) (ho : o.op = .call { callee := .builtin .append, args := #[s, x], argTypes := #[48, 48] }) (g n c : Nat) (v : Value) (r : List ByteArray) (nm : ByteArray)
 (hs : a.eval s = v) (hx : a.eval x = .slice (some ⟨g, 0, none⟩) 1 c) (hb : Blk w g 9 #[.string nm]) (hown : w.ownsRow w0.heap.size 9 1 v n (r.map .string)) (hn : n ≤ 100000) (hz : w0.heap.size ≤ w.heap.size)
 (h : ∀ v' w', w'.ownsRow w0.heap.size 9 1 v' (n + 1) ((r ++ [nm]).map .string) → Below w0.heap.size w w' → K (a.put o.dst v') w') : if Region.wanted o (yielded ops a.tmps) = true then Oper.wp Tryz.prog o a w K Q else E := by
 obtain ⟨i0, hi, hz0, hz1, hz2⟩ := info_parts info9
 refine step_app w hgd s x 48 ho w0.heap.size 9 i0 _ 1 16 Tryz.underlying48 hi hz0 hz1 hz2 rfl (by decide) v n _ hs hown (some ⟨g, 0, none⟩) 1 c [.string nm] hx (by simp) (.inr ⟨g, 0, rfl, fun j u hu => by rw [hb.cell, Nat.zero_add]; simpa using hu⟩) (by simp [Value.oneCell']) (by unfold maxLen; omega) (by omega) hz fun v' w' h1 h2 _ => h v' w' (by simpa using h1) ((Below.refl _ w).grown h2 hz (fun k hk => (own_atZ hown k hk).1))
/-- Another row behind it. -/
theorem stepS3 (hgd : o.guard = none) (s x : Operand) (ho : o.op = .call { callee := .builtin .append, args := #[s, x], argTypes := #[48, 48] }) (n m c : Nat) (v : Value) (A : Option Addr) (r q : List ByteArray)
 (hs : a.eval s = v) (hx : a.eval x = .slice A m c) (hown : w.ownsRow w0.heap.size 9 1 v n (r.map .string)) (hq : q.length = m) (hrd : RdAt w A (q.map .string)) (hn : n ≤ 200000) (hm : m ≤ 200000) (hz : w0.heap.size ≤ w.heap.size)
 (h : ∀ v' w', w'.ownsRow w0.heap.size 9 1 v' (n + m) ((r ++ q).map .string) → Below w0.heap.size w w' → K (a.put o.dst v') w') : if Region.wanted o (yielded ops a.tmps) = true then Oper.wp Tryz.prog o a w K Q else E := by
 obtain ⟨i0, hi, hz0, hz1, hz2⟩ := info_parts info9
 refine step_app w hgd s x 48 ho w0.heap.size 9 i0 _ 1 16 Tryz.underlying48 hi hz0 hz1 hz2 rfl (by decide) v n _ hs hown A m c (q.map .string) hx (by simp [hq]) hrd (maps_one q) (by unfold maxLen; omega) (by omega) hz fun v' w' h1 h2 _ => h v' w' (by simpa using h1) ((Below.refl _ w).grown h2 hz (fun k hk => (own_atZ hown k hk).1))
end
theorem rd_dropE {W : World} {g c k : Nat} {ns : List ByteArray} (h : RdAt W (some ⟨g, 0, none⟩) (ns.map .string)) (hc : ns.length ≤ c) : RdAt W (if c = k then some ⟨g, 0, none⟩ else some ⟨g, k, none⟩) ((ns.drop k).map .string) := by
 by_cases e : c = k
 ·left
  rw [List.drop_eq_nil_of_le (by omega)]
  rfl
 ·rw [if_neg e]
  exact rd_dropZ h k
theorem insert_put {ns : List ByteArray} {s : ByteArray} {k : Nat} (hk : k ≤ ns.length) : (ns.take k ++ [s] ++ ns.drop k).length = ns.length + 1 := by
 simp only [List.length_append, List.length_take, List.length_singleton, List.length_drop]
 omega

set_option maxRecDepth 100000 in
set_option maxHeartbeats 8000000 in
/-- Put in where it belongs. -/
theorem insert_any (base : Nat) (ns : List ByteArray) (v : Value) (s : ByteArray) (w : World) (hbase : base ≤ w.heap.size) (hO : w.ownsRow base 9 1 v ns.length (ns.map .string)) (hl : ns.length ≤ 100000) (hR : Rise ns) :
 Calls Tryz.prog 144 #[v, .string s] w (InsPost base (fun x => x = s ∨ x ∈ ns) (ns.length + 1) w) := by
 obtain ⟨i9, hi9, hj0, hj1, hj2⟩ := info_parts info9
 obtain ⟨A, c, hv, hA⟩ : ∃ A c, v = .slice A ns.length c ∧ ((A = none ∧ c = 0 ∧ ns.length = 0) ∨ ∃ g, A = some ⟨g, 0, none⟩ ∧ g < w.heap.size ∧ base ≤ g ∧ ns.length ≤ c ∧ c ≤ maxLen) := by
  rcases hO.2 with ⟨h1, h2⟩ | ⟨g, cap, cur, h1, h2, h3, h4, h5, _⟩
  ·exact ⟨none, 0, by rw [h1, h2], .inl ⟨rfl, rfl, h2⟩⟩
  ·exact ⟨_, cap, h1, .inr ⟨g, rfl, (Array.getElem?_eq_some_iff.1 h3).1, h2, h4, h5⟩⟩
 subst hv
 have hrd := own_rd hO
 have HO := Lib.hid hO
 have HRI := Lib.hid hR
 have HRD := Lib.hid hrd
 clear hO hR hrd
 rcases hA with ⟨rfl, rfl, hns⟩ | ⟨g, rfl, hgl, hgb, hnc, hcm⟩
 ·have hn0 : ns = [] := List.eq_nil_of_length_eq_zero hns
  subst hn0
  clear hns
  dsimp only [List.length_nil]
  go_enter Tryz.func144, Tryz.ntmps144
  go_wp2
  go_loopw [5] (fun v5 wr => v5 = .int .i64 0 ∧ w = wr) (fun _ _ => 0)
  case atStart => exact ⟨rfl, rfl⟩
  case round =>
   obtain ⟨rfl, rfl⟩ := hrel
   go_wp2_with fail
   have hS0 := Below.refl w.heap.size w
   go_region_held3 (fun w' => Below w.heap.size w w') (exact (by repeat (first | with_reducible exact bel7 | with_reducible exact bel6 | with_reducible exact bel5 | with_reducible exact hS0 | with_reducible refine below_alS ?_ _ | with_reducible refine Below.drew ?_)))
    (first
     | (refine stepS1 (w0 := w) rfl _ _ rfl _ 0 _ none [] (by rfl) (by rfl) (by repeat (first | exact blkS_new _ _ _ _ (by simp) | with_reducible refine Blk.alloc ?_ _ | with_reducible refine Blk.drew ?_ | with_reducible refine blkS_gr ?_ H5.out ?_ | (simp; done) | (simp; omega))) (by first | omega | (simp; done) | (simp; omega)) rfl (by omega) (.inl rfl) (by first | omega | (simp; done) | (simp; omega)) ?_; intro v5 w5 hown5 hgrow5; have hz5 : w.heap.size ≤ w5.heap.size := (by have := hgrow5.size; simp at this; omega); have bel5 : Below w.heap.size w w5 := below_grS (by repeat (first | with_reducible exact bel7 | with_reducible exact bel6 | with_reducible exact bel5 | with_reducible exact hS0 | with_reducible refine below_alS ?_ _ | with_reducible refine Below.drew ?_)) hgrow5 (by intro g e; injection e; omega); have H5 := Lib.hid hgrow5; clear hgrow5)
     | (refine stepS2 (w0 := w) rfl _ _ rfl _ 0 1 v5 [] s (by rfl) (by rfl) (by repeat (first | exact blkS_new _ _ _ _ (by simp) | with_reducible refine Blk.alloc ?_ _ | with_reducible refine Blk.drew ?_ | with_reducible refine blkS_gr ?_ H5.out ?_ | (simp; done) | (simp; omega))) (by repeat (first | with_reducible exact hown5 | with_reducible refine World.ownsRow.alloc ?_ _)) (by omega) (by first | omega | (simp; done) | (simp; omega)) ?_; intro v6 w6 hown6 hbel6; have bel6 : Below w.heap.size w w6 := Below.trans (by repeat (first | with_reducible exact bel7 | with_reducible exact bel6 | with_reducible exact bel5 | with_reducible exact hS0 | with_reducible refine below_alS ?_ _ | with_reducible refine Below.drew ?_)) hbel6; have HO6 := Lib.hid hown6; have hz6 := bel6.size; clear hown6 hbel6)
     | (refine stepS3 (w0 := w) rfl _ _ rfl 1 0 _ v6 none [s] [] (by rfl) (by rfl) HO6.out rfl (.inl rfl) (by omega) (by omega) (by first | omega | (simp; done) | (simp; omega)) ?_; intro v7 w7 hown7 hbel7; have bel7 : Below w.heap.size w w7 := Below.trans (by repeat (first | with_reducible exact bel7 | with_reducible exact bel6 | with_reducible exact bel5 | with_reducible exact hS0 | with_reducible refine below_alS ?_ _ | with_reducible refine Below.drew ?_)) hbel7; have HO7 := Lib.hid hown7; clear hown7 hbel7))
   all_goals go_wp2
   all_goals
    go_ret
    exact ⟨v7, [s], rfl, own_baseZ HO7.out hbase, List.pairwise_singleton _ _, fun x => by simp, by simp, bel7⟩
 go_enter Tryz.func144, Tryz.ntmps144
 go_wp2
 go_loopw [5] (fun v5 wr => ∃ k : Nat, k ≤ ns.length ∧ v5 = .int .i64 (k : Int) ∧ Hid (∀ i (hi : i < ns.length), i < k → ns[i].data.toList < s.data.toList) ∧ w = wr) (fun v5 _ => ns.length - (intOf v5).toNat)
 case atStart => exact ⟨0, Nat.zero_le _, rfl, Lib.hid (by omega), rfl⟩
 case round =>
  obtain ⟨k, hk, rfl, HK, rfl⟩ := hrel
  by_cases hlt : k < ns.length
  ·rcases HRD.out with h0 | ⟨b, off, e, hc⟩
   ·exfalso
    have : ns = [] := by simpa using h0
    subst this
    simp at hlt
   ·injection e with e
    injection e with e1 e2
    subst e1
    subst e2
    have e0 := hc k (.string ns[k]) (by simp [hlt])
    rw [Nat.zero_add] at e0
    obtain ⟨x, hx⟩ : ∃ x, ns[k] = x := ⟨_, rfl⟩
    rw [hx] at e0
    have HX := Lib.hid hx
    have f1 := bl_iff x s
    clear hc hx
    by_cases hxs : x.data.toList < s.data.toList
    ·rw [decide_eq_true hxs] at f1
     have HK2 : Hid (∀ i (hi : i < ns.length), i < k + 1 → ns[i].data.toList < s.data.toList) := Lib.hid fun i hi h => by
      by_cases e : i = k
      ·subst e; rw [HX.out]; exact hxs
      ·exact HK.out i hi (by omega)
     clear hxs
     go_wp2
     go_roundw
     case rel => exact ⟨k + 1, by omega, by go_num, HK2, trivial⟩
     case measure => simp [intOf]; omega
    ·rw [decide_eq_false hxs] at f1
     by_cases hq : x = s
     ·have hq2 : (x.toList == s.toList) = true := by rw [hq]; simp
      have hmem : Hid (∀ y, y ∈ ns ↔ y = s ∨ y ∈ ns) := Lib.hid fun y => ⟨.inr, fun h => h.elim (fun e => by rw [e, ← hq, ← HX.out]; exact List.getElem_mem _) id⟩
      clear hxs hq
      go_wp2
      go_ret
      exact ⟨_, ns, rfl, HO.out, HRI.out, hmem.out, by omega, Below.refl _ _⟩
     ·have hq2 : (x.toList == s.toList) = false := by rw [beq_eq_false_iff_ne]; exact fun e => hq (rtoList_inj e)
      have HG : Hid (∀ hk' : k < ns.length, s.data.toList < ns[k].data.toList) := Lib.hid fun hk' => by
       rw [HX.out]
       exact Decidable.byContradiction fun h => hq (dl_eq hxs h)
      clear hxs hq
      have b1 : (0 : Int) ≤ (k : Int) := by omega
      have b2 : (k : Int) ≤ (ns.length : Int) := by omega
      have b3 : (k : Int) ≤ (c : Int) := by omega
      have b4 : (ns.length : Int) ≤ (c : Int) := by omega
      go_wp2_with fail
      have hS0 := Below.refl w.heap.size w
      go_region_held3 (fun w' => Below w.heap.size w w') (exact (by repeat (first | with_reducible exact bel7 | with_reducible exact bel6 | with_reducible exact bel5 | with_reducible exact hS0 | with_reducible refine below_alS ?_ _ | with_reducible refine Below.drew ?_)))
       (first
        | (refine stepS1 (w0 := w) rfl _ _ rfl _ k _ (some ⟨g, 0, none⟩) (ns.take k) (by rfl) (by rfl) (by repeat (first | exact blkS_new _ _ _ _ (by simp) | with_reducible refine Blk.alloc ?_ _ | with_reducible refine Blk.drew ?_ | with_reducible refine blkS_gr ?_ H5.out ?_ | (simp; done) | (simp; omega))) (by first | omega | (simp; done) | (simp; omega)) (by rw [List.length_take]; omega) (by omega) (rd_takeZ (rd_bel HRD.out hgl (by repeat (first | with_reducible exact bel7 | with_reducible exact bel6 | with_reducible exact bel5 | with_reducible exact hS0 | with_reducible refine below_alS ?_ _ | with_reducible refine Below.drew ?_))) _) (by first | omega | (simp; done) | (simp; omega)) ?_; intro v5 w5 hown5 hgrow5; have hz5 : w.heap.size ≤ w5.heap.size := (by have := hgrow5.size; simp at this; omega); have bel5 : Below w.heap.size w w5 := below_grS (by repeat (first | with_reducible exact bel7 | with_reducible exact bel6 | with_reducible exact bel5 | with_reducible exact hS0 | with_reducible refine below_alS ?_ _ | with_reducible refine Below.drew ?_)) hgrow5 (by intro g e; injection e; omega); have H5 := Lib.hid hgrow5; clear hgrow5)
        | (refine stepS2 (w0 := w) rfl _ _ rfl _ k 1 v5 (ns.take k) s (by rfl) (by rfl) (by repeat (first | exact blkS_new _ _ _ _ (by simp) | with_reducible refine Blk.alloc ?_ _ | with_reducible refine Blk.drew ?_ | with_reducible refine blkS_gr ?_ H5.out ?_ | (simp; done) | (simp; omega))) (by repeat (first | with_reducible exact hown5 | with_reducible refine World.ownsRow.alloc ?_ _)) (by omega) (by first | omega | (simp; done) | (simp; omega)) ?_; intro v6 w6 hown6 hbel6; have bel6 : Below w.heap.size w w6 := Below.trans (by repeat (first | with_reducible exact bel7 | with_reducible exact bel6 | with_reducible exact bel5 | with_reducible exact hS0 | with_reducible refine below_alS ?_ _ | with_reducible refine Below.drew ?_)) hbel6; have HO6 := Lib.hid hown6; have hz6 := bel6.size; clear hown6 hbel6)
        | (refine stepS3 (w0 := w) rfl _ _ rfl (k + 1) (ns.length - k) _ v6 (if c = k then some ⟨g, 0, none⟩ else some ⟨g, k, none⟩) (ns.take k ++ [s]) (ns.drop k) (by rfl) (by rfl) HO6.out (by simp) (rd_dropE (rd_bel HRD.out hgl (by repeat (first | with_reducible exact bel7 | with_reducible exact bel6 | with_reducible exact bel5 | with_reducible exact hS0 | with_reducible refine below_alS ?_ _ | with_reducible refine Below.drew ?_))) hnc) (by omega) (by omega) (by first | omega | (simp; done) | (simp; omega)) ?_; intro v7 w7 hown7 hbel7; have bel7 : Below w.heap.size w w7 := Below.trans (by repeat (first | with_reducible exact bel7 | with_reducible exact bel6 | with_reducible exact bel5 | with_reducible exact hS0 | with_reducible refine below_alS ?_ _ | with_reducible refine Below.drew ?_)) hbel7; have HO7 := Lib.hid hown7; clear hown7 hbel7))
      all_goals
       go_wp2
       go_ret
       refine ⟨v7, ns.take k ++ [s] ++ ns.drop k, rfl, ?_, ?_, ?_, Nat.le_of_eq (insert_put hk), bel7⟩
       ·rw [insert_put hk]; have h := own_baseZ HO7.out (base' := base) hbase; rwa [show k + 1 + (ns.length - k) = ns.length + 1 by omega] at h
       ·rw [List.append_assoc]; exact rise_put HRI.out hk HK.out HG.out
       ·intro x; rw [List.append_assoc]; exact mem_put x
  ·obtain rfl : k = ns.length := by omega
   have HG : Hid (∀ hk' : ns.length < ns.length, s.data.toList < ns[ns.length].data.toList) := Lib.hid fun hk' => absurd hk' (by omega)
   have b1 : (0 : Int) ≤ (ns.length : Int) := by omega
   have b2 : (ns.length : Int) ≤ (ns.length : Int) := by omega
   have b3 : (ns.length : Int) ≤ (c : Int) := by omega
   have b4 : (ns.length : Int) ≤ (c : Int) := by omega
   go_wp2_with fail
   have hS0 := Below.refl w.heap.size w
   go_region_held3 (fun w' => Below w.heap.size w w') (exact (by repeat (first | with_reducible exact bel7 | with_reducible exact bel6 | with_reducible exact bel5 | with_reducible exact hS0 | with_reducible refine below_alS ?_ _ | with_reducible refine Below.drew ?_)))
    (first
     | (refine stepS1 (w0 := w) rfl _ _ rfl _ ns.length _ (some ⟨g, 0, none⟩) (ns.take ns.length) (by rfl) (by rfl) (by repeat (first | exact blkS_new _ _ _ _ (by simp) | with_reducible refine Blk.alloc ?_ _ | with_reducible refine Blk.drew ?_ | with_reducible refine blkS_gr ?_ H5.out ?_ | (simp; done) | (simp; omega))) (by first | omega | (simp; done) | (simp; omega)) (by rw [List.length_take]; omega) (by omega) (rd_takeZ (rd_bel HRD.out hgl (by repeat (first | with_reducible exact bel7 | with_reducible exact bel6 | with_reducible exact bel5 | with_reducible exact hS0 | with_reducible refine below_alS ?_ _ | with_reducible refine Below.drew ?_))) _) (by first | omega | (simp; done) | (simp; omega)) ?_; intro v5 w5 hown5 hgrow5; have hz5 : w.heap.size ≤ w5.heap.size := (by have := hgrow5.size; simp at this; omega); have bel5 : Below w.heap.size w w5 := below_grS (by repeat (first | with_reducible exact bel7 | with_reducible exact bel6 | with_reducible exact bel5 | with_reducible exact hS0 | with_reducible refine below_alS ?_ _ | with_reducible refine Below.drew ?_)) hgrow5 (by intro g e; injection e; omega); have H5 := Lib.hid hgrow5; clear hgrow5)
     | (refine stepS2 (w0 := w) rfl _ _ rfl _ ns.length 1 v5 (ns.take ns.length) s (by rfl) (by rfl) (by repeat (first | exact blkS_new _ _ _ _ (by simp) | with_reducible refine Blk.alloc ?_ _ | with_reducible refine Blk.drew ?_ | with_reducible refine blkS_gr ?_ H5.out ?_ | (simp; done) | (simp; omega))) (by repeat (first | with_reducible exact hown5 | with_reducible refine World.ownsRow.alloc ?_ _)) (by omega) (by first | omega | (simp; done) | (simp; omega)) ?_; intro v6 w6 hown6 hbel6; have bel6 : Below w.heap.size w w6 := Below.trans (by repeat (first | with_reducible exact bel7 | with_reducible exact bel6 | with_reducible exact bel5 | with_reducible exact hS0 | with_reducible refine below_alS ?_ _ | with_reducible refine Below.drew ?_)) hbel6; have HO6 := Lib.hid hown6; have hz6 := bel6.size; clear hown6 hbel6)
     | (refine stepS3 (w0 := w) rfl _ _ rfl (ns.length + 1) 0 _ v6 (if c = ns.length then some ⟨g, 0, none⟩ else some ⟨g, ns.length, none⟩) (ns.take ns.length ++ [s]) (ns.drop ns.length) (by rfl) (by rfl) HO6.out (by simp) (rd_dropE (rd_bel HRD.out hgl (by repeat (first | with_reducible exact bel7 | with_reducible exact bel6 | with_reducible exact bel5 | with_reducible exact hS0 | with_reducible refine below_alS ?_ _ | with_reducible refine Below.drew ?_))) hnc) (by omega) (by omega) (by first | omega | (simp; done) | (simp; omega)) ?_; intro v7 w7 hown7 hbel7; have bel7 : Below w.heap.size w w7 := Below.trans (by repeat (first | with_reducible exact bel7 | with_reducible exact bel6 | with_reducible exact bel5 | with_reducible exact hS0 | with_reducible refine below_alS ?_ _ | with_reducible refine Below.drew ?_)) hbel7; have HO7 := Lib.hid hown7; clear hown7 hbel7))
   all_goals go_wp2
   all_goals
    go_ret
    refine ⟨v7, ns.take ns.length ++ [s] ++ ns.drop ns.length, rfl, ?_, ?_, ?_, Nat.le_of_eq (insert_put hk), bel7⟩
    ·rw [insert_put hk]; have h := own_baseZ HO7.out (base' := base) hbase; exact h
    ·rw [List.append_assoc]; exact rise_put HRI.out hk HK.out HG.out
    ·intro x; rw [List.append_assoc]; exact mem_put x
end Go.Proofs.YtjbdgjbmbohfmaaGreatDoor

namespace Go.Proofs.YtjbdgjbmbohfmaaGreatDoor
open Go Go.Proofs Go.RowKit

set_option maxRecDepth 100000 in
set_option maxHeartbeats 8000000 in
/-- Two rising rows in one. -/
theorem rjoin_any (base : Nat) (xs bs : List ByteArray) (va vb : Value) (w : World) (hbase : base ≤ w.heap.size) (hA : w.ownsRow base 9 1 va xs.length (xs.map .string)) (hB : w.ownsRow base 9 1 vb bs.length (bs.map .string)) (hl : xs.length + bs.length ≤ 100000) (hR : Rise xs) :
 Calls Tryz.prog 81 #[va, vb] w (InsPost base (fun x => x ∈ xs ∨ x ∈ bs) (xs.length + bs.length) w) := by
 obtain ⟨A2, c2, rfl, _, hSl⟩ := SlAt.of_own hB
 have HO := Lib.hid hA
 have HRI := Lib.hid hR
 have HSL := Lib.hid hSl
 clear hA hR hSl hB
 go_enter Tryz.func81, Tryz.ntmps81
 go_wp2
 go_loopw [0, 6, 9] (fun v0 _ vc wr => ∃ (V : Value) (k : Nat) (ms : List ByteArray), V = v0 ∧ k ≤ bs.length ∧ vc = .int .i64 (k : Int) ∧ ms.length ≤ xs.length + k ∧ Hid (Rise ms) ∧ Hid (∀ x, x ∈ ms ↔ x ∈ xs ∨ x ∈ bs.take k) ∧ Hid (wr.ownsRow base 9 1 v0 ms.length (ms.map .string)) ∧ Hid (Below w.heap.size w wr)) (fun _ _ vc _ => bs.length - (intOf vc).toNat)
 case atStart => exact ⟨_, 0, xs, rfl, Nat.zero_le _, rfl, by omega, HRI, Lib.hid (by simp), HO, Lib.hid (Below.refl _ _)⟩
 case round =>
  obtain ⟨V, k, ms, rfl, hk, rfl, hml, HRm, HMm, HOm, HBr⟩ := hrel
  by_cases hlt : k < bs.length
  ·obtain ⟨b, off, rfl, hbb, hcell⟩ := HSL.out.at_ hlt
   have e0 := (HBr.out.cell (p := ⟨b, off + k, none⟩) hbb.2).trans (hcell k (.string bs[k]) (by simp [hlt]))
   have hcI := insert_any base ms V bs[k] wr (Nat.le_trans hbase HBr.out.size) HOm.out (by omega) HRm.out
   obtain ⟨s, hs⟩ : ∃ s, bs[k] = s := ⟨_, rfl⟩
   rw [hs] at e0 hcI
   have htk : bs.take (k + 1) = bs.take k ++ [s] := by rw [List.take_succ_eq_append_getElem hlt, hs]
   have HTK := Lib.hid htk
   clear htk hs hcell
   go_wp2_with fail
   refine hcI.mono ?_
   rintro e w2 ⟨v, ms2, rfl, hO2, hR2, hM2, hl2, hb2⟩
   have HO2 := Lib.hid hO2
   have HR2 := Lib.hid hR2
   have HM2 : Hid (∀ x, x ∈ ms2 ↔ x ∈ xs ∨ x ∈ bs.take (k + 1)) := Lib.hid fun x => by
    rw [hM2]
    dsimp only
    rw [HMm.out, HTK.out, List.mem_append, List.mem_singleton]
    constructor
    ·rintro (h | h | h)
     ·exact .inr (.inr h)
     ·exact .inl h
     ·exact .inr (.inl h)
    ·rintro (h | h | h)
     ·exact .inr (.inl h)
     ·exact .inr (.inr h)
     ·exact .inl h
   have HB2 := Lib.hid (HBr.out.trans (hb2.mono HBr.out.size))
   have hl3 : ms2.length ≤ xs.length + (k + 1) := by omega
   clear hO2 hR2 hM2 hb2 hcI e0 hl2
   go_wp2
   go_roundw
   case rel => exact ⟨_, k + 1, ms2, rfl, by omega, by go_num, hl3, HR2, HM2, HO2, HB2⟩
   case measure => simp [intOf]; omega
  ·obtain rfl : k = bs.length := by omega
   have HM : Hid (∀ x, x ∈ ms ↔ x ∈ xs ∨ x ∈ bs) := Lib.hid fun x => by have := HMm.out x; rwa [List.take_length] at this
   go_wp2
   go_ret
   exact ⟨_, ms, rfl, HOm.out, HRm.out, HM.out, hml, HBr.out⟩

theorem own_oneZ (W : World) (s : ByteArray) (base : Nat) (h : base ≤ W.heap.size) : (W.alloc (.cells #[.string s] 9)).ownsRow base 9 1 (.slice (some ⟨W.heap.size, 0, none⟩) 1 1) 1 [.string s] := by
 refine ⟨rfl, .inr ⟨W.heap.size, 1, #[.string s], rfl, h, ?_, Nat.le_refl _, by decide, rfl, rfl⟩⟩
 show (W.heap.push _)[W.heap.size]? = _
 simp
theorem freeL_var {t : TreeD} {f i : Nat} {x : TermD} (hx : t.nodes[i]? = some x) (hk : x.kind = 0) (hn : x.kids = []) : freeL t (f + 1) i [] = [x.name] := by
 rw [freeL, hx]
 dsimp only
 rw [hn]
 simp [hk, inB, freeK]
theorem freeL_in {t : TreeD} {f i : Nat} {x : TermD} (hx : t.nodes[i]? = some x) (hk : x.kind ≠ 0) : freeL t (f + 1) i [] = freeK (freeL t f) x 0 (x.kids.map Int.toNat) [] := by
 rw [freeL, hx]
 dsimp only
 rw [if_neg (fun h => hk h.1), List.nil_append]
theorem freeK_snoc {t : TreeD} {f : Nat} {x : TermD} {ks : List Nat} {k : Nat} (hk : k < ks.length) (s : ByteArray) : s ∈ freeK (freeL t f) x 0 (ks.take (k + 1)) [] ↔ s ∈ freeK (freeL t f) x 0 (ks.take k) [] ∨ (s ∈ freeL t f ks[k] [] ∧ s ≠ bndN x k) := by
 rw [freeK_mem, freeK_mem]
 constructor
 ·rintro ⟨j, z, h1, h2⟩
  rw [List.getElem?_take] at h1
  split at h1
  ·rename_i hj
   by_cases e : j = k
   ·subst e
    rw [List.getElem?_eq_getElem hk] at h1
    injection h1 with h1
    subst h1
    rw [freeL_env] at h2
    exact .inr ⟨h2.1, fun e => h2.2 (by rw [e]; simp)⟩
   ·exact .inl ⟨j, z, by rw [List.getElem?_take, if_pos (by omega)]; exact h1, h2⟩
  ·cases h1
 ·rintro (⟨j, z, h1, h2⟩ | ⟨h1, h2⟩)
  ·rw [List.getElem?_take] at h1
   split at h1
   ·exact ⟨j, z, by rw [List.getElem?_take, if_pos (by omega)]; exact h1, h2⟩
   ·cases h1
  ·refine ⟨k, ks[k], by rw [List.getElem?_take, if_pos (by omega), List.getElem?_eq_getElem hk], ?_⟩
   rw [freeL_env]
   exact ⟨h1, by simpa using h2⟩

set_option maxRecDepth 100000 in
set_option maxHeartbeats 16000000 in
theorem rfree_any (t : TreeD) (p : Ptr6) (hR : Rng t) (hF : TreeFew t) : ∀ (f i : Nat), i < f → i < t.nodes.length → ∀ (w : World), TreeAt (Lt w.heap.size) w t p →
 Calls Tryz.prog 38 #[treeV t p, .int .i64 (i : Int)] w (InsPost w.heap.size (fun s => s ∈ freeL t f i []) t.nodes.length w) := by
 intro f
 induction f with
 | zero => intro i h; omega
 | succ f ih =>
 intro i hif hi w hT
 obtain ⟨W0, hW0⟩ : ∃ W0, w.alloc (.cells #[.slice p.a1 t.nodes.length p.c1, .slice p.a2 t.types.length p.c2, .slice p.a3 t.aliases.length p.c3] 28) = W0 := ⟨_, rfl⟩
 obtain ⟨hb0, hX0, hT0⟩ := box_tree t p w W0 hT hW0
 have hs0 : W0.heap.size = w.heap.size + 1 := by
  rw [← hW0]
  show (w.heap.push _).size = _
  rw [Array.size_push]
 have x0 := hX0.cell 0
 have x1 := hX0.cell 1
 have x2 := hX0.cell 2
 simp only [List.getElem?_toArray, List.getElem?_cons_zero, List.getElem?_cons_succ] at x0 x1 x2
 obtain ⟨b, off, hpa, hb, hcell⟩ := hT0.1 (by omega)
 obtain ⟨q, hq5, hq⟩ := hcell i t.nodes[i] (List.getElem?_eq_getElem hi)
 have hfew := hF.1 t.nodes[i] (List.getElem_mem hi)
 obtain ⟨x, hx⟩ : ∃ x, t.nodes[i] = x := ⟨_, rfl⟩
 have hget : t.nodes[i]? = some x := by rw [List.getElem?_eq_getElem hi, hx]
 rw [hx] at hq hfew hq5
 have hkids := (hR.nod i x hget).1
 have hterm := (hR.nod i x hget).2.2
 obtain ⟨kind, pos, nm, int, bits, nms, kids, tys⟩ := x
 have c0 := hq 0 _ rfl
 have c1 := hq 1 _ rfl
 have c2 := hq 2 _ rfl
 have c3 := hq 3 _ rfl
 have c4 := hq 4 _ rfl
 have c5 := hq 5 _ rfl
 have c6 := hq 6 _ rfl
 have c7 := hq 7 _ rfl
 dsimp only at c0 c1 c2 c3 c4 c5 c6 c7 hkids
 rw [Nat.add_zero] at c0
 rw [hpa] at x0 hW0
 have hkl : kids.length ≤ 1000 := hfew.2.2.2.1
 have hnl : nms.length ≤ 1000 := hfew.2.1
 have hNL : t.nodes.length ≤ 1000 := hF.2.2.2.2.1
 obtain ⟨W1, hW1⟩ : ∃ W1, W0.alloc (.cells #[.int .i64 kind, .int .i64 pos, .string nm, .int .i64 int, .int .u64 (bits : Int), .slice q.a5 nms.length q.c5, .slice q.a6 kids.length q.c6, .slice q.a7 tys.length q.c7] 60) = W1 := ⟨_, rfl⟩
 have hb1 : Below W0.heap.size W0 W1 := by rw [← hW1]; exact (Below.refl _ W0).alloc (Nat.le_refl _) _
 have hY1 : Blk W1 (w.heap.size + 1) 60 #[.int .i64 kind, .int .i64 pos, .string nm, .int .i64 int, .int .u64 (bits : Int), .slice q.a5 nms.length q.c5, .slice q.a6 kids.length q.c6, .slice q.a7 tys.length q.c7] := by rw [← hW1, ← hs0]; exact Blk.new W0 60 _
 have hX1 := hX0.below hb1 hX0.lt
 have HT := Lib.hid hT
 have HQ1 := Lib.hid (show TermOk (Lt W0.heap.size) W1 ⟨kind, pos, nm, int, bits, nms, kids, tys⟩ q from ⟨hq5.1.keep (keep_below hb1), hq5.2.1.keep (keep_below hb1), hq5.2.2.keep (keep_below hb1)⟩)
 have HB1 := Lib.hid (hb0.trans (hb1.mono hb0.size))
 have HK := Lib.hid hkids
 have HGET := Lib.hid hget
 have HTERM := Lib.hid hterm
 have HRN := Lib.hid hR
 have IH := Lib.hid ih
 have hz1 : w.heap.size + 2 ≤ W1.heap.size := by rw [← hW1]; simp [hs0]
 have HX1 := Lib.hid hX1
 have s0 := hY1.cell 0
 have s2 := hY1.cell 2
 have s6 := hY1.cell 6
 simp only [List.getElem?_toArray, List.getElem?_cons_zero, List.getElem?_cons_succ] at s0 s2 s6
 have HY1 := Lib.hid hY1
 clear hb0 hb1 hT0 hT hcell hq hq5 hfew hx hget hkids hterm ih hX0 hR hF hX1 hY1
 by_cases hk0 : kind = 0
 ·subst hk0
  have hkn : kids = [] := by
   have hb := HTERM.out
   unfold termB at hb
   rw [if_pos rfl] at hb
   simp only [holdsB, Bool.and_eq_true, decide_eq_true_eq] at hb
   refine List.eq_nil_of_length_eq_zero ?_
   have := hb.1
   omega
  have hfr := freeL_var (f := f) HGET.out rfl hkn
  have HFR := Lib.hid hfr
  clear hkn hfr
  go_enter Tryz.func38, Tryz.ntmps38
  go_wp2
  go_ret
  exact ⟨_, [nm], rfl, own_oneZ _ _ _ (by have := HB1.out.size; omega), List.pairwise_singleton _ _, fun s => by rw [HFR.out], by simp; omega, HB1.out.alloc HB1.out.size _⟩
 have hkq : (kind == 0) = false := by simp [hk0]
 have hfr := freeL_in (f := f) HGET.out hk0
 dsimp only at hfr
 have HFR := Lib.hid hfr
 have hO2 := own_emptyZ W1 9 (w.heap.size + 2) (by omega)
 obtain ⟨W2, hW2⟩ : ∃ W2, W1.alloc (.cells #[] 9) = W2 := ⟨_, rfl⟩
 have hb2 : Below (w.heap.size + 2) W1 W2 := by rw [← hW2]; exact (Below.refl _ W1).alloc (by omega) _
 rw [hW2] at hO2
 have HO2 := Lib.hid hO2
 have HB2 := Lib.hid hb2
 have u6 := (hb2.cell (p := ⟨w.heap.size + 1, 6, none⟩) (by dsimp only; omega)).trans s6
 clear hfr hO2 hb2
 go_enter Tryz.func38, Tryz.ntmps38
 go_wp2
 clear hW0 hW1 hW2
 go_loopw [6, 7, 8, 9, 25, 33, 55] (fun v6 _ _ _ vc _ _ wr => ∃ (V : Value) (k : Nat) (ms : List ByteArray), V = v6 ∧ k ≤ kids.length ∧ vc = .int .i64 (k : Int) ∧ Hid (Rise ms) ∧ Hid (∀ s, s ∈ ms ↔ s ∈ freeK (freeL t f) ⟨kind, pos, nm, int, bits, nms, kids, tys⟩ 0 ((kids.map Int.toNat).take k) []) ∧ Hid (wr.ownsRow (w.heap.size + 2) 9 1 v6 ms.length (ms.map .string)) ∧ Hid (Below (w.heap.size + 2) W1 wr)) (fun _ _ _ _ vc _ _ _ => kids.length - (intOf vc).toNat)
 case atStart => exact ⟨_, 0, [], rfl, Nat.zero_le _, rfl, Lib.hid List.Pairwise.nil, Lib.hid (by simp [freeK]), HO2, HB2⟩
 case round =>
  obtain ⟨V, k, ms, rfl, hk, rfl, HRm, HMm, HOm, HBr⟩ := hrel
  have hzr := HBr.out.size
  by_cases hlk : k < kids.length
  ·obtain ⟨b6, off6, h6, hb6, hc6⟩ := HQ1.out.2.1.2 (by dsimp only; omega)
   dsimp only [Lt] at h6 hc6 hb6
   have e6 := (HBr.out.cell (p := ⟨b6, off6 + k, none⟩) (by dsimp only; omega)).trans (hc6 k (iv kids[k]) (by simp [hlk]))
   have hKm := HK.out kids[k] (List.getElem_mem hlk)
   have hsn := freeK_snoc (t := t) (f := f) (x := ⟨kind, pos, nm, int, bits, nms, kids, tys⟩) (ks := kids.map Int.toNat) (k := k) (by simpa using hlk)
   rw [List.getElem_map] at hsn
   obtain ⟨K, hKe⟩ : ∃ K : Nat, kids[k] = (K : Int) := ⟨kids[k].toNat, by omega⟩
   rw [hKe] at e6 hKm hsn
   rw [Int.toNat_natCast] at hsn
   have HSN := Lib.hid hsn
   have hKi : K < i := by omega
   have hXr : Blk wr w.heap.size 28 #[.slice (some ⟨b, off, none⟩) t.nodes.length p.c1, .slice p.a2 t.types.length p.c2, .slice p.a3 t.aliases.length p.c3] := by rw [← hpa]; exact (HBr.out.block _ (by omega)).trans HX1.out
   have y0 := hXr.cell 0
   have y1 := hXr.cell 1
   have y2 := hXr.cell 2
   simp only [List.getElem?_toArray, List.getElem?_cons_zero, List.getElem?_cons_succ] at y0 y1 y2
   have hTr : TreeAt (Lt wr.heap.size) wr t p := tree_onZ HT.out (HB1.out.trans (HBr.out.mono (by omega)))
   have cI := IH.out K (by omega) (by omega) wr hTr
   unfold treeV at cI
   rw [hpa] at cI
   rw [h6]
   clear hKe hKm hc6 hXr h6 hsn hTr s0 s2 s6
   go_wp2_with fail
   refine cI.mono ?_
   rintro e w3 ⟨vf, fs, rfl, hOf, hRf, hMf, hfl', hb3⟩
   have hfl : fs.length ≤ 100000 := by omega
   have HMf := Lib.hid hMf
   have HRf := Lib.hid hRf
   have HOf := Lib.hid (own_baseZ hOf (base' := w.heap.size + 2) (by omega))
   have HB3 := Lib.hid (HBr.out.trans (hb3.mono (by omega)))
   have HOm3 := Lib.hid (own_belowZ HOm.out hb3)
   have hz3 := hb3.size
   obtain ⟨Af, cf, rfl⟩ := own_sliceZ hOf
   have HSF : Hid (SlAt (Lt w3.heap.size) w3 Af fs.length (fs.map .string)) := Lib.hid (by
    obtain ⟨A', c', e', _, h'⟩ := SlAt.of_own hOf
    injection e' with e1
    subst e1
    exact h'.imp fun b h => h.2)
   have HNO : Hid (noName ∉ fs) := Lib.hid fun h => free_noName HRN.out ((HMf.out _).1 h)
   have hY3 : Blk w3 (w.heap.size + 1) 60 #[.int .i64 kind, .int .i64 pos, .string nm, .int .i64 int, .int .u64 (bits : Int), .slice q.a5 nms.length q.c5, .slice q.a6 kids.length q.c6, .slice q.a7 tys.length q.c7] := (HB3.out.block _ (by omega)).trans HY1.out
   have s0 := hY3.cell 0
   have s2 := hY3.cell 2
   have s5 := hY3.cell 5
   simp only [List.getElem?_toArray, List.getElem?_cons_zero, List.getElem?_cons_succ] at s0 s2 s5
   have HNM := Lib.hid (show 0 < nms.length → ∃ b off, q.a5 = some ⟨b, off, none⟩ ∧ ∀ j u, (nms.map Value.string)[j]? = some u → w3.cell? ⟨b, off + j, none⟩ = some u from fun hn => by
    obtain ⟨b5, off5, h5, hb5, hc5⟩ := HQ1.out.1.2 hn
    dsimp only [Lt] at hb5
    exact ⟨b5, off5, h5, fun j u hu => (HB3.out.cell (p := ⟨b5, off5 + j, none⟩) (by dsimp only; omega)).trans (hc5 j u hu)⟩)
   clear hOf hRf hMf hb3 hY3 cI y0 y1 y2 e6
   go_upto_block 2 with fail
   go_cut [9] from 33 to 79 (fun v9 wx => ∃ (V9 : Value) (gs : List ByteArray), V9 = v9 ∧ wx.ownsRow (w.heap.size + 2) 9 1 v9 gs.length (gs.map .string) ∧ Rise gs ∧ (∀ s, s ∈ gs ↔ s ∈ fs ∧ s ≠ bndN ⟨kind, pos, nm, int, bits, nms, kids, tys⟩ k) ∧ gs.length ≤ 100000 ∧ Below w3.heap.size w3 wx)
   case first =>
    by_cases h5 : kind = 5
    ·subst h5
     have hbd : bndN (⟨5, pos, nm, int, bits, nms, kids, tys⟩ : TermD) k = nm := by simp [bndN]
     have HBD := Lib.hid hbd
     clear hbd
     have cWo := without_any fs Af cf nm w3 HSF.out hfl
     go_wp2_with fail
     refine cWo.mono ?_
     rintro e w4 ⟨v4, rfl, hO4, hb4⟩
     have HO4 := Lib.hid hO4
     have HB4 := Lib.hid hb4
     clear hO4 hb4 cWo
     go_wp2
     go_meet
     case rel => exact ⟨_, fs.filter (fun z => decide (z ≠ nm)), rfl, own_baseZ HO4.out (by omega), List.Pairwise.filter _ HRf.out, fun s => by rw [List.mem_filter, HBD.out]; simp, Nat.le_trans (List.length_filter_le _ _) hfl, HB4.out.mono (by omega)⟩
    have k5 : (kind == 5) = false := by simp [h5]
    by_cases h8 : kind = 8
    ·subst h8
     have hbd : bndN (⟨8, pos, nm, int, bits, nms, kids, tys⟩ : TermD) k = nm := by simp [bndN]
     have HBD := Lib.hid hbd
     clear hbd
     have cWo := without_any fs Af cf nm w3 HSF.out hfl
     go_wp2_with fail
     refine cWo.mono ?_
     rintro e w4 ⟨v4, rfl, hO4, hb4⟩
     have HO4 := Lib.hid hO4
     have HB4 := Lib.hid hb4
     clear hO4 hb4 cWo
     go_wp2
     go_meet
     case rel => exact ⟨_, fs.filter (fun z => decide (z ≠ nm)), rfl, own_baseZ HO4.out (by omega), List.Pairwise.filter _ HRf.out, fun s => by rw [List.mem_filter, HBD.out]; simp, Nat.le_trans (List.length_filter_le _ _) hfl, HB4.out.mono (by omega)⟩
    have k8 : (kind == 8) = false := by simp [h8]
    by_cases h7 : kind = 7
    ·subst h7
     by_cases h1 : k = 1
     ·subst h1
      have hbd : bndN (⟨7, pos, nm, int, bits, nms, kids, tys⟩ : TermD) 1 = nm := by simp [bndN]
      have HBD := Lib.hid hbd
      clear hbd
      have cWo := without_any fs Af cf nm w3 HSF.out hfl
      go_wp2_with fail
      refine cWo.mono ?_
      rintro e w4 ⟨v4, rfl, hO4, hb4⟩
      have HO4 := Lib.hid hO4
      have HB4 := Lib.hid hb4
      clear hO4 hb4 cWo
      go_wp2
      go_meet
      case rel => exact ⟨_, fs.filter (fun z => decide (z ≠ nm)), rfl, own_baseZ HO4.out (by omega), List.Pairwise.filter _ HRf.out, fun s => by rw [List.mem_filter, HBD.out]; simp, Nat.le_trans (List.length_filter_le _ _) hfl, HB4.out.mono (by omega)⟩
     ·have hbd : bndN (⟨7, pos, nm, int, bits, nms, kids, tys⟩ : TermD) k = noName := by simp [bndN, h1]
      have k1 : ((k : Int) == 1) = false := by simp; omega
      have HBD := Lib.hid hbd
      clear hbd
      go_wp2
      go_meet
      case rel => exact ⟨_, fs, rfl, HOf.out, HRf.out, fun s => ⟨fun h => ⟨h, fun e => HNO.out (by rw [HBD.out] at e; rw [← e]; exact h)⟩, fun h => h.1⟩, hfl, Below.refl _ _⟩
    have k7 : (kind == 7) = false := by simp [h7]
    by_cases h10 : kind = 10
    ·subst h10
     by_cases h0 : k = 0
     ·subst h0
      have hbd : bndN (⟨10, pos, nm, int, bits, nms, kids, tys⟩ : TermD) 0 = noName := by simp [bndN]
      have HBD := Lib.hid hbd
      clear hbd
      go_wp2
      go_meet
      case rel => exact ⟨_, fs, rfl, HOf.out, HRf.out, fun s => ⟨fun h => ⟨h, fun e => HNO.out (by rw [HBD.out] at e; rw [← e]; exact h)⟩, fun h => h.1⟩, hfl, Below.refl _ _⟩
     have hp0 : decide ((0 : Int) < (k : Int)) = true := by simp; omega
     by_cases h2 : 2 * k ≤ nms.length
     ·have hp2 : decide ((k : Int) ≤ (nms.length : Int).tdiv 2) = true := by simp; omega
      obtain ⟨b5, off5, h5a, hc5⟩ := HNM.out (by omega)
      have hlt : 2 * k - 1 < nms.length := by omega
      have k0 := hc5 (2 * k - 1) (.string nms[2 * k - 1]) (by simp [hlt])
      have hbd : bndN (⟨10, pos, nm, int, bits, nms, kids, tys⟩ : TermD) k = nms[2 * k - 1] := by unfold bndN; dsimp only; rw [if_neg (by simp), if_pos ⟨rfl, by omega, h2⟩]; simp [List.getD_eq_getElem?_getD, List.getElem?_eq_getElem hlt]
      obtain ⟨s, hs⟩ : ∃ s, nms[2 * k - 1] = s := ⟨_, rfl⟩
      rw [hs] at k0 hbd
      rw [h5a] at s5
      have HBD := Lib.hid hbd
      clear hbd hs hc5 h5a
      have cWo := without_any fs Af cf s w3 HSF.out hfl
      go_wp2_with fail
      refine cWo.mono ?_
      rintro e w4 ⟨v4, rfl, hO4, hb4⟩
      have HO4 := Lib.hid hO4
      have HB4 := Lib.hid hb4
      clear hO4 hb4 cWo
      go_wp2
      go_meet
      case rel => exact ⟨_, fs.filter (fun z => decide (z ≠ s)), rfl, own_baseZ HO4.out (by omega), List.Pairwise.filter _ HRf.out, fun s => by rw [List.mem_filter, HBD.out]; simp, Nat.le_trans (List.length_filter_le _ _) hfl, HB4.out.mono (by omega)⟩
     ·have hp2 : decide ((k : Int) ≤ (nms.length : Int).tdiv 2) = false := by simp; omega
      have hbd : bndN (⟨10, pos, nm, int, bits, nms, kids, tys⟩ : TermD) k = noName := by unfold bndN; dsimp only; rw [if_neg (by simp), if_neg (by omega)]
      have HBD := Lib.hid hbd
      clear hbd
      go_wp2
      go_meet
      case rel => exact ⟨_, fs, rfl, HOf.out, HRf.out, fun s => ⟨fun h => ⟨h, fun e => HNO.out (by rw [HBD.out] at e; rw [← e]; exact h)⟩, fun h => h.1⟩, hfl, Below.refl _ _⟩
    have k10 : (kind == 10) = false := by simp [h10]
    have hbd : bndN (⟨kind, pos, nm, int, bits, nms, kids, tys⟩ : TermD) k = noName := by unfold bndN; dsimp only; rw [if_neg (by omega), if_neg (by omega)]
    have HBD := Lib.hid hbd
    clear hbd
    go_wp2
    go_meet
    case rel => exact ⟨_, fs, rfl, HOf.out, HRf.out, fun s => ⟨fun h => ⟨h, fun e => HNO.out (by rw [HBD.out] at e; rw [← e]; exact h)⟩, fun h => h.1⟩, hfl, Below.refl _ _⟩
   case rest =>
    obtain ⟨V9, gs, rfl, hOg, hRg, hMg, hgl, hbg⟩ := hcut
    have hOm4 := own_belowZ HOm3.out hbg
    have hml : ms.length ≤ 1000 := Nat.le_trans (free_len (t := t) (f := f + 1) (i := i) (env := []) HRm.out fun s hs => by
     rw [HFR.out]
     obtain ⟨j, z, h1, h2⟩ := freeK_mem.1 ((HMm.out s).1 hs)
     refine freeK_mem.2 ⟨j, z, ?_, h2⟩
     rw [List.getElem?_take] at h1
     split at h1
     ·exact h1
     ·cases h1) hNL
    have hgl2 : gs.length ≤ 1000 := Nat.le_trans (free_len (t := t) (f := f) (i := K) (env := []) hRg fun s hs => (HMf.out s).1 ((hMg s).1 hs).1) hNL
    have cJ := rjoin_any (w.heap.size + 2) ms gs V V9 wc (by have := hbg.size; omega) hOm4 hOg (by omega) HRm.out
    have HMg := Lib.hid hMg
    have HBG := Lib.hid (HB3.out.trans (hbg.mono (by omega)))
    clear hOg hRg hMg hbg hOm4
    go_wp2_with fail
    refine cJ.mono ?_
    rintro e w5 ⟨v5, ms5, rfl, hO5, hR5, hM5, _, hb5⟩
    have HO5 := Lib.hid hO5
    have HR5 := Lib.hid hR5
    have HM5 : Hid (∀ s, s ∈ ms5 ↔ s ∈ freeK (freeL t f) ⟨kind, pos, nm, int, bits, nms, kids, tys⟩ 0 ((kids.map Int.toNat).take (k + 1)) []) := Lib.hid fun s => by
     rw [hM5]
     dsimp only
     rw [HMm.out, HMg.out, HMf.out, HSN.out]
    have HB5 := Lib.hid (HBG.out.trans (hb5.mono (by have := HBG.out.size; omega)))
    clear hO5 hR5 hM5 hb5 cJ
    go_wp2
    go_roundw
    case rel => exact ⟨_, k + 1, ms5, rfl, by omega, by go_num, HR5, HM5, HO5, HB5⟩
    case measure => simp [intOf]; omega
  ·obtain rfl : k = kids.length := by omega
   have HM : Hid (∀ s, s ∈ ms ↔ s ∈ freeL t (f + 1) i []) := Lib.hid fun s => by
    rw [HFR.out, HMm.out, List.take_of_length_le (by simp)]
   have hml : ms.length ≤ t.nodes.length := free_len (t := t) (f := f + 1) (i := i) (env := []) HRm.out fun s hs => (HM.out s).1 hs
   have HML := Lib.hid hml
   clear hml
   go_wp2
   go_ret
   exact ⟨_, ms, rfl, own_baseZ HOm.out (by omega), HRm.out, HM.out, HML.out, HB1.out.trans (HBr.out.mono (by omega))⟩
end Go.Proofs.YtjbdgjbmbohfmaaGreatDoor

namespace Go.Proofs.YtjbdgjbmbohfmaaGreatDoor
open Go Go.Proofs Go.RowKit

attribute [local go_sem ↓] Go.wp_at_zero Go.wp_at_succ

theorem grown_belowZ {w w' : World} (h : Below w.heap.size w w') : w.grownBy w' none := ⟨h.os, h.tape, h.output, h.size, fun k hk _ => h.block k hk⟩
section
variable {al : List AliD} {M n : Nat} {D : DataW Unit} {w : World} {s : ByteArray}
theorem look_one (hown : w.ownsMap Tryz.prog 9 (plainElem Tryz.prog 3) M n D) (hM : Means al D) (hs : s.size ≤ 1000) {k : Nat} (hf : firstA al s = some k) :
 (Instr.lookup 147 (.map (some M)) (.string s) false).run Tryz.prog w = .ok (.int .i64 (k : Int)) w := by
 obtain ⟨c, hrun, hat, _⟩ := hown.lookup_int (Maps.string_keyed Tryz.underlying9) Tryz.underlying147 Tryz.underlying3 (Tryz.zeroValue3 _) (WideMaps.keyOf_string_mk Tryz.underlying9 (s := s) (by unfold maxLen; omega))
 rw [(hM.yes s k hf).2] at hat
 simp only [DataW.lit.injEq, Lit.int.injEq, true_and] at hat
 rw [← hat] at hrun
 exact hrun
end
/-- The first part, alias by alias. -/
def twiceK (t : TreeD) (k : Nat) : List DiagD := (List.range k).flatMap fun i => match t.aliases[i]? with
 | some a => if firstA t.aliases a.name = some i then [] else [⟨8, a.pos, a.name⟩]
 | none => []
theorem twiceK_snoc {t : TreeD} {k : Nat} {a : AliD} (h : t.aliases[k]? = some a) : twiceK t (k + 1) = twiceK t k ++ (if firstA t.aliases a.name = some k then [] else [⟨8, a.pos, a.name⟩]) := by
 unfold twiceK
 rw [List.range_succ, List.flatMap_append]
 simp [h]
def nameK (t : TreeD) (k : Nat) : List DiagD := (t.types.take k).flatMap fun n => if n.kind = 10 ∧ firstA t.aliases n.name = none then [⟨7, n.pos, n.name⟩] else []
theorem nameK_snoc {t : TreeD} {k : Nat} {y : TypD} (h : t.types[k]? = some y) : nameK t (k + 1) = nameK t k ++ (if y.kind = 10 ∧ firstA t.aliases y.name = none then [⟨7, y.pos, y.name⟩] else []) := by
 unfold nameK
 rw [List.take_add_one, h, List.flatMap_append]
 simp
theorem firstA_at {al : List AliD} {k : Nat} {a : AliD} (h : al[k]? = some a) : ∃ j, firstA al a.name = some j ∧ j < al.length := by
 cases hf : firstA al a.name with
 | none => exact absurd rfl (firstA_none hf a (List.mem_of_getElem? h))
 | some j => exact ⟨j, rfl, firstA_lt hf⟩

/-- What is found, in its order. -/
def AliPost (t : TreeD) (w : World) (e : Ending) (w' : World) : Prop :=
 ∃ (v : Value) (out : List Nat) (l : List DiagD), e = .returned v ∧ (∀ m, m ∈ out ↔ m < t.aliases.length ∧ Cyc (onL t) m) ∧ l = twiceL t ++ nameL t ++ out.map (loopD t) ∧ l.length ≤ 100000 ∧ w'.ownsRow w.heap.size 31 3 v l.length (dgV l) ∧ Below w.heap.size w w'

set_option maxRecDepth 100000 in
set_option maxHeartbeats 16000000 in
theorem wrongAliases_any (t : TreeD) (p : Ptr6) (w : World) (h0 : 0 < w.heap.size) (hT : TreeAt (Lt w.heap.size) w t p) (hN : NmOk t) (hS : Sm t) (hlt : t.types.length ≤ 1000) :
 Calls Tryz.prog 70 #[treeV t p] w (AliPost t w) := by
 obtain ⟨a1, c1, a2, c2, a3, c3⟩ := p
 obtain ⟨i31, hi, hz0, hz1, hz2⟩ := info_parts info31Z
 have hla := hS.la
 obtain ⟨W0, hW0⟩ : ∃ W0, w.alloc (.cells #[.slice a1 t.nodes.length c1, .slice a2 t.types.length c2, .slice a3 t.aliases.length c3] 28) = W0 := ⟨_, rfl⟩
 obtain ⟨hb0, hX0, hT0⟩ := box_tree t ⟨a1, c1, a2, c2, a3, c3⟩ w W0 hT hW0
 have cN := named_any t ⟨a1, c1, a2, c2, a3, c3⟩ W0 (by have := hb0.size; omega) hT0 hS.al hS.la
 have x0 := hX0.cell 0
 have x1 := hX0.cell 1
 have x2 := hX0.cell 2
 simp only [List.getElem?_toArray, List.getElem?_cons_zero, List.getElem?_cons_succ] at x0 x1 x2
 have HX0 := Lib.hid hX0
 have HB0 := Lib.hid hb0
 have HT0 := Lib.hid hT0
 have HN := Lib.hid hN
 have HS := Lib.hid hS
 have hX0l := hX0.lt
 clear hb0 hT0 hT hX0 hN hS
 go_enter Tryz.func70, Tryz.ntmps70
 go_wp2_with fail
 refine cN.mono ?_
 rintro e w1 ⟨M, n, D, rfl, hown, hM, hMl, hb1⟩
 have hX1 := HX0.out.below hb1 hX0l
 clear x0 x1 x2 hW0 cN
 have HX1 := Lib.hid hX1
 have x1 := hX1.cell 1
 have x2 := hX1.cell 2
 simp only [List.getElem?_toArray, List.getElem?_cons_zero, List.getElem?_cons_succ] at x1 x2
 have HB1 := Lib.hid (HB0.out.trans (hb1.mono HB0.out.size))
 have HT1 := Lib.hid (tree_onZ HT0.out hb1)
 have HM := Lib.hid hM
 have HOW := Lib.hid hown
 have hzw1 : w.heap.size < w1.heap.size := by have := hb1.size; omega
 have hMw := hown.lt
 clear hX1 hb1 hM hown
 go_wp2
 go_loopw [3, 5, 6, 18] (fun vl _ _ vc wr => ∃ (k : Nat) (pre : List DiagD), k ≤ t.aliases.length ∧ pre.length ≤ k ∧ vc = .int .i64 (k : Int) ∧ Hid (pre = twiceK t k) ∧ Hid (wr.ownsRow w1.heap.size 31 3 vl pre.length (dgV pre)) ∧ Hid (Below w1.heap.size w1 wr)) (fun _ _ _ vc _ => t.aliases.length - (intOf vc).toNat)
 case atStart => exact ⟨0, [], Nat.zero_le _, Nat.le_refl _, rfl, Lib.hid (by simp [twiceK]), Lib.hid (World.ownsRow_nil _ _ _ _), Lib.hid (Below.refl _ _)⟩
 case round =>
  obtain ⟨k, pre, hk, hpk, rfl, HP, HR, HBr⟩ := hrel
  have hzr := HBr.out.size
  by_cases hlk : k < t.aliases.length
  ·obtain ⟨b, off, hpa, hb, hcell⟩ := HT1.out.2.2 (by first | omega | (dsimp only; omega))
   dsimp only [Lt] at hb hpa
   have hq := hcell k t.aliases[k] (List.getElem?_eq_getElem hlk)
   obtain ⟨⟨nm, ty, ps⟩, hx⟩ : ∃ x, t.aliases[k] = x := ⟨_, rfl⟩
   have hget : t.aliases[k]? = some ⟨nm, ty, ps⟩ := by rw [List.getElem?_eq_getElem hlk, hx]
   rw [hx] at hq
   have d0 := (HBr.out.cell (p := ⟨b, off + k * 3 + 0, none⟩) hb).trans (hq 0 _ rfl)
   have d1 := (HBr.out.cell (p := ⟨b, off + k * 3 + 1, none⟩) hb).trans (hq 1 _ rfl)
   have d2 := (HBr.out.cell (p := ⟨b, off + k * 3 + 2, none⟩) hb).trans (hq 2 _ rfl)
   dsimp only at d0 d1 d2
   rw [Nat.add_zero] at d0
   obtain ⟨j, hj, hjl⟩ := firstA_at hget
   dsimp only at hj
   have hsn := twiceK_snoc hget
   dsimp only at hsn
   rw [hj] at hsn
   have hnm : nm.size ≤ 1000 := by have := HS.out.al _ (List.mem_of_getElem? hget); exact this
   have hlook := look_one ((HOW.out.kept (grown_belowZ HBr.out) (by simp)).alloc (.cells #[.string nm, .int .i64 ty, .int .i64 ps] 77)) HM.out hnm hj
   have HSN := Lib.hid hsn
   have HR1 := Lib.hid (HR.out.alloc (.cells #[.string nm, .int .i64 ty, .int .i64 ps] 77))
   have HB1' := Lib.hid (HBr.out.alloc hzr (.cells #[.string nm, .int .i64 ty, .int .i64 ps] 77))
   rw [hpa]
   clear hq hx hcell hget hj hsn x1 x2 hpa
   go_upto_region 6 with fail
   obtain ⟨W1, hW1⟩ : ∃ W1, wr.alloc (.cells #[.string nm, .int .i64 ty, .int .i64 ps] 77) = W1 := ⟨_, rfl⟩
   have g0 : W1.cell? ⟨wr.heap.size, 0, none⟩ = some (.string nm) := by rw [← hW1]; exact (Blk.new wr 77 #[.string nm, .int .i64 ty, .int .i64 ps]).cell 0
   have g2 : W1.cell? ⟨wr.heap.size, 2, none⟩ = some (.int .i64 ps) := by rw [← hW1]; exact (Blk.new wr 77 #[.string nm, .int .i64 ty, .int .i64 ps]).cell 2
   have hzn : wr.heap.size < W1.heap.size := by rw [← hW1]; simp
   rw [hW1] at hlook HR1 HB1' ⊢
   clear hW1 d0 d1 d2
   by_cases hjk : j = k
   ·have hq : ((j : Int) != (k : Int)) = false := by simp [hjk]
    have HP2 : Hid (pre = twiceK t (k + 1)) := Lib.hid (by rw [HSN.out, hjk, if_pos rfl, List.append_nil]; exact HP.out)
    go_wp2
    go_roundw
    case rel => exact ⟨k + 1, pre, by omega, by omega, by go_num, HP2, HR1, HB1'⟩
    case measure => simp [intOf]; omega
   ·have hq : ((j : Int) != (k : Int)) = true := by simp; omega
    have HP2 : Hid (pre ++ [⟨8, ps, nm⟩] = twiceK t (k + 1)) := Lib.hid (by rw [HSN.out, if_neg (by simpa using hjk)]; rw [HP.out])
    go_wp2_with (at_builtin; refine wpList_append_own_at _ rfl _ _ 98 rfl w1.heap.size 31 i31 (.agg #[.int .i64 0, .int .i64 0, .string ⟨#[]⟩]) 3 32 Tryz.underlying98 hi hz0 hz1 hz2 rfl (by decide) _ pre.length (dgV pre) rfl ?ra0 ⟨W1.heap.size, 0, none⟩ 1 1 [.int .i64 8, .int .i64 ps, .string nm] rfl rfl (cell3_new _ _ _ _ _) (by simp [Value.oneCell']) ?ra1 ?ra2 ?ra3 ?_)
    case ra0 => exact HR1.out.alloc _
    case ra1 => unfold maxLen; omega
    case ra2 => omega
    case ra3 => first | omega | (simp; omega)
    intro v1 W3 hown hg _ _
    have hbX := HB1'.out.alloc (by omega) (.cells #[.int .i64 8, .int .i64 ps, .string nm] 31)
    have HB3 := Lib.hid (hbX.grown hg hbX.size (fun g hg => (own_atZ HR1.out g hg).1))
    have HO3 : Hid (W3.ownsRow w1.heap.size 31 3 v1 (pre ++ [DiagD.mk 8 ps nm]).length (dgV (pre ++ [DiagD.mk 8 ps nm]))) := Lib.hid (by rw [dgV_append, List.length_append]; exact hown)
    clear hown hg hbX
    go_wp2
    go_roundw
    case rel => exact ⟨k + 1, pre ++ [DiagD.mk 8 ps nm], by omega, by simp; omega, by go_num, HP2, HO3, HB3⟩
    case measure => simp [intOf]; omega
  ·obtain rfl : k = t.aliases.length := by omega
   have HPA : Hid (pre = twiceL t) := Lib.hid HP.out
   have hy1 := (HBr.out.cell (p := ⟨w.heap.size, 1, none⟩) hzw1).trans x1
   clear HP x1 x2
   go_wp2
   go_loopw [3, 8, 9, 10, 41, 45] (fun vl _ _ _ vc _ wr => ∃ (k : Nat) (pre : List DiagD), k ≤ t.types.length ∧ pre.length ≤ t.aliases.length + k ∧ vc = .int .i64 (k : Int) ∧ Hid (pre = twiceL t ++ nameK t k) ∧ Hid (wr.ownsRow w1.heap.size 31 3 vl pre.length (dgV pre)) ∧ Hid (Below w1.heap.size w1 wr)) (fun _ _ _ _ vc _ _ => t.types.length - (intOf vc).toNat)
   case atStart => exact ⟨0, pre, Nat.zero_le _, by omega, rfl, Lib.hid (by rw [HPA.out]; simp [nameK]), HR, HBr⟩
   case round =>
    clear hy1 hzr HBr HR hpk HPA pre
    obtain ⟨k, pre, hk2, hpk, rfl, HP, HR, HBr⟩ := hrel
    have hzr := HBr.out.size
    by_cases hlk2 : k < t.types.length
    ·obtain ⟨b, off, hpa, hb, hcell⟩ := HT1.out.2.1 (by first | omega | (dsimp only; omega))
     dsimp only [Lt] at hb hpa
     obtain ⟨q, _, hq⟩ := hcell k t.types[k] (List.getElem?_eq_getElem hlk2)
     obtain ⟨⟨kind, pos, nm, nms, kids, opn⟩, hx⟩ : ∃ x, t.types[k] = x := ⟨_, rfl⟩
     have hget : t.types[k]? = some ⟨kind, pos, nm, nms, kids, opn⟩ := by rw [List.getElem?_eq_getElem hlk2, hx]
     rw [hx] at hq
     have d0 := (HBr.out.cell (p := ⟨b, off + k * 6 + 0, none⟩) hb).trans (hq 0 _ rfl)
     have d1 := (HBr.out.cell (p := ⟨b, off + k * 6 + 1, none⟩) hb).trans (hq 1 _ rfl)
     have d2 := (HBr.out.cell (p := ⟨b, off + k * 6 + 2, none⟩) hb).trans (hq 2 _ rfl)
     have d3 := (HBr.out.cell (p := ⟨b, off + k * 6 + 3, none⟩) hb).trans (hq 3 _ rfl)
     have d4 := (HBr.out.cell (p := ⟨b, off + k * 6 + 4, none⟩) hb).trans (hq 4 _ rfl)
     have d5 := (HBr.out.cell (p := ⟨b, off + k * 6 + 5, none⟩) hb).trans (hq 5 _ rfl)
     dsimp only at d0 d1 d2 d3 d4 d5
     rw [Nat.add_zero] at d0
     have hsn := nameK_snoc hget
     dsimp only at hsn
     have hnm : nm.size ≤ 1000 := by have := HS.out.ty _ (List.mem_of_getElem? hget); exact this
     obtain ⟨cs, hcs⟩ : ∃ cs, (#[.int .i64 kind, .int .i64 pos, .string nm, .slice q.a3 nms.length q.c3, .slice q.a4 kids.length q.c4, .bool opn] : Array Value) = cs := ⟨_, rfl⟩
     have hOw1 := (HOW.out.kept (grown_belowZ HBr.out) (by simp)).alloc (.cells cs 51)
     have HSN := Lib.hid hsn
     have HR1 := Lib.hid (HR.out.alloc (.cells cs 51))
     have HB1' := Lib.hid (HBr.out.alloc hzr (.cells cs 51))
     have HCS := Lib.hid hcs
     rw [hpa]
     clear hq hx hcell hget hsn hpa hcs
     go_upto_region 12 with fail
     rw [HCS.out]
     obtain ⟨W1, hW1⟩ : ∃ W1, wr.alloc (.cells cs 51) = W1 := ⟨_, rfl⟩
     have hBk : Blk W1 wr.heap.size 51 cs := by rw [← hW1]; exact Blk.new wr 51 cs
     rw [← HCS.out] at hBk
     have g0 := hBk.cell 0
     have g1 := hBk.cell 1
     have g2 := hBk.cell 2
     simp only [List.getElem?_toArray, List.getElem?_cons_zero, List.getElem?_cons_succ] at g0 g1 g2
     have hzn : wr.heap.size < W1.heap.size := by rw [← hW1]; simp
     rw [hW1] at hOw1 HR1 HB1' ⊢
     clear hW1 d0 d1 d2 d3 d4 d5 hBk
     cases hf : firstA t.aliases nm with
     | some j =>
      have hlook := look_yes hOw1 HM.out hnm hf
      have HP2 : Hid (pre = twiceL t ++ nameK t (k + 1)) := Lib.hid (by rw [HSN.out, hf, if_neg (by simp), List.append_nil]; exact HP.out)
      clear hf hOw1
      cases hk10 : (kind == 10)
      all_goals
       go_wp2
       go_roundw
       case rel => exact ⟨k + 1, pre, by omega, by omega, by go_num, HP2, HR1, HB1'⟩
       case measure => simp [intOf]; omega
     | none =>
      have hlook := look_no hOw1 HM.out hnm hf
      by_cases hk10 : kind = 10
      ·subst hk10
       have HP2 : Hid (pre ++ [⟨7, pos, nm⟩] = twiceL t ++ nameK t (k + 1)) := Lib.hid (by rw [HSN.out, hf, if_pos (by simp), HP.out, List.append_assoc])
       clear hf hOw1
       go_wp2_with (at_builtin; refine wpList_append_own_at _ rfl _ _ 98 rfl w1.heap.size 31 i31 (.agg #[.int .i64 0, .int .i64 0, .string ⟨#[]⟩]) 3 32 Tryz.underlying98 hi hz0 hz1 hz2 rfl (by decide) _ pre.length (dgV pre) rfl ?ra0 ⟨W1.heap.size, 0, none⟩ 1 1 [.int .i64 7, .int .i64 pos, .string nm] rfl rfl (cell3_new _ _ _ _ _) (by simp [Value.oneCell']) ?ra1 ?ra2 ?ra3 ?_)
       case ra0 => exact HR1.out.alloc _
       case ra1 => unfold maxLen; omega
       case ra2 => omega
       case ra3 => first | omega | (simp; omega)
       intro v1 W3 hown hg _ _
       have hbX := HB1'.out.alloc (by omega) (.cells #[.int .i64 7, .int .i64 pos, .string nm] 31)
       have HB3 := Lib.hid (hbX.grown hg hbX.size (fun g hg => (own_atZ HR1.out g hg).1))
       have HO3 : Hid (W3.ownsRow w1.heap.size 31 3 v1 (pre ++ [DiagD.mk 7 pos nm]).length (dgV (pre ++ [DiagD.mk 7 pos nm]))) := Lib.hid (by rw [dgV_append, List.length_append]; exact hown)
       clear hown hg hbX
       go_wp2
       go_roundw
       case rel => exact ⟨k + 1, pre ++ [DiagD.mk 7 pos nm], by omega, by simp; omega, by go_num, HP2, HO3, HB3⟩
       case measure => simp [intOf]; omega
      ·have hkb : (kind == 10) = false := by simp [hk10]
       have HP2 : Hid (pre = twiceL t ++ nameK t (k + 1)) := Lib.hid (by rw [HSN.out, if_neg (by simp [hk10]), List.append_nil]; exact HP.out)
       clear hf hOw1
       go_wp2
       go_roundw
       case rel => exact ⟨k + 1, pre, by omega, by omega, by go_num, HP2, HR1, HB1'⟩
       case measure => simp [intOf]; omega
    ·obtain rfl : k = t.types.length := by omega
     have HPA : Hid (pre = twiceL t ++ nameL t) := Lib.hid (by have := HP.out; unfold nameK at this; rw [List.take_length] at this; exact this)
     have HTr := Lib.hid (tree_onZ HT1.out HBr.out)
     have hXr := HX1.out.below HBr.out (by omega)
     have y0 := hXr.cell 0
     have y1 := hXr.cell 1
     have y2 := hXr.cell 2
     simp only [List.getElem?_toArray, List.getElem?_cons_zero, List.getElem?_cons_succ] at y0 y1 y2
     have cO := onward_any t ⟨a1, c1, a2, c2, a3, c3⟩ M n D wr HTr.out HN.out HS.out (HOW.out.kept (grown_belowZ HBr.out) (by simp)) HM.out
     clear HP hXr
     go_wp2_with fail
     refine cO.mono ?_
     rintro e w2 ⟨g, rfl, hgl, hBg, hb2⟩
     have hLl : (onL t).length = t.aliases.length := by simp [onL]
     have cLo := looping_any (onL t) g (onL t).length w2 hBg (by omega) (fun v hv => by
      rw [hLl]
      obtain ⟨a, _, rfl⟩ := List.mem_map.1 hv
      unfold onA
      split
      ·split
       ·rename_i hf; have := firstA_lt hf; omega
       ·omega
      ·omega)
     have HLL := Lib.hid hLl
     clear hLl
     have HR2 := Lib.hid (own_belowZ HR.out hb2)
     have HB2 := Lib.hid (HBr.out.trans (hb2.mono hzr))
     have hsz2 := hb2.size
     clear hb2 hBg cO y0 y1 y2
     go_wp2_with fail
     refine cLo.mono ?_
     rintro e w3 ⟨v3, out, rfl, hO3, hmem, hol, hb3⟩
     have HR3 := Lib.hid (own_belowZ HR2.out hb3)
     have HB3 := Lib.hid (HB2.out.trans (hb3.mono (by omega)))
     obtain ⟨A3, c3', rfl⟩ := own_sliceZ hO3
     have HO33 := Lib.hid hO3
     rw [HLL.out] at hmem hol
     have HMEM := Lib.hid hmem
     have hsz3 := hb3.size
     clear hb3 hO3 hmem cLo HR HBr hzr
     have hp3 : pre.length ≤ t.aliases.length + t.types.length := hpk
     go_wp2
     go_loopw [3, 12, 73] (fun vl _ vc wr => ∃ (V2 : Value) (k : Nat) (pre2 : List DiagD), V2 = vl ∧ k ≤ out.length ∧ pre2.length = pre.length + k ∧ vc = .int .i64 (k : Int) ∧ Hid (pre2 = pre ++ (out.take k).map (loopD t)) ∧ Hid (wr.ownsRow w1.heap.size 31 3 V2 pre2.length (dgV pre2)) ∧ Hid (wr.ownsRow w2.heap.size 3 1 (.slice A3 out.length c3') out.length (nvsZ out)) ∧ Hid (Below w1.heap.size w1 wr)) (fun _ _ vc _ => out.length - (intOf vc).toNat)
     case atStart => exact ⟨_, 0, pre, rfl, Nat.zero_le _, rfl, rfl, Lib.hid (by simp), HR3, HO33, HB3⟩
     case round =>
      obtain ⟨V2, k, pre2, rfl, hk3, hpk3, rfl, HP, HR, HOU, HBr⟩ := hrel
      have hzr := HBr.out.size
      by_cases hlk3 : k < out.length
      ·obtain ⟨A', c', e', _, hSl⟩ := SlAt.of_own HOU.out
       injection e' with e1 _ e3
       subst e1
       subst e3
       obtain ⟨bo, oo, hA3, hbo, hco⟩ := hSl.at_ hlk3
       have f0 := hco k (.int .i64 (out[k] : Nat)) (by simp [hlk3])
       obtain ⟨m, hm⟩ : ∃ m, out[k] = m := ⟨_, rfl⟩
       have hml : m < t.aliases.length := ((HMEM.out m).1 (by rw [← hm]; exact List.getElem_mem _)).1
       rw [hm] at f0
       obtain ⟨b, off, hpa, hbw, hcell⟩ := HT1.out.2.2 (by first | omega | (dsimp only; omega))
       dsimp only [Lt] at hbw hpa
       have hq := hcell m t.aliases[m] (List.getElem?_eq_getElem hml)
       obtain ⟨⟨nm, ty, ps⟩, hx⟩ : ∃ x, t.aliases[m] = x := ⟨_, rfl⟩
       have hget : t.aliases[m]? = some ⟨nm, ty, ps⟩ := by rw [List.getElem?_eq_getElem hml, hx]
       rw [hx] at hq
       have d0 := (HBr.out.cell (p := ⟨b, off + m * 3 + 0, none⟩) hbw).trans (hq 0 _ rfl)
       have d2 := (HBr.out.cell (p := ⟨b, off + m * 3 + 2, none⟩) hbw).trans (hq 2 _ rfl)
       dsimp only at d0 d2
       rw [Nat.add_zero] at d0
       have hld : loopD t m = ⟨9, ps, nm⟩ := by unfold loopD; rw [hget]
       have HP2 : Hid (pre2 ++ [⟨9, ps, nm⟩] = pre ++ (out.take (k + 1)).map (loopD t)) := Lib.hid (by rw [List.take_succ_eq_append_getElem hlk3, List.map_append, HP.out, hm]; simp [hld])
       have hXr : Blk wr w.heap.size 28 #[.slice a1 t.nodes.length c1, .slice a2 t.types.length c2, .slice a3 t.aliases.length c3] := (HBr.out.block _ hzw1).trans HX1.out
       rw [hpa] at hXr
       have y2 := hXr.cell 2
       simp only [List.getElem?_toArray, List.getElem?_cons_zero, List.getElem?_cons_succ] at y2
       have hp4 : pre2.length ≤ 4000 := by omega
       rw [hA3] at HOU ⊢
       clear hSl hco hm hq hx hcell hget hld hXr hpa
       go_upto_region 19 with fail
       have HSO := Lib.hid (show ∀ W, Below w1.heap.size wr W → (W.cell? ⟨w.heap.size, 2, none⟩ = some (.slice (some ⟨b, off, none⟩) t.aliases.length c3) ∧ W.cell? ⟨b, off + m * 3, none⟩ = some (.string nm) ∧ W.cell? ⟨b, off + m * 3 + 2, none⟩ = some (.int .i64 ps) ∧ Below w1.heap.size wr W) from fun W hb => ⟨(hb.cell (p := ⟨w.heap.size, 2, none⟩) hzw1).trans y2, (hb.cell (p := ⟨b, off + m * 3, none⟩) hbw).trans d0, (hb.cell (p := ⟨b, off + m * 3 + 2, none⟩) hbw).trans d2, hb⟩)
       clear y2 d0 d2
       refine wp_region_heldG (S := fun W => W.cell? ⟨w.heap.size, 2, none⟩ = some (.slice (some ⟨b, off, none⟩) t.aliases.length c3) ∧ W.cell? ⟨b, off + m * 3, none⟩ = some (.string nm) ∧ W.cell? ⟨b, off + m * 3 + 2, none⟩ = some (.int .i64 ps) ∧ Below w1.heap.size wr W) (fun _ => false) (by kernel_rfl) (HSO.out _ (Below.refl _ wr).drew) (fun hHeld => ?_)
       refine tkG 0 ?_
       try simp only [Act.put, List.setIfInBounds_toArray, List.set_cons_zero, List.set_cons_succ]
       refine tkG 1 ?_
       try simp only [Act.put, List.setIfInBounds_toArray, List.set_cons_zero, List.set_cons_succ]
       refine tkG 2 ?_
       try simp only [Act.put, List.setIfInBounds_toArray, List.set_cons_zero, List.set_cons_succ]
       refine tkG 3 ?_
       try simp only [Act.put, List.setIfInBounds_toArray, List.set_cons_zero, List.set_cons_succ]
       refine tkG 4 ?_
       try simp only [Act.put, List.setIfInBounds_toArray, List.set_cons_zero, List.set_cons_succ]
       refine tkG 5 ?_
       try simp only [Act.put, List.setIfInBounds_toArray, List.set_cons_zero, List.set_cons_succ]
       refine tkG 6 ?_
       try simp only [Act.put, List.setIfInBounds_toArray, List.set_cons_zero, List.set_cons_succ]
       refine tkG 7 ?_
       try simp only [Act.put, List.setIfInBounds_toArray, List.set_cons_zero, List.set_cons_succ]
       refine tkG 8 ?_
       try simp only [Act.put, List.setIfInBounds_toArray, List.set_cons_zero, List.set_cons_succ]
       refine tkG 9 ?_
       try simp only [Act.put, List.setIfInBounds_toArray, List.set_cons_zero, List.set_cons_succ]
       refine tkG 10 ?_
       try simp only [Act.put, List.setIfInBounds_toArray, List.set_cons_zero, List.set_cons_succ]
       refine tkG 11 ?_
       try simp only [Act.put, List.setIfInBounds_toArray, List.set_cons_zero, List.set_cons_succ]
       refine tkG 12 ?_
       try simp only [Act.put, List.setIfInBounds_toArray, List.set_cons_zero, List.set_cons_succ]
       refine tkG 13 ?_
       try simp only [Act.put, List.setIfInBounds_toArray, List.set_cons_zero, List.set_cons_succ]
       refine rdG 14 (fun K hK => ?_)
       go_simp
       obtain ⟨Wn, hWn⟩ : ∃ W, (wr.alloc (.cells #[.int .i64 9, .int .i64 ps, .string nm] 31)).drew = W := ⟨_, rfl⟩
       rw [hWn]
       have hBn : Below wr.heap.size wr Wn := by rw [← hWn]; exact ((Below.refl _ wr).alloc (Nat.le_refl _) _).drew
       have hRn : RdAt Wn (some ⟨wr.heap.size, 0, none⟩) [.int .i64 9, .int .i64 ps, .string nm] := by rw [← hWn]; exact .inr ⟨_, _, rfl, fun j u hu => cellG_new wr #[.int .i64 9, .int .i64 ps, .string nm] 31 j u hu⟩
       have hOn : Wn.ownsRow w1.heap.size 31 3 V2 pre2.length (dgV pre2) := own_belowZ HR.out hBn
       have hOu := own_belowZ HOU.out hBn
       refine hK.out _ _ (HSO.out _ (hBn.mono (by omega))) (fun hHeld => ?_)
       clear hK K hWn hHeld
       try simp only [Act.put, List.setIfInBounds_toArray, List.set_cons_zero, List.set_cons_succ]
       refine rdG 15 (fun K hK => ?_)
       refine step_app _ (by rfl) _ _ 98 (by rfl) w1.heap.size 31 i31 (.agg #[.int .i64 0, .int .i64 0, .string ⟨#[]⟩]) 3 32 Tryz.underlying98 hi hz0 hz1 hz2 rfl (by decide) V2 pre2.length (dgV pre2) (by rfl) hOn (some ⟨wr.heap.size, 0, none⟩) 1 1 [.int .i64 9, .int .i64 ps, .string nm] (by rfl) (by simp) hRn (by simp [Value.oneCell']) (by unfold maxLen; omega) (by omega) (by have := hBn.size; omega) ?_
       intro v1 W3 hown hg _
       have hbr3 : Below w1.heap.size wr W3 := (hBn.mono (by omega)).grown hg (by have := hBn.size; omega) (fun g hg => (own_atZ hOn g hg).1)
       have HB3' := Lib.hid (HBr.out.trans hbr3)
       have HOU3 := Lib.hid (hOu.kept hg (by rcases own_block hOu with e | ⟨g, e, _⟩; exact .inl e; exact .inr (fun e2 => own_type_ne hOu hOn (by decide) g e (e2 ▸ e))))
       have HO3 : Hid (W3.ownsRow w1.heap.size 31 3 v1 (pre2 ++ [DiagD.mk 9 ps nm]).length (dgV (pre2 ++ [DiagD.mk 9 ps nm]))) := Lib.hid (by rw [dgV_append, List.length_append]; exact hown)
       refine hK.out _ _ (HSO.out _ hbr3) (fun hHeld => ?_)
       clear hK K hHeld hown hg hOn hOu hRn hBn
       try simp only [Act.put, List.setIfInBounds_toArray, List.set_cons_zero, List.set_cons_succ]
       have hHeld := HSO.out _ hbr3
       refine tkG 16 ?_
       try simp only [Act.put, List.setIfInBounds_toArray, List.set_cons_zero, List.set_cons_succ]
       clear hHeld hbr3
       refine wpAnyG_done (by kernel_rfl) ?_ _
       go_wp2
       go_roundw
       case rel => exact ⟨_, k + 1, pre2 ++ [DiagD.mk 9 ps nm], rfl, by omega, by simp; omega, by go_num, HP2, HO3, (by first | exact HOU3 | (rw [hA3]; exact HOU3)), HB3'⟩
       case measure => simp [intOf]; omega
      ·obtain rfl : k = out.length := by omega
       go_wp2
       go_ret
       refine ⟨_, out, pre2, rfl, HMEM.out, ?_, by omega, own_baseZ HR.out (by omega), HB1.out.trans (HBr.out.mono (by omega))⟩
       have := HP.out
       rw [List.take_length] at this
       rw [this, HPA.out]
end Go.Proofs.YtjbdgjbmbohfmaaGreatDoor

namespace Go.Proofs.YtjbdgjbmbohfmaaGreatDoor
open Go Go.Proofs Go.RowKit

attribute [local go_sem ↓] Go.wp_at_zero Go.wp_at_succ

theorem dg_at {w : World} {base : Nat} {A : Option Addr} {n c : Nat} {l : List DiagD} (hn : l.length = n) (h : w.ownsRow base 31 3 (.slice A n c) n (dgV l)) (hl : 0 < l.length) :
 ∃ g, A = some ⟨g, 0, none⟩ ∧ base ≤ g ∧ g < w.heap.size ∧ ∀ (i : Nat) (a : DiagD), l[i]? = some a → w.cell? ⟨g, i * 3, none⟩ = some (.int .i64 a.err) ∧ w.cell? ⟨g, i * 3 + 1, none⟩ = some (.int .i64 a.pos) ∧ w.cell? ⟨g, i * 3 + 2, none⟩ = some (.string a.name) := by
 obtain ⟨g, h1, h2, h3, h4⟩ := own_at (fun d : DiagD => [.int .i64 d.err, .int .i64 d.pos, .string d.name]) 3 (by decide) (fun a => rfl) hn h hl
 refine ⟨g, h1, h2, h3, fun i a ha => ⟨?_, ?_, ?_⟩⟩
 ·have := h4 i a ha 0 _ rfl; simpa using this
 ·have := h4 i a ha 1 _ rfl; simpa using this
 ·have := h4 i a ha 2 _ rfl; simpa using this
theorem own_rdG {W : World} {base : Nat} {e : TypeId} {size : Nat} {A : Option Addr} {n c : Nat} {xs : List Value} (h : W.ownsRow base e size (.slice A n c) n xs) : RdAt W A xs := by
 obtain ⟨hl, h | h⟩ := h
 ·obtain ⟨_, h0⟩ := h
  left
  refine List.eq_nil_of_length_eq_zero ?_
  simp_all
 ·obtain ⟨g, cap, cur, hv, hb, hh, hnc, hcm, hsz, hx⟩ := h
  injection hv with h1
  subst h1
  refine .inr ⟨g, 0, rfl, fun j u hu => ?_⟩
  rw [cell_of_row W g (0 + j) cur e (0, 0) hh, Nat.zero_add]
  rw [← hx] at hu
  have hj : j < n * size := by
   have := (List.getElem?_eq_some_iff.1 hu).1
   rw [List.length_take] at this
   omega
  rw [List.getElem?_take_of_lt hj] at hu
  simpa using hu
theorem minD_snoc (m : DiagD) (l : List DiagD) (x : DiagD) : minD m (l ++ [x]) = if cmpD x (minD m l) < 0 then x else minD m l := by
 unfold minD
 rw [List.foldl_append]
 rfl

set_option maxRecDepth 100000 in
set_option maxHeartbeats 8000000 in
theorem minFunc_any (base : Nat) (m : DiagD) (l : List DiagD) (A : Option Addr) (c n : Nat) (w : World) (hn : (m :: l).length = n) (hO : w.ownsRow base 31 3 (.slice A n c) n (dgV (m :: l))) (hl : n ≤ 200000) :
 Calls Tryz.prog 71 #[.slice A n c, .func (.func 72) #[] #[]] w fun e w' => e = .returned (diagV (minD m l)) ∧ Below w.heap.size w w' := by
 obtain ⟨g, rfl, _, hg, hcell⟩ := dg_at hn hO (by simp)
 obtain ⟨W2, hW2⟩ : ∃ W2, (w.alloc (.cells #[.int .i64 0, .int .i64 0, .string ⟨#[]⟩] 31)).alloc (.cells #[.int .i64 m.err, .int .i64 m.pos, .string m.name] 31) = W2 := ⟨_, rfl⟩
 have hb0 : Below w.heap.size w W2 := by rw [← hW2]; exact ((Below.refl _ w).alloc (Nat.le_refl _) _).alloc (by simp) _
 have hX : Blk W2 w.heap.size 31 #[.int .i64 0, .int .i64 0, .string ⟨#[]⟩] := by rw [← hW2]; exact (Blk.new w 31 _).alloc _
 have hY : Blk W2 (w.heap.size + 1) 31 #[.int .i64 m.err, .int .i64 m.pos, .string m.name] := by
  rw [← hW2]
  have := Blk.new (w.alloc (.cells #[.int .i64 0, .int .i64 0, .string ⟨#[]⟩] 31)) 31 #[.int .i64 m.err, .int .i64 m.pos, .string m.name]
  simpa using this
 obtain ⟨e0, e1, e2⟩ := hcell 0 m rfl
 rw [Nat.zero_mul, Nat.zero_add] at e1 e2
 rw [Nat.zero_mul] at e0
 have HCL := Lib.hid hcell
 have HB0 := Lib.hid hb0
 have hn1 : 1 ≤ n := by rw [← hn]; simp
 have HN := Lib.hid hn
 clear hb0 hcell hO hn
 go_enter Tryz.func71, Tryz.ntmps71
 go_wp2
 clear hW2 e0 e1 e2
 go_loopw [6] (fun v6 wr => ∃ (k : Nat) (cur : DiagD), 1 ≤ k ∧ k ≤ n ∧ v6 = .int .i64 (k : Int) ∧ Hid (cur = minD m (l.take (k - 1))) ∧ Blk wr (w.heap.size + 1) 31 #[.int .i64 cur.err, .int .i64 cur.pos, .string cur.name] ∧ Blk wr w.heap.size 31 #[.int .i64 0, .int .i64 0, .string ⟨#[]⟩] ∧ Hid (Below w.heap.size w wr)) (fun v6 _ => n - (intOf v6).toNat)
 case atStart => exact ⟨1, m, by omega, hn1, rfl, Lib.hid (by simp [minD]), hY, hX, HB0⟩
 case round =>
  obtain ⟨k, cur, hk1, hk, rfl, HCU, hY1, hX1, HBr⟩ := hrel
  have hzr : w.heap.size + 1 < wr.heap.size := hY1.lt
  have f0 := hY1.cell 0
  have f1 := hY1.cell 1
  have f2 := hY1.cell 2
  simp only [List.getElem?_toArray, List.getElem?_cons_zero, List.getElem?_cons_succ] at f0 f1 f2
  by_cases hlk : k < n
  ·have hlk2 : k < (m :: l).length := by rw [HN.out]; exact hlk
   obtain ⟨x, hx⟩ : ∃ x, (m :: l)[k] = x := ⟨_, rfl⟩
   obtain ⟨e0, e1, e2⟩ := HCL.out k x (by rw [List.getElem?_eq_getElem hlk2, hx])
   have e0 := (HBr.out.cell (p := ⟨g, k * 3, none⟩) hg).trans e0
   have e1 := (HBr.out.cell (p := ⟨g, k * 3 + 1, none⟩) hg).trans e1
   have e2 := (HBr.out.cell (p := ⟨g, k * 3 + 2, none⟩) hg).trans e2
   have hgw : g < wr.heap.size := by omega
   have hsn : minD m (l.take k) = if cmpD x cur < 0 then x else cur := by
    have h1 : l.take k = l.take (k - 1) ++ [x] := by
     have h2 : k - 1 < l.length := by simp at hlk2; omega
     have h3 : l[k - 1] = x := by rw [← hx, List.getElem_cons]; rw [dif_neg (by omega)]
     have := List.take_succ_eq_append_getElem h2
     rw [show k - 1 + 1 = k by omega, h3] at this
     exact this
    rw [h1, minD_snoc, ← HCU.out]
   have HSN := Lib.hid hsn
   have HX1 := Lib.hid hX1
   have HY1 := Lib.hid hY1
   clear hsn hx hlk2 hX1 hY1
   go_wp2_with fail
   have HSO := Lib.hid (show ∀ W, Below wr.heap.size wr W → (W.cell? ⟨g, k * 3, none⟩ = some (.int .i64 x.err) ∧ W.cell? ⟨g, k * 3 + 1, none⟩ = some (.int .i64 x.pos) ∧ W.cell? ⟨g, k * 3 + 2, none⟩ = some (.string x.name) ∧ W.cell? ⟨w.heap.size + 1, 0, none⟩ = some (.int .i64 cur.err) ∧ W.cell? ⟨w.heap.size + 1, 1, none⟩ = some (.int .i64 cur.pos) ∧ W.cell? ⟨w.heap.size + 1, 2, none⟩ = some (.string cur.name) ∧ Below wr.heap.size wr W) from fun W hb => ⟨(hb.cell (p := ⟨g, k * 3, none⟩) hgw).trans e0, (hb.cell (p := ⟨g, k * 3 + 1, none⟩) hgw).trans e1, (hb.cell (p := ⟨g, k * 3 + 2, none⟩) hgw).trans e2, (hb.cell (p := ⟨w.heap.size + 1, 0, none⟩) hzr).trans f0, (hb.cell (p := ⟨w.heap.size + 1, 1, none⟩) hzr).trans f1, (hb.cell (p := ⟨w.heap.size + 1, 2, none⟩) hzr).trans f2, hb⟩)
   clear e0 e1 e2 f0 f1 f2
   refine wp_region_heldG (S := fun W => W.cell? ⟨g, k * 3, none⟩ = some (.int .i64 x.err) ∧ W.cell? ⟨g, k * 3 + 1, none⟩ = some (.int .i64 x.pos) ∧ W.cell? ⟨g, k * 3 + 2, none⟩ = some (.string x.name) ∧ W.cell? ⟨w.heap.size + 1, 0, none⟩ = some (.int .i64 cur.err) ∧ W.cell? ⟨w.heap.size + 1, 1, none⟩ = some (.int .i64 cur.pos) ∧ W.cell? ⟨w.heap.size + 1, 2, none⟩ = some (.string cur.name) ∧ Below wr.heap.size wr W) (fun _ => false) (by kernel_rfl) (HSO.out _ (Below.refl _ wr).drew) (fun hHeld => ?_)
   refine tkG 0 ?_
   try simp only [Act.put, List.setIfInBounds_toArray, List.set_cons_zero, List.set_cons_succ]
   refine tkG 1 ?_
   try simp only [Act.put, List.setIfInBounds_toArray, List.set_cons_zero, List.set_cons_succ]
   refine tkG 2 ?_
   try simp only [Act.put, List.setIfInBounds_toArray, List.set_cons_zero, List.set_cons_succ]
   refine tkG 3 ?_
   try simp only [Act.put, List.setIfInBounds_toArray, List.set_cons_zero, List.set_cons_succ]
   refine tkG 4 ?_
   try simp only [Act.put, List.setIfInBounds_toArray, List.set_cons_zero, List.set_cons_succ]
   refine tkG 5 ?_
   try simp only [Act.put, List.setIfInBounds_toArray, List.set_cons_zero, List.set_cons_succ]
   refine rdG 6 (fun K hK => ?_)
   go_simp
   refine (less_any x cur _).mono ?_
   rintro e w2 ⟨rfl, hb2⟩
   have hb2' : Below wr.heap.size wr w2 := (Below.refl _ wr).drew.trans hb2
   dsimp only
   refine hK.out _ _ (HSO.out _ hb2') (fun hHeld => ?_)
   clear hK K 
   try simp only [Act.put, List.setIfInBounds_toArray, List.set_cons_zero, List.set_cons_succ]
   have hHeld := HSO.out _ hb2'
   refine tkG 7 ?_
   try simp only [Act.put, List.setIfInBounds_toArray, List.set_cons_zero, List.set_cons_succ]
   obtain ⟨e0, e1, e2, f0, f1, f2, _⟩ := hHeld
   refine wpAnyG_done (by kernel_rfl) ?_ _
   have HB2 := Lib.hid (HBr.out.trans (hb2'.mono (by omega)))
   have hY2 := HY1.out.below hb2' hzr
   have hX2 := HX1.out.below hb2' (by omega)
   have hz2 := hb2'.size
   clear hb2 hb2' HSO
   by_cases hc : cmpD x cur < 0
   ·have hq : decide (cmpD x cur < 0) = true := by simp [hc]
    have HC2 : Hid (x = minD m (l.take (k + 1 - 1))) := Lib.hid (by rw [Nat.add_sub_cancel, HSN.out, if_pos hc])
    have hYs := ((hY2.set_ 0 (.int .i64 x.err)).set_ 1 (.int .i64 x.pos)).set_ 2 (.string x.name)
    have hXs := ((hX2.far (p := ⟨w.heap.size + 1, 0, none⟩) (by dsimp only; omega) (.int .i64 x.err)).far (p := ⟨w.heap.size + 1, 1, none⟩) (by dsimp only; omega) (.int .i64 x.pos)).far (p := ⟨w.heap.size + 1, 2, none⟩) (by dsimp only; omega) (.string x.name)
    have HBs := Lib.hid (((HB2.out.setCell (p := ⟨w.heap.size + 1, 0, none⟩) (by dsimp only; omega) (.int .i64 x.err)).setCell (p := ⟨w.heap.size + 1, 1, none⟩) (by dsimp only; omega) (.int .i64 x.pos)).setCell (p := ⟨w.heap.size + 1, 2, none⟩) (by dsimp only; omega) (.string x.name))
    have m0 := hY2.frozen 0
    have m1 := hY2.frozen 1
    have m2 := hY2.frozen 2
    have hg2 : g < w2.heap.size := by omega
    have hw2 : w.heap.size + 1 < w2.heap.size := by omega
    go_wp2
    go_roundw
    case rel => exact ⟨k + 1, x, by omega, by omega, by go_num, HC2, hYs, hXs, HBs⟩
    case measure => simp [intOf]; omega
   ·have hq : decide (cmpD x cur < 0) = false := by simp; omega
    have HC2 : Hid (cur = minD m (l.take (k + 1 - 1))) := Lib.hid (by rw [Nat.add_sub_cancel, HSN.out, if_neg hc])
    go_wp2
    go_roundw
    case rel => exact ⟨k + 1, cur, by omega, by omega, by go_num, HC2, hY2, hX2, HB2⟩
    case measure => simp [intOf]; omega
  ·obtain rfl : k = n := by omega
   have hfin : cur = minD m l := by
    rw [HCU.out]
    congr 1
    exact List.take_of_length_le (by have := HN.out; simp at this; omega)
   have HFI := Lib.hid hfin
   have HBs := Lib.hid (((HBr.out.setCell (p := ⟨w.heap.size, 0, none⟩) (Nat.le_refl _) (.int .i64 cur.err)).setCell (p := ⟨w.heap.size, 1, none⟩) (Nat.le_refl _) (.int .i64 cur.pos)).setCell (p := ⟨w.heap.size, 2, none⟩) (Nat.le_refl _) (.string cur.name))
   have HRS := Lib.hid (res3 hX1 (.int .i64 cur.err) (.int .i64 cur.pos) (.string cur.name))
   have m0 := hX1.frozen 0
   have m1 := hX1.frozen 1
   have m2 := hX1.frozen 2
   have q0 := hX1.cell 0
   have q1 := hX1.cell 1
   have q2 := hX1.cell 2
   simp only [List.getElem?_toArray, List.getElem?_cons_zero, List.getElem?_cons_succ] at q0 q1 q2
   have hxl : w.heap.size < wr.heap.size := by omega
   clear hfin hX1 hY1
   go_wp2
   have r0 := HRS.out.cell 0
   have r1 := HRS.out.cell 1
   have r2 := HRS.out.cell 2
   simp only [List.getElem?_toArray, List.getElem?_cons_zero, List.getElem?_cons_succ] at r0 r1 r2
   refine bodyPost_ret (v := diagV cur) (by simp [results, Tryz.results71, go_sem, r0, r1, r2]) rfl ?_
   exact ⟨by rw [← HFI.out], HBs.out⟩
end Go.Proofs.YtjbdgjbmbohfmaaGreatDoor

namespace Go.Proofs.YtjbdgjbmbohfmaaGreatDoor
open Go Go.Proofs Go.RowKit

attribute [local go_sem ↓] Go.wp_at_zero Go.wp_at_succ

theorem dgV_len (l : List DiagD) : (dgV l).length = l.length * 3 := flat_len (fun d : DiagD => [.int .i64 d.err, .int .i64 d.pos, .string d.name]) 3 (fun _ => rfl) l
theorem dgV_one (l : List DiagD) : ∀ u ∈ dgV l, u.oneCell' = true := fun u hu => by
 obtain ⟨a, _, ha⟩ := List.mem_flatMap.1 hu
 simp only [List.mem_cons, List.not_mem_nil, or_false] at ha
 rcases ha with rfl | rfl | rfl <;> rfl
theorem wrong1_len (t : TreeD) (x : TermD) : (wrong1 t x).length ≤ 1 := by
 unfold wrong1
 split
 ·split
  ·split <;> simp
  ·simp
 ·simp
theorem wrongT_len (t : TreeD) : (wrongT t).length ≤ t.nodes.length := by
 have := flat_leZ (f := wrong1 t) (n := 1) (l := t.nodes) (fun x _ => wrong1_len t x)
 rwa [Nat.mul_one, ← wrongT_eq] at this
/-- What Check finds. -/
def foundD (t : TreeD) : DiagD := if checkF t then firstD (wrongR t) else ⟨14, 0, noName⟩

set_option maxRecDepth 100000 in
set_option maxHeartbeats 8000000 in
theorem scheck_any (t : TreeD) (p : Ptr6) (w : World) (hE : Env4 w) (hT : TreeAt (Lt w.heap.size) w t p) (hF : TreeFew t) :
 Calls Tryz.prog 34 #[treeV t p] w fun e w' => e = .returned (diagV (foundD t)) ∧ Below w.heap.size w w' := by
 obtain ⟨i31, hi, hz0, hz1, hz2⟩ := info_parts info31Z
 obtain ⟨W0, hW0⟩ : ∃ W0, (w.alloc (.cells #[.slice p.a1 t.nodes.length p.c1, .slice p.a2 t.types.length p.c2, .slice p.a3 t.aliases.length p.c3] 28)).alloc (.cells #[.int .i64 0, .int .i64 0, .string ⟨#[]⟩] 31) = W0 := ⟨_, rfl⟩
 have hb0 : Below w.heap.size w W0 := by rw [← hW0]; exact ((Below.refl _ w).alloc (Nat.le_refl _) _).alloc (by simp) _
 have hX0 : Blk W0 w.heap.size 28 #[.slice p.a1 t.nodes.length p.c1, .slice p.a2 t.types.length p.c2, .slice p.a3 t.aliases.length p.c3] := by rw [← hW0]; exact (Blk.new w 28 _).alloc _
 have hY0 : Blk W0 (w.heap.size + 1) 31 #[.int .i64 0, .int .i64 0, .string ⟨#[]⟩] := by
  rw [← hW0]
  have := Blk.new (w.alloc (.cells #[.slice p.a1 t.nodes.length p.c1, .slice p.a2 t.types.length p.c2, .slice p.a3 t.aliases.length p.c3] 28)) 31 #[.int .i64 0, .int .i64 0, .string ⟨#[]⟩]
  rwa [World.size_alloc] at this
 have hT0 : TreeAt (Lt W0.heap.size) W0 t p := tree_onZ hT hb0
 have cC := check_any t p W0 (hE.on hb0) hT0 hF
 have x0 := hX0.cell 0
 have x1 := hX0.cell 1
 have x2 := hX0.cell 2
 simp only [List.getElem?_toArray, List.getElem?_cons_zero, List.getElem?_cons_succ] at x0 x1 x2
 have HB0 := Lib.hid hb0
 have HT0 := Lib.hid hT0
 have HF := Lib.hid hF
 have hYl := hY0.lt
 have hnl : t.nodes.length ≤ 1000 := hF.2.2.2.2.1
 have htl : t.types.length ≤ 1000 := hF.2.2.2.2.2
 have HX0 := Lib.hid hX0
 have HY0 := Lib.hid hY0
 clear hb0 hT0 hT hX0 hY0 hF
 cases hc : checkF t with
 | false =>
  rw [hc] at cC
  have hfd : foundD t = ⟨14, 0, noName⟩ := by unfold foundD; rw [hc]; rfl
  rw [hfd]
  clear hc hfd
  go_enter Tryz.func34, Tryz.ntmps34
  go_wp2_with fail
  refine cC.mono ?_
  rintro e w1 ⟨rfl, hb1⟩
  have hY1 := HY0.out.below hb1 (by omega)
  have hsz1 := hb1.size
  have HB1 := Lib.hid (HB0.out.trans (hb1.mono HB0.out.size))
  have HRS := Lib.hid (res3 hY1 (.int .i64 14) (.int .i64 0) (.string ⟨#[]⟩))
  have q0 := hY1.cell 0
  have q1 := hY1.cell 1
  have q2 := hY1.cell 2
  have f0 := hY1.frozen 0
  have f1 := hY1.frozen 1
  have f2 := hY1.frozen 2
  simp only [List.getElem?_toArray, List.getElem?_cons_zero, List.getElem?_cons_succ] at q0 q1 q2
  clear hb1 hY1 x0 x1 x2 hW0 cC
  go_wp2
  have r0 := HRS.out.cell 0
  have r1 := HRS.out.cell 1
  have r2 := HRS.out.cell 2
  simp only [List.getElem?_toArray, List.getElem?_cons_zero, List.getElem?_cons_succ] at r0 r1 r2
  refine bodyPost_ret (v := diagV ⟨14, 0, noName⟩) (by simp [results, Tryz.results34, go_sem, r0, r1, r2]; rfl) rfl ?_
  exact ⟨rfl, ((HB1.out.setCell (p := ⟨w.heap.size + 1, 0, none⟩) (by dsimp only; omega) _).setCell (p := ⟨w.heap.size + 1, 1, none⟩) (by dsimp only; omega) _).setCell (p := ⟨w.heap.size + 1, 2, none⟩) (by dsimp only; omega) _⟩
 | true =>
  rw [hc] at cC
  have hr := Rng.of hc
  have hfd : foundD t = firstD (wrongR t) := by unfold foundD; rw [hc]; rfl
  rw [hfd]
  obtain ⟨D0, hD0⟩ : ∃ D0, firstD (wrongR t) = D0 := ⟨_, rfl⟩
  rw [hD0]
  have HD0 := Lib.hid hD0
  clear hD0
  have HRG := Lib.hid hr
  have HNM := Lib.hid (nmOk_of hr)
  clear hc hfd hr
  go_enter Tryz.func34, Tryz.ntmps34
  go_wp2_with fail
  refine cC.mono ?_
  rintro e w1 ⟨rfl, hb1⟩
  have hX1 := HX0.out.below hb1 (by omega)
  have hsz1 := hb1.size
  have HB1 := Lib.hid (HB0.out.trans (hb1.mono HB0.out.size))
  have HT1 := Lib.hid (tree_onZ HT0.out hb1)
  have HY1 := Lib.hid (HY0.out.below hb1 (by omega))
  clear x0 x1 x2 hW0 cC hb1
  have x0 := hX1.cell 0
  have x1 := hX1.cell 1
  have x2 := hX1.cell 2
  simp only [List.getElem?_toArray, List.getElem?_cons_zero, List.getElem?_cons_succ] at x0 x1 x2
  have cW : ∀ W, Below w1.heap.size w1 W → Calls Tryz.prog 69 #[treeV t p] W (RowPost (wrongT t) W) := fun W hb => wrongTerms_any t p W (tree_onZ HT1.out hb) (ndOk_of HRG.out) (by omega)
  have cA : ∀ W, Below w1.heap.size w1 W → Calls Tryz.prog 70 #[treeV t p] W (AliPost t W) := fun W hb => wrongAliases_any t p W (by have := hb.size; omega) (tree_onZ HT1.out hb) HNM.out (sm_of HF.out HRG.out) htl
  have hXl : w.heap.size < w1.heap.size := by omega
  have hWT : (wrongT t).length ≤ 1000 := Nat.le_trans (wrongT_len t) hnl
  clear hX1
  go_wp2_with fail
  have HSO := Lib.hid (show ∀ W, Below w1.heap.size w1 W → (W.cell? ⟨w.heap.size, 0, none⟩ = some (.slice p.a1 t.nodes.length p.c1) ∧ W.cell? ⟨w.heap.size, 1, none⟩ = some (.slice p.a2 t.types.length p.c2) ∧ W.cell? ⟨w.heap.size, 2, none⟩ = some (.slice p.a3 t.aliases.length p.c3) ∧ Below w1.heap.size w1 W) from fun W hb => ⟨(hb.cell (p := ⟨w.heap.size, 0, none⟩) hXl).trans x0, (hb.cell (p := ⟨w.heap.size, 1, none⟩) hXl).trans x1, (hb.cell (p := ⟨w.heap.size, 2, none⟩) hXl).trans x2, hb⟩)
  clear x0 x1 x2
  refine wp_region_heldG (S := fun W => W.cell? ⟨w.heap.size, 0, none⟩ = some (.slice p.a1 t.nodes.length p.c1) ∧ W.cell? ⟨w.heap.size, 1, none⟩ = some (.slice p.a2 t.types.length p.c2) ∧ W.cell? ⟨w.heap.size, 2, none⟩ = some (.slice p.a3 t.aliases.length p.c3) ∧ Below w1.heap.size w1 W) (fun _ => false) (by kernel_rfl) (HSO.out _ (Below.refl _ w1).drew) (fun hHeld => ?_)
  refine tkG 0 ?_
  try simp only [Act.put, List.setIfInBounds_toArray, List.set_cons_zero, List.set_cons_succ]
  refine tkG 2 ?_
  try simp only [Act.put, List.setIfInBounds_toArray, List.set_cons_zero, List.set_cons_succ]
  refine rdG 1 (fun K hK => ?_)
  go_simp
  refine (cW _ (Below.refl _ w1).drew).mono ?_
  rintro e w2 ⟨vT, rfl, hOT, _, hb2⟩
  have hb2' : Below w1.heap.size w1 w2 := (Below.refl _ w1).drew.trans hb2
  dsimp only
  refine hK.out _ _ (HSO.out _ hb2') (fun hHeld => ?_)
  clear hK K 
  try simp only [Act.put, List.setIfInBounds_toArray, List.set_cons_zero, List.set_cons_succ]
  refine rdG 3 (fun K hK => ?_)
  go_simp
  refine (cA _ hb2').mono ?_
  rintro e w3 ⟨vA, out, l, rfl, hmem, hle, hll, hOA, hb3⟩
  have hb3' : Below w1.heap.size w1 w3 := hb2'.trans (hb3.mono hb2'.size)
  dsimp only
  refine hK.out _ _ (HSO.out _ hb3') (fun hHeld => ?_)
  clear hK K 
  try simp only [Act.put, List.setIfInBounds_toArray, List.set_cons_zero, List.set_cons_succ]
  refine rdG 4 (fun K hK => ?_)
  have hOT3 := own_baseZ (own_belowZ hOT hb3) (base' := w1.heap.size) (Nat.le_refl _)
  obtain ⟨AA, cA', rfl⟩ := own_sliceZ hOA
  have hRA := own_rdG hOA
  refine step_app _ (by rfl) _ _ 98 (by rfl) w1.heap.size 31 i31 (.agg #[.int .i64 0, .int .i64 0, .string ⟨#[]⟩]) 3 32 Tryz.underlying98 hi hz0 hz1 hz2 rfl (by decide) vT (wrongT t).length (dgV (wrongT t)) (by rfl) hOT3 AA l.length cA' (dgV l) (by rfl) (dgV_len l) hRA (dgV_one l) (by unfold maxLen; omega) (by omega) hb3'.size ?_
  intro v1 W4 hown hg _
  have hb4 : Below w1.heap.size w1 W4 := hb3'.grown hg hb3'.size (fun g hg => (own_atZ hOT3 g hg).1)
  refine hK.out _ _ (HSO.out _ hb4) (fun hHeld => ?_)
  clear hK K hg hRA hOA hOT3 hOT
  try simp only [Act.put, List.setIfInBounds_toArray, List.set_cons_zero, List.set_cons_succ]
  have hHeld := HSO.out _ hb4
  refine tkG 5 ?_
  try simp only [Act.put, List.setIfInBounds_toArray, List.set_cons_zero, List.set_cons_succ]
  clear hHeld
  refine wpAnyG_done (by kernel_rfl) ?_ _
  have HY4 := Lib.hid (HY1.out.below hb4 (by omega))
  have HB4 := Lib.hid (HB1.out.trans (hb4.mono (by omega)))
  have hz4 := hb4.size
  have hwe := wrong_eq HNM.out hmem
  rw [← hle] at hwe
  have hlen : (wrongT t ++ l).length = (wrongT t).length + l.length := List.length_append
  have hOW : W4.ownsRow w1.heap.size 31 3 v1 (wrongT t ++ l).length (dgV (wrongT t ++ l)) := by rw [dgV_append, hlen]; exact hown
  clear hown hb4 hb3 hb2 hb3' hb2' HSO hmem hle cW cA
  obtain ⟨L, hL⟩ : ∃ L, wrongT t ++ l = L := ⟨_, rfl⟩
  rw [hL] at hOW hwe hlen
  rw [HD0.out] at hwe
  have HWE := Lib.hid hwe
  obtain ⟨A4, c4, rfl⟩ := own_sliceZ hOW
  clear hL hwe
  have hY4 := HY4.out
  have q0 := hY4.cell 0
  have q1 := hY4.cell 1
  have q2 := hY4.cell 2
  have f0 := hY4.frozen 0
  have f1 := hY4.frozen 1
  have f2 := hY4.frozen 2
  simp only [List.getElem?_toArray, List.getElem?_cons_zero, List.getElem?_cons_succ] at q0 q1 q2
  cases L with
  | nil =>
   have hD : D0 = ⟨0, 0, noName⟩ := HWE.out.symm
   subst hD
   have HRS := Lib.hid (res3 hY4 (.int .i64 0) (.int .i64 0) (.string ⟨#[]⟩))
   clear hOW hY4
   dsimp only [List.length_nil]
   go_wp2
   have r0 := HRS.out.cell 0
   have r1 := HRS.out.cell 1
   have r2 := HRS.out.cell 2
   simp only [List.getElem?_toArray, List.getElem?_cons_zero, List.getElem?_cons_succ] at r0 r1 r2
   refine bodyPost_ret (v := diagV ⟨0, 0, noName⟩) (by simp [results, Tryz.results34, go_sem, r0, r1, r2]; rfl) rfl ?_
   exact ⟨rfl, ((HB4.out.setCell (p := ⟨w.heap.size + 1, 0, none⟩) (by dsimp only; omega) _).setCell (p := ⟨w.heap.size + 1, 1, none⟩) (by dsimp only; omega) _).setCell (p := ⟨w.heap.size + 1, 2, none⟩) (by dsimp only; omega) _⟩
  | cons m L =>
   have cM := minFunc_any w1.heap.size m L A4 c4 (m :: L).length W4 rfl hOW (by omega)
   have hne : (((m :: L).length : Int) == 0) = false := by simp; omega
   obtain ⟨n, hn⟩ : ∃ n, (m :: L).length = n := ⟨_, rfl⟩
   rw [hn] at cM hne ⊢
   have hD : minD m L = D0 := HWE.out
   rw [hD] at cM
   clear hOW hY4 hn hlen q0 q1 q2 f0 f1 f2 hD
   go_wp2_with fail
   refine cM.mono ?_
   rintro e w5 ⟨rfl, hb5⟩
   have hY5 := HY4.out.below hb5 (by omega)
   have HB5 := Lib.hid (HB4.out.trans (hb5.mono (by omega)))
   have hz5 := hb5.size
   have HRS := Lib.hid (res3 hY5 (.int .i64 D0.err) (.int .i64 D0.pos) (.string D0.name))
   have q0 := hY5.cell 0
   have q1 := hY5.cell 1
   have q2 := hY5.cell 2
   have f0 := hY5.frozen 0
   have f1 := hY5.frozen 1
   have f2 := hY5.frozen 2
   simp only [List.getElem?_toArray, List.getElem?_cons_zero, List.getElem?_cons_succ] at q0 q1 q2
   clear hb5 hY5 cM
   go_wp2
   have r0 := HRS.out.cell 0
   have r1 := HRS.out.cell 1
   have r2 := HRS.out.cell 2
   simp only [List.getElem?_toArray, List.getElem?_cons_zero, List.getElem?_cons_succ] at r0 r1 r2
   refine bodyPost_ret (v := diagV D0) (by simp [results, Tryz.results34, go_sem, r0, r1, r2]) rfl ?_
   exact ⟨rfl, ((HB5.out.setCell (p := ⟨w.heap.size + 1, 0, none⟩) (by dsimp only; omega) _).setCell (p := ⟨w.heap.size + 1, 1, none⟩) (by dsimp only; omega) _).setCell (p := ⟨w.heap.size + 1, 2, none⟩) (by dsimp only; omega) _⟩
end Go.Proofs.YtjbdgjbmbohfmaaGreatDoor

namespace Go.Proofs.YtjbdgjbmbohfmaaGreatDoor
open Go Go.Proofs Go.RowKit

def rrA (t : TreeD) (k : Nat) (a : AliD) : List DiagD := (if firstA t.aliases a.name = some k then [] else [⟨8, a.pos, a.name⟩]) ++ ((rowF t (t.aliases.length + 1) a.type.toNat []).flatMap fun x => if x = k then [⟨9, a.pos, a.name⟩] else [])
def wrK (t : TreeD) (k : Nat) : List DiagD := (List.range k).flatMap fun k => match t.aliases[k]? with
 | some a => rrA t k a
 | none => []
theorem wrK_snoc {t : TreeD} {k : Nat} {a : AliD} (h : t.aliases[k]? = some a) : wrK t (k + 1) = wrK t k ++ rrA t k a := by
 unfold wrK
 rw [List.range_succ, List.flatMap_append]
 simp [h]
theorem wrongR_eq (t : TreeD) : wrongR t = wrK t t.aliases.length ++ nameL t ++ wrongT t := rfl
theorem pick_len (l : List Nat) (k : Nat) (d : DiagD) : (l.flatMap fun x => if x = k then [d] else []).length ≤ l.length := by
 induction l with
 | nil => simp
 | cons a l ih =>
  rw [List.flatMap_cons, List.length_append, List.length_cons]
  have h1 : (if a = k then [d] else []).length ≤ 1 := by split <;> simp
  omega
theorem rrA_len {t : TreeD} {k : Nat} {a : AliD} : (rrA t k a).length ≤ t.aliases.length + 2 := by
 unfold rrA
 rw [List.length_append]
 have h1 := pick_len (rowF t (t.aliases.length + 1) a.type.toNat []) k ⟨9, a.pos, a.name⟩
 have h2 := rowF_len (t := t) (f := t.aliases.length + 1) (i := a.type.toNat) (out := [])
 simp only [List.length_nil, Nat.zero_add] at h2
 have h3 : (if firstA t.aliases a.name = some k then [] else [(⟨8, a.pos, a.name⟩ : DiagD)]).length ≤ 1 := by split <;> simp
 omega
theorem wrK_len {t : TreeD} : ∀ {k : Nat}, (wrK t k).length ≤ k * (t.aliases.length + 2)
 | 0 => by simp [wrK]
 | k + 1 => by
  have ih := wrK_len (t := t) (k := k)
  unfold wrK at ih ⊢
  rw [List.range_succ, List.flatMap_append, List.length_append, Nat.succ_mul]
  have h1 : ∀ o : Option AliD, (match o with
   | some a => rrA t k a
   | none => []).length ≤ t.aliases.length + 2 := by
   intro o
   cases o with
   | none => exact Nat.zero_le _
   | some a => exact rrA_len
  have h2 := h1 t.aliases[k]?
  rw [List.flatMap_cons, List.flatMap_nil, List.append_nil]
  exact Nat.add_le_add ih h2
/-- Errors are told. -/
theorem wrongR_err {t : TreeD} : ∀ d ∈ wrongR t, d.err ≠ 0 := by
 intro d hd
 rw [wrongR_eq] at hd
 rcases List.mem_append.1 hd with hd | hd
 ·rcases List.mem_append.1 hd with hd | hd
  ·unfold wrK at hd
   obtain ⟨k, _, hd⟩ := List.mem_flatMap.1 hd
   split at hd
   ·unfold rrA at hd
    rcases List.mem_append.1 hd with hd | hd
    ·split at hd
     ·cases hd
     ·rw [List.mem_singleton] at hd; rw [hd]; simp
    ·obtain ⟨x, _, hd⟩ := List.mem_flatMap.1 hd
     split at hd
     ·rw [List.mem_singleton] at hd; rw [hd]; simp
     ·cases hd
   ·cases hd
  ·unfold nameL at hd
   obtain ⟨k, _, hd⟩ := List.mem_flatMap.1 hd
   split at hd
   ·rw [List.mem_singleton] at hd; rw [hd]; simp
   ·cases hd
 ·unfold wrongT at hd
  obtain ⟨k, _, hd⟩ := List.mem_flatMap.1 hd
  split at hd
  ·split at hd
   ·split at hd
    ·cases hd
    ·rw [List.mem_singleton] at hd; rw [hd]; simp
   ·cases hd
  ·cases hd
theorem firstD_snoc {l : List DiagD} {d : DiagD} : firstD (l ++ [d]) = if l = [] ∨ cmpD d (firstD l) < 0 then d else firstD l := by
 cases l with
 | nil => simp [firstD, minD]
 | cons m l =>
  show minD m (l ++ [d]) = _
  rw [minD_snoc]
  simp [firstD]
theorem firstD_err {l : List DiagD} (h : ∀ d ∈ l, d.err ≠ 0) (hl : l ≠ []) : (firstD l).err ≠ 0 := by
 cases l with
 | nil => exact absurd rfl hl
 | cons m l => exact h _ (minD_spec l m).1
def wrT (t : TreeD) (k : Nat) : List DiagD := (t.nodes.take k).flatMap (wrong1 t)
theorem wrT_snoc {t : TreeD} {k : Nat} {x : TermD} (h : t.nodes[k]? = some x) : wrT t (k + 1) = wrT t k ++ wrong1 t x := by
 unfold wrT
 rw [List.take_add_one, h, List.flatMap_append]
 simp
end Go.Proofs.YtjbdgjbmbohfmaaGreatDoor

namespace Go.Proofs.YtjbdgjbmbohfmaaGreatDoor
open Go Go.Proofs Go.RowKit

/-- One part of the tree in a box: the tree's own block stays. -/
theorem boxes4 (t : TreeD) (p : Ptr6) (w W0 : World) (hW0 : (((w.alloc (.cells #[.slice p.a1 t.nodes.length p.c1, .slice p.a2 t.types.length p.c2, .slice p.a3 t.aliases.length p.c3] 28)).alloc (.cells #[.int .i64 0, .int .i64 0, .string ⟨#[]⟩] 31)).alloc (.cells #[.int .i64 0, .int .i64 0, .string ⟨#[]⟩] 31)).alloc (.cells #[] 31) = W0) :
 Below w.heap.size w W0 ∧ Blk W0 w.heap.size 28 #[.slice p.a1 t.nodes.length p.c1, .slice p.a2 t.types.length p.c2, .slice p.a3 t.aliases.length p.c3] ∧ Blk W0 (w.heap.size + 1) 31 #[.int .i64 0, .int .i64 0, .string ⟨#[]⟩] ∧ Blk W0 (w.heap.size + 2) 31 #[.int .i64 0, .int .i64 0, .string ⟨#[]⟩] ∧ w.heap.size + 3 < W0.heap.size ∧ W0.ownsRow (w.heap.size + 3) 31 3 (.slice (some ⟨w.heap.size + 3, 0, none⟩) 0 0) 0 [] := by
 subst hW0
 have b1 := Blk.new w 28 #[.slice p.a1 t.nodes.length p.c1, .slice p.a2 t.types.length p.c2, .slice p.a3 t.aliases.length p.c3]
 obtain ⟨w1, h1⟩ : ∃ w1, w.alloc (.cells #[.slice p.a1 t.nodes.length p.c1, .slice p.a2 t.types.length p.c2, .slice p.a3 t.aliases.length p.c3] 28) = w1 := ⟨_, rfl⟩
 have s1 : w1.heap.size = w.heap.size + 1 := by rw [← h1]; simp
 have l1 : Below w.heap.size w w1 := by rw [← h1]; exact (Below.refl _ w).alloc (Nat.le_refl _) _
 rw [h1] at b1 ⊢
 have b2 := Blk.new w1 31 #[.int .i64 0, .int .i64 0, .string ⟨#[]⟩]
 obtain ⟨w2, h2⟩ : ∃ w2, w1.alloc (.cells #[.int .i64 0, .int .i64 0, .string ⟨#[]⟩] 31) = w2 := ⟨_, rfl⟩
 have s2 : w2.heap.size = w.heap.size + 2 := by rw [← h2]; simp [s1]
 have l2 : Below w1.heap.size w1 w2 := by rw [← h2]; exact (Below.refl _ w1).alloc (Nat.le_refl _) _
 rw [h2] at b2 ⊢
 have b3 := Blk.new w2 31 #[.int .i64 0, .int .i64 0, .string ⟨#[]⟩]
 obtain ⟨w3, h3⟩ : ∃ w3, w2.alloc (.cells #[.int .i64 0, .int .i64 0, .string ⟨#[]⟩] 31) = w3 := ⟨_, rfl⟩
 have s3 : w3.heap.size = w.heap.size + 3 := by rw [← h3]; simp [s2]
 have l3 : Below w2.heap.size w2 w3 := by rw [← h3]; exact (Below.refl _ w2).alloc (Nat.le_refl _) _
 rw [h3] at b3 ⊢
 have l4 : Below w3.heap.size w3 (w3.alloc (.cells #[] 31)) := (Below.refl _ w3).alloc (Nat.le_refl _) _
 rw [s1] at b2
 rw [s2] at b3
 refine ⟨((l1.trans (l2.mono (by omega))).trans (l3.mono (by omega))).trans (l4.mono (by omega)), (((b1.below l2 (by omega)).below l3 (by omega)).below l4 (by omega)), ((b2.below l3 (by omega)).below l4 (by omega)), b3.below l4 (by omega), by simp; omega, ?_⟩
 refine ⟨rfl, .inr ⟨w.heap.size + 3, 0, #[], rfl, Nat.le_refl _, ?_, Nat.le_refl _, Nat.zero_le _, rfl, rfl⟩⟩
 rw [← s3]
 show (w3.heap.push _)[w3.heap.size]? = _
 simp

set_option maxRecDepth 100000 in
set_option maxHeartbeats 32000000 in
theorem rcheck_any (t : TreeD) (p : Ptr6) (w : World) (hT : TreeAt (Lt w.heap.size) w t p) (hR : Rng t) (hF : TreeFew t) :
 Calls Tryz.prog 36 #[treeV t p] w fun e w' => e = .returned (diagV (firstD (wrongR t))) ∧ Below w.heap.size w w' := by
 obtain ⟨a1, c1, a2, c2, a3, c3⟩ := p
 obtain ⟨i31, hi, hz0, hz1, hz2⟩ := info_parts info31Z
 obtain ⟨W0, hW0⟩ : ∃ W0, (((w.alloc (.cells #[.slice a1 t.nodes.length c1, .slice a2 t.types.length c2, .slice a3 t.aliases.length c3] 28)).alloc (.cells #[.int .i64 0, .int .i64 0, .string ⟨#[]⟩] 31)).alloc (.cells #[.int .i64 0, .int .i64 0, .string ⟨#[]⟩] 31)).alloc (.cells #[] 31) = W0 := ⟨_, rfl⟩
 obtain ⟨hb0, hX0, hY0, hZ0, hz03, hO0⟩ := boxes4 t ⟨a1, c1, a2, c2, a3, c3⟩ w W0 hW0
 dsimp only at hX0
 have x0 := hX0.cell 0
 have x1 := hX0.cell 1
 have x2 := hX0.cell 2
 simp only [List.getElem?_toArray, List.getElem?_cons_zero, List.getElem?_cons_succ] at x0 x1 x2
 have HB0 := Lib.hid hb0
 have HX0 := Lib.hid hX0
 have HY0 := Lib.hid hY0
 have HZ0 := Lib.hid hZ0
 have HO0 := Lib.hid hO0
 have HT := Lib.hid hT
 have HRN := Lib.hid hR
 have HNM := Lib.hid (nmOk_of hR)
 have hla : t.aliases.length ≤ 1000 := hF.2.2.2.1
 have hlt : t.types.length ≤ 1000 := hF.2.2.2.2.2
 have hln : t.nodes.length ≤ 1000 := hF.2.2.2.2.1
 have HF := Lib.hid hF
 clear hb0 hX0 hY0 hZ0 hO0 hT hR hF
 go_enter Tryz.func36, Tryz.ntmps36
 go_wp2
 clear hW0
 go_loopw [4, 21] (fun vl vc wr => ∃ (V : Value) (k : Nat) (pre : List DiagD), V = vl ∧ k ≤ t.aliases.length ∧ vc = .int .i64 (k : Int) ∧ Hid (pre = wrK t k) ∧ Hid (wr.ownsRow (w.heap.size + 3) 31 3 V pre.length (dgV pre)) ∧ Hid (Below (w.heap.size + 3) W0 wr)) (fun _ vc _ => t.aliases.length - (intOf vc).toNat)
 case atStart => exact ⟨_, 0, [], rfl, Nat.zero_le _, rfl, Lib.hid (by simp [wrK]), HO0, Lib.hid (Below.refl _ _)⟩
 case round =>
  obtain ⟨V, k, pre, rfl, hk, rfl, HP, HR, HBr⟩ := hrel
  have hzr := HBr.out.size
  have hpl : pre.length ≤ 1003000 := by
   rw [HP.out]
   refine Nat.le_trans wrK_len ?_
   refine Nat.le_trans (Nat.mul_le_mul (Nat.le_trans hk hla) (Nat.add_le_add_right hla 2)) (by decide)
  have hBw : Below w.heap.size w wr := HB0.out.trans (HBr.out.mono (by omega))
  have hXr : Blk wr w.heap.size 28 #[.slice a1 t.nodes.length c1, .slice a2 t.types.length c2, .slice a3 t.aliases.length c3] := (HBr.out.block _ (by omega)).trans HX0.out
  have y0 := hXr.cell 0
  have y1 := hXr.cell 1
  have y2 := hXr.cell 2
  simp only [List.getElem?_toArray, List.getElem?_cons_zero, List.getElem?_cons_succ] at y0 y1 y2
  have HBW := Lib.hid hBw
  have HXR := Lib.hid hXr
  by_cases hlk : k < t.aliases.length
  ·obtain ⟨b, off, rfl, hb, hcell⟩ := HT.out.2.2 (by omega)
   dsimp only [Lt] at hb
   have hq := hcell k t.aliases[k] (List.getElem?_eq_getElem hlk)
   have hal := HRN.out.ali t.aliases[k] (List.getElem_mem hlk)
   obtain ⟨⟨nm, ty, ps⟩, hx⟩ : ∃ x, t.aliases[k] = x := ⟨_, rfl⟩
   have hget : t.aliases[k]? = some ⟨nm, ty, ps⟩ := by rw [List.getElem?_eq_getElem hlk, hx]
   rw [hx] at hq hal
   dsimp only at hal
   obtain ⟨T, rfl⟩ : ∃ T : Nat, ty = (T : Int) := ⟨ty.toNat, by omega⟩
   have hTl : T < t.types.length := by omega
   have d0 := (hBw.cell (p := ⟨b, off + k * 3 + 0, none⟩) hb).trans (hq 0 _ rfl)
   have d1 := (hBw.cell (p := ⟨b, off + k * 3 + 1, none⟩) hb).trans (hq 1 _ rfl)
   have d2 := (hBw.cell (p := ⟨b, off + k * 3 + 2, none⟩) hb).trans (hq 2 _ rfl)
   dsimp only at d0 d1 d2
   rw [Nat.add_zero] at d0
   obtain ⟨j, hj, hjl⟩ := firstA_at hget
   dsimp only at hj
   have hid : idxV (nmdN t.aliases nm 0) = (j : Int) := by rw [nmdN_iff, hj]; rfl
   have hsn := wrK_snoc hget
   unfold rrA at hsn
   dsimp only at hsn
   rw [Int.toNat_natCast, hj] at hsn
   have HSN := Lib.hid hsn
   have hb1 : Below wr.heap.size wr (wr.alloc (.cells #[.string nm, .int .i64 (T : Int), .int .i64 ps] 77)) := (Below.refl _ wr).alloc (Nat.le_refl _) _
   have hA1 := Blk.new wr 77 #[.string nm, .int .i64 (T : Int), .int .i64 ps]
   have hzn : wr.heap.size < (wr.alloc (.cells #[.string nm, .int .i64 (T : Int), .int .i64 ps] 77)).heap.size := by simp
   clear hq hx hcell hget hj hsn x0 x1 x2 hBw hal hXr
   go_upto_region 6 with fail
   obtain ⟨W1, hW1⟩ : ∃ W1, wr.alloc (.cells #[.string nm, .int .i64 (T : Int), .int .i64 ps] 77) = W1 := ⟨_, rfl⟩
   rw [hW1] at hb1 hA1 hzn ⊢
   obtain ⟨ab, hab⟩ : ∃ ab, wr.heap.size = ab := ⟨_, rfl⟩
   rw [hab] at hA1 hzn ⊢
   have hab1 : ab ≤ wr.heap.size := by omega
   have hab2 : wr.heap.size ≤ ab := by omega
   clear hW1 hab d0 d1 d2 y0 y1 y2
   have hX1 := HXR.out.below hb1 (by omega)
   have y0 := hX1.cell 0
   have y1 := hX1.cell 1
   have y2 := hX1.cell 2
   have g0 := hA1.cell 0
   simp only [List.getElem?_toArray, List.getElem?_cons_zero, List.getElem?_cons_succ] at y0 y1 y2 g0
   have hT1 := tree_onZ (tree_onZ HT.out HBW.out) hb1
   have cN := rnamed_any t ⟨a1, c1, a2, c2, some ⟨b, off, none⟩, c3⟩ nm W1 hT1 hla
   rw [hid] at cN
   have HA1 := Lib.hid hA1
   have HB1 := Lib.hid hb1
   clear hA1 hb1 hT1 hX1 hid
   go_wp2_with fail
   refine cN.mono ?_
   rintro e w2 ⟨rfl, hb2⟩
   have hb12 : Below wr.heap.size wr w2 := HB1.out.trans (hb2.mono HB1.out.size)
   have hA2 := HA1.out.below hb2 hzn
   have g0 := hA2.cell 0
   have g2 := hA2.cell 2
   simp only [List.getElem?_toArray, List.getElem?_cons_zero, List.getElem?_cons_succ] at g0 g2
   have HA2 := Lib.hid hA2
   have HR2 := Lib.hid (own_belowZ HR.out hb12)
   have HBr2 := Lib.hid (HBr.out.trans (hb12.mono (by omega)))
   have hsz2 := hb12.size
   have hzn2 : ab < w2.heap.size := hA2.lt
   clear hb2 hb12 hA2 cN y0 y1 y2 HB1 HA1
   go_upto_if 31 with (fail)
   go_cut [4] from 26 to 39 (fun v4 wx => ∃ (V1 : Value) (pre1 : List DiagD), V1 = v4 ∧ pre1 = pre ++ (if j = k then [] else [⟨8, ps, nm⟩]) ∧ wx.ownsRow (w.heap.size + 3) 31 3 V1 pre1.length (dgV pre1) ∧ Blk wx ab 77 #[.string nm, .int .i64 (T : Int), .int .i64 ps] ∧ Below (w.heap.size + 3) W0 wx)
   case first =>
    by_cases hjk : j = k
    ·have hq : ((j : Int) != (k : Int)) = false := by simp [hjk]
     go_wp2
     go_meet
     case rel => exact ⟨_, pre, rfl, by rw [if_pos hjk, List.append_nil], HR2.out, HA2.out, HBr2.out⟩
    ·have hq : ((j : Int) != (k : Int)) = true := by simp; omega
     go_wp2_with (at_builtin; refine wpList_append_own_at _ rfl _ _ 98 rfl (w.heap.size + 3) 31 i31 (.agg #[.int .i64 0, .int .i64 0, .string ⟨#[]⟩]) 3 32 Tryz.underlying98 hi hz0 hz1 hz2 rfl (by decide) _ pre.length (dgV pre) rfl ?ra0 ⟨w2.heap.size, 0, none⟩ 1 1 [.int .i64 8, .int .i64 ps, .string nm] rfl rfl (cell3_new _ _ _ _ _) (by simp [Value.oneCell']) ?ra1 ?ra2 ?ra3 ?_)
     case ra0 => exact HR2.out.alloc _
     case ra1 => unfold maxLen; omega
     case ra2 => omega
     case ra3 => first | omega | (simp; omega)
     intro v1 W3 hown hg _ _
     have hbX := HBr2.out.alloc (by omega) (.cells #[.int .i64 8, .int .i64 ps, .string nm] 31)
     have HB3 := Lib.hid (hbX.grown hg (by first | omega | (simp; omega)) (fun g hg => (own_atZ HR2.out g hg).1))
     have HA3 := Lib.hid ((HA2.out.alloc (.cells #[.int .i64 8, .int .i64 ps, .string nm] 31)).grown hg (fun e => own_blk_ne HR2.out HA2.out (by decide) e.symm))
     have HO3 : Hid (W3.ownsRow (w.heap.size + 3) 31 3 v1 (pre ++ [DiagD.mk 8 ps nm]).length (dgV (pre ++ [DiagD.mk 8 ps nm]))) := Lib.hid (by rw [dgV_append, List.length_append]; exact hown)
     clear hown hg hbX
     go_wp2
     go_meet
     case rel => exact ⟨_, pre ++ [DiagD.mk 8 ps nm], rfl, by rw [if_neg hjk], HO3.out, HA3.out, HB3.out⟩
   case rest =>
    obtain ⟨V1, pre1, rfl, hp1, hO1, hA, hbc⟩ := hcut
    have hXc : Blk wc w.heap.size 28 #[.slice a1 t.nodes.length c1, .slice a2 t.types.length c2, .slice (some ⟨b, off, none⟩) t.aliases.length c3] := (hbc.block _ (by omega)).trans HX0.out
    have y0 := hXc.cell 0
    have y1 := hXc.cell 1
    have y2 := hXc.cell 2
    have g1 := hA.cell 1
    simp only [List.getElem?_toArray, List.getElem?_cons_zero, List.getElem?_cons_succ] at y0 y1 y2 g1
    have hp1l : pre1.length ≤ 1003001 := by rw [hp1]; split <;> simp <;> omega
    have hzc := hbc.size
    have hzn3 : ab < wc.heap.size := hA.lt
    have cR := row_any t ⟨a1, c1, a2, c2, some ⟨b, off, none⟩, c3⟩ T wc (tree_onZ HT.out (HB0.out.trans (hbc.mono (by omega)))) HRN.out HF.out hTl
    obtain ⟨R, hRR⟩ : ∃ R, rowF t (t.aliases.length + 1) T [] = R := ⟨_, rfl⟩
    have hRl : R.length ≤ 1001 := by
     have := rowF_len (t := t) (f := t.aliases.length + 1) (i := T) (out := [])
     rw [hRR] at this
     simp at this
     omega
    rw [hRR] at cR
    have HSN2 : Hid (wrK t (k + 1) = pre1 ++ (R.flatMap fun x => if x = k then [⟨9, ps, nm⟩] else [])) := Lib.hid (by
     rw [HSN.out, hp1, HP.out, ← List.append_assoc, hRR]
     congr 2
     by_cases e : j = k
     ·rw [if_pos e, if_pos (by rw [e])]
     ·rw [if_neg e, if_neg (fun h => e (Option.some.inj h))])
    have HO1 := Lib.hid hO1
    have HAc := Lib.hid hA
    have HBc := Lib.hid hbc
    clear hRR hp1 hO1 hA hbc hXc HSN g0 g2 HA2 HR2 HBr2
    go_wp2_with fail
    refine cR.mono ?_
    rintro e w5 ⟨v5, rfl, hO5, hb5⟩
    obtain ⟨A5, c5, rfl⟩ := own_sliceZ hO5
    have HO5 := Lib.hid hO5
    have HR5 := Lib.hid (own_belowZ HO1.out hb5)
    have HA5 := Lib.hid (HAc.out.below hb5 hzn3)
    have HB5 := Lib.hid (HBc.out.trans (hb5.mono (by omega)))
    have hsz5 := hb5.size
    clear hO5 hb5 cR y0 y1 y2 g1
    go_wp2
    go_loopw [4, 45] (fun vl vc wx => ∃ (V2 : Value) (m : Nat) (pre2 : List DiagD), V2 = vl ∧ m ≤ R.length ∧ vc = .int .i64 (m : Int) ∧ pre2.length ≤ pre1.length + m ∧ Hid (pre2 = pre1 ++ ((R.take m).flatMap fun x => if x = k then [⟨9, ps, nm⟩] else [])) ∧ Hid (wx.ownsRow (w.heap.size + 3) 31 3 V2 pre2.length (dgV pre2)) ∧ Hid (wx.ownsRow wc.heap.size 3 1 (.slice A5 R.length c5) R.length (nvsZ R)) ∧ Hid (Blk wx ab 77 #[.string nm, .int .i64 (T : Int), .int .i64 ps]) ∧ Hid (Below (w.heap.size + 3) W0 wx)) (fun _ vc _ => R.length - (intOf vc).toNat)
    case atStart => exact ⟨_, 0, pre1, rfl, Nat.zero_le _, rfl, by omega, Lib.hid (by simp), HR5, HO5, HA5, HB5⟩
    case round =>
     obtain ⟨V2, m, pre2, rfl, hm, rfl, hp2, HP2, HR, HOU, HA, HBr⟩ := hrel
     have hzw := HBr.out.size
     by_cases hlm : m < R.length
     ·obtain ⟨A', c', e', _, hSl⟩ := SlAt.of_own HOU.out
      injection e' with e1 _ e3
      subst e1
      subst e3
      obtain ⟨bo, oo, rfl, hbo, hco⟩ := hSl.at_ hlm
      have f0 := hco m (.int .i64 (R[m] : Nat)) (by simp [hlm])
      obtain ⟨y, hy⟩ : ∃ y, R[m] = y := ⟨_, rfl⟩
      rw [hy] at f0
      have htk : R.take (m + 1) = R.take m ++ [y] := by rw [List.take_succ_eq_append_getElem hlm, hy]
      have HTK := Lib.hid htk
      have g0 := HA.out.cell 0
      have g2 := HA.out.cell 2
      simp only [List.getElem?_toArray, List.getElem?_cons_zero, List.getElem?_cons_succ] at g0 g2
      have hzn4 : ab < wr.heap.size := HA.out.lt
      clear hSl hco hy htk
      by_cases hyk : y = k
      ·subst hyk
       have HP3 : Hid (pre2 ++ [⟨9, ps, nm⟩] = pre1 ++ ((R.take (m + 1)).flatMap fun x => if x = y then [⟨9, ps, nm⟩] else [])) := Lib.hid (by rw [HTK.out, List.flatMap_append, HP2.out, List.append_assoc]; simp)
       go_wp2_with (at_builtin; refine wpList_append_own_at _ rfl _ _ 98 rfl (w.heap.size + 3) 31 i31 (.agg #[.int .i64 0, .int .i64 0, .string ⟨#[]⟩]) 3 32 Tryz.underlying98 hi hz0 hz1 hz2 rfl (by decide) _ pre2.length (dgV pre2) rfl ?ra0 ⟨wr.heap.size, 0, none⟩ 1 1 [.int .i64 9, .int .i64 ps, .string nm] rfl rfl (cell3_new _ _ _ _ _) (by simp [Value.oneCell']) ?ra1 ?ra2 ?ra3 ?_)
       case ra0 => exact HR.out.alloc _
       case ra1 => unfold maxLen; omega
       case ra2 => omega
       case ra3 => first | omega | (simp; omega)
       intro v1 W3 hown hg _ _
       have hbX := HBr.out.alloc (by omega) (.cells #[.int .i64 9, .int .i64 ps, .string nm] 31)
       have HB3 := Lib.hid (hbX.grown hg (by first | omega | (simp; omega)) (fun g hg => (own_atZ HR.out g hg).1))
       have HA3 := Lib.hid ((HA.out.alloc (.cells #[.int .i64 9, .int .i64 ps, .string nm] 31)).grown hg (fun e => own_blk_ne HR.out HA.out (by decide) e.symm))
       have HOU3 := Lib.hid ((HOU.out.alloc (.cells #[.int .i64 9, .int .i64 ps, .string nm] 31)).kept hg (by rcases own_block HOU.out with e | ⟨g, e, _⟩; exact .inl e; exact .inr (fun e2 => own_type_ne HOU.out HR.out (by decide) g e (e2 ▸ e))))
       have HO3 : Hid (W3.ownsRow (w.heap.size + 3) 31 3 v1 (pre2 ++ [DiagD.mk 9 ps nm]).length (dgV (pre2 ++ [DiagD.mk 9 ps nm]))) := Lib.hid (by rw [dgV_append, List.length_append]; exact hown)
       clear hown hg hbX
       go_wp2
       go_roundw
       case rel => exact ⟨_, m + 1, pre2 ++ [DiagD.mk 9 ps nm], rfl, by omega, by go_num, by simp; omega, HP3, HO3, HOU3, HA3, HB3⟩
       case measure => simp [intOf]; omega
      ·have hq : ((y : Int) == (k : Int)) = false := by rw [beq_eq_false_iff_ne]; omega
       have HP3 : Hid (pre2 = pre1 ++ ((R.take (m + 1)).flatMap fun x => if x = k then [⟨9, ps, nm⟩] else [])) := Lib.hid (by rw [HTK.out, List.flatMap_append, ← List.append_assoc, ← HP2.out]; simp [hyk])
       go_wp2
       go_roundw
       case rel => exact ⟨_, m + 1, pre2, rfl, by omega, by go_num, by omega, HP3, HR, HOU, HA, HBr⟩
       case measure => simp [intOf]; omega
     ·obtain rfl : m = R.length := by omega
      have HP3 : Hid (pre2 = wrK t (k + 1)) := Lib.hid (by have := HP2.out; rw [List.take_length] at this; rw [HSN2.out]; exact this)
      go_wp2
      go_roundw
      case rel => exact ⟨_, k + 1, pre2, rfl, by omega, by go_num, HP3, HR, HBr⟩
      case measure => simp [intOf]; omega
  ·obtain rfl : k = t.aliases.length := by omega
   clear x0 x1 x2 y0 y1 y2 HXR
   have y1 := (HBr.out.cell (p := ⟨w.heap.size, 1, none⟩) (by dsimp only; omega)).trans ((HX0.out.cell 1).trans rfl)
   simp only [List.getElem?_toArray, List.getElem?_cons_zero, List.getElem?_cons_succ] at y1
   go_wp2
   go_loopw [4, 65] (fun vl vc wx => ∃ (V2 : Value) (k2 : Nat) (pre2 : List DiagD), V2 = vl ∧ k2 ≤ t.types.length ∧ vc = .int .i64 (k2 : Int) ∧ pre2.length ≤ 1003000 + k2 ∧ Hid (pre2 = wrK t t.aliases.length ++ nameK t k2) ∧ Hid (wx.ownsRow (w.heap.size + 3) 31 3 V2 pre2.length (dgV pre2)) ∧ Hid (Below (w.heap.size + 3) W0 wx)) (fun _ vc _ => t.types.length - (intOf vc).toNat)
   case atStart => exact ⟨_, 0, pre, rfl, Nat.zero_le _, rfl, hpl, Lib.hid (by rw [HP.out]; simp [nameK]), HR, HBr⟩
   case round =>
    clear y1 HBW hzr
    obtain ⟨V2, k2, pre2, rfl, hk2, rfl, hp2, HP2, HR2, HBr2⟩ := hrel
    have hzr := HBr2.out.size
    have hBw : Below w.heap.size w wr := HB0.out.trans (HBr2.out.mono (by omega))
    by_cases hlk2 : k2 < t.types.length
    ·obtain ⟨b, off, rfl, hb, hcell⟩ := HT.out.2.1 (by omega)
     dsimp only [Lt] at hb
     obtain ⟨q, _, hq⟩ := hcell k2 t.types[k2] (List.getElem?_eq_getElem hlk2)
     obtain ⟨⟨kind, pos, nm, nms, kids, opn⟩, hx⟩ : ∃ x, t.types[k2] = x := ⟨_, rfl⟩
     have hget : t.types[k2]? = some ⟨kind, pos, nm, nms, kids, opn⟩ := by rw [List.getElem?_eq_getElem hlk2, hx]
     rw [hx] at hq
     have d0 := (hBw.cell (p := ⟨b, off + k2 * 6 + 0, none⟩) hb).trans (hq 0 _ rfl)
     have d1 := (hBw.cell (p := ⟨b, off + k2 * 6 + 1, none⟩) hb).trans (hq 1 _ rfl)
     have d2 := (hBw.cell (p := ⟨b, off + k2 * 6 + 2, none⟩) hb).trans (hq 2 _ rfl)
     have d3 := (hBw.cell (p := ⟨b, off + k2 * 6 + 3, none⟩) hb).trans (hq 3 _ rfl)
     have d4 := (hBw.cell (p := ⟨b, off + k2 * 6 + 4, none⟩) hb).trans (hq 4 _ rfl)
     have d5 := (hBw.cell (p := ⟨b, off + k2 * 6 + 5, none⟩) hb).trans (hq 5 _ rfl)
     dsimp only at d0 d1 d2 d3 d4 d5
     rw [Nat.add_zero] at d0
     have hsn := nameK_snoc hget
     dsimp only at hsn
     obtain ⟨cs, hcs⟩ : ∃ cs, (#[.int .i64 kind, .int .i64 pos, .string nm, .slice q.a3 nms.length q.c3, .slice q.a4 kids.length q.c4, .bool opn] : Array Value) = cs := ⟨_, rfl⟩
     have HSN := Lib.hid hsn
     have HR1 := Lib.hid (HR2.out.alloc (.cells cs 51))
     have HB1' := Lib.hid (HBr2.out.alloc (by omega) (.cells cs 51))
     have hb1 : Below wr.heap.size wr (wr.alloc (.cells cs 51)) := (Below.refl _ wr).alloc (Nat.le_refl _) _
     have HCS := Lib.hid hcs
     have HBW := Lib.hid hBw
     clear hq hx hcell hget hsn hcs hBw
     go_upto_region 18 with fail
     rw [HCS.out]
     obtain ⟨W1, hW1⟩ : ∃ W1, wr.alloc (.cells cs 51) = W1 := ⟨_, rfl⟩
     have hBk : Blk W1 wr.heap.size 51 cs := by rw [← hW1]; exact Blk.new wr 51 cs
     rw [← HCS.out] at hBk
     obtain ⟨nb, hnb⟩ : ∃ nb, wr.heap.size = nb := ⟨_, rfl⟩
     rw [hW1] at HR1 HB1' hb1 ⊢
     rw [hnb] at hBk ⊢
     have hnb1 : w.heap.size + 3 < nb := by omega
     have hnb2 : nb < W1.heap.size := hBk.lt
     have g0 := hBk.cell 0
     have g1 := hBk.cell 1
     have g2 := hBk.cell 2
     simp only [List.getElem?_toArray, List.getElem?_cons_zero, List.getElem?_cons_succ] at g0 g1 g2
     have HBK := Lib.hid hBk
     clear hW1 hnb d0 d1 d2 d3 d4 d5 hBk
     by_cases hk10 : kind = 10
     rotate_left
     ·have hkb : (kind == 10) = false := by simp [hk10]
      have HP3 : Hid (pre2 = wrK t t.aliases.length ++ nameK t (k2 + 1)) := Lib.hid (by rw [HSN.out, if_neg (by simp [hk10]), List.append_nil]; exact HP2.out)
      go_wp2
      go_roundw
      case rel => exact ⟨_, k2 + 1, pre2, rfl, by omega, by go_num, by omega, HP3, HR1, HB1'⟩
      case measure => simp [intOf]; omega
     ·subst hk10
      have hX1 : Blk W1 w.heap.size 28 #[.slice a1 t.nodes.length c1, .slice (some ⟨b, off, none⟩) t.types.length c2, .slice a3 t.aliases.length c3] := (HB1'.out.block _ (by omega)).trans HX0.out
      have y0 := hX1.cell 0
      have y1 := hX1.cell 1
      have y2 := hX1.cell 2
      simp only [List.getElem?_toArray, List.getElem?_cons_zero, List.getElem?_cons_succ] at y0 y1 y2
      have cN := rnamed_any t ⟨a1, c1, some ⟨b, off, none⟩, c2, a3, c3⟩ nm W1 (tree_onZ (tree_onZ HT.out HBW.out) hb1) hla
      obtain ⟨F, hF2⟩ : ∃ F, firstA t.aliases nm = F := ⟨_, rfl⟩
      have hid : idxV (nmdN t.aliases nm 0) = idxV F := by rw [nmdN_iff, hF2]; cases F <;> rfl
      rw [hid] at cN
      have HFF := Lib.hid hF2
      clear hX1 hid hF2 hb1
      go_wp2_with fail
      refine cN.mono ?_
      rintro e w3 ⟨rfl, hb3⟩
      have hB3 := HBK.out.below hb3 hnb2
      have HR3 := Lib.hid (own_belowZ HR1.out hb3)
      have HB3' := Lib.hid (HB1'.out.trans (hb3.mono (by omega)))
      have hz3 := hb3.size
      clear g0 g1 g2
      have g1 := hB3.cell 1
      have g2 := hB3.cell 2
      simp only [List.getElem?_toArray, List.getElem?_cons_zero, List.getElem?_cons_succ] at g1 g2
      have hnb3 : nb < w3.heap.size := by omega
      clear hb3 hB3 cN y0 y1 y2
      cases F with
      | some j =>
       have hj0 : ¬ ((j : Int) < 0) := by omega
       have HP3 : Hid (pre2 = wrK t t.aliases.length ++ nameK t (k2 + 1)) := Lib.hid (by rw [HSN.out, HFF.out, if_neg (by simp), List.append_nil]; exact HP2.out)
       dsimp only [idxV]
       go_wp2
       go_roundw
       case rel => exact ⟨_, k2 + 1, pre2, rfl, by omega, by go_num, by omega, HP3, HR3, HB3'⟩
       case measure => simp [intOf]; omega
      | none =>
       have HP3 : Hid (pre2 ++ [⟨7, pos, nm⟩] = wrK t t.aliases.length ++ nameK t (k2 + 1)) := Lib.hid (by rw [HSN.out, HFF.out, if_pos (by simp), HP2.out, List.append_assoc])
       dsimp only [idxV]
       go_wp2_with (at_builtin; refine wpList_append_own_at _ rfl _ _ 98 rfl (w.heap.size + 3) 31 i31 (.agg #[.int .i64 0, .int .i64 0, .string ⟨#[]⟩]) 3 32 Tryz.underlying98 hi hz0 hz1 hz2 rfl (by decide) _ pre2.length (dgV pre2) rfl ?ra0 ⟨w3.heap.size, 0, none⟩ 1 1 [.int .i64 7, .int .i64 pos, .string nm] rfl rfl (cell3_new _ _ _ _ _) (by simp [Value.oneCell']) ?ra1 ?ra2 ?ra3 ?_)
       case ra0 => exact HR3.out.alloc _
       case ra1 => unfold maxLen; omega
       case ra2 => omega
       case ra3 => first | omega | (simp; omega)
       intro v1 W3 hown hg _ _
       have hbX := HB3'.out.alloc (by omega) (.cells #[.int .i64 7, .int .i64 pos, .string nm] 31)
       have HB4 := Lib.hid (hbX.grown hg (by first | omega | (simp; omega)) (fun g hg => (own_atZ HR3.out g hg).1))
       have HO4 : Hid (W3.ownsRow (w.heap.size + 3) 31 3 v1 (pre2 ++ [DiagD.mk 7 pos nm]).length (dgV (pre2 ++ [DiagD.mk 7 pos nm]))) := Lib.hid (by rw [dgV_append, List.length_append]; exact hown)
       clear hown hg hbX
       go_wp2
       go_roundw
       case rel => exact ⟨_, k2 + 1, pre2 ++ [DiagD.mk 7 pos nm], rfl, by omega, by go_num, by simp; omega, HP3, HO4, HB4⟩
       case measure => simp [intOf]; omega
    ·obtain rfl : k2 = t.types.length := by omega
     have HPB : Hid (pre2 = wrK t t.aliases.length ++ nameL t) := Lib.hid (by have := HP2.out; unfold nameK at this; rw [List.take_length] at this; exact this)
     have y0 := (HBr2.out.cell (p := ⟨w.heap.size, 0, none⟩) (by dsimp only; omega)).trans ((HX0.out.cell 0).trans rfl)
     simp only [List.getElem?_toArray, List.getElem?_cons_zero] at y0
     go_wp2
     go_loopw [4, 91] (fun vl vc wx => ∃ (V3 : Value) (k3 : Nat) (pre3 : List DiagD), V3 = vl ∧ k3 ≤ t.nodes.length ∧ vc = .int .i64 (k3 : Int) ∧ pre3.length ≤ 1004000 + k3 ∧ Hid (pre3 = wrK t t.aliases.length ++ nameL t ++ wrT t k3) ∧ Hid (wx.ownsRow (w.heap.size + 3) 31 3 V3 pre3.length (dgV pre3)) ∧ Hid (Below (w.heap.size + 3) W0 wx)) (fun _ vc _ => t.nodes.length - (intOf vc).toNat)
     case atStart => exact ⟨_, 0, pre2, rfl, Nat.zero_le _, rfl, by omega, Lib.hid (by rw [HPB.out]; simp [wrT]), HR2, HBr2⟩
     case round =>
      clear y0 hBw hzr
      obtain ⟨V3, k3, pre3, rfl, hk3, rfl, hp3, HP3, HR3, HBr3⟩ := hrel
      have hzr := HBr3.out.size
      have hBw : Below w.heap.size w wr := HB0.out.trans (HBr3.out.mono (by omega))
      by_cases hlk3 : k3 < t.nodes.length
      ·obtain ⟨b, off, rfl, hb, hcell⟩ := HT.out.1 (by omega)
       dsimp only [Lt] at hb
       obtain ⟨q, hq1, hq⟩ := hcell k3 t.nodes[k3] (List.getElem?_eq_getElem hlk3)
       obtain ⟨⟨kind, pos, nm, int, bits, nms, kids, tys⟩, hx⟩ : ∃ x, t.nodes[k3] = x := ⟨_, rfl⟩
       have hget : t.nodes[k3]? = some ⟨kind, pos, nm, int, bits, nms, kids, tys⟩ := by rw [List.getElem?_eq_getElem hlk3, hx]
       rw [hx] at hq hq1
       have c0 := (hBw.cell (p := ⟨b, off + k3 * 8 + 0, none⟩) hb).trans (hq 0 _ rfl)
       have c1' := (hBw.cell (p := ⟨b, off + k3 * 8 + 1, none⟩) hb).trans (hq 1 _ rfl)
       have c2' := (hBw.cell (p := ⟨b, off + k3 * 8 + 2, none⟩) hb).trans (hq 2 _ rfl)
       have c3' := (hBw.cell (p := ⟨b, off + k3 * 8 + 3, none⟩) hb).trans (hq 3 _ rfl)
       have c4' := (hBw.cell (p := ⟨b, off + k3 * 8 + 4, none⟩) hb).trans (hq 4 _ rfl)
       have c5' := (hBw.cell (p := ⟨b, off + k3 * 8 + 5, none⟩) hb).trans (hq 5 _ rfl)
       have c6' := (hBw.cell (p := ⟨b, off + k3 * 8 + 6, none⟩) hb).trans (hq 6 _ rfl)
       have c7' := (hBw.cell (p := ⟨b, off + k3 * 8 + 7, none⟩) hb).trans (hq 7 _ rfl)
       dsimp only at c0 c1' c2' c3' c4' c5' c6' c7'
       rw [Nat.add_zero] at c0
       have hsn := wrT_snoc hget
       obtain ⟨cs, hcs⟩ : ∃ cs, (#[.int .i64 kind, .int .i64 pos, .string nm, .int .i64 int, .int .u64 (bits : Int), .slice q.a5 nms.length q.c5, .slice q.a6 kids.length q.c6, .slice q.a7 tys.length q.c7] : Array Value) = cs := ⟨_, rfl⟩
       have HSN := Lib.hid hsn
       have HGET := Lib.hid hget
       have HR1 := Lib.hid (HR3.out.alloc (.cells cs 60))
       have HB1' := Lib.hid (HBr3.out.alloc (by omega) (.cells cs 60))
       have hb1 : Below wr.heap.size wr (wr.alloc (.cells cs 60)) := (Below.refl _ wr).alloc (Nat.le_refl _) _
       have HCS := Lib.hid hcs
       have HQ1 := Lib.hid hq1
       have HCELL := Lib.hid hcell
       have HBW := Lib.hid hBw
       clear hq hq1 hx hcell hget hsn hcs hBw
       go_upto_region 24 with fail
       rw [HCS.out]
       obtain ⟨W1, hW1⟩ : ∃ W1, wr.alloc (.cells cs 60) = W1 := ⟨_, rfl⟩
       have hBk : Blk W1 wr.heap.size 60 cs := by rw [← hW1]; exact Blk.new wr 60 cs
       rw [← HCS.out] at hBk
       obtain ⟨nb, hnb⟩ : ∃ nb, wr.heap.size = nb := ⟨_, rfl⟩
       rw [hW1] at HR1 HB1' hb1 ⊢
       rw [hnb] at hBk ⊢
       have hnb1 : w.heap.size + 3 < nb := by omega
       have hnb2 : nb < W1.heap.size := hBk.lt
       have hl4 : nb < W1.heap.size := hnb2
       have g0 := hBk.cell 0
       have g2 := hBk.cell 2
       have g6 := hBk.cell 6
       simp only [List.getElem?_toArray, List.getElem?_cons_zero, List.getElem?_cons_succ] at g0 g2 g6
       have HBK := Lib.hid hBk
       have HBW1 := Lib.hid (HBW.out.trans (hb1.mono (by omega)))
       clear hW1 hnb c0 c1' c2' c3' c4' c5' c6' c7' hBk hb1
       by_cases hk8 : kind = 8
       rotate_left
       ·have hkb : (kind == 8) = false := by simp [hk8]
        have HP4 : Hid (pre3 = wrK t t.aliases.length ++ nameL t ++ wrT t (k3 + 1)) := Lib.hid (by rw [HSN.out, show wrong1 t ⟨kind, pos, nm, int, bits, nms, kids, tys⟩ = [] by unfold wrong1; rw [if_neg hk8], List.append_nil]; exact HP3.out)
        have HRd := Lib.hid (own_belowZ HR1.out ((Below.refl _ W1).drew))
        have HBd := Lib.hid (HB1'.out.drew)
        have HSO := Lib.hid (show ∀ W, Below W1.heap.size W1 W → (W.cell? ⟨nb, 0, none⟩ = some (.int .i64 kind) ∧ Below (w.heap.size + 3) W0 W) from fun W hb => ⟨(hb.cell (p := ⟨nb, 0, none⟩) hl4).trans g0, HB1'.out.trans (hb.mono (by omega))⟩)
        clear g0 g2 g6
        refine wp_region_heldG (S := fun W => W.cell? ⟨nb, 0, none⟩ = some (.int .i64 kind) ∧ Below (w.heap.size + 3) W0 W) (fun _ => false) (by kernel_rfl) (HSO.out _ (Below.refl _ W1).drew) (fun hHeld => ?_)
        refine tkG 0 ?_
        try simp only [Act.put, List.setIfInBounds_toArray, List.set_cons_zero, List.set_cons_succ]
        refine tkG 1 ?_
        try simp only [Act.put, List.setIfInBounds_toArray, List.set_cons_zero, List.set_cons_succ]
        refine tkG 2 ?_
        try simp only [Act.put, List.setIfInBounds_toArray, List.set_cons_zero, List.set_cons_succ]
        refine tkG 3 ?_
        try simp only [Act.put, List.setIfInBounds_toArray, List.set_cons_zero, List.set_cons_succ]
        refine skG 4 ?_
        try simp only [Act.put, List.setIfInBounds_toArray, List.set_cons_zero, List.set_cons_succ]
        refine skG 5 ?_
        try simp only [Act.put, List.setIfInBounds_toArray, List.set_cons_zero, List.set_cons_succ]
        refine skG 6 ?_
        try simp only [Act.put, List.setIfInBounds_toArray, List.set_cons_zero, List.set_cons_succ]
        refine skG 7 ?_
        try simp only [Act.put, List.setIfInBounds_toArray, List.set_cons_zero, List.set_cons_succ]
        refine skG 8 ?_
        try simp only [Act.put, List.setIfInBounds_toArray, List.set_cons_zero, List.set_cons_succ]
        refine skG 9 ?_
        try simp only [Act.put, List.setIfInBounds_toArray, List.set_cons_zero, List.set_cons_succ]
        refine skG 10 ?_
        try simp only [Act.put, List.setIfInBounds_toArray, List.set_cons_zero, List.set_cons_succ]
        refine skG 11 ?_
        try simp only [Act.put, List.setIfInBounds_toArray, List.set_cons_zero, List.set_cons_succ]
        refine skG 12 ?_
        try simp only [Act.put, List.setIfInBounds_toArray, List.set_cons_zero, List.set_cons_succ]
        refine skG 13 ?_
        try simp only [Act.put, List.setIfInBounds_toArray, List.set_cons_zero, List.set_cons_succ]
        refine tkG 14 ?_
        try simp only [Act.put, List.setIfInBounds_toArray, List.set_cons_zero, List.set_cons_succ]
        clear hHeld
        refine wpAnyG_done (by kernel_rfl) ?_ _
        go_wp2
        go_roundw
        case rel => exact ⟨_, k3 + 1, pre3, rfl, by omega, by go_num, by omega, HP4, HRd, HBd⟩
        case measure => simp [intOf]; omega
       ·subst hk8
        have hkl : 0 < kids.length := (ndOk_of HRN.out).two k3 _ HGET.out rfl
        obtain ⟨y, hy⟩ : ∃ y, kids[0] = y := ⟨_, rfl⟩
        have hyr := (ndOk_of HRN.out).rng k3 _ HGET.out y (by rw [← hy]; exact List.getElem_mem hkl)
        obtain ⟨Y, rfl⟩ : ∃ Y : Nat, y = (Y : Int) := ⟨y.toNat, by omega⟩
        have hYk : Y < t.nodes.length := by omega
        obtain ⟨bk, offk, h6, hbk, hck⟩ := HQ1.out.2.1.2 hkl
        dsimp only [Lt] at hbk h6
        have k0 := (HBW1.out.cell (p := ⟨bk, offk + 0, none⟩) hbk).trans (hck 0 (.int .i64 (Y : Int)) (by simp [hkl, hy]))
        rw [Nat.add_zero] at k0
        obtain ⟨q2, _, hq2⟩ := HCELL.out Y t.nodes[Y] (List.getElem?_eq_getElem hYk)
        obtain ⟨⟨kind2, pos2, nm2, int2, bits2, nms2, kids2, tys2⟩, hx2⟩ : ∃ x, t.nodes[Y] = x := ⟨_, rfl⟩
        have hget2 : t.nodes[Y]? = some ⟨kind2, pos2, nm2, int2, bits2, nms2, kids2, tys2⟩ := by rw [List.getElem?_eq_getElem hYk, hx2]
        rw [hx2] at hq2
        have e0 := (HBW1.out.cell (p := ⟨b, off + Y * 8 + 0, none⟩) hb).trans (hq2 0 _ rfl)
        have e1 := (HBW1.out.cell (p := ⟨b, off + Y * 8 + 1, none⟩) hb).trans (hq2 1 _ rfl)
        dsimp only at e0 e1
        rw [Nat.add_zero] at e0
        have y0 := (HB1'.out.cell (p := ⟨w.heap.size, 0, none⟩) (by dsimp only; omega)).trans ((HX0.out.cell 0).trans rfl)
        simp only [List.getElem?_toArray, List.getElem?_cons_zero] at y0
        rw [h6] at g6
        have H6 := Lib.hid h6
        have hw1 : wrong1 t ⟨8, pos, nm, int, bits, nms, kids, tys⟩ = if kind2 = 5 then [] else [⟨1, pos2, nm⟩] := by
         have hh : kids.headD 0 = (Y : Int) := by
          cases kids with
          | nil => simp at hkl
          | cons a r => simpa using hy
         unfold wrong1
         rw [if_pos rfl]
         dsimp only
         rw [hh, Int.toNat_natCast, hget2]
        have HW1 := Lib.hid hw1
        have Y0 := Lib.hid y0
        have K0 := Lib.hid k0
        have E0 := Lib.hid e0
        have E1 := Lib.hid e1
        have hl1 : w.heap.size < W1.heap.size := by omega
        have hl2 : bk < W1.heap.size := by omega
        have hl3 : b < W1.heap.size := by omega
        have hkl2 : (0 : Int) < (kids.length : Int) := by omega
        have hY2 : (Y : Int) < (t.nodes.length : Int) := by omega
        clear hw1 hy hyr hck hq2 hx2 hget2 h6
        have HSO := Lib.hid (show ∀ W, Below W1.heap.size W1 W → (W.cell? ⟨w.heap.size, 0, none⟩ = some (.slice (some ⟨b, off, none⟩) t.nodes.length c1) ∧ W.cell? ⟨nb, 0, none⟩ = some (.int .i64 8) ∧ W.cell? ⟨nb, 2, none⟩ = some (.string nm) ∧ W.cell? ⟨nb, 6, none⟩ = some (.slice (some ⟨bk, offk, none⟩) kids.length q.c6) ∧ W.cell? ⟨bk, offk, none⟩ = some (.int .i64 (Y : Int)) ∧ W.cell? ⟨b, off + Y * 8, none⟩ = some (.int .i64 kind2) ∧ W.cell? ⟨b, off + Y * 8 + 1, none⟩ = some (.int .i64 pos2) ∧ Below (w.heap.size + 3) W0 W) from fun W hb => ⟨(hb.cell (p := ⟨w.heap.size, 0, none⟩) hl1).trans y0, (hb.cell (p := ⟨nb, 0, none⟩) hl4).trans g0, (hb.cell (p := ⟨nb, 2, none⟩) hl4).trans g2, (hb.cell (p := ⟨nb, 6, none⟩) hl4).trans g6, (hb.cell (p := ⟨bk, offk, none⟩) hl2).trans k0, (hb.cell (p := ⟨b, off + Y * 8, none⟩) hl3).trans e0, (hb.cell (p := ⟨b, off + Y * 8 + 1, none⟩) hl3).trans e1, HB1'.out.trans (hb.mono (by omega))⟩)
        clear y0 g0 g2 g6 k0 e0 e1
        refine wp_region_heldG (S := fun W => W.cell? ⟨w.heap.size, 0, none⟩ = some (.slice (some ⟨b, off, none⟩) t.nodes.length c1) ∧ W.cell? ⟨nb, 0, none⟩ = some (.int .i64 8) ∧ W.cell? ⟨nb, 2, none⟩ = some (.string nm) ∧ W.cell? ⟨nb, 6, none⟩ = some (.slice (some ⟨bk, offk, none⟩) kids.length q.c6) ∧ W.cell? ⟨bk, offk, none⟩ = some (.int .i64 (Y : Int)) ∧ W.cell? ⟨b, off + Y * 8, none⟩ = some (.int .i64 kind2) ∧ W.cell? ⟨b, off + Y * 8 + 1, none⟩ = some (.int .i64 pos2) ∧ Below (w.heap.size + 3) W0 W) (fun _ => false) (by kernel_rfl) (HSO.out _ (Below.refl _ W1).drew) (fun hHeld => ?_)
        refine tkG 0 ?_
        try simp only [Act.put, List.setIfInBounds_toArray, List.set_cons_zero, List.set_cons_succ]
        refine tkG 1 ?_
        try simp only [Act.put, List.setIfInBounds_toArray, List.set_cons_zero, List.set_cons_succ]
        refine tkG 2 ?_
        try simp only [Act.put, List.setIfInBounds_toArray, List.set_cons_zero, List.set_cons_succ]
        refine tkG 3 ?_
        try simp only [Act.put, List.setIfInBounds_toArray, List.set_cons_zero, List.set_cons_succ]
        refine tkG 4 ?_
        try simp only [Act.put, List.setIfInBounds_toArray, List.set_cons_zero, List.set_cons_succ]
        refine tkG 5 ?_
        try simp only [Act.put, List.setIfInBounds_toArray, List.set_cons_zero, List.set_cons_succ]
        refine tkG 6 ?_
        try simp only [Act.put, List.setIfInBounds_toArray, List.set_cons_zero, List.set_cons_succ]
        refine tkG 7 ?_
        try simp only [Act.put, List.setIfInBounds_toArray, List.set_cons_zero, List.set_cons_succ]
        refine tkG 8 ?_
        try simp only [Act.put, List.setIfInBounds_toArray, List.set_cons_zero, List.set_cons_succ]
        refine tkG 9 ?_
        try simp only [Act.put, List.setIfInBounds_toArray, List.set_cons_zero, List.set_cons_succ]
        refine tkG 10 ?_
        try simp only [Act.put, List.setIfInBounds_toArray, List.set_cons_zero, List.set_cons_succ]
        refine tkG 11 ?_
        try simp only [Act.put, List.setIfInBounds_toArray, List.set_cons_zero, List.set_cons_succ]
        refine tkG 12 ?_
        try simp only [Act.put, List.setIfInBounds_toArray, List.set_cons_zero, List.set_cons_succ]
        refine tkG 13 ?_
        try simp only [Act.put, List.setIfInBounds_toArray, List.set_cons_zero, List.set_cons_succ]
        refine tkG 14 ?_
        try simp only [Act.put, List.setIfInBounds_toArray, List.set_cons_zero, List.set_cons_succ]
        obtain ⟨y0, g0, g2, g6, k0, e0, e1, _⟩ := hHeld
        refine wpAnyG_done (by kernel_rfl) ?_ _
        have HRd := Lib.hid (own_belowZ HR1.out ((Below.refl _ W1).drew))
        have HBd := Lib.hid (HB1'.out.drew)
        by_cases hk5 : kind2 = 5
        ·have hkb : (kind2 != 5) = false := by simp [hk5]
         have HP4 : Hid (pre3 = wrK t t.aliases.length ++ nameL t ++ wrT t (k3 + 1)) := Lib.hid (by rw [HSN.out, HW1.out, if_pos hk5, List.append_nil]; exact HP3.out)
         clear HSO y0 g0 g2 g6 k0 e0 e1
         go_wp2
         go_roundw
         case rel => exact ⟨_, k3 + 1, pre3, rfl, by omega, by go_num, by omega, HP4, HRd, HBd⟩
         case measure => simp [intOf]; omega
        ·have hkb : (kind2 != 5) = true := by simp [hk5]
         have HP4 : Hid (pre3 ++ [⟨1, pos2, nm⟩] = wrK t t.aliases.length ++ nameL t ++ wrT t (k3 + 1)) := Lib.hid (by rw [HSN.out, HW1.out, if_neg hk5, HP3.out]; simp only [List.append_assoc])
         go_wp2_with fail
         refine wp_region_heldG (S := fun W => W.cell? ⟨w.heap.size, 0, none⟩ = some (.slice (some ⟨b, off, none⟩) t.nodes.length c1) ∧ W.cell? ⟨nb, 0, none⟩ = some (.int .i64 8) ∧ W.cell? ⟨nb, 2, none⟩ = some (.string nm) ∧ W.cell? ⟨nb, 6, none⟩ = some (.slice (some ⟨bk, offk, none⟩) kids.length q.c6) ∧ W.cell? ⟨bk, offk, none⟩ = some (.int .i64 (Y : Int)) ∧ W.cell? ⟨b, off + Y * 8, none⟩ = some (.int .i64 kind2) ∧ W.cell? ⟨b, off + Y * 8 + 1, none⟩ = some (.int .i64 pos2) ∧ Below (w.heap.size + 3) W0 W) (fun _ => false) (by kernel_rfl) (HSO.out _ ((Below.refl _ W1).drew).drew) (fun hHeld => ?_)
         clear y0 g0 g2 g6 k0 e0 e1
         refine tkG 0 ?_
         try simp only [Act.put, List.setIfInBounds_toArray, List.set_cons_zero, List.set_cons_succ]
         refine tkG 1 ?_
         try simp only [Act.put, List.setIfInBounds_toArray, List.set_cons_zero, List.set_cons_succ]
         refine tkG 2 ?_
         try simp only [Act.put, List.setIfInBounds_toArray, List.set_cons_zero, List.set_cons_succ]
         refine tkG 3 ?_
         try simp only [Act.put, List.setIfInBounds_toArray, List.set_cons_zero, List.set_cons_succ]
         refine tkG 4 ?_
         try simp only [Act.put, List.setIfInBounds_toArray, List.set_cons_zero, List.set_cons_succ]
         refine tkG 5 ?_
         try simp only [Act.put, List.setIfInBounds_toArray, List.set_cons_zero, List.set_cons_succ]
         refine tkG 6 ?_
         try simp only [Act.put, List.setIfInBounds_toArray, List.set_cons_zero, List.set_cons_succ]
         refine tkG 7 ?_
         try simp only [Act.put, List.setIfInBounds_toArray, List.set_cons_zero, List.set_cons_succ]
         refine tkG 8 ?_
         try simp only [Act.put, List.setIfInBounds_toArray, List.set_cons_zero, List.set_cons_succ]
         refine tkG 9 ?_
         try simp only [Act.put, List.setIfInBounds_toArray, List.set_cons_zero, List.set_cons_succ]
         refine tkG 10 ?_
         try simp only [Act.put, List.setIfInBounds_toArray, List.set_cons_zero, List.set_cons_succ]
         refine tkG 11 ?_
         try simp only [Act.put, List.setIfInBounds_toArray, List.set_cons_zero, List.set_cons_succ]
         refine tkG 12 ?_
         try simp only [Act.put, List.setIfInBounds_toArray, List.set_cons_zero, List.set_cons_succ]
         refine rdG 13 (fun K hK => ?_)
         go_simp
         obtain ⟨Wn, hWn⟩ : ∃ W, (W1.alloc (.cells #[.int .i64 1, .int .i64 pos2, .string nm] 31)).drew.drew = W := ⟨_, rfl⟩
         rw [hWn]
         have hBn : Below W1.heap.size W1 Wn := by rw [← hWn]; exact (((Below.refl _ W1).alloc (Nat.le_refl _) _).drew).drew
         have hRn : RdAt Wn (some ⟨W1.heap.size, 0, none⟩) [.int .i64 1, .int .i64 pos2, .string nm] := by rw [← hWn]; exact .inr ⟨_, _, rfl, fun j u hu => by have h := cellG_new W1 #[.int .i64 1, .int .i64 pos2, .string nm] 31 j u hu; simpa using h⟩
         have hOn := own_belowZ HR1.out hBn
         have hNn := HBK.out.below hBn hnb2
         refine hK.out _ _ (HSO.out _ hBn) (fun hHeld => ?_)
         clear hK K hWn hHeld
         try simp only [Act.put, List.setIfInBounds_toArray, List.set_cons_zero, List.set_cons_succ]
         refine rdG 14 (fun K hK => ?_)
         refine step_app _ (by rfl) _ _ 98 (by rfl) (w.heap.size + 3) 31 i31 (.agg #[.int .i64 0, .int .i64 0, .string ⟨#[]⟩]) 3 32 Tryz.underlying98 hi hz0 hz1 hz2 rfl (by decide) V3 pre3.length (dgV pre3) (by rfl) hOn (some ⟨W1.heap.size, 0, none⟩) 1 1 [.int .i64 1, .int .i64 pos2, .string nm] (by rfl) (by simp) hRn (by simp [Value.oneCell']) (by unfold maxLen; omega) (by omega) (by have := hBn.size; omega) ?_
         intro v1 W3 hown hg _
         have hbr3 : Below (w.heap.size + 3) W0 W3 := (HB1'.out.trans (hBn.mono (by omega))).grown hg (by have := hBn.size; omega) (fun g hg => (own_atZ hOn g hg).1)
         have hw3 : Below (w.heap.size + 3) W1 W3 := (hBn.mono (by omega)).grown hg (by have := hBn.size; omega) (fun g hg => (own_atZ hOn g hg).1)
         have hN3 := hNn.grown hg (fun e => own_blk_ne hOn hNn (by decide) e.symm)
         have n0 := hN3.cell 0
         have n2 := hN3.cell 2
         have n6 := hN3.cell 6
         simp only [List.getElem?_toArray, List.getElem?_cons_zero, List.getElem?_cons_succ] at n0 n2 n6
         rw [H6.out] at n6
         have hHeld : W3.cell? ⟨w.heap.size, 0, none⟩ = some (.slice (some ⟨b, off, none⟩) t.nodes.length c1) ∧ W3.cell? ⟨nb, 0, none⟩ = some (.int .i64 8) ∧ W3.cell? ⟨nb, 2, none⟩ = some (.string nm) ∧ W3.cell? ⟨nb, 6, none⟩ = some (.slice (some ⟨bk, offk, none⟩) kids.length q.c6) ∧ W3.cell? ⟨bk, offk, none⟩ = some (.int .i64 (Y : Int)) ∧ W3.cell? ⟨b, off + Y * 8, none⟩ = some (.int .i64 kind2) ∧ W3.cell? ⟨b, off + Y * 8 + 1, none⟩ = some (.int .i64 pos2) ∧ Below (w.heap.size + 3) W0 W3 := ⟨(hw3.cell (p := ⟨w.heap.size, 0, none⟩) (by dsimp only; omega)).trans Y0.out, n0, n2, n6, (hw3.cell (p := ⟨bk, offk, none⟩) (by dsimp only; omega)).trans K0.out, (hw3.cell (p := ⟨b, off + Y * 8, none⟩) (by dsimp only; omega)).trans E0.out, (hw3.cell (p := ⟨b, off + Y * 8 + 1, none⟩) (by dsimp only; omega)).trans E1.out, hbr3⟩
         have HB3' := Lib.hid hbr3
         have HO4 : Hid (W3.ownsRow (w.heap.size + 3) 31 3 v1 (pre3 ++ [DiagD.mk 1 pos2 nm]).length (dgV (pre3 ++ [DiagD.mk 1 pos2 nm]))) := Lib.hid (by rw [dgV_append, List.length_append]; exact hown)
         refine hK.out _ _ hHeld (fun hHeld2 => ?_)
         clear hK K hHeld2 hg hown hOn hRn hBn hw3 hNn hN3 n0 n2 n6 hbr3
         try simp only [Act.put, List.setIfInBounds_toArray, List.set_cons_zero, List.set_cons_succ]
         refine tkG 15 ?_
         try simp only [Act.put, List.setIfInBounds_toArray, List.set_cons_zero, List.set_cons_succ]
         clear hHeld
         refine wpAnyG_done (by kernel_rfl) ?_ _
         go_wp2
         go_roundw
         case rel => exact ⟨_, k3 + 1, pre3 ++ [DiagD.mk 1 pos2 nm], rfl, by omega, by go_num, by simp; omega, HP4, HO4, HB3'⟩
         case measure => simp [intOf]; omega
      ·obtain rfl : k3 = t.nodes.length := by omega
       have HL : Hid (pre3 = wrongR t) := Lib.hid (by rw [wrongR_eq, HP3.out]; unfold wrT; rw [List.take_length]; rfl)
       obtain ⟨A3, c3', rfl⟩ := own_sliceZ HR3.out
       have hYr : Blk wr (w.heap.size + 1) 31 #[.int .i64 0, .int .i64 0, .string ⟨#[]⟩] := (HBr3.out.block _ (by omega)).trans HY0.out
       have hZr : Blk wr (w.heap.size + 2) 31 #[.int .i64 0, .int .i64 0, .string ⟨#[]⟩] := (HBr3.out.block _ (by omega)).trans HZ0.out
       have hpl3 : pre3.length ≤ 1006000 := by omega
       have hBw0 := Lib.hid hBw
       clear hBw hzr
       go_wp2
       go_loopw [128] (fun vc wx => ∃ (k4 : Nat) (cur : DiagD), k4 ≤ pre3.length ∧ vc = .int .i64 (k4 : Int) ∧ Hid (cur = firstD (pre3.take k4)) ∧ Blk wx (w.heap.size + 2) 31 #[.int .i64 cur.err, .int .i64 cur.pos, .string cur.name] ∧ Blk wx (w.heap.size + 1) 31 #[.int .i64 0, .int .i64 0, .string ⟨#[]⟩] ∧ Hid (wx.ownsRow (w.heap.size + 3) 31 3 (.slice A3 pre3.length c3') pre3.length (dgV pre3)) ∧ Hid (Below w.heap.size w wx)) (fun vc _ => pre3.length - (intOf vc).toNat)
       case atStart => exact ⟨0, ⟨0, 0, noName⟩, Nat.zero_le _, rfl, Lib.hid rfl, hZr, hYr, HR3, hBw0⟩
       case round =>
        clear hYr hZr
        obtain ⟨k4, cur, hk4, rfl, HCU, hZ, hY, HOL, HBW⟩ := hrel
        have hzl : w.heap.size + 2 < wr.heap.size := hZ.lt
        by_cases hlk4 : k4 < pre3.length
        ·obtain ⟨g, rfl, hgb, hgl, hcell⟩ := dg_at rfl HOL.out (by omega)
         obtain ⟨d, hd⟩ : ∃ d, pre3[k4] = d := ⟨_, rfl⟩
         obtain ⟨e0, e1, e2⟩ := hcell k4 d (by rw [List.getElem?_eq_getElem hlk4, hd])
         have htk : pre3.take (k4 + 1) = pre3.take k4 ++ [d] := by rw [List.take_succ_eq_append_getElem hlk4, hd]
         have hfs : firstD (pre3.take (k4 + 1)) = if pre3.take k4 = [] ∨ cmpD d cur < 0 then d else cur := by rw [htk, firstD_snoc, ← HCU.out]
         have hem : cur.err = 0 ↔ pre3.take k4 = [] := by
          constructor
          ·intro h
           refine Decidable.byContradiction fun hn => ?_
           refine firstD_err (fun x hx => wrongR_err (t := t) x (by rw [← HL.out]; exact List.mem_of_mem_take hx)) hn (by rw [← HCU.out]; exact h)
          ·intro h
           rw [HCU.out, h]
           rfl
         have HFS := Lib.hid hfs
         have HEM := Lib.hid hem
         have HDT : Hid (LtD d cur → decide (cmpD d cur < 0) = true) := Lib.hid fun h => decide_eq_true (cmpD_lt.2 h)
         have HDF : Hid (¬ LtD d cur → decide (cmpD d cur < 0) = false) := Lib.hid fun h => decide_eq_false fun h2 => h (cmpD_lt.1 h2)
         have hb1 : Below wr.heap.size wr (wr.alloc (.cells #[.int .i64 d.err, .int .i64 d.pos, .string d.name] 31)) := (Below.refl _ wr).alloc (Nat.le_refl _) _
         have hD1 := Blk.new wr 31 #[.int .i64 d.err, .int .i64 d.pos, .string d.name]
         have HZ := Lib.hid hZ
         have HY := Lib.hid hY
         clear hcell hd htk hfs hem hZ hY
         go_upto_region 30 with fail
         obtain ⟨W1, hW1⟩ : ∃ W1, wr.alloc (.cells #[.int .i64 d.err, .int .i64 d.pos, .string d.name] 31) = W1 := ⟨_, rfl⟩
         obtain ⟨db, hdb⟩ : ∃ db, wr.heap.size = db := ⟨_, rfl⟩
         rw [hW1] at hb1 hD1 ⊢
         rw [hdb] at hD1 ⊢
         have hdb1 : w.heap.size + 2 < db := by omega
         have hdb2 : db < W1.heap.size := hD1.lt
         have hZ1 := HZ.out.below hb1 hzl
         have hY1 := HY.out.below hb1 (by omega)
         have HO1 := Lib.hid (own_belowZ HOL.out hb1)
         have HB1 := Lib.hid (HBW.out.trans (hb1.mono (by omega)))
         have g0 := hD1.cell 0
         have g1 := hD1.cell 1
         have g2 := hD1.cell 2
         have m0 := hZ1.cell 0
         have m1 := hZ1.cell 1
         have m2 := hZ1.cell 2
         simp only [List.getElem?_toArray, List.getElem?_cons_zero, List.getElem?_cons_succ] at g0 g1 g2 m0 m1 m2
         have hz1 : w.heap.size + 2 < W1.heap.size := by omega
         have HZ1 := Lib.hid hZ1
         have HY1 := Lib.hid hY1
         clear hW1 hdb e0 e1 e2 hb1 hD1 hZ1 hY1
         have HDT2 : Hid (d.pos < cur.pos ∨ (d.pos = cur.pos ∧ (d.err < cur.err ∨ (d.err = cur.err ∧ d.name.data.toList < cur.name.data.toList))) → decide (cmpD d cur < 0) = true) := Lib.hid HDT.out
         have HDF2 : Hid (¬ (d.pos < cur.pos ∨ (d.pos = cur.pos ∧ (d.err < cur.err ∨ (d.err = cur.err ∧ d.name.data.toList < cur.name.data.toList)))) → decide (cmpD d cur < 0) = false) := Lib.hid HDF.out
         obtain ⟨dl, hdl⟩ : ∃ dl, decide (cmpD d cur < 0) = dl := ⟨_, rfl⟩
         rw [hdl] at HDT2 HDF2
         have HDL := Lib.hid hdl
         clear hdl HDT HDF
         go_cut [15] from 129 to 164 (fun v15 wx => v15 = .bool dl ∧ W1 = wx)
         case first =>
          have f5 := bl_iff d.name cur.name
          obtain ⟨de, dp, dn⟩ := d
          obtain ⟨ce, cp, cn⟩ := cur
          dsimp only at g0 g1 g2 m0 m1 m2 f5 HDT2 HDF2
          clear HDL
          by_cases h1 : dp < cp
          ·have f1 : decide (dp < cp) = true := decide_eq_true h1
           obtain rfl : dl = true := HDT2.out (.inl h1)
           clear HDT2 HDF2
           go_wp2
           go_meet
           case rel => exact ⟨rfl, rfl⟩
          have f1 : decide (dp < cp) = false := decide_eq_false h1
          by_cases h2 : dp = cp
          rotate_left
          ·have f2 : (dp == cp) = false := by rw [beq_eq_false_iff_ne]; exact h2
           obtain rfl : dl = false := HDF2.out (fun h => h.elim h1 (fun h => h2 h.1))
           clear HDT2 HDF2
           go_wp2
           go_meet
           case rel => exact ⟨rfl, rfl⟩
          have f2 : (dp == cp) = true := by rw [h2]; simp
          by_cases h3 : de < ce
          ·have f3 : decide (de < ce) = true := decide_eq_true h3
           obtain rfl : dl = true := HDT2.out (.inr ⟨h2, .inl h3⟩)
           clear HDT2 HDF2
           go_wp2
           go_meet
           case rel => exact ⟨rfl, rfl⟩
          have f3 : decide (de < ce) = false := decide_eq_false h3
          by_cases h4 : de = ce
          rotate_left
          ·have f4 : (de == ce) = false := by rw [beq_eq_false_iff_ne]; exact h4
           obtain rfl : dl = false := HDF2.out (fun h => h.elim h1 (fun h => h.2.elim h3 (fun h => h4 h.1)))
           clear HDT2 HDF2
           go_wp2
           go_meet
           case rel => exact ⟨rfl, rfl⟩
          have f4 : (de == ce) = true := by rw [h4]; simp
          by_cases h5 : dn.data.toList < cn.data.toList
          ·rw [decide_eq_true h5] at f5
           obtain rfl : dl = true := HDT2.out (.inr ⟨h2, .inr ⟨h4, h5⟩⟩)
           clear HDT2 HDF2
           go_wp2
           go_meet
           case rel => exact ⟨rfl, rfl⟩
          ·rw [decide_eq_false h5] at f5
           obtain rfl : dl = false := HDF2.out (fun h => h.elim h1 (fun h => h.2.elim h3 (fun h => h5 h.2)))
           clear HDT2 HDF2
           go_wp2
           go_meet
           case rel => exact ⟨rfl, rfl⟩
         case rest =>
          obtain ⟨rfl, rfl⟩ := hcut
          have hZ1 := HZ1.out
          by_cases htake : cur.err = 0 ∨ cmpD d cur < 0
          ·have HC2 : Hid (d = firstD (pre3.take (k4 + 1))) := Lib.hid (by rw [HFS.out, if_pos (htake.imp HEM.out.1 id)])
           have hZs := res3 hZ1 (.int .i64 d.err) (.int .i64 d.pos) (.string d.name)
           have hon : ∀ (V : World) (o : Nat) (v : Value), V.grownBy (V.setCell ⟨w.heap.size + 2, o, none⟩ v) (some (w.heap.size + 2)) := fun V o v => only_setCell (only_refl V (some (w.heap.size + 2))) (.inl rfl) v
           have hno : (Value.slice (some ⟨g, 0, none⟩) pre3.length c3').ownBlock ≠ some (w.heap.size + 2) := by simp [Value.ownBlock]; omega
           have HO2 := Lib.hid (((HO1.out.kept (hon _ 0 (.int .i64 d.err)) (.inr hno)).kept (hon _ 1 (.int .i64 d.pos)) (.inr hno)).kept (hon _ 2 (.string d.name)) (.inr hno))
           have hYs := ((HY1.out.far (p := ⟨w.heap.size + 2, 0, none⟩) (by dsimp only; omega) (.int .i64 d.err)).far (p := ⟨w.heap.size + 2, 1, none⟩) (by dsimp only; omega) (.int .i64 d.pos)).far (p := ⟨w.heap.size + 2, 2, none⟩) (by dsimp only; omega) (.string d.name)
           have HBs := Lib.hid (((HB1.out.setCell (p := ⟨w.heap.size + 2, 0, none⟩) (by dsimp only; omega) (.int .i64 d.err)).setCell (p := ⟨w.heap.size + 2, 1, none⟩) (by dsimp only; omega) (.int .i64 d.pos)).setCell (p := ⟨w.heap.size + 2, 2, none⟩) (by dsimp only; omega) (.string d.name))
           have n0 := hZ1.frozen 0
           have n1 := hZ1.frozen 1
           have n2 := hZ1.frozen 2
           clear hon hno
           by_cases he : cur.err = 0
           ·have hq : (cur.err == 0) = true := by rw [he]; rfl
            clear htake
            go_wp2
            go_roundw
            case rel => exact ⟨k4 + 1, d, by omega, by go_num, HC2, hZs, hYs, HO2, HBs⟩
            case measure => simp [intOf]; omega
           ·have hq : (cur.err == 0) = false := by rw [beq_eq_false_iff_ne]; exact he
            obtain rfl : dl = true := by rw [← HDL.out]; exact decide_eq_true (htake.resolve_left he)
            clear HDL HDT2 HDF2
            clear htake
            go_wp2
            go_roundw
            case rel => exact ⟨k4 + 1, d, by omega, by go_num, HC2, hZs, hYs, HO2, HBs⟩
            case measure => simp [intOf]; omega
          ·have HC2 : Hid (cur = firstD (pre3.take (k4 + 1))) := Lib.hid (by rw [HFS.out, if_neg (fun h => htake (h.imp HEM.out.2 id))])
           have hq : (cur.err == 0) = false := by rw [beq_eq_false_iff_ne]; exact fun h => htake (.inl h)
           obtain rfl : dl = false := by rw [← HDL.out]; exact decide_eq_false fun h => htake (.inr h)
           clear HDL HDT2 HDF2
           clear htake
           go_wp2
           go_roundw
           case rel => exact ⟨k4 + 1, cur, by omega, by go_num, HC2, hZ1, HY1.out, HO1, HB1⟩
           case measure => simp [intOf]; omega
        ·obtain rfl : k4 = pre3.length := by omega
         have hfin : cur = firstD (wrongR t) := by rw [HCU.out, List.take_length, HL.out]
         have HFI := Lib.hid hfin
         have HRS := Lib.hid (res3 hY (.int .i64 cur.err) (.int .i64 cur.pos) (.string cur.name))
         have HBs := Lib.hid (((HBW.out.setCell (p := ⟨w.heap.size + 1, 0, none⟩) (by dsimp only; omega) (.int .i64 cur.err)).setCell (p := ⟨w.heap.size + 1, 1, none⟩) (by dsimp only; omega) (.int .i64 cur.pos)).setCell (p := ⟨w.heap.size + 1, 2, none⟩) (by dsimp only; omega) (.string cur.name))
         have n0 := hY.frozen 0
         have n1 := hY.frozen 1
         have n2 := hY.frozen 2
         have q0 := hY.cell 0
         have q1 := hY.cell 1
         have q2 := hY.cell 2
         have m0 := hZ.cell 0
         have m1 := hZ.cell 1
         have m2 := hZ.cell 2
         simp only [List.getElem?_toArray, List.getElem?_cons_zero, List.getElem?_cons_succ] at q0 q1 q2 m0 m1 m2
         have hyl : w.heap.size + 1 < wr.heap.size := by omega
         clear hfin hY hZ
         go_wp2
         have r0 := HRS.out.cell 0
         have r1 := HRS.out.cell 1
         have r2 := HRS.out.cell 2
         simp only [List.getElem?_toArray, List.getElem?_cons_zero, List.getElem?_cons_succ] at r0 r1 r2
         refine bodyPost_ret (v := diagV cur) (by simp [results, Tryz.results36, go_sem, r0, r1, r2]) rfl ?_
         exact ⟨by rw [← HFI.out], HBs.out⟩
end Go.Proofs.YtjbdgjbmbohfmaaGreatDoor

namespace Go.Proofs.YtjbdgjbmbohfmaaGreatDoor
open Go Go.Proofs Go.RowKit

attribute [local go_sem ↓] Go.wp_at_zero Go.wp_at_succ

theorem blk_onS {W w' : World} {g : Nat} {t : TypeId} {cs : Array Value} (hb : Below W.heap.size W w') (h : Blk W g t cs) : Blk w' g t cs := h.below hb h.lt
theorem below_onS {a W w' : World} (h : Below a.heap.size a W) (k : Below W.heap.size W w') : Below a.heap.size a w' := h.trans (k.mono h.size)
/-- What the first statement behind the tests has laid: what Check finds, and the free names. -/
def LaidC (t : TreeD) (w2 : World) (v3 v4 : Value) (W : World) : Prop :=
 ∃ (Bd : Nat) (ns : List ByteArray), v3 = .pointer (some ⟨Bd, 0, none⟩) ∧ w2.heap.size ≤ Bd ∧ Blk W Bd 31 #[.int .i64 (foundD t).err, .int .i64 (foundD t).pos, .string (foundD t).name] ∧ W.ownsRow w2.heap.size 9 1 v4 ns.length (ns.map .string) ∧ Rise ns ∧ (∀ s, s ∈ ns ↔ checkF t = true ∧ s ∈ freeL t t.nodes.length (t.nodes.length - 1) []) ∧ Below w2.heap.size w2 W
theorem LaidC.end1 {t : TreeD} {w2 W : World} {ns : List ByteArray} {v4 : Value} (hO : W.ownsRow w2.heap.size 9 1 v4 ns.length (ns.map .string)) (hR : Rise ns) (hM : ∀ s, s ∈ ns ↔ checkF t = true ∧ s ∈ freeL t t.nodes.length (t.nodes.length - 1) []) (hb : Below w2.heap.size w2 W) :
 LaidC t w2 (.pointer (some ⟨W.heap.size, 0, none⟩)) v4 (W.alloc (.cells #[.int .i64 (foundD t).err, .int .i64 (foundD t).pos, .string (foundD t).name] 31)) :=
 ⟨W.heap.size, ns, rfl, hb.size, Blk.new _ _ _, hO.alloc _, hR, hM, hb.alloc hb.size _⟩
theorem LaidC.end2 {t : TreeD} {w2 W : World} {ns : List ByteArray} {v4 : Value} {Bd : Nat} {a b c : Value} (hO : W.ownsRow w2.heap.size 9 1 v4 ns.length (ns.map .string)) (hR : Rise ns) (hM : ∀ s, s ∈ ns ↔ checkF t = true ∧ s ∈ freeL t t.nodes.length (t.nodes.length - 1) []) (hb : Below w2.heap.size w2 W)
 (hB : Blk W Bd 31 #[a, b, c]) (hn : w2.heap.size ≤ Bd) :
 LaidC t w2 (.pointer (some ⟨Bd, 0, none⟩)) v4 (((W.setCell ⟨Bd, 0, none⟩ (.int .i64 (foundD t).err)).setCell ⟨Bd, 1, none⟩ (.int .i64 (foundD t).pos)).setCell ⟨Bd, 2, none⟩ (.string (foundD t).name)) := by
 have hne : v4.ownBlock ≠ some Bd := own_blk_ne hO hB (by decide)
 have hon : ∀ (V : World) (o : Nat) (v : Value), V.grownBy (V.setCell ⟨Bd, o, none⟩ v) (some Bd) := fun V o v => only_setCell (only_refl V (some Bd)) (.inl rfl) v
 exact ⟨Bd, ns, rfl, hn, res3 hB _ _ _, ((hO.kept (hon _ 0 _) (.inr hne)).kept (hon _ 1 _) (.inr hne)).kept (hon _ 2 _) (.inr hne), hR, hM, ((hb.setCell (p := ⟨Bd, 0, none⟩) hn _).setCell (p := ⟨Bd, 1, none⟩) hn _).setCell (p := ⟨Bd, 2, none⟩) hn _⟩

theorem law_boxC (t : TreeD) (p : Ptr6) (w W0 w1 : World) (hX0 : Blk W0 w.heap.size 28 #[.slice p.a1 t.nodes.length p.c1, .slice p.a2 t.types.length p.c2, .slice p.a3 t.aliases.length p.c3]) (hb : Below W0.heap.size W0 w1) :
 w1.cell? ⟨w.heap.size, 0, none⟩ = some (.slice p.a1 t.nodes.length p.c1) ∧ w1.cell? ⟨w.heap.size, 1, none⟩ = some (.slice p.a2 t.types.length p.c2) ∧ w1.cell? ⟨w.heap.size, 2, none⟩ = some (.slice p.a3 t.aliases.length p.c3) := by
 have hX1 := hX0.below hb hX0.lt
 have x0 := hX1.cell 0
 have x1 := hX1.cell 1
 have x2 := hX1.cell 2
 simp only [List.getElem?_toArray, List.getElem?_cons_zero, List.getElem?_cons_succ] at x0 x1 x2
 exact ⟨x0, x1, x2⟩

set_option maxRecDepth 100000 in
set_option maxHeartbeats 16000000 in
theorem law11_any (t : TreeD) (p : Ptr6) (w : World) (hE : Env w) (hT : TreeAt (Lt w.heap.size) w t p) (b1 : t.nodes.length ≤ 9223372036854775807) (b2 : t.types.length ≤ 9223372036854775807) (b3 : t.aliases.length ≤ 9223372036854775807) (hI : ∀ x ∈ t.nodes, x.int ≤ 9223372036854775807) :
 Calls Tryz.prog 11 #[treeV t p] w fun e w' => e = .returned (.bool true) ∧ Below w.heap.size w w' := by
 obtain ⟨W0, hW0⟩ : ∃ W0, w.alloc (.cells #[.slice p.a1 t.nodes.length p.c1, .slice p.a2 t.types.length p.c2, .slice p.a3 t.aliases.length p.c3] 28) = W0 := ⟨_, rfl⟩
 obtain ⟨hb0, hX0, hT0⟩ := box_tree t p w W0 hT hW0
 have cL := lives_any W0 (hE.on hb0)
 have HE0 := Lib.hid (hE.on hb0)
 have HX0 := Lib.hid hX0
 have HB0 := Lib.hid hb0
 have HT0 := Lib.hid hT0
 have HI := Lib.hid hI
 clear hb0 hT0 hT hE hI hX0
 go_enter Tryz.func11, Tryz.ntmps11
 go_wp2_with fail
 refine cL.mono ?_
 rintro e w1 ⟨rfl, hb1⟩
 clear hW0 cL
 obtain ⟨x0, x1, x2⟩ := law_boxC t p w W0 w1 HX0.out hb1
 have HB1 := Lib.hid hb1
 have HT1 := Lib.hid (tree_onZ HT0.out hb1)
 have cF := few_any t p w1 HT1.out b1 b2 b3
 clear hb1
 cases hf : fewB t with
 | false =>
  rw [hf] at cF
  clear hf
  go_wp2_with fail
  refine cF.mono ?_
  rintro e w2 ⟨rfl, hb2⟩
  have HB2 := Lib.hid (HB1.out.trans (hb2.mono HB1.out.size))
  have cL2 := lives_any w2 (HE0.out.on HB2.out)
  clear hb2 x0 x1 x2
  go_wp2_with fail
  refine cL2.mono ?_
  rintro e w3 ⟨rfl, hb3⟩
  have HB3 := Lib.hid (HB0.out.trans ((HB2.out.trans (hb3.mono HB2.out.size)).mono HB0.out.size))
  clear hb3 cL2
  go_wp2_with fail
  go_ret
  exact ⟨rfl, HB3.out⟩
 | true =>
 rw [hf] at cF
 have HF := Lib.hid (few_of hf)
 clear hf
 go_wp2_with fail
 refine cF.mono ?_
 rintro e w2 ⟨rfl, hb2⟩
 have HB2 := Lib.hid (HB1.out.trans (hb2.mono HB1.out.size))
 have HT2 := Lib.hid (tree_onZ HT1.out hb2)
 clear hb2 x0 x1 x2 cF
 obtain ⟨x0, x1, x2⟩ := law_boxC t p w W0 w2 HX0.out HB2.out
 have hwl2 : w.heap.size < w2.heap.size := Nat.lt_of_lt_of_le HX0.out.lt HB2.out.size
 have HCC : Hid (∀ W, Below w2.heap.size w2 W → Calls Tryz.prog 34 #[treeV t p] W fun e w' => e = .returned (diagV (foundD t)) ∧ Below W.heap.size W w') := Lib.hid fun W hb => scheck_any t p W (env4_of (HE0.out.on (HB2.out.trans (hb.mono HB2.out.size)))) (tree_onZ HT2.out hb) HF.out
 have HCF : Hid (∀ W, Below w2.heap.size w2 W → Calls Tryz.prog 35 #[treeV t p] W (FreePost (fun s => checkF t = true ∧ s ∈ freeL t t.nodes.length (t.nodes.length - 1) []) W)) := Lib.hid fun W hb => free_any t p W (env4_of (HE0.out.on (HB2.out.trans (hb.mono HB2.out.size)))) (tree_onZ HT2.out hb) HF.out
 go_wp2_with fail
 go_cut [3, 4] from 5 (fun v3 v4 wx => LaidC t w2 v3 v4 wx)
 case first =>
  have HSO := Lib.hid (show ∀ W, Below w2.heap.size w2 W → (W.cell? ⟨w.heap.size, 0, none⟩ = some (.slice p.a1 t.nodes.length p.c1) ∧ W.cell? ⟨w.heap.size, 1, none⟩ = some (.slice p.a2 t.types.length p.c2) ∧ W.cell? ⟨w.heap.size, 2, none⟩ = some (.slice p.a3 t.aliases.length p.c3) ∧ Below w2.heap.size w2 W) from fun W hb => ⟨(hb.cell (p := ⟨w.heap.size, 0, none⟩) hwl2).trans x0, (hb.cell (p := ⟨w.heap.size, 1, none⟩) hwl2).trans x1, (hb.cell (p := ⟨w.heap.size, 2, none⟩) hwl2).trans x2, hb⟩)
  clear x0 x1 x2
  have hS0 := Below.refl w2.heap.size w2
  go_region_held3 (fun W => W.cell? ⟨w.heap.size, 0, none⟩ = some (.slice p.a1 t.nodes.length p.c1) ∧ W.cell? ⟨w.heap.size, 1, none⟩ = some (.slice p.a2 t.types.length p.c2) ∧ W.cell? ⟨w.heap.size, 2, none⟩ = some (.slice p.a3 t.aliases.length p.c3) ∧ Below w2.heap.size w2 W) (exact HSO.out _ (by repeat (first | with_reducible exact bel6 | with_reducible exact bel5 | with_reducible exact hS0 | with_reducible refine below_alS ?_ _ | with_reducible refine Below.drew ?_ | (with_reducible refine Below.setCell ?_ ?_ _) | (dsimp only; omega))))
   (first
    | (go_at_call 34; refine (HCC.out _ (by repeat (first | with_reducible exact bel6 | with_reducible exact bel5 | with_reducible exact hS0 | with_reducible refine below_alS ?_ _ | with_reducible refine Below.drew ?_ | (with_reducible refine Below.setCell ?_ ?_ _) | (dsimp only; omega)))).mono ?_; rintro e w5 ⟨rfl, hb5⟩; have bel5 : Below w2.heap.size w2 w5 := below_onS (by repeat (first | with_reducible exact bel6 | with_reducible exact bel5 | with_reducible exact hS0 | with_reducible refine below_alS ?_ _ | with_reducible refine Below.drew ?_ | (with_reducible refine Below.setCell ?_ ?_ _) | (dsimp only; omega))) hb5; have H5 := Lib.hid hb5; have hz5 := bel5.size; (try have hbx : Blk w5 w2.heap.size 31 #[.int .i64 0, .int .i64 0, .string ⟨#[]⟩] := blk_onS hb5 (by first | exact blkS_new _ _ _ _ (by simp) | exact Blk.drew (blkS_new _ _ _ _ (by simp)) | exact blkS_new _ _ _ _ rfl)); clear hb5)
    | (go_at_call 35; refine (HCF.out _ (by repeat (first | with_reducible exact bel6 | with_reducible exact bel5 | with_reducible exact hS0 | with_reducible refine below_alS ?_ _ | with_reducible refine Below.drew ?_ | (with_reducible refine Below.setCell ?_ ?_ _) | (dsimp only; omega)))).mono ?_; rintro e w6 ⟨v6, ns, rfl, hO6, hR6, hM6, hb6⟩; have bel6 : Below w2.heap.size w2 w6 := below_onS (by repeat (first | with_reducible exact bel6 | with_reducible exact bel5 | with_reducible exact hS0 | with_reducible refine below_alS ?_ _ | with_reducible refine Below.drew ?_ | (with_reducible refine Below.setCell ?_ ?_ _) | (dsimp only; omega))) hb6; have HO6 := Lib.hid (own_baseZ hO6 (base' := w2.heap.size) (show Below w2.heap.size w2 _ from (by repeat (first | with_reducible exact bel6 | with_reducible exact bel5 | with_reducible exact hS0 | with_reducible refine below_alS ?_ _ | with_reducible refine Below.drew ?_ | (with_reducible refine Below.setCell ?_ ?_ _) | (dsimp only; omega)))).size); have H6 := Lib.hid hb6; have hz6 := hb6.size; have HR6 := Lib.hid hR6; have HM6 := Lib.hid hM6; (try (first | (have hby : Blk w6 w2.heap.size 31 #[.int .i64 0, .int .i64 0, .string ⟨#[]⟩] := blk_onS hb6 (by first | exact hbx | exact Blk.drew hbx); have HBY := Lib.hid hby; have k0 := hby.cell 0; have k1 := hby.cell 1; have k2 := hby.cell 2; have m0 := hby.frozen 0; have m1 := hby.frozen 1; have m2 := hby.frozen 2; simp only [List.getElem?_toArray, List.getElem?_cons_zero, List.getElem?_cons_succ] at k0 k1 k2; clear hby hbx) | (have hby : Blk w6 w5.heap.size 31 #[.int .i64 0, .int .i64 0, .string ⟨#[]⟩] := blk_onS hb6 (by first | exact blkS_new _ _ _ _ rfl | exact Blk.drew (blkS_new _ _ _ _ rfl)); have HBY := Lib.hid hby; have k0 := hby.cell 0; have k1 := hby.cell 1; have k2 := hby.cell 2; have m0 := hby.frozen 0; have m1 := hby.frozen 1; have m2 := hby.frozen 2; simp only [List.getElem?_toArray, List.getElem?_cons_zero, List.getElem?_cons_succ] at k0 k1 k2; clear hby))); clear hb6 hO6 hR6 hM6))
  all_goals
   go_wp2_with fail
   go_meet
   case rel => first | exact LaidC.end1 HO6.out HR6.out HM6.out bel6 | exact LaidC.end2 HO6.out HR6.out HM6.out bel6 HBY.out (by omega)
 case rest =>
 obtain ⟨Bd, ns, rfl, hBd, hD, hON, hRN, hMN, hbc⟩ := hcut
 have HBc := Lib.hid (HB2.out.trans (hbc.mono HB2.out.size))
 have HTc := Lib.hid (tree_onZ HT2.out hbc)
 have hdl := hD.lt
 have HD := Lib.hid hD
 have hns : ns.length ≤ 1000 := Nat.le_trans (free_len hRN fun s hs => ((hMN s).1 hs).2) HF.out.2.2.2.2.1
 obtain ⟨An, cn, rfl⟩ := own_sliceZ hON
 have HON' := Lib.hid hON
 have HRN := Lib.hid hRN
 have HMN' := Lib.hid hMN
 obtain ⟨x0, x1, x2⟩ := law_boxC t p w W0 wc HX0.out HBc.out
 have cR := right_any t p wc HTc.out HF.out HI.out
 clear hD hON hRN hMN hbc HCC HCF
 cases hc : checkF t with
 | false =>
  rw [hc] at cR
  have hfd : foundD t = ⟨14, 0, noName⟩ := by unfold foundD; rw [hc]; rfl
  have hnn : ns.length = 0 := by
   cases ns with
   | nil => rfl
   | cons a r => exact absurd ((HMN'.out a).1 (by simp)).1 (by rw [hc]; decide)
  rw [hfd] at HD
  clear hc hfd
  go_wp2_with fail
  refine cR.mono ?_
  rintro e w4 ⟨rfl, hb4⟩
  have hD4 := HD.out.below hb4 hdl
  have q0 := hD4.cell 0
  have q1 := hD4.cell 1
  have q2 := hD4.cell 2
  simp only [List.getElem?_toArray, List.getElem?_cons_zero, List.getElem?_cons_succ] at q0 q1 q2
  change w4.cell? ⟨Bd, 2, none⟩ = some (.string ⟨#[]⟩) at q2
  change w4.cell? ⟨Bd, 1, none⟩ = some (.int .i64 0) at q1
  change w4.cell? ⟨Bd, 0, none⟩ = some (.int .i64 14) at q0
  have HB4 := Lib.hid (HB0.out.trans ((HBc.out.trans (hb4.mono HBc.out.size)).mono HB0.out.size))
  have hq : ((ns.length : Int) == 0) = true := by rw [hnn]; rfl
  clear hb4 hD4 x0 x1 x2 cR hnn hns
  go_wp2_with fail
  go_ret
  exact ⟨rfl, HB4.out⟩
 | true =>
 rw [hc] at cR
 have hfd : foundD t = firstD (wrongR t) := by unfold foundD; rw [hc]; rfl
 rw [hfd] at HD
 obtain ⟨D, hDD⟩ : ∃ D, firstD (wrongR t) = D := ⟨_, rfl⟩
 rw [hDD] at HD
 have HDD := Lib.hid hDD
 have HWH := Lib.hid ((checkF_iff t).1 hc)
 have HMN : Hid (∀ s, s ∈ ns ↔ s ∈ freeL t t.nodes.length (t.nodes.length - 1) []) := Lib.hid fun s => (HMN'.out s).trans ⟨fun h => h.2, fun h => ⟨hc, h⟩⟩
 clear hc hfd hDD
 go_wp2_with fail
 refine cR.mono ?_
 rintro e w4 ⟨rfl, hb4⟩
 have hD4 := HD.out.below hb4 hdl
 have q0 := hD4.cell 0
 have q1 := hD4.cell 1
 have q2 := hD4.cell 2
 simp only [List.getElem?_toArray, List.getElem?_cons_zero, List.getElem?_cons_succ] at q0 q1 q2
 have hz4 := hb4.size
 have HB4 := Lib.hid (HBc.out.trans (hb4.mono HBc.out.size))
 have HBw := Lib.hid (HB0.out.trans (HB4.out.mono HB0.out.size))
 have HT4 := Lib.hid (tree_onZ HTc.out hb4)
 have HON := Lib.hid (own_belowZ HON'.out hb4)
 clear hb4 hD4 x0 x1 x2 cR HON' HMN' HD
 obtain ⟨x0, x1, x2⟩ := law_boxC t p w W0 w4 HX0.out HB4.out
 have hwl : w.heap.size < w4.heap.size := Nat.lt_of_lt_of_le HX0.out.lt HB4.out.size
 have hdl : Bd < w4.heap.size := by omega
 have hsub : IntKind.i64.wrap ((t.nodes.length : Int) - 1) = ((t.nodes.length - 1 : Nat) : Int) := by
  have := HWH.out.rng.one
  have := HF.out.2.2.2.2.1
  unfold IntKind.wrap
  simp [IntKind.bits, IntKind.signed]
  omega
 have HCK : Hid (∀ W, Below w4.heap.size w4 W → Calls Tryz.prog 36 #[treeV t p] W fun e w' => e = .returned (diagV D) ∧ Below W.heap.size W w') := Lib.hid fun W hb => by rw [← HDD.out]; exact rcheck_any t p W (tree_onZ HT4.out hb) HWH.out.rng HF.out
 have HCF : Hid (∀ W, Below w4.heap.size w4 W → Calls Tryz.prog 38 #[treeV t p, .int .i64 ((t.nodes.length - 1 : Nat) : Int)] W (InsPost W.heap.size (fun s => s ∈ freeL t t.nodes.length (t.nodes.length - 1) []) t.nodes.length W)) := Lib.hid fun W hb => rfree_any t p HWH.out.rng HF.out t.nodes.length (t.nodes.length - 1) (by have := HWH.out.rng.one; omega) (by have := HWH.out.rng.one; omega) W (tree_onZ HT4.out hb)
 have hnl : t.nodes.length ≤ 1000 := HF.out.2.2.2.2.1
 go_wp2_with fail
 have HSO := Lib.hid (show ∀ W, Below w4.heap.size w4 W → (W.cell? ⟨w.heap.size, 0, none⟩ = some (.slice p.a1 t.nodes.length p.c1) ∧ W.cell? ⟨w.heap.size, 1, none⟩ = some (.slice p.a2 t.types.length p.c2) ∧ W.cell? ⟨w.heap.size, 2, none⟩ = some (.slice p.a3 t.aliases.length p.c3) ∧ W.cell? ⟨Bd, 0, none⟩ = some (.int .i64 D.err) ∧ W.cell? ⟨Bd, 1, none⟩ = some (.int .i64 D.pos) ∧ W.cell? ⟨Bd, 2, none⟩ = some (.string D.name) ∧ Below w4.heap.size w4 W) from fun W hb => ⟨(hb.cell (p := ⟨w.heap.size, 0, none⟩) hwl).trans x0, (hb.cell (p := ⟨w.heap.size, 1, none⟩) hwl).trans x1, (hb.cell (p := ⟨w.heap.size, 2, none⟩) hwl).trans x2, (hb.cell (p := ⟨Bd, 0, none⟩) hdl).trans q0, (hb.cell (p := ⟨Bd, 1, none⟩) hdl).trans q1, (hb.cell (p := ⟨Bd, 2, none⟩) hdl).trans q2, hb⟩)
 clear x0 x1 x2 q0 q1 q2
 refine wp_region_heldG (S := fun W => W.cell? ⟨w.heap.size, 0, none⟩ = some (.slice p.a1 t.nodes.length p.c1) ∧ W.cell? ⟨w.heap.size, 1, none⟩ = some (.slice p.a2 t.types.length p.c2) ∧ W.cell? ⟨w.heap.size, 2, none⟩ = some (.slice p.a3 t.aliases.length p.c3) ∧ W.cell? ⟨Bd, 0, none⟩ = some (.int .i64 D.err) ∧ W.cell? ⟨Bd, 1, none⟩ = some (.int .i64 D.pos) ∧ W.cell? ⟨Bd, 2, none⟩ = some (.string D.name) ∧ Below w4.heap.size w4 W) (fun _ => false) (by kernel_rfl) (HSO.out _ (Below.refl _ w4).drew) (fun hHeld => ?_)
 refine tkG 0 ?_
 try simp only [Act.put, List.setIfInBounds_toArray, List.set_cons_zero, List.set_cons_succ]
 refine tkG 1 ?_
 try simp only [Act.put, List.setIfInBounds_toArray, List.set_cons_zero, List.set_cons_succ]
 refine rdG 2 (fun K hK => ?_)
 go_simp
 refine (HCK.out _ (Below.refl _ w4).drew).mono ?_
 rintro e w5 ⟨rfl, hb5⟩
 have hb5' : Below w4.heap.size w4 w5 := (Below.refl _ w4).drew.trans hb5
 dsimp only
 refine hK.out _ _ (HSO.out _ hb5') (fun hHeld => ?_)
 clear hK K 
 try simp only [Act.put, List.setIfInBounds_toArray, List.set_cons_zero, List.set_cons_succ]
 have hHeld := HSO.out _ hb5'
 refine tkG 3 ?_
 try simp only [Act.put, List.setIfInBounds_toArray, List.set_cons_zero, List.set_cons_succ]
 refine tkG 4 ?_
 try simp only [Act.put, List.setIfInBounds_toArray, List.set_cons_zero, List.set_cons_succ]
 refine tkG 5 ?_
 try simp only [Act.put, List.setIfInBounds_toArray, List.set_cons_zero, List.set_cons_succ]
 refine tkG 6 ?_
 try simp only [Act.put, List.setIfInBounds_toArray, List.set_cons_zero, List.set_cons_succ]
 refine tkG 7 ?_
 try simp only [Act.put, List.setIfInBounds_toArray, List.set_cons_zero, List.set_cons_succ]
 refine tkG 8 ?_
 try simp only [Act.put, List.setIfInBounds_toArray, List.set_cons_zero, List.set_cons_succ]
 refine tkG 9 ?_
 try simp only [Act.put, List.setIfInBounds_toArray, List.set_cons_zero, List.set_cons_succ]
 refine tkG 10 ?_
 try simp only [Act.put, List.setIfInBounds_toArray, List.set_cons_zero, List.set_cons_succ]
 refine rdG 11 (fun K hK => ?_)
 go_simp
 refine (HCF.out _ hb5').mono ?_
 rintro e w6 ⟨v6, ms, rfl, hO6, hR6, hM6, hl6, hb6⟩
 have hb6' : Below w4.heap.size w4 w6 := hb5'.trans (hb6.mono hb5'.size)
 dsimp only
 refine hK.out _ _ (HSO.out _ hb6') (fun hHeld => ?_)
 clear hK K 
 try simp only [Act.put, List.setIfInBounds_toArray, List.set_cons_zero, List.set_cons_succ]
 refine rdG 12 (fun K hK => ?_)
 go_simp
 obtain ⟨A6, c6, rfl⟩ := own_sliceZ hO6
 have hO4 := own_belowZ HON.out hb6'
 have hS := lsame_any An A6 cn c6 ns ms w6 (own_rd hO4) (own_rd hO6) (by omega) (by omega)
 have hns : ns = ms := rise_eq HRN.out hR6 fun s => by rw [hM6]; exact HMN.out s
 rw [decide_eq_true hns] at hS
 refine hS.mono ?_
 rintro e w7 ⟨rfl, hb7⟩
 have hb7' : Below w4.heap.size w4 w7 := hb6'.trans (hb7.mono hb6'.size)
 dsimp only
 refine hK.out _ _ (HSO.out _ hb7') (fun hHeld => ?_)
 clear hK K 
 try simp only [Act.put, List.setIfInBounds_toArray, List.set_cons_zero, List.set_cons_succ]
 have hHeld := HSO.out _ hb7'
 refine tkG 13 ?_
 try simp only [Act.put, List.setIfInBounds_toArray, List.set_cons_zero, List.set_cons_succ]
 refine tkG 14 ?_
 try simp only [Act.put, List.setIfInBounds_toArray, List.set_cons_zero, List.set_cons_succ]
 clear hHeld
 refine wpAnyG_done (by kernel_rfl) ?_ _
 go_wp2
 go_ret
 exact ⟨rfl, HBw.out.trans (hb7'.mono HBw.out.size)⟩
end Go.Proofs.YtjbdgjbmbohfmaaGreatDoor

