/- The law ScopeFree, at every tree and at every name: what is free in a tree with a function put around it. -/
import Derived.Test.YtjbdgjbmbohfmaaGreatDoorK38
import Derived.Test.YtjbdgjbmbohfmaaGreatDoorK51
import Derived.Deep.Slices
import Derived.OpenShut
import Derived.OrdersHeld
import Derived.Deep.RegionHeld3
import Derived.Deep.DrawnRows
import Derived.Deep.QuietTactic
import Derived.BigQuiet
import Derived.LoopTactic
import Derived.Deep.RegionLaw
import Derived.Deep.Cut
import Derived.IntWalk
namespace Go.Proofs.YtjbdgjbmbohfmaaGreatDoor
open Go Go.Proofs Go.RowKit Go.Deep
theorem cells3 : Tryz.prog.cellsOf 3 = 1 := by kernel_rfl
theorem cells2 : Tryz.prog.cellsOf 2 = 1 := by kernel_rfl
theorem cells4 : Tryz.prog.cellsOf 4 = 1 := by kernel_rfl
theorem cells9 : Tryz.prog.cellsOf 9 = 1 := by kernel_rfl
theorem cells30 : Tryz.prog.cellsOf 58 = 1 := by kernel_rfl
theorem cells31 : Tryz.prog.cellsOf 48 = 1 := by kernel_rfl
theorem cells29 : Tryz.prog.cellsOf 49 = 1 := by kernel_rfl
theorem cells22 : Tryz.prog.cellsOf 24 = 1 := by kernel_rfl
theorem cells23 : Tryz.prog.cellsOf 25 = 1 := by kernel_rfl
theorem cells24 : Tryz.prog.cellsOf 26 = 1 := by kernel_rfl
theorem cells33 : Tryz.prog.cellsOf 60 = 8 := by kernel_rfl
theorem cells47 : Tryz.prog.cellsOf 51 = 6 := by kernel_rfl
theorem cells52 : Tryz.prog.cellsOf 77 = 3 := by kernel_rfl
theorem cells26 : Tryz.prog.cellsOf 28 = 3 := by kernel_rfl

theorem len_cons {α : Type} {l : List α} {n : Nat} (h : l.length = n + 1) : ∃ a l', l = a :: l' ∧ l'.length = n := by
  cases l with
  | nil => simp at h
  | cons a l => exact ⟨a, l, rfl, by simpa using h⟩

section
variable {H : Type} {enc : TypeId × Value → H} {W : World} {base : Nat} {spare : Nat → Bool} {held : Bool}

theorem spot_of_cell {w : World} {a : Addr} {v : Value} (h : w.cell? a = some v) : a = ⟨a.block, a.off, none⟩ := by
  obtain ⟨b, o, s⟩ := a
  cases s with
  | none => rfl
  | some s =>
    exfalso
    unfold World.cell? at h
    split at h
    · simp at h
    · cases h

/-- A slice of elements of one cell, each of one kind. -/
theorem open_row1 {α : Type} {t e : TypeId} (f : α → Value) (ht : Tryz.prog.underlying t = some (.slice e)) (hc : Tryz.prog.cellsOf e = 1) (hf : ∀ n v x, DataW.trod enc Tryz.prog W base spare held n e [v] = some x → ∃ a, v = f a)
    {fuel : Nat} {c : Value} {x : DataW H × List MemPlace} (h : DataW.trod enc Tryz.prog W base spare held fuel t [c] = some x) :
    ∃ A cap, ∃ l : List α, c = .slice A l.length cap ∧ l.length ≤ maxLen ∧ SlAt (Lt W.heap.size) W A l.length (l.map f) := by
  rcases open_slice1 ht hc h with ⟨h0, _⟩ | ⟨a, len, cap, m, n, V, D, Pl, h0, hb, hl, hm, hmm, _, hx⟩
  · injection h0 with h0 _
    subst h0
    exact ⟨none, 0, [], rfl, by simp, SlAt.nil⟩
  · injection h0 with h0 _
    subst h0
    have hle : len ≤ m := by rw [hmm]; split <;> omega
    have key : ∀ k, k ≤ len → ∃ l : List α, l.length = k ∧ ∀ j u, (l.map f)[j]? = some u → W.cell? (a.add j) = some u := by
      intro k
      induction k with
      | zero => exact fun _ => ⟨[], rfl, fun j u hu => by simp at hu⟩
      | succ k ih =>
        intro hk
        obtain ⟨l, hll, hlc⟩ := ih (by omega)
        obtain ⟨h1, h2⟩ := hx k (by omega)
        obtain ⟨y, hy⟩ := hf _ _ _ h2
        refine ⟨l ++ [y], by simp [hll], fun j u hu => ?_⟩
        rw [List.map_append] at hu
        by_cases hj : j < l.length
        · rw [List.getElem?_append_left (by simpa using hj)] at hu
          exact hlc j u hu
        · rw [List.getElem?_append_right (by simp; omega)] at hu
          simp only [List.length_map, List.map_cons, List.map_nil] at hu
          have hj0 : j = k := by
            have := (List.getElem?_eq_some_iff.1 hu).1
            simp at this
            omega
          subst hj0
          rw [hll, Nat.sub_self] at hu
          simp only [List.getElem?_cons_zero, Option.some.injEq] at hu
          rw [h1, hy, hu]
    obtain ⟨l, hll, hlc⟩ := key len (Nat.le_refl _)
    subst hll
    refine ⟨some a, cap, l, rfl, by omega, by simp, fun hn => ?_⟩
    have h0 := hlc 0 (f l[0]) (by simp [hn])
    have hsp := spot_of_cell (hx 0 (by omega)).1
    have e0 : a.add 0 = a := rfl
    rw [e0] at h0 hsp
    obtain ⟨b, off, s⟩ := a
    simp only [Addr.mk.injEq, true_and] at hsp
    subst hsp
    refine ⟨b, off, rfl, block_lt_of_cell h0, fun j u hu => ?_⟩
    have := hlc j u hu
    unfold Addr.add at this
    split at this
    · rename_i hj; subst hj; exact this
    · exact this

theorem open_ints29 {fuel : Nat} {c : Value} {x : DataW H × List MemPlace} (h : DataW.trod enc Tryz.prog W base spare held fuel 49 [c] = some x) :
    ∃ A cap, ∃ l : List Int, c = .slice A l.length cap ∧ l.length ≤ maxLen ∧ SlAt (Lt W.heap.size) W A l.length (l.map iv) :=
  open_row1 iv Tryz.underlying49 cells3 (fun n v x hx => by
    obtain ⟨k, hk, _⟩ := DataW.trod_int Tryz.underlying3 hx
    injection hk with hk _
    exact ⟨k, hk⟩) h
theorem open_strs31 {fuel : Nat} {c : Value} {x : DataW H × List MemPlace} (h : DataW.trod enc Tryz.prog W base spare held fuel 48 [c] = some x) :
    ∃ A cap, ∃ l : List ByteArray, c = .slice A l.length cap ∧ l.length ≤ maxLen ∧ SlAt (Lt W.heap.size) W A l.length (l.map .string) :=
  open_row1 .string Tryz.underlying48 cells9 (fun n v x hx => by
    obtain ⟨k, hk, _⟩ := DataW.trod_string Tryz.underlying9 hx
    injection hk with hk _
    exact ⟨k, hk⟩) h

theorem fld {fs : Array Field} {xs : List (DataW H × List MemPlace)} {n : Nat} {cs : List Value} (hf : ∀ (i : Nat) (f : Field), fs[i]? = some f → DataW.trod enc Tryz.prog W base spare held n f.type ((cs.drop f.offset).take (Tryz.prog.cellsOf f.type)) = xs[i]?)
    (i T o : Nat) {f : Field} (h1 : fs[i]? = some f) (h2 : f.type = T) (h3 : f.offset = o) (hc : Tryz.prog.cellsOf T = 1) {y : DataW H × List MemPlace} (hy : xs[i]? = some y) : DataW.trod enc Tryz.prog W base spare held n T ((cs.drop o).take 1) = some y := by
  have := hf i f h1
  rw [h2, h3, hc] at this
  exact this.trans hy

theorem open_term {fuel : Nat} {cs : List Value} {x : DataW H × List MemPlace} (h : DataW.trod enc Tryz.prog W base spare held fuel 60 cs = some x) : ∃ t p, TermOk (Lt W.heap.size) W t p ∧ t.int ≤ 9223372036854775807 ∧ cs = termCells t p := by
  obtain ⟨xs, n, _, _, hl, hxl, hf⟩ := DataW.trod_struct Tryz.underlying60 h
  rw [cells33] at hl
  obtain ⟨v0, cs0, rfl, hh0⟩ := len_cons hl
  obtain ⟨v1, cs1, rfl, hh1⟩ := len_cons hh0
  obtain ⟨v2, cs2, rfl, hh2⟩ := len_cons hh1
  obtain ⟨v3, cs3, rfl, hh3⟩ := len_cons hh2
  obtain ⟨v4, cs4, rfl, hh4⟩ := len_cons hh3
  obtain ⟨v5, cs5, rfl, hh5⟩ := len_cons hh4
  obtain ⟨v6, cs6, rfl, hh6⟩ := len_cons hh5
  obtain ⟨v7, cs7, rfl, hh7⟩ := len_cons hh6
  obtain rfl : cs7 = [] := List.length_eq_zero_iff.1 hh7
  have get : ∀ i, i < 8 → ∃ y, xs[i]? = some y := fun i hi => ⟨xs[i]'(by rw [hxl]; exact hi), List.getElem?_eq_getElem _⟩
  obtain ⟨y0, h0⟩ := get 0 (by omega)
  obtain ⟨y1, h1⟩ := get 1 (by omega)
  obtain ⟨y2, h2⟩ := get 2 (by omega)
  obtain ⟨y3, h3⟩ := get 3 (by omega)
  obtain ⟨y4, h4⟩ := get 4 (by omega)
  obtain ⟨y5, h5⟩ := get 5 (by omega)
  obtain ⟨y6, h6⟩ := get 6 (by omega)
  obtain ⟨y7, h7⟩ := get 7 (by omega)
  have g0 := fld hf 0 3 0 rfl rfl rfl cells3 h0
  have g1 := fld hf 1 3 1 rfl rfl rfl cells3 h1
  have g2 := fld hf 2 9 2 rfl rfl rfl cells9 h2
  have g3 := fld hf 3 2 3 rfl rfl rfl cells2 h3
  have g4 := fld hf 4 58 4 rfl rfl rfl cells30 h4
  have g5 := fld hf 5 48 5 rfl rfl rfl cells31 h5
  have g6 := fld hf 6 49 6 rfl rfl rfl cells29 h6
  have g7 := fld hf 7 49 7 rfl rfl rfl cells29 h7
  simp only [List.drop_zero, List.drop_succ_cons, List.take_succ_cons, List.take_zero] at g0 g1 g2 g3 g4 g5 g6 g7
  obtain ⟨k0, e0, _⟩ := DataW.trod_int Tryz.underlying3 g0
  obtain ⟨k1, e1, _⟩ := DataW.trod_int Tryz.underlying3 g1
  obtain ⟨k2, e2, _⟩ := DataW.trod_string Tryz.underlying9 g2
  obtain ⟨k3, e3, _, w3⟩ := DataW.trod_int Tryz.underlying2 g3
  obtain ⟨k4, e4, _, w4⟩ := DataW.trod_int Tryz.underlying58 g4
  obtain ⟨a5, c5, l5, e5, _, s5⟩ := open_strs31 g5
  obtain ⟨a6, c6, l6, e6, _, s6⟩ := open_ints29 g6
  obtain ⟨a7, c7, l7, e7, _, s7⟩ := open_ints29 g7
  have hk3 : k3 ≤ 9223372036854775807 := by
    have h := (Bool.and_eq_true _ _ ▸ w3 : _ ∧ _).2
    have h' := of_decide_eq_true h
    simpa [IntKind.max, IntKind.bits, IntKind.signed] using h'
  have hk4 : 0 ≤ k4 := by
    have h := (Bool.and_eq_true _ _ ▸ w4 : _ ∧ _).1
    have h' := of_decide_eq_true h
    simpa [IntKind.min, IntKind.signed] using h'
  obtain ⟨b4, rfl⟩ : ∃ b4 : Nat, k4 = (b4 : Int) := ⟨k4.toNat, by omega⟩
  refine ⟨⟨k0, k1, k2, k3, b4, l5, l6, l7⟩, ⟨a5, c5, a6, c6, a7, c7⟩, ⟨s5, s6, s7⟩, hk3, ?_⟩
  unfold termCells
  simp only [List.cons.injEq, and_true] at e0 e1 e2 e3 e4 ⊢
  exact ⟨e0, e1, e2, e3, e4, e5, e6, e7⟩

theorem open_typ {fuel : Nat} {cs : List Value} {x : DataW H × List MemPlace} (h : DataW.trod enc Tryz.prog W base spare held fuel 51 cs = some x) : ∃ t p, TypOk (Lt W.heap.size) W t p ∧ cs = typCells t p := by
  obtain ⟨xs, n, _, _, hl, hxl, hf⟩ := DataW.trod_struct Tryz.underlying51 h
  rw [cells47] at hl
  obtain ⟨v0, cs0, rfl, hh0⟩ := len_cons hl
  obtain ⟨v1, cs1, rfl, hh1⟩ := len_cons hh0
  obtain ⟨v2, cs2, rfl, hh2⟩ := len_cons hh1
  obtain ⟨v3, cs3, rfl, hh3⟩ := len_cons hh2
  obtain ⟨v4, cs4, rfl, hh4⟩ := len_cons hh3
  obtain ⟨v5, cs5, rfl, hh5⟩ := len_cons hh4
  obtain rfl : cs5 = [] := List.length_eq_zero_iff.1 hh5
  have get : ∀ i, i < 6 → ∃ y, xs[i]? = some y := fun i hi => ⟨xs[i]'(by rw [hxl]; exact hi), List.getElem?_eq_getElem _⟩
  obtain ⟨y0, h0⟩ := get 0 (by omega)
  obtain ⟨y1, h1⟩ := get 1 (by omega)
  obtain ⟨y2, h2⟩ := get 2 (by omega)
  obtain ⟨y3, h3⟩ := get 3 (by omega)
  obtain ⟨y4, h4⟩ := get 4 (by omega)
  obtain ⟨y5, h5⟩ := get 5 (by omega)
  have g0 := fld hf 0 3 0 rfl rfl rfl cells3 h0
  have g1 := fld hf 1 3 1 rfl rfl rfl cells3 h1
  have g2 := fld hf 2 9 2 rfl rfl rfl cells9 h2
  have g3 := fld hf 3 48 3 rfl rfl rfl cells31 h3
  have g4 := fld hf 4 49 4 rfl rfl rfl cells29 h4
  have g5 := fld hf 5 4 5 rfl rfl rfl cells4 h5
  simp only [List.drop_zero, List.drop_succ_cons, List.take_succ_cons, List.take_zero] at g0 g1 g2 g3 g4 g5
  obtain ⟨k0, e0, _⟩ := DataW.trod_int Tryz.underlying3 g0
  obtain ⟨k1, e1, _⟩ := DataW.trod_int Tryz.underlying3 g1
  obtain ⟨k2, e2, _⟩ := DataW.trod_string Tryz.underlying9 g2
  obtain ⟨a3, c3, l3, e3, _, s3⟩ := open_strs31 g3
  obtain ⟨a4, c4, l4, e4, _, s4⟩ := open_ints29 g4
  obtain ⟨k5, e5, _⟩ := DataW.trod_bool Tryz.underlying4 g5
  refine ⟨⟨k0, k1, k2, l3, l4, k5⟩, ⟨a3, c3, a4, c4⟩, ⟨s3, s4⟩, ?_⟩
  unfold typCells
  simp only [List.cons.injEq, and_true] at e0 e1 e2 e5 ⊢
  exact ⟨e0, e1, e2, e3, e4, e5⟩

theorem open_ali {fuel : Nat} {cs : List Value} {x : DataW H × List MemPlace} (h : DataW.trod enc Tryz.prog W base spare held fuel 77 cs = some x) : ∃ t, cs = aliCells t := by
  obtain ⟨xs, n, _, _, hl, hxl, hf⟩ := DataW.trod_struct Tryz.underlying77 h
  rw [cells52] at hl
  obtain ⟨v0, cs0, rfl, hh0⟩ := len_cons hl
  obtain ⟨v1, cs1, rfl, hh1⟩ := len_cons hh0
  obtain ⟨v2, cs2, rfl, hh2⟩ := len_cons hh1
  obtain rfl : cs2 = [] := List.length_eq_zero_iff.1 hh2
  have get : ∀ i, i < 3 → ∃ y, xs[i]? = some y := fun i hi => ⟨xs[i]'(by rw [hxl]; exact hi), List.getElem?_eq_getElem _⟩
  obtain ⟨y0, h0⟩ := get 0 (by omega)
  obtain ⟨y1, h1⟩ := get 1 (by omega)
  obtain ⟨y2, h2⟩ := get 2 (by omega)
  have g0 := fld hf 0 9 0 rfl rfl rfl cells9 h0
  have g1 := fld hf 1 3 1 rfl rfl rfl cells3 h1
  have g2 := fld hf 2 3 2 rfl rfl rfl cells3 h2
  simp only [List.drop_zero, List.drop_succ_cons, List.take_succ_cons, List.take_zero] at g0 g1 g2
  obtain ⟨k0, e0, _⟩ := DataW.trod_string Tryz.underlying9 g0
  obtain ⟨k1, e1, _⟩ := DataW.trod_int Tryz.underlying3 g1
  obtain ⟨k2, e2, _⟩ := DataW.trod_int Tryz.underlying3 g2
  refine ⟨⟨k0, k1, k2⟩, ?_⟩
  unfold aliCells
  simp only [List.cons.injEq, and_true] at e0 e1 e2 ⊢
  exact ⟨e0, e1, e2⟩

/-- A slice of structs, each of one kind. -/
theorem open_rows {α : Type} {t e : TypeId} (s : Nat) (hs : 0 < s) (Q : α → List Value → Prop) (hlen : ∀ a cs, Q a cs → cs.length = s) (ht : Tryz.prog.underlying t = some (.slice e)) (hc : Tryz.prog.cellsOf e = s)
    (hf : ∀ n cs x, DataW.trod enc Tryz.prog W base spare held n e cs = some x → ∃ a, Q a cs)
    {fuel : Nat} {c : Value} {x : DataW H × List MemPlace} (h : DataW.trod enc Tryz.prog W base spare held fuel t [c] = some x) :
    ∃ A cap, ∃ l : List α, c = .slice A l.length cap ∧ l.length ≤ maxLen ∧ (0 < l.length → ∃ b off, A = some ⟨b, off, none⟩ ∧ b < W.heap.size ∧ ∀ i a, l[i]? = some a → ∃ cs, Q a cs ∧ ∀ j u, cs[j]? = some u → W.cell? ⟨b, off + i * s + j, none⟩ = some u) := by
  rcases open_slice ht h with ⟨h0, _⟩ | ⟨a, len, cap, m, n, D, Pl, h0, hb, hl, hm, hmm, _, hx⟩
  · injection h0 with h0 _
    subst h0
    exact ⟨none, 0, [], rfl, by simp, fun h => absurd h (by simp)⟩
  · injection h0 with h0 _
    subst h0
    rw [hc] at hx
    have hle : len ≤ m := by rw [hmm]; split <;> omega
    have one : ∀ k, k < len → ∃ y cs, Q y cs ∧ ∀ j u, cs[j]? = some u → W.cell? ((a.add (k * s)).add j) = some u := fun k hk => by
      obtain ⟨cs, h1, h2⟩ := hx k (by omega)
      obtain ⟨y, hy⟩ := hf _ _ _ h2
      obtain ⟨_, hcl, hcc⟩ := World.cells?_some h1
      refine ⟨y, cs, hy, fun j u hu => ?_⟩
      have hj := (List.getElem?_eq_some_iff.1 hu).1
      rw [hcc j (by omega), hu]
    have key : ∀ k, k ≤ len → ∃ l : List α, l.length = k ∧ ∀ i y, l[i]? = some y → ∃ cs, Q y cs ∧ ∀ j u, cs[j]? = some u → W.cell? ((a.add (i * s)).add j) = some u := by
      intro k
      induction k with
      | zero => exact fun _ => ⟨[], rfl, fun j u hu => by simp at hu⟩
      | succ k ih =>
        intro hk
        obtain ⟨l, hll, hlc⟩ := ih (by omega)
        obtain ⟨y, cs, hy, hcs⟩ := one k (by omega)
        refine ⟨l ++ [y], by simp [hll], fun i z hz => ?_⟩
        by_cases hj : i < l.length
        · rw [List.getElem?_append_left hj] at hz
          exact hlc i z hz
        · rw [List.getElem?_append_right (by omega)] at hz
          have hj0 : i = k := by
            have := (List.getElem?_eq_some_iff.1 hz).1
            simp at this
            omega
          subst hj0
          rw [hll, Nat.sub_self] at hz
          simp only [List.getElem?_cons_zero, Option.some.injEq] at hz
          subst hz
          exact ⟨cs, hy, hcs⟩
    obtain ⟨l, hll, hlc⟩ := key len (Nat.le_refl _)
    subst hll
    refine ⟨some a, cap, l, rfl, by omega, fun hn => ?_⟩
    obtain ⟨cs, hQ, hcs⟩ := hlc 0 l[0] (by simp [hn])
    have hcl := hlen _ _ hQ
    have h0 := hcs 0 cs[0] (by simp [hcl, hs])
    have e0 : (a.add (0 * s)).add 0 = a := by rw [Nat.zero_mul]; rfl
    rw [e0] at h0
    have hsp := spot_of_cell h0
    obtain ⟨b, off, sp⟩ := a
    simp only [Addr.mk.injEq, true_and] at hsp
    subst hsp
    refine ⟨b, off, rfl, block_lt_of_cell h0, fun i y hy => ?_⟩
    obtain ⟨cs, hQ, hcs⟩ := hlc i y hy
    refine ⟨cs, hQ, fun j u hu => ?_⟩
    have := hcs j u hu
    rw [add_add] at this
    unfold Addr.add at this
    split at this
    · rename_i hj
      rw [show off + i * s + j = off by omega]
      exact this
    · rw [show off + i * s + j = off + (i * s + j) by omega]
      exact this

set_option maxRecDepth 100000 in
/-- A TREE THAT CAME IN. -/
theorem open_tree26 {r : Reach} {b0 : Nat} {v : Value} {d : DataW H} {ps : List MemPlace} (hval : Value.okWide Tryz.prog W r b0 28 v) (h : DataW.Trod enc Tryz.prog W base spare held 28 v d ps) :
    ∃ t p, v = treeV t p ∧ TreeAt (Lt W.heap.size) W t p ∧ t.nodes.length ≤ maxLen ∧ t.types.length ≤ maxLen ∧ t.aliases.length ≤ maxLen ∧ ∀ x ∈ t.nodes, x.int ≤ 9223372036854775807 := by
  unfold Value.okWide at hval
  rw [Tryz.underlying28] at hval
  obtain ⟨cs, rfl, hsz, _⟩ := hval
  obtain ⟨fuel, h⟩ := h
  obtain ⟨xs, n, _, _, hl, hxl, hf⟩ := DataW.trod_struct Tryz.underlying28 h
  rw [cells26] at hsz
  obtain ⟨l⟩ := cs
  have hsz' : l.length = 3 := hsz
  obtain ⟨v0, cs0, rfl, hh0⟩ := len_cons hsz'
  obtain ⟨v1, cs1, rfl, hh1⟩ := len_cons hh0
  obtain ⟨v2, cs2, rfl, hh2⟩ := len_cons hh1
  obtain rfl : cs2 = [] := List.length_eq_zero_iff.1 hh2
  have hcs : ((Value.agg (Array.mk [v0, v1, v2])).cells.toList) = [v0, v1, v2] := rfl
  rw [hcs] at hf
  have get : ∀ i, i < 3 → ∃ y, xs[i]? = some y := fun i hi => ⟨xs[i]'(by rw [hxl]; exact hi), List.getElem?_eq_getElem _⟩
  obtain ⟨y0, h0⟩ := get 0 (by omega)
  obtain ⟨y1, h1⟩ := get 1 (by omega)
  obtain ⟨y2, h2⟩ := get 2 (by omega)
  have g0 := fld hf 0 24 0 rfl rfl rfl cells22 h0
  have g1 := fld hf 1 25 1 rfl rfl rfl cells23 h1
  have g2 := fld hf 2 26 2 rfl rfl rfl cells24 h2
  simp only [List.drop_zero, List.drop_succ_cons, List.take_succ_cons, List.take_zero] at g0 g1 g2
  obtain ⟨A1, c1, l1, rfl, m1, t1⟩ := open_rows 8 (by omega) (fun (t : TermD) cs => ∃ p, TermOk (Lt W.heap.size) W t p ∧ t.int ≤ 9223372036854775807 ∧ cs = termCells t p) (fun a cs h => by obtain ⟨p, _, _, rfl⟩ := h; rfl) Tryz.underlying24 cells33 (fun n cs x hx => open_term hx) g0
  obtain ⟨A2, c2, l2, rfl, m2, t2⟩ := open_rows 6 (by omega) (fun (t : TypD) cs => ∃ p, TypOk (Lt W.heap.size) W t p ∧ cs = typCells t p) (fun a cs h => by obtain ⟨p, _, rfl⟩ := h; rfl) Tryz.underlying25 cells47 (fun n cs x hx => open_typ hx) g1
  obtain ⟨A3, c3, l3, rfl, m3, t3⟩ := open_rows 3 (by omega) (fun (t : AliD) cs => cs = aliCells t) (fun a cs h => by subst h; rfl) Tryz.underlying26 cells52 (fun n cs x hx => open_ali hx) g2
  refine ⟨⟨l1, l2, l3⟩, ⟨A1, c1, A2, c2, A3, c3⟩, rfl, ⟨fun hn => ?_, fun hn => ?_, fun hn => ?_⟩, m1, m2, m3, fun x hx => by
    obtain ⟨i, hi, rfl⟩ := List.getElem_of_mem hx
    obtain ⟨b, off, e, hb, hc⟩ := t1 (by dsimp only at hi; omega)
    obtain ⟨cs, ⟨p, hp, hk, rfl⟩, _⟩ := hc i _ (List.getElem?_eq_getElem hi)
    exact hk⟩
  · obtain ⟨b, off, e, hb, hc⟩ := t1 hn
    refine ⟨b, off, e, hb, fun i t ht => ?_⟩
    obtain ⟨cs, ⟨p, hp, _, rfl⟩, hcs⟩ := hc i t ht
    exact ⟨p, hp, hcs⟩
  · obtain ⟨b, off, e, hb, hc⟩ := t2 hn
    refine ⟨b, off, e, hb, fun i t ht => ?_⟩
    obtain ⟨cs, ⟨p, hp, rfl⟩, hcs⟩ := hc i t ht
    exact ⟨p, hp, hcs⟩
  · obtain ⟨b, off, e, hb, hc⟩ := t3 hn
    refine ⟨b, off, e, hb, fun i t ht j u hu => ?_⟩
    obtain ⟨cs, rfl, hcs⟩ := hc i t ht
    exact hcs j u hu
end
end Go.Proofs.YtjbdgjbmbohfmaaGreatDoor
namespace Go.Proofs.YtjbdgjbmbohfmaaGreatDoor
open Go Go.Proofs Go.RowKit

theorem own_base {w : World} {base : Nat} {e : TypeId} {size : Nat} {v : Value} {n : Nat} {xs : List Value} (h : w.ownsRow base e size v n xs) : ∀ g, v.ownBlock = some g → base ≤ g := fun _ hg => (own_lt h hg).2
theorem inB_iff {l : List ByteArray} {s : ByteArray} : inB l s = true ↔ s ∈ l := by
  unfold inB
  rw [List.any_eq_true]
  constructor
  · rintro ⟨x, hx, h⟩
    rw [← of_decide_eq_true h]; exact hx
  · intro h
    exact ⟨s, h, by simp⟩
end Go.Proofs.YtjbdgjbmbohfmaaGreatDoor

namespace Go.Proofs.YtjbdgjbmbohfmaaGreatDoor
open Go Go.Proofs

section
variable {P : Program} {ops : Array Oper} {Q : Exit → Act → World → Prop} {md : Region.Mode} {S : World → Prop} {D : Nat → Bool}

/-- Whatever order is picked from here on; S holds behind every operation that is carried out, but those of D. -/
def wpAnyG (P : Program) (md : Region.Mode) (ops : Array Oper) (Q : Exit → Act → World → Prop) (S : World → Prop) (D : Nat → Bool) : Nat → Array Bool → Act → World → Prop
  | 0, listed, a, w => Region.ready md ops listed = [] ∧ Q .normal a w
  | fuel + 1, listed, a, w =>
    (Region.ready md ops listed = [] → Q .normal a w) ∧
    ∀ i ∈ Region.ready md ops listed, wpOp P ops Q i (fun a' w' => (D i = false → S w') ∧ wpAnyG P md ops Q S D fuel (listed.setIfInBounds i true) a' w') a w

/-- Number j waits for number i, in f steps. -/
def reach (md : Region.Mode) (ops : Array Oper) (i : Nat) : Nat → Nat → Bool
  | 0, _ => false
  | f + 1, j => match ops[j]? with
    | some o => o.after.any fun e => Region.binds md e && (e.on == i || reach md ops i f e.on)
    | none => false
/-- What has come up has all behind it that it waits for. -/
def ClosedL (md : Region.Mode) (ops : Array Oper) (listed : Array Bool) : Prop := ∀ (j : Nat) (o : Oper), ops[j]? = some o → listed.getD j false = true → ∀ e ∈ o.after, Region.binds md e = true → listed.getD e.on false = true
theorem ClosedL.set {listed : Array Bool} (hc : ClosedL md ops listed) {j : Nat} {oj : Oper} (hoj : ops[j]? = some oj) (hall : ∀ e ∈ oj.after, Region.binds md e = true → listed.getD e.on false = true) : ClosedL md ops (listed.setIfInBounds j true) := by
  intro k ok hok hl e he hb
  by_cases hjk : j = k
  · subst hjk
    rw [hoj] at hok
    injection hok with hok
    subst hok
    exact getD_set_true (hall e he hb)
  · rw [getD_set_ne false hjk] at hl
    exact getD_set_true (hc k ok hok hl e he hb)

/-- Each of the operations 'rs' comes up next. -/
def AllReadyG (P : Program) (md : Region.Mode) (ops : Array Oper) (Q : Exit → Act → World → Prop) (S : World → Prop) (D : Nat → Bool) (fuel : Nat) (listed : Array Bool) (a : Act) (w : World) (rs : List Nat) : Prop :=
  ∀ i ∈ rs, wpOp P ops Q i (fun a' w' => (D i = false → S w') ∧ wpAnyG P md ops Q S D fuel (listed.setIfInBounds i true) a' w') a w
theorem AllReadyG.nil {fuel : Nat} {listed : Array Bool} {a : Act} {w : World} : AllReadyG P md ops Q S D fuel listed a w [] := fun _ h => by cases h
/-- One that S holds behind. -/
theorem AllReadyG.held {fuel : Nat} {listed : Array Bool} {a : Act} {w : World} {i : Nat} {o : Oper} {rs : List Nat} (ho : ops[i]? = some o)
    (h : ∀ K' : Act → World → Prop, _root_.Go.Shut (∀ a w, S w → (S w → wpAnyG P md ops Q S D fuel (listed.setIfInBounds i true) a w) → K' a w) → if Region.wanted o (yielded ops a.tmps) = true then Oper.wp P o a w K' Q else K' (a.put o.dst undef) w)
    (hs : AllReadyG P md ops Q S D fuel listed a w rs) : AllReadyG P md ops Q S D fuel listed a w (i :: rs) := fun j hj => by
  rcases List.mem_cons.1 hj with rfl | hj
  · exact wpOp_step ho (fun K' hK => h K' (fun a w hS hW => hK a w ⟨fun _ => hS, hW hS⟩))
  · exact hs j hj
end
end Go.Proofs.YtjbdgjbmbohfmaaGreatDoor

namespace Go.Proofs.YtjbdgjbmbohfmaaGreatDoor
open Go Go.Proofs Go.RowKit

end Go.Proofs.YtjbdgjbmbohfmaaGreatDoor

namespace Go.Proofs.YtjbdgjbmbohfmaaGreatDoor
open Go Go.Proofs Go.RowKit

end Go.Proofs.YtjbdgjbmbohfmaaGreatDoor

namespace Go.Proofs.YtjbdgjbmbohfmaaGreatDoor
open Go Go.Proofs Go.RowKit

end Go.Proofs.YtjbdgjbmbohfmaaGreatDoor

namespace Go.Proofs.YtjbdgjbmbohfmaaGreatDoor
open Go Go.Proofs Go.RowKit

end Go.Proofs.YtjbdgjbmbohfmaaGreatDoor

namespace Go.Proofs.YtjbdgjbmbohfmaaGreatDoor
open Go Go.Proofs Go.RowKit

end Go.Proofs.YtjbdgjbmbohfmaaGreatDoor

namespace Go.Proofs.YtjbdgjbmbohfmaaGreatDoor
open Go Go.Proofs Go.RowKit

attribute [local go_sem ↓] Go.wp_at_zero Go.wp_at_succ

/-- Alias names that were looked through, one after the other. -/
structure Seen2 (t : TreeD) (seen : List ByteArray) : Prop where
  nod : seen.Nodup
  al : ∀ s ∈ seen, s ∈ t.aliases.map (·.name)

end Go.Proofs.YtjbdgjbmbohfmaaGreatDoor

namespace Go.Proofs.YtjbdgjbmbohfmaaGreatDoor
open Go Go.Proofs Go.RowKit

attribute [local go_sem ↓] Go.wp_at_zero Go.wp_at_succ

end Go.Proofs.YtjbdgjbmbohfmaaGreatDoor

namespace Go.Proofs.YtjbdgjbmbohfmaaGreatDoor
open Go Go.Proofs Go.RowKit

section
variable {l w0 w : List Int} {i : Nat} {out : List Nat}
end
/-- What is bound around counts by itself. -/
theorem freeL_env {t : TreeD} {s : ByteArray} : ∀ {f i : Nat} {env : List ByteArray}, s ∈ freeL t f i env ↔ s ∈ freeL t f i [] ∧ s ∉ env
  | 0, i, env => by simp [freeL]
  | f + 1, i, env => by
    unfold freeL
    cases hn : t.nodes[i]? with
    | none => simp
    | some n =>
      dsimp only
      rw [List.mem_append, List.mem_append, freeK_mem, freeK_mem]
      have h1 : (s ∈ if n.kind = 0 ∧ inB env n.name = false then [n.name] else []) ↔ n.kind = 0 ∧ s = n.name ∧ s ∉ env := by
        split
        · rename_i h
          rw [List.mem_singleton]
          constructor
          · rintro rfl
            refine ⟨h.1, rfl, fun e => ?_⟩
            rw [inB_iff.2 e] at h
            exact absurd h.2 (by decide)
          · exact fun e => e.2.1
        · rename_i h
          constructor
          · intro e; cases e
          · rintro ⟨e1, rfl, e2⟩
            refine absurd ⟨e1, ?_⟩ h
            cases hb : inB env n.name with
            | false => rfl
            | true => exact absurd (inB_iff.1 hb) e2
      have h2 : (s ∈ if n.kind = 0 ∧ inB [] n.name = false then [n.name] else []) ↔ n.kind = 0 ∧ s = n.name := by
        rw [show inB [] n.name = false from rfl]
        by_cases h : n.kind = 0
        · rw [if_pos ⟨h, rfl⟩, List.mem_singleton]
          exact ⟨fun e => ⟨h, e⟩, fun e => e.2⟩
        · rw [if_neg (fun e => h e.1)]
          exact ⟨fun e => (by cases e), fun e => absurd e.1 h⟩
      rw [h1, h2]
      constructor
      · rintro (⟨a, b, c⟩ | ⟨j, k, a, b⟩)
        · exact ⟨.inl ⟨a, b⟩, c⟩
        · rw [freeL_env] at b
          refine ⟨.inr ⟨j, k, a, ?_⟩, fun e => b.2 (List.mem_cons_of_mem _ e)⟩
          rw [freeL_env]
          refine ⟨b.1, fun e => b.2 ?_⟩
          rw [List.mem_singleton] at e
          rw [e]; simp
      · rintro ⟨⟨a, b⟩ | ⟨j, k, a, b⟩, c⟩
        · exact .inl ⟨a, b, c⟩
        · rw [freeL_env] at b
          refine .inr ⟨j, k, a, ?_⟩
          rw [freeL_env]
          refine ⟨b.1, fun e => ?_⟩
          rcases List.mem_cons.1 e with e | e
          · exact b.2 (by rw [e]; simp)
          · exact c e
end Go.Proofs.YtjbdgjbmbohfmaaGreatDoor

namespace Go.Proofs.YtjbdgjbmbohfmaaGreatDoor
open Go Go.Proofs Go.RowKit

theorem freeL_name {t : TreeD} {s : ByteArray} : ∀ {f i : Nat} {env : List ByteArray}, s ∈ freeL t f i env → ∃ (j : Nat) (x : TermD), t.nodes[j]? = some x ∧ x.kind = 0 ∧ x.name = s
  | 0, i, env, h => by simp [freeL] at h
  | f + 1, i, env, h => by
    unfold freeL at h
    split at h
    · simp at h
    · rename_i n hn
      rcases List.mem_append.1 h with h | h
      · split at h
        · rename_i hk
          simp only [List.mem_singleton] at h
          exact ⟨i, n, hn, hk.1, h.symm⟩
        · simp at h
      · obtain ⟨j, k, _, h2⟩ := freeK_mem.1 h
        exact freeL_name h2
theorem rise_nodup {ns : List ByteArray} (h : Rise ns) : ns.Nodup := List.Pairwise.imp (fun {a b} hab e => by subst e; exact List.lt_irrefl _ hab) h
theorem free_len {t : TreeD} {ns : List ByteArray} {f i : Nat} {env : List ByteArray} (h : Rise ns) (hm : ∀ s, s ∈ ns → s ∈ freeL t f i env) : ns.length ≤ t.nodes.length := by
  have := nodup_le (rise_nodup h) (m := t.nodes.map (·.name)) fun s hs => by
    obtain ⟨j, x, hx, _, rfl⟩ := freeL_name (hm s hs)
    exact List.mem_map.2 ⟨x, List.mem_of_getElem? hx, rfl⟩
  simpa using this
end Go.Proofs.YtjbdgjbmbohfmaaGreatDoor

namespace Go.Proofs.YtjbdgjbmbohfmaaGreatDoor
open Go Go.Proofs Go.RowKit

/-- The function put around. -/
def funN (n : Nat) (nm : ByteArray) : TermD := ⟨5, 0, nm, 0, 0, [], [(n : Int) - 1], []⟩
def funT (t : TreeD) (nm : ByteArray) : TreeD := ⟨t.nodes ++ [funN t.nodes.length nm], t.types, t.aliases⟩

theorem funT_old {t : TreeD} {nm : ByteArray} {j : Nat} (h : j < t.nodes.length) : (funT t nm).nodes[j]? = t.nodes[j]? := List.getElem?_append_left h
theorem funT_new (t : TreeD) (nm : ByteArray) : (funT t nm).nodes[t.nodes.length]? = some (funN t.nodes.length nm) := by
  unfold funT
  simp
theorem funT_len (t : TreeD) (nm : ByteArray) : (funT t nm).nodes.length = t.nodes.length + 1 := by unfold funT; simp

theorem funT_whole {t : TreeD} {nm : ByteArray} (h : Whole t) (hn : isName (tl nm) = true) (hb : t.nodes.length < 65536) : Whole (funT t nm) where
  rng := {
    one := by rw [funT_len]; omega
    nod := fun j x hx => by
      by_cases hj : j < t.nodes.length
      · rw [funT_old hj] at hx
        exact h.rng.nod j x hx
      · have hl := (List.getElem?_eq_some_iff.1 hx).1
        rw [funT_len] at hl
        obtain rfl : j = t.nodes.length := by omega
        rw [funT_new] at hx
        injection hx with hx
        subst hx
        have h1 := h.rng.one
        refine ⟨fun k hk => ?_, fun k hk => ?_, ?_⟩
        · simp only [funN, List.mem_singleton] at hk
          omega
        · simp [funN] at hk
        · simp [funN, termB, holdsB, hn]
    typ := h.rng.typ
    ali := h.rng.ali }
  big := by rw [funT_len]; omega
  bigT := h.bigT
  onceN := by
    have hk : kidsAll (funT t nm) = kidsAll t ++ [(t.nodes.length : Int) - 1] := by simp [kidsAll, funT, funN]
    rw [hk, nats_append, List.nodup_append]
    refine ⟨h.onceN, by simp [nats], ?_⟩
    intro a ha b hb e
    subst e
    simp only [nats, List.map_cons, List.map_nil, List.mem_singleton] at hb
    simp only [nats, List.mem_map, kidsAll, List.mem_flatMap] at ha
    obtain ⟨k, ⟨x, hx, hk⟩, rfl⟩ := ha
    obtain ⟨j, hj, rfl⟩ := List.getElem_of_mem hx
    have := (h.rng.nod j _ (List.getElem?_eq_getElem hj)).1 k hk
    omega
  onceT := by
    have hk : usesAll (funT t nm) = usesAll t := by simp [usesAll, funT, funN]
    rw [hk]; exact h.onceT
  allN := fun j hj => by
    have hk : kidsAll (funT t nm) = kidsAll t ++ [(t.nodes.length : Int) - 1] := by simp [kidsAll, funT, funN]
    rw [funT_len] at hj
    rw [hk, nats_append, List.mem_append]
    by_cases e : j < t.nodes.length - 1
    · exact .inl (h.allN j e)
    · right
      simp only [nats, List.map_cons, List.map_nil, List.mem_singleton]
      omega
  allT := fun j hj => by
    have hk : usesAll (funT t nm) = usesAll t := by simp [usesAll, funT, funN]
    rw [hk]; exact h.allT j hj

theorem freeK_eq {g g' : Nat → List ByteArray → List ByteArray} {n : TermD} : ∀ {ks : List Nat} {p : Nat} {env : List ByteArray}, (∀ k ∈ ks, ∀ e, g k e = g' k e) → freeK g n p ks env = freeK g' n p ks env
  | [], p, env, _ => rfl
  | k :: ks, p, env, h => by
    unfold freeK
    rw [h k (by simp), freeK_eq (fun x hx => h x (by simp [hx]))]
theorem free_old {t : TreeD} {nm : ByteArray} (h : Rng t) : ∀ {f i : Nat} {env : List ByteArray}, i < t.nodes.length → freeL (funT t nm) f i env = freeL t f i env
  | 0, i, env, _ => rfl
  | f + 1, i, env, hi => by
    unfold freeL
    rw [funT_old hi, List.getElem?_eq_getElem hi]
    dsimp only
    rw [freeK_eq]
    intro k hk e
    obtain ⟨z, hz, rfl⟩ := List.mem_map.1 hk
    have := (h.nod i _ (List.getElem?_eq_getElem hi)).1 z hz
    exact free_old h (by omega)
theorem free_fun {t : TreeD} {nm : ByteArray} (h : Rng t) (s : ByteArray) : s ∈ freeL (funT t nm) (funT t nm).nodes.length ((funT t nm).nodes.length - 1) [] ↔ s ∈ freeL t t.nodes.length (t.nodes.length - 1) [] ∧ s ≠ nm := by
  rw [funT_len, Nat.add_sub_cancel]
  have e : freeL (funT t nm) (t.nodes.length + 1) t.nodes.length [] = freeL (funT t nm) t.nodes.length (t.nodes.length - 1) [nm] := by
    rw [freeL, funT_new]
    dsimp only
    rw [if_neg (by simp [funN]), List.nil_append]
    have hk : (funN t.nodes.length nm).kids.map Int.toNat = [t.nodes.length - 1] := by
      simp only [funN, List.map_cons, List.map_nil, List.cons.injEq, and_true]
      omega
    rw [hk]
    simp [freeK, bndN, funN]
  rw [e, freeL_env, free_old h (by have := h.one; omega)]
  simp
/-- A rising row without a name rises. -/
theorem rise_without {l : List ByteArray} (h : Rise l) (nm : ByteArray) : Rise (l.filter fun s => decide (s ≠ nm)) := List.Pairwise.filter _ h
theorem free_same {t : TreeD} {nm : ByteArray} (h : checkF t = true) (hn : isName (tl nm) = true) (hb : t.nodes.length < 65536) {ns ms : List ByteArray}
    (h1 : Rise ns) (h2 : ∀ s, s ∈ ns ↔ checkF t = true ∧ s ∈ freeL t t.nodes.length (t.nodes.length - 1) [])
    (h3 : Rise ms) (h4 : ∀ s, s ∈ ms ↔ checkF (funT t nm) = true ∧ s ∈ freeL (funT t nm) (funT t nm).nodes.length ((funT t nm).nodes.length - 1) []) : ms = ns.filter fun s => decide (s ≠ nm) := by
  have hw := (checkF_iff t).1 h
  have hu : checkF (funT t nm) = true := (checkF_iff _).2 (funT_whole hw hn hb)
  refine rise_eq h3 (rise_without h1 nm) fun s => ?_
  rw [h4, List.mem_filter, h2, free_fun hw.rng]
  simp [h, hu]
end Go.Proofs.YtjbdgjbmbohfmaaGreatDoor

namespace Go.Proofs.YtjbdgjbmbohfmaaGreatDoor
open Go Go.Proofs Go.RowKit

theorem rds_at {w : World} {A : Option Addr} {xs : List ByteArray} {k : Nat} (h : RdAt w A (xs.map .string)) (hk : k < xs.length) : ∃ b off, A = some ⟨b, off, none⟩ ∧ w.cell? ⟨b, off + k, none⟩ = some (.string xs[k]) := by
  rcases h with h | ⟨b, off, e, h⟩
  · have : xs = [] := by simpa using h
    subst this
    simp at hk
  · exact ⟨b, off, e, h k _ (by simp [hk])⟩

set_option maxRecDepth 100000 in
set_option maxHeartbeats 2000000 in
theorem lsame_any (A1 A2 : Option Addr) (c1 c2 : Nat) (xs ys : List ByteArray) (w : World) (h1 : RdAt w A1 (xs.map .string)) (h2 : RdAt w A2 (ys.map .string)) (hx : xs.length ≤ 1000000) (hy : ys.length ≤ 1000000) :
    Calls Tryz.prog 37 #[.slice A1 xs.length c1, .slice A2 ys.length c2] w fun e w' => e = .returned (.bool (decide (xs = ys))) ∧ Below w.heap.size w w' := by
  obtain ⟨r, hr⟩ : ∃ r, decide (xs = ys) = r := ⟨_, rfl⟩
  rw [hr]
  have HR := Lib.hid hr
  clear hr
  by_cases hlen : xs.length = ys.length
  · obtain ⟨n, hn⟩ : ∃ n, ys.length = n := ⟨_, rfl⟩
    rw [hn] at hlen hy ⊢
    rw [hlen] at hx ⊢
    have HX := Lib.hid hlen
    have HY := Lib.hid hn
    clear hlen hn
    have hne : ((n : Int) != (n : Int)) = false := by simp
    have hB0 := Below.refl w.heap.size w
    go_enter Tryz.func37, Tryz.ntmps37
    go_wp2
    go_loopw [5, 13] (fun _ i wr => ∃ k : Nat, k ≤ n ∧ i = .int .i64 k ∧ Hid (xs.take k = ys.take k) ∧ Below w.heap.size w wr ∧ ∃ d, wr = w.drewN d) (fun _ i _ => n - (intOf i).toNat)
    case atStart => exact ⟨0, Nat.zero_le _, rfl, Lib.hid (by simp), hB0, 0, rfl⟩
    case round =>
      obtain ⟨k, hk, rfl, HT, hB, d, hwr⟩ := hrel
      by_cases hlt : k < n
      · have lx : k < xs.length := by rw [HX.out]; exact hlt
        have ly : k < ys.length := by rw [HY.out]; exact hlt
        obtain ⟨b, off, rfl, e1⟩ := rds_at h1 lx
        obtain ⟨b', off', rfl, e2⟩ := rds_at h2 ly
        have f1 : wr.cell? ⟨b, off + k, none⟩ = some (.string xs[k]) := by rw [hwr]; exact e1
        have f2 : wr.cell? ⟨b', off' + k, none⟩ = some (.string ys[k]) := by rw [hwr]; exact e2
        have htx : xs.take (k + 1) = xs.take k ++ [xs[k]] := List.take_succ_eq_append_getElem lx
        have hty : ys.take (k + 1) = ys.take k ++ [ys[k]] := List.take_succ_eq_append_getElem ly
        have hbad : xs[k] ≠ ys[k] → r = false := fun h => by
          rw [← HR.out, decide_eq_false_iff_not]
          intro he
          subst he
          exact h rfl
        obtain ⟨x, hxk⟩ : ∃ x, xs[k] = x := ⟨_, rfl⟩
        obtain ⟨y, hyk⟩ : ∃ y, ys[k] = y := ⟨_, rfl⟩
        rw [hxk] at f1 htx hbad
        rw [hyk] at f2 hty hbad
        have HTX := Lib.hid htx
        have HTY := Lib.hid hty
        have HBAD := Lib.hid hbad
        have HW := Lib.hid hwr
        clear hxk hyk htx hty hbad e1 e2 hwr h1 h2
        have i1 : (0 : Int) ≤ (k : Int) := by omega
        have i2 : (k : Int) < (n : Int) := by omega
        by_cases hxy : x = y
        · subst hxy
          have hq : (x.toList != x.toList) = false := by simp
          have hq2 : (x.toList == x.toList) = true := by simp
          go_wp2
          go_quiet (fail)
          go_wp2
          go_roundw
          case rel => exact ⟨k + 1, by omega, by go_num, Lib.hid (by rw [HTX.out, HTY.out, HT.out]), hB.trans (below_drewN _ _ _), by have := HW.out; subst this; exact ⟨_, drewN_two _ _ _⟩⟩
          case measure => simp [intOf]; omega
        · have hq : (x.toList == y.toList) = false := by rw [beq_eq_false_iff_ne]; exact fun e => hxy (rtoList_inj e)
          have hq2 : (x.toList != y.toList) = true := by rw [bne_iff_ne]; exact fun e => hxy (rtoList_inj e)
          have HF := Lib.hid (HBAD.out hxy)
          go_wp2
          go_quiet (fail)
          go_wp2
          go_ret
          exact ⟨ret_bool HF.out.symm, hB.trans (below_drewN _ _ _)⟩
      · obtain rfl : k = n := by omega
        have hT : r = true := by
          rw [← HR.out, decide_eq_true_eq]
          have := HT.out
          rwa [List.take_of_length_le (Nat.le_of_eq HX.out), List.take_of_length_le (Nat.le_of_eq HY.out)] at this
        have HF := Lib.hid hT
        clear hT hwr
        go_wp2
        go_ret
        exact ⟨ret_bool HF.out.symm, hB⟩
  · have hF : r = false := by
      rw [← HR.out, decide_eq_false_iff_not]
      intro he
      subst he
      exact hlen rfl
    have HF := Lib.hid hF
    clear hF
    have hne : ((xs.length : Int) != (ys.length : Int)) = true := by rw [bne_iff_ne]; omega
    go_enter Tryz.func37, Tryz.ntmps37
    go_wp2
    go_ret
    exact ⟨ret_bool HF.out.symm, Below.refl _ _⟩
end Go.Proofs.YtjbdgjbmbohfmaaGreatDoor

namespace Go.Proofs.YtjbdgjbmbohfmaaGreatDoor
open Go Go.Proofs Go.RowKit Go.Shelf

set_option maxRecDepth 100000 in
set_option maxHeartbeats 4000000 in
theorem rword_big (s : ByteArray) (hs : s.size ≤ 140737488355328) (w : World) : Calls Tryz.prog 86 #[.string s] w fun e w' => e = .returned (.bool (isW (tl s))) ∧ w = w' := by
  have hlen := tl_length s
  by_cases h0 : s.size = 0
  · have he : tl s = [] := List.length_eq_zero_iff.1 (by omega)
    have hS : (s.toList == []) = true := by rw [empty_eq]; simpa using h0
    have hN : isW (tl s) = false := by rw [he]; decide
    rw [hN]
    clear hN he
    go_enter Tryz.func86, Tryz.ntmps86
    go_wp2_with fail
    go_ret
    exact ⟨rfl, rfl⟩
  · have hne : tl s ≠ [] := fun h => h0 (by rw [h] at hlen; simpa using hlen.symm)
    have hS : (s.toList == []) = false := by rw [empty_eq]; simpa using h0
    obtain ⟨WS, hWS⟩ : ∃ WS : ByteArray, ⟨([32, 102, 117, 110, 32, 108, 101, 116, 32, 114, 101, 99, 32, 105, 110, 32, 105, 102, 32, 116, 104, 101, 110, 32, 101, 108, 115, 101, 32, 99, 97, 115, 101, 32, 111, 102, 32, 101, 110, 100, 32, 116, 114, 117].append [101, 32, 102, 97, 108, 115, 101, 32, 105, 110, 116, 32, 98, 111, 111, 108, 32, 115, 116, 114, 32, 102, 108, 111, 97, 116, 32, 100, 121, 110, 32, 97, 110, 121, 32, 110, 111, 110, 101, 32, 116, 121, 112, 101, 32]).toArray⟩ = WS := ⟨_, rfl⟩
    have hwt : tl WS = WL := by rw [← hWS]; simp [tl, WL]
    have hwz : WS.size = 89 := by rw [← tl_length, hwt]; exact WL_len
    have HNE := Lib.hid hne
    obtain ⟨R, hR⟩ : ∃ R, isW (tl s) = R := ⟨_, rfl⟩
    rw [hR]
    have HR := Lib.hid hR
    clear hR hne
    go_enter Tryz.func86, Tryz.ntmps86
    rw [hWS]
    have HWT := Lib.hid hwt
    clear hWS hwt
    go_wp2_with fail
    go_loop [3] (fun i => ∃ k : Nat, k ≤ s.size ∧ i = .int .i64 k ∧ Hid (∀ j (hj : j < s.size), j < k → smallB (s[j]'hj) = true)) (fun i => s.size - (intOf i).toNat)
    case atStart => exact ⟨0, Nat.zero_le _, rfl, Lib.hid (fun j hj h => by omega)⟩
    case round =>
      obtain ⟨k, hk, rfl, HJ⟩ := hrel
      by_cases hlt : k < s.size
      · have hc := (s[k]'hlt).toNat_lt
        have hbad : ∀ (_ : smallB (s[k]'hlt) = false), R = false := fun h => by
          rw [← HR.out]
          unfold isW
          rw [decide_eq_false_iff_not]
          intro hm
          have := List.all_eq_true.1 (words_small _ hm) (s[k]'hlt) (List.mem_of_mem_drop (by rw [tl_drop s k hlt]; exact List.mem_cons_self ..))
          rw [h] at this
          cases this
        by_cases c1 : 97 ≤ (s[k]'hlt).toNat
        · by_cases c2 : (s[k]'hlt).toNat ≤ 122
          · have HJ2 : Hid (∀ j (hj : j < s.size), j < k + 1 → smallB (s[j]'hj) = true) := Lib.hid (fun j hj h => by
              by_cases h' : j < k
              · exact HJ.out j hj h'
              · obtain rfl : j = k := by omega
                simp [smallB]; omega)
            clear hbad
            go_wp2_with fail
            go_round
            case rel => exact ⟨k + 1, by omega, by go_num, HJ2⟩
            case measure => simp [intOf]; omega
          · have HB := Lib.hid (hbad (by simp [smallB]; omega))
            clear hbad
            go_wp2_with fail
            go_ret
            exact ⟨ret_bool HB.out.symm, rfl⟩
        · have HB := Lib.hid (hbad (by simp [smallB]; omega))
          clear hbad
          go_wp2_with fail
          go_ret
          exact ⟨ret_bool HB.out.symm, rfl⟩
      · have hall : (tl s).all smallB = true := by
          rw [List.all_eq_true]
          intro x hx
          obtain ⟨j, hj, rfl⟩ := List.getElem_of_mem hx
          rw [hlen] at hj
          exact HJ.out j hj (by omega)
        have HALL := Lib.hid hall
        clear hall HJ
        go_wp2_with fail
        go_loop [4] (fun i => ∃ k : Nat, k ≤ 89 ∧ i = .int .i64 k ∧ Hid (∀ j, j < k → j + (tl s).length + 2 ≤ 89 → (WL.drop j).take ((tl s).length + 2) ≠ 32 :: (tl s ++ [32]))) (fun i => 89 - (intOf i).toNat)
        case atStart => exact ⟨0, Nat.zero_le _, rfl, Lib.hid (fun j h => by omega)⟩
        case round =>
          obtain ⟨k, hk, rfl, HJ⟩ := hrel
          by_cases hlt : k + s.size + 2 ≤ 89
          · obtain ⟨sub, hsub⟩ : ∃ sub, WS.extract k (k + s.size + 2) = sub := ⟨_, rfl⟩
            have hst : tl sub = (WL.drop k).take ((tl s).length + 2) := by
              rw [← hsub, tl_extract, HWT.out, List.drop_take, hlen]; congr 1; omega
            have hsl : ∀ w, (Instr.slice 9 (.string WS) (some (.int .i64 (k : Int))) (some (.int .i64 ((k : Int) + (s.size : Int) + 2))) none).run Tryz.prog w = .ok (.string sub) w := fun w => by
              rw [run_slice_string w 9 WS .i64 .i64 k ((k : Int) + (s.size : Int) + 2) Tryz.underlying9 (by omega) (by omega) (by omega), ← hsub]
              congr 3
            have hcat : tl ((⟨#[32]⟩ : ByteArray) ++ s ++ ⟨#[32]⟩) = 32 :: (tl s ++ [32]) := by rw [tl_append, tl_append]; rfl
            have hcmp : (sub.toList == ((⟨#[32]⟩ : ByteArray) ++ s ++ ⟨#[32]⟩).toList) = decide ((WL.drop k).take ((tl s).length + 2) = 32 :: (tl s ++ [32])) := by
              have h1 : ((⟨#[32]⟩ : ByteArray) ++ s ++ ⟨#[32]⟩).toList = 32 :: (tl s ++ [32]) := by rw [ByteArray.toList_eq]; exact hcat
              rw [h1, toL, hst]
            clear hst hsub hcat
            by_cases hw : (WL.drop k).take ((tl s).length + 2) = 32 :: (tl s ++ [32])
            · have hm : R = true := by
                rw [← HR.out]
                have := word_of (tl s) HNE.out HALL.out k (by omega) hw
                simpa [isW] using this
              have HM := Lib.hid hm
              rw [decide_eq_true hw] at hcmp
              clear hw hm
              go_wp2_with fail
              go_ret
              exact ⟨ret_bool HM.out.symm, rfl⟩
            · rw [decide_eq_false hw] at hcmp
              have HJ2 : Hid (∀ j, j < k + 1 → j + (tl s).length + 2 ≤ 89 → (WL.drop j).take ((tl s).length + 2) ≠ 32 :: (tl s ++ [32])) := Lib.hid (fun j h1 h2 => by
                by_cases h : j < k
                · exact HJ.out j h h2
                · obtain rfl : j = k := by omega
                  exact hw)
              clear hw
              go_wp2_with fail
              go_round
              case rel => exact ⟨k + 1, by omega, by go_num, HJ2⟩
              case measure => simp [intOf]; omega
          · have hm : R = false := by
              rw [← HR.out]
              unfold isW
              rw [decide_eq_false_iff_not]
              intro hmem
              obtain ⟨i, _, hi, hw⟩ := words_in _ hmem
              exact HJ.out i (by omega) hi hw
            have HM := Lib.hid hm
            clear hm
            go_wp2_with fail
            go_ret
            exact ⟨ret_bool HM.out.symm, rfl⟩

set_option maxHeartbeats 2000000 in
theorem rtag_big (s : ByteArray) (hs : s.size ≤ 140737488355328) (w : World) : Calls Tryz.prog 85 #[.string s] w fun e w' => e = .returned (.bool (nmB (tl s))) ∧ w = w' := by
  have hlen := tl_length s
  have hE := empty_eq s
  have hI := nmB_iff (tl s)
  have hE2 : (s.toList != []) = decide (0 < s.size) := by
    by_cases hz : s.size = 0
    · have hE1 : (s.toList == []) = true := by rw [hE]; simpa using hz
      simp [bne, hE1, hz]
    · have hE1 : (s.toList == []) = false := by rw [hE]; simpa using hz
      simp [bne, hE1]
      omega
  obtain ⟨R, hR⟩ : ∃ R, nmB (tl s) = R := ⟨_, rfl⟩
  rw [hR] at hI ⊢
  clear hR hE
  have HI := Lib.hid hI
  have HL := Lib.hid hlen
  have HE2 := Lib.hid hE2
  clear hI hlen hE2
  go_enter Tryz.func85, Tryz.ntmps85
  go_wp2
  go_loop [3] (fun i => ∃ k : Nat, k ≤ s.size ∧ i = .int .i64 k ∧ Hid (∀ j (h : j < s.size), j < k → tagAt j s[j] = true)) (fun i => s.size - (intOf i).toNat)
  case atStart => exact ⟨0, Nat.zero_le _, rfl, Lib.hid fun j _ h => absurd h (by omega)⟩
  case round =>
    obtain ⟨k, hk, rfl, HA⟩ := hrel
    by_cases hlt : k < s.size
    · have hc := s[k].toNat_lt
      have hstep : tagAt k s[k] = true → ∀ j (h : j < s.size), j < k + 1 → tagAt j s[j] = true := fun hA j hj hjk => by
        by_cases e : j = k
        · subst e; exact hA
        · exact HA.out j hj (by omega)
      have hbad : tagAt k s[k] = false → R = false := fun hA => by
        cases R
        · rfl
        · have := (HI.out.1 rfl).2 k (by rw [HL.out]; exact hlt)
          have h2 : (tl s)[k]'(by rw [HL.out]; exact hlt) = s[k] := rfl
          rw [h2, hA] at this
          cases this
      obtain ⟨c, hcs⟩ : ∃ c, s[k] = c := ⟨_, rfl⟩
      rw [hcs] at hc hstep hbad
      have HC := Lib.hid hcs
      have HS := Lib.hid hstep
      have HB := Lib.hid hbad
      clear hstep hbad
      by_cases h1 : 97 ≤ c.toNat ∧ c.toNat ≤ 122
      · obtain ⟨h1, h2⟩ := h1
        have h3 : Hid (tagAt k c = true) := Lib.hid (by simp [tagAt, lowB]; omega)
        go_wp2
        all_goals
          go_round
          case rel => exact ⟨k + 1, by omega, by go_num, Lib.hid (HS.out h3.out)⟩
          case measure => simp [intOf]; omega
      · by_cases h2 : c.toNat = 95
        · have h3 : Hid (tagAt k c = true) := Lib.hid (by simp [tagAt, lowB]; omega)
          have h4 : ((c.toNat : Int) == 95) = true := by simp; omega
          have h5 : decide ((97 : Int) ≤ c.toNat) = false := by simp; omega
          clear h1
          have h6 : c.toNat ≤ 95 := by omega
          clear h2
          go_wp2
          all_goals
            go_round
            case rel => exact ⟨k + 1, by omega, by go_num, Lib.hid (HS.out h3.out)⟩
            case measure => simp [intOf]; omega
        · have h4 : ((c.toNat : Int) == 95) = false := by simp; omega
          by_cases h7 : k = 0
          · subst h7
            have h3 : Hid (tagAt 0 c = false) := Lib.hid (by simp [tagAt, lowB]; omega)
            by_cases h8 : 97 ≤ c.toNat
            · have h9 : decide ((c.toNat : Int) ≤ 122) = false := by simp; omega
              clear h1 h2
              go_wp2
              all_goals
                go_ret
                exact ⟨ret_bool (HB.out h3.out).symm, rfl⟩
            · clear h1 h2
              go_wp2
              all_goals
                go_ret
                exact ⟨ret_bool (HB.out h3.out).symm, rfl⟩
          · have h10 : ((k : Int) == 0) = false := by simp; omega
            have h11 : 0 < k := by omega
            clear h7
            by_cases h12 : 48 ≤ c.toNat ∧ c.toNat ≤ 57
            · obtain ⟨h12, h13⟩ := h12
              have h3 : Hid (tagAt k c = true) := Lib.hid (by simp [tagAt, lowB, digB]; omega)
              clear h1 h2
              go_wp2
              all_goals
                go_round
                case rel => exact ⟨k + 1, by omega, by go_num, Lib.hid (HS.out h3.out)⟩
                case measure => simp [intOf]; omega
            · have h3 : Hid (tagAt k c = false) := Lib.hid (by simp [tagAt, lowB, digB]; omega)
              by_cases h8 : 97 ≤ c.toNat
              · have h9 : decide ((c.toNat : Int) ≤ 122) = false := by simp; omega
                clear h1 h2 h12
                go_wp2
                all_goals
                  go_ret
                  exact ⟨ret_bool (HB.out h3.out).symm, rfl⟩
              · by_cases h13 : c.toNat < 48
                · clear h1 h2 h12
                  go_wp2
                  all_goals
                    go_ret
                    exact ⟨ret_bool (HB.out h3.out).symm, rfl⟩
                · have h14 : 57 < c.toNat := by omega
                  clear h1 h2 h12
                  go_wp2
                  all_goals
                    go_ret
                    exact ⟨ret_bool (HB.out h3.out).symm, rfl⟩
    · obtain rfl : k = s.size := by omega
      have hfin : decide (0 < s.size) = R := by
        cases R
        · rw [decide_eq_false_iff_not]
          intro h0
          have := HI.out.2 ⟨fun he => by have := HL.out; rw [he] at this; simp at this; omega, fun j hj => by rw [HL.out] at hj; exact HA.out j hj hj⟩
          cases this
        · rw [decide_eq_true_eq]
          have := (HI.out.1 rfl).1
          rcases Nat.eq_zero_or_pos s.size with h0 | h0
          · exact absurd (List.length_eq_zero_iff.1 (HL.out.trans h0)) this
          · exact h0
      have HF : Hid ((s.toList != []) = R) := Lib.hid (HE2.out.trans hfin)
      clear hfin
      go_wp2
      go_ret
      exact ⟨ret_bool (by have := HF.out; simpa [bne] using this), rfl⟩

theorem rname_big (s : ByteArray) (hs : s.size ≤ 140737488355328) (w : World) : Calls Tryz.prog 42 #[.string s] w fun e w' => e = .returned (.bool (isName (tl s))) ∧ w = w' := by
  have c1 := rtag_big s hs
  have c2 := rword_big s (by omega)
  rw [isName_nm]
  cases hn : nmB (tl s) <;> cases hw : isW (tl s)
  all_goals
    rw [hn] at c1
    rw [hw] at c2
    clear hn hw
    go_enter Tryz.func42, Tryz.ntmps42
    go_wp2_with (first | (go_at_call 85; refine (c1 _).mono ?_; rintro e w' ⟨rfl, rfl⟩) | (go_at_call 86; refine (c2 _).mono ?_; rintro e w' ⟨rfl, rfl⟩))
    go_ret
    exact ⟨rfl, rfl⟩
end Go.Proofs.YtjbdgjbmbohfmaaGreatDoor

namespace Go.Proofs.YtjbdgjbmbohfmaaGreatDoor
open Go Go.Proofs Go.RowKit

theorem tree_on {w W : World} {t : TreeD} {p : Ptr6} (hT : TreeAt (Lt w.heap.size) w t p) (hb : Below w.heap.size w W) : TreeAt (Lt W.heap.size) W t p := (hT.keep (keep_below hb)).imp (lt_mono hb.size)
theorem below_al {a w : World} (h : Below a.heap.size a w) (o : Obj) : Below a.heap.size a (w.alloc o) := h.alloc h.size o
theorem below_gr {a w w' : World} {row : Option Nat} (h : Below a.heap.size a w) (hg : w.grownBy w' row) (hr : ∀ g, row = some g → a.heap.size ≤ g) : Below a.heap.size a w' := h.grown hg h.size hr
theorem Blk.new' (w : World) (t : TypeId) (cs : Array Value) (g : Nat) (h : g = w.heap.size) : Blk (w.alloc (.cells cs t)) g t cs := h ▸ Blk.new w t cs
theorem blk_gr {w w' : World} {g : Nat} {t : TypeId} {cs : Array Value} {row : Option Nat} (h : Blk w g t cs) (hb : w.grownBy w' row) (hg : row ≠ some g) : Blk w' g t cs := h.grown hb (fun e => hg e.symm)

/-- The terms of a tree as a row of cells. -/
theorem nodes_rd {Pb : Nat → Prop} {w : World} {A : Option Addr} {ts : List TermD} (h : NodesAt Pb w A ts) : ∃ r : List (TermD × Ptr3), r.map (·.1) = ts ∧ RdAt w A (tmCells r) ∧ (∀ x ∈ r, TermOk Pb w x.1 x.2) ∧ (r = [] ∨ ∃ b off, A = some ⟨b, off, none⟩ ∧ Pb b) := by
  rcases Nat.eq_zero_or_pos ts.length with h0 | h0
  · have : ts = [] := List.eq_nil_of_length_eq_zero h0
    subst this
    exact ⟨[], rfl, .inl rfl, fun x hx => by simp at hx, .inl rfl⟩
  · obtain ⟨b, off, rfl, hb, hc⟩ := h h0
    have key : ∀ k, k ≤ ts.length → ∃ r : List (TermD × Ptr3), r.map (·.1) = ts.take k ∧ (∀ i x, r[i]? = some x → ∀ j u, (termCells x.1 x.2)[j]? = some u → w.cell? ⟨b, off + i * 8 + j, none⟩ = some u) ∧ ∀ x ∈ r, TermOk Pb w x.1 x.2 := by
      intro k
      induction k with
      | zero => exact fun _ => ⟨[], rfl, fun i x hx => by simp at hx, fun x hx => by simp at hx⟩
      | succ k ih =>
        intro hk
        obtain ⟨r, h1, h2, h3⟩ := ih (by omega)
        have hkl : k < ts.length := by omega
        obtain ⟨q, hq, hcq⟩ := hc k _ (List.getElem?_eq_getElem hkl)
        have hrl : r.length = k := by have := congrArg List.length h1; simp at this; omega
        refine ⟨r ++ [(ts[k], q)], by rw [List.map_append, h1, List.take_succ_eq_append_getElem hkl]; rfl, fun i x hx => ?_, fun x hx => ?_⟩
        · by_cases hi : i < r.length
          · rw [List.getElem?_append_left hi] at hx
            exact h2 i x hx
          · have hi2 := (List.getElem?_eq_some_iff.1 hx).1
            simp only [List.length_append, List.length_singleton] at hi2
            obtain rfl : i = k := by omega
            rw [List.getElem?_append_right (by omega), hrl, Nat.sub_self] at hx
            simp only [List.getElem?_cons_zero, Option.some.injEq] at hx
            subst hx
            exact hcq
        · rcases List.mem_append.1 hx with hx | hx
          · exact h3 x hx
          · simp only [List.mem_singleton] at hx
            subst hx
            exact hq
    obtain ⟨r, h1, h2, h3⟩ := key ts.length (Nat.le_refl _)
    rw [List.take_length] at h1
    refine ⟨r, h1, .inr ⟨b, off, rfl, fun j u hu => ?_⟩, h3, .inr ⟨b, off, rfl, hb⟩⟩
    have hj := (List.getElem?_eq_some_iff.1 hu).1
    rw [flat_len (fun x : TermD × Ptr3 => termCells x.1 x.2) 8 (fun a => rfl)] at hj
    have hi : j / 8 < r.length := by omega
    have hg := flat_get (fun x : TermD × Ptr3 => termCells x.1 x.2) 8 (fun a => rfl) r (j / 8) r[j / 8] (j % 8) (List.getElem?_eq_getElem hi) (by omega)
    rw [show j / 8 * 8 + j % 8 = j by omega] at hg
    have hu' : (termCells r[j / 8].1 r[j / 8].2)[j % 8]? = some u := hg.symm.trans hu
    have := h2 (j / 8) _ (List.getElem?_eq_getElem hi) (j % 8) u hu'
    rw [show off + j / 8 * 8 + j % 8 = off + j by omega] at this
    exact this
theorem rd_on {B : Nat} {w W : World} {A : Option Addr} {r : List (TermD × Ptr3)} (h : RdAt w A (tmCells r)) (hA : r = [] ∨ ∃ b off, A = some ⟨b, off, none⟩ ∧ b < B) (hb : Below B w W) : RdAt W A (tmCells r) := by
  rcases hA with rfl | ⟨b, off, rfl, hlt⟩
  · exact .inl rfl
  · rcases h with h | ⟨b', off', e, h⟩
    · exact .inl h
    · injection e with e
      injection e with e1 e2
      subst e1 e2
      exact .inr ⟨b, off, rfl, fun j u hu => (hb.cell (p := ⟨b, off + j, none⟩) hlt).trans (h j u hu)⟩

theorem cells_one (r : List (TermD × Ptr3)) : ∀ u ∈ tmCells r, u.oneCell' = true := fun u hu => by
  obtain ⟨a, _, ha⟩ := List.mem_flatMap.1 hu
  simp only [termCells, List.mem_cons, List.not_mem_nil, or_false] at ha
  rcases ha with rfl | rfl | rfl | rfl | rfl | rfl | rfl | rfl <;> rfl

section
variable {w w3 : World} {ops : Array Oper} {o : Oper} {a : Act} {K : Act → World → Prop} {Q : Exit → Act → World → Prop} {E : Prop}
/-- The tree's terms onto a row of none. -/
theorem step_first (hgd : o.guard = none) (s x : Operand) (ho : o.op = .call { callee := .builtin .append, args := #[s, x], argTypes := #[24, 24] }) (g n c : Nat) (A : Option Addr) (r : List (TermD × Ptr3))
    (hs : a.eval s = .slice (some ⟨g, 0, none⟩) 0 0) (hx : a.eval x = .slice A n c) (hb : Blk w g 60 #[]) (hg : w3.heap.size ≤ g) (hr : r.length = n) (hn : n ≤ 1000) (hrd : RdAt w A (tmCells r)) (hz : w3.heap.size ≤ w.heap.size)
    (h : ∀ v' w', w'.ownsRow w3.heap.size 60 8 v' n (tmCells r) → w.grownBy w' (some g) → K (a.put o.dst v') w') : if Region.wanted o (yielded ops a.tmps) = true then Oper.wp Tryz.prog o a w K Q else E := by
  obtain ⟨i0, hi, hz0, hz1, hz2⟩ := info_parts info33
  refine step_app w hgd s x 24 ho w3.heap.size 60 i0 _ 8 120 Tryz.underlying24 hi hz0 hz1 hz2 rfl (by decide) _ 0 [] hs ⟨rfl, .inr ⟨g, 0, #[], rfl, hg, hb, Nat.le_refl _, by decide, rfl, rfl⟩⟩ A n c (tmCells r) hx ?_ hrd (cells_one r) (by unfold maxLen; omega) (by omega) hz fun v' w' h1 h2 _ => h v' w' (by simpa using h1) h2
  rw [flat_len (fun x : TermD × Ptr3 => termCells x.1 x.2) 8 (fun a => rfl), hr]
/-- One term more; the block of its kids, and the box that waits for the tree, stay. -/
theorem step_second (hgd : o.guard = none) (s x : Operand) (ho : o.op = .call { callee := .builtin .append, args := #[s, x], argTypes := #[24, 24] }) (g n c gk : Nat) (v : Value) (r : List (TermD × Ptr3)) (y : TermD) (ks : Array Value)
    (hs : a.eval s = v) (hx : a.eval x = .slice (some ⟨g, 0, none⟩) 1 c) (hb : Blk w g 60 (termCells y ⟨none, 0, some ⟨gk, 0, none⟩, 1, none, 0⟩).toArray) (hown : w.ownsRow w3.heap.size 60 8 v n (tmCells r)) (hn : n ≤ 1000) (hz : w3.heap.size ≤ w.heap.size)
    (hk : Blk w gk 3 ks) (h6 : a.eval (.tmp 5) = undef ∨ ∃ u, a.eval (.tmp 5) = .pointer (some ⟨u, 0, none⟩) ∧ Blk w u 28 #[.slice none 0 0, .slice none 0 0, .slice none 0 0])
    (h : ∀ A' c' w', w'.ownsRow w3.heap.size 60 8 (.slice A' (n + 1) c') (n + 1) (tmCells (r ++ [(y, ⟨none, 0, some ⟨gk, 0, none⟩, 1, none, 0⟩)])) → Below w3.heap.size w w' → Blk w' gk 3 ks → (∀ u, a.eval (.tmp 5) = .pointer (some ⟨u, 0, none⟩) → Blk w' u 28 #[.slice none 0 0, .slice none 0 0, .slice none 0 0]) → K (a.put o.dst (.slice A' (n + 1) c')) w') :
    if Region.wanted o (yielded ops a.tmps) = true then Oper.wp Tryz.prog o a w K Q else E := by
  obtain ⟨i0, hi, hz0, hz1, hz2⟩ := info_parts info33
  have e : tmCells (r ++ [(y, ⟨none, 0, some ⟨gk, 0, none⟩, 1, none, 0⟩)]) = tmCells r ++ termCells y ⟨none, 0, some ⟨gk, 0, none⟩, 1, none, 0⟩ := by simp [tmCells]
  refine step_app w hgd s x 24 ho w3.heap.size 60 i0 _ 8 120 Tryz.underlying24 hi hz0 hz1 hz2 rfl (by decide) v n (tmCells r) hs hown (some ⟨g, 0, none⟩) 1 c (termCells y ⟨none, 0, some ⟨gk, 0, none⟩, 1, none, 0⟩) hx rfl (.inr ⟨g, 0, rfl, fun j u hu => ?_⟩) ?_ (by unfold maxLen; omega) (by omega) hz fun v' w' h1 h2 _ => ?_
  · rw [hb.cell, Nat.zero_add]
    simpa using hu
  · have := cells_one [(y, ⟨none, 0, some ⟨gk, 0, none⟩, 1, none, 0⟩)]
    simpa [tmCells] using this
  · obtain ⟨A', c', rfl⟩ := own_form h1
    refine h A' c' w' (by rw [e]; exact h1) ((Below.refl _ w).grown h2 hz (own_base hown)) (blk_gr hk h2 (own_blk_ne hown hk (by decide))) fun u hu => ?_
    rcases h6 with h6 | ⟨u', h6, hbu⟩
    · rw [h6] at hu; cases hu
    · rw [h6] at hu
      cases hu
      exact blk_gr hbu h2 (own_blk_ne hown hbu (by decide))

/-- What the call has laid of a tree with a function around it. -/
structure LaidU (t : TreeD) (p : Ptr6) (name : ByteArray) (w3 : World) (Bu : Nat) (pu : Ptr6) (W : World) : Prop where
  blk : Blk W Bu 28 #[.slice pu.a1 (t.nodes.length + 1) pu.c1, .slice p.a2 t.types.length p.c2, .slice p.a3 t.aliases.length p.c3]
  own : ∃ r gk, r.map (·.1) = t.nodes ∧ (∀ x ∈ r, TermOk (Lt w3.heap.size) w3 x.1 x.2) ∧ W.ownsRow w3.heap.size 60 8 (.slice pu.a1 (t.nodes.length + 1) pu.c1) (t.nodes.length + 1) (tmCells (r ++ [(funN t.nodes.length name, ⟨none, 0, some ⟨gk, 0, none⟩, 1, none, 0⟩)])) ∧ Blk W gk 3 #[.int .i64 ((t.nodes.length : Int) - 1)]
  below : Below w3.heap.size w3 W
  new : w3.heap.size ≤ Bu
end
theorem LaidU.tree {t : TreeD} {p : Ptr6} {name : ByteArray} {w3 W : World} {Bu : Nat} {pu : Ptr6} (h : LaidU t p name w3 Bu pu W) (hT : TreeAt (Lt w3.heap.size) w3 t p) : TreeAt (Lt W.heap.size) W (funT t name) ⟨pu.a1, pu.c1, p.a2, p.c2, p.a3, p.c3⟩ := by
  obtain ⟨r, gk, hr, hok, hown, hk⟩ := h.own
  have hT' := tree_on hT h.below
  refine ⟨fun hl => ?_, hT'.2.1, hT'.2.2⟩
  have hrl : r.length = t.nodes.length := by rw [← hr, List.length_map]
  have hlen : (r ++ [(funN t.nodes.length name, (⟨none, 0, some ⟨gk, 0, none⟩, 1, none, 0⟩ : Ptr3))]).length = t.nodes.length + 1 := by simp [hrl]
  obtain ⟨g, hA, hb, hg, hc⟩ := own_at (fun x : TermD × Ptr3 => termCells x.1 x.2) 8 (by decide) (fun a => rfl) hlen hown (by omega)
  refine ⟨g, 0, hA, hg, fun i x hx => ?_⟩
  have hxm : (funT t name).nodes = (r ++ [(funN t.nodes.length name, (⟨none, 0, some ⟨gk, 0, none⟩, 1, none, 0⟩ : Ptr3))]).map (·.1) := by
    rw [List.map_append, hr]; rfl
  rw [hxm] at hx
  simp only [List.getElem?_map, Option.map_eq_some_iff] at hx
  obtain ⟨y, hy, rfl⟩ := hx
  refine ⟨y.2, ?_, hc i y hy⟩
  rcases List.mem_append.1 (List.mem_of_getElem? hy) with hm | hm
  · exact ((hok y hm).keep (keep_below h.below)).imp (lt_mono h.below.size)
  · simp only [List.mem_singleton] at hm
    subst hm
    refine ⟨SlAt.nil, ⟨rfl, fun _ => ⟨gk, 0, rfl, hk.lt, fun j u hu => ?_⟩⟩, SlAt.nil⟩
    rw [hk.cell, Nat.zero_add]
    simpa [funN] using hu

theorem LaidU.end {t : TreeD} {p : Ptr6} {name : ByteArray} {w3 W : World} {Bu : Nat} {A : Option Addr} {c gk : Nat} {r : List (TermD × Ptr3)} {a b d : Value} (hr : r.map (·.1) = t.nodes) (hok : ∀ x ∈ r, TermOk (Lt w3.heap.size) w3 x.1 x.2)
    (hown : W.ownsRow w3.heap.size 60 8 (.slice A (t.nodes.length + 1) c) (t.nodes.length + 1) (tmCells (r ++ [(funN t.nodes.length name, ⟨none, 0, some ⟨gk, 0, none⟩, 1, none, 0⟩)]))) (hk : Blk W gk 3 #[.int .i64 ((t.nodes.length : Int) - 1)]) (hb : Below w3.heap.size w3 W)
    (hX : Blk W Bu 28 #[a, b, d]) (hn : w3.heap.size ≤ Bu) :
    LaidU t p name w3 Bu ⟨A, c, p.a2, p.c2, p.a3, p.c3⟩ (((W.setCell ⟨Bu, 0, none⟩ (.slice A (t.nodes.length + 1) c)).setCell ⟨Bu, 1, none⟩ (.slice p.a2 t.types.length p.c2)).setCell ⟨Bu, 2, none⟩ (.slice p.a3 t.aliases.length p.c3)) := by
  have hne : gk ≠ Bu := fun e => by
    subst e
    have := hk.symm.trans hX
    simp at this
  have hon : ∀ (V : World) (o : Nat) (v : Value), V.grownBy (V.setCell ⟨Bu, o, none⟩ v) (some Bu) := fun V o v => only_setCell (only_refl V (some Bu)) (.inl rfl) v
  have hno : (Value.slice A (t.nodes.length + 1) c).ownBlock ≠ some Bu := own_blk_ne hown hX (by decide)
  refine ⟨?_, ⟨r, gk, hr, hok, ?_, ?_⟩, ?_, hn⟩
  · have := ((hX.set_ 0 (.slice A (t.nodes.length + 1) c)).set_ 1 (.slice p.a2 t.types.length p.c2)).set_ 2 (.slice p.a3 t.aliases.length p.c3)
    exact this
  · exact ((hown.kept (hon _ 0 _) (.inr hno)).kept (hon _ 1 _) (.inr hno)).kept (hon _ 2 _) (.inr hno)
  · exact ((hk.far (p := ⟨Bu, 0, none⟩) hne _).far (p := ⟨Bu, 1, none⟩) hne _).far (p := ⟨Bu, 2, none⟩) hne _
  · exact ((hb.setCell (p := ⟨Bu, 0, none⟩) hn _).setCell (p := ⟨Bu, 1, none⟩) hn _).setCell (p := ⟨Bu, 2, none⟩) hn _
theorem LaidU.end1 {t : TreeD} {p : Ptr6} {name : ByteArray} {w3 W : World} {A : Option Addr} {c gk : Nat} {r : List (TermD × Ptr3)} (hr : r.map (·.1) = t.nodes) (hok : ∀ x ∈ r, TermOk (Lt w3.heap.size) w3 x.1 x.2)
    (hown : W.ownsRow w3.heap.size 60 8 (.slice A (t.nodes.length + 1) c) (t.nodes.length + 1) (tmCells (r ++ [(funN t.nodes.length name, ⟨none, 0, some ⟨gk, 0, none⟩, 1, none, 0⟩)]))) (hk : Blk W gk 3 #[.int .i64 ((t.nodes.length : Int) - 1)]) (hb : Below w3.heap.size w3 W) :
    LaidU t p name w3 W.heap.size ⟨A, c, p.a2, p.c2, p.a3, p.c3⟩ (W.alloc (.cells #[.slice A (t.nodes.length + 1) c, .slice p.a2 t.types.length p.c2, .slice p.a3 t.aliases.length p.c3] 28)) :=
  ⟨Blk.new _ _ _, ⟨r, gk, hr, hok, hown.alloc _, hk.alloc _⟩, below_al hb _, hb.size⟩

end Go.Proofs.YtjbdgjbmbohfmaaGreatDoor

namespace Go.Proofs.YtjbdgjbmbohfmaaGreatDoor
open Go Go.Proofs Go.RowKit

theorem fun_few {t : TreeD} {name : ByteArray} (h : TreeFew t) (hn : name.size ≤ 1000) (h2 : t.nodes.length ≤ 999) : TreeFew (funT t name) := by
  obtain ⟨a, b, c, d, e, f⟩ := h
  refine ⟨fun x hx => ?_, b, c, d, by simp [funT]; omega, f⟩
  rcases List.mem_append.1 hx with hx | hx
  · exact a x hx
  · simp only [List.mem_singleton] at hx
    subst hx
    exact ⟨hn, by simp [funN], fun s hs => by simp [funN] at hs, by simp [funN], by simp [funN]⟩
theorem filter_take {ns : List ByteArray} {k : Nat} (h : k < ns.length) (p : ByteArray → Bool) : (ns.take (k + 1)).filter p = (ns.take k).filter p ++ (if p ns[k] then [ns[k]] else []) := by
  rw [List.take_succ_eq_append_getElem h, List.filter_append]
  congr 1
  simp [List.filter_cons]

attribute [local irreducible] Blk

set_option maxRecDepth 100000 in
set_option maxHeartbeats 40000000 in
theorem law13_yes (t : TreeD) (p : Ptr6) (name : ByteArray) (w : World) (hE : Env w) (hT : TreeAt (Lt w.heap.size) w t p) (hF : TreeFew t) (hf : fewB t = true) (h1 : t.nodes.length ≤ 50) (hC : checkF t = true) (hN : isName (tl name) = true) (h3 : name.size ≤ 50) (hI : ∀ x ∈ t.nodes, x.int ≤ 9223372036854775807) :
    Calls Tryz.prog 13 #[treeV t p, .string name] w fun e w' => e = .returned (.bool true) ∧ Below w.heap.size w w' := by
  obtain ⟨W1, hW1⟩ : ∃ W1, w.alloc (.cells #[.slice p.a1 t.nodes.length p.c1, .slice p.a2 t.types.length p.c2, .slice p.a3 t.aliases.length p.c3] 28) = W1 := ⟨_, rfl⟩
  have hB1 : Below w.heap.size w W1 := by rw [← hW1]; exact (Below.refl _ _).alloc (Nat.le_refl _) _
  have hX : Blk W1 w.heap.size 28 #[.slice p.a1 t.nodes.length p.c1, .slice p.a2 t.types.length p.c2, .slice p.a3 t.aliases.length p.c3] := by rw [← hW1]; exact Blk.new w 28 _
  have hXl := hX.lt
  have kL := lives_any W1 (hE.on hB1)
  have hWh := (checkF_iff t).1 hC
  have h2 : 0 < t.nodes.length := hWh.rng.one
  have HX := Lib.hid hX
  have HE := Lib.hid hE
  have HT := Lib.hid hT
  have HF := Lib.hid hF
  have HFB := Lib.hid hf
  have HC := Lib.hid hC
  have HN := Lib.hid hN
  have HI := Lib.hid hI
  have HWH := Lib.hid hWh
  have d1 : decide ((50 : Int) < t.nodes.length) = false := by simp; omega
  have d3 : decide ((50 : Int) < name.size) = false := by simp; omega
  clear hX hE hT hF hf hC hN hWh hI
  go_enter Tryz.func13, Tryz.ntmps13
  go_wp2_with fail
  refine kL.mono ?_
  rintro e w2 ⟨rfl, hb2⟩
  have hB2 : Below w.heap.size w w2 := hB1.trans (hb2.mono (by omega))
  have hX2 := HX.out.below hb2 hXl
  have y0 := hX2.cell 0
  have y1 := hX2.cell 1
  have y2 := hX2.cell 2
  simp only [List.getElem?_toArray, List.getElem?_cons_zero, List.getElem?_cons_succ] at y0 y1 y2
  have HX2 := Lib.hid hX2
  have hX2l := hX2.lt
  have kF := few_any t p w2 (tree_on HT.out hB2) (by omega) (by have := HF.out.2.2.2.2.2; omega) (by have := HF.out.2.2.2.1; omega)
  rw [HFB.out] at kF
  clear hX2 kL hb2
  go_wp2_with fail
  refine kF.mono ?_
  rintro e w3 ⟨rfl, hb3⟩
  have hB3 : Below w.heap.size w w3 := hB2.trans (hb3.mono (by omega))
  have hX3 := HX2.out.below hb3 hX2l
  have z0 := hX3.cell 0
  have z1 := hX3.cell 1
  have z2 := hX3.cell 2
  simp only [List.getElem?_toArray, List.getElem?_cons_zero, List.getElem?_cons_succ] at z0 z1 z2
  have HX3 := Lib.hid hX3
  have hX3l := hX3.lt
  have kR := right_any t p w3 (tree_on HT.out hB3) HF.out HI.out
  rw [HC.out] at kR
  clear hX3 kF hb3 y0 y1 y2
  go_wp2_with fail
  refine kR.mono ?_
  rintro e w4 ⟨rfl, hb4⟩
  have hB4 : Below w.heap.size w w4 := hB3.trans (hb4.mono (by omega))
  have hX4 := HX3.out.below hb4 hX3l
  clear z0 z1 z2
  have z0 := hX4.cell 0
  have z1 := hX4.cell 1
  have z2 := hX4.cell 2
  simp only [List.getElem?_toArray, List.getElem?_cons_zero, List.getElem?_cons_succ] at z0 z1 z2
  have HX4 := Lib.hid hX4
  have hX4l := hX4.lt
  have kN := rname_big name (by omega) w4
  rw [HN.out] at kN
  clear hX4 kR hb4
  go_wp2_with fail
  refine kN.mono ?_
  rintro e w4' ⟨rfl, rfl⟩
  clear kN
  go_wp2_with fail
  have hsub : IntKind.i64.wrap ((t.nodes.length : Int) - 1) = (t.nodes.length : Int) - 1 := IntWalk.i64_in _ (by omega)
  go_cut [5] from 9 (fun v w5 => ∃ (Bu : Nat) (pu : Ptr6), v = .pointer (some ⟨Bu, 0, none⟩) ∧ LaidU t p name w4 Bu pu w5)
  case first =>
    obtain ⟨r, hr, hrd, hok, hA⟩ := nodes_rd (tree_on HT.out hB4).1
    have hrl : r.length = t.nodes.length := by rw [← hr, List.length_map]
    have HRR := Lib.hid hr
    have HRD := Lib.hid hrd
    have HOK := Lib.hid hok
    have HRL := Lib.hid hrl
    have HA := Lib.hid hA
    have HS3 : Hid (∀ w', Below w4.heap.size w4 w' → w'.cell? ⟨w.heap.size, 0, none⟩ = some (.slice p.a1 t.nodes.length p.c1) ∧ w'.cell? ⟨w.heap.size, 1, none⟩ = some (.slice p.a2 t.types.length p.c2) ∧ w'.cell? ⟨w.heap.size, 2, none⟩ = some (.slice p.a3 t.aliases.length p.c3) ∧ Below w4.heap.size w4 w') := Lib.hid fun W hW =>
      ⟨(hW.cell (p := ⟨w.heap.size, 0, none⟩) hX4l).trans z0, (hW.cell (p := ⟨w.heap.size, 1, none⟩) hX4l).trans z1, (hW.cell (p := ⟨w.heap.size, 2, none⟩) hX4l).trans z2, hW⟩
    clear hr hrd hok hrl hA
    have hS0 := Below.refl w4.heap.size w4
    go_region_held3 (fun w' => w'.cell? ⟨w.heap.size, 0, none⟩ = some (.slice p.a1 t.nodes.length p.c1) ∧ w'.cell? ⟨w.heap.size, 1, none⟩ = some (.slice p.a2 t.types.length p.c2) ∧ w'.cell? ⟨w.heap.size, 2, none⟩ = some (.slice p.a3 t.aliases.length p.c3) ∧ Below w4.heap.size w4 w')
      (exact HS3.out _ (by repeat (first | with_reducible exact bel6 | with_reducible exact bel5 | with_reducible exact hS0 | with_reducible refine below_al ?_ _ | with_reducible refine Below.drew ?_ | (with_reducible refine Below.setCell ?_ ?_ _) | (dsimp only; omega))))
      (first
        | (refine step_first (w3 := w4) rfl _ _ rfl _ t.nodes.length p.c1 p.a1 r (by rfl) (by rfl) (by repeat (first | exact Blk.new' _ _ _ _ (by simp) | with_reducible refine Blk.alloc ?_ _ | with_reducible refine Blk.drew ?_ | with_reducible refine blk_gr ?_ H5.out ?_ | (simp; done) | (simp; omega))) (by first | omega | (simp; done) | (simp; omega)) HRL.out (by omega) (rd_on HRD.out HA.out (by repeat (first | with_reducible exact bel6 | with_reducible exact bel5 | with_reducible exact hS0 | with_reducible refine below_al ?_ _ | with_reducible refine Below.drew ?_ | (with_reducible refine Below.setCell ?_ ?_ _) | (dsimp only; omega)))) (by first | omega | (simp; done) | (simp; omega)) ?_; intro v5 w5 hown5 hgrow5; have hz5 : w4.heap.size ≤ w5.heap.size := (by have := hgrow5.size; simp at this; omega); have bel5 : Below w4.heap.size w4 w5 := below_gr (by repeat (first | with_reducible exact bel6 | with_reducible exact bel5 | with_reducible exact hS0 | with_reducible refine below_al ?_ _ | with_reducible refine Below.drew ?_ | (with_reducible refine Below.setCell ?_ ?_ _) | (dsimp only; omega))) hgrow5 (by intro g e; injection e; omega); have H5 := Lib.hid hgrow5; clear hgrow5)
        | (refine step_second (w3 := w4) rfl _ _ rfl _ t.nodes.length 1 _ v5 r (funN t.nodes.length name) #[.int .i64 ((t.nodes.length : Int) - 1)] (by rfl) (by rfl) (by repeat (first | exact Blk.new' _ _ _ _ (by simp) | with_reducible refine Blk.alloc ?_ _ | with_reducible refine Blk.drew ?_ | with_reducible refine blk_gr ?_ H5.out ?_ | (simp; done) | (simp; omega))) (by repeat (first | with_reducible exact hown5 | with_reducible refine World.ownsRow.alloc ?_ _)) (by omega) (by first | omega | (simp; done) | (simp; omega)) (by repeat (first | exact Blk.new' _ _ _ _ (by simp) | with_reducible refine Blk.alloc ?_ _ | with_reducible refine Blk.drew ?_ | with_reducible refine blk_gr ?_ H5.out ?_ | (simp; done) | (simp; omega))) (.inl (by rfl)) ?_; intro A6 c6 w6 hown6 hbel6 hkid6 _; have bel6 : Below w4.heap.size w4 w6 := Below.trans (by repeat (first | with_reducible exact bel6 | with_reducible exact bel5 | with_reducible exact hS0 | with_reducible refine below_al ?_ _ | with_reducible refine Below.drew ?_ | (with_reducible refine Below.setCell ?_ ?_ _) | (dsimp only; omega))) hbel6; have HK6 := Lib.hid hkid6; have HO6 := Lib.hid hown6; have hz6 := hbel6.size; clear hkid6 hown6 hbel6)
        | (refine step_second (w3 := w4) rfl _ _ rfl _ t.nodes.length 1 _ v5 r (funN t.nodes.length name) #[.int .i64 ((t.nodes.length : Int) - 1)] (by rfl) (by rfl) (by repeat (first | exact Blk.new' _ _ _ _ (by simp) | with_reducible refine Blk.alloc ?_ _ | with_reducible refine Blk.drew ?_ | with_reducible refine blk_gr ?_ H5.out ?_ | (simp; done) | (simp; omega))) (by repeat (first | with_reducible exact hown5 | with_reducible refine World.ownsRow.alloc ?_ _)) (by omega) (by first | omega | (simp; done) | (simp; omega)) (by repeat (first | exact Blk.new' _ _ _ _ (by simp) | with_reducible refine Blk.alloc ?_ _ | with_reducible refine Blk.drew ?_ | with_reducible refine blk_gr ?_ H5.out ?_ | (simp; done) | (simp; omega))) (.inr ⟨_, by rfl, (by repeat (first | exact Blk.new' _ _ _ _ (by simp) | with_reducible refine Blk.alloc ?_ _ | with_reducible refine Blk.drew ?_ | with_reducible refine blk_gr ?_ H5.out ?_ | (simp; done) | (simp; omega)))⟩) ?_; intro A6 c6 w6 hown6 hbel6 hkid6 hbox6; have bel6 : Below w4.heap.size w4 w6 := Below.trans (by repeat (first | with_reducible exact bel6 | with_reducible exact bel5 | with_reducible exact hS0 | with_reducible refine below_al ?_ _ | with_reducible refine Below.drew ?_ | (with_reducible refine Below.setCell ?_ ?_ _) | (dsimp only; omega))) hbel6; have hbx := hbox6 _ (by rfl); have HK6 := Lib.hid hkid6; have HO6 := Lib.hid hown6; have hz6 := hbel6.size; have k0 := hbx.cell 0; have k1 := hbx.cell 1; have k2 := hbx.cell 2; have m0 := hbx.frozen 0; have m1 := hbx.frozen 1; have m2 := hbx.frozen 2; simp only [List.getElem?_toArray, List.getElem?_cons_zero, List.getElem?_cons_succ] at k0 k1 k2; have HB6 := Lib.hid hbx; clear hkid6 hown6 hbx hbox6 hbel6))
    all_goals
      go_wp2_with fail
      go_meet
      case rel => first | exact ⟨_, ⟨A6, c6, p.a2, p.c2, p.a3, p.c3⟩, rfl, LaidU.end1 HRR.out HOK.out HO6.out HK6.out bel6⟩ | exact ⟨_, ⟨A6, c6, p.a2, p.c2, p.a3, p.c3⟩, rfl, LaidU.end HRR.out HOK.out HO6.out HK6.out bel6 HB6.out (by omega)⟩
  case rest =>
    obtain ⟨Bu, pu, rfl, hU⟩ := hcut
    have hBc : Below w.heap.size w wc := hB4.trans (hU.below.mono (by omega))
    have hXc := HX4.out.below hU.below hX4l
    clear z0 z1 z2
    have z0 := hXc.cell 0
    have z1 := hXc.cell 1
    have z2 := hXc.cell 2
    simp only [List.getElem?_toArray, List.getElem?_cons_zero, List.getElem?_cons_succ] at z0 z1 z2
    have hTc := tree_on HT.out hBc
    have hTu := hU.tree (tree_on HT.out hB4)
    have hFu : TreeFew (funT t name) := fun_few HF.out (by omega) (by omega)
    have hul : (funT t name).nodes.length = t.nodes.length + 1 := funT_len t name
    have kT := free_any t p wc (env4_of (HE.out.on hBc)) hTc HF.out
    have hzu := hU.blk.lt
    have HU := Lib.hid hU
    have HTu := Lib.hid hTu
    have HFu := Lib.hid hFu
    have HUL := Lib.hid hul
    have HBc := Lib.hid hBc
    have HH1 := Lib.hid h1
    have HH3 := Lib.hid h3
    obtain ⟨i9, hi9, hj0, hj1, hj2⟩ := info_parts info9
    clear hXc hU hTc hTu hFu hul hBc d1 d3 h1 h2 h3 hsub hB1 hB2 hB3 hB4 hX2l hX3l hX4l hXl
    go_wp2_with fail
    refine kT.mono ?_
    rintro e w5 ⟨v, ns, rfl, hrow, hrise, hmem, hb5⟩
    clear kT z0 z1 z2
    have hnl : ns.length ≤ 50 := Nat.le_trans (free_len hrise fun s hs => ((hmem s).1 hs).2) HH1.out
    obtain ⟨A, c, rfl, hcc, hSl⟩ := SlAt.of_own hrow
    have hrd := RdAt.of_sl hSl
    have HSL := Lib.hid hSl
    have HMEM := Lib.hid hmem
    have HRISE := Lib.hid hrise
    have HB5 := Lib.hid hb5
    clear hrow hrise hmem hb5 hSl hrd hcc
    go_wp2
    go_loopw [6, 8, 59] (fun v6 _ v59 wr => ∃ (k : Nat) (out : List ByteArray), k ≤ ns.length ∧ v59 = .int .i64 (k : Int) ∧ out.length ≤ 50 ∧ Hid (out = (ns.take k).filter fun s => decide (s ≠ name)) ∧ Hid (wr.ownsRow w5.heap.size 9 1 v6 out.length (out.map .string)) ∧ Hid (Below w5.heap.size w5 wr)) (fun _ _ v59 _ => ns.length - (intOf v59).toNat)
    case atStart => exact ⟨0, [], Nat.zero_le _, rfl, by simp, Lib.hid (by simp), Lib.hid (World.ownsRow_nil _ _ _ _), Lib.hid (Below.refl _ _)⟩
    case round =>
      obtain ⟨k, out, hk, rfl, hol, HO, HR, HBR⟩ := hrel
      by_cases hlt : k < ns.length
      · obtain ⟨b, off, rfl, hbb, hcell⟩ := HSL.out.at_ hlt
        have e0 := (HBR.out.cell (p := ⟨b, off + k, none⟩) hbb.2).trans (hcell k (.string ns[k]) (by simp [hlt]))
        obtain ⟨s, hs⟩ : ∃ s, ns[k] = s := ⟨_, rfl⟩
        have hft := filter_take hlt fun s => decide (s ≠ name)
        rw [hs] at e0 hft
        have HFT := Lib.hid hft
        clear hft hs hcell
        by_cases hsn : s = name
        · subst hsn
          have hq : (s.toList != s.toList) = false := by simp
          have hq2 : (s.toList == s.toList) = true := by simp
          have HO2 : Hid (out = (ns.take (k + 1)).filter fun x => decide (x ≠ s)) := Lib.hid (by rw [HFT.out, ← HO.out]; simp)
          go_wp2
          go_roundw
          case rel => exact ⟨k + 1, out, by omega, by go_num, hol, HO2, HR, HBR⟩
          case measure => simp [intOf]; omega
        · have hq : (s.toList == name.toList) = false := by rw [beq_eq_false_iff_ne]; exact fun e => hsn (rtoList_inj e)
          have hq2 : (s.toList != name.toList) = true := by rw [bne_iff_ne]; exact fun e => hsn (rtoList_inj e)
          have HO2 : Hid (out ++ [s] = (ns.take (k + 1)).filter fun x => decide (x ≠ name)) := Lib.hid (by rw [HFT.out, ← HO.out]; simp [hsn])
          have hol2 : (out ++ [s]).length ≤ 50 := by
            rw [HO2.out]
            exact Nat.le_trans (List.length_filter_le _ _) (by rw [List.length_take]; omega)
          have HOL2 := Lib.hid hol2
          clear hol2
          go_wp2_with (at_builtin; refine wpList_append_own_at _ rfl _ _ 48 rfl w5.heap.size 9 i9 (.string ByteArray.empty) 1 16 Tryz.underlying48 hi9 hj0 hj1 hj2 rfl (by decide) _ out.length (out.map .string) rfl ?ra0 ⟨wr.heap.size, 0, none⟩ 1 1 [.string s] rfl rfl (cell_one_new _ _ _) (by simp [Value.oneCell']) ?ra1 ?ra2 ?ra3 ?_)
          case ra0 => exact HR.out.alloc _
          case ra1 => unfold maxLen; omega
          case ra2 => omega
          case ra3 => have := HBR.out.size; simp; omega
          intro v1 W6 hown hg6 _ _
          have hbX : Below w5.heap.size w5 (wr.alloc (.cells #[.string s] 9)) := HBR.out.alloc HBR.out.size _
          have HB6 := Lib.hid (hbX.grown hg6 hbX.size (fun g hg => (own_atZ HR.out g hg).1))
          have HR6 : Hid (W6.ownsRow w5.heap.size 9 1 v1 (out ++ [s]).length ((out ++ [s]).map .string)) := Lib.hid (by simpa using hown)
          clear hown hg6 hbX
          go_wp2
          go_roundw
          case rel => exact ⟨k + 1, out ++ [s], by omega, by go_num, HOL2.out, HO2, HR6, HB6⟩
          case measure => simp [intOf]; omega
      · obtain rfl : k = ns.length := by omega
        have hout : out = ns.filter fun s => decide (s ≠ name) := by have := HO.out; rwa [List.take_length] at this
        have HOUT := Lib.hid hout
        have hBwr : Below wc.heap.size wc wr := HB5.out.trans (HBR.out.mono HB5.out.size)
        have hTr := tree_on HTu.out hBwr
        have kU := free_any (funT t name) ⟨pu.a1, pu.c1, p.a2, p.c2, p.a3, p.c3⟩ wr (env4_of (HE.out.on (HBc.out.trans (hBwr.mono HBc.out.size)))) hTr HFu.out
        have hXr := HU.out.blk.below hBwr hzu
        have y0 := hXr.cell 0
        have y1 := hXr.cell 1
        have y2 := hXr.cell 2
        simp only [List.getElem?_toArray, List.getElem?_cons_zero, List.getElem?_cons_succ] at y0 y1 y2
        unfold treeV at kU
        dsimp only at kU
        rw [HUL.out] at kU
        have ht : (funT t name).types.length = t.types.length := rfl
        have ha : (funT t name).aliases.length = t.aliases.length := rfl
        rw [ht, ha] at kU
        have HBW := Lib.hid (HBc.out.trans (hBwr.mono HBc.out.size))
        obtain ⟨A6, c6, rfl⟩ := own_sliceZ HR.out
        clear hXr hTr hBwr ht ha hout
        go_wp2_with fail
        refine kU.mono ?_
        rintro e w8 ⟨v8, ms, rfl, hrow8, hrise8, hmem8, hb8⟩
        obtain ⟨A8, c8, rfl, _, hSl8⟩ := SlAt.of_own hrow8
        have hms : ms.length ≤ 51 := by
          have h := free_len hrise8 fun s hs => ((hmem8 s).1 hs).2
          have := HUL.out
          have := HH1.out
          omega
        obtain ⟨A6', c6', e6, _, hSl6⟩ := SlAt.of_own (own_belowZ HR.out hb8)
        injection e6 with e61 _ e63
        subst e61
        subst e63
        have hS := lsame_any A8 A6 c8 c6 ms out w8 (RdAt.of_sl hSl8) (RdAt.of_sl hSl6) (by omega) (by omega)
        have hfs := free_same HC.out HN.out (by have := HH1.out; omega) HRISE.out HMEM.out hrise8 (by rw [HUL.out]; exact hmem8)
        rw [decide_eq_true (hfs.trans HOUT.out.symm)] at hS
        have HB8 := Lib.hid (HBW.out.trans (hb8.mono HBW.out.size))
        clear hrow8 hrise8 hmem8 hb8 hSl8 hSl6 hfs y0 y1 y2 kU
        go_wp2_with fail
        refine hS.mono ?_
        rintro e w9 ⟨rfl, hb9⟩
        go_wp2
        go_ret
        exact ⟨rfl, HB8.out.trans (hb9.mono HB8.out.size)⟩
end Go.Proofs.YtjbdgjbmbohfmaaGreatDoor

namespace Go.Proofs.YtjbdgjbmbohfmaaGreatDoor
open Go Go.Proofs Go.RowKit

theorem law_boxF (t : TreeD) (p : Ptr6) (w W0 w1 : World) (hX0 : Blk W0 w.heap.size 28 #[.slice p.a1 t.nodes.length p.c1, .slice p.a2 t.types.length p.c2, .slice p.a3 t.aliases.length p.c3]) (hb : Below W0.heap.size W0 w1) :
    w1.cell? ⟨w.heap.size, 0, none⟩ = some (.slice p.a1 t.nodes.length p.c1) ∧ w1.cell? ⟨w.heap.size, 1, none⟩ = some (.slice p.a2 t.types.length p.c2) ∧ w1.cell? ⟨w.heap.size, 2, none⟩ = some (.slice p.a3 t.aliases.length p.c3) := by
  have hX1 := hX0.below hb hX0.lt
  have x0 := hX1.cell 0
  have x1 := hX1.cell 1
  have x2 := hX1.cell 2
  simp only [List.getElem?_toArray, List.getElem?_cons_zero, List.getElem?_cons_succ] at x0 x1 x2
  exact ⟨x0, x1, x2⟩

set_option maxRecDepth 100000 in
set_option maxHeartbeats 8000000 in
theorem law13_few (t : TreeD) (p : Ptr6) (name : ByteArray) (w : World) (hE : Env w) (hT : TreeAt (Lt w.heap.size) w t p) (b1 : t.nodes.length ≤ 9223372036854775807) (b2 : t.types.length ≤ 9223372036854775807) (b3 : t.aliases.length ≤ 9223372036854775807) (hI : ∀ x ∈ t.nodes, x.int ≤ 9223372036854775807) (_hs : name.size ≤ 140737488355328) (hf : fewB t = false) :
    Calls Tryz.prog 13 #[treeV t p, .string name] w fun e w' => e = .returned (.bool true) ∧ Below w.heap.size w w' := by
  obtain ⟨W0, hW0⟩ : ∃ W0, w.alloc (.cells #[.slice p.a1 t.nodes.length p.c1, .slice p.a2 t.types.length p.c2, .slice p.a3 t.aliases.length p.c3] 28) = W0 := ⟨_, rfl⟩
  obtain ⟨hb0, hX0, hT0⟩ := box_tree t p w W0 hT hW0
  have cL := lives_any W0 (hE.on hb0)
  have HE0 := Lib.hid (hE.on hb0)
  have HX0 := Lib.hid hX0
  have HB0 := Lib.hid hb0
  have HT0 := Lib.hid hT0
  have HI := Lib.hid hI
  have HF := Lib.hid hf
  clear hb0 hT0 hT hE hI hX0 hf
  go_enter Tryz.func13, Tryz.ntmps13
  go_wp2_with fail
  refine cL.mono ?_
  rintro e w1 ⟨rfl, hb1⟩
  clear hW0 cL
  obtain ⟨x0, x1, x2⟩ := law_boxF t p w W0 w1 HX0.out hb1
  have HB1 := Lib.hid hb1
  have HT1 := Lib.hid ((HT0.out.keep (keep_below hb1)).imp (lt_mono hb1.size))
  have cF := few_any t p w1 HT1.out b1 b2 b3
  rw [HF.out] at cF
  clear hb1
  go_wp2_with fail
  refine cF.mono ?_
  rintro e w2 ⟨rfl, hb2⟩
  have HB2 := Lib.hid (HB1.out.trans (hb2.mono HB1.out.size))
  clear cF x0 x1 x2
  have cL2 := lives_any w2 (HE0.out.on HB2.out)
  go_wp2_with fail
  refine cL2.mono ?_
  rintro e w9 ⟨rfl, hb9⟩
  have HB9 := Lib.hid (HB0.out.trans ((HB2.out.trans (hb9.mono HB2.out.size)).mono HB0.out.size))
  clear hb9 cL2
  go_wp2_with fail
  go_ret
  exact ⟨rfl, HB9.out⟩

set_option maxRecDepth 100000 in
set_option maxHeartbeats 8000000 in
theorem law13_long (t : TreeD) (p : Ptr6) (name : ByteArray) (w : World) (hE : Env w) (hT : TreeAt (Lt w.heap.size) w t p) (b1 : t.nodes.length ≤ 9223372036854775807) (b2 : t.types.length ≤ 9223372036854775807) (b3 : t.aliases.length ≤ 9223372036854775807) (hI : ∀ x ∈ t.nodes, x.int ≤ 9223372036854775807) (_hs : name.size ≤ 140737488355328) (hf : fewB t = true) (h1 : 50 < t.nodes.length) :
    Calls Tryz.prog 13 #[treeV t p, .string name] w fun e w' => e = .returned (.bool true) ∧ Below w.heap.size w w' := by
  obtain ⟨W0, hW0⟩ : ∃ W0, w.alloc (.cells #[.slice p.a1 t.nodes.length p.c1, .slice p.a2 t.types.length p.c2, .slice p.a3 t.aliases.length p.c3] 28) = W0 := ⟨_, rfl⟩
  obtain ⟨hb0, hX0, hT0⟩ := box_tree t p w W0 hT hW0
  have cL := lives_any W0 (hE.on hb0)
  have HE0 := Lib.hid (hE.on hb0)
  have HX0 := Lib.hid hX0
  have HB0 := Lib.hid hb0
  have HT0 := Lib.hid hT0
  have HI := Lib.hid hI
  have HF := Lib.hid hf
  clear hb0 hT0 hT hE hI hX0 hf
  have d1 : decide ((50 : Int) < t.nodes.length) = true := by simp; omega
  go_enter Tryz.func13, Tryz.ntmps13
  go_wp2_with fail
  refine cL.mono ?_
  rintro e w1 ⟨rfl, hb1⟩
  clear hW0 cL
  obtain ⟨x0, x1, x2⟩ := law_boxF t p w W0 w1 HX0.out hb1
  have HB1 := Lib.hid hb1
  have HT1 := Lib.hid ((HT0.out.keep (keep_below hb1)).imp (lt_mono hb1.size))
  have cF := few_any t p w1 HT1.out b1 b2 b3
  rw [HF.out] at cF
  clear hb1
  go_wp2_with fail
  refine cF.mono ?_
  rintro e w2 ⟨rfl, hb2⟩
  have HB2 := Lib.hid (HB1.out.trans (hb2.mono HB1.out.size))
  clear cF x0 x1 x2
  obtain ⟨x0, x1, x2⟩ := law_boxF t p w W0 w2 HX0.out HB2.out
  have cL2 := lives_any w2 (HE0.out.on HB2.out)
  go_wp2_with fail
  refine cL2.mono ?_
  rintro e w9 ⟨rfl, hb9⟩
  have HB9 := Lib.hid (HB0.out.trans ((HB2.out.trans (hb9.mono HB2.out.size)).mono HB0.out.size))
  clear hb9 cL2
  go_wp2_with fail
  go_ret
  exact ⟨rfl, HB9.out⟩

set_option maxRecDepth 100000 in
set_option maxHeartbeats 8000000 in
theorem law13_form (t : TreeD) (p : Ptr6) (name : ByteArray) (w : World) (hE : Env w) (hT : TreeAt (Lt w.heap.size) w t p) (b1 : t.nodes.length ≤ 9223372036854775807) (b2 : t.types.length ≤ 9223372036854775807) (b3 : t.aliases.length ≤ 9223372036854775807) (hI : ∀ x ∈ t.nodes, x.int ≤ 9223372036854775807) (_hs : name.size ≤ 140737488355328) (hf : fewB t = true) (h1 : t.nodes.length ≤ 50) (hc : checkF t = false) :
    Calls Tryz.prog 13 #[treeV t p, .string name] w fun e w' => e = .returned (.bool true) ∧ Below w.heap.size w w' := by
  obtain ⟨W0, hW0⟩ : ∃ W0, w.alloc (.cells #[.slice p.a1 t.nodes.length p.c1, .slice p.a2 t.types.length p.c2, .slice p.a3 t.aliases.length p.c3] 28) = W0 := ⟨_, rfl⟩
  obtain ⟨hb0, hX0, hT0⟩ := box_tree t p w W0 hT hW0
  have cL := lives_any W0 (hE.on hb0)
  have HE0 := Lib.hid (hE.on hb0)
  have HX0 := Lib.hid hX0
  have HB0 := Lib.hid hb0
  have HT0 := Lib.hid hT0
  have HI := Lib.hid hI
  have HF := Lib.hid hf
  clear hb0 hT0 hT hE hI hX0 hf
  have HC := Lib.hid hc
  clear hc
  have d1 : decide ((50 : Int) < t.nodes.length) = false := by simp; omega
  go_enter Tryz.func13, Tryz.ntmps13
  go_wp2_with fail
  refine cL.mono ?_
  rintro e w1 ⟨rfl, hb1⟩
  clear hW0 cL
  obtain ⟨x0, x1, x2⟩ := law_boxF t p w W0 w1 HX0.out hb1
  have HB1 := Lib.hid hb1
  have HT1 := Lib.hid ((HT0.out.keep (keep_below hb1)).imp (lt_mono hb1.size))
  have cF := few_any t p w1 HT1.out b1 b2 b3
  rw [HF.out] at cF
  clear hb1
  go_wp2_with fail
  refine cF.mono ?_
  rintro e w2 ⟨rfl, hb2⟩
  have HB2 := Lib.hid (HB1.out.trans (hb2.mono HB1.out.size))
  clear cF x0 x1 x2
  obtain ⟨x0, x1, x2⟩ := law_boxF t p w W0 w2 HX0.out HB2.out
  have HFW := Lib.hid (few_of HF.out)
  have HT2 := Lib.hid ((HT1.out.keep (keep_below hb2)).imp (lt_mono hb2.size))
  have cR := right_any t p w2 HT2.out HFW.out HI.out
  rw [HC.out] at cR
  clear hb2
  go_wp2_with fail
  refine cR.mono ?_
  rintro e w3 ⟨rfl, hb3⟩
  have HB3 := Lib.hid (HB2.out.trans (hb3.mono HB2.out.size))
  clear hb3 x0 x1 x2 cR
  have cL2 := lives_any w3 (HE0.out.on HB3.out)
  go_wp2_with fail
  refine cL2.mono ?_
  rintro e w9 ⟨rfl, hb9⟩
  have HB9 := Lib.hid (HB0.out.trans ((HB3.out.trans (hb9.mono HB3.out.size)).mono HB0.out.size))
  clear hb9 cL2
  go_wp2_with fail
  go_ret
  exact ⟨rfl, HB9.out⟩

set_option maxRecDepth 100000 in
set_option maxHeartbeats 8000000 in
theorem law13_name (t : TreeD) (p : Ptr6) (name : ByteArray) (w : World) (hE : Env w) (hT : TreeAt (Lt w.heap.size) w t p) (b1 : t.nodes.length ≤ 9223372036854775807) (b2 : t.types.length ≤ 9223372036854775807) (b3 : t.aliases.length ≤ 9223372036854775807) (hI : ∀ x ∈ t.nodes, x.int ≤ 9223372036854775807) (hs : name.size ≤ 140737488355328) (hf : fewB t = true) (h1 : t.nodes.length ≤ 50) (hc : checkF t = true) (hn : isName (tl name) = false) :
    Calls Tryz.prog 13 #[treeV t p, .string name] w fun e w' => e = .returned (.bool true) ∧ Below w.heap.size w w' := by
  obtain ⟨W0, hW0⟩ : ∃ W0, w.alloc (.cells #[.slice p.a1 t.nodes.length p.c1, .slice p.a2 t.types.length p.c2, .slice p.a3 t.aliases.length p.c3] 28) = W0 := ⟨_, rfl⟩
  obtain ⟨hb0, hX0, hT0⟩ := box_tree t p w W0 hT hW0
  have cL := lives_any W0 (hE.on hb0)
  have HE0 := Lib.hid (hE.on hb0)
  have HX0 := Lib.hid hX0
  have HB0 := Lib.hid hb0
  have HT0 := Lib.hid hT0
  have HI := Lib.hid hI
  have HF := Lib.hid hf
  clear hb0 hT0 hT hE hI hX0 hf
  have HC := Lib.hid hc
  have HN := Lib.hid hn
  clear hc hn
  have d1 : decide ((50 : Int) < t.nodes.length) = false := by simp; omega
  go_enter Tryz.func13, Tryz.ntmps13
  go_wp2_with fail
  refine cL.mono ?_
  rintro e w1 ⟨rfl, hb1⟩
  clear hW0 cL
  obtain ⟨x0, x1, x2⟩ := law_boxF t p w W0 w1 HX0.out hb1
  have HB1 := Lib.hid hb1
  have HT1 := Lib.hid ((HT0.out.keep (keep_below hb1)).imp (lt_mono hb1.size))
  have cF := few_any t p w1 HT1.out b1 b2 b3
  rw [HF.out] at cF
  clear hb1
  go_wp2_with fail
  refine cF.mono ?_
  rintro e w2 ⟨rfl, hb2⟩
  have HB2 := Lib.hid (HB1.out.trans (hb2.mono HB1.out.size))
  clear cF x0 x1 x2
  obtain ⟨x0, x1, x2⟩ := law_boxF t p w W0 w2 HX0.out HB2.out
  have HFW := Lib.hid (few_of HF.out)
  have HT2 := Lib.hid ((HT1.out.keep (keep_below hb2)).imp (lt_mono hb2.size))
  have cR := right_any t p w2 HT2.out HFW.out HI.out
  rw [HC.out] at cR
  clear hb2
  go_wp2_with fail
  refine cR.mono ?_
  rintro e w3 ⟨rfl, hb3⟩
  have HB3 := Lib.hid (HB2.out.trans (hb3.mono HB2.out.size))
  clear hb3 x0 x1 x2 cR
  have kN := rname_big name hs w3
  rw [HN.out] at kN
  go_wp2_with fail
  refine kN.mono ?_
  rintro e w4 ⟨rfl, rfl⟩
  clear kN
  have cL2 := lives_any w3 (HE0.out.on HB3.out)
  go_wp2_with fail
  refine cL2.mono ?_
  rintro e w9 ⟨rfl, hb9⟩
  have HB9 := Lib.hid (HB0.out.trans ((HB3.out.trans (hb9.mono HB3.out.size)).mono HB0.out.size))
  clear hb9 cL2
  go_wp2_with fail
  go_ret
  exact ⟨rfl, HB9.out⟩

set_option maxRecDepth 100000 in
set_option maxHeartbeats 8000000 in
theorem law13_size (t : TreeD) (p : Ptr6) (name : ByteArray) (w : World) (hE : Env w) (hT : TreeAt (Lt w.heap.size) w t p) (b1 : t.nodes.length ≤ 9223372036854775807) (b2 : t.types.length ≤ 9223372036854775807) (b3 : t.aliases.length ≤ 9223372036854775807) (hI : ∀ x ∈ t.nodes, x.int ≤ 9223372036854775807) (hs : name.size ≤ 140737488355328) (hf : fewB t = true) (h1 : t.nodes.length ≤ 50) (hc : checkF t = true) (hn : isName (tl name) = true) (h3 : 50 < name.size) :
    Calls Tryz.prog 13 #[treeV t p, .string name] w fun e w' => e = .returned (.bool true) ∧ Below w.heap.size w w' := by
  obtain ⟨W0, hW0⟩ : ∃ W0, w.alloc (.cells #[.slice p.a1 t.nodes.length p.c1, .slice p.a2 t.types.length p.c2, .slice p.a3 t.aliases.length p.c3] 28) = W0 := ⟨_, rfl⟩
  obtain ⟨hb0, hX0, hT0⟩ := box_tree t p w W0 hT hW0
  have cL := lives_any W0 (hE.on hb0)
  have HE0 := Lib.hid (hE.on hb0)
  have HX0 := Lib.hid hX0
  have HB0 := Lib.hid hb0
  have HT0 := Lib.hid hT0
  have HI := Lib.hid hI
  have HF := Lib.hid hf
  clear hb0 hT0 hT hE hI hX0 hf
  have HC := Lib.hid hc
  have HN := Lib.hid hn
  clear hc hn
  have d1 : decide ((50 : Int) < t.nodes.length) = false := by simp; omega
  have d3 : decide ((50 : Int) < name.size) = true := by simp; omega
  go_enter Tryz.func13, Tryz.ntmps13
  go_wp2_with fail
  refine cL.mono ?_
  rintro e w1 ⟨rfl, hb1⟩
  clear hW0 cL
  obtain ⟨x0, x1, x2⟩ := law_boxF t p w W0 w1 HX0.out hb1
  have HB1 := Lib.hid hb1
  have HT1 := Lib.hid ((HT0.out.keep (keep_below hb1)).imp (lt_mono hb1.size))
  have cF := few_any t p w1 HT1.out b1 b2 b3
  rw [HF.out] at cF
  clear hb1
  go_wp2_with fail
  refine cF.mono ?_
  rintro e w2 ⟨rfl, hb2⟩
  have HB2 := Lib.hid (HB1.out.trans (hb2.mono HB1.out.size))
  clear cF x0 x1 x2
  obtain ⟨x0, x1, x2⟩ := law_boxF t p w W0 w2 HX0.out HB2.out
  have HFW := Lib.hid (few_of HF.out)
  have HT2 := Lib.hid ((HT1.out.keep (keep_below hb2)).imp (lt_mono hb2.size))
  have cR := right_any t p w2 HT2.out HFW.out HI.out
  rw [HC.out] at cR
  clear hb2
  go_wp2_with fail
  refine cR.mono ?_
  rintro e w3 ⟨rfl, hb3⟩
  have HB3 := Lib.hid (HB2.out.trans (hb3.mono HB2.out.size))
  clear hb3 x0 x1 x2 cR
  have kN := rname_big name hs w3
  rw [HN.out] at kN
  go_wp2_with fail
  refine kN.mono ?_
  rintro e w4 ⟨rfl, rfl⟩
  clear kN
  have cL2 := lives_any w3 (HE0.out.on HB3.out)
  go_wp2_with fail
  refine cL2.mono ?_
  rintro e w9 ⟨rfl, hb9⟩
  have HB9 := Lib.hid (HB0.out.trans ((HB3.out.trans (hb9.mono HB3.out.size)).mono HB0.out.size))
  clear hb9 cL2
  go_wp2_with fail
  go_ret
  exact ⟨rfl, HB9.out⟩

set_option maxRecDepth 100000 in
set_option maxHeartbeats 8000000 in
theorem law13_any (t : TreeD) (p : Ptr6) (name : ByteArray) (w : World) (hE : Env w) (hT : TreeAt (Lt w.heap.size) w t p) (b1 : t.nodes.length ≤ 9223372036854775807) (b2 : t.types.length ≤ 9223372036854775807) (b3 : t.aliases.length ≤ 9223372036854775807) (hI : ∀ x ∈ t.nodes, x.int ≤ 9223372036854775807) (hs : name.size ≤ 140737488355328) :
    Calls Tryz.prog 13 #[treeV t p, .string name] w fun e w' => e = .returned (.bool true) ∧ Below w.heap.size w w' := by
  cases hf : fewB t with
  | false => exact law13_few t p name w hE hT b1 b2 b3 hI hs hf
  | true =>
    by_cases h1 : t.nodes.length ≤ 50
    · cases hc : checkF t with
      | false => exact law13_form t p name w hE hT b1 b2 b3 hI hs hf h1 hc
      | true =>
        cases hn : isName (tl name) with
        | false => exact law13_name t p name w hE hT b1 b2 b3 hI hs hf h1 hc hn
        | true =>
          by_cases h3 : name.size ≤ 50
          · exact law13_yes t p name w hE hT (few_of hf) hf h1 hc hn h3 hI
          · exact law13_size t p name w hE hT b1 b2 b3 hI hs hf h1 hc hn (by omega)
    · exact law13_long t p name w hE hT b1 b2 b3 hI hs hf (by omega)
end Go.Proofs.YtjbdgjbmbohfmaaGreatDoor

