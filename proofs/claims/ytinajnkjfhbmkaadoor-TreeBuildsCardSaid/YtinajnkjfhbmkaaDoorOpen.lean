/- A tree that came in, opened: what the row's reading says of memory. -/
import Derived.Test.YtinajnkjfhbmkaaDoorMayMath
import Derived.Deep.Slices
import Derived.OpenShut
import Derived.Carry
namespace Go.Proofs.YtinajnkjfhbmkaaDoor
open Go Go.Proofs Go.RowKit Go.Deep

theorem cells3 : Tryd.prog.cellsOf 3 = 1 := by kernel_rfl
theorem cells2 : Tryd.prog.cellsOf 2 = 1 := by kernel_rfl
theorem cells4 : Tryd.prog.cellsOf 4 = 1 := by kernel_rfl
theorem cells9 : Tryd.prog.cellsOf 9 = 1 := by kernel_rfl
theorem cells30 : Tryd.prog.cellsOf 30 = 1 := by kernel_rfl
theorem cells31 : Tryd.prog.cellsOf 31 = 1 := by kernel_rfl
theorem cells29 : Tryd.prog.cellsOf 29 = 1 := by kernel_rfl
theorem cells22 : Tryd.prog.cellsOf 22 = 1 := by kernel_rfl
theorem cells23 : Tryd.prog.cellsOf 23 = 1 := by kernel_rfl
theorem cells24 : Tryd.prog.cellsOf 24 = 1 := by kernel_rfl
theorem cells33 : Tryd.prog.cellsOf 33 = 8 := by kernel_rfl
theorem cells47 : Tryd.prog.cellsOf 47 = 6 := by kernel_rfl
theorem cells52 : Tryd.prog.cellsOf 52 = 3 := by kernel_rfl
theorem cells26 : Tryd.prog.cellsOf 26 = 3 := by kernel_rfl

theorem len_cons {α : Type} {l : List α} {n : Nat} (h : l.length = n + 1) : ∃ a l', l = a :: l' ∧ l'.length = n := by
  cases l with
  | nil => simp at h
  | cons a l => exact ⟨a, l, rfl, by simpa using h⟩

section
variable {H : Type} {enc : TypeId × Value → H} {W : World} {base : Nat} {spare : Nat → Bool} {held : Bool}

theorem spot_of_cell {w : World} {a : Addr} {v : Value} (h : w.cell? a = some v) : a = ⟨a.block, a.off, none⟩ := by
  obtain ⟨b, o, s⟩ := a
  cases s with
  | none => rfl
  | some s =>
    exfalso
    unfold World.cell? at h
    split at h
    · simp at h
    · cases h

/-- A slice of elements of one cell, each of one kind. -/
theorem open_row1 {α : Type} {t e : TypeId} (f : α → Value) (ht : Tryd.prog.underlying t = some (.slice e)) (hc : Tryd.prog.cellsOf e = 1) (hf : ∀ n v x, DataW.trod enc Tryd.prog W base spare held n e [v] = some x → ∃ a, v = f a)
    {fuel : Nat} {c : Value} {x : DataW H × List MemPlace} (h : DataW.trod enc Tryd.prog W base spare held fuel t [c] = some x) :
    ∃ A cap, ∃ l : List α, c = .slice A l.length cap ∧ l.length ≤ maxLen ∧ SlAt (Lt W.heap.size) W A l.length (l.map f) := by
  rcases open_slice1 ht hc h with ⟨h0, _⟩ | ⟨a, len, cap, m, n, V, D, Pl, h0, hb, hl, hm, hmm, _, hx⟩
  · injection h0 with h0 _
    subst h0
    exact ⟨none, 0, [], rfl, by simp, SlAt.nil⟩
  · injection h0 with h0 _
    subst h0
    have hle : len ≤ m := by rw [hmm]; split <;> omega
    have key : ∀ k, k ≤ len → ∃ l : List α, l.length = k ∧ ∀ j u, (l.map f)[j]? = some u → W.cell? (a.add j) = some u := by
      intro k
      induction k with
      | zero => exact fun _ => ⟨[], rfl, fun j u hu => by simp at hu⟩
      | succ k ih =>
        intro hk
        obtain ⟨l, hll, hlc⟩ := ih (by omega)
        obtain ⟨h1, h2⟩ := hx k (by omega)
        obtain ⟨y, hy⟩ := hf _ _ _ h2
        refine ⟨l ++ [y], by simp [hll], fun j u hu => ?_⟩
        rw [List.map_append] at hu
        by_cases hj : j < l.length
        · rw [List.getElem?_append_left (by simpa using hj)] at hu
          exact hlc j u hu
        · rw [List.getElem?_append_right (by simp; omega)] at hu
          simp only [List.length_map, List.map_cons, List.map_nil] at hu
          have hj0 : j = k := by
            have := (List.getElem?_eq_some_iff.1 hu).1
            simp at this
            omega
          subst hj0
          rw [hll, Nat.sub_self] at hu
          simp only [List.getElem?_cons_zero, Option.some.injEq] at hu
          rw [h1, hy, hu]
    obtain ⟨l, hll, hlc⟩ := key len (Nat.le_refl _)
    subst hll
    refine ⟨some a, cap, l, rfl, by omega, by simp, fun hn => ?_⟩
    have h0 := hlc 0 (f l[0]) (by simp [hn])
    have hsp := spot_of_cell (hx 0 (by omega)).1
    have e0 : a.add 0 = a := rfl
    rw [e0] at h0 hsp
    obtain ⟨b, off, s⟩ := a
    simp only [Addr.mk.injEq, true_and] at hsp
    subst hsp
    refine ⟨b, off, rfl, block_lt_of_cell h0, fun j u hu => ?_⟩
    have := hlc j u hu
    unfold Addr.add at this
    split at this
    · rename_i hj; subst hj; exact this
    · exact this

theorem open_ints29 {fuel : Nat} {c : Value} {x : DataW H × List MemPlace} (h : DataW.trod enc Tryd.prog W base spare held fuel 29 [c] = some x) :
    ∃ A cap, ∃ l : List Int, c = .slice A l.length cap ∧ l.length ≤ maxLen ∧ SlAt (Lt W.heap.size) W A l.length (l.map iv) :=
  open_row1 iv Tryd.underlying29 cells3 (fun n v x hx => by
    obtain ⟨k, hk, _⟩ := DataW.trod_int Tryd.underlying3 hx
    injection hk with hk _
    exact ⟨k, hk⟩) h
theorem open_strs31 {fuel : Nat} {c : Value} {x : DataW H × List MemPlace} (h : DataW.trod enc Tryd.prog W base spare held fuel 31 [c] = some x) :
    ∃ A cap, ∃ l : List ByteArray, c = .slice A l.length cap ∧ l.length ≤ maxLen ∧ SlAt (Lt W.heap.size) W A l.length (l.map .string) :=
  open_row1 .string Tryd.underlying31 cells9 (fun n v x hx => by
    obtain ⟨k, hk, _⟩ := DataW.trod_string Tryd.underlying9 hx
    injection hk with hk _
    exact ⟨k, hk⟩) h

theorem fld {fs : Array Field} {xs : List (DataW H × List MemPlace)} {n : Nat} {cs : List Value} (hf : ∀ (i : Nat) (f : Field), fs[i]? = some f → DataW.trod enc Tryd.prog W base spare held n f.type ((cs.drop f.offset).take (Tryd.prog.cellsOf f.type)) = xs[i]?)
    (i T o : Nat) {f : Field} (h1 : fs[i]? = some f) (h2 : f.type = T) (h3 : f.offset = o) (hc : Tryd.prog.cellsOf T = 1) {y : DataW H × List MemPlace} (hy : xs[i]? = some y) : DataW.trod enc Tryd.prog W base spare held n T ((cs.drop o).take 1) = some y := by
  have := hf i f h1
  rw [h2, h3, hc] at this
  exact this.trans hy

theorem open_term {fuel : Nat} {cs : List Value} {x : DataW H × List MemPlace} (h : DataW.trod enc Tryd.prog W base spare held fuel 33 cs = some x) : ∃ t p, TermOk (Lt W.heap.size) W t p ∧ cs = termCells t p := by
  obtain ⟨xs, n, _, _, hl, hxl, hf⟩ := DataW.trod_struct Tryd.underlying33 h
  rw [cells33] at hl
  obtain ⟨v0, cs0, rfl, hh0⟩ := len_cons hl
  obtain ⟨v1, cs1, rfl, hh1⟩ := len_cons hh0
  obtain ⟨v2, cs2, rfl, hh2⟩ := len_cons hh1
  obtain ⟨v3, cs3, rfl, hh3⟩ := len_cons hh2
  obtain ⟨v4, cs4, rfl, hh4⟩ := len_cons hh3
  obtain ⟨v5, cs5, rfl, hh5⟩ := len_cons hh4
  obtain ⟨v6, cs6, rfl, hh6⟩ := len_cons hh5
  obtain ⟨v7, cs7, rfl, hh7⟩ := len_cons hh6
  obtain rfl : cs7 = [] := List.length_eq_zero_iff.1 hh7
  have get : ∀ i, i < 8 → ∃ y, xs[i]? = some y := fun i hi => ⟨xs[i]'(by rw [hxl]; exact hi), List.getElem?_eq_getElem _⟩
  obtain ⟨y0, h0⟩ := get 0 (by omega)
  obtain ⟨y1, h1⟩ := get 1 (by omega)
  obtain ⟨y2, h2⟩ := get 2 (by omega)
  obtain ⟨y3, h3⟩ := get 3 (by omega)
  obtain ⟨y4, h4⟩ := get 4 (by omega)
  obtain ⟨y5, h5⟩ := get 5 (by omega)
  obtain ⟨y6, h6⟩ := get 6 (by omega)
  obtain ⟨y7, h7⟩ := get 7 (by omega)
  have g0 := fld hf 0 3 0 rfl rfl rfl cells3 h0
  have g1 := fld hf 1 3 1 rfl rfl rfl cells3 h1
  have g2 := fld hf 2 9 2 rfl rfl rfl cells9 h2
  have g3 := fld hf 3 2 3 rfl rfl rfl cells2 h3
  have g4 := fld hf 4 30 4 rfl rfl rfl cells30 h4
  have g5 := fld hf 5 31 5 rfl rfl rfl cells31 h5
  have g6 := fld hf 6 29 6 rfl rfl rfl cells29 h6
  have g7 := fld hf 7 29 7 rfl rfl rfl cells29 h7
  simp only [List.drop_zero, List.drop_succ_cons, List.take_succ_cons, List.take_zero] at g0 g1 g2 g3 g4 g5 g6 g7
  obtain ⟨k0, e0, _⟩ := DataW.trod_int Tryd.underlying3 g0
  obtain ⟨k1, e1, _⟩ := DataW.trod_int Tryd.underlying3 g1
  obtain ⟨k2, e2, _⟩ := DataW.trod_string Tryd.underlying9 g2
  obtain ⟨k3, e3, _⟩ := DataW.trod_int Tryd.underlying2 g3
  obtain ⟨k4, e4, _, w4⟩ := DataW.trod_int Tryd.underlying30 g4
  obtain ⟨a5, c5, l5, e5, _, s5⟩ := open_strs31 g5
  obtain ⟨a6, c6, l6, e6, _, s6⟩ := open_ints29 g6
  obtain ⟨a7, c7, l7, e7, _, s7⟩ := open_ints29 g7
  have hk4 : 0 ≤ k4 := by
    have h := (Bool.and_eq_true _ _ ▸ w4 : _ ∧ _).1
    have h' := of_decide_eq_true h
    simpa [IntKind.min, IntKind.signed] using h'
  obtain ⟨b4, rfl⟩ : ∃ b4 : Nat, k4 = (b4 : Int) := ⟨k4.toNat, by omega⟩
  refine ⟨⟨k0, k1, k2, k3, b4, l5, l6, l7⟩, ⟨a5, c5, a6, c6, a7, c7⟩, ⟨s5, s6, s7⟩, ?_⟩
  unfold termCells
  simp only [List.cons.injEq, and_true] at e0 e1 e2 e3 e4 ⊢
  exact ⟨e0, e1, e2, e3, e4, e5, e6, e7⟩

theorem open_typ {fuel : Nat} {cs : List Value} {x : DataW H × List MemPlace} (h : DataW.trod enc Tryd.prog W base spare held fuel 47 cs = some x) : ∃ t p, TypOk (Lt W.heap.size) W t p ∧ cs = typCells t p := by
  obtain ⟨xs, n, _, _, hl, hxl, hf⟩ := DataW.trod_struct Tryd.underlying47 h
  rw [cells47] at hl
  obtain ⟨v0, cs0, rfl, hh0⟩ := len_cons hl
  obtain ⟨v1, cs1, rfl, hh1⟩ := len_cons hh0
  obtain ⟨v2, cs2, rfl, hh2⟩ := len_cons hh1
  obtain ⟨v3, cs3, rfl, hh3⟩ := len_cons hh2
  obtain ⟨v4, cs4, rfl, hh4⟩ := len_cons hh3
  obtain ⟨v5, cs5, rfl, hh5⟩ := len_cons hh4
  obtain rfl : cs5 = [] := List.length_eq_zero_iff.1 hh5
  have get : ∀ i, i < 6 → ∃ y, xs[i]? = some y := fun i hi => ⟨xs[i]'(by rw [hxl]; exact hi), List.getElem?_eq_getElem _⟩
  obtain ⟨y0, h0⟩ := get 0 (by omega)
  obtain ⟨y1, h1⟩ := get 1 (by omega)
  obtain ⟨y2, h2⟩ := get 2 (by omega)
  obtain ⟨y3, h3⟩ := get 3 (by omega)
  obtain ⟨y4, h4⟩ := get 4 (by omega)
  obtain ⟨y5, h5⟩ := get 5 (by omega)
  have g0 := fld hf 0 3 0 rfl rfl rfl cells3 h0
  have g1 := fld hf 1 3 1 rfl rfl rfl cells3 h1
  have g2 := fld hf 2 9 2 rfl rfl rfl cells9 h2
  have g3 := fld hf 3 31 3 rfl rfl rfl cells31 h3
  have g4 := fld hf 4 29 4 rfl rfl rfl cells29 h4
  have g5 := fld hf 5 4 5 rfl rfl rfl cells4 h5
  simp only [List.drop_zero, List.drop_succ_cons, List.take_succ_cons, List.take_zero] at g0 g1 g2 g3 g4 g5
  obtain ⟨k0, e0, _⟩ := DataW.trod_int Tryd.underlying3 g0
  obtain ⟨k1, e1, _⟩ := DataW.trod_int Tryd.underlying3 g1
  obtain ⟨k2, e2, _⟩ := DataW.trod_string Tryd.underlying9 g2
  obtain ⟨a3, c3, l3, e3, _, s3⟩ := open_strs31 g3
  obtain ⟨a4, c4, l4, e4, _, s4⟩ := open_ints29 g4
  obtain ⟨k5, e5, _⟩ := DataW.trod_bool Tryd.underlying4 g5
  refine ⟨⟨k0, k1, k2, l3, l4, k5⟩, ⟨a3, c3, a4, c4⟩, ⟨s3, s4⟩, ?_⟩
  unfold typCells
  simp only [List.cons.injEq, and_true] at e0 e1 e2 e5 ⊢
  exact ⟨e0, e1, e2, e3, e4, e5⟩

theorem open_ali {fuel : Nat} {cs : List Value} {x : DataW H × List MemPlace} (h : DataW.trod enc Tryd.prog W base spare held fuel 52 cs = some x) : ∃ t, cs = aliCells t := by
  obtain ⟨xs, n, _, _, hl, hxl, hf⟩ := DataW.trod_struct Tryd.underlying52 h
  rw [cells52] at hl
  obtain ⟨v0, cs0, rfl, hh0⟩ := len_cons hl
  obtain ⟨v1, cs1, rfl, hh1⟩ := len_cons hh0
  obtain ⟨v2, cs2, rfl, hh2⟩ := len_cons hh1
  obtain rfl : cs2 = [] := List.length_eq_zero_iff.1 hh2
  have get : ∀ i, i < 3 → ∃ y, xs[i]? = some y := fun i hi => ⟨xs[i]'(by rw [hxl]; exact hi), List.getElem?_eq_getElem _⟩
  obtain ⟨y0, h0⟩ := get 0 (by omega)
  obtain ⟨y1, h1⟩ := get 1 (by omega)
  obtain ⟨y2, h2⟩ := get 2 (by omega)
  have g0 := fld hf 0 9 0 rfl rfl rfl cells9 h0
  have g1 := fld hf 1 3 1 rfl rfl rfl cells3 h1
  have g2 := fld hf 2 3 2 rfl rfl rfl cells3 h2
  simp only [List.drop_zero, List.drop_succ_cons, List.take_succ_cons, List.take_zero] at g0 g1 g2
  obtain ⟨k0, e0, _⟩ := DataW.trod_string Tryd.underlying9 g0
  obtain ⟨k1, e1, _⟩ := DataW.trod_int Tryd.underlying3 g1
  obtain ⟨k2, e2, _⟩ := DataW.trod_int Tryd.underlying3 g2
  refine ⟨⟨k0, k1, k2⟩, ?_⟩
  unfold aliCells
  simp only [List.cons.injEq, and_true] at e0 e1 e2 ⊢
  exact ⟨e0, e1, e2⟩

/-- A slice of structs, each of one kind. -/
theorem open_rows {α : Type} {t e : TypeId} (s : Nat) (hs : 0 < s) (Q : α → List Value → Prop) (hlen : ∀ a cs, Q a cs → cs.length = s) (ht : Tryd.prog.underlying t = some (.slice e)) (hc : Tryd.prog.cellsOf e = s)
    (hf : ∀ n cs x, DataW.trod enc Tryd.prog W base spare held n e cs = some x → ∃ a, Q a cs)
    {fuel : Nat} {c : Value} {x : DataW H × List MemPlace} (h : DataW.trod enc Tryd.prog W base spare held fuel t [c] = some x) :
    ∃ A cap, ∃ l : List α, c = .slice A l.length cap ∧ l.length ≤ maxLen ∧ (0 < l.length → ∃ b off, A = some ⟨b, off, none⟩ ∧ b < W.heap.size ∧ ∀ i a, l[i]? = some a → ∃ cs, Q a cs ∧ ∀ j u, cs[j]? = some u → W.cell? ⟨b, off + i * s + j, none⟩ = some u) := by
  rcases open_slice ht h with ⟨h0, _⟩ | ⟨a, len, cap, m, n, D, Pl, h0, hb, hl, hm, hmm, _, hx⟩
  · injection h0 with h0 _
    subst h0
    exact ⟨none, 0, [], rfl, by simp, fun h => absurd h (by simp)⟩
  · injection h0 with h0 _
    subst h0
    rw [hc] at hx
    have hle : len ≤ m := by rw [hmm]; split <;> omega
    have one : ∀ k, k < len → ∃ y cs, Q y cs ∧ ∀ j u, cs[j]? = some u → W.cell? ((a.add (k * s)).add j) = some u := fun k hk => by
      obtain ⟨cs, h1, h2⟩ := hx k (by omega)
      obtain ⟨y, hy⟩ := hf _ _ _ h2
      obtain ⟨_, hcl, hcc⟩ := World.cells?_some h1
      refine ⟨y, cs, hy, fun j u hu => ?_⟩
      have hj := (List.getElem?_eq_some_iff.1 hu).1
      rw [hcc j (by omega), hu]
    have key : ∀ k, k ≤ len → ∃ l : List α, l.length = k ∧ ∀ i y, l[i]? = some y → ∃ cs, Q y cs ∧ ∀ j u, cs[j]? = some u → W.cell? ((a.add (i * s)).add j) = some u := by
      intro k
      induction k with
      | zero => exact fun _ => ⟨[], rfl, fun j u hu => by simp at hu⟩
      | succ k ih =>
        intro hk
        obtain ⟨l, hll, hlc⟩ := ih (by omega)
        obtain ⟨y, cs, hy, hcs⟩ := one k (by omega)
        refine ⟨l ++ [y], by simp [hll], fun i z hz => ?_⟩
        by_cases hj : i < l.length
        · rw [List.getElem?_append_left hj] at hz
          exact hlc i z hz
        · rw [List.getElem?_append_right (by omega)] at hz
          have hj0 : i = k := by
            have := (List.getElem?_eq_some_iff.1 hz).1
            simp at this
            omega
          subst hj0
          rw [hll, Nat.sub_self] at hz
          simp only [List.getElem?_cons_zero, Option.some.injEq] at hz
          subst hz
          exact ⟨cs, hy, hcs⟩
    obtain ⟨l, hll, hlc⟩ := key len (Nat.le_refl _)
    subst hll
    refine ⟨some a, cap, l, rfl, by omega, fun hn => ?_⟩
    obtain ⟨cs, hQ, hcs⟩ := hlc 0 l[0] (by simp [hn])
    have hcl := hlen _ _ hQ
    have h0 := hcs 0 cs[0] (by simp [hcl, hs])
    have e0 : (a.add (0 * s)).add 0 = a := by rw [Nat.zero_mul]; rfl
    rw [e0] at h0
    have hsp := spot_of_cell h0
    obtain ⟨b, off, sp⟩ := a
    simp only [Addr.mk.injEq, true_and] at hsp
    subst hsp
    refine ⟨b, off, rfl, block_lt_of_cell h0, fun i y hy => ?_⟩
    obtain ⟨cs, hQ, hcs⟩ := hlc i y hy
    refine ⟨cs, hQ, fun j u hu => ?_⟩
    have := hcs j u hu
    rw [add_add] at this
    unfold Addr.add at this
    split at this
    · rename_i hj
      rw [show off + i * s + j = off by omega]
      exact this
    · rw [show off + i * s + j = off + (i * s + j) by omega]
      exact this

set_option maxRecDepth 100000 in
/-- A TREE THAT CAME IN. -/
theorem open_tree26 {r : Reach} {b0 : Nat} {v : Value} {d : DataW H} {ps : List MemPlace} (hval : Value.okWide Tryd.prog W r b0 26 v) (h : DataW.Trod enc Tryd.prog W base spare held 26 v d ps) :
    ∃ t p, v = treeV t p ∧ TreeAt (Lt W.heap.size) W t p ∧ t.nodes.length ≤ maxLen ∧ t.types.length ≤ maxLen ∧ t.aliases.length ≤ maxLen := by
  unfold Value.okWide at hval
  rw [Tryd.underlying26] at hval
  obtain ⟨cs, rfl, hsz, _⟩ := hval
  obtain ⟨fuel, h⟩ := h
  obtain ⟨xs, n, _, _, hl, hxl, hf⟩ := DataW.trod_struct Tryd.underlying26 h
  rw [cells26] at hsz
  obtain ⟨l⟩ := cs
  have hsz' : l.length = 3 := hsz
  obtain ⟨v0, cs0, rfl, hh0⟩ := len_cons hsz'
  obtain ⟨v1, cs1, rfl, hh1⟩ := len_cons hh0
  obtain ⟨v2, cs2, rfl, hh2⟩ := len_cons hh1
  obtain rfl : cs2 = [] := List.length_eq_zero_iff.1 hh2
  have hcs : ((Value.agg (Array.mk [v0, v1, v2])).cells.toList) = [v0, v1, v2] := rfl
  rw [hcs] at hf
  have get : ∀ i, i < 3 → ∃ y, xs[i]? = some y := fun i hi => ⟨xs[i]'(by rw [hxl]; exact hi), List.getElem?_eq_getElem _⟩
  obtain ⟨y0, h0⟩ := get 0 (by omega)
  obtain ⟨y1, h1⟩ := get 1 (by omega)
  obtain ⟨y2, h2⟩ := get 2 (by omega)
  have g0 := fld hf 0 22 0 rfl rfl rfl cells22 h0
  have g1 := fld hf 1 23 1 rfl rfl rfl cells23 h1
  have g2 := fld hf 2 24 2 rfl rfl rfl cells24 h2
  simp only [List.drop_zero, List.drop_succ_cons, List.take_succ_cons, List.take_zero] at g0 g1 g2
  obtain ⟨A1, c1, l1, rfl, m1, t1⟩ := open_rows 8 (by omega) (fun (t : TermD) cs => ∃ p, TermOk (Lt W.heap.size) W t p ∧ cs = termCells t p) (fun a cs h => by obtain ⟨p, _, rfl⟩ := h; rfl) Tryd.underlying22 cells33 (fun n cs x hx => open_term hx) g0
  obtain ⟨A2, c2, l2, rfl, m2, t2⟩ := open_rows 6 (by omega) (fun (t : TypD) cs => ∃ p, TypOk (Lt W.heap.size) W t p ∧ cs = typCells t p) (fun a cs h => by obtain ⟨p, _, rfl⟩ := h; rfl) Tryd.underlying23 cells47 (fun n cs x hx => open_typ hx) g1
  obtain ⟨A3, c3, l3, rfl, m3, t3⟩ := open_rows 3 (by omega) (fun (t : AliD) cs => cs = aliCells t) (fun a cs h => by subst h; rfl) Tryd.underlying24 cells52 (fun n cs x hx => open_ali hx) g2
  refine ⟨⟨l1, l2, l3⟩, ⟨A1, c1, A2, c2, A3, c3⟩, rfl, ⟨fun hn => ?_, fun hn => ?_, fun hn => ?_⟩, m1, m2, m3⟩
  · obtain ⟨b, off, e, hb, hc⟩ := t1 hn
    refine ⟨b, off, e, hb, fun i t ht => ?_⟩
    obtain ⟨cs, ⟨p, hp, rfl⟩, hcs⟩ := hc i t ht
    exact ⟨p, hp, hcs⟩
  · obtain ⟨b, off, e, hb, hc⟩ := t2 hn
    refine ⟨b, off, e, hb, fun i t ht => ?_⟩
    obtain ⟨cs, ⟨p, hp, rfl⟩, hcs⟩ := hc i t ht
    exact ⟨p, hp, hcs⟩
  · obtain ⟨b, off, e, hb, hc⟩ := t3 hn
    refine ⟨b, off, e, hb, fun i t ht j u hu => ?_⟩
    obtain ⟨cs, rfl, hcs⟩ := hc i t ht
    exact hcs j u hu
end
end Go.Proofs.YtinajnkjfhbmkaaDoor
