/- Could a head be a type in a tree: the tree that is built for it, and whether that may be. -/
import Derived.Test.YtggchkddmihobaaGreatDoorAC
import Derived.Test.YtggchkddmihobaaGreatDoorCheck
import Derived.RegionTactic
import Derived.ChangeAlike
import Derived.Deep.RegionHeld3
import Derived.Deep.Cut
set_option linter.unusedVariables false
set_option linter.unusedSimpArgs false
namespace Go.Proofs.YtggchkddmihobaaGreatDoor
open Go Go.Proofs Go.RowKit
/-- A head: its kind, names, kids, and whether it is open. -/
structure Hd where
  k : Int
  ns : List ByteArray
  ks : List Int
  o : Bool
def hdCells (t : Hd) (p : Ptr2) : List Value := [.int .i64 t.k, .slice p.a3 t.ns.length p.c3, .slice p.a4 t.ks.length p.c4, .bool t.o]
def HdOk (Pb : Nat → Prop) (w : World) (t : Hd) (p : Ptr2) : Prop := SlAt Pb w p.a3 t.ns.length (t.ns.map .string) ∧ SlAt Pb w p.a4 t.ks.length (t.ks.map iv)
abbrev hdV (t : Hd) (p : Ptr2) : Value := .agg (hdCells t p).toArray
theorem HdOk.keep {Pb : Nat → Prop} {w w' : World} {t : Hd} {p : Ptr2} (h : HdOk Pb w t p) (hk : ∀ b o, Pb b → w'.cell? ⟨b, o, none⟩ = w.cell? ⟨b, o, none⟩) : HdOk Pb w' t p := ⟨h.1.keep hk, h.2.keep hk⟩
def HdFew (t : Hd) : Prop := t.ns.length ≤ 20 ∧ t.ks.length ≤ 20 ∧ (∀ s ∈ t.ns, s.size ≤ 60)
/-- The numbers below n. -/
def upto (n : Nat) : List Int := (List.range n).map (fun (i : Nat) => (i : Int))
/-- The tree that a head is asked as. -/
def treeH (t : Hd) : TreeD :=
  ⟨[⟨1, 0, ⟨#[]⟩, 0, 0, [], [], []⟩, ⟨15, 0, ⟨#[]⟩, 0, 0, [], [0], [(t.ks.length : Int)]⟩], List.replicate t.ks.length ⟨0, 0, ⟨#[]⟩, [], [], false⟩ ++ [⟨t.k, 0, ⟨#[]⟩, t.ns, upto t.ks.length, t.o⟩], []⟩
theorem drew_c {w : World} {p : Addr} {v : Value} (h : w.cell? p = some v) : w.drew.cell? p = some v := h
theorem set_c {w : World} {a b j i : Nat} {u v : Value} (hn : a ≠ b) (h : w.cell? ⟨a, j, none⟩ = some v) : (w.setCell ⟨b, i, none⟩ u).cell? ⟨a, j, none⟩ = some v :=
  (World.cell?_of_block (heap_setCell_other w ⟨b, i, none⟩ a u hn)).trans h
theorem info128 : (Tryz.prog.info? 128).map (fun i => (i.zero, i.size, i.bytes)) = some (some (.agg #[.int .i64 0, .int .i64 0, .string ByteArray.empty, .slice none 0 0, .slice none 0 0, .bool false]), 6, 88) := by kernel_rfl
/-- The cells of types that nothing was told of. -/
def zT : Array Value := #[.int .i64 0, .int .i64 0, .string ⟨#[]⟩, .slice none 0 0, .slice none 0 0, .bool false]
def T0 (m : Nat) : Array Value := madeCells zT (m * 6)
theorem T0_get (m i j : Nat) (hi : i < m) (hj : j < 6) : (T0 m)[i * 6 + j]? = zT[j]? := by
  have h : i * 6 + j < (madeCells zT (m * 6)).size := by rw [size_madeCells]; omega
  unfold T0
  rw [Array.getElem?_eq_getElem h]
  simp only [madeCells, Array.getElem_map, Array.getElem_range]
  have hs : zT.size = 6 := rfl
  rw [hs, show (i * 6 + j) % 6 = j by omega, Array.getElem?_eq_getElem (by omega)]
  rw [getElem!_pos zT j (by omega)]
theorem set_same {α : Type} (a : Array α) (i : Nat) (x : α) (h : a[i]? = some x) : a.setIfInBounds i x = a := by
  apply Array.ext_getElem?
  intro k
  by_cases hk : i = k
  · subst hk
    rw [Array.getElem?_setIfInBounds_self, h]
    have := (Array.getElem?_eq_some_iff.1 h).1
    simp [this]
  · rw [Array.getElem?_setIfInBounds_ne hk]
/-- The types that a head is asked as, with its own at the end. -/
def T1 (t : Hd) (p : Ptr2) (K k : Nat) : Array Value :=
  ((((((T0 (k + 1)).setIfInBounds (k * 6) (.int .i64 t.k)).setIfInBounds (k * 6 + 1) (.int .i64 0)).setIfInBounds (k * 6 + 2) (.string ⟨#[]⟩)).setIfInBounds (k * 6 + 3) (.slice p.a3 t.ns.length p.c3)).setIfInBounds (k * 6 + 4) (.slice (some ⟨K, 0, none⟩) k k)).setIfInBounds (k * 6 + 5) (.bool t.o)
theorem T0_size (m : Nat) : (T0 m).size = m * 6 := size_madeCells _ _
theorem T1_old (t : Hd) (p : Ptr2) (K k i j : Nat) (hi : i < k) (hj : j < 6) : (T1 t p K k)[i * 6 + j]? = zT[j]? := by
  unfold T1
  rw [Array.getElem?_setIfInBounds_ne (by omega), Array.getElem?_setIfInBounds_ne (by omega), Array.getElem?_setIfInBounds_ne (by omega), Array.getElem?_setIfInBounds_ne (by omega), Array.getElem?_setIfInBounds_ne (by omega), Array.getElem?_setIfInBounds_ne (by omega)]
  exact T0_get (k + 1) i j (by omega) hj
theorem T1_new (t : Hd) (p : Ptr2) (K k j : Nat) (u : Value) (h : [Value.int .i64 t.k, .int .i64 0, .string ⟨#[]⟩, .slice p.a3 t.ns.length p.c3, .slice (some ⟨K, 0, none⟩) k k, .bool t.o][j]? = some u) : (T1 t p K k)[k * 6 + j]? = some u := by
  have hs := T0_size (k + 1)
  have hj : j < 6 := (List.getElem?_eq_some_iff.1 h).1
  unfold T1
  rcases (show j = 0 ∨ j = 1 ∨ j = 2 ∨ j = 3 ∨ j = 4 ∨ j = 5 by omega) with rfl | rfl | rfl | rfl | rfl | rfl <;> simp only [List.getElem?_cons_zero, List.getElem?_cons_succ, Option.some.injEq] at h <;> subst h <;> simp only [Array.getElem?_setIfInBounds, Array.size_setIfInBounds, hs, Nat.add_zero] <;> simp <;> omega
/-- What stands in the row of numbers when k of n are in. -/
def kz (n k : Nat) : List Int := upto k ++ List.replicate (n - k) 0
theorem upto_len (k : Nat) : (upto k).length = k := by simp [upto]
theorem upto_succ (k : Nat) : upto (k + 1) = upto k ++ [(k : Int)] := by simp [upto, List.range_succ]
theorem kz_len (n k : Nat) (h : k ≤ n) : (kz n k).length = n := by simp [kz, upto_len]; omega
theorem kz_get (n k : Nat) (h : k < n) : (kz n k)[k]? = some 0 := by
  unfold kz
  rw [List.getElem?_append_right (by rw [upto_len]; exact Nat.le_refl _), upto_len, Nat.sub_self, List.getElem?_replicate, if_pos (by omega)]
theorem kz_set (n k : Nat) (h : k < n) : (kz n k).set k (k : Int) = kz n (k + 1) := by
  unfold kz
  obtain ⟨d, hd⟩ : ∃ d, n - k = d + 1 := ⟨n - k - 1, by omega⟩
  rw [hd, show n - (k + 1) = d by omega, upto_succ, List.replicate_succ, List.set_append_right _ _ (by rw [upto_len]; exact Nat.le_refl _), upto_len, Nat.sub_self]
  simp
theorem kz_end (n : Nat) : kz n n = upto n := by simp [kz]
theorem kz_zero (n : Nat) : kz n 0 = List.replicate n 0 := by simp [kz, upto]
theorem madeT (m : Nat) (hm : m ≤ 65536) (W : World) (x : Int) (hx : x = (m : Int)) : (Instr.makeSlice 123 (.int .i64 x) (.int .i64 x)).run Tryz.prog W = .ok (.slice (some ⟨W.heap.size, 0, none⟩) m m) (W.alloc (.cells (T0 m) 128)) := by
  subst hx
  obtain ⟨i0, hi, hz0, hz1, hz2⟩ := info_parts info128
  have := run_make (P := Tryz.prog) W 123 128 i0 _ Tryz.underlying123 hi hz0 .i64 .i64 (m : Int) (m : Int) (by omega) (by omega) (by rw [hz2]; omega) (by omega)
  rw [this, hz1]
  simp only [Int.toNat_natCast]
  rfl
theorem madeI (n : Nat) (hn : n ≤ 65536) (W : World) : (Instr.makeSlice 36 (.int .i64 (n : Int)) (.int .i64 (n : Int))).run Tryz.prog W = .ok (.slice (some ⟨W.heap.size, 0, none⟩) n n) (W.alloc (.cells (ivs (List.replicate n 0)) 3)) := by
  obtain ⟨i0, hi, hz0, hz1, hz2⟩ := info_parts info3
  have := run_make (P := Tryz.prog) W 36 3 i0 (.int .i64 0) Tryz.underlying36 hi hz0 .i64 .i64 (n : Int) (n : Int) (by omega) (by omega) (by rw [hz2]; omega) (by omega)
  rw [this, hz1]
  simp only [Int.toNat_natCast, Nat.mul_one]
  have e : (Value.int IntKind.i64 0).cells = #[.int .i64 0] := rfl
  rw [e, made_ivs]
end Go.Proofs.YtggchkddmihobaaGreatDoor
