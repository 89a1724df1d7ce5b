/- The law ScopeBinds at every tree: which term binds a name, from the root and from the term; what a type stands for, with and without the names looked through. -/
import Derived.Test.YtjbdgjbmbohfmaaGreatDoorK38
import Derived.Test.YtjbdgjbmbohfmaaGreatDoorK51
import Derived.Deep.Slices
import Derived.OpenShut
import Derived.OrdersHeld
import Derived.Deep.RegionHeld3
import Derived.Deep.DrawnRows
namespace Go.Proofs.YtjbdgjbmbohfmaaGreatDoor
open Go Go.Proofs Go.RowKit
/-- What Through answers, at a tree that may be. -/
def thrI (t : TreeD) (i : Int) : Nat × Nat := if i < 0 ∨ (t.types.length : Int) ≤ i then (0, 13) else thruF t (t.aliases.length + 1) i.toNat
theorem thrI_of {t : TreeD} {i : Nat} (h : i < t.types.length) : thrI t (i : Int) = thruF t (t.aliases.length + 1) i := by
  unfold thrI
  rw [if_neg (by omega)]
  rfl

set_option maxRecDepth 100000 in
set_option maxHeartbeats 4000000 in
theorem thr_any (t : TreeD) (p : Ptr6) (i : Int) (w : World) (hE : Env4 w) (hT : TreeAt (Lt w.heap.size) w t p) (hF : TreeFew t) (hc : checkF t = true) :
    Calls Tryz.prog 33 #[treeV t p, .int .i64 i] w fun e w' => e = .returned (.tuple #[.int .i64 ((thrI t i).1 : Nat), .int .i64 ((thrI t i).2 : Nat)]) ∧ Below w.heap.size w w' := by
  obtain ⟨W0, hW0⟩ : ∃ W0, w.alloc (.cells #[.slice p.a1 t.nodes.length p.c1, .slice p.a2 t.types.length p.c2, .slice p.a3 t.aliases.length p.c3] 28) = W0 := ⟨_, rfl⟩
  obtain ⟨hb0, hX0, hT0⟩ := box_tree t p w W0 hT hW0
  have cC := check_any t p W0 (hE.on hb0) hT0 hF
  rw [hc, if_pos rfl] at cC
  have x0 := hX0.cell 0
  have x1 := hX0.cell 1
  have x2 := hX0.cell 2
  simp only [List.getElem?_toArray, List.getElem?_cons_zero, List.getElem?_cons_succ] at x0 x1 x2
  have hXl := hX0.lt
  have HB0 := Lib.hid hb0
  have HT0 := Lib.hid hT0
  have HR := Lib.hid (Rng.of hc)
  have HF := Lib.hid hF
  have h0 := hE.2
  clear hb0 hT0 hT hc hE hF
  go_enter Tryz.func33, Tryz.ntmps33
  go_wp2_with fail
  refine cC.mono ?_
  rintro e w1 ⟨rfl, hb1⟩
  have x0' := (hb1.cell (p := ⟨w.heap.size, 0, none⟩) hXl).trans x0
  have x1' := (hb1.cell (p := ⟨w.heap.size, 1, none⟩) hXl).trans x1
  have x2' := (hb1.cell (p := ⟨w.heap.size, 2, none⟩) hXl).trans x2
  have HB1 := Lib.hid (HB0.out.trans (hb1.mono HB0.out.size))
  have HT1 := Lib.hid ((HT0.out.keep (keep_below hb1)).imp (lt_mono hb1.size))
  have hz1 : W0.heap.size ≤ w1.heap.size := hb1.size
  clear hb1 x0 x1 x2 cC hX0 hW0
  by_cases hi : i < 0 ∨ (t.types.length : Int) ≤ i
  · have ht : thrI t i = (0, 13) := by unfold thrI; rw [if_pos hi]
    rcases hi with hi | hi
    · go_wp2
      all_goals first
        | (refine bodyPost_ret (v := .tuple #[.int .i64 0, .int .i64 13]) (by simp [results, Tryz.results33, go_sem]) rfl ?_; exact ⟨by rw [ht]; rfl, HB1.out⟩)
        | (exfalso; omega)
    · by_cases hn : i < 0
      · exfalso; omega
      · go_wp2
        all_goals first
          | (refine bodyPost_ret (v := .tuple #[.int .i64 0, .int .i64 13]) (by simp [results, Tryz.results33, go_sem]) rfl ?_; exact ⟨by rw [ht]; rfl, HB1.out⟩)
          | (exfalso; omega)
  · obtain ⟨k, rfl⟩ : ∃ k : Nat, i = (k : Int) := ⟨i.toNat, by omega⟩
    have hk : k < t.types.length := by omega
    have hn : ¬ ((k : Int) < 0) := by omega
    have hm : ¬ ((t.types.length : Int) ≤ (k : Int)) := by omega
    have cT := through_any t p w1 (by omega) HT1.out (nmOk_of HR.out) (sm_of HF.out HR.out) k hk
    obtain ⟨R, hR⟩ : ∃ R, thruF t (t.aliases.length + 1) k = R := ⟨_, rfl⟩
    have hQ := thrI_of hk
    rw [hR] at cT hQ
    have HQ := Lib.hid hQ
    clear hQ hR
    clear hi
    go_wp2_with fail
    refine cT.mono ?_
    rintro e w2 ⟨rfl, hb2⟩
    have HB2 := Lib.hid (HB1.out.trans (hb2.mono HB1.out.size))
    clear hb2 x0' x1' x2'
    go_wp2_with fail
    refine bodyPost_ret (v := .tuple #[.int .i64 (R.1 : Nat), .int .i64 (R.2 : Nat)]) (by simp [results, Tryz.results33, go_sem]) rfl ?_
    exact ⟨by rw [HQ.out], HB2.out⟩
theorem thrI_bad {t : TreeD} {i : Int} (h : (thrI t i).2 ≠ 0) : (thrI t i).1 = 0 := by
  unfold thrI at h ⊢
  split
  · rfl
  · rename_i hn
    rw [if_neg hn] at h
    exact thru_bad rfl h
theorem thrI_ok {t : TreeD} {i : Int} (h : (thrI t i).2 = 0) : ∃ n, t.types[(thrI t i).1]? = some n ∧ n.kind ≠ 10 ∧ thrI t ((thrI t i).1 : Nat) = ((thrI t i).1, 0) := by
  unfold thrI at h
  split at h
  · cases h
  · rename_i hn
    have he : thrI t i = thruF t (t.aliases.length + 1) i.toNat := by unfold thrI; rw [if_neg hn]
    obtain ⟨⟨n, hn1, hn2⟩, hg⟩ := thru_ok (t := t) (f := t.aliases.length + 1) (i := i.toNat) (k := (thrI t i).1) (by rw [he]; rw [← h])
    refine ⟨n, hn1, hn2, ?_⟩
    rw [thrI_of (by have := (List.getElem?_eq_some_iff.1 hn1).1; exact this)]
    exact hg _

theorem law_box (t : TreeD) (p : Ptr6) (w W0 w1 : World) (hX0 : Blk W0 w.heap.size 28 #[.slice p.a1 t.nodes.length p.c1, .slice p.a2 t.types.length p.c2, .slice p.a3 t.aliases.length p.c3]) (hb : Below W0.heap.size W0 w1) :
    w1.cell? ⟨w.heap.size, 0, none⟩ = some (.slice p.a1 t.nodes.length p.c1) ∧ w1.cell? ⟨w.heap.size, 1, none⟩ = some (.slice p.a2 t.types.length p.c2) ∧ w1.cell? ⟨w.heap.size, 2, none⟩ = some (.slice p.a3 t.aliases.length p.c3) := by
  have hX1 := hX0.below hb hX0.lt
  have x0 := hX1.cell 0
  have x1 := hX1.cell 1
  have x2 := hX1.cell 2
  simp only [List.getElem?_toArray, List.getElem?_cons_zero, List.getElem?_cons_succ] at x0 x1 x2
  exact ⟨x0, x1, x2⟩

set_option maxRecDepth 100000 in
set_option maxHeartbeats 4000000 in
theorem law10_any (t : TreeD) (p : Ptr6) (i : Int) (w : World) (hE : Env w) (hT : TreeAt (Lt w.heap.size) w t p) (b1 : t.nodes.length ≤ 9223372036854775807) (b2 : t.types.length ≤ 9223372036854775807) (b3 : t.aliases.length ≤ 9223372036854775807) (hI : ∀ x ∈ t.nodes, x.int ≤ 9223372036854775807) :
    Calls Tryz.prog 10 #[treeV t p, .int .i64 i] w fun e w' => e = .returned (.bool true) ∧ Below w.heap.size w w' := by
  obtain ⟨W0, hW0⟩ : ∃ W0, w.alloc (.cells #[.slice p.a1 t.nodes.length p.c1, .slice p.a2 t.types.length p.c2, .slice p.a3 t.aliases.length p.c3] 28) = W0 := ⟨_, rfl⟩
  obtain ⟨hb0, hX0, hT0⟩ := box_tree t p w W0 hT hW0
  have cL := lives_any W0 (hE.on hb0)
  have HE0 := Lib.hid (hE.on hb0)
  have HX0 := Lib.hid hX0
  have HB0 := Lib.hid hb0
  have HT0 := Lib.hid hT0
  have HI := Lib.hid hI
  clear hb0 hT0 hT hE hI hX0
  go_enter Tryz.func10, Tryz.ntmps10
  go_wp2_with fail
  refine cL.mono ?_
  rintro e w1 ⟨rfl, hb1⟩
  clear hW0 cL
  obtain ⟨x0, x1, x2⟩ := law_box t p w W0 w1 HX0.out hb1
  have HB1 := Lib.hid hb1
  have HT1 := Lib.hid ((HT0.out.keep (keep_below hb1)).imp (lt_mono hb1.size))
  have cF := few_any t p w1 HT1.out b1 b2 b3
  clear hb1
  cases hf : fewB t with
  | false =>
    rw [hf] at cF
    clear hf
    go_wp2_with fail
    refine cF.mono ?_
    rintro e w2 ⟨rfl, hb2⟩
    have HB2 := Lib.hid (HB1.out.trans (hb2.mono HB1.out.size))
    have cL2 := lives_any w2 (HE0.out.on HB2.out)
    clear hb2 x0 x1 x2
    go_wp2_with fail
    refine cL2.mono ?_
    rintro e w3 ⟨rfl, hb3⟩
    have HB3 := Lib.hid (HB0.out.trans ((HB2.out.trans (hb3.mono HB2.out.size)).mono HB0.out.size))
    clear hb3 cL2
    go_wp2_with fail
    go_ret
    exact ⟨rfl, HB3.out⟩
  | true =>
  rw [hf] at cF
  have HF := Lib.hid (few_of hf)
  clear hf
  go_wp2_with fail
  refine cF.mono ?_
  rintro e w2 ⟨rfl, hb2⟩
  have HB2 := Lib.hid (HB1.out.trans (hb2.mono HB1.out.size))
  have HT2 := Lib.hid ((HT1.out.keep (keep_below hb2)).imp (lt_mono hb2.size))
  clear hb2 x0 x1 x2 cF
  obtain ⟨x0, x1, x2⟩ := law_box t p w W0 w2 HX0.out HB2.out
  have cR := right_any t p w2 HT2.out HF.out HI.out
  cases hc : checkF t with
  | false =>
    rw [hc] at cR
    clear hc
    go_wp2_with fail
    refine cR.mono ?_
    rintro e w3 ⟨rfl, hb3⟩
    have HB3 := Lib.hid (HB2.out.trans (hb3.mono HB2.out.size))
    have cL2 := lives_any w3 (HE0.out.on HB3.out)
    clear hb3 x0 x1 x2 cR
    go_wp2_with fail
    refine cL2.mono ?_
    rintro e w4 ⟨rfl, hb4⟩
    have HB4 := Lib.hid (HB0.out.trans ((HB3.out.trans (hb4.mono HB3.out.size)).mono HB0.out.size))
    clear hb4 cL2
    go_wp2_with fail
    go_ret
    exact ⟨rfl, HB4.out⟩
  | true =>
  rw [hc] at cR
  have HC := Lib.hid hc
  clear hc
  go_wp2_with fail
  refine cR.mono ?_
  rintro e w3 ⟨rfl, hb3⟩
  have HB3 := Lib.hid (HB2.out.trans (hb3.mono HB2.out.size))
  have HT3 := Lib.hid ((HT2.out.keep (keep_below hb3)).imp (lt_mono hb3.size))
  clear hb3 x0 x1 x2 cR
  obtain ⟨x0, x1, x2⟩ := law_box t p w W0 w3 HX0.out HB3.out
  have cT := thr_any t p i w3 (env4_of (HE0.out.on HB3.out)) HT3.out HF.out HC.out
  obtain ⟨K, hK⟩ : ∃ K, thrI t i = K := ⟨_, rfl⟩
  rw [hK] at cT
  have HK := Lib.hid hK
  clear hK
  go_wp2_with fail
  refine cT.mono ?_
  rintro e w4 ⟨rfl, hb4⟩
  have HB4 := Lib.hid (HB3.out.trans (hb4.mono HB3.out.size))
  have HT4 := Lib.hid ((HT3.out.keep (keep_below hb4)).imp (lt_mono hb4.size))
  clear hb4 x0 x1 x2 cT
  obtain ⟨x0, x1, x2⟩ := law_box t p w W0 w4 HX0.out HB4.out
  obtain ⟨k, e⟩ := K
  by_cases he : e = 0
  · subst he
    obtain ⟨n, hn, hn10, hk2⟩ := thrI_ok (t := t) (i := i) (by rw [HK.out])
    rw [HK.out] at hn hk2
    dsimp only at hn hk2
    have cU := thr_any t p (k : Int) w4 (env4_of (HE0.out.on HB4.out)) HT4.out HF.out HC.out
    rw [hk2] at cU
    clear hk2
    go_wp2_with fail
    refine cU.mono ?_
    rintro e w5 ⟨rfl, hb5⟩
    have HB5 := Lib.hid (HB4.out.trans (hb5.mono HB4.out.size))
    have HT5 := (HT4.out.keep (keep_below hb5)).imp (lt_mono hb5.size)
    clear hb5 x0 x1 x2 cU
    obtain ⟨x0, x1, x2⟩ := law_box t p w W0 w5 HX0.out HB5.out
    have hkl := (List.getElem?_eq_some_iff.1 hn).1
    obtain ⟨b, off, hpa, hb, hcell⟩ := HT5.2.1 (by omega)
    obtain ⟨q, _, hq⟩ := hcell k n hn
    have e0 := hq 0 _ rfl
    rw [Nat.add_zero] at e0
    rw [hpa] at x1
    have HBW := Lib.hid (HB0.out.trans (HB5.out.mono HB0.out.size))
    have hkb : (n.kind == 10) = false := by rw [beq_eq_false_iff_ne]; exact hn10
    clear HT5 hcell hq hn
    go_wp2_with fail
    all_goals first
      | (go_ret; exact ⟨by simp [hn10], HBW.out⟩)
      | skip
  · have hk : k = 0 := by have := thrI_bad (t := t) (i := i) (by rw [HK.out]; exact he); rwa [HK.out] at this
    subst hk
    have he' : ((e : Int) == 0) = false := by rw [beq_eq_false_iff_ne]; omega
    have HBW := Lib.hid (HB0.out.trans (HB4.out.mono HB0.out.size))
    go_wp2
    all_goals first
      | (go_ret; exact ⟨rfl, HBW.out⟩)
      | skip
end Go.Proofs.YtjbdgjbmbohfmaaGreatDoor
namespace Go.Proofs.YtjbdgjbmbohfmaaGreatDoor
open Go Go.Proofs Go.RowKit Go.Deep
theorem cells3 : Tryz.prog.cellsOf 3 = 1 := by kernel_rfl
theorem cells2 : Tryz.prog.cellsOf 2 = 1 := by kernel_rfl
theorem cells4 : Tryz.prog.cellsOf 4 = 1 := by kernel_rfl
theorem cells9 : Tryz.prog.cellsOf 9 = 1 := by kernel_rfl
theorem cells30 : Tryz.prog.cellsOf 58 = 1 := by kernel_rfl
theorem cells31 : Tryz.prog.cellsOf 48 = 1 := by kernel_rfl
theorem cells29 : Tryz.prog.cellsOf 49 = 1 := by kernel_rfl
theorem cells22 : Tryz.prog.cellsOf 24 = 1 := by kernel_rfl
theorem cells23 : Tryz.prog.cellsOf 25 = 1 := by kernel_rfl
theorem cells24 : Tryz.prog.cellsOf 26 = 1 := by kernel_rfl
theorem cells33 : Tryz.prog.cellsOf 60 = 8 := by kernel_rfl
theorem cells47 : Tryz.prog.cellsOf 51 = 6 := by kernel_rfl
theorem cells52 : Tryz.prog.cellsOf 77 = 3 := by kernel_rfl
theorem cells26 : Tryz.prog.cellsOf 28 = 3 := by kernel_rfl

theorem len_cons {α : Type} {l : List α} {n : Nat} (h : l.length = n + 1) : ∃ a l', l = a :: l' ∧ l'.length = n := by
  cases l with
  | nil => simp at h
  | cons a l => exact ⟨a, l, rfl, by simpa using h⟩

section
variable {H : Type} {enc : TypeId × Value → H} {W : World} {base : Nat} {spare : Nat → Bool} {held : Bool}

theorem spot_of_cell {w : World} {a : Addr} {v : Value} (h : w.cell? a = some v) : a = ⟨a.block, a.off, none⟩ := by
  obtain ⟨b, o, s⟩ := a
  cases s with
  | none => rfl
  | some s =>
    exfalso
    unfold World.cell? at h
    split at h
    · simp at h
    · cases h

/-- A slice of elements of one cell, each of one kind. -/
theorem open_row1 {α : Type} {t e : TypeId} (f : α → Value) (ht : Tryz.prog.underlying t = some (.slice e)) (hc : Tryz.prog.cellsOf e = 1) (hf : ∀ n v x, DataW.trod enc Tryz.prog W base spare held n e [v] = some x → ∃ a, v = f a)
    {fuel : Nat} {c : Value} {x : DataW H × List MemPlace} (h : DataW.trod enc Tryz.prog W base spare held fuel t [c] = some x) :
    ∃ A cap, ∃ l : List α, c = .slice A l.length cap ∧ l.length ≤ maxLen ∧ SlAt (Lt W.heap.size) W A l.length (l.map f) := by
  rcases open_slice1 ht hc h with ⟨h0, _⟩ | ⟨a, len, cap, m, n, V, D, Pl, h0, hb, hl, hm, hmm, _, hx⟩
  · injection h0 with h0 _
    subst h0
    exact ⟨none, 0, [], rfl, by simp, SlAt.nil⟩
  · injection h0 with h0 _
    subst h0
    have hle : len ≤ m := by rw [hmm]; split <;> omega
    have key : ∀ k, k ≤ len → ∃ l : List α, l.length = k ∧ ∀ j u, (l.map f)[j]? = some u → W.cell? (a.add j) = some u := by
      intro k
      induction k with
      | zero => exact fun _ => ⟨[], rfl, fun j u hu => by simp at hu⟩
      | succ k ih =>
        intro hk
        obtain ⟨l, hll, hlc⟩ := ih (by omega)
        obtain ⟨h1, h2⟩ := hx k (by omega)
        obtain ⟨y, hy⟩ := hf _ _ _ h2
        refine ⟨l ++ [y], by simp [hll], fun j u hu => ?_⟩
        rw [List.map_append] at hu
        by_cases hj : j < l.length
        · rw [List.getElem?_append_left (by simpa using hj)] at hu
          exact hlc j u hu
        · rw [List.getElem?_append_right (by simp; omega)] at hu
          simp only [List.length_map, List.map_cons, List.map_nil] at hu
          have hj0 : j = k := by
            have := (List.getElem?_eq_some_iff.1 hu).1
            simp at this
            omega
          subst hj0
          rw [hll, Nat.sub_self] at hu
          simp only [List.getElem?_cons_zero, Option.some.injEq] at hu
          rw [h1, hy, hu]
    obtain ⟨l, hll, hlc⟩ := key len (Nat.le_refl _)
    subst hll
    refine ⟨some a, cap, l, rfl, by omega, by simp, fun hn => ?_⟩
    have h0 := hlc 0 (f l[0]) (by simp [hn])
    have hsp := spot_of_cell (hx 0 (by omega)).1
    have e0 : a.add 0 = a := rfl
    rw [e0] at h0 hsp
    obtain ⟨b, off, s⟩ := a
    simp only [Addr.mk.injEq, true_and] at hsp
    subst hsp
    refine ⟨b, off, rfl, block_lt_of_cell h0, fun j u hu => ?_⟩
    have := hlc j u hu
    unfold Addr.add at this
    split at this
    · rename_i hj; subst hj; exact this
    · exact this

theorem open_ints29 {fuel : Nat} {c : Value} {x : DataW H × List MemPlace} (h : DataW.trod enc Tryz.prog W base spare held fuel 49 [c] = some x) :
    ∃ A cap, ∃ l : List Int, c = .slice A l.length cap ∧ l.length ≤ maxLen ∧ SlAt (Lt W.heap.size) W A l.length (l.map iv) :=
  open_row1 iv Tryz.underlying49 cells3 (fun n v x hx => by
    obtain ⟨k, hk, _⟩ := DataW.trod_int Tryz.underlying3 hx
    injection hk with hk _
    exact ⟨k, hk⟩) h
theorem open_strs31 {fuel : Nat} {c : Value} {x : DataW H × List MemPlace} (h : DataW.trod enc Tryz.prog W base spare held fuel 48 [c] = some x) :
    ∃ A cap, ∃ l : List ByteArray, c = .slice A l.length cap ∧ l.length ≤ maxLen ∧ SlAt (Lt W.heap.size) W A l.length (l.map .string) :=
  open_row1 .string Tryz.underlying48 cells9 (fun n v x hx => by
    obtain ⟨k, hk, _⟩ := DataW.trod_string Tryz.underlying9 hx
    injection hk with hk _
    exact ⟨k, hk⟩) h

theorem fld {fs : Array Field} {xs : List (DataW H × List MemPlace)} {n : Nat} {cs : List Value} (hf : ∀ (i : Nat) (f : Field), fs[i]? = some f → DataW.trod enc Tryz.prog W base spare held n f.type ((cs.drop f.offset).take (Tryz.prog.cellsOf f.type)) = xs[i]?)
    (i T o : Nat) {f : Field} (h1 : fs[i]? = some f) (h2 : f.type = T) (h3 : f.offset = o) (hc : Tryz.prog.cellsOf T = 1) {y : DataW H × List MemPlace} (hy : xs[i]? = some y) : DataW.trod enc Tryz.prog W base spare held n T ((cs.drop o).take 1) = some y := by
  have := hf i f h1
  rw [h2, h3, hc] at this
  exact this.trans hy

theorem open_term {fuel : Nat} {cs : List Value} {x : DataW H × List MemPlace} (h : DataW.trod enc Tryz.prog W base spare held fuel 60 cs = some x) : ∃ t p, TermOk (Lt W.heap.size) W t p ∧ t.int ≤ 9223372036854775807 ∧ cs = termCells t p := by
  obtain ⟨xs, n, _, _, hl, hxl, hf⟩ := DataW.trod_struct Tryz.underlying60 h
  rw [cells33] at hl
  obtain ⟨v0, cs0, rfl, hh0⟩ := len_cons hl
  obtain ⟨v1, cs1, rfl, hh1⟩ := len_cons hh0
  obtain ⟨v2, cs2, rfl, hh2⟩ := len_cons hh1
  obtain ⟨v3, cs3, rfl, hh3⟩ := len_cons hh2
  obtain ⟨v4, cs4, rfl, hh4⟩ := len_cons hh3
  obtain ⟨v5, cs5, rfl, hh5⟩ := len_cons hh4
  obtain ⟨v6, cs6, rfl, hh6⟩ := len_cons hh5
  obtain ⟨v7, cs7, rfl, hh7⟩ := len_cons hh6
  obtain rfl : cs7 = [] := List.length_eq_zero_iff.1 hh7
  have get : ∀ i, i < 8 → ∃ y, xs[i]? = some y := fun i hi => ⟨xs[i]'(by rw [hxl]; exact hi), List.getElem?_eq_getElem _⟩
  obtain ⟨y0, h0⟩ := get 0 (by omega)
  obtain ⟨y1, h1⟩ := get 1 (by omega)
  obtain ⟨y2, h2⟩ := get 2 (by omega)
  obtain ⟨y3, h3⟩ := get 3 (by omega)
  obtain ⟨y4, h4⟩ := get 4 (by omega)
  obtain ⟨y5, h5⟩ := get 5 (by omega)
  obtain ⟨y6, h6⟩ := get 6 (by omega)
  obtain ⟨y7, h7⟩ := get 7 (by omega)
  have g0 := fld hf 0 3 0 rfl rfl rfl cells3 h0
  have g1 := fld hf 1 3 1 rfl rfl rfl cells3 h1
  have g2 := fld hf 2 9 2 rfl rfl rfl cells9 h2
  have g3 := fld hf 3 2 3 rfl rfl rfl cells2 h3
  have g4 := fld hf 4 58 4 rfl rfl rfl cells30 h4
  have g5 := fld hf 5 48 5 rfl rfl rfl cells31 h5
  have g6 := fld hf 6 49 6 rfl rfl rfl cells29 h6
  have g7 := fld hf 7 49 7 rfl rfl rfl cells29 h7
  simp only [List.drop_zero, List.drop_succ_cons, List.take_succ_cons, List.take_zero] at g0 g1 g2 g3 g4 g5 g6 g7
  obtain ⟨k0, e0, _⟩ := DataW.trod_int Tryz.underlying3 g0
  obtain ⟨k1, e1, _⟩ := DataW.trod_int Tryz.underlying3 g1
  obtain ⟨k2, e2, _⟩ := DataW.trod_string Tryz.underlying9 g2
  obtain ⟨k3, e3, _, w3⟩ := DataW.trod_int Tryz.underlying2 g3
  obtain ⟨k4, e4, _, w4⟩ := DataW.trod_int Tryz.underlying58 g4
  obtain ⟨a5, c5, l5, e5, _, s5⟩ := open_strs31 g5
  obtain ⟨a6, c6, l6, e6, _, s6⟩ := open_ints29 g6
  obtain ⟨a7, c7, l7, e7, _, s7⟩ := open_ints29 g7
  have hk3 : k3 ≤ 9223372036854775807 := by
    have h := (Bool.and_eq_true _ _ ▸ w3 : _ ∧ _).2
    have h' := of_decide_eq_true h
    simpa [IntKind.max, IntKind.bits, IntKind.signed] using h'
  have hk4 : 0 ≤ k4 := by
    have h := (Bool.and_eq_true _ _ ▸ w4 : _ ∧ _).1
    have h' := of_decide_eq_true h
    simpa [IntKind.min, IntKind.signed] using h'
  obtain ⟨b4, rfl⟩ : ∃ b4 : Nat, k4 = (b4 : Int) := ⟨k4.toNat, by omega⟩
  refine ⟨⟨k0, k1, k2, k3, b4, l5, l6, l7⟩, ⟨a5, c5, a6, c6, a7, c7⟩, ⟨s5, s6, s7⟩, hk3, ?_⟩
  unfold termCells
  simp only [List.cons.injEq, and_true] at e0 e1 e2 e3 e4 ⊢
  exact ⟨e0, e1, e2, e3, e4, e5, e6, e7⟩

theorem open_typ {fuel : Nat} {cs : List Value} {x : DataW H × List MemPlace} (h : DataW.trod enc Tryz.prog W base spare held fuel 51 cs = some x) : ∃ t p, TypOk (Lt W.heap.size) W t p ∧ cs = typCells t p := by
  obtain ⟨xs, n, _, _, hl, hxl, hf⟩ := DataW.trod_struct Tryz.underlying51 h
  rw [cells47] at hl
  obtain ⟨v0, cs0, rfl, hh0⟩ := len_cons hl
  obtain ⟨v1, cs1, rfl, hh1⟩ := len_cons hh0
  obtain ⟨v2, cs2, rfl, hh2⟩ := len_cons hh1
  obtain ⟨v3, cs3, rfl, hh3⟩ := len_cons hh2
  obtain ⟨v4, cs4, rfl, hh4⟩ := len_cons hh3
  obtain ⟨v5, cs5, rfl, hh5⟩ := len_cons hh4
  obtain rfl : cs5 = [] := List.length_eq_zero_iff.1 hh5
  have get : ∀ i, i < 6 → ∃ y, xs[i]? = some y := fun i hi => ⟨xs[i]'(by rw [hxl]; exact hi), List.getElem?_eq_getElem _⟩
  obtain ⟨y0, h0⟩ := get 0 (by omega)
  obtain ⟨y1, h1⟩ := get 1 (by omega)
  obtain ⟨y2, h2⟩ := get 2 (by omega)
  obtain ⟨y3, h3⟩ := get 3 (by omega)
  obtain ⟨y4, h4⟩ := get 4 (by omega)
  obtain ⟨y5, h5⟩ := get 5 (by omega)
  have g0 := fld hf 0 3 0 rfl rfl rfl cells3 h0
  have g1 := fld hf 1 3 1 rfl rfl rfl cells3 h1
  have g2 := fld hf 2 9 2 rfl rfl rfl cells9 h2
  have g3 := fld hf 3 48 3 rfl rfl rfl cells31 h3
  have g4 := fld hf 4 49 4 rfl rfl rfl cells29 h4
  have g5 := fld hf 5 4 5 rfl rfl rfl cells4 h5
  simp only [List.drop_zero, List.drop_succ_cons, List.take_succ_cons, List.take_zero] at g0 g1 g2 g3 g4 g5
  obtain ⟨k0, e0, _⟩ := DataW.trod_int Tryz.underlying3 g0
  obtain ⟨k1, e1, _⟩ := DataW.trod_int Tryz.underlying3 g1
  obtain ⟨k2, e2, _⟩ := DataW.trod_string Tryz.underlying9 g2
  obtain ⟨a3, c3, l3, e3, _, s3⟩ := open_strs31 g3
  obtain ⟨a4, c4, l4, e4, _, s4⟩ := open_ints29 g4
  obtain ⟨k5, e5, _⟩ := DataW.trod_bool Tryz.underlying4 g5
  refine ⟨⟨k0, k1, k2, l3, l4, k5⟩, ⟨a3, c3, a4, c4⟩, ⟨s3, s4⟩, ?_⟩
  unfold typCells
  simp only [List.cons.injEq, and_true] at e0 e1 e2 e5 ⊢
  exact ⟨e0, e1, e2, e3, e4, e5⟩

theorem open_ali {fuel : Nat} {cs : List Value} {x : DataW H × List MemPlace} (h : DataW.trod enc Tryz.prog W base spare held fuel 77 cs = some x) : ∃ t, cs = aliCells t := by
  obtain ⟨xs, n, _, _, hl, hxl, hf⟩ := DataW.trod_struct Tryz.underlying77 h
  rw [cells52] at hl
  obtain ⟨v0, cs0, rfl, hh0⟩ := len_cons hl
  obtain ⟨v1, cs1, rfl, hh1⟩ := len_cons hh0
  obtain ⟨v2, cs2, rfl, hh2⟩ := len_cons hh1
  obtain rfl : cs2 = [] := List.length_eq_zero_iff.1 hh2
  have get : ∀ i, i < 3 → ∃ y, xs[i]? = some y := fun i hi => ⟨xs[i]'(by rw [hxl]; exact hi), List.getElem?_eq_getElem _⟩
  obtain ⟨y0, h0⟩ := get 0 (by omega)
  obtain ⟨y1, h1⟩ := get 1 (by omega)
  obtain ⟨y2, h2⟩ := get 2 (by omega)
  have g0 := fld hf 0 9 0 rfl rfl rfl cells9 h0
  have g1 := fld hf 1 3 1 rfl rfl rfl cells3 h1
  have g2 := fld hf 2 3 2 rfl rfl rfl cells3 h2
  simp only [List.drop_zero, List.drop_succ_cons, List.take_succ_cons, List.take_zero] at g0 g1 g2
  obtain ⟨k0, e0, _⟩ := DataW.trod_string Tryz.underlying9 g0
  obtain ⟨k1, e1, _⟩ := DataW.trod_int Tryz.underlying3 g1
  obtain ⟨k2, e2, _⟩ := DataW.trod_int Tryz.underlying3 g2
  refine ⟨⟨k0, k1, k2⟩, ?_⟩
  unfold aliCells
  simp only [List.cons.injEq, and_true] at e0 e1 e2 ⊢
  exact ⟨e0, e1, e2⟩

/-- A slice of structs, each of one kind. -/
theorem open_rows {α : Type} {t e : TypeId} (s : Nat) (hs : 0 < s) (Q : α → List Value → Prop) (hlen : ∀ a cs, Q a cs → cs.length = s) (ht : Tryz.prog.underlying t = some (.slice e)) (hc : Tryz.prog.cellsOf e = s)
    (hf : ∀ n cs x, DataW.trod enc Tryz.prog W base spare held n e cs = some x → ∃ a, Q a cs)
    {fuel : Nat} {c : Value} {x : DataW H × List MemPlace} (h : DataW.trod enc Tryz.prog W base spare held fuel t [c] = some x) :
    ∃ A cap, ∃ l : List α, c = .slice A l.length cap ∧ l.length ≤ maxLen ∧ (0 < l.length → ∃ b off, A = some ⟨b, off, none⟩ ∧ b < W.heap.size ∧ ∀ i a, l[i]? = some a → ∃ cs, Q a cs ∧ ∀ j u, cs[j]? = some u → W.cell? ⟨b, off + i * s + j, none⟩ = some u) := by
  rcases open_slice ht h with ⟨h0, _⟩ | ⟨a, len, cap, m, n, D, Pl, h0, hb, hl, hm, hmm, _, hx⟩
  · injection h0 with h0 _
    subst h0
    exact ⟨none, 0, [], rfl, by simp, fun h => absurd h (by simp)⟩
  · injection h0 with h0 _
    subst h0
    rw [hc] at hx
    have hle : len ≤ m := by rw [hmm]; split <;> omega
    have one : ∀ k, k < len → ∃ y cs, Q y cs ∧ ∀ j u, cs[j]? = some u → W.cell? ((a.add (k * s)).add j) = some u := fun k hk => by
      obtain ⟨cs, h1, h2⟩ := hx k (by omega)
      obtain ⟨y, hy⟩ := hf _ _ _ h2
      obtain ⟨_, hcl, hcc⟩ := World.cells?_some h1
      refine ⟨y, cs, hy, fun j u hu => ?_⟩
      have hj := (List.getElem?_eq_some_iff.1 hu).1
      rw [hcc j (by omega), hu]
    have key : ∀ k, k ≤ len → ∃ l : List α, l.length = k ∧ ∀ i y, l[i]? = some y → ∃ cs, Q y cs ∧ ∀ j u, cs[j]? = some u → W.cell? ((a.add (i * s)).add j) = some u := by
      intro k
      induction k with
      | zero => exact fun _ => ⟨[], rfl, fun j u hu => by simp at hu⟩
      | succ k ih =>
        intro hk
        obtain ⟨l, hll, hlc⟩ := ih (by omega)
        obtain ⟨y, cs, hy, hcs⟩ := one k (by omega)
        refine ⟨l ++ [y], by simp [hll], fun i z hz => ?_⟩
        by_cases hj : i < l.length
        · rw [List.getElem?_append_left hj] at hz
          exact hlc i z hz
        · rw [List.getElem?_append_right (by omega)] at hz
          have hj0 : i = k := by
            have := (List.getElem?_eq_some_iff.1 hz).1
            simp at this
            omega
          subst hj0
          rw [hll, Nat.sub_self] at hz
          simp only [List.getElem?_cons_zero, Option.some.injEq] at hz
          subst hz
          exact ⟨cs, hy, hcs⟩
    obtain ⟨l, hll, hlc⟩ := key len (Nat.le_refl _)
    subst hll
    refine ⟨some a, cap, l, rfl, by omega, fun hn => ?_⟩
    obtain ⟨cs, hQ, hcs⟩ := hlc 0 l[0] (by simp [hn])
    have hcl := hlen _ _ hQ
    have h0 := hcs 0 cs[0] (by simp [hcl, hs])
    have e0 : (a.add (0 * s)).add 0 = a := by rw [Nat.zero_mul]; rfl
    rw [e0] at h0
    have hsp := spot_of_cell h0
    obtain ⟨b, off, sp⟩ := a
    simp only [Addr.mk.injEq, true_and] at hsp
    subst hsp
    refine ⟨b, off, rfl, block_lt_of_cell h0, fun i y hy => ?_⟩
    obtain ⟨cs, hQ, hcs⟩ := hlc i y hy
    refine ⟨cs, hQ, fun j u hu => ?_⟩
    have := hcs j u hu
    rw [add_add] at this
    unfold Addr.add at this
    split at this
    · rename_i hj
      rw [show off + i * s + j = off by omega]
      exact this
    · rw [show off + i * s + j = off + (i * s + j) by omega]
      exact this

set_option maxRecDepth 100000 in
/-- A TREE THAT CAME IN. -/
theorem open_tree26 {r : Reach} {b0 : Nat} {v : Value} {d : DataW H} {ps : List MemPlace} (hval : Value.okWide Tryz.prog W r b0 28 v) (h : DataW.Trod enc Tryz.prog W base spare held 28 v d ps) :
    ∃ t p, v = treeV t p ∧ TreeAt (Lt W.heap.size) W t p ∧ t.nodes.length ≤ maxLen ∧ t.types.length ≤ maxLen ∧ t.aliases.length ≤ maxLen ∧ ∀ x ∈ t.nodes, x.int ≤ 9223372036854775807 := by
  unfold Value.okWide at hval
  rw [Tryz.underlying28] at hval
  obtain ⟨cs, rfl, hsz, _⟩ := hval
  obtain ⟨fuel, h⟩ := h
  obtain ⟨xs, n, _, _, hl, hxl, hf⟩ := DataW.trod_struct Tryz.underlying28 h
  rw [cells26] at hsz
  obtain ⟨l⟩ := cs
  have hsz' : l.length = 3 := hsz
  obtain ⟨v0, cs0, rfl, hh0⟩ := len_cons hsz'
  obtain ⟨v1, cs1, rfl, hh1⟩ := len_cons hh0
  obtain ⟨v2, cs2, rfl, hh2⟩ := len_cons hh1
  obtain rfl : cs2 = [] := List.length_eq_zero_iff.1 hh2
  have hcs : ((Value.agg (Array.mk [v0, v1, v2])).cells.toList) = [v0, v1, v2] := rfl
  rw [hcs] at hf
  have get : ∀ i, i < 3 → ∃ y, xs[i]? = some y := fun i hi => ⟨xs[i]'(by rw [hxl]; exact hi), List.getElem?_eq_getElem _⟩
  obtain ⟨y0, h0⟩ := get 0 (by omega)
  obtain ⟨y1, h1⟩ := get 1 (by omega)
  obtain ⟨y2, h2⟩ := get 2 (by omega)
  have g0 := fld hf 0 24 0 rfl rfl rfl cells22 h0
  have g1 := fld hf 1 25 1 rfl rfl rfl cells23 h1
  have g2 := fld hf 2 26 2 rfl rfl rfl cells24 h2
  simp only [List.drop_zero, List.drop_succ_cons, List.take_succ_cons, List.take_zero] at g0 g1 g2
  obtain ⟨A1, c1, l1, rfl, m1, t1⟩ := open_rows 8 (by omega) (fun (t : TermD) cs => ∃ p, TermOk (Lt W.heap.size) W t p ∧ t.int ≤ 9223372036854775807 ∧ cs = termCells t p) (fun a cs h => by obtain ⟨p, _, _, rfl⟩ := h; rfl) Tryz.underlying24 cells33 (fun n cs x hx => open_term hx) g0
  obtain ⟨A2, c2, l2, rfl, m2, t2⟩ := open_rows 6 (by omega) (fun (t : TypD) cs => ∃ p, TypOk (Lt W.heap.size) W t p ∧ cs = typCells t p) (fun a cs h => by obtain ⟨p, _, rfl⟩ := h; rfl) Tryz.underlying25 cells47 (fun n cs x hx => open_typ hx) g1
  obtain ⟨A3, c3, l3, rfl, m3, t3⟩ := open_rows 3 (by omega) (fun (t : AliD) cs => cs = aliCells t) (fun a cs h => by subst h; rfl) Tryz.underlying26 cells52 (fun n cs x hx => open_ali hx) g2
  refine ⟨⟨l1, l2, l3⟩, ⟨A1, c1, A2, c2, A3, c3⟩, rfl, ⟨fun hn => ?_, fun hn => ?_, fun hn => ?_⟩, m1, m2, m3, fun x hx => by
    obtain ⟨i, hi, rfl⟩ := List.getElem_of_mem hx
    obtain ⟨b, off, e, hb, hc⟩ := t1 (by dsimp only at hi; omega)
    obtain ⟨cs, ⟨p, hp, hk, rfl⟩, _⟩ := hc i _ (List.getElem?_eq_getElem hi)
    exact hk⟩
  · obtain ⟨b, off, e, hb, hc⟩ := t1 hn
    refine ⟨b, off, e, hb, fun i t ht => ?_⟩
    obtain ⟨cs, ⟨p, hp, _, rfl⟩, hcs⟩ := hc i t ht
    exact ⟨p, hp, hcs⟩
  · obtain ⟨b, off, e, hb, hc⟩ := t2 hn
    refine ⟨b, off, e, hb, fun i t ht => ?_⟩
    obtain ⟨cs, ⟨p, hp, rfl⟩, hcs⟩ := hc i t ht
    exact ⟨p, hp, hcs⟩
  · obtain ⟨b, off, e, hb, hc⟩ := t3 hn
    refine ⟨b, off, e, hb, fun i t ht j u hu => ?_⟩
    obtain ⟨cs, rfl, hcs⟩ := hc i t ht
    exact hcs j u hu
end
end Go.Proofs.YtjbdgjbmbohfmaaGreatDoor
namespace Go.Proofs.YtjbdgjbmbohfmaaGreatDoor
open Go Go.Proofs Go.RowKit

/-- Each is a kid of one at most. -/
def Un (kids : Nat → List Nat) (n : Nat) : Prop := ∀ p q j, p < n → q < n → j ∈ kids p → j ∈ kids q → p = q
def tmK (t : TreeD) (i : Nat) : List Nat := match t.nodes[i]? with | some x => x.kids.map Int.toNat | none => []
theorem nats_flat {α : Type} (f : α → List Int) (l : List α) : nats (l.flatMap f) = l.flatMap fun x => nats (f x) := by
  unfold nats
  rw [List.map_flatMap]
theorem tmK_nats (t : TreeD) : ∀ (i : Nat) (x : TermD), t.nodes[i]? = some x → tmK t i = nats x.kids := fun i x h => by unfold tmK; rw [h]; rfl
theorem un_of {α : Type} (f : α → List Nat) (l : List α) (h : (l.flatMap f).Nodup) (kids : Nat → List Nat) (hk : ∀ i x, l[i]? = some x → kids i = f x) : Un kids l.length ∧ ∀ i, i < l.length → (kids i).Nodup := by
  unfold List.Nodup at h
  rw [List.pairwise_flatMap] at h
  constructor
  · intro p q j hp hq h1 h2
    rw [hk p _ (List.getElem?_eq_getElem hp)] at h1
    rw [hk q _ (List.getElem?_eq_getElem hq)] at h2
    rcases Nat.lt_trichotomy p q with hlt | rfl | hlt
    · exact absurd rfl (List.pairwise_iff_getElem.1 h.2 p q hp hq hlt j h1 j h2)
    · rfl
    · exact absurd rfl (List.pairwise_iff_getElem.1 h.2 q p hq hp hlt j h2 j h1)
  · intro i hi
    rw [hk i _ (List.getElem?_eq_getElem hi)]
    exact h.1 _ (List.getElem_mem hi)
theorem Whole.unN {t : TreeD} (h : Whole t) : Un (tmK t) t.nodes.length ∧ ∀ i, i < t.nodes.length → (tmK t i).Nodup :=
  un_of (fun x : TermD => nats x.kids) t.nodes (by rw [← nats_flat]; exact h.onceN) _ (tmK_nats t)
theorem own_base {w : World} {base : Nat} {e : TypeId} {size : Nat} {v : Value} {n : Nat} {xs : List Value} (h : w.ownsRow base e size v n xs) : ∀ g, v.ownBlock = some g → base ≤ g := fun _ hg => (own_lt h hg).2
theorem thru_step {t : TreeD} {i j : Nat} (h : stp t i = some j) (f : Nat) : thruF t (f + 1) i = thruF t f j := by
  unfold stp at h
  rw [thruF]
  cases hn : t.types[i]? with
  | none => rw [hn] at h; cases h
  | some n =>
    rw [hn] at h
    dsimp only at h ⊢
    by_cases hk : n.kind ≠ 10
    · rw [if_pos hk] at h; cases h
    · rw [if_neg hk] at h
      rw [if_neg hk]
      cases ha : firstA t.aliases n.name with
      | none => rw [ha] at h; cases h
      | some a =>
        rw [ha] at h
        dsimp only at h ⊢
        rw [h]
        rfl
theorem thru_steps {t : TreeD} : ∀ {n i j : Nat}, stpN t n i = some j → ∀ f, thruF t (n + f) i = thruF t f j
  | 0, i, j, h, f => by
    injection h with h
    rw [h, Nat.zero_add]
  | n + 1, i, j, h, f => by
    unfold stpN at h
    cases hs : stp t i with
    | none => rw [hs] at h; cases h
    | some k =>
      rw [hs] at h
      rw [show n + 1 + f = n + f + 1 by omega, thru_step hs]
      exact thru_steps h f
theorem thru_short {t : TreeD} : ∀ {n i j : Nat}, stpN t n i = some j → ∀ f, f ≤ n → thruF t f i = (0, 9)
  | _, _, _, _, 0, _ => rfl
  | 0, _, _, _, f + 1, hf => absurd hf (by omega)
  | n + 1, i, j, h, f + 1, hf => by
    unfold stpN at h
    cases hs : stp t i with
    | none => rw [hs] at h; cases h
    | some k =>
      rw [hs] at h
      rw [thru_step hs]
      exact thru_short h f (by omega)
/-- What comes back to itself stands for nothing. -/
theorem thru_round {t : TreeD} {n i : Nat} (h : stpN t (n + 1) i = some i) : ∀ f, thruF t f i = (0, 9) := by
  intro f
  induction f using Nat.strongRecOn with
  | _ f ih =>
    by_cases hf : f ≤ n + 1
    · exact thru_short h f hf
    · obtain ⟨g, rfl⟩ : ∃ g, f = n + 1 + g := ⟨f - (n + 1), by omega⟩
      rw [thru_steps h]
      exact ih g (by omega)
theorem inB_iff {l : List ByteArray} {s : ByteArray} : inB l s = true ↔ s ∈ l := by
  unfold inB
  rw [List.any_eq_true]
  constructor
  · rintro ⟨x, hx, h⟩
    rw [← of_decide_eq_true h]; exact hx
  · intro h
    exact ⟨s, h, by simp⟩
/-- The document's way: with the names that were looked through. -/
def refT (t : TreeD) : Nat → Nat → List ByteArray → Nat × Nat
  | 0, _, _ => (0, 9)
  | f + 1, i, seen => match t.types[i]? with
    | none => (0, 13)
    | some n => if n.kind ≠ 10 then (i, 0) else match firstA t.aliases n.name with
      | none => (0, 7)
      | some a => if inB seen n.name = true then (0, 9) else refT t f (((t.aliases[a]?).map (·.type.toNat)).getD 0) (seen ++ [n.name])
theorem refT_eq {t : TreeD} : ∀ (f i : Nat) (seen : List ByteArray), Seen t i seen → seen.length + f = t.aliases.length + 1 → refT t f i seen = thruF t f i
  | 0, i, seen, h, hf => absurd h.le (by omega)
  | f + 1, i, seen, h, hf => by
    cases hn : t.types[i]? with
    | none => rw [refT, thruF, hn]
    | some n =>
      by_cases hk : n.kind ≠ 10
      · rw [refT, thruF, hn]
        dsimp only
        rw [if_pos hk, if_pos hk]
      · cases ha : firstA t.aliases n.name with
        | none =>
          rw [refT, thruF, hn]
          dsimp only
          rw [if_neg hk, if_neg hk, ha]
        | some a =>
          have hk' : n.kind = 10 := Decidable.byContradiction hk
          by_cases hs : n.name ∈ seen
          · obtain ⟨y, hy⟩ := h.round hn hk' hs
            rw [thru_round hy, refT, hn]
            dsimp only
            rw [if_neg hk, ha]
            dsimp only
            rw [if_pos (inB_iff.2 hs)]
          · rw [refT, thruF, hn]
            dsimp only
            rw [if_neg hk, if_neg hk, ha]
            dsimp only
            rw [if_neg (fun e => hs (inB_iff.1 e))]
            have hl := firstA_lt ha
            have hj : stp t i = some (((t.aliases[a]?).map (·.type.toNat)).getD 0) := by
              unfold stp
              rw [hn]
              dsimp only
              rw [if_neg hk, ha]
              dsimp only
              rw [List.getElem?_eq_getElem hl]
              rfl
            exact refT_eq f _ _ (h.on hn hk' ha hs hj) (by simp; omega)
theorem refT_thru (t : TreeD) (i : Nat) : refT t (t.aliases.length + 1) i [] = thruF t (t.aliases.length + 1) i :=
  refT_eq _ i [] ⟨by simp, by simp, by simp⟩ (by simp)
end Go.Proofs.YtjbdgjbmbohfmaaGreatDoor

namespace Go.Proofs.YtjbdgjbmbohfmaaGreatDoor
open Go Go.Proofs

section
variable {P : Program} {ops : Array Oper} {Q : Exit → Act → World → Prop} {md : Region.Mode} {S : World → Prop} {D : Nat → Bool}

/-- Whatever order is picked from here on; S holds behind every operation that is carried out, but those of D. -/
def wpAnyG (P : Program) (md : Region.Mode) (ops : Array Oper) (Q : Exit → Act → World → Prop) (S : World → Prop) (D : Nat → Bool) : Nat → Array Bool → Act → World → Prop
  | 0, listed, a, w => Region.ready md ops listed = [] ∧ Q .normal a w
  | fuel + 1, listed, a, w =>
    (Region.ready md ops listed = [] → Q .normal a w) ∧
    ∀ i ∈ Region.ready md ops listed, wpOp P ops Q i (fun a' w' => (D i = false → S w') ∧ wpAnyG P md ops Q S D fuel (listed.setIfInBounds i true) a' w') a w

theorem wpAny_of_heldG : ∀ (fuel : Nat) (listed : Array Bool) (a : Act) (w : World), wpAnyG P md ops Q S D fuel listed a w → wpAny P md ops Q fuel listed a w
  | 0, _, _, _, h => h
  | fuel + 1, _, _, _, h => ⟨h.1, fun i hi => wpOp_mono (fun a' w' h' => wpAny_of_heldG fuel _ a' w' h'.2) (h.2 i hi)⟩

/-- Number j waits for number i, in f steps. -/
def reach (md : Region.Mode) (ops : Array Oper) (i : Nat) : Nat → Nat → Bool
  | 0, _ => false
  | f + 1, j => match ops[j]? with
    | some o => o.after.any fun e => Region.binds md e && (e.on == i || reach md ops i f e.on)
    | none => false
/-- Those of D wait for number i. -/
def waits (md : Region.Mode) (ops : Array Oper) (D : Nat → Bool) (i : Nat) : Bool := (List.range ops.size).all fun j => !D j || reach md ops i ops.size j
/-- What has come up has all behind it that it waits for. -/
def ClosedL (md : Region.Mode) (ops : Array Oper) (listed : Array Bool) : Prop := ∀ (j : Nat) (o : Oper), ops[j]? = some o → listed.getD j false = true → ∀ e ∈ o.after, Region.binds md e = true → listed.getD e.on false = true
def closedB (md : Region.Mode) (ops : Array Oper) (listed : Array Bool) : Bool := (List.range ops.size).all fun j => !(listed.getD j false) || (match ops[j]? with
  | some o => o.after.all fun e => !(Region.binds md e) || listed.getD e.on false
  | none => true)
theorem closed_spec {listed : Array Bool} (h : closedB md ops listed = true) : ClosedL md ops listed := by
  intro j o ho hl e he hb
  unfold closedB at h
  rw [List.all_eq_true] at h
  have h1 := h j (List.mem_range.2 (Array.getElem?_eq_some_iff.1 ho).1)
  rw [ho] at h1
  simp only [hl, Bool.not_true, Bool.false_or] at h1
  have h2 := Array.all_eq_true_iff_forall_mem.1 h1 e he
  simpa [hb] using h2
theorem reach_unlisted {i : Nat} {listed : Array Bool} (hc : ClosedL md ops listed) (hi : listed.getD i false = false) : ∀ (f j : Nat), reach md ops i f j = true → listed.getD j false = false := by
  intro f
  induction f with
  | zero => intro j h; cases h
  | succ f ih =>
    intro j h
    unfold reach at h
    cases ho : ops[j]? with
    | none => rw [ho] at h; cases h
    | some o =>
      rw [ho] at h
      obtain ⟨e, he, hb⟩ := Array.any_eq_true'.1 h
      simp only [Bool.and_eq_true, Bool.or_eq_true, beq_iff_eq] at hb
      cases hl : listed.getD j false with
      | false => rfl
      | true =>
        have h1 := hc j o ho hl e he hb.1
        rcases hb.2 with h2 | h2
        · rw [h2, hi] at h1; cases h1
        · rw [ih _ h2] at h1; cases h1
theorem reach_not_ready {i j : Nat} {oj : Oper} {listed : Array Bool} (hc : ClosedL md ops listed) (hi : listed.getD i false = false) {f : Nat} (hr : reach md ops i f j = true) (hoj : ops[j]? = some oj) (hall : ∀ e ∈ oj.after, Region.binds md e = true → listed.getD e.on false = true) : False := by
  cases f with
  | zero => cases hr
  | succ f =>
    unfold reach at hr
    rw [hoj] at hr
    obtain ⟨e, he, hb⟩ := Array.any_eq_true'.1 hr
    simp only [Bool.and_eq_true, Bool.or_eq_true, beq_iff_eq] at hb
    have h1 := hall e he hb.1
    rcases hb.2 with h2 | h2
    · rw [h2, hi] at h1; cases h1
    · rw [reach_unlisted hc hi _ _ h2] at h1; cases h1
theorem ClosedL.set {listed : Array Bool} (hc : ClosedL md ops listed) {j : Nat} {oj : Oper} (hoj : ops[j]? = some oj) (hall : ∀ e ∈ oj.after, Region.binds md e = true → listed.getD e.on false = true) : ClosedL md ops (listed.setIfInBounds j true) := by
  intro k ok hok hl e he hb
  by_cases hjk : j = k
  · subst hjk
    rw [hoj] at hok
    injection hok with hok
    subst hok
    exact getD_set_true (hall e he hb)
  · rw [getD_set_ne false hjk] at hl
    exact getD_set_true (hc k ok hok hl e he hb)

theorem wpAnyG_first {i : Nat} {oi : Oper} {v : Value} (hi : ops[i]? = some oi) (hsel : ∀ (j : Nat) (o : Oper) cs b, ops[j]? = some o → o.op ≠ .select cs b)
    (hQ : ∀ c a w, Q (.panic c) (a.put oi.dst v) w → Q (.panic c) a w) (hD : ∀ (j : Nat), j < ops.size → D j = true → reach md ops i ops.size j = true) :
    ∀ (fuel : Nat) (listed : Array Bool) (a : Act) (w : World),
      (∀ j oj, ops[j]? = some oj → j ≠ i → listed.getD j true = false → (∀ e ∈ oj.after, Region.binds md e = true → e.on ≠ i) → oi.apart ops oj = true) →
      ClosedL md ops listed →
      i ∈ Region.ready md ops listed → YieldsIf P ops S oi v a → S w → (D i = false) →
      wpAnyG P md ops Q S D fuel (listed.setIfInBounds i true) (a.put oi.dst v) w → wpAnyG P md ops Q S D (fuel + 1) listed a w := by
  intro fuel
  induction fuel with
  | zero =>
    intro listed a w _ _ hr hy hS _ H
    refine ⟨fun h => (by rw [h] at hr; cases hr), fun j hj => ?_⟩
    by_cases hji : j = i
    · subst hji; exact hy.wpOp hi hS ⟨fun _ => hS, H⟩
    · have := ready_mono hj hji
      rw [H.1] at this
      cases this
  | succ fuel ih =>
    intro listed a w hfree hun0 hr hy hS hDi H
    refine ⟨fun h => (by rw [h] at hr; cases hr), fun j hj => ?_⟩
    by_cases hji : j = i
    · subst hji; exact hy.wpOp hi hS ⟨fun _ => hS, H⟩
    · have h1 := H.2 j (ready_mono hj hji)
      obtain ⟨hjun, oj, hoj, hall⟩ := mem_ready.1 hj
      have hnot : ∀ e ∈ oj.after, Region.binds md e = true → e.on ≠ i := fun e he hb heq => by
        have h1 := hall e he hb
        have h0 := (mem_ready.1 hr).1
        rw [heq] at h1
        rcases Nat.lt_or_ge i listed.size with h' | h'
        · simp [h'] at h0 h1; rw [h0] at h1; cases h1
        · simp [Array.getElem?_eq_none h'] at h1
      have hi0 : listed.getD i false = false := by
        have h0 := (mem_ready.1 hr).1
        rcases Nat.lt_or_ge i listed.size with h' | h'
        · simp [h'] at h0 ⊢; exact h0
        · simp [Array.getElem?_eq_none h'] at h0
      have hDj : D j = false := by
        cases hd : D j with
        | false => rfl
        | true => exact (reach_not_ready hun0 hi0 (hD j (Array.getElem?_eq_some_iff.1 hoj).1 hd) hoj hall).elim
      have h2 := wpOp_putIf hoj (hfree j oj hoj hji hjun hnot) (fun cs b => hsel i oi cs b hi) (fun cs b => hsel j oj cs b hoj) hQ hy h1
      have hfree' : ∀ k ok, ops[k]? = some ok → k ≠ i → (listed.setIfInBounds j true).getD k true = false →
          (∀ e ∈ ok.after, Region.binds md e = true → e.on ≠ i) → oi.apart ops ok = true := fun k ok hk hki hun hno => by
        refine hfree k ok hk hki ?_ hno
        by_cases hjk : j = k
        · subst hjk; exact hjun
        · rw [getD_set_ne true hjk] at hun; exact hun
      have hun' := hun0.set hoj hall
      refine wpOp_mono (fun a' w' h3 => ⟨h3.2.1, ih (listed.setIfInBounds j true) a' w' hfree' hun' (ready_mono hr (Ne.symm hji)) h3.1 (h3.2.1 hDj) hDi ?_⟩) h2
      rw [Array.setIfInBounds_comm _ _ hji]
      exact h3.2.2

/-- Take number i first. -/
theorem wpAnyG_take {i : Nat} {oi : Oper} {v : Value} {fuel : Nat} {listed : Array Bool} {a : Act} {w : World} (hi : ops[i]? = some oi)
    (hs : Region.noSelect ops = true) (hf : Region.free md ops listed i = true) (hr : (Region.ready md ops listed).contains i = true) (hw : waits md ops D i = true) (hl : closedB md ops listed = true) (hDi : D i = false)
    (hQ : ∀ c a w, Q (.panic c) (a.put oi.dst v) w → Q (.panic c) a w) (hy : YieldsIf P ops S oi v a) (hS : S w)
    (h : wpAnyG P md ops Q S D fuel (listed.setIfInBounds i true) (a.put oi.dst v) w) : wpAnyG P md ops Q S D (fuel + 1) listed a w :=
  wpAnyG_first hi (Region.noSelect_spec hs) hQ (fun j hj hd => by unfold waits at hw; rw [List.all_eq_true] at hw; simpa [hd] using hw j (List.mem_range.2 hj)) fuel listed a w (Region.free_spec hi hf) (closed_spec hl) (by simpa using hr) hy hS hDi h

/-- Each of the operations 'rs' comes up next. -/
def AllReadyG (P : Program) (md : Region.Mode) (ops : Array Oper) (Q : Exit → Act → World → Prop) (S : World → Prop) (D : Nat → Bool) (fuel : Nat) (listed : Array Bool) (a : Act) (w : World) (rs : List Nat) : Prop :=
  ∀ i ∈ rs, wpOp P ops Q i (fun a' w' => (D i = false → S w') ∧ wpAnyG P md ops Q S D fuel (listed.setIfInBounds i true) a' w') a w
theorem AllReadyG.nil {fuel : Nat} {listed : Array Bool} {a : Act} {w : World} : AllReadyG P md ops Q S D fuel listed a w [] := fun _ h => by cases h
/-- One that S holds behind. -/
theorem AllReadyG.held {fuel : Nat} {listed : Array Bool} {a : Act} {w : World} {i : Nat} {o : Oper} {rs : List Nat} (ho : ops[i]? = some o)
    (h : ∀ K' : Act → World → Prop, _root_.Go.Shut (∀ a w, S w → (S w → wpAnyG P md ops Q S D fuel (listed.setIfInBounds i true) a w) → K' a w) → if Region.wanted o (yielded ops a.tmps) = true then Oper.wp P o a w K' Q else K' (a.put o.dst undef) w)
    (hs : AllReadyG P md ops Q S D fuel listed a w rs) : AllReadyG P md ops Q S D fuel listed a w (i :: rs) := fun j hj => by
  rcases List.mem_cons.1 hj with rfl | hj
  · exact wpOp_step ho (fun K' hK => h K' (fun a w hS hW => hK a w ⟨fun _ => hS, hW hS⟩))
  · exact hs j hj
theorem wpAnyG_ready {rs : List Nat} {fuel : Nat} {listed : Array Bool} {a : Act} {w : World} (hr : Region.ready md ops listed = rs) (hne : rs ≠ [])
    (h : AllReadyG P md ops Q S D fuel listed a w rs) : wpAnyG P md ops Q S D (fuel + 1) listed a w := ⟨fun h0 => absurd (hr ▸ h0) hne, hr ▸ h⟩
theorem wpAnyG_done {listed : Array Bool} {a : Act} {w : World} (hr : Region.ready md ops listed = []) (h : Q .normal a w) :
    ∀ fuel, wpAnyG P md ops Q S D fuel listed a w
  | 0 => ⟨hr, h⟩
  | _ + 1 => ⟨fun _ => h, by rw [hr]; simp⟩
theorem wp_region_heldG {id : Nat} {a : Act} {w : World} (D : Nat → Bool) (hm : P.follows .mixedOrders = true) (hS : S w.drew)
    (h : S w.drew → wpAnyG P .any ops Q S D ops.size (Array.replicate ops.size false) a w.drew) : (Code.region id ops true).wp P Q a w :=
  wp_region_any hm (wpAny_of_heldG _ _ _ _ (h hS))
end
end Go.Proofs.YtjbdgjbmbohfmaaGreatDoor

namespace Go.Proofs.YtjbdgjbmbohfmaaGreatDoor
open Go Go.Proofs Go.RowKit

def idxN : List Int → Int → Nat → Option Nat
  | [], _, _ => none
  | x :: l, v, k => if x = v then some k else idxN l v (k + 1)
def idxV (o : Option Nat) : Int := match o with | some k => (k : Int) | none => -1
theorem idxN_drop {l : List Int} {v : Int} {k : Nat} (h : k < l.length) (s : Nat) : idxN (l.drop k) v s = if l[k] = v then some s else idxN (l.drop (k + 1)) v (s + 1) := by
  rw [List.drop_eq_getElem_cons h]
  rfl

set_option maxRecDepth 100000 in
set_option maxHeartbeats 4000000 in
theorem indexI_any (ks : List Int) (A : Option Addr) (c : Nat) (v : Int) (w : World) (hS : RdAt w A (ks.map iv)) (hl : ks.length ≤ 9223372036854775000) :
    Calls Tryz.prog 82 #[.slice A ks.length c, .int .i64 v] w fun e w' => e = .returned (.int .i64 (idxV (idxN ks v 0))) ∧ Below w.heap.size w w' := by
  obtain ⟨R, hR⟩ : ∃ R, idxN ks v 0 = R := ⟨_, rfl⟩
  rw [hR]
  have HR := Lib.hid hR
  clear hR
  go_enter Tryz.func82, Tryz.ntmps82
  go_wp2
  go_loopw [5, 8] (fun _ vc wr => ∃ k : Nat, k ≤ ks.length ∧ vc = .int .i64 (k : Int) ∧ Hid (idxN (ks.drop k) v k = R) ∧ wr = w) (fun _ vc _ => ks.length - (intOf vc).toNat)
  case atStart => exact ⟨0, Nat.zero_le _, rfl, HR, rfl⟩
  case round =>
    obtain ⟨k, hk, rfl, HK, rfl⟩ := hrel
    by_cases hlk : k < ks.length
    · rcases hS with h0 | ⟨b, off, rfl, hc⟩
      · exfalso
        have : ks = [] := by simpa using h0
        subst this
        simp at hlk
      · have e0 := hc k (iv ks[k]) (by simp [hlk])
        by_cases hv : ks[k] = v
        · have hr : R = some k := by rw [← HK.out, idxN_drop hlk, if_pos hv]
          subst hr
          subst hv
          go_wp2
          go_ret
          exact ⟨rfl, Below.refl _ _⟩
        · have hr : idxN (ks.drop (k + 1)) v (k + 1) = R := by rw [← HK.out, idxN_drop hlk, if_neg hv]
          have hq : (v == ks[k]) = false := by rw [beq_eq_false_iff_ne]; exact fun e => hv e.symm
          have HN := Lib.hid hr
          clear hr
          go_wp2
          exact ⟨⟨k + 1, by omega, by go_num, HN, trivial⟩, by simp only [intOf]; omega⟩
    · have hr : R = none := by rw [← HK.out, List.drop_eq_nil_of_le (by omega)]; rfl
      subst hr
      go_wp2
      go_ret
      exact ⟨rfl, Below.refl _ _⟩
end Go.Proofs.YtjbdgjbmbohfmaaGreatDoor

namespace Go.Proofs.YtjbdgjbmbohfmaaGreatDoor
open Go Go.Proofs Go.RowKit

def upF (t : TreeD) (nm : ByteArray) : Nat → Nat → Nat → Option Nat
  | 0, _, _ => none
  | f + 1, a, i => match t.nodes[a]? with
    | none => none
    | some n => match idxN n.kids (i : Int) 0 with
      | none => upF t nm f (a + 1) i
      | some p => if bndN n p = nm then some a else upF t nm f (a + 1) a
def bndI (t : TreeD) (i : Int) : Option Nat := if i < 0 ∨ (t.nodes.length : Int) ≤ i then none else match t.nodes[i.toNat]? with
  | none => none
  | some x => if x.kind = 0 then upF t x.name (t.nodes.length - (i.toNat + 1)) (i.toNat + 1) i.toNat else none
theorem idxN_lt : ∀ {l : List Int} {v : Int} {s k : Nat}, idxN l v s = some k → s ≤ k ∧ k < s + l.length
  | [], _, _, _, h => by cases h
  | x :: l, v, s, k, h => by
    unfold idxN at h
    split at h
    · injection h with h; subst h; simp
    · have := idxN_lt h
      simp only [List.length_cons]
      omega

set_option maxRecDepth 100000 in
set_option maxHeartbeats 4000000 in
theorem binder_any (t : TreeD) (p : Ptr6) (i : Int) (w : World) (hE : Env4 w) (hT : TreeAt (Lt w.heap.size) w t p) (hF : TreeFew t) :
    Calls Tryz.prog 39 #[treeV t p, .int .i64 i] w fun e w' => e = .returned (.tuple #[.int .i64 (((if checkF t then bndI t i else none).getD 0 : Nat)), .bool ((if checkF t then bndI t i else none).isSome)]) ∧ Below w.heap.size w w' := by
  obtain ⟨W0, hW0⟩ : ∃ W0, w.alloc (.cells #[.slice p.a1 t.nodes.length p.c1, .slice p.a2 t.types.length p.c2, .slice p.a3 t.aliases.length p.c3] 28) = W0 := ⟨_, rfl⟩
  obtain ⟨hb0, hX0, hT0⟩ := box_tree t p w W0 hT hW0
  have cC := check_any t p W0 (hE.on hb0) hT0 hF
  have HX0 := Lib.hid hX0
  have x0 := hX0.cell 0
  have x1 := hX0.cell 1
  have x2 := hX0.cell 2
  simp only [List.getElem?_toArray, List.getElem?_cons_zero, List.getElem?_cons_succ] at x0 x1 x2
  have hXl := hX0.lt
  have HB0 := Lib.hid hb0
  have HT0 := Lib.hid hT0
  have HF := Lib.hid hF
  have hln : t.nodes.length ≤ 1000 := hF.2.2.2.2.1
  obtain ⟨R, hR⟩ : ∃ R, (if checkF t then bndI t i else none) = R := ⟨_, rfl⟩
  rw [hR]
  clear hb0 hT0 hT hE hF hX0
  cases hc : checkF t with
  | false =>
    rw [hc] at cC hR
    have hr : R = none := hR.symm
    subst hr
    clear hR hc
    go_enter Tryz.func39, Tryz.ntmps39
    go_wp2_with fail
    refine cC.mono ?_
    rintro e w1 ⟨rfl, hb1⟩
    have HB1 := Lib.hid (HB0.out.trans (hb1.mono HB0.out.size))
    clear hb1
    go_wp2
    refine bodyPost_ret (v := .tuple #[.int .i64 0, .bool false]) (by simp [results, Tryz.results39, go_sem]) rfl ?_
    exact ⟨rfl, HB1.out⟩
  | true =>
  rw [hc] at cC hR
  rw [if_pos rfl] at hR
  have HR := Lib.hid hR
  clear hR hc
  go_enter Tryz.func39, Tryz.ntmps39
  go_wp2_with fail
  refine cC.mono ?_
  rintro e w1 ⟨rfl, hb1⟩
  have x0' := (hb1.cell (p := ⟨w.heap.size, 0, none⟩) hXl).trans x0
  have x1' := (hb1.cell (p := ⟨w.heap.size, 1, none⟩) hXl).trans x1
  have x2' := (hb1.cell (p := ⟨w.heap.size, 2, none⟩) hXl).trans x2
  have hX1 := HX0.out.below hb1 hXl
  have HB1 := Lib.hid (HB0.out.trans (hb1.mono HB0.out.size))
  have HT1 := Lib.hid ((HT0.out.keep (keep_below hb1)).imp (lt_mono hb1.size))
  have hz1 : W0.heap.size ≤ w1.heap.size := hb1.size
  clear hb1 x0 x1 x2 cC hW0
  by_cases hi : i < 0 ∨ (t.nodes.length : Int) ≤ i
  · have hr : R = none := by rw [← HR.out]; unfold bndI; rw [if_pos hi]
    subst hr
    rcases hi with hi | hi
    · go_wp2
      all_goals first
        | (refine bodyPost_ret (v := .tuple #[.int .i64 0, .bool false]) (by simp [results, Tryz.results39, go_sem]) rfl ?_; exact ⟨rfl, HB1.out⟩)
        | (exfalso; omega)
    · by_cases hn : i < 0
      · exfalso; omega
      · go_wp2
        all_goals first
          | (refine bodyPost_ret (v := .tuple #[.int .i64 0, .bool false]) (by simp [results, Tryz.results39, go_sem]) rfl ?_; exact ⟨rfl, HB1.out⟩)
          | (exfalso; omega)
  obtain ⟨k, rfl⟩ : ∃ k : Nat, i = (k : Int) := ⟨i.toNat, by omega⟩
  have hk : k < t.nodes.length := by omega
  have hn : ¬ ((k : Int) < 0) := by omega
  have hm : ¬ ((t.nodes.length : Int) ≤ (k : Int)) := by omega
  obtain ⟨b, off, hpa, hb, hcell⟩ := HT1.out.1 (by omega)
  obtain ⟨q, hq5, hq⟩ := hcell k t.nodes[k] (List.getElem?_eq_getElem hk)
  have e0 := hq 0 _ rfl
  have e2 := hq 2 _ rfl
  rw [Nat.add_zero] at e0
  rw [hpa] at x0'
  have hbk : bndI t (k : Int) = if t.nodes[k].kind = 0 then upF t t.nodes[k].name (t.nodes.length - (k + 1)) (k + 1) k else none := by
    unfold bndI
    rw [if_neg hi, Int.toNat_natCast, List.getElem?_eq_getElem hk]
  rw [hbk] at HR
  obtain ⟨nm, hnm⟩ : ∃ nm, t.nodes[k].name = nm := ⟨_, rfl⟩
  rw [hnm] at HR e2
  clear hi hbk hq hq5 hcell hnm
  by_cases h0 : t.nodes[k].kind = 0
  · rw [h0] at e0
    have HU := Lib.hid (show upF t nm (t.nodes.length - (k + 1)) (k + 1) k = R by rw [← HR.out, if_pos h0])
    clear h0 HR
    go_wp2
    simp only [show decide ((k : Int) < 0) = false from decide_eq_false (by omega), show decide (t.nodes.length ≤ k) = false from decide_eq_false (by omega), Bool.or_self]
    go_loopw [1, 7, 8] (fun vi va _ wr => ∃ (a j : Nat), vi = .int .i64 (j : Int) ∧ va = .int .i64 (a : Int) ∧ j < a ∧ a ≤ t.nodes.length ∧ Hid (upF t nm (t.nodes.length - a) a j = R) ∧ Below w1.heap.size w1 wr) (fun _ va _ _ => t.nodes.length - (intOf va).toNat)
    case atStart => exact ⟨k + 1, k, rfl, by go_num, by omega, by omega, HU, Below.refl _ _⟩
    case round =>
      obtain ⟨a, j, rfl, rfl, hja, hal, HU, hBr⟩ := hrel
      have hXr := hX1.below hBr (by omega)
      have HTr := Lib.hid ((HT1.out.keep (keep_below hBr)).imp (lt_mono hBr.size))
      have hzr := hBr.size
      have y0 := hXr.cell 0
      have y1 := hXr.cell 1
      have y2 := hXr.cell 2
      simp only [List.getElem?_toArray, List.getElem?_cons_zero, List.getElem?_cons_succ] at y0 y1 y2
      rw [hpa] at y0
      have HBr := Lib.hid hBr
      by_cases hla : a < t.nodes.length
      · obtain ⟨b', off', hpa', hb', hcell'⟩ := HTr.out.1 (by omega)
        rw [hpa] at hpa'
        injection hpa' with hpa'
        injection hpa' with h1 h2
        subst h1
        subst h2
        obtain ⟨q, hq5, hq⟩ := hcell' a t.nodes[a] (List.getElem?_eq_getElem hla)
        have hfew := HF.out.1 t.nodes[a] (List.getElem_mem hla)
        obtain ⟨⟨kind, pos, nm', int, bits, nms, kids, tys⟩, hx⟩ : ∃ x, t.nodes[a] = x := ⟨_, rfl⟩
        have hget : t.nodes[a]? = some ⟨kind, pos, nm', int, bits, nms, kids, tys⟩ := by rw [List.getElem?_eq_getElem hla, hx]
        rw [hx] at hq hfew hq5
        have c0 := hq 0 _ rfl
        have c1 := hq 1 _ rfl
        have c2 := hq 2 _ rfl
        have c3 := hq 3 _ rfl
        have c4 := hq 4 _ rfl
        have c5 := hq 5 _ rfl
        have c6 := hq 6 _ rfl
        have c7 := hq 7 _ rfl
        dsimp only at c0 c1 c2 c3 c4 c5 c6 c7
        rw [Nat.add_zero] at c0
        have hkl : kids.length ≤ 1000 := hfew.2.2.2.1
        have hnl : nms.length ≤ 1000 := hfew.2.1
        have cI := indexI_any kids q.a6 q.c6 (j : Int) wr (RdAt.of_sl hq5.2.1) (by omega)
        have HQ5 := Lib.hid hq5
        have HGET := Lib.hid hget
        obtain ⟨g, hg⟩ : ∃ g, t.nodes.length - a = g + 1 := ⟨t.nodes.length - a - 1, by omega⟩
        have HG := Lib.hid hg
        have hU := HU.out
        rw [hg, upF, hget] at hU
        dsimp only at hU
        have HU2 := Lib.hid hU
        clear hg hget hx hq hcell' hq5 hfew hU HU hBr hXr
        go_wp2_with fail
        refine cI.mono ?_
        rintro e w3 ⟨rfl, hb3⟩
        have z0 := (hb3.cell (p := ⟨w.heap.size, 0, none⟩) (by dsimp only; omega)).trans y0
        have z1 := (hb3.cell (p := ⟨w.heap.size, 1, none⟩) (by dsimp only; omega)).trans y1
        have z2 := (hb3.cell (p := ⟨w.heap.size, 2, none⟩) (by dsimp only; omega)).trans y2
        have HB3 := Lib.hid (HBr.out.trans (hb3.mono HBr.out.size))
        have hz3 := hb3.size
        cases hI : idxN kids (j : Int) 0 with
        | none =>
          rw [hI] at HU2
          have HU3 := Lib.hid (show upF t nm g (a + 1) j = R from HU2.out)
          clear hb3 y0 y1 y2 c0 c1 c2 c3 c4 c5 c6 c7 hI HU2
          dsimp only [idxV]
          go_wp2
          go_roundw
          case rel => exact ⟨a + 1, j, rfl, by go_num, by omega, by omega, Lib.hid (by rw [show t.nodes.length - (a + 1) = g by have := HG.out; omega]; exact HU3.out), HB3.out⟩
          case measure => simp [intOf]; omega
        | some pl =>
          have hpl := (idxN_lt hI).2
          rw [hI] at HU2
          have HU3 := Lib.hid (show (if bndN ⟨kind, pos, nm', int, bits, nms, kids, tys⟩ pl = nm then some a else upF t nm g (a + 1) a) = R from HU2.out)
          have d0 := (hb3.cell (p := ⟨b, off + a * 8, none⟩) hb').trans c0
          have d1 := (hb3.cell (p := ⟨b, off + a * 8 + 1, none⟩) hb').trans c1
          have d2 := (hb3.cell (p := ⟨b, off + a * 8 + 2, none⟩) hb').trans c2
          have d3 := (hb3.cell (p := ⟨b, off + a * 8 + 3, none⟩) hb').trans c3
          have d4 := (hb3.cell (p := ⟨b, off + a * 8 + 4, none⟩) hb').trans c4
          have d5 := (hb3.cell (p := ⟨b, off + a * 8 + 5, none⟩) hb').trans c5
          have d6 := (hb3.cell (p := ⟨b, off + a * 8 + 6, none⟩) hb').trans c6
          have d7 := (hb3.cell (p := ⟨b, off + a * 8 + 7, none⟩) hb').trans c7
          have cB := bound_any ⟨kind, pos, nm', int, bits, nms, kids, tys⟩ q pl w3 ⟨(HQ5.out.1.keep (keep_below hb3)).imp (lt_mono hb3.size), (HQ5.out.2.1.keep (keep_below hb3)).imp (lt_mono hb3.size), (HQ5.out.2.2.keep (keep_below hb3)).imp (lt_mono hb3.size)⟩ (by omega) (by dsimp only; omega)
          dsimp only [termCells] at cB
          obtain ⟨B, hB⟩ : ∃ B, bndN ⟨kind, pos, nm', int, bits, nms, kids, tys⟩ pl = B := ⟨_, rfl⟩
          rw [hB] at cB HU3
          have hpn : ¬ ((pl : Int) < 0) := by omega
          clear hb3 y0 y1 y2 c0 c1 c2 c3 c4 c5 c6 c7 hI HU2 hB
          dsimp only [idxV]
          go_wp2_with fail
          refine cB.mono ?_
          rintro e w4 ⟨rfl, hb4⟩
          have HB4 := Lib.hid (HB3.out.trans (hb4.mono HB3.out.size))
          clear hb4 d0 d1 d2 d3 d4 d5 d6 d7 z0 z1 z2
          by_cases hBn : B = nm
          · have hr : R = some a := by rw [← HU3.out, if_pos hBn]
            subst hr
            subst hBn
            go_wp2
            go_ret2
            exact ⟨rfl, HB1.out.trans (HB4.out.mono (by omega))⟩
          · have HU4 := Lib.hid (show upF t nm g (a + 1) a = R by rw [← HU3.out, if_neg hBn])
            have hne : B.toList ≠ nm.toList := fun e => hBn (rtoList_inj e)
            have hne2 : (B.toList == nm.toList) = false := by rw [beq_eq_false_iff_ne]; exact hne
            go_wp2
            go_roundw
            case rel => exact ⟨a + 1, a, rfl, by go_num, by omega, by omega, Lib.hid (by rw [show t.nodes.length - (a + 1) = g by have := HG.out; omega]; exact HU4.out), HB4.out⟩
            case measure => simp [intOf]; omega
      · have hr : R = none := by
          rw [← HU.out, show t.nodes.length - a = 0 by omega]
          rfl
        subst hr
        go_wp2
        go_ret2
        exact ⟨rfl, HB1.out.trans (HBr.out.mono (by omega))⟩
  · have hr : R = none := by rw [← HR.out, if_neg h0]
    subst hr
    have hq : (t.nodes[k].kind == 0) = false := by rw [beq_eq_false_iff_ne]; exact h0
    have hq2 : (t.nodes[k].kind != 0) = true := by simp [bne, hq]
    go_wp2
    go_ret2
    exact ⟨rfl, HB1.out⟩
end Go.Proofs.YtjbdgjbmbohfmaaGreatDoor

namespace Go.Proofs.YtjbdgjbmbohfmaaGreatDoor
open Go Go.Proofs Go.RowKit

def nmdN : List AliD → ByteArray → Nat → Option Nat
  | [], _, _ => none
  | x :: l, v, k => if x.name = v then some k else nmdN l v (k + 1)
theorem nmdN_drop {l : List AliD} {v : ByteArray} {k : Nat} (h : k < l.length) (s : Nat) : nmdN (l.drop k) v s = if l[k].name = v then some s else nmdN (l.drop (k + 1)) v (s + 1) := by
  rw [List.drop_eq_getElem_cons h]
  rfl
theorem nmdN_iff : ∀ {l : List AliD} {v : ByteArray} {s : Nat}, nmdN l v s = (firstA l v).map (· + s)
  | [], _, _ => rfl
  | x :: l, v, s => by
    unfold nmdN firstA
    by_cases h : x.name = v
    · rw [if_pos h, if_pos h]; simp
    · rw [if_neg h, if_neg h, nmdN_iff, Option.map_map]
      congr 1
      funext n
      simp only [Function.comp]
      omega

set_option maxRecDepth 100000 in
set_option maxHeartbeats 4000000 in
theorem rnamed_any (t : TreeD) (p : Ptr6) (v : ByteArray) (w : World) (hT : TreeAt (Lt w.heap.size) w t p) (hl : t.aliases.length ≤ 1000) :
    Calls Tryz.prog 78 #[treeV t p, .string v] w fun e w' => e = .returned (.int .i64 (idxV (nmdN t.aliases v 0))) ∧ Below w.heap.size w w' := by
  obtain ⟨W0, hW0⟩ : ∃ W0, w.alloc (.cells #[.slice p.a1 t.nodes.length p.c1, .slice p.a2 t.types.length p.c2, .slice p.a3 t.aliases.length p.c3] 28) = W0 := ⟨_, rfl⟩
  obtain ⟨hb0, hX0, hT0⟩ := box_tree t p w W0 hT hW0
  obtain ⟨R, hR⟩ : ∃ R, nmdN t.aliases v 0 = R := ⟨_, rfl⟩
  rw [hR]
  have HR := Lib.hid hR
  have HB0 := Lib.hid hb0
  have HA := hT0.2.2
  have x0 := hX0.cell 0
  have x1 := hX0.cell 1
  have x2 := hX0.cell 2
  simp only [List.getElem?_toArray, List.getElem?_cons_zero, List.getElem?_cons_succ] at x0 x1 x2
  clear hR hb0 hT0 hT hX0
  go_enter Tryz.func78, Tryz.ntmps78
  go_wp2
  go_loopw [5, 6, 10] (fun _ _ vc wr => ∃ k : Nat, k ≤ t.aliases.length ∧ vc = .int .i64 (k : Int) ∧ Hid (nmdN (t.aliases.drop k) v k = R) ∧ Below W0.heap.size W0 wr) (fun _ _ vc _ => t.aliases.length - (intOf vc).toNat)
  case atStart => exact ⟨0, Nat.zero_le _, rfl, HR, Below.refl _ _⟩
  case round =>
    obtain ⟨k, hk, rfl, HK, hBr⟩ := hrel
    have HBr := Lib.hid hBr
    by_cases hlk : k < t.aliases.length
    · obtain ⟨b, off, hpa, hb, hcell⟩ := HA (by omega)
      have hq := hcell k t.aliases[k] (List.getElem?_eq_getElem hlk)
      obtain ⟨⟨nm, ty, ps⟩, hx⟩ : ∃ x, t.aliases[k] = x := ⟨_, rfl⟩
      have hD := nmdN_drop (v := v) hlk k
      rw [hx] at hq hD
      have d0 := (hBr.cell (p := ⟨b, off + k * 3 + 0, none⟩) hb).trans (hq 0 _ rfl)
      have d1 := (hBr.cell (p := ⟨b, off + k * 3 + 1, none⟩) hb).trans (hq 1 _ rfl)
      have d2 := (hBr.cell (p := ⟨b, off + k * 3 + 2, none⟩) hb).trans (hq 2 _ rfl)
      dsimp only at d0 d1 d2 hD
      rw [Nat.add_zero] at d0
      rw [HK.out] at hD
      have HB2 := Lib.hid (hBr.alloc hBr.size (.cells #[.string nm, .int .i64 ty, .int .i64 ps] 77))
      clear hq hx hcell hBr HR
      by_cases hv : nm = v
      · have hr : R = some k := by rw [hD, if_pos hv]
        subst hr
        clear hD HK
        subst hv
        go_wp2
        go_ret
        exact ⟨rfl, HB0.out.trans (HB2.out.mono HB0.out.size)⟩
      · have HN := Lib.hid (show nmdN (t.aliases.drop (k + 1)) v (k + 1) = R by rw [hD, if_neg hv])
        have hq : (nm.toList == v.toList) = false := by rw [beq_eq_false_iff_ne]; exact fun e => hv (rtoList_inj e)
        clear hD
        go_wp2
        go_roundw
        case rel => exact ⟨k + 1, by omega, by go_num, HN, HB2.out⟩
        case measure => simp [intOf]; omega
    · have hr : R = none := by rw [← HK.out, List.drop_eq_nil_of_le (by omega)]; rfl
      subst hr
      go_wp2
      go_ret
      exact ⟨rfl, HB0.out.trans (HBr.out.mono HB0.out.size)⟩

set_option maxRecDepth 100000 in
set_option maxHeartbeats 4000000 in
theorem rin_any (ns : List ByteArray) (A : Option Addr) (c : Nat) (v : ByteArray) (w : World) (hS : RdAt w A (ns.map .string)) (hl : ns.length ≤ 1000000) :
    Calls Tryz.prog 84 #[.slice A ns.length c, .string v] w fun e w' => e = .returned (.bool (inB ns v)) ∧ w' = w := by
  obtain ⟨R, hR⟩ : ∃ R, inB ns v = R := ⟨_, rfl⟩
  rw [hR]
  have HR := Lib.hid (show inB (ns.drop 0) v = R from hR)
  clear hR
  go_enter Tryz.func84, Tryz.ntmps84
  go_wp2
  go_loopw [6, 9] (fun _ vc wr => ∃ k : Nat, k ≤ ns.length ∧ vc = .int .i64 (k : Int) ∧ Hid (inB (ns.drop k) v = R) ∧ wr = w) (fun _ vc _ => ns.length - (intOf vc).toNat)
  case atStart => exact ⟨0, Nat.zero_le _, rfl, HR, rfl⟩
  case round =>
    obtain ⟨k, hk, rfl, HK, rfl⟩ := hrel
    by_cases hlk : k < ns.length
    · rcases hS with h0 | ⟨b, off, rfl, hc⟩
      · exfalso
        have : ns = [] := by simpa using h0
        subst this
        simp at hlk
      · have e0 := hc k (.string ns[k]) (by simp [hlk])
        have hD := HK.out
        rw [List.drop_eq_getElem_cons hlk] at hD
        by_cases hv : ns[k] = v
        · have hr : R = true := by rw [← hD]; exact inB_iff.2 (by simp [hv])
          subst hr
          clear hD
          subst hv
          go_wp2
          go_ret
          exact ⟨rfl, rfl⟩
        · have HN := Lib.hid (show inB (ns.drop (k + 1)) v = R by
            rw [← hD, Bool.eq_iff_iff, inB_iff, inB_iff, List.mem_cons]
            exact ⟨.inr, fun h => h.resolve_left fun e => hv e.symm⟩)
          have hq : (ns[k].toList == v.toList) = false := by rw [beq_eq_false_iff_ne]; exact fun e => hv (rtoList_inj e)
          clear hD
          go_wp2
          exact ⟨⟨k + 1, by omega, by go_num, HN, trivial⟩, by simp only [intOf]; omega⟩
    · have hr : R = false := by rw [← HK.out, List.drop_eq_nil_of_le (by omega)]; rfl
      subst hr
      go_wp2
      go_ret
      exact ⟨rfl, rfl⟩
end Go.Proofs.YtjbdgjbmbohfmaaGreatDoor

namespace Go.Proofs.YtjbdgjbmbohfmaaGreatDoor
open Go Go.Proofs Go.RowKit

/-- Does a term bind a name in the kid at a place? -/
def bdB (n : TermD) (p : Nat) (nm : ByteArray) : Bool :=
  (decide (n.kind = 5 ∨ n.kind = 8 ∨ (n.kind = 7 ∧ p = 1)) && decide (n.name = nm)) || (decide (n.kind = 10 ∧ 0 < p ∧ 2 * p ≤ n.names.length) && decide (n.names.getD (2 * p - 1) noName = nm))
theorem bdB_iff {n : TermD} {p : Nat} {nm : ByteArray} (h : nm ≠ noName) : bdB n p nm = true ↔ bndN n p = nm := by
  unfold bdB bndN
  by_cases h1 : n.kind = 5 ∨ n.kind = 8 ∨ (n.kind = 7 ∧ p = 1)
  · rw [if_pos h1, decide_eq_true h1, Bool.true_and]
    have h2 : ¬ (n.kind = 10 ∧ 0 < p ∧ 2 * p ≤ n.names.length) := by omega
    rw [decide_eq_false h2, Bool.false_and, Bool.or_false, decide_eq_true_eq]
  · rw [if_neg h1, decide_eq_false h1, Bool.false_and, Bool.false_or]
    by_cases h2 : n.kind = 10 ∧ 0 < p ∧ 2 * p ≤ n.names.length
    · rw [if_pos h2, decide_eq_true h2, Bool.true_and, decide_eq_true_eq]
    · rw [if_neg h2, decide_eq_false h2, Bool.false_and]
      exact ⟨fun e => (by cases e), fun e => absurd e.symm h⟩

def refBK (g : Nat → Int) (n : TermD) (r : Nat) (nm : ByteArray) : Nat → List Nat → Int
  | _, [] => -2
  | p, k :: ks => if g k = -2 then refBK g n r nm (p + 1) ks else if g k = -1 ∧ bdB n p nm = true then (r : Int) else g k
/-- The term that binds a name at term i, within term r; -1: none there; -2: i isn't in it. -/
def refB (t : TreeD) (i : Nat) (nm : ByteArray) : Nat → Nat → Int
  | 0, _ => -2
  | f + 1, r => if r = i then -1 else match t.nodes[r]? with
    | none => -2
    | some n => refBK (refB t i nm f) n r nm 0 (n.kids.map Int.toNat)

theorem refBK_eq {g g' : Nat → Int} {n : TermD} {r : Nat} {nm : ByteArray} : ∀ {ks : List Nat} {p : Nat}, (∀ k ∈ ks, g k = g' k) → refBK g n r nm p ks = refBK g' n r nm p ks
  | [], p, _ => rfl
  | k :: ks, p, h => by
    unfold refBK
    rw [h k (by simp), refBK_eq (fun x hx => h x (by simp [hx]))]
/-- Enough steps are enough. -/
theorem refB_fuel {t : TreeD} (h : Rng t) {i : Nat} {nm : ByteArray} : ∀ {f r g : Nat}, r < f → r < g → refB t i nm f r = refB t i nm g r
  | f + 1, r, g + 1, hf, hg => by
    unfold refB
    by_cases e : r = i
    · rw [if_pos e, if_pos e]
    · rw [if_neg e, if_neg e]
      cases hn : t.nodes[r]? with
      | none => rfl
      | some n =>
        dsimp only
        refine refBK_eq fun k hk => ?_
        obtain ⟨z, hz, rfl⟩ := List.mem_map.1 hk
        have := (h.nod r n hn).1 z hz
        exact refB_fuel h (by omega) (by omega)

/-- Climbing from a term on. -/
def upN (t : TreeD) (nm : ByteArray) (j : Nat) : Option Nat := upF t nm (t.nodes.length - (j + 1)) (j + 1) j

theorem idxN_none : ∀ {l : List Int} {v : Int} {s : Nat}, v ∉ l → idxN l v s = none
  | [], _, _, _ => rfl
  | x :: l, v, s, h => by
    unfold idxN
    rw [if_neg (fun e => h (by simp [e])), idxN_none (fun hm => h (by simp [hm]))]
theorem idxN_some : ∀ {l : List Int} {v : Int} {s p : Nat}, l[p]? = some v → l.Nodup → idxN l v s = some (s + p)
  | [], _, _, _, h, _ => by cases h
  | x :: l, v, s, 0, h, _ => by
    simp only [List.getElem?_cons_zero, Option.some.injEq] at h
    unfold idxN
    rw [if_pos h, Nat.add_zero]
  | x :: l, v, s, p + 1, h, hn => by
    simp only [List.getElem?_cons_succ] at h
    have hv := List.mem_of_getElem? h
    rw [List.nodup_cons] at hn
    unfold idxN
    rw [if_neg (fun e => hn.1 (by rw [e]; exact hv)), idxN_some h hn.2]
    congr 1
    omega

theorem kid_once {t : TreeD} (h : Whole t) {a b : Nat} {x y : TermD} (ha : t.nodes[a]? = some x) (hb : t.nodes[b]? = some y) {k : Int} (hx : k ∈ x.kids) (hy : k ∈ y.kids) : a = b := by
  refine h.unN.1 a b k.toNat (List.getElem?_eq_some_iff.1 ha).1 (List.getElem?_eq_some_iff.1 hb).1 ?_ ?_
  · unfold tmK; rw [ha]; exact List.mem_map.2 ⟨k, hx, rfl⟩
  · unfold tmK; rw [hb]; exact List.mem_map.2 ⟨k, hy, rfl⟩
theorem kids_nodup {t : TreeD} (h : Whole t) {a : Nat} {x : TermD} (ha : t.nodes[a]? = some x) : x.kids.Nodup := by
  have ho := h.unN.2 a (List.getElem?_eq_some_iff.1 ha).1
  unfold tmK at ho
  rw [ha] at ho
  exact (List.pairwise_map.1 ho).imp fun h e => h (congrArg _ e)

/-- Climbing passes by what a term is no kid of. -/
theorem upF_skip {t : TreeD} {nm : ByteArray} {k r : Nat} (hno : ∀ a x, t.nodes[a]? = some x → a < r → ((k : Nat) : Int) ∉ x.kids) : ∀ {d a : Nat}, a + d = r → r ≤ t.nodes.length → upF t nm (t.nodes.length - a) a k = upF t nm (t.nodes.length - r) r k
  | 0, a, h, _ => by rw [show a = r by omega]
  | d + 1, a, h, hr => by
    obtain ⟨g, hg⟩ : ∃ g, t.nodes.length - a = g + 1 := ⟨t.nodes.length - a - 1, by omega⟩
    have hx := List.getElem?_eq_getElem (show a < t.nodes.length by omega)
    rw [hg, upF, hx]
    dsimp only
    rw [idxN_none (hno a _ hx (by omega))]
    dsimp only
    rw [show g = t.nodes.length - (a + 1) by omega]
    exact upF_skip hno (d := d) (by omega) hr
/-- Climbing from a kid. -/
theorem up_kid {t : TreeD} (h : Whole t) {nm : ByteArray} {r p k : Nat} {n : TermD} (hn : t.nodes[r]? = some n) (hp : n.kids[p]? = some (k : Int)) : upN t nm k = if bndN n p = nm then some r else upN t nm r := by
  have hr := (List.getElem?_eq_some_iff.1 hn).1
  have hm := List.mem_of_getElem? hp
  have hkr := (h.rng.nod r n hn).1 _ hm
  unfold upN
  rw [upF_skip (r := r) (d := r - (k + 1)) (fun a x hx hlt hmem => by have := kid_once h hx hn hmem hm; omega) (by omega) (by omega)]
  obtain ⟨g, hg⟩ : ∃ g, t.nodes.length - r = g + 1 := ⟨t.nodes.length - r - 1, by omega⟩
  rw [hg, upF, hn]
  dsimp only
  rw [idxN_some hp (kids_nodup h hn), Nat.zero_add]
  dsimp only
  rw [show g = t.nodes.length - (r + 1) by omega]

/-- What the document's Binder tells of a term, and climbing. -/
def Agree (t : TreeD) (nm : ByteArray) (i r : Nat) (b : Int) : Prop := b = -2 ∨ (b = -1 ∧ upN t nm i = upN t nm r) ∨ ∃ k : Nat, b = (k : Int) ∧ upN t nm i = some k
theorem agree {t : TreeD} (h : Whole t) {nm : ByteArray} (hnm : nm ≠ noName) {i : Nat} : ∀ {f r : Nat}, r < f → r < t.nodes.length → Agree t nm i r (refB t i nm f r)
  | f + 1, r, hf, hr => by
    unfold refB
    by_cases e : r = i
    · rw [if_pos e]
      subst e
      exact .inr (.inl ⟨rfl, rfl⟩)
    · rw [if_neg e]
      have hn := List.getElem?_eq_getElem hr
      rw [hn]
      dsimp only
      have key : ∀ (ks : List Int) (p : Nat), (∀ j k, ks[j]? = some k → t.nodes[r].kids[p + j]? = some k) → Agree t nm i r (refBK (refB t i nm f) t.nodes[r] r nm p (ks.map Int.toNat)) := by
        intro ks
        induction ks with
        | nil => exact fun p _ => .inl rfl
        | cons k ks ih =>
          intro p hk
          have hk0 := hk 0 k rfl
          rw [Nat.add_zero] at hk0
          have hkm := (h.rng.nod r _ hn).1 k (List.mem_of_getElem? hk0)
          obtain ⟨K, rfl⟩ : ∃ K : Nat, k = (K : Int) := ⟨k.toNat, by omega⟩
          rw [List.map_cons, refBK, Int.toNat_natCast]
          have hA := agree h hnm (i := i) (f := f) (r := K) (by omega) (by omega)
          have hU := up_kid h (nm := nm) hn hk0
          by_cases e2 : refB t i nm f K = -2
          · rw [if_pos e2]
            exact ih (p + 1) fun j z hz => by
              have := hk (j + 1) z (by simpa using hz)
              rwa [show p + 1 + j = p + (j + 1) by omega]
          · rw [if_neg e2]
            rcases hA with hA | ⟨hA, hA2⟩ | ⟨b, hA, hA2⟩
            · exact absurd hA e2
            · by_cases hb : bdB t.nodes[r] p nm = true
              · rw [if_pos ⟨hA, hb⟩]
                rw [if_pos ((bdB_iff hnm).1 hb)] at hU
                exact .inr (.inr ⟨r, rfl, hA2.trans hU⟩)
              · rw [if_neg (fun c => hb c.2), hA]
                rw [if_neg (fun c => hb ((bdB_iff hnm).2 c))] at hU
                exact .inr (.inl ⟨rfl, hA2.trans hU⟩)
            · rw [if_neg (by rw [hA]; omega), hA]
              exact .inr (.inr ⟨b, rfl, hA2⟩)
      exact key _ 0 fun j k hj => by rwa [Nat.zero_add]

theorem refBK_in {g : Nat → Int} {n : TermD} {r : Nat} {nm : ByteArray} : ∀ {ks : List Nat} {p : Nat}, (∃ k ∈ ks, g k ≠ -2) → refBK g n r nm p ks ≠ -2
  | [], p, h => by obtain ⟨k, hk, _⟩ := h; cases hk
  | k :: ks, p, h => by
    unfold refBK
    by_cases e : g k = -2
    · rw [if_pos e]
      refine refBK_in ?_
      obtain ⟨z, hz, h2⟩ := h
      rcases List.mem_cons.1 hz with rfl | hz
      · exact absurd e h2
      · exact ⟨z, hz, h2⟩
    · rw [if_neg e]
      split
      · omega
      · exact e
/-- Every term is in the root. -/
theorem refB_in {t : TreeD} (h : Whole t) {nm : ByteArray} {i : Nat} : ∀ {d r f : Nat}, t.nodes.length - r = d → r < t.nodes.length → r < f → refB t i nm f r ≠ -2 → refB t i nm t.nodes.length (t.nodes.length - 1) ≠ -2 := by
  intro d
  induction d using Nat.strongRecOn with
  | _ d ih =>
    intro r f hd hr hf hn
    by_cases hl : r = t.nodes.length - 1
    · subst hl
      rwa [refB_fuel h.rng (g := f) (by omega) hf]
    · have hk := h.allN r (by omega)
      obtain ⟨k, hk, e⟩ := List.mem_map.1 hk
      obtain ⟨x, hx, hkx⟩ := List.mem_flatMap.1 hk
      obtain ⟨a, ha, rfl⟩ := List.getElem_of_mem hx
      have hnx := List.getElem?_eq_getElem ha
      have hb := (h.rng.nod a _ hnx).1 k hkx
      refine ih (t.nodes.length - a) (by omega) rfl ha (f := a + 1) (by omega) ?_
      unfold refB
      by_cases e2 : a = i
      · rw [if_pos e2]; omega
      · rw [if_neg e2, hnx]
        dsimp only
        refine refBK_in ⟨r, List.mem_map.2 ⟨k, hkx, e⟩, ?_⟩
        rwa [refB_fuel h.rng (g := f) (by omega) hf]
/-- The document's Binder and the program's. -/
theorem binder_eq {t : TreeD} (h : Whole t) {i : Nat} {x : TermD} (hx : t.nodes[i]? = some x) (h0 : x.kind = 0) (hnm : x.name ≠ noName) :
    (bndI t (i : Int) = none ∧ refB t i x.name t.nodes.length (t.nodes.length - 1) = -1) ∨ ∃ k : Nat, bndI t (i : Int) = some k ∧ refB t i x.name t.nodes.length (t.nodes.length - 1) = (k : Int) := by
  have hi := (List.getElem?_eq_some_iff.1 hx).1
  have hb : bndI t (i : Int) = upN t x.name i := by
    unfold bndI
    rw [if_neg (by omega), Int.toNat_natCast, hx]
    dsimp only
    rw [if_pos h0]
    rfl
  have hin : refB t i x.name t.nodes.length (t.nodes.length - 1) ≠ -2 := by
    refine refB_in h (r := i) (f := i + 1) rfl hi (by omega) ?_
    unfold refB
    rw [if_pos rfl]
    omega
  have hroot : upN t x.name (t.nodes.length - 1) = none := by
    unfold upN
    rw [show t.nodes.length - (t.nodes.length - 1 + 1) = 0 by omega]
    rfl
  rcases agree h hnm (i := i) (f := t.nodes.length) (r := t.nodes.length - 1) (by omega) (by omega) with hA | ⟨hA, hA2⟩ | ⟨k, hA, hA2⟩
  · exact absurd hA hin
  · exact .inl ⟨by rw [hb, hA2, hroot], hA⟩
  · exact .inr ⟨k, by rw [hb, hA2], hA⟩
end Go.Proofs.YtjbdgjbmbohfmaaGreatDoor

namespace Go.Proofs.YtjbdgjbmbohfmaaGreatDoor
open Go Go.Proofs Go.RowKit

theorem refB_at {t : TreeD} (h : Rng t) {i r : Nat} {nm : ByteArray} {x : TermD} (hx : t.nodes[r]? = some x) (hne : r ≠ i) : refB t i nm t.nodes.length r = refBK (refB t i nm t.nodes.length) x r nm 0 (x.kids.map Int.toNat) := by
  have hr := (List.getElem?_eq_some_iff.1 hx).1
  obtain ⟨g, hg⟩ : ∃ g, t.nodes.length = g + 1 := ⟨t.nodes.length - 1, by omega⟩
  have e : refB t i nm (g + 1) r = refBK (refB t i nm g) x r nm 0 (x.kids.map Int.toNat) := by
    rw [refB, if_neg hne, hx]
  rw [hg, e]
  refine refBK_eq fun k hk => ?_
  obtain ⟨z, hz, rfl⟩ := List.mem_map.1 hk
  have := (h.nod r x hx).1 z hz
  exact refB_fuel h (by omega) (by omega)
/-- One kid further. -/
theorem refBK_drop {g : Nat → Int} {x : TermD} {r k : Nat} {nm : ByteArray} {R : Int} (hk : k < x.kids.length) (h : refBK g x r nm k ((x.kids.drop k).map Int.toNat) = R) :
    (g x.kids[k].toNat = -2 → refBK g x r nm (k + 1) ((x.kids.drop (k + 1)).map Int.toNat) = R) ∧
    (g x.kids[k].toNat = -1 → bdB x k nm = true → R = (r : Int)) ∧
    (g x.kids[k].toNat = -1 → bdB x k nm = false → R = -1) ∧
    ∀ j : Nat, g x.kids[k].toNat = (j : Int) → R = (j : Int) := by
  rw [List.drop_eq_getElem_cons hk, List.map_cons, refBK] at h
  refine ⟨fun e => ?_, fun e b => ?_, fun e b => ?_, fun j e => ?_⟩
  · rwa [if_pos e] at h
  · rw [if_neg (by rw [e]; omega), if_pos ⟨e, b⟩] at h; exact h.symm
  · rw [if_neg (by rw [e]; omega), if_neg (by rw [b]; simp), e] at h; exact h.symm
  · rw [if_neg (by rw [e]; omega), if_neg (by rw [e]; omega), e] at h; exact h.symm
theorem refB_form {t : TreeD} {nm : ByteArray} {i : Nat} : ∀ {f r : Nat}, refB t i nm f r = -2 ∨ refB t i nm f r = -1 ∨ ∃ k : Nat, refB t i nm f r = (k : Int)
  | 0, r => .inl rfl
  | f + 1, r => by
    unfold refB
    by_cases e : r = i
    · rw [if_pos e]; exact .inr (.inl rfl)
    · rw [if_neg e]
      cases t.nodes[r]? with
      | none => exact .inl rfl
      | some n =>
        dsimp only
        generalize n.kids.map Int.toNat = ks
        generalize (0 : Nat) = p
        induction ks generalizing p with
        | nil => exact .inl rfl
        | cons k ks ih =>
          unfold refBK
          split
          · exact ih _
          · split
            · exact .inr (.inr ⟨r, rfl⟩)
            · exact refB_form

set_option maxRecDepth 100000 in
set_option maxHeartbeats 8000000 in
theorem rbinder_any (t : TreeD) (p : Ptr6) (i : Nat) (nm : ByteArray) (hR : Rng t) (hF : TreeFew t) : ∀ (r : Nat), r < t.nodes.length → ∀ (w : World), TreeAt (Lt w.heap.size) w t p →
    Calls Tryz.prog 40 #[treeV t p, .int .i64 (r : Int), .int .i64 (i : Int), .string nm] w fun e w' => e = .returned (.int .i64 (refB t i nm t.nodes.length r)) ∧ Below w.heap.size w w' := by
  intro r
  induction r using Nat.strongRecOn with
  | _ r ih =>
  intro hr w hT
  obtain ⟨W0, hW0⟩ : ∃ W0, w.alloc (.cells #[.slice p.a1 t.nodes.length p.c1, .slice p.a2 t.types.length p.c2, .slice p.a3 t.aliases.length p.c3] 28) = W0 := ⟨_, rfl⟩
  obtain ⟨hb0, hX0, hT0⟩ := box_tree t p w W0 hT hW0
  have hs0 : W0.heap.size = w.heap.size + 1 := by
    rw [← hW0]
    show (w.heap.push _).size = _
    rw [Array.size_push]
  have HB0 := Lib.hid hb0
  have x0 := hX0.cell 0
  have x1 := hX0.cell 1
  have x2 := hX0.cell 2
  simp only [List.getElem?_toArray, List.getElem?_cons_zero, List.getElem?_cons_succ] at x0 x1 x2
  by_cases hri : r = i
  · subst hri
    have e : refB t r nm t.nodes.length r = -1 := by
      obtain ⟨g, hg⟩ : ∃ g, t.nodes.length = g + 1 := ⟨t.nodes.length - 1, by omega⟩
      rw [hg, refB, if_pos rfl]
    rw [e]
    clear ih
    go_enter Tryz.func40, Tryz.ntmps40
    go_wp2
    go_ret
    exact ⟨rfl, HB0.out⟩
  obtain ⟨b, off, hpa, hb, hcell⟩ := hT0.1 (by omega)
  obtain ⟨q, hq5, hq⟩ := hcell r t.nodes[r] (List.getElem?_eq_getElem hr)
  have hfew := hF.1 t.nodes[r] (List.getElem_mem hr)
  obtain ⟨x, hx⟩ : ∃ x, t.nodes[r] = x := ⟨_, rfl⟩
  have hget : t.nodes[r]? = some x := by rw [List.getElem?_eq_getElem hr, hx]
  rw [hx] at hq hfew hq5
  have hkids := (hR.nod r x hget).1
  have hRB := refB_at hR (nm := nm) hget hri
  obtain ⟨R, hRR⟩ : ∃ R, refB t i nm t.nodes.length r = R := ⟨_, rfl⟩
  rw [hRR] at hRB ⊢
  obtain ⟨kind, pos, nm', int, bits, nms, kids, tys⟩ := x
  have c0 := hq 0 _ rfl
  have c1 := hq 1 _ rfl
  have c2 := hq 2 _ rfl
  have c3 := hq 3 _ rfl
  have c4 := hq 4 _ rfl
  have c5 := hq 5 _ rfl
  have c6 := hq 6 _ rfl
  have c7 := hq 7 _ rfl
  dsimp only at c0 c1 c2 c3 c4 c5 c6 c7 hkids hRB
  rw [Nat.add_zero] at c0
  rw [hpa] at x0 hW0
  have hkl : kids.length ≤ 1000 := hfew.2.2.2.1
  have hnl : nms.length ≤ 1000 := hfew.2.1
  have hri2 : ((r : Int) == (i : Int)) = false := by rw [beq_eq_false_iff_ne]; omega
  obtain ⟨W1, hW1⟩ : ∃ W1, W0.alloc (.cells #[.int .i64 kind, .int .i64 pos, .string nm', .int .i64 int, .int .u64 (bits : Int), .slice q.a5 nms.length q.c5, .slice q.a6 kids.length q.c6, .slice q.a7 tys.length q.c7] 60) = W1 := ⟨_, rfl⟩
  have hb1 : Below W0.heap.size W0 W1 := by rw [← hW1]; exact (Below.refl _ W0).alloc (Nat.le_refl _) _
  have hY1 : Blk W1 (w.heap.size + 1) 60 #[.int .i64 kind, .int .i64 pos, .string nm', .int .i64 int, .int .u64 (bits : Int), .slice q.a5 nms.length q.c5, .slice q.a6 kids.length q.c6, .slice q.a7 tys.length q.c7] := by rw [← hW1, ← hs0]; exact Blk.new W0 60 _
  have hX1 := hX0.below hb1 hX0.lt
  have HT1 := Lib.hid ((hT0.keep (keep_below hb1)).imp (lt_mono hb1.size))
  have HQ1 := Lib.hid (show TermOk (Lt W1.heap.size) W1 ⟨kind, pos, nm', int, bits, nms, kids, tys⟩ q from ⟨(hq5.1.keep (keep_below hb1)).imp (lt_mono hb1.size), (hq5.2.1.keep (keep_below hb1)).imp (lt_mono hb1.size), (hq5.2.2.keep (keep_below hb1)).imp (lt_mono hb1.size)⟩)
  have HB1 := Lib.hid (hb0.trans (hb1.mono hb0.size))
  have HRB := Lib.hid hRB
  have HK := Lib.hid hkids
  have IH := Lib.hid ih
  have hz1 : w.heap.size + 1 < W1.heap.size := hY1.lt
  clear hb0 hb1 hT0 hT hcell hq hq5 hfew hx hget hRR hRB hkids ih hX0
  have s6 := hY1.cell 6
  simp only [List.getElem?_toArray, List.getElem?_cons_zero, List.getElem?_cons_succ] at s6
  go_enter Tryz.func40, Tryz.ntmps40
  go_wp2
  go_loopw [10, 11, 12, 13, 25] (fun _ _ _ _ vc wr => ∃ k : Nat, k ≤ kids.length ∧ vc = .int .i64 (k : Int) ∧ Hid (refBK (refB t i nm t.nodes.length) ⟨kind, pos, nm', int, bits, nms, kids, tys⟩ r nm k ((kids.drop k).map Int.toNat) = R) ∧ Below W1.heap.size W1 wr) (fun _ _ _ _ vc _ => kids.length - (intOf vc).toNat)
  case atStart => exact ⟨0, Nat.zero_le _, rfl, Lib.hid HRB.out.symm, Below.refl _ _⟩
  case round =>
    obtain ⟨k, hk, rfl, HU, hBr⟩ := hrel
    have HBr := Lib.hid hBr
    by_cases hlk : k < kids.length
    · obtain ⟨b6, off6, h6, hb6, hc6⟩ := HQ1.out.2.1.2 (by dsimp only; omega)
      dsimp only at h6 hc6
      have e6 := (hBr.cell (p := ⟨b6, off6 + k, none⟩) hb6).trans (hc6 k (iv kids[k]) (by simp [hlk]))
      have hKm := HK.out kids[k] (List.getElem_mem hlk)
      obtain ⟨g0, g1, g2, g3⟩ := refBK_drop (x := ⟨kind, pos, nm', int, bits, nms, kids, tys⟩) hlk HU.out
      dsimp only at g0 g1 g2 g3
      obtain ⟨K, hKe⟩ : ∃ K : Nat, kids[k] = (K : Int) := ⟨kids[k].toNat, by omega⟩
      rw [hKe] at e6 hKm g0 g1 g2 g3
      rw [Int.toNat_natCast] at g0 g1 g2 g3
      have hXr := hX1.below hBr (by omega)
      have y0 := hXr.cell 0
      have y1 := hXr.cell 1
      have y2 := hXr.cell 2
      simp only [List.getElem?_toArray, List.getElem?_cons_zero, List.getElem?_cons_succ] at y0 y1 y2
      have cI := IH.out K (by omega) (by omega) wr ((HT1.out.keep (keep_below hBr)).imp (lt_mono hBr.size))
      have hzr := hBr.size
      have hY1' := Lib.hid hY1
      obtain ⟨V, hV⟩ : ∃ V, refB t i nm t.nodes.length K = V := ⟨_, rfl⟩
      have hform : V = -2 ∨ V = -1 ∨ ∃ j : Nat, V = (j : Int) := hV ▸ refB_form
      rw [hV] at cI g0 g1 g2 g3
      rw [h6]
      have HG := Lib.hid (And.intro g0 (And.intro g1 (And.intro g2 g3)))
      have HFM := Lib.hid hform
      clear hV hKe hKm hc6 hXr hBr h6 hpa g0 g1 g2 g3 hform hR hF
      go_wp2_with fail
      refine cI.mono ?_
      rintro e w3 ⟨rfl, hb3⟩
      have HB3 := Lib.hid (HBr.out.trans (hb3.mono HBr.out.size))
      have hY3 := hY1'.out.below HB3.out (by omega)
      have s0 := hY3.cell 0
      have s2 := hY3.cell 2
      have s5 := hY3.cell 5
      simp only [List.getElem?_toArray, List.getElem?_cons_zero, List.getElem?_cons_succ] at s0 s2 s5
      have HNM := Lib.hid (show 0 < nms.length → ∃ b off, q.a5 = some ⟨b, off, none⟩ ∧ ∀ j u, (nms.map Value.string)[j]? = some u → w3.cell? ⟨b, off + j, none⟩ = some u from fun hn => by
        obtain ⟨b5, off5, h5, hb5, hc5⟩ := HQ1.out.1.2 hn
        exact ⟨b5, off5, h5, fun j u hu => (HB3.out.cell (p := ⟨b5, off5 + j, none⟩) hb5).trans (hc5 j u hu)⟩)
      clear hb3 y0 y1 y2 cI e6 hY3
      have HE := Lib.hid (HB1.out.trans (HB3.out.mono (by omega)))
      rcases HFM.out with hv | hv | ⟨j, hv⟩
      · subst hv
        have HN := Lib.hid (HG.out.1 rfl)
        go_wp2
        go_roundw
        case rel => exact ⟨k + 1, by omega, by go_num, HN, HB3.out⟩
        case measure => simp [intOf]; omega
      · subst hv
        by_cases h5 : kind = 5
        · subst h5
          by_cases hnn : nm' = nm
          · subst hnn
            have hbd : bdB (⟨5, pos, nm', int, bits, nms, kids, tys⟩ : TermD) k nm' = true := by simp [bdB]
            have hr : R = (r : Int) := HG.out.2.1 rfl hbd
            subst hr
            clear hbd HG
            go_wp2
            go_ret
            exact ⟨rfl, HE.out⟩
          · have hbd : bdB (⟨5, pos, nm', int, bits, nms, kids, tys⟩ : TermD) k nm = false := by simp [bdB, hnn]
            have hq : (nm'.toList == nm.toList) = false := by rw [beq_eq_false_iff_ne]; exact fun e => hnn (rtoList_inj e)
            have hr : R = -1 := HG.out.2.2.1 rfl hbd
            subst hr
            clear hbd HG
            go_wp2
            go_ret
            exact ⟨rfl, HE.out⟩
        have k5 : (kind == 5) = false := by simp [h5]
        by_cases h8 : kind = 8
        · subst h8
          by_cases hnn : nm' = nm
          · subst hnn
            have hbd : bdB (⟨8, pos, nm', int, bits, nms, kids, tys⟩ : TermD) k nm' = true := by simp [bdB]
            have hr : R = (r : Int) := HG.out.2.1 rfl hbd
            subst hr
            clear hbd HG
            go_wp2
            go_ret
            exact ⟨rfl, HE.out⟩
          · have hbd : bdB (⟨8, pos, nm', int, bits, nms, kids, tys⟩ : TermD) k nm = false := by simp [bdB, hnn]
            have hq : (nm'.toList == nm.toList) = false := by rw [beq_eq_false_iff_ne]; exact fun e => hnn (rtoList_inj e)
            have hr : R = -1 := HG.out.2.2.1 rfl hbd
            subst hr
            clear hbd HG
            go_wp2
            go_ret
            exact ⟨rfl, HE.out⟩
        have k8 : (kind == 8) = false := by simp [h8]
        by_cases h7 : kind = 7
        · subst h7
          by_cases h1 : k = 1
          · subst h1
            by_cases hnn : nm' = nm
            · subst hnn
              have hbd : bdB (⟨7, pos, nm', int, bits, nms, kids, tys⟩ : TermD) 1 nm' = true := by simp [bdB]
              have hr : R = (r : Int) := HG.out.2.1 rfl hbd
              subst hr
              clear hbd HG
              go_wp2
              go_ret
              exact ⟨rfl, HE.out⟩
            · have hbd : bdB (⟨7, pos, nm', int, bits, nms, kids, tys⟩ : TermD) 1 nm = false := by simp [bdB, hnn]
              have hq : (nm'.toList == nm.toList) = false := by rw [beq_eq_false_iff_ne]; exact fun e => hnn (rtoList_inj e)
              have hr : R = -1 := HG.out.2.2.1 rfl hbd
              subst hr
              clear hbd HG
              go_wp2
              go_ret
              exact ⟨rfl, HE.out⟩
          · have hbd : bdB (⟨7, pos, nm', int, bits, nms, kids, tys⟩ : TermD) k nm = false := by simp [bdB, h1]
            have k1 : ((k : Int) == 1) = false := by simp; omega
            have hr : R = -1 := HG.out.2.2.1 rfl hbd
            subst hr
            clear hbd HG
            go_wp2
            go_ret
            exact ⟨rfl, HE.out⟩
        have k7 : (kind == 7) = false := by simp [h7]
        by_cases h10 : kind = 10
        · subst h10
          by_cases h0 : k = 0
          · subst h0
            have hbd : bdB (⟨10, pos, nm', int, bits, nms, kids, tys⟩ : TermD) 0 nm = false := by simp [bdB]
            have hr : R = -1 := HG.out.2.2.1 rfl hbd
            subst hr
            clear hbd HG
            go_wp2
            go_ret
            exact ⟨rfl, HE.out⟩
          have hp0 : decide ((0 : Int) < (k : Int)) = true := by simp; omega
          by_cases h2 : 2 * k ≤ nms.length
          · have hp2 : decide ((k : Int) ≤ (nms.length : Int).tdiv 2) = true := by simp; omega
            obtain ⟨b5, off5, h5a, hc5⟩ := HNM.out (by omega)
            have hlt : 2 * k - 1 < nms.length := by omega
            have k0 := hc5 (2 * k - 1) (.string nms[2 * k - 1]) (by simp [hlt])
            have hgd : nms.getD (2 * k - 1) noName = nms[2 * k - 1] := by simp [List.getD_eq_getElem?_getD, List.getElem?_eq_getElem hlt]
            obtain ⟨s, hs⟩ : ∃ s, nms[2 * k - 1] = s := ⟨_, rfl⟩
            rw [hs] at k0 hgd
            rw [h5a] at s5
            by_cases hnn : s = nm
            · have hbd : bdB (⟨10, pos, nm', int, bits, nms, kids, tys⟩ : TermD) k nm = true := by unfold bdB; dsimp only; rw [hgd]; simp [hnn]; omega
              subst hnn
              have hr : R = (r : Int) := HG.out.2.1 rfl hbd
              subst hr
              clear hbd HG
              clear h5a hs hgd hc5
              go_wp2
              go_ret
              exact ⟨rfl, HE.out⟩
            · have hbd : bdB (⟨10, pos, nm', int, bits, nms, kids, tys⟩ : TermD) k nm = false := by unfold bdB; dsimp only; rw [hgd]; simp [hnn]
              have hq : (s.toList == nm.toList) = false := by rw [beq_eq_false_iff_ne]; exact fun e => hnn (rtoList_inj e)
              have hr : R = -1 := HG.out.2.2.1 rfl hbd
              subst hr
              clear hbd HG
              clear h5a hs hgd hc5
              go_wp2
              go_ret
              exact ⟨rfl, HE.out⟩
          · have hp2 : decide ((k : Int) ≤ (nms.length : Int).tdiv 2) = false := by simp; omega
            have hbd : bdB (⟨10, pos, nm', int, bits, nms, kids, tys⟩ : TermD) k nm = false := by simp [bdB]; omega
            have hr : R = -1 := HG.out.2.2.1 rfl hbd
            subst hr
            clear hbd HG
            go_wp2
            go_ret
            exact ⟨rfl, HE.out⟩
        have k10 : (kind == 10) = false := by simp [h10]
        have hbd : bdB (⟨kind, pos, nm', int, bits, nms, kids, tys⟩ : TermD) k nm = false := by simp [bdB, h5, h7, h8, h10]
        have hr : R = -1 := HG.out.2.2.1 rfl hbd
        subst hr
        clear hbd HG
        go_wp2
        go_ret
        exact ⟨rfl, HE.out⟩
      · subst hv
        have hj1 : ((j : Int) == -2) = false := by rw [beq_eq_false_iff_ne]; omega
        have hj2 : ((j : Int) == -1) = false := by rw [beq_eq_false_iff_ne]; omega
        by_cases h5 : kind = 5
        · subst h5
          by_cases hnn : nm' = nm
          · subst hnn
            have hbd : bdB (⟨5, pos, nm', int, bits, nms, kids, tys⟩ : TermD) k nm' = true := by simp [bdB]
            have hr : R = (j : Int) := HG.out.2.2.2 j rfl
            subst hr
            clear hbd HG
            go_wp2
            go_ret
            exact ⟨rfl, HE.out⟩
          · have hbd : bdB (⟨5, pos, nm', int, bits, nms, kids, tys⟩ : TermD) k nm = false := by simp [bdB, hnn]
            have hq : (nm'.toList == nm.toList) = false := by rw [beq_eq_false_iff_ne]; exact fun e => hnn (rtoList_inj e)
            have hr : R = (j : Int) := HG.out.2.2.2 j rfl
            subst hr
            clear hbd HG
            go_wp2
            go_ret
            exact ⟨rfl, HE.out⟩
        have k5 : (kind == 5) = false := by simp [h5]
        by_cases h8 : kind = 8
        · subst h8
          by_cases hnn : nm' = nm
          · subst hnn
            have hbd : bdB (⟨8, pos, nm', int, bits, nms, kids, tys⟩ : TermD) k nm' = true := by simp [bdB]
            have hr : R = (j : Int) := HG.out.2.2.2 j rfl
            subst hr
            clear hbd HG
            go_wp2
            go_ret
            exact ⟨rfl, HE.out⟩
          · have hbd : bdB (⟨8, pos, nm', int, bits, nms, kids, tys⟩ : TermD) k nm = false := by simp [bdB, hnn]
            have hq : (nm'.toList == nm.toList) = false := by rw [beq_eq_false_iff_ne]; exact fun e => hnn (rtoList_inj e)
            have hr : R = (j : Int) := HG.out.2.2.2 j rfl
            subst hr
            clear hbd HG
            go_wp2
            go_ret
            exact ⟨rfl, HE.out⟩
        have k8 : (kind == 8) = false := by simp [h8]
        by_cases h7 : kind = 7
        · subst h7
          by_cases h1 : k = 1
          · subst h1
            by_cases hnn : nm' = nm
            · subst hnn
              have hbd : bdB (⟨7, pos, nm', int, bits, nms, kids, tys⟩ : TermD) 1 nm' = true := by simp [bdB]
              have hr : R = (j : Int) := HG.out.2.2.2 j rfl
              subst hr
              clear hbd HG
              go_wp2
              go_ret
              exact ⟨rfl, HE.out⟩
            · have hbd : bdB (⟨7, pos, nm', int, bits, nms, kids, tys⟩ : TermD) 1 nm = false := by simp [bdB, hnn]
              have hq : (nm'.toList == nm.toList) = false := by rw [beq_eq_false_iff_ne]; exact fun e => hnn (rtoList_inj e)
              have hr : R = (j : Int) := HG.out.2.2.2 j rfl
              subst hr
              clear hbd HG
              go_wp2
              go_ret
              exact ⟨rfl, HE.out⟩
          · have hbd : bdB (⟨7, pos, nm', int, bits, nms, kids, tys⟩ : TermD) k nm = false := by simp [bdB, h1]
            have k1 : ((k : Int) == 1) = false := by simp; omega
            have hr : R = (j : Int) := HG.out.2.2.2 j rfl
            subst hr
            clear hbd HG
            go_wp2
            go_ret
            exact ⟨rfl, HE.out⟩
        have k7 : (kind == 7) = false := by simp [h7]
        by_cases h10 : kind = 10
        · subst h10
          by_cases h0 : k = 0
          · subst h0
            have hbd : bdB (⟨10, pos, nm', int, bits, nms, kids, tys⟩ : TermD) 0 nm = false := by simp [bdB]
            have hr : R = (j : Int) := HG.out.2.2.2 j rfl
            subst hr
            clear hbd HG
            go_wp2
            go_ret
            exact ⟨rfl, HE.out⟩
          have hp0 : decide ((0 : Int) < (k : Int)) = true := by simp; omega
          by_cases h2 : 2 * k ≤ nms.length
          · have hp2 : decide ((k : Int) ≤ (nms.length : Int).tdiv 2) = true := by simp; omega
            obtain ⟨b5, off5, h5a, hc5⟩ := HNM.out (by omega)
            have hlt : 2 * k - 1 < nms.length := by omega
            have k0 := hc5 (2 * k - 1) (.string nms[2 * k - 1]) (by simp [hlt])
            have hgd : nms.getD (2 * k - 1) noName = nms[2 * k - 1] := by simp [List.getD_eq_getElem?_getD, List.getElem?_eq_getElem hlt]
            obtain ⟨s, hs⟩ : ∃ s, nms[2 * k - 1] = s := ⟨_, rfl⟩
            rw [hs] at k0 hgd
            rw [h5a] at s5
            by_cases hnn : s = nm
            · have hbd : bdB (⟨10, pos, nm', int, bits, nms, kids, tys⟩ : TermD) k nm = true := by unfold bdB; dsimp only; rw [hgd]; simp [hnn]; omega
              subst hnn
              have hr : R = (j : Int) := HG.out.2.2.2 j rfl
              subst hr
              clear hbd HG
              clear h5a hs hgd hc5
              go_wp2
              go_ret
              exact ⟨rfl, HE.out⟩
            · have hbd : bdB (⟨10, pos, nm', int, bits, nms, kids, tys⟩ : TermD) k nm = false := by unfold bdB; dsimp only; rw [hgd]; simp [hnn]
              have hq : (s.toList == nm.toList) = false := by rw [beq_eq_false_iff_ne]; exact fun e => hnn (rtoList_inj e)
              have hr : R = (j : Int) := HG.out.2.2.2 j rfl
              subst hr
              clear hbd HG
              clear h5a hs hgd hc5
              go_wp2
              go_ret
              exact ⟨rfl, HE.out⟩
          · have hp2 : decide ((k : Int) ≤ (nms.length : Int).tdiv 2) = false := by simp; omega
            have hbd : bdB (⟨10, pos, nm', int, bits, nms, kids, tys⟩ : TermD) k nm = false := by simp [bdB]; omega
            have hr : R = (j : Int) := HG.out.2.2.2 j rfl
            subst hr
            clear hbd HG
            go_wp2
            go_ret
            exact ⟨rfl, HE.out⟩
        have k10 : (kind == 10) = false := by simp [h10]
        have hbd : bdB (⟨kind, pos, nm', int, bits, nms, kids, tys⟩ : TermD) k nm = false := by simp [bdB, h5, h7, h8, h10]
        have hr : R = (j : Int) := HG.out.2.2.2 j rfl
        subst hr
        clear hbd HG
        go_wp2
        go_ret
        exact ⟨rfl, HE.out⟩
    · have hr : R = -2 := by rw [← HU.out, List.drop_eq_nil_of_le (by omega)]; rfl
      subst hr
      go_wp2
      go_ret
      exact ⟨rfl, HB1.out.trans (HBr.out.mono (by omega))⟩
end Go.Proofs.YtjbdgjbmbohfmaaGreatDoor

namespace Go.Proofs.YtjbdgjbmbohfmaaGreatDoor
open Go Go.Proofs Go.RowKit

attribute [local go_sem ↓] Go.wp_at_zero Go.wp_at_succ

/-- Alias names that were looked through, one after the other. -/
structure Seen2 (t : TreeD) (seen : List ByteArray) : Prop where
  nod : seen.Nodup
  al : ∀ s ∈ seen, s ∈ t.aliases.map (·.name)

theorem own_empty (W : World) (base : Nat) (h : base ≤ W.heap.size) : (W.alloc (.cells #[] 9)).ownsRow base 9 1 (.slice (some ⟨W.heap.size, 0, none⟩) 0 0) 0 [] := by
  refine ⟨rfl, .inr ⟨W.heap.size, 0, #[], rfl, h, ?_, Nat.le_refl _, Nat.zero_le _, rfl, rfl⟩⟩
  show (W.heap.push _)[W.heap.size]? = _
  simp
theorem rd_alloc {W : World} {g : Nat} {xs : List Value} (h : RdAt W (some ⟨g, 0, none⟩) xs) (hg : g < W.heap.size) (o : Obj) : RdAt (W.alloc o) (some ⟨g, 0, none⟩) xs := by
  rcases h with h | ⟨b, off, e, hc⟩
  · exact .inl h
  · injection e with e
    injection e with e1 e2
    subst e1
    subst e2
    exact .inr ⟨_, _, rfl, fun j u hu => (((Below.refl W.heap.size W).alloc (Nat.le_refl _) o).cell (p := ⟨g, 0 + j, none⟩) hg).trans (hc j u hu)⟩
theorem rd_grown {W W' : World} {g : Nat} {xs : List Value} {o : Option Nat} (h : RdAt W (some ⟨g, 0, none⟩) xs) (hg : g < W.heap.size) (hG : W.grownBy W' o) (ho : some g ≠ o) : RdAt W' (some ⟨g, 0, none⟩) xs := by
  rcases h with h | ⟨b, off, e, hc⟩
  · exact .inl h
  · injection e with e
    injection e with e1 e2
    subst e1
    subst e2
    exact .inr ⟨_, _, rfl, fun j u hu => (World.cell?_of_block (a := ⟨g, 0 + j, none⟩) (hG.block g hg ho)).trans (hc j u hu)⟩
theorem below_grown {w w1 w2 : World} {o : Option Nat} (h : Below w.heap.size w w1) (g : w1.grownBy w2 o) (ho : ∀ k, o = some k → w.heap.size ≤ k) : Below w.heap.size w w2 := h.grown g h.size ho

set_option maxRecDepth 100000 in
set_option maxHeartbeats 8000000 in
theorem rthrough_any (t : TreeD) (p : Ptr6) (hR : Rng t) (hF : TreeFew t) : ∀ (f i : Nat) (seen : List ByteArray), i < t.types.length → Seen2 t seen → seen.length + f = t.aliases.length + 1 → ∀ (A : Option Addr) (c : Nat) (w : World), TreeAt (Lt w.heap.size) w t p → SlAt (Lt w.heap.size) w A seen.length (seen.map .string) →
    Calls Tryz.prog 41 #[treeV t p, .int .i64 (i : Int), .slice A seen.length c] w fun e w' => e = .returned (.tuple #[.int .i64 ((refT t f i seen).1 : Nat), .int .i64 ((refT t f i seen).2 : Nat)]) ∧ Below w.heap.size w w' := by
  obtain ⟨a1, c1, a2, c2, a3, c3⟩ := p
  obtain ⟨i9, hi9, hj0, hj1, hj2⟩ := info_parts info9
  intro f
  induction f with
  | zero =>
    intro i seen _ hS hl
    have := nodup_le hS.nod hS.al
    rw [List.length_map] at this
    omega
  | succ f ih =>
  intro i seen hi hS hl A c w hT hSl
  obtain ⟨W0, hW0⟩ : ∃ W0, w.alloc (.cells #[.slice a1 t.nodes.length c1, .slice a2 t.types.length c2, .slice a3 t.aliases.length c3] 28) = W0 := ⟨_, rfl⟩
  obtain ⟨hb0, hX0, hT0⟩ := box_tree t ⟨a1, c1, a2, c2, a3, c3⟩ w W0 hT hW0
  have hs0 : W0.heap.size = w.heap.size + 1 := by
    rw [← hW0]
    show (w.heap.push _).size = _
    rw [Array.size_push]
  have HB0 := Lib.hid hb0
  have x0 := hX0.cell 0
  have x1 := hX0.cell 1
  have x2 := hX0.cell 2
  simp only [List.getElem?_toArray, List.getElem?_cons_zero, List.getElem?_cons_succ] at x0 x1 x2
  obtain ⟨b, off, rfl, hb, hcell⟩ := hT0.2.1 (by omega)
  obtain ⟨q, hq5, hq⟩ := hcell i t.types[i] (List.getElem?_eq_getElem hi)
  obtain ⟨x, hx⟩ : ∃ x, t.types[i] = x := ⟨_, rfl⟩
  have hget : t.types[i]? = some x := by rw [List.getElem?_eq_getElem hi, hx]
  rw [hx] at hq hq5
  obtain ⟨kind, pos, nm, nms, kids, opn⟩ := x
  have e0 := hq 0 _ rfl
  have e1 := hq 1 _ rfl
  have e2 := hq 2 _ rfl
  have e3 := hq 3 _ rfl
  have e4 := hq 4 _ rfl
  have e5 := hq 5 _ rfl
  dsimp only at e0 e1 e2 e3 e4 e5
  rw [Nat.add_zero] at e0
  obtain ⟨R, hRR⟩ : ∃ R, refT t (f + 1) i seen = R := ⟨_, rfl⟩
  rw [hRR]
  rw [refT, hget] at hRR
  dsimp only at hRR
  obtain ⟨W1, hW1⟩ : ∃ W1, W0.alloc (.cells #[.int .i64 kind, .int .i64 pos, .string nm, .slice q.a3 nms.length q.c3, .slice q.a4 kids.length q.c4, .bool opn] 51) = W1 := ⟨_, rfl⟩
  have hb1 : Below W0.heap.size W0 W1 := by rw [← hW1]; exact (Below.refl _ W0).alloc (Nat.le_refl _) _
  have hY1 : Blk W1 (w.heap.size + 1) 51 #[.int .i64 kind, .int .i64 pos, .string nm, .slice q.a3 nms.length q.c3, .slice q.a4 kids.length q.c4, .bool opn] := by rw [← hW1, ← hs0]; exact Blk.new W0 51 _
  have hX1 := hX0.below hb1 hX0.lt
  have HT1 := Lib.hid ((hT0.keep (keep_below hb1)).imp (lt_mono hb1.size))
  have HB1 := Lib.hid (hb0.trans (hb1.mono hb0.size))
  have HSl := Lib.hid hSl
  have IH := Lib.hid ih
  have hz1 : w.heap.size + 1 < W1.heap.size := hY1.lt
  have s0 := hY1.cell 0
  have s2 := hY1.cell 2
  have y0 := hX1.cell 0
  have y1 := hX1.cell 1
  have y2 := hX1.cell 2
  simp only [List.getElem?_toArray, List.getElem?_cons_zero, List.getElem?_cons_succ] at s0 s2 y0 y1 y2
  have HGET := Lib.hid hget
  have HS := Lib.hid hS
  have HRN := Lib.hid hR
  clear hb0 hb1 hT0 hT hcell hq hq5 hx hget hX0 hSl ih hS hR
  have hla : t.aliases.length ≤ 1000 := hF.2.2.2.1
  by_cases hk : kind = 10
  · subst hk
    rw [if_neg (by simp)] at hRR
    have HRR := Lib.hid hRR
    clear hRR hF
    have cN := rnamed_any t _ nm W1 HT1.out hla
    go_enter Tryz.func41, Tryz.ntmps41
    go_wp2_with fail
    refine cN.mono ?_
    rintro e w2 ⟨rfl, hb2⟩
    have z0 := (hb2.cell (p := ⟨w.heap.size, 0, none⟩) (by dsimp only; omega)).trans y0
    have z1 := (hb2.cell (p := ⟨w.heap.size, 1, none⟩) (by dsimp only; omega)).trans y1
    have z2 := (hb2.cell (p := ⟨w.heap.size, 2, none⟩) (by dsimp only; omega)).trans y2
    have v0 := (hb2.cell (p := ⟨w.heap.size + 1, 0, none⟩) hz1).trans s0
    have v2 := (hb2.cell (p := ⟨w.heap.size + 1, 2, none⟩) hz1).trans s2
    have hz2 := hb2.size
    have HB2 := Lib.hid (HB1.out.trans (hb2.mono HB1.out.size))
    have HT2 := Lib.hid ((HT1.out.keep (keep_below hb2)).imp (lt_mono hb2.size))
    have HSl2 := Lib.hid ((HSl.out.keep (keep_below HB2.out)).imp (lt_mono HB2.out.size))
    clear hb2 y0 y1 y2 s0 s2 cN e0 e1 e2 e3 e4 e5 x0 x1 x2 hY1 hX1
    cases ha : firstA t.aliases nm with
    | none =>
      have hr : R = (0, 7) := by rw [← HRR.out, ha]
      subst hr
      have hid : idxV (nmdN t.aliases nm 0) = -1 := by rw [nmdN_iff, ha]; rfl
      rw [hid]
      clear hid ha
      go_wp2
      go_ret2
      exact ⟨rfl, HB2.out⟩
    | some a =>
      have hal := firstA_lt ha
      have hid : idxV (nmdN t.aliases nm 0) = (a : Int) := by rw [nmdN_iff, ha]; rfl
      rw [hid]
      have han : ¬ ((a : Int) < 0) := by omega
      have cI := rin_any seen A c nm w2 (RdAt.of_sl HSl2.out) (by have := nodup_le HS.out.nod HS.out.al; rw [List.length_map] at this; omega)
      obtain ⟨B, hB⟩ : ∃ B, inB seen nm = B := ⟨_, rfl⟩
      rw [hB] at cI
      have hR2 := HRR.out
      rw [ha] at hR2
      dsimp only at hR2
      rw [hB] at hR2
      have HR2 := Lib.hid hR2
      have HA := Lib.hid ha
      have HBB := Lib.hid hB
      clear hid ha hR2 HRR hB
      go_wp2_with fail
      refine cI.mono ?_
      rintro e w3 ⟨rfl, rfl⟩
      clear cI
      cases B with
      | true =>
        have hr : R = (0, 9) := by rw [← HR2.out, if_pos rfl]
        subst hr
        go_wp2
        go_ret2
        exact ⟨rfl, HB2.out⟩
      | false =>
        obtain ⟨b', off', rfl, hb', hcell'⟩ := HT2.out.2.2 (by omega)
        have hq' := hcell' a t.aliases[a] (List.getElem?_eq_getElem hal)
        have hty := HRN.out.ali t.aliases[a] (List.getElem_mem hal)
        have hstep : refT t f t.aliases[a].type.toNat (seen ++ [nm]) = R := by
          rw [← HR2.out, if_neg (by simp), List.getElem?_eq_getElem hal]
          rfl
        have d1 := hq' 1 _ rfl
        obtain ⟨T, hTT⟩ : ∃ T : Nat, t.aliases[a].type = (T : Int) := ⟨t.aliases[a].type.toNat, by omega⟩
        rw [hTT] at d1 hty hstep
        rw [Int.toNat_natCast] at hstep
        have hnot : nm ∉ seen := fun hm => by have := inB_iff.2 hm; rw [HBB.out] at this; cases this
        have hS2 : Seen2 t (seen ++ [nm]) := by
          refine ⟨?_, fun s hs => ?_⟩
          · rw [List.nodup_append]
            refine ⟨HS.out.nod, by simp, fun x hx y hy => ?_⟩
            simp only [List.mem_singleton] at hy
            subst hy
            rintro rfl
            exact hnot hx
          · rcases List.mem_append.1 hs with hs | hs
            · exact HS.out.al s hs
            · simp only [List.mem_singleton] at hs
              subst hs
              obtain ⟨bb, h2, h3, _⟩ := firstA_some HA.out
              exact List.mem_map.2 ⟨bb, List.mem_of_getElem? h2, h3⟩
        have hT9 : T < t.types.length := by omega
        have IH2 := Lib.hid (IH.out T (seen ++ [nm]) hT9 hS2 (by simp; omega))
        rw [hstep] at IH2
        clear hq' hcell' hty hstep hTT hnot hS2
        go_wp2_with fail
        have HSo : ∀ W, Below w3.heap.size w3 W → (W.cell? ⟨w.heap.size, 0, none⟩ = some (.slice a1 t.nodes.length c1) ∧ W.cell? ⟨w.heap.size, 1, none⟩ = some (.slice (some ⟨b, off, none⟩) t.types.length c2) ∧ W.cell? ⟨w.heap.size, 2, none⟩ = some (.slice (some ⟨b', off', none⟩) t.aliases.length c3) ∧ W.cell? ⟨b', off' + a * 3 + 1, none⟩ = some (.int .i64 (T : Int)) ∧ W.cell? ⟨w.heap.size + 1, 2, none⟩ = some (.string nm) ∧ Below w3.heap.size w3 W) := fun W hb => ⟨(hb.cell (p := ⟨w.heap.size, 0, none⟩) (by dsimp only; omega)).trans z0, (hb.cell (p := ⟨w.heap.size, 1, none⟩) (by dsimp only; omega)).trans z1, (hb.cell (p := ⟨w.heap.size, 2, none⟩) (by dsimp only; omega)).trans z2, (hb.cell (p := ⟨b', off' + a * 3 + 1, none⟩) hb').trans d1, (hb.cell (p := ⟨w.heap.size + 1, 2, none⟩) (by dsimp only; omega)).trans v2, hb⟩
        have HSO := Lib.hid HSo
        clear HSo z0 z1 z2 d1 v2 v0
        refine wp_region_heldG (S := fun W => W.cell? ⟨w.heap.size, 0, none⟩ = some (.slice a1 t.nodes.length c1) ∧ W.cell? ⟨w.heap.size, 1, none⟩ = some (.slice (some ⟨b, off, none⟩) t.types.length c2) ∧ W.cell? ⟨w.heap.size, 2, none⟩ = some (.slice (some ⟨b', off', none⟩) t.aliases.length c3) ∧ W.cell? ⟨b', off' + a * 3 + 1, none⟩ = some (.int .i64 (T : Int)) ∧ W.cell? ⟨w.heap.size + 1, 2, none⟩ = some (.string nm) ∧ Below w3.heap.size w3 W) (fun _ => false) (by kernel_rfl) (HSO.out _ (Below.refl _ w3).drew) (fun hHeld => ?_)
        refine wpAnyG_take (i := 0) (v := ?v0) (by simp only [List.getElem?_toArray, List.getElem?_cons_zero]; rfl) (by kernel_rfl) (by kernel_rfl) (by kernel_rfl) (by kernel_rfl) (by kernel_rfl) (by kernel_rfl) (by exact fun _ _ _ h => h) (Or.inl ⟨by rfl, ?hy0⟩) (by assumption) ?rest0
        case hy0 => (intro w hSw; obtain ⟨g1, g2, g3, g4, g5, g6⟩ := hSw; clear g6; go_simp; try with_reducible rfl)
        try simp only [Act.put, List.setIfInBounds_toArray, List.set_cons_zero, List.set_cons_succ]
        refine wpAnyG_take (i := 1) (v := ?v1) (by simp only [List.getElem?_toArray, List.getElem?_cons_zero, List.getElem?_cons_succ]; rfl) (by kernel_rfl) (by kernel_rfl) (by kernel_rfl) (by kernel_rfl) (by kernel_rfl) (by kernel_rfl) (by exact fun _ _ _ h => h) (Or.inl ⟨by rfl, ?hy1⟩) (by assumption) ?rest1
        case hy1 => (intro w hSw; obtain ⟨g1, g2, g3, g4, g5, g6⟩ := hSw; clear g6; go_simp; try with_reducible rfl)
        try simp only [Act.put, List.setIfInBounds_toArray, List.set_cons_zero, List.set_cons_succ]
        refine wpAnyG_take (i := 2) (v := ?v2) (by simp only [List.getElem?_toArray, List.getElem?_cons_zero, List.getElem?_cons_succ]; rfl) (by kernel_rfl) (by kernel_rfl) (by kernel_rfl) (by kernel_rfl) (by kernel_rfl) (by kernel_rfl) (by exact fun _ _ _ h => h) (Or.inl ⟨by rfl, ?hy2⟩) (by assumption) ?rest2
        case hy2 => (intro w hSw; obtain ⟨g1, g2, g3, g4, g5, g6⟩ := hSw; clear g6; go_simp; try with_reducible rfl)
        try simp only [Act.put, List.setIfInBounds_toArray, List.set_cons_zero, List.set_cons_succ]
        refine wpAnyG_take (i := 3) (v := ?v3) (by simp only [List.getElem?_toArray, List.getElem?_cons_zero, List.getElem?_cons_succ]; rfl) (by kernel_rfl) (by kernel_rfl) (by kernel_rfl) (by kernel_rfl) (by kernel_rfl) (by kernel_rfl) (by exact fun _ _ _ h => h) (Or.inl ⟨by rfl, ?hy3⟩) (by assumption) ?rest3
        case hy3 => (intro w hSw; obtain ⟨g1, g2, g3, g4, g5, g6⟩ := hSw; clear g6; go_simp; try with_reducible rfl)
        try simp only [Act.put, List.setIfInBounds_toArray, List.set_cons_zero, List.set_cons_succ]
        refine wpAnyG_take (i := 4) (v := ?v4) (by simp only [List.getElem?_toArray, List.getElem?_cons_zero, List.getElem?_cons_succ]; rfl) (by kernel_rfl) (by kernel_rfl) (by kernel_rfl) (by kernel_rfl) (by kernel_rfl) (by kernel_rfl) (by exact fun _ _ _ h => h) (Or.inl ⟨by rfl, ?hy4⟩) (by assumption) ?rest4
        case hy4 => (intro w hSw; obtain ⟨g1, g2, g3, g4, g5, g6⟩ := hSw; clear g6; go_simp; try with_reducible rfl)
        try simp only [Act.put, List.setIfInBounds_toArray, List.set_cons_zero, List.set_cons_succ]
        refine wpAnyG_take (i := 5) (v := ?v5) (by simp only [List.getElem?_toArray, List.getElem?_cons_zero, List.getElem?_cons_succ]; rfl) (by kernel_rfl) (by kernel_rfl) (by kernel_rfl) (by kernel_rfl) (by kernel_rfl) (by kernel_rfl) (by exact fun _ _ _ h => h) (Or.inl ⟨by rfl, ?hy5⟩) (by assumption) ?rest5
        case hy5 => (intro w hSw; obtain ⟨g1, g2, g3, g4, g5, g6⟩ := hSw; clear g6; go_simp; try with_reducible rfl)
        try simp only [Act.put, List.setIfInBounds_toArray, List.set_cons_zero, List.set_cons_succ]
        refine wpAnyG_take (i := 6) (v := ?v6) (by simp only [List.getElem?_toArray, List.getElem?_cons_zero, List.getElem?_cons_succ]; rfl) (by kernel_rfl) (by kernel_rfl) (by kernel_rfl) (by kernel_rfl) (by kernel_rfl) (by kernel_rfl) (by exact fun _ _ _ h => h) (Or.inl ⟨by rfl, ?hy6⟩) (by assumption) ?rest6
        case hy6 => (intro w hSw; obtain ⟨g1, g2, g3, g4, g5, g6⟩ := hSw; clear g6; go_simp; try with_reducible rfl)
        try simp only [Act.put, List.setIfInBounds_toArray, List.set_cons_zero, List.set_cons_succ]
        refine wpAnyG_take (i := 8) (v := ?v8) (by simp only [List.getElem?_toArray, List.getElem?_cons_zero, List.getElem?_cons_succ]; rfl) (by kernel_rfl) (by kernel_rfl) (by kernel_rfl) (by kernel_rfl) (by kernel_rfl) (by kernel_rfl) (by exact fun _ _ _ h => h) (Or.inl ⟨by rfl, ?hy8⟩) (by assumption) ?rest8
        case hy8 => (intro w hSw; obtain ⟨g1, g2, g3, g4, g5, g6⟩ := hSw; clear g6; go_simp; try with_reducible rfl)
        try simp only [Act.put, List.setIfInBounds_toArray, List.set_cons_zero, List.set_cons_succ]
        refine wpAnyG_take (i := 10) (v := ?v10) (by simp only [List.getElem?_toArray, List.getElem?_cons_zero, List.getElem?_cons_succ]; rfl) (by kernel_rfl) (by kernel_rfl) (by kernel_rfl) (by kernel_rfl) (by kernel_rfl) (by kernel_rfl) (by exact fun _ _ _ h => h) (Or.inl ⟨by rfl, ?hy10⟩) (by assumption) ?rest10
        case hy10 => (intro w hSw; obtain ⟨g1, g2, g3, g4, g5, g6⟩ := hSw; clear g6; go_simp; try with_reducible rfl)
        try simp only [Act.put, List.setIfInBounds_toArray, List.set_cons_zero, List.set_cons_succ]
        refine wpAnyG_take (i := 11) (v := ?v11) (by simp only [List.getElem?_toArray, List.getElem?_cons_zero, List.getElem?_cons_succ]; rfl) (by kernel_rfl) (by kernel_rfl) (by kernel_rfl) (by kernel_rfl) (by kernel_rfl) (by kernel_rfl) (by exact fun _ _ _ h => h) (Or.inl ⟨by rfl, ?hy11⟩) (by assumption) ?rest11
        case hy11 => (intro w hSw; obtain ⟨g1, g2, g3, g4, g5, g6⟩ := hSw; clear g6; go_simp; try with_reducible rfl)
        try simp only [Act.put, List.setIfInBounds_toArray, List.set_cons_zero, List.set_cons_succ]
        refine wpAnyG_ready (rs := [7, 12]) (by kernel_rfl) (by simp) ?_
        refine AllReadyG.held (by simp only [List.getElem?_toArray, List.getElem?_cons_zero, List.getElem?_cons_succ]; rfl) (fun K hK => ?st7) (AllReadyG.held (by simp only [List.getElem?_toArray, List.getElem?_cons_zero, List.getElem?_cons_succ]; rfl) (fun K hK => ?st12) AllReadyG.nil)
        case st12 =>
          go_simp
          obtain ⟨Wn, hWn⟩ : ∃ W, (w3.alloc (.cells #[.string nm] 9)).drew = W := ⟨_, rfl⟩
          rw [hWn]
          have hBn : Below w3.heap.size w3 Wn := by rw [← hWn]; exact ((Below.refl w3.heap.size w3).alloc ((Below.refl w3.heap.size w3).size) _).drew
          have hRn : RdAt Wn (some ⟨w3.heap.size, 0, none⟩) [.string nm] := by rw [← hWn]; exact rd_one _ _ _
          have hLn : w3.heap.size < Wn.heap.size := by rw [← hWn]; exact (Blk.new _ 9 _).lt
          refine hK.out _ _ (HSO.out _ hBn) (fun hHeld => ?_)
          clear hK K hWn hHeld
          try simp only [Act.put, List.setIfInBounds_toArray, List.set_cons_zero, List.set_cons_succ]
          refine wpAnyG_ready (rs := [7]) (by kernel_rfl) (by simp) ?_
          refine AllReadyG.held (by simp only [List.getElem?_toArray, List.getElem?_cons_zero, List.getElem?_cons_succ]; rfl) (fun K hK => ?_) AllReadyG.nil
          go_simp
          obtain ⟨We, hWe⟩ : ∃ W, (Wn.alloc (.cells #[] 9)) = W := ⟨_, rfl⟩
          rw [hWe]
          have hBe : Below w3.heap.size w3 We := by rw [← hWe]; exact (hBn.alloc (hBn.size) _)
          have hOe : We.ownsRow w3.heap.size 9 1 (.slice (some ⟨Wn.heap.size, 0, none⟩) 0 0) 0 [] := by rw [← hWe]; exact own_empty Wn w3.heap.size (hBn.size)
          have hLe : Wn.heap.size < We.heap.size := by rw [← hWe]; exact (Blk.new _ 9 _).lt
          have hR3 : RdAt We (some ⟨w3.heap.size, 0, none⟩) [.string nm] := by rw [← hWe]; exact rd_alloc hRn hLn _
          have hL3 : w3.heap.size < We.heap.size := by rw [← hWe]; exact Nat.lt_trans hLn (Blk.new _ 9 _).lt
          refine hK.out _ _ (HSO.out _ hBe) (fun hHeld => ?_)
          clear hK K hWe hHeld
          try simp only [Act.put, List.setIfInBounds_toArray, List.set_cons_zero, List.set_cons_succ]
          refine wpAnyG_ready (rs := [9]) (by kernel_rfl) (by simp) ?_
          refine AllReadyG.held (by simp only [List.getElem?_toArray, List.getElem?_cons_zero, List.getElem?_cons_succ]; rfl) (fun K hK => ?_) AllReadyG.nil
          refine step_app _ (by rfl) _ _ 48 (by rfl) w3.heap.size 9 i9 (.string ByteArray.empty) 1 16 Tryz.underlying48 hi9 hj0 hj1 hj2 rfl (by decide) (.slice (some ⟨Wn.heap.size, 0, none⟩) 0 0) 0 [] (by rfl) hOe A seen.length c (seen.map .string) (by rfl) (by simp) (RdAt.of_sl (HSl2.out.keep (keep_below hBe))) (by simp [Value.oneCell']) (by unfold maxLen; omega) (by omega) (hBe.size) ?_
          intro v1 wx hO1 hG1 hL1
          have hBx : Below w3.heap.size w3 wx := below_grown hBe hG1 (fun k hk => by simp [Value.ownBlock] at hk; omega)
          have hV1 : ∀ k, v1.ownBlock = some k → w3.heap.size ≤ k := own_base hO1
          have hRx := rd_grown hR3 hL3 hG1 (by simp [Value.ownBlock]; omega)
          refine hK.out _ _ (HSO.out _ hBx) (fun hHeld => ?_)
          clear hK K hHeld
          try simp only [Act.put, List.setIfInBounds_toArray, List.set_cons_zero, List.set_cons_succ]
          refine wpAnyG_ready (rs := [13]) (by kernel_rfl) (by simp) ?_
          refine AllReadyG.held (by simp only [List.getElem?_toArray, List.getElem?_cons_zero, List.getElem?_cons_succ]; rfl) (fun K hK => ?_) AllReadyG.nil
          refine step_app _ (by rfl) _ _ 48 (by rfl) w3.heap.size 9 i9 (.string ByteArray.empty) 1 16 Tryz.underlying48 hi9 hj0 hj1 hj2 rfl (by decide) v1 (0 + seen.length) ([] ++ seen.map .string) (by rfl) hO1 (some ⟨w3.heap.size, 0, none⟩) 1 1 [.string nm] (by rfl) (by simp) hRx (by simp [Value.oneCell']) (by unfold maxLen; omega) (by omega) (hBx.size) ?_
          intro v2 wz hO2 hG2 hL2
          have hBz : Below w3.heap.size w3 wz := below_grown hBx hG2 hV1
          refine hK.out _ _ (HSO.out _ hBz) (fun hHeld => ?_)
          clear hK K hHeld
          try simp only [Act.put, List.setIfInBounds_toArray, List.set_cons_zero, List.set_cons_succ]
          obtain ⟨A2, d2, e2⟩ : ∃ A c, v2 = .slice A (seen ++ [nm]).length c := by have := own_form hO2; simpa using this
          subst e2
          have hS2 : SlAt (Lt wz.heap.size) wz A2 (seen ++ [nm]).length ((seen ++ [nm]).map .string) := by
            obtain ⟨A', c', e', _, h'⟩ := SlAt.of_own hO2
            injection e' with e1 e2 e3
            subst e1
            have h2 := h'.imp (fun b q => q.2)
            simpa using h2
          have cR := IH2.out A2 d2 wz ((HT2.out.keep (keep_below hBz)).imp (lt_mono hBz.size)) hS2
          rw [show (seen ++ [nm]).length = seen.length + 1 by simp] at cR
          have HBz := Lib.hid hBz
          clear hS2 hO2 hG2 hL2 hBz
          refine wpAnyG_ready (rs := [14]) (by kernel_rfl) (by simp) ?_
          refine AllReadyG.held (by simp only [List.getElem?_toArray, List.getElem?_cons_zero, List.getElem?_cons_succ]; rfl) (fun K hK => ?_) AllReadyG.nil
          go_simp
          refine cR.mono ?_
          rintro e w4 ⟨rfl, hb4⟩
          have HB4 := Lib.hid (HBz.out.trans (hb4.mono HBz.out.size))
          dsimp only
          refine hK.out _ _ (HSO.out _ HB4.out) (fun hHeld => ?_)
          clear hK K hHeld cR hb4
          try simp only [Act.put, List.setIfInBounds_toArray, List.set_cons_zero, List.set_cons_succ]
          have hHeld := HSO.out _ HB4.out
          refine wpAnyG_take (i := 15) (v := ?e1_v15) (by simp only [List.getElem?_toArray, List.getElem?_cons_zero, List.getElem?_cons_succ]; rfl) (by kernel_rfl) (by kernel_rfl) (by kernel_rfl) (by kernel_rfl) (by kernel_rfl) (by kernel_rfl) (by exact fun _ _ _ h => h) (Or.inl ⟨by rfl, ?e1_hy15⟩) (by assumption) ?e1_rest15
          case e1_hy15 => (intro w hSw; go_simp; try with_reducible rfl)
          try simp only [Act.put, List.setIfInBounds_toArray, List.set_cons_zero, List.set_cons_succ]
          refine wpAnyG_take (i := 16) (v := ?e1_v16) (by simp only [List.getElem?_toArray, List.getElem?_cons_zero, List.getElem?_cons_succ]; rfl) (by kernel_rfl) (by kernel_rfl) (by kernel_rfl) (by kernel_rfl) (by kernel_rfl) (by kernel_rfl) (by exact fun _ _ _ h => h) (Or.inl ⟨by rfl, ?e1_hy16⟩) (by assumption) ?e1_rest16
          case e1_hy16 => (intro w hSw; go_simp; try with_reducible rfl)
          try simp only [Act.put, List.setIfInBounds_toArray, List.set_cons_zero, List.set_cons_succ]
          refine wpAnyG_take (i := 17) (v := ?e1_v17) (by simp only [List.getElem?_toArray, List.getElem?_cons_zero, List.getElem?_cons_succ]; rfl) (by kernel_rfl) (by kernel_rfl) (by kernel_rfl) (by kernel_rfl) (by kernel_rfl) (by kernel_rfl) (by exact fun _ _ _ h => h) (Or.inl ⟨by rfl, ?e1_hy17⟩) (by assumption) ?e1_rest17
          case e1_hy17 => (intro w hSw; go_simp; try with_reducible rfl)
          try simp only [Act.put, List.setIfInBounds_toArray, List.set_cons_zero, List.set_cons_succ]
          refine wpAnyG_take (i := 18) (v := ?e1_v18) (by simp only [List.getElem?_toArray, List.getElem?_cons_zero, List.getElem?_cons_succ]; rfl) (by kernel_rfl) (by kernel_rfl) (by kernel_rfl) (by kernel_rfl) (by kernel_rfl) (by kernel_rfl) (by exact fun _ _ _ h => h) (Or.inl ⟨by rfl, ?e1_hy18⟩) (by assumption) ?e1_rest18
          case e1_hy18 => (intro w hSw; go_simp; try with_reducible rfl)
          try simp only [Act.put, List.setIfInBounds_toArray, List.set_cons_zero, List.set_cons_succ]
          clear hHeld
          refine wpAnyG_done (by kernel_rfl) ?_ _
          go_wp2
          go_ret2
          exact ⟨rfl, HB2.out.trans (HB4.out.mono HB2.out.size)⟩
        case st7 =>
          go_simp
          obtain ⟨We, hWe⟩ : ∃ W, (w3.alloc (.cells #[] 9)).drew = W := ⟨_, rfl⟩
          rw [hWe]
          have hBe : Below w3.heap.size w3 We := by rw [← hWe]; exact ((Below.refl w3.heap.size w3).alloc ((Below.refl w3.heap.size w3).size) _).drew
          have hOe : We.ownsRow w3.heap.size 9 1 (.slice (some ⟨w3.heap.size, 0, none⟩) 0 0) 0 [] := by rw [← hWe]; exact own_empty w3 w3.heap.size ((Below.refl w3.heap.size w3).size)
          have hLe : w3.heap.size < We.heap.size := by rw [← hWe]; exact (Blk.new _ 9 _).lt
          refine hK.out _ _ (HSO.out _ hBe) (fun hHeld => ?_)
          clear hK K hWe hHeld
          try simp only [Act.put, List.setIfInBounds_toArray, List.set_cons_zero, List.set_cons_succ]
          refine wpAnyG_ready (rs := [9, 12]) (by kernel_rfl) (by simp) ?_
          refine AllReadyG.held (by simp only [List.getElem?_toArray, List.getElem?_cons_zero, List.getElem?_cons_succ]; rfl) (fun K hK => ?st9) (AllReadyG.held (by simp only [List.getElem?_toArray, List.getElem?_cons_zero, List.getElem?_cons_succ]; rfl) (fun K hK => ?st12) AllReadyG.nil)
          case st12 =>
            go_simp
            obtain ⟨Wn, hWn⟩ : ∃ W, (We.alloc (.cells #[.string nm] 9)) = W := ⟨_, rfl⟩
            rw [hWn]
            have hBn : Below w3.heap.size w3 Wn := by rw [← hWn]; exact (hBe.alloc (hBe.size) _)
            have hRn : RdAt Wn (some ⟨We.heap.size, 0, none⟩) [.string nm] := by rw [← hWn]; exact rd_one _ _ _
            have hLn : We.heap.size < Wn.heap.size := by rw [← hWn]; exact (Blk.new _ 9 _).lt
            have hOn : Wn.ownsRow w3.heap.size 9 1 (.slice (some ⟨w3.heap.size, 0, none⟩) 0 0) 0 [] := by rw [← hWn]; exact hOe.alloc _
            refine hK.out _ _ (HSO.out _ hBn) (fun hHeld => ?_)
            clear hK K hWn hHeld
            try simp only [Act.put, List.setIfInBounds_toArray, List.set_cons_zero, List.set_cons_succ]
            refine wpAnyG_ready (rs := [9]) (by kernel_rfl) (by simp) ?_
            refine AllReadyG.held (by simp only [List.getElem?_toArray, List.getElem?_cons_zero, List.getElem?_cons_succ]; rfl) (fun K hK => ?_) AllReadyG.nil
            refine step_app _ (by rfl) _ _ 48 (by rfl) w3.heap.size 9 i9 (.string ByteArray.empty) 1 16 Tryz.underlying48 hi9 hj0 hj1 hj2 rfl (by decide) (.slice (some ⟨w3.heap.size, 0, none⟩) 0 0) 0 [] (by rfl) hOn A seen.length c (seen.map .string) (by rfl) (by simp) (RdAt.of_sl (HSl2.out.keep (keep_below hBn))) (by simp [Value.oneCell']) (by unfold maxLen; omega) (by omega) (hBn.size) ?_
            intro v1 wx hO1 hG1 hL1
            have hBx : Below w3.heap.size w3 wx := below_grown hBn hG1 (fun k hk => by simp [Value.ownBlock] at hk; omega)
            have hV1 : ∀ k, v1.ownBlock = some k → w3.heap.size ≤ k := own_base hO1
            have hRx := rd_grown hRn hLn hG1 (by simp [Value.ownBlock]; omega)
            refine hK.out _ _ (HSO.out _ hBx) (fun hHeld => ?_)
            clear hK K hHeld
            try simp only [Act.put, List.setIfInBounds_toArray, List.set_cons_zero, List.set_cons_succ]
            refine wpAnyG_ready (rs := [13]) (by kernel_rfl) (by simp) ?_
            refine AllReadyG.held (by simp only [List.getElem?_toArray, List.getElem?_cons_zero, List.getElem?_cons_succ]; rfl) (fun K hK => ?_) AllReadyG.nil
            refine step_app _ (by rfl) _ _ 48 (by rfl) w3.heap.size 9 i9 (.string ByteArray.empty) 1 16 Tryz.underlying48 hi9 hj0 hj1 hj2 rfl (by decide) v1 (0 + seen.length) ([] ++ seen.map .string) (by rfl) hO1 (some ⟨We.heap.size, 0, none⟩) 1 1 [.string nm] (by rfl) (by simp) hRx (by simp [Value.oneCell']) (by unfold maxLen; omega) (by omega) (hBx.size) ?_
            intro v2 wz hO2 hG2 hL2
            have hBz : Below w3.heap.size w3 wz := below_grown hBx hG2 hV1
            refine hK.out _ _ (HSO.out _ hBz) (fun hHeld => ?_)
            clear hK K hHeld
            try simp only [Act.put, List.setIfInBounds_toArray, List.set_cons_zero, List.set_cons_succ]
            obtain ⟨A2, d2, e2⟩ : ∃ A c, v2 = .slice A (seen ++ [nm]).length c := by have := own_form hO2; simpa using this
            subst e2
            have hS2 : SlAt (Lt wz.heap.size) wz A2 (seen ++ [nm]).length ((seen ++ [nm]).map .string) := by
              obtain ⟨A', c', e', _, h'⟩ := SlAt.of_own hO2
              injection e' with e1 e2 e3
              subst e1
              have h2 := h'.imp (fun b q => q.2)
              simpa using h2
            have cR := IH2.out A2 d2 wz ((HT2.out.keep (keep_below hBz)).imp (lt_mono hBz.size)) hS2
            rw [show (seen ++ [nm]).length = seen.length + 1 by simp] at cR
            have HBz := Lib.hid hBz
            clear hS2 hO2 hG2 hL2 hBz
            refine wpAnyG_ready (rs := [14]) (by kernel_rfl) (by simp) ?_
            refine AllReadyG.held (by simp only [List.getElem?_toArray, List.getElem?_cons_zero, List.getElem?_cons_succ]; rfl) (fun K hK => ?_) AllReadyG.nil
            go_simp
            refine cR.mono ?_
            rintro e w4 ⟨rfl, hb4⟩
            have HB4 := Lib.hid (HBz.out.trans (hb4.mono HBz.out.size))
            dsimp only
            refine hK.out _ _ (HSO.out _ HB4.out) (fun hHeld => ?_)
            clear hK K hHeld cR hb4
            try simp only [Act.put, List.setIfInBounds_toArray, List.set_cons_zero, List.set_cons_succ]
            have hHeld := HSO.out _ HB4.out
            refine wpAnyG_take (i := 15) (v := ?e2_v15) (by simp only [List.getElem?_toArray, List.getElem?_cons_zero, List.getElem?_cons_succ]; rfl) (by kernel_rfl) (by kernel_rfl) (by kernel_rfl) (by kernel_rfl) (by kernel_rfl) (by kernel_rfl) (by exact fun _ _ _ h => h) (Or.inl ⟨by rfl, ?e2_hy15⟩) (by assumption) ?e2_rest15
            case e2_hy15 => (intro w hSw; go_simp; try with_reducible rfl)
            try simp only [Act.put, List.setIfInBounds_toArray, List.set_cons_zero, List.set_cons_succ]
            refine wpAnyG_take (i := 16) (v := ?e2_v16) (by simp only [List.getElem?_toArray, List.getElem?_cons_zero, List.getElem?_cons_succ]; rfl) (by kernel_rfl) (by kernel_rfl) (by kernel_rfl) (by kernel_rfl) (by kernel_rfl) (by kernel_rfl) (by exact fun _ _ _ h => h) (Or.inl ⟨by rfl, ?e2_hy16⟩) (by assumption) ?e2_rest16
            case e2_hy16 => (intro w hSw; go_simp; try with_reducible rfl)
            try simp only [Act.put, List.setIfInBounds_toArray, List.set_cons_zero, List.set_cons_succ]
            refine wpAnyG_take (i := 17) (v := ?e2_v17) (by simp only [List.getElem?_toArray, List.getElem?_cons_zero, List.getElem?_cons_succ]; rfl) (by kernel_rfl) (by kernel_rfl) (by kernel_rfl) (by kernel_rfl) (by kernel_rfl) (by kernel_rfl) (by exact fun _ _ _ h => h) (Or.inl ⟨by rfl, ?e2_hy17⟩) (by assumption) ?e2_rest17
            case e2_hy17 => (intro w hSw; go_simp; try with_reducible rfl)
            try simp only [Act.put, List.setIfInBounds_toArray, List.set_cons_zero, List.set_cons_succ]
            refine wpAnyG_take (i := 18) (v := ?e2_v18) (by simp only [List.getElem?_toArray, List.getElem?_cons_zero, List.getElem?_cons_succ]; rfl) (by kernel_rfl) (by kernel_rfl) (by kernel_rfl) (by kernel_rfl) (by kernel_rfl) (by kernel_rfl) (by exact fun _ _ _ h => h) (Or.inl ⟨by rfl, ?e2_hy18⟩) (by assumption) ?e2_rest18
            case e2_hy18 => (intro w hSw; go_simp; try with_reducible rfl)
            try simp only [Act.put, List.setIfInBounds_toArray, List.set_cons_zero, List.set_cons_succ]
            clear hHeld
            refine wpAnyG_done (by kernel_rfl) ?_ _
            go_wp2
            go_ret2
            exact ⟨rfl, HB2.out.trans (HB4.out.mono HB2.out.size)⟩
          case st9 =>
            refine step_app _ (by rfl) _ _ 48 (by rfl) w3.heap.size 9 i9 (.string ByteArray.empty) 1 16 Tryz.underlying48 hi9 hj0 hj1 hj2 rfl (by decide) (.slice (some ⟨w3.heap.size, 0, none⟩) 0 0) 0 [] (by rfl) hOe A seen.length c (seen.map .string) (by rfl) (by simp) (RdAt.of_sl (HSl2.out.keep (keep_below hBe))) (by simp [Value.oneCell']) (by unfold maxLen; omega) (by omega) (hBe.size) ?_
            intro v1 wx hO1 hG1 hL1
            have hBx : Below w3.heap.size w3 wx := below_grown hBe hG1 (fun k hk => by simp [Value.ownBlock] at hk; omega)
            have hV1 : ∀ k, v1.ownBlock = some k → w3.heap.size ≤ k := own_base hO1
            refine hK.out _ _ (HSO.out _ hBx) (fun hHeld => ?_)
            clear hK K hHeld
            try simp only [Act.put, List.setIfInBounds_toArray, List.set_cons_zero, List.set_cons_succ]
            refine wpAnyG_ready (rs := [12]) (by kernel_rfl) (by simp) ?_
            refine AllReadyG.held (by simp only [List.getElem?_toArray, List.getElem?_cons_zero, List.getElem?_cons_succ]; rfl) (fun K hK => ?_) AllReadyG.nil
            go_simp
            obtain ⟨Wn, hWn⟩ : ∃ W, (wx.alloc (.cells #[.string nm] 9)) = W := ⟨_, rfl⟩
            rw [hWn]
            have hBn : Below w3.heap.size w3 Wn := by rw [← hWn]; exact (hBx.alloc (hBx.size) _)
            have hRn : RdAt Wn (some ⟨wx.heap.size, 0, none⟩) [.string nm] := by rw [← hWn]; exact rd_one _ _ _
            have hLn : wx.heap.size < Wn.heap.size := by rw [← hWn]; exact (Blk.new _ 9 _).lt
            have hO1n : Wn.ownsRow w3.heap.size 9 1 v1 (0 + seen.length) ([] ++ seen.map .string) := by rw [← hWn]; exact hO1.alloc _
            have hRx := hRn
            refine hK.out _ _ (HSO.out _ hBn) (fun hHeld => ?_)
            clear hK K hWn hHeld
            try simp only [Act.put, List.setIfInBounds_toArray, List.set_cons_zero, List.set_cons_succ]
            refine wpAnyG_ready (rs := [13]) (by kernel_rfl) (by simp) ?_
            refine AllReadyG.held (by simp only [List.getElem?_toArray, List.getElem?_cons_zero, List.getElem?_cons_succ]; rfl) (fun K hK => ?_) AllReadyG.nil
            refine step_app _ (by rfl) _ _ 48 (by rfl) w3.heap.size 9 i9 (.string ByteArray.empty) 1 16 Tryz.underlying48 hi9 hj0 hj1 hj2 rfl (by decide) v1 (0 + seen.length) ([] ++ seen.map .string) (by rfl) hO1n (some ⟨wx.heap.size, 0, none⟩) 1 1 [.string nm] (by rfl) (by simp) hRx (by simp [Value.oneCell']) (by unfold maxLen; omega) (by omega) (hBn.size) ?_
            intro v2 wz hO2 hG2 hL2
            have hBz : Below w3.heap.size w3 wz := below_grown hBn hG2 hV1
            refine hK.out _ _ (HSO.out _ hBz) (fun hHeld => ?_)
            clear hK K hHeld
            try simp only [Act.put, List.setIfInBounds_toArray, List.set_cons_zero, List.set_cons_succ]
            obtain ⟨A2, d2, e2⟩ : ∃ A c, v2 = .slice A (seen ++ [nm]).length c := by have := own_form hO2; simpa using this
            subst e2
            have hS2 : SlAt (Lt wz.heap.size) wz A2 (seen ++ [nm]).length ((seen ++ [nm]).map .string) := by
              obtain ⟨A', c', e', _, h'⟩ := SlAt.of_own hO2
              injection e' with e1 e2 e3
              subst e1
              have h2 := h'.imp (fun b q => q.2)
              simpa using h2
            have cR := IH2.out A2 d2 wz ((HT2.out.keep (keep_below hBz)).imp (lt_mono hBz.size)) hS2
            rw [show (seen ++ [nm]).length = seen.length + 1 by simp] at cR
            have HBz := Lib.hid hBz
            clear hS2 hO2 hG2 hL2 hBz
            refine wpAnyG_ready (rs := [14]) (by kernel_rfl) (by simp) ?_
            refine AllReadyG.held (by simp only [List.getElem?_toArray, List.getElem?_cons_zero, List.getElem?_cons_succ]; rfl) (fun K hK => ?_) AllReadyG.nil
            go_simp
            refine cR.mono ?_
            rintro e w4 ⟨rfl, hb4⟩
            have HB4 := Lib.hid (HBz.out.trans (hb4.mono HBz.out.size))
            dsimp only
            refine hK.out _ _ (HSO.out _ HB4.out) (fun hHeld => ?_)
            clear hK K hHeld cR hb4
            try simp only [Act.put, List.setIfInBounds_toArray, List.set_cons_zero, List.set_cons_succ]
            have hHeld := HSO.out _ HB4.out
            refine wpAnyG_take (i := 15) (v := ?e3_v15) (by simp only [List.getElem?_toArray, List.getElem?_cons_zero, List.getElem?_cons_succ]; rfl) (by kernel_rfl) (by kernel_rfl) (by kernel_rfl) (by kernel_rfl) (by kernel_rfl) (by kernel_rfl) (by exact fun _ _ _ h => h) (Or.inl ⟨by rfl, ?e3_hy15⟩) (by assumption) ?e3_rest15
            case e3_hy15 => (intro w hSw; go_simp; try with_reducible rfl)
            try simp only [Act.put, List.setIfInBounds_toArray, List.set_cons_zero, List.set_cons_succ]
            refine wpAnyG_take (i := 16) (v := ?e3_v16) (by simp only [List.getElem?_toArray, List.getElem?_cons_zero, List.getElem?_cons_succ]; rfl) (by kernel_rfl) (by kernel_rfl) (by kernel_rfl) (by kernel_rfl) (by kernel_rfl) (by kernel_rfl) (by exact fun _ _ _ h => h) (Or.inl ⟨by rfl, ?e3_hy16⟩) (by assumption) ?e3_rest16
            case e3_hy16 => (intro w hSw; go_simp; try with_reducible rfl)
            try simp only [Act.put, List.setIfInBounds_toArray, List.set_cons_zero, List.set_cons_succ]
            refine wpAnyG_take (i := 17) (v := ?e3_v17) (by simp only [List.getElem?_toArray, List.getElem?_cons_zero, List.getElem?_cons_succ]; rfl) (by kernel_rfl) (by kernel_rfl) (by kernel_rfl) (by kernel_rfl) (by kernel_rfl) (by kernel_rfl) (by exact fun _ _ _ h => h) (Or.inl ⟨by rfl, ?e3_hy17⟩) (by assumption) ?e3_rest17
            case e3_hy17 => (intro w hSw; go_simp; try with_reducible rfl)
            try simp only [Act.put, List.setIfInBounds_toArray, List.set_cons_zero, List.set_cons_succ]
            refine wpAnyG_take (i := 18) (v := ?e3_v18) (by simp only [List.getElem?_toArray, List.getElem?_cons_zero, List.getElem?_cons_succ]; rfl) (by kernel_rfl) (by kernel_rfl) (by kernel_rfl) (by kernel_rfl) (by kernel_rfl) (by kernel_rfl) (by exact fun _ _ _ h => h) (Or.inl ⟨by rfl, ?e3_hy18⟩) (by assumption) ?e3_rest18
            case e3_hy18 => (intro w hSw; go_simp; try with_reducible rfl)
            try simp only [Act.put, List.setIfInBounds_toArray, List.set_cons_zero, List.set_cons_succ]
            clear hHeld
            refine wpAnyG_done (by kernel_rfl) ?_ _
            go_wp2
            go_ret2
            exact ⟨rfl, HB2.out.trans (HB4.out.mono HB2.out.size)⟩
  · rw [if_pos hk] at hRR
    subst hRR
    have hne : (kind == 10) = false := by simp [hk]
    have hne2 : (kind != 10) = true := by simp [hk]
    clear hF
    go_enter Tryz.func41, Tryz.ntmps41
    go_wp2
    go_ret2
    exact ⟨rfl, HB1.out⟩
end Go.Proofs.YtjbdgjbmbohfmaaGreatDoor

namespace Go.Proofs.YtjbdgjbmbohfmaaGreatDoor
open Go Go.Proofs Go.RowKit

attribute [local go_sem ↓] Go.wp_at_zero Go.wp_at_succ

set_option maxRecDepth 100000 in
set_option maxHeartbeats 4000000 in
/-- Through at a tree that may not be. -/
theorem thr_no (t : TreeD) (p : Ptr6) (i : Int) (w : World) (hE : Env4 w) (hT : TreeAt (Lt w.heap.size) w t p) (hF : TreeFew t) (hc : checkF t = false) :
    Calls Tryz.prog 33 #[treeV t p, .int .i64 i] w fun e w' => e = .returned (.tuple #[.int .i64 0, .int .i64 14]) ∧ Below w.heap.size w w' := by
  obtain ⟨W0, hW0⟩ : ∃ W0, w.alloc (.cells #[.slice p.a1 t.nodes.length p.c1, .slice p.a2 t.types.length p.c2, .slice p.a3 t.aliases.length p.c3] 28) = W0 := ⟨_, rfl⟩
  obtain ⟨hb0, hX0, hT0⟩ := box_tree t p w W0 hT hW0
  have cC := check_any t p W0 (hE.on hb0) hT0 hF
  rw [hc] at cC
  have x0 := hX0.cell 0
  have x1 := hX0.cell 1
  have x2 := hX0.cell 2
  simp only [List.getElem?_toArray, List.getElem?_cons_zero, List.getElem?_cons_succ] at x0 x1 x2
  have HB0 := Lib.hid hb0
  clear hb0 hT0 hT hc hE hF hX0
  go_enter Tryz.func33, Tryz.ntmps33
  go_wp2_with fail
  refine cC.mono ?_
  rintro e w1 ⟨rfl, hb1⟩
  have HB1 := Lib.hid (HB0.out.trans (hb1.mono HB0.out.size))
  clear hb1
  go_wp2
  refine bodyPost_ret (v := .tuple #[.int .i64 0, .int .i64 14]) (by simp [results, Tryz.results33, go_sem]) rfl ?_
  exact ⟨rfl, HB1.out⟩

/-- What both ways of Through tell. -/
theorem thrI_ref {t : TreeD} {i : Nat} (h : i < t.types.length) : thrI t (i : Int) = refT t (t.aliases.length + 1) i [] := by rw [thrI_of h, refT_thru]

set_option maxRecDepth 100000 in
set_option maxHeartbeats 16000000 in
theorem law12_any (t : TreeD) (p : Ptr6) (i : Int) (w : World) (hE : Env w) (hT : TreeAt (Lt w.heap.size) w t p) (b1 : t.nodes.length ≤ 9223372036854775807) (b2 : t.types.length ≤ 9223372036854775807) (b3 : t.aliases.length ≤ 9223372036854775807) (hI : ∀ x ∈ t.nodes, x.int ≤ 9223372036854775807) :
    Calls Tryz.prog 12 #[treeV t p, .int .i64 i] w fun e w' => e = .returned (.bool true) ∧ Below w.heap.size w w' := by
  obtain ⟨a1, c1, a2, c2, a3, c3⟩ := p
  obtain ⟨W0, hW0⟩ : ∃ W0, w.alloc (.cells #[.slice a1 t.nodes.length c1, .slice a2 t.types.length c2, .slice a3 t.aliases.length c3] 28) = W0 := ⟨_, rfl⟩
  obtain ⟨hb0, hX0, hT0⟩ := box_tree t ⟨a1, c1, a2, c2, a3, c3⟩ w W0 hT hW0
  have cL := lives_any W0 (hE.on hb0)
  have HE0 := Lib.hid (hE.on hb0)
  have HX0 := Lib.hid hX0
  have HB0 := Lib.hid hb0
  have HT0 := Lib.hid hT0
  have HI := Lib.hid hI
  clear hb0 hT0 hT hE hI hX0
  go_enter Tryz.func12, Tryz.ntmps12
  go_wp2_with fail
  refine cL.mono ?_
  rintro e w1 ⟨rfl, hb1⟩
  clear hW0 cL
  obtain ⟨x0, x1, x2⟩ := law_box t ⟨a1, c1, a2, c2, a3, c3⟩ w W0 w1 HX0.out hb1
  have HB1 := Lib.hid hb1
  have HT1 := Lib.hid ((HT0.out.keep (keep_below hb1)).imp (lt_mono hb1.size))
  have cF := few_any t ⟨a1, c1, a2, c2, a3, c3⟩ w1 HT1.out b1 b2 b3
  clear hb1
  cases hf : fewB t with
  | false =>
    rw [hf] at cF
    clear hf
    go_wp2_with fail
    refine cF.mono ?_
    rintro e w2 ⟨rfl, hb2⟩
    have HB2 := Lib.hid (HB1.out.trans (hb2.mono HB1.out.size))
    have cL2 := lives_any w2 (HE0.out.on HB2.out)
    clear hb2 x0 x1 x2
    go_wp2_with fail
    refine cL2.mono ?_
    rintro e w3 ⟨rfl, hb3⟩
    have HB3 := Lib.hid (HB0.out.trans ((HB2.out.trans (hb3.mono HB2.out.size)).mono HB0.out.size))
    clear hb3 cL2
    go_wp2_with fail
    go_ret
    exact ⟨rfl, HB3.out⟩
  | true =>
  rw [hf] at cF
  have HF := Lib.hid (few_of hf)
  clear hf
  go_wp2_with fail
  refine cF.mono ?_
  rintro e w2 ⟨rfl, hb2⟩
  have HB2 := Lib.hid (HB1.out.trans (hb2.mono HB1.out.size))
  have HT2 := Lib.hid ((HT1.out.keep (keep_below hb2)).imp (lt_mono hb2.size))
  clear hb2 x0 x1 x2 cF
  obtain ⟨x0, x1, x2⟩ := law_box t ⟨a1, c1, a2, c2, a3, c3⟩ w W0 w2 HX0.out HB2.out
  have cB := binder_any t ⟨a1, c1, a2, c2, a3, c3⟩ i w2 (env4_of (HE0.out.on HB2.out)) HT2.out HF.out
  obtain ⟨Bo, hBo⟩ : ∃ Bo, (if checkF t then bndI t i else none) = Bo := ⟨_, rfl⟩
  rw [hBo] at cB
  have HBo := Lib.hid hBo
  clear hBo
  go_wp2_with fail
  refine cB.mono ?_
  rintro e w3 ⟨rfl, hb3⟩
  have HB3 := Lib.hid (HB2.out.trans (hb3.mono HB2.out.size))
  have HT3 := Lib.hid ((HT2.out.keep (keep_below hb3)).imp (lt_mono hb3.size))
  clear hb3 x0 x1 x2 cB
  obtain ⟨x0, x1, x2⟩ := law_box t ⟨a1, c1, a2, c2, a3, c3⟩ w W0 w3 HX0.out HB3.out
  cases hc : checkF t with
  | false =>
    have hBn : Bo = none := by rw [← HBo.out, hc]; rfl
    subst hBn
    have cT := thr_no t ⟨a1, c1, a2, c2, a3, c3⟩ i w3 (env4_of (HE0.out.on HB3.out)) HT3.out HF.out hc
    have HC := Lib.hid hc
    clear hc
    go_wp2_with fail
    refine cT.mono ?_
    rintro e w4 ⟨rfl, hb4⟩
    have HB4 := Lib.hid (HB3.out.trans (hb4.mono HB3.out.size))
    have HT4 := Lib.hid ((HT3.out.keep (keep_below hb4)).imp (lt_mono hb4.size))
    clear hb4 x0 x1 x2 cT
    obtain ⟨x0, x1, x2⟩ := law_box t ⟨a1, c1, a2, c2, a3, c3⟩ w W0 w4 HX0.out HB4.out
    have cR := right_any t ⟨a1, c1, a2, c2, a3, c3⟩ w4 HT4.out HF.out HI.out
    rw [HC.out] at cR
    go_wp2_with fail
    refine cR.mono ?_
    rintro e w5 ⟨rfl, hb5⟩
    have HB5 := Lib.hid (HB0.out.trans ((HB4.out.trans (hb5.mono HB4.out.size)).mono HB0.out.size))
    clear hb5 x0 x1 x2 cR
    go_wp2_with fail
    go_ret
    exact ⟨rfl, HB5.out⟩
  | true =>
  rw [hc, if_pos rfl] at HBo
  have cT := thr_any t ⟨a1, c1, a2, c2, a3, c3⟩ i w3 (env4_of (HE0.out.on HB3.out)) HT3.out HF.out hc
  obtain ⟨K, hK⟩ : ∃ K, thrI t i = K := ⟨_, rfl⟩
  rw [hK] at cT
  have HK := Lib.hid hK
  have HC := Lib.hid hc
  clear hK hc
  go_wp2_with fail
  refine cT.mono ?_
  rintro e w4 ⟨rfl, hb4⟩
  have HB4 := Lib.hid (HB3.out.trans (hb4.mono HB3.out.size))
  have HT4 := Lib.hid ((HT3.out.keep (keep_below hb4)).imp (lt_mono hb4.size))
  clear hb4 x0 x1 x2 cT
  obtain ⟨x0, x1, x2⟩ := law_box t ⟨a1, c1, a2, c2, a3, c3⟩ w W0 w4 HX0.out HB4.out
  have cR := right_any t ⟨a1, c1, a2, c2, a3, c3⟩ w4 HT4.out HF.out HI.out
  rw [HC.out] at cR
  go_wp2_with fail
  refine cR.mono ?_
  rintro e w5 ⟨rfl, hb5⟩
  have HB5 := Lib.hid (HB4.out.trans (hb5.mono HB4.out.size))
  have HT5 := Lib.hid ((HT4.out.keep (keep_below hb5)).imp (lt_mono hb5.size))
  have hzw : W0.heap.size ≤ w5.heap.size := HB5.out.size
  clear hb5 x0 x1 x2 cR
  obtain ⟨x0, x1, x2⟩ := law_box t ⟨a1, c1, a2, c2, a3, c3⟩ w W0 w5 HX0.out HB5.out
  have HWH := Lib.hid ((checkF_iff t).1 HC.out)
  have hln : t.nodes.length ≤ 1000 := HF.out.2.2.2.2.1
  obtain ⟨K1, K2⟩ := K
  by_cases hi0 : i < 0
  · have hBn : Bo = none := by rw [← HBo.out]; unfold bndI; rw [if_pos (.inl hi0)]
    subst hBn
    have hKv : thrI t i = (0, 13) := by unfold thrI; rw [if_pos (.inl hi0)]
    rw [HK.out] at hKv
    injection hKv with hK1 hK2
    subst hK1
    subst hK2
    have hi1 : ¬ (0 ≤ i) := by omega
    have HBZ := Lib.hid (HB0.out.trans (HB5.out.mono HB0.out.size))
    go_wp2
    all_goals first
      | (go_ret; exact ⟨rfl, HBZ.out⟩)
      | (exfalso; omega)
  obtain ⟨k, rfl⟩ : ∃ k : Nat, i = (k : Int) := ⟨i.toNat, by omega⟩
  have HBw5 := HB5
  have HTw5 := HT5
  clear HB4 HT4 HB3 HT3 HB2 HT2 HB1 HT1 HT0
  by_cases hkn : k < t.nodes.length
  rotate_left
  · have hn : ¬ ((k : Int) < (t.nodes.length : Int)) := by omega
    have hBn : Bo = none := by rw [← HBo.out]; unfold bndI; rw [if_pos (.inr (by omega))]
    subst hBn
    by_cases hkt : k < t.types.length
    · have hm : ¬ ((t.types.length : Int) ≤ (k : Int)) := by omega
      have hRf : refT t (t.aliases.length + 1) k [] = (K1, K2) := (thrI_ref hkt).symm.trans HK.out
      have cQ := rthrough_any t _ HWH.out.rng HF.out (t.aliases.length + 1) k [] hkt ⟨List.nodup_nil, by simp⟩ (by simp) none 0 w5 HTw5.out SlAt.nil
      rw [hRf] at cQ
      clear hRf
      dsimp only [List.length_nil] at cQ
      go_wp2_with fail
      refine cQ.mono ?_
      rintro e w8 ⟨rfl, hb8⟩
      have HB8 := Lib.hid (HB0.out.trans ((HBw5.out.trans (hb8.mono HBw5.out.size)).mono HB0.out.size))
      clear hb8 x0 x1 x2 cQ
      go_wp2
      go_ret
      exact ⟨by simp, HB8.out⟩
    · have hm : (t.types.length : Int) ≤ (k : Int) := by omega
      have hKv : thrI t (k : Int) = (0, 13) := by unfold thrI; rw [if_pos (.inr hm)]
      rw [HK.out] at hKv
      injection hKv with hK1 hK2
      subst hK1
      subst hK2
      have HBZ := Lib.hid (HB0.out.trans (HBw5.out.mono HB0.out.size))
      go_wp2
      go_ret
      exact ⟨rfl, HBZ.out⟩
  obtain ⟨b, off, rfl, hb, hcell⟩ := HT5.out.1 (by omega)
  obtain ⟨q, _, hq⟩ := hcell k t.nodes[k] (List.getElem?_eq_getElem hkn)
  have e0 := hq 0 _ rfl
  have e2 := hq 2 _ rfl
  rw [Nat.add_zero] at e0
  obtain ⟨x, hx⟩ : ∃ x, t.nodes[k] = x := ⟨_, rfl⟩
  have hget : t.nodes[k]? = some x := by rw [List.getElem?_eq_getElem hkn, hx]
  rw [hx] at e0 e2
  clear hcell hq hx
  by_cases hk0 : x.kind = 0
  rotate_left
  · have hq0 : (x.kind == 0) = false := by rw [beq_eq_false_iff_ne]; exact hk0
    have hBn : Bo = none := by rw [← HBo.out]; unfold bndI; rw [if_neg (by omega), Int.toNat_natCast, hget]; dsimp only; rw [if_neg hk0]
    subst hBn
    clear hget
    by_cases hkt : k < t.types.length
    · have hm : ¬ ((t.types.length : Int) ≤ (k : Int)) := by omega
      have hRf : refT t (t.aliases.length + 1) k [] = (K1, K2) := (thrI_ref hkt).symm.trans HK.out
      have cQ := rthrough_any t _ HWH.out.rng HF.out (t.aliases.length + 1) k [] hkt ⟨List.nodup_nil, by simp⟩ (by simp) none 0 w5 HTw5.out SlAt.nil
      rw [hRf] at cQ
      clear hRf
      dsimp only [List.length_nil] at cQ
      go_wp2_with fail
      refine cQ.mono ?_
      rintro e w8 ⟨rfl, hb8⟩
      have HB8 := Lib.hid (HB0.out.trans ((HBw5.out.trans (hb8.mono HBw5.out.size)).mono HB0.out.size))
      clear hb8 x0 x1 x2 cQ
      go_wp2
      go_ret
      exact ⟨by simp, HB8.out⟩
    · have hm : (t.types.length : Int) ≤ (k : Int) := by omega
      have hKv : thrI t (k : Int) = (0, 13) := by unfold thrI; rw [if_pos (.inr hm)]
      rw [HK.out] at hKv
      injection hKv with hK1 hK2
      subst hK1
      subst hK2
      have HBZ := Lib.hid (HB0.out.trans (HBw5.out.mono HB0.out.size))
      go_wp2
      go_ret
      exact ⟨rfl, HBZ.out⟩
  have hnm : x.name ≠ noName := by
    intro e
    have hb := (HWH.out.rng.nod k x hget).2.2
    unfold termB at hb
    rw [if_pos hk0, e] at hb
    simp [holdsB] at hb
    exact absurd hb.2.1 (by decide)
  have hag := binder_eq HWH.out hget hk0 hnm
  rw [HBo.out] at hag
  have HAG := Lib.hid hag
  obtain ⟨V, hV⟩ : ∃ V, refB t k x.name t.nodes.length (t.nodes.length - 1) = V := ⟨_, rfl⟩
  have cV := rbinder_any t ⟨some ⟨b, off, none⟩, c1, a2, c2, a3, c3⟩ k x.name HWH.out.rng HF.out (t.nodes.length - 1) (by omega) w5.drew
  rw [hV] at cV
  rw [hV] at HAG
  rw [hk0] at e0
  obtain ⟨nm, hnn⟩ : ∃ nm, x.name = nm := ⟨_, rfl⟩
  rw [hnn] at cV e2
  clear hag hV hnn hget hnm
  have hcast : ((t.nodes.length - 1 : Nat) : Int) = (t.nodes.length : Int) - 1 := by omega
  rw [hcast] at cV
  have HWR := Lib.hid (show IntKind.i64.wrap ((t.nodes.length : Int) - 1) = (t.nodes.length : Int) - 1 from by unfold IntKind.wrap; simp [IntKind.bits, IntKind.signed]; omega)
  have HCV := Lib.hid (cV ((HT5.out.keep (keep_below (Below.refl w5.heap.size w5).drew)).imp (lt_mono (Below.refl w5.heap.size w5).drew.size)))
  have hki : (k : Int) < (t.nodes.length : Int) := by omega
  clear cV hcast
  go_wp2_with fail
  have hwl : w.heap.size < w5.heap.size := Nat.lt_of_lt_of_le HX0.out.lt hzw
  have HSO := Lib.hid (show ∀ W, Below w5.heap.size w5 W → (W.cell? ⟨w.heap.size, 0, none⟩ = some (.slice (some ⟨b, off, none⟩) t.nodes.length c1) ∧ W.cell? ⟨w.heap.size, 1, none⟩ = some (.slice a2 t.types.length c2) ∧ W.cell? ⟨w.heap.size, 2, none⟩ = some (.slice a3 t.aliases.length c3) ∧ W.cell? ⟨b, off + k * 8 + 2, none⟩ = some (.string nm) ∧ Below w5.heap.size w5 W) from fun W hb5 => ⟨(hb5.cell (p := ⟨w.heap.size, 0, none⟩) hwl).trans x0, (hb5.cell (p := ⟨w.heap.size, 1, none⟩) hwl).trans x1, (hb5.cell (p := ⟨w.heap.size, 2, none⟩) hwl).trans x2, (hb5.cell (p := ⟨b, off + k * 8 + 2, none⟩) hb).trans e2, hb5⟩)
  clear x0 x1 x2 e2 e0
  refine wp_region_heldG (S := fun W => W.cell? ⟨w.heap.size, 0, none⟩ = some (.slice (some ⟨b, off, none⟩) t.nodes.length c1) ∧ W.cell? ⟨w.heap.size, 1, none⟩ = some (.slice a2 t.types.length c2) ∧ W.cell? ⟨w.heap.size, 2, none⟩ = some (.slice a3 t.aliases.length c3) ∧ W.cell? ⟨b, off + k * 8 + 2, none⟩ = some (.string nm) ∧ Below w5.heap.size w5 W) (fun _ => false) (by kernel_rfl) (HSO.out _ (Below.refl _ w5).drew) (fun hHeld => ?_)
  refine wpAnyG_take (i := 0) (v := ?v0) (by simp only [List.getElem?_toArray, List.getElem?_cons_zero]; rfl) (by kernel_rfl) (by kernel_rfl) (by kernel_rfl) (by kernel_rfl) (by kernel_rfl) (by kernel_rfl) (by exact fun _ _ _ h => h) (Or.inl ⟨by rfl, ?hy0⟩) (by assumption) ?rest0
  case hy0 => (intro w hSw; obtain ⟨g1, g2, g3, g4, g6⟩ := hSw; clear g6; go_simp; try with_reducible rfl)
  try simp only [Act.put, List.setIfInBounds_toArray, List.set_cons_zero, List.set_cons_succ]
  refine wpAnyG_take (i := 1) (v := ?v1) (by simp only [List.getElem?_toArray, List.getElem?_cons_zero, List.getElem?_cons_succ]; rfl) (by kernel_rfl) (by kernel_rfl) (by kernel_rfl) (by kernel_rfl) (by kernel_rfl) (by kernel_rfl) (by exact fun _ _ _ h => h) (Or.inl ⟨by rfl, ?hy1⟩) (by assumption) ?rest1
  case hy1 => (intro w hSw; obtain ⟨g1, g2, g3, g4, g6⟩ := hSw; clear g6; go_simp; try with_reducible rfl)
  try simp only [Act.put, List.setIfInBounds_toArray, List.set_cons_zero, List.set_cons_succ]
  refine wpAnyG_take (i := 2) (v := ?v2) (by simp only [List.getElem?_toArray, List.getElem?_cons_zero, List.getElem?_cons_succ]; rfl) (by kernel_rfl) (by kernel_rfl) (by kernel_rfl) (by kernel_rfl) (by kernel_rfl) (by kernel_rfl) (by exact fun _ _ _ h => h) (Or.inl ⟨by rfl, ?hy2⟩) (by assumption) ?rest2
  case hy2 => (intro w hSw; obtain ⟨g1, g2, g3, g4, g6⟩ := hSw; clear g6; go_simp; try with_reducible rfl)
  try simp only [Act.put, List.setIfInBounds_toArray, List.set_cons_zero, List.set_cons_succ]
  refine wpAnyG_take (i := 3) (v := ?v3) (by simp only [List.getElem?_toArray, List.getElem?_cons_zero, List.getElem?_cons_succ]; rfl) (by kernel_rfl) (by kernel_rfl) (by kernel_rfl) (by kernel_rfl) (by kernel_rfl) (by kernel_rfl) (by exact fun _ _ _ h => h) (Or.inl ⟨by rfl, ?hy3⟩) (by assumption) ?rest3
  case hy3 => (intro w hSw; obtain ⟨g1, g2, g3, g4, g6⟩ := hSw; clear g6; go_simp; try with_reducible rfl)
  try simp only [Act.put, List.setIfInBounds_toArray, List.set_cons_zero, List.set_cons_succ]
  refine wpAnyG_take (i := 4) (v := ?v4) (by simp only [List.getElem?_toArray, List.getElem?_cons_zero, List.getElem?_cons_succ]; rfl) (by kernel_rfl) (by kernel_rfl) (by kernel_rfl) (by kernel_rfl) (by kernel_rfl) (by kernel_rfl) (by exact fun _ _ _ h => h) (Or.inl ⟨by rfl, ?hy4⟩) (by assumption) ?rest4
  case hy4 => (intro w hSw; obtain ⟨g1, g2, g3, g4, g6⟩ := hSw; clear g6; go_simp; try with_reducible rfl)
  try simp only [Act.put, List.setIfInBounds_toArray, List.set_cons_zero, List.set_cons_succ]
  refine wpAnyG_take (i := 5) (v := ?v5) (by simp only [List.getElem?_toArray, List.getElem?_cons_zero, List.getElem?_cons_succ]; rfl) (by kernel_rfl) (by kernel_rfl) (by kernel_rfl) (by kernel_rfl) (by kernel_rfl) (by kernel_rfl) (by exact fun _ _ _ h => h) (Or.inl ⟨by rfl, ?hy5⟩) (by assumption) ?rest5
  case hy5 => (intro w hSw; obtain ⟨g1, g2, g3, g4, g6⟩ := hSw; clear g6; go_simp; try with_reducible rfl)
  try simp only [Act.put, List.setIfInBounds_toArray, List.set_cons_zero, List.set_cons_succ]
  refine wpAnyG_take (i := 6) (v := ?v6) (by simp only [List.getElem?_toArray, List.getElem?_cons_zero, List.getElem?_cons_succ]; rfl) (by kernel_rfl) (by kernel_rfl) (by kernel_rfl) (by kernel_rfl) (by kernel_rfl) (by kernel_rfl) (by exact fun _ _ _ h => h) (Or.inl ⟨by rfl, ?hy6⟩) (by assumption) ?rest6
  case hy6 => (intro w hSw; obtain ⟨g1, g2, g3, g4, g6⟩ := hSw; clear g6; go_simp; try with_reducible rfl)
  try simp only [Act.put, List.setIfInBounds_toArray, List.set_cons_zero, List.set_cons_succ]
  refine wpAnyG_take (i := 7) (v := ?v7) (by simp only [List.getElem?_toArray, List.getElem?_cons_zero, List.getElem?_cons_succ]; rfl) (by kernel_rfl) (by kernel_rfl) (by kernel_rfl) (by kernel_rfl) (by kernel_rfl) (by kernel_rfl) (by exact fun _ _ _ h => h) (Or.inl ⟨by rfl, ?hy7⟩) (by assumption) ?rest7
  case hy7 => (intro w hSw; obtain ⟨g1, g2, g3, g4, g6⟩ := hSw; clear g6; go_simp; try with_reducible rfl)
  try simp only [Act.put, List.setIfInBounds_toArray, List.set_cons_zero, List.set_cons_succ]
  refine wpAnyG_take (i := 8) (v := ?v8) (by simp only [List.getElem?_toArray, List.getElem?_cons_zero, List.getElem?_cons_succ]; rfl) (by kernel_rfl) (by kernel_rfl) (by kernel_rfl) (by kernel_rfl) (by kernel_rfl) (by kernel_rfl) (by exact fun _ _ _ h => h) (Or.inl ⟨by rfl, ?hy8⟩) (by assumption) ?rest8
  case hy8 => (intro w hSw; obtain ⟨g1, g2, g3, g4, g6⟩ := hSw; clear g6; go_simp; try with_reducible rfl)
  try simp only [Act.put, List.setIfInBounds_toArray, List.set_cons_zero, List.set_cons_succ]
  refine wpAnyG_take (i := 9) (v := ?v9) (by simp only [List.getElem?_toArray, List.getElem?_cons_zero, List.getElem?_cons_succ]; rfl) (by kernel_rfl) (by kernel_rfl) (by kernel_rfl) (by kernel_rfl) (by kernel_rfl) (by kernel_rfl) (by exact fun _ _ _ h => h) (Or.inl ⟨by rfl, ?hy9⟩) (by assumption) ?rest9
  case hy9 => (intro w hSw; obtain ⟨g1, g2, g3, g4, g6⟩ := hSw; clear g6; go_simp; try with_reducible rfl)
  try simp only [Act.put, List.setIfInBounds_toArray, List.set_cons_zero, List.set_cons_succ]
  refine wpAnyG_take (i := 10) (v := ?v10) (by simp only [List.getElem?_toArray, List.getElem?_cons_zero, List.getElem?_cons_succ]; rfl) (by kernel_rfl) (by kernel_rfl) (by kernel_rfl) (by kernel_rfl) (by kernel_rfl) (by kernel_rfl) (by exact fun _ _ _ h => h) (Or.inl ⟨by rfl, ?hy10⟩) (by assumption) ?rest10
  case hy10 => (intro w hSw; obtain ⟨g1, g2, g3, g4, g6⟩ := hSw; clear g6; go_simp; try with_reducible rfl)
  try simp only [Act.put, List.setIfInBounds_toArray, List.set_cons_zero, List.set_cons_succ]
  refine wpAnyG_take (i := 11) (v := ?v11) (by simp only [List.getElem?_toArray, List.getElem?_cons_zero, List.getElem?_cons_succ]; rfl) (by kernel_rfl) (by kernel_rfl) (by kernel_rfl) (by kernel_rfl) (by kernel_rfl) (by kernel_rfl) (by exact fun _ _ _ h => h) (Or.inl ⟨by rfl, ?hy11⟩) (by assumption) ?rest11
  case hy11 => (intro w hSw; obtain ⟨g1, g2, g3, g4, g6⟩ := hSw; clear g6; go_simp; try with_reducible rfl)
  try simp only [Act.put, List.setIfInBounds_toArray, List.set_cons_zero, List.set_cons_succ]
  refine wpAnyG_ready (rs := [12]) (by kernel_rfl) (by simp) ?_
  refine AllReadyG.held (by simp only [List.getElem?_toArray, List.getElem?_cons_zero, List.getElem?_cons_succ]; rfl) (fun K hK => ?_) AllReadyG.nil
  go_simp
  rw [HWR.out]
  refine HCV.out.mono ?_
  rintro e w6 ⟨rfl, hb6⟩
  have hb6' : Below w5.heap.size w5 w6 := (Below.refl w5.heap.size w5).drew.trans hb6
  dsimp only
  refine hK.out _ _ (HSO.out _ hb6') (fun hHeld => ?_)
  clear hK K hHeld
  try simp only [Act.put, List.setIfInBounds_toArray, List.set_cons_zero, List.set_cons_succ]
  have hHeld := HSO.out _ hb6'
  refine wpAnyG_take (i := 13) (v := ?v13) (by simp only [List.getElem?_toArray, List.getElem?_cons_zero, List.getElem?_cons_succ]; rfl) (by kernel_rfl) (by kernel_rfl) (by kernel_rfl) (by kernel_rfl) (by kernel_rfl) (by kernel_rfl) (by exact fun _ _ _ h => h) (Or.inl ⟨by rfl, ?hy13⟩) (by assumption) ?rest13
  case hy13 => (intro w hSw; obtain ⟨g1, g2, g3, g4, g6⟩ := hSw; clear g6; go_simp; try with_reducible rfl)
  try simp only [Act.put, List.setIfInBounds_toArray, List.set_cons_zero, List.set_cons_succ]
  refine wpAnyG_done (by kernel_rfl) ?_ _
  obtain ⟨x0, x1, x2, _, _⟩ := hHeld
  have HBw6 := Lib.hid (HB5.out.trans (hb6'.mono HB5.out.size))
  have HTw6 := Lib.hid ((HT5.out.keep (keep_below hb6')).imp (lt_mono hb6'.size))
  clear hb6 hb6' HSO HCV
  rcases HAG.out with ⟨hB1, hV1⟩ | ⟨j, hB1, hV1⟩
  · subst hB1
    subst hV1
    clear HAG HBo
    by_cases hkt : k < t.types.length
    · have hm : ¬ ((t.types.length : Int) ≤ (k : Int)) := by omega
      have hRf : refT t (t.aliases.length + 1) k [] = (K1, K2) := (thrI_ref hkt).symm.trans HK.out
      have cQ := rthrough_any t _ HWH.out.rng HF.out (t.aliases.length + 1) k [] hkt ⟨List.nodup_nil, by simp⟩ (by simp) none 0 w6 HTw6.out SlAt.nil
      rw [hRf] at cQ
      clear hRf
      dsimp only [List.length_nil] at cQ
      go_wp2_with fail
      refine cQ.mono ?_
      rintro e w8 ⟨rfl, hb8⟩
      have HB8 := Lib.hid (HB0.out.trans ((HBw6.out.trans (hb8.mono HBw6.out.size)).mono HB0.out.size))
      clear hb8 x0 x1 x2 cQ
      go_wp2
      go_ret
      exact ⟨by simp, HB8.out⟩
    · have hm : (t.types.length : Int) ≤ (k : Int) := by omega
      have hKv : thrI t (k : Int) = (0, 13) := by unfold thrI; rw [if_pos (.inr hm)]
      rw [HK.out] at hKv
      injection hKv with hK1 hK2
      subst hK1
      subst hK2
      have HBZ := Lib.hid (HB0.out.trans (HBw6.out.mono HB0.out.size))
      go_wp2
      go_ret
      exact ⟨rfl, HBZ.out⟩
  · subst hB1
    subst hV1
    clear HAG HBo
    have hj0 : (0 : Int) ≤ (j : Int) := by omega
    by_cases hkt : k < t.types.length
    · have hm : ¬ ((t.types.length : Int) ≤ (k : Int)) := by omega
      have hRf : refT t (t.aliases.length + 1) k [] = (K1, K2) := (thrI_ref hkt).symm.trans HK.out
      have cQ := rthrough_any t _ HWH.out.rng HF.out (t.aliases.length + 1) k [] hkt ⟨List.nodup_nil, by simp⟩ (by simp) none 0 w6 HTw6.out SlAt.nil
      rw [hRf] at cQ
      clear hRf
      dsimp only [List.length_nil] at cQ
      go_wp2_with fail
      refine cQ.mono ?_
      rintro e w8 ⟨rfl, hb8⟩
      have HB8 := Lib.hid (HB0.out.trans ((HBw6.out.trans (hb8.mono HBw6.out.size)).mono HB0.out.size))
      clear hb8 x0 x1 x2 cQ
      go_wp2
      go_ret
      exact ⟨by simp, HB8.out⟩
    · have hm : (t.types.length : Int) ≤ (k : Int) := by omega
      have hKv : thrI t (k : Int) = (0, 13) := by unfold thrI; rw [if_pos (.inr hm)]
      rw [HK.out] at hKv
      injection hKv with hK1 hK2
      subst hK1
      subst hK2
      have HBZ := Lib.hid (HB0.out.trans (HBw6.out.mono HB0.out.size))
      go_wp2
      go_ret
      exact ⟨rfl, HBZ.out⟩
end Go.Proofs.YtjbdgjbmbohfmaaGreatDoor

