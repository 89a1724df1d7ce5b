/- Through, and the law over it. The law ScopeThrough, at every tree. A tree that came in, opened: what the row's reading says of -/
import Derived.Test.YtjbdgjbmbohfmaaGreatDoorK38
import Derived.Test.YtjbdgjbmbohfmaaGreatDoorK51
import Derived.Deep.Slices
import Derived.OpenShut
namespace Go.Proofs.YtjbdgjbmbohfmaaGreatDoor
open Go Go.Proofs Go.RowKit
/-- What Through answers, at a tree that may be. -/
def thrI (t : TreeD) (i : Int) : Nat × Nat := if i < 0 ∨ (t.types.length : Int) ≤ i then (0, 13) else thruF t (t.aliases.length + 1) i.toNat
theorem thrI_of {t : TreeD} {i : Nat} (h : i < t.types.length) : thrI t (i : Int) = thruF t (t.aliases.length + 1) i := by
  unfold thrI
  rw [if_neg (by omega)]
  rfl

set_option maxRecDepth 100000 in
set_option maxHeartbeats 4000000 in
theorem thr_any (t : TreeD) (p : Ptr6) (i : Int) (w : World) (hE : Env4 w) (hT : TreeAt (Lt w.heap.size) w t p) (hF : TreeFew t) (hc : checkF t = true) :
    Calls Tryz.prog 33 #[treeV t p, .int .i64 i] w fun e w' => e = .returned (.tuple #[.int .i64 ((thrI t i).1 : Nat), .int .i64 ((thrI t i).2 : Nat)]) ∧ Below w.heap.size w w' := by
  obtain ⟨W0, hW0⟩ : ∃ W0, w.alloc (.cells #[.slice p.a1 t.nodes.length p.c1, .slice p.a2 t.types.length p.c2, .slice p.a3 t.aliases.length p.c3] 28) = W0 := ⟨_, rfl⟩
  obtain ⟨hb0, hX0, hT0⟩ := box_tree t p w W0 hT hW0
  have cC := check_any t p W0 (hE.on hb0) hT0 hF
  rw [hc, if_pos rfl] at cC
  have x0 := hX0.cell 0
  have x1 := hX0.cell 1
  have x2 := hX0.cell 2
  simp only [List.getElem?_toArray, List.getElem?_cons_zero, List.getElem?_cons_succ] at x0 x1 x2
  have hXl := hX0.lt
  have HB0 := Lib.hid hb0
  have HT0 := Lib.hid hT0
  have HR := Lib.hid (Rng.of hc)
  have HF := Lib.hid hF
  have h0 := hE.2
  clear hb0 hT0 hT hc hE hF
  go_enter Tryz.func33, Tryz.ntmps33
  go_wp2_with fail
  refine cC.mono ?_
  rintro e w1 ⟨rfl, hb1⟩
  have x0' := (hb1.cell (p := ⟨w.heap.size, 0, none⟩) hXl).trans x0
  have x1' := (hb1.cell (p := ⟨w.heap.size, 1, none⟩) hXl).trans x1
  have x2' := (hb1.cell (p := ⟨w.heap.size, 2, none⟩) hXl).trans x2
  have HB1 := Lib.hid (HB0.out.trans (hb1.mono HB0.out.size))
  have HT1 := Lib.hid ((HT0.out.keep (keep_below hb1)).imp (lt_mono hb1.size))
  have hz1 : W0.heap.size ≤ w1.heap.size := hb1.size
  clear hb1 x0 x1 x2 cC hX0 hW0
  by_cases hi : i < 0 ∨ (t.types.length : Int) ≤ i
  · have ht : thrI t i = (0, 13) := by unfold thrI; rw [if_pos hi]
    rcases hi with hi | hi
    · go_wp2
      all_goals first
        | (refine bodyPost_ret (v := .tuple #[.int .i64 0, .int .i64 13]) (by simp [results, Tryz.results33, go_sem]) rfl ?_; exact ⟨by rw [ht]; rfl, HB1.out⟩)
        | (exfalso; omega)
    · by_cases hn : i < 0
      · exfalso; omega
      · go_wp2
        all_goals first
          | (refine bodyPost_ret (v := .tuple #[.int .i64 0, .int .i64 13]) (by simp [results, Tryz.results33, go_sem]) rfl ?_; exact ⟨by rw [ht]; rfl, HB1.out⟩)
          | (exfalso; omega)
  · obtain ⟨k, rfl⟩ : ∃ k : Nat, i = (k : Int) := ⟨i.toNat, by omega⟩
    have hk : k < t.types.length := by omega
    have hn : ¬ ((k : Int) < 0) := by omega
    have hm : ¬ ((t.types.length : Int) ≤ (k : Int)) := by omega
    have cT := through_any t p w1 (by omega) HT1.out (nmOk_of HR.out) (sm_of HF.out HR.out) k hk
    obtain ⟨R, hR⟩ : ∃ R, thruF t (t.aliases.length + 1) k = R := ⟨_, rfl⟩
    have hQ := thrI_of hk
    rw [hR] at cT hQ
    have HQ := Lib.hid hQ
    clear hQ hR
    clear hi
    go_wp2_with fail
    refine cT.mono ?_
    rintro e w2 ⟨rfl, hb2⟩
    have HB2 := Lib.hid (HB1.out.trans (hb2.mono HB1.out.size))
    clear hb2 x0' x1' x2'
    go_wp2_with fail
    refine bodyPost_ret (v := .tuple #[.int .i64 (R.1 : Nat), .int .i64 (R.2 : Nat)]) (by simp [results, Tryz.results33, go_sem]) rfl ?_
    exact ⟨by rw [HQ.out], HB2.out⟩
theorem thrI_bad {t : TreeD} {i : Int} (h : (thrI t i).2 ≠ 0) : (thrI t i).1 = 0 := by
  unfold thrI at h ⊢
  split
  · rfl
  · rename_i hn
    rw [if_neg hn] at h
    exact thru_bad rfl h
theorem thrI_ok {t : TreeD} {i : Int} (h : (thrI t i).2 = 0) : ∃ n, t.types[(thrI t i).1]? = some n ∧ n.kind ≠ 10 ∧ thrI t ((thrI t i).1 : Nat) = ((thrI t i).1, 0) := by
  unfold thrI at h
  split at h
  · cases h
  · rename_i hn
    have he : thrI t i = thruF t (t.aliases.length + 1) i.toNat := by unfold thrI; rw [if_neg hn]
    obtain ⟨⟨n, hn1, hn2⟩, hg⟩ := thru_ok (t := t) (f := t.aliases.length + 1) (i := i.toNat) (k := (thrI t i).1) (by rw [he]; rw [← h])
    refine ⟨n, hn1, hn2, ?_⟩
    rw [thrI_of (by have := (List.getElem?_eq_some_iff.1 hn1).1; exact this)]
    exact hg _

theorem law_box (t : TreeD) (p : Ptr6) (w W0 w1 : World) (hX0 : Blk W0 w.heap.size 28 #[.slice p.a1 t.nodes.length p.c1, .slice p.a2 t.types.length p.c2, .slice p.a3 t.aliases.length p.c3]) (hb : Below W0.heap.size W0 w1) :
    w1.cell? ⟨w.heap.size, 0, none⟩ = some (.slice p.a1 t.nodes.length p.c1) ∧ w1.cell? ⟨w.heap.size, 1, none⟩ = some (.slice p.a2 t.types.length p.c2) ∧ w1.cell? ⟨w.heap.size, 2, none⟩ = some (.slice p.a3 t.aliases.length p.c3) := by
  have hX1 := hX0.below hb hX0.lt
  have x0 := hX1.cell 0
  have x1 := hX1.cell 1
  have x2 := hX1.cell 2
  simp only [List.getElem?_toArray, List.getElem?_cons_zero, List.getElem?_cons_succ] at x0 x1 x2
  exact ⟨x0, x1, x2⟩

set_option maxRecDepth 100000 in
set_option maxHeartbeats 4000000 in
theorem law10_any (t : TreeD) (p : Ptr6) (i : Int) (w : World) (hE : Env w) (hT : TreeAt (Lt w.heap.size) w t p) (b1 : t.nodes.length ≤ 9223372036854775807) (b2 : t.types.length ≤ 9223372036854775807) (b3 : t.aliases.length ≤ 9223372036854775807) (hI : ∀ x ∈ t.nodes, x.int ≤ 9223372036854775807) :
    Calls Tryz.prog 10 #[treeV t p, .int .i64 i] w fun e w' => e = .returned (.bool true) ∧ Below w.heap.size w w' := by
  obtain ⟨W0, hW0⟩ : ∃ W0, w.alloc (.cells #[.slice p.a1 t.nodes.length p.c1, .slice p.a2 t.types.length p.c2, .slice p.a3 t.aliases.length p.c3] 28) = W0 := ⟨_, rfl⟩
  obtain ⟨hb0, hX0, hT0⟩ := box_tree t p w W0 hT hW0
  have cL := lives_any W0 (hE.on hb0)
  have HE0 := Lib.hid (hE.on hb0)
  have HX0 := Lib.hid hX0
  have HB0 := Lib.hid hb0
  have HT0 := Lib.hid hT0
  have HI := Lib.hid hI
  clear hb0 hT0 hT hE hI hX0
  go_enter Tryz.func10, Tryz.ntmps10
  go_wp2_with fail
  refine cL.mono ?_
  rintro e w1 ⟨rfl, hb1⟩
  clear hW0 cL
  obtain ⟨x0, x1, x2⟩ := law_box t p w W0 w1 HX0.out hb1
  have HB1 := Lib.hid hb1
  have HT1 := Lib.hid ((HT0.out.keep (keep_below hb1)).imp (lt_mono hb1.size))
  have cF := few_any t p w1 HT1.out b1 b2 b3
  clear hb1
  cases hf : fewB t with
  | false =>
    rw [hf] at cF
    clear hf
    go_wp2_with fail
    refine cF.mono ?_
    rintro e w2 ⟨rfl, hb2⟩
    have HB2 := Lib.hid (HB1.out.trans (hb2.mono HB1.out.size))
    have cL2 := lives_any w2 (HE0.out.on HB2.out)
    clear hb2 x0 x1 x2
    go_wp2_with fail
    refine cL2.mono ?_
    rintro e w3 ⟨rfl, hb3⟩
    have HB3 := Lib.hid (HB0.out.trans ((HB2.out.trans (hb3.mono HB2.out.size)).mono HB0.out.size))
    clear hb3 cL2
    go_wp2_with fail
    go_ret
    exact ⟨rfl, HB3.out⟩
  | true =>
  rw [hf] at cF
  have HF := Lib.hid (few_of hf)
  clear hf
  go_wp2_with fail
  refine cF.mono ?_
  rintro e w2 ⟨rfl, hb2⟩
  have HB2 := Lib.hid (HB1.out.trans (hb2.mono HB1.out.size))
  have HT2 := Lib.hid ((HT1.out.keep (keep_below hb2)).imp (lt_mono hb2.size))
  clear hb2 x0 x1 x2 cF
  obtain ⟨x0, x1, x2⟩ := law_box t p w W0 w2 HX0.out HB2.out
  have cR := right_any t p w2 HT2.out HF.out HI.out
  cases hc : checkF t with
  | false =>
    rw [hc] at cR
    clear hc
    go_wp2_with fail
    refine cR.mono ?_
    rintro e w3 ⟨rfl, hb3⟩
    have HB3 := Lib.hid (HB2.out.trans (hb3.mono HB2.out.size))
    have cL2 := lives_any w3 (HE0.out.on HB3.out)
    clear hb3 x0 x1 x2 cR
    go_wp2_with fail
    refine cL2.mono ?_
    rintro e w4 ⟨rfl, hb4⟩
    have HB4 := Lib.hid (HB0.out.trans ((HB3.out.trans (hb4.mono HB3.out.size)).mono HB0.out.size))
    clear hb4 cL2
    go_wp2_with fail
    go_ret
    exact ⟨rfl, HB4.out⟩
  | true =>
  rw [hc] at cR
  have HC := Lib.hid hc
  clear hc
  go_wp2_with fail
  refine cR.mono ?_
  rintro e w3 ⟨rfl, hb3⟩
  have HB3 := Lib.hid (HB2.out.trans (hb3.mono HB2.out.size))
  have HT3 := Lib.hid ((HT2.out.keep (keep_below hb3)).imp (lt_mono hb3.size))
  clear hb3 x0 x1 x2 cR
  obtain ⟨x0, x1, x2⟩ := law_box t p w W0 w3 HX0.out HB3.out
  have cT := thr_any t p i w3 (env4_of (HE0.out.on HB3.out)) HT3.out HF.out HC.out
  obtain ⟨K, hK⟩ : ∃ K, thrI t i = K := ⟨_, rfl⟩
  rw [hK] at cT
  have HK := Lib.hid hK
  clear hK
  go_wp2_with fail
  refine cT.mono ?_
  rintro e w4 ⟨rfl, hb4⟩
  have HB4 := Lib.hid (HB3.out.trans (hb4.mono HB3.out.size))
  have HT4 := Lib.hid ((HT3.out.keep (keep_below hb4)).imp (lt_mono hb4.size))
  clear hb4 x0 x1 x2 cT
  obtain ⟨x0, x1, x2⟩ := law_box t p w W0 w4 HX0.out HB4.out
  obtain ⟨k, e⟩ := K
  by_cases he : e = 0
  · subst he
    obtain ⟨n, hn, hn10, hk2⟩ := thrI_ok (t := t) (i := i) (by rw [HK.out])
    rw [HK.out] at hn hk2
    dsimp only at hn hk2
    have cU := thr_any t p (k : Int) w4 (env4_of (HE0.out.on HB4.out)) HT4.out HF.out HC.out
    rw [hk2] at cU
    clear hk2
    go_wp2_with fail
    refine cU.mono ?_
    rintro e w5 ⟨rfl, hb5⟩
    have HB5 := Lib.hid (HB4.out.trans (hb5.mono HB4.out.size))
    have HT5 := (HT4.out.keep (keep_below hb5)).imp (lt_mono hb5.size)
    clear hb5 x0 x1 x2 cU
    obtain ⟨x0, x1, x2⟩ := law_box t p w W0 w5 HX0.out HB5.out
    have hkl := (List.getElem?_eq_some_iff.1 hn).1
    obtain ⟨b, off, hpa, hb, hcell⟩ := HT5.2.1 (by omega)
    obtain ⟨q, _, hq⟩ := hcell k n hn
    have e0 := hq 0 _ rfl
    rw [Nat.add_zero] at e0
    rw [hpa] at x1
    have HBW := Lib.hid (HB0.out.trans (HB5.out.mono HB0.out.size))
    have hkb : (n.kind == 10) = false := by rw [beq_eq_false_iff_ne]; exact hn10
    clear HT5 hcell hq hn
    go_wp2_with fail
    all_goals first
      | (go_ret; exact ⟨by simp [hn10], HBW.out⟩)
      | skip
  · have hk : k = 0 := by have := thrI_bad (t := t) (i := i) (by rw [HK.out]; exact he); rwa [HK.out] at this
    subst hk
    have he' : ((e : Int) == 0) = false := by rw [beq_eq_false_iff_ne]; omega
    have HBW := Lib.hid (HB0.out.trans (HB4.out.mono HB0.out.size))
    go_wp2
    all_goals first
      | (go_ret; exact ⟨rfl, HBW.out⟩)
      | skip
end Go.Proofs.YtjbdgjbmbohfmaaGreatDoor
namespace Go.Proofs.YtjbdgjbmbohfmaaGreatDoor
open Go Go.Proofs Go.RowKit Go.Deep
theorem cells3 : Tryz.prog.cellsOf 3 = 1 := by kernel_rfl
theorem cells2 : Tryz.prog.cellsOf 2 = 1 := by kernel_rfl
theorem cells4 : Tryz.prog.cellsOf 4 = 1 := by kernel_rfl
theorem cells9 : Tryz.prog.cellsOf 9 = 1 := by kernel_rfl
theorem cells30 : Tryz.prog.cellsOf 58 = 1 := by kernel_rfl
theorem cells31 : Tryz.prog.cellsOf 48 = 1 := by kernel_rfl
theorem cells29 : Tryz.prog.cellsOf 49 = 1 := by kernel_rfl
theorem cells22 : Tryz.prog.cellsOf 24 = 1 := by kernel_rfl
theorem cells23 : Tryz.prog.cellsOf 25 = 1 := by kernel_rfl
theorem cells24 : Tryz.prog.cellsOf 26 = 1 := by kernel_rfl
theorem cells33 : Tryz.prog.cellsOf 60 = 8 := by kernel_rfl
theorem cells47 : Tryz.prog.cellsOf 51 = 6 := by kernel_rfl
theorem cells52 : Tryz.prog.cellsOf 77 = 3 := by kernel_rfl
theorem cells26 : Tryz.prog.cellsOf 28 = 3 := by kernel_rfl

theorem len_cons {α : Type} {l : List α} {n : Nat} (h : l.length = n + 1) : ∃ a l', l = a :: l' ∧ l'.length = n := by
  cases l with
  | nil => simp at h
  | cons a l => exact ⟨a, l, rfl, by simpa using h⟩

section
variable {H : Type} {enc : TypeId × Value → H} {W : World} {base : Nat} {spare : Nat → Bool} {held : Bool}

theorem spot_of_cell {w : World} {a : Addr} {v : Value} (h : w.cell? a = some v) : a = ⟨a.block, a.off, none⟩ := by
  obtain ⟨b, o, s⟩ := a
  cases s with
  | none => rfl
  | some s =>
    exfalso
    unfold World.cell? at h
    split at h
    · simp at h
    · cases h

/-- A slice of elements of one cell, each of one kind. -/
theorem open_row1 {α : Type} {t e : TypeId} (f : α → Value) (ht : Tryz.prog.underlying t = some (.slice e)) (hc : Tryz.prog.cellsOf e = 1) (hf : ∀ n v x, DataW.trod enc Tryz.prog W base spare held n e [v] = some x → ∃ a, v = f a)
    {fuel : Nat} {c : Value} {x : DataW H × List MemPlace} (h : DataW.trod enc Tryz.prog W base spare held fuel t [c] = some x) :
    ∃ A cap, ∃ l : List α, c = .slice A l.length cap ∧ l.length ≤ maxLen ∧ SlAt (Lt W.heap.size) W A l.length (l.map f) := by
  rcases open_slice1 ht hc h with ⟨h0, _⟩ | ⟨a, len, cap, m, n, V, D, Pl, h0, hb, hl, hm, hmm, _, hx⟩
  · injection h0 with h0 _
    subst h0
    exact ⟨none, 0, [], rfl, by simp, SlAt.nil⟩
  · injection h0 with h0 _
    subst h0
    have hle : len ≤ m := by rw [hmm]; split <;> omega
    have key : ∀ k, k ≤ len → ∃ l : List α, l.length = k ∧ ∀ j u, (l.map f)[j]? = some u → W.cell? (a.add j) = some u := by
      intro k
      induction k with
      | zero => exact fun _ => ⟨[], rfl, fun j u hu => by simp at hu⟩
      | succ k ih =>
        intro hk
        obtain ⟨l, hll, hlc⟩ := ih (by omega)
        obtain ⟨h1, h2⟩ := hx k (by omega)
        obtain ⟨y, hy⟩ := hf _ _ _ h2
        refine ⟨l ++ [y], by simp [hll], fun j u hu => ?_⟩
        rw [List.map_append] at hu
        by_cases hj : j < l.length
        · rw [List.getElem?_append_left (by simpa using hj)] at hu
          exact hlc j u hu
        · rw [List.getElem?_append_right (by simp; omega)] at hu
          simp only [List.length_map, List.map_cons, List.map_nil] at hu
          have hj0 : j = k := by
            have := (List.getElem?_eq_some_iff.1 hu).1
            simp at this
            omega
          subst hj0
          rw [hll, Nat.sub_self] at hu
          simp only [List.getElem?_cons_zero, Option.some.injEq] at hu
          rw [h1, hy, hu]
    obtain ⟨l, hll, hlc⟩ := key len (Nat.le_refl _)
    subst hll
    refine ⟨some a, cap, l, rfl, by omega, by simp, fun hn => ?_⟩
    have h0 := hlc 0 (f l[0]) (by simp [hn])
    have hsp := spot_of_cell (hx 0 (by omega)).1
    have e0 : a.add 0 = a := rfl
    rw [e0] at h0 hsp
    obtain ⟨b, off, s⟩ := a
    simp only [Addr.mk.injEq, true_and] at hsp
    subst hsp
    refine ⟨b, off, rfl, block_lt_of_cell h0, fun j u hu => ?_⟩
    have := hlc j u hu
    unfold Addr.add at this
    split at this
    · rename_i hj; subst hj; exact this
    · exact this

theorem open_ints29 {fuel : Nat} {c : Value} {x : DataW H × List MemPlace} (h : DataW.trod enc Tryz.prog W base spare held fuel 49 [c] = some x) :
    ∃ A cap, ∃ l : List Int, c = .slice A l.length cap ∧ l.length ≤ maxLen ∧ SlAt (Lt W.heap.size) W A l.length (l.map iv) :=
  open_row1 iv Tryz.underlying49 cells3 (fun n v x hx => by
    obtain ⟨k, hk, _⟩ := DataW.trod_int Tryz.underlying3 hx
    injection hk with hk _
    exact ⟨k, hk⟩) h
theorem open_strs31 {fuel : Nat} {c : Value} {x : DataW H × List MemPlace} (h : DataW.trod enc Tryz.prog W base spare held fuel 48 [c] = some x) :
    ∃ A cap, ∃ l : List ByteArray, c = .slice A l.length cap ∧ l.length ≤ maxLen ∧ SlAt (Lt W.heap.size) W A l.length (l.map .string) :=
  open_row1 .string Tryz.underlying48 cells9 (fun n v x hx => by
    obtain ⟨k, hk, _⟩ := DataW.trod_string Tryz.underlying9 hx
    injection hk with hk _
    exact ⟨k, hk⟩) h

theorem fld {fs : Array Field} {xs : List (DataW H × List MemPlace)} {n : Nat} {cs : List Value} (hf : ∀ (i : Nat) (f : Field), fs[i]? = some f → DataW.trod enc Tryz.prog W base spare held n f.type ((cs.drop f.offset).take (Tryz.prog.cellsOf f.type)) = xs[i]?)
    (i T o : Nat) {f : Field} (h1 : fs[i]? = some f) (h2 : f.type = T) (h3 : f.offset = o) (hc : Tryz.prog.cellsOf T = 1) {y : DataW H × List MemPlace} (hy : xs[i]? = some y) : DataW.trod enc Tryz.prog W base spare held n T ((cs.drop o).take 1) = some y := by
  have := hf i f h1
  rw [h2, h3, hc] at this
  exact this.trans hy

theorem open_term {fuel : Nat} {cs : List Value} {x : DataW H × List MemPlace} (h : DataW.trod enc Tryz.prog W base spare held fuel 60 cs = some x) : ∃ t p, TermOk (Lt W.heap.size) W t p ∧ t.int ≤ 9223372036854775807 ∧ cs = termCells t p := by
  obtain ⟨xs, n, _, _, hl, hxl, hf⟩ := DataW.trod_struct Tryz.underlying60 h
  rw [cells33] at hl
  obtain ⟨v0, cs0, rfl, hh0⟩ := len_cons hl
  obtain ⟨v1, cs1, rfl, hh1⟩ := len_cons hh0
  obtain ⟨v2, cs2, rfl, hh2⟩ := len_cons hh1
  obtain ⟨v3, cs3, rfl, hh3⟩ := len_cons hh2
  obtain ⟨v4, cs4, rfl, hh4⟩ := len_cons hh3
  obtain ⟨v5, cs5, rfl, hh5⟩ := len_cons hh4
  obtain ⟨v6, cs6, rfl, hh6⟩ := len_cons hh5
  obtain ⟨v7, cs7, rfl, hh7⟩ := len_cons hh6
  obtain rfl : cs7 = [] := List.length_eq_zero_iff.1 hh7
  have get : ∀ i, i < 8 → ∃ y, xs[i]? = some y := fun i hi => ⟨xs[i]'(by rw [hxl]; exact hi), List.getElem?_eq_getElem _⟩
  obtain ⟨y0, h0⟩ := get 0 (by omega)
  obtain ⟨y1, h1⟩ := get 1 (by omega)
  obtain ⟨y2, h2⟩ := get 2 (by omega)
  obtain ⟨y3, h3⟩ := get 3 (by omega)
  obtain ⟨y4, h4⟩ := get 4 (by omega)
  obtain ⟨y5, h5⟩ := get 5 (by omega)
  obtain ⟨y6, h6⟩ := get 6 (by omega)
  obtain ⟨y7, h7⟩ := get 7 (by omega)
  have g0 := fld hf 0 3 0 rfl rfl rfl cells3 h0
  have g1 := fld hf 1 3 1 rfl rfl rfl cells3 h1
  have g2 := fld hf 2 9 2 rfl rfl rfl cells9 h2
  have g3 := fld hf 3 2 3 rfl rfl rfl cells2 h3
  have g4 := fld hf 4 58 4 rfl rfl rfl cells30 h4
  have g5 := fld hf 5 48 5 rfl rfl rfl cells31 h5
  have g6 := fld hf 6 49 6 rfl rfl rfl cells29 h6
  have g7 := fld hf 7 49 7 rfl rfl rfl cells29 h7
  simp only [List.drop_zero, List.drop_succ_cons, List.take_succ_cons, List.take_zero] at g0 g1 g2 g3 g4 g5 g6 g7
  obtain ⟨k0, e0, _⟩ := DataW.trod_int Tryz.underlying3 g0
  obtain ⟨k1, e1, _⟩ := DataW.trod_int Tryz.underlying3 g1
  obtain ⟨k2, e2, _⟩ := DataW.trod_string Tryz.underlying9 g2
  obtain ⟨k3, e3, _, w3⟩ := DataW.trod_int Tryz.underlying2 g3
  obtain ⟨k4, e4, _, w4⟩ := DataW.trod_int Tryz.underlying58 g4
  obtain ⟨a5, c5, l5, e5, _, s5⟩ := open_strs31 g5
  obtain ⟨a6, c6, l6, e6, _, s6⟩ := open_ints29 g6
  obtain ⟨a7, c7, l7, e7, _, s7⟩ := open_ints29 g7
  have hk3 : k3 ≤ 9223372036854775807 := by
    have h := (Bool.and_eq_true _ _ ▸ w3 : _ ∧ _).2
    have h' := of_decide_eq_true h
    simpa [IntKind.max, IntKind.bits, IntKind.signed] using h'
  have hk4 : 0 ≤ k4 := by
    have h := (Bool.and_eq_true _ _ ▸ w4 : _ ∧ _).1
    have h' := of_decide_eq_true h
    simpa [IntKind.min, IntKind.signed] using h'
  obtain ⟨b4, rfl⟩ : ∃ b4 : Nat, k4 = (b4 : Int) := ⟨k4.toNat, by omega⟩
  refine ⟨⟨k0, k1, k2, k3, b4, l5, l6, l7⟩, ⟨a5, c5, a6, c6, a7, c7⟩, ⟨s5, s6, s7⟩, hk3, ?_⟩
  unfold termCells
  simp only [List.cons.injEq, and_true] at e0 e1 e2 e3 e4 ⊢
  exact ⟨e0, e1, e2, e3, e4, e5, e6, e7⟩

theorem open_typ {fuel : Nat} {cs : List Value} {x : DataW H × List MemPlace} (h : DataW.trod enc Tryz.prog W base spare held fuel 51 cs = some x) : ∃ t p, TypOk (Lt W.heap.size) W t p ∧ cs = typCells t p := by
  obtain ⟨xs, n, _, _, hl, hxl, hf⟩ := DataW.trod_struct Tryz.underlying51 h
  rw [cells47] at hl
  obtain ⟨v0, cs0, rfl, hh0⟩ := len_cons hl
  obtain ⟨v1, cs1, rfl, hh1⟩ := len_cons hh0
  obtain ⟨v2, cs2, rfl, hh2⟩ := len_cons hh1
  obtain ⟨v3, cs3, rfl, hh3⟩ := len_cons hh2
  obtain ⟨v4, cs4, rfl, hh4⟩ := len_cons hh3
  obtain ⟨v5, cs5, rfl, hh5⟩ := len_cons hh4
  obtain rfl : cs5 = [] := List.length_eq_zero_iff.1 hh5
  have get : ∀ i, i < 6 → ∃ y, xs[i]? = some y := fun i hi => ⟨xs[i]'(by rw [hxl]; exact hi), List.getElem?_eq_getElem _⟩
  obtain ⟨y0, h0⟩ := get 0 (by omega)
  obtain ⟨y1, h1⟩ := get 1 (by omega)
  obtain ⟨y2, h2⟩ := get 2 (by omega)
  obtain ⟨y3, h3⟩ := get 3 (by omega)
  obtain ⟨y4, h4⟩ := get 4 (by omega)
  obtain ⟨y5, h5⟩ := get 5 (by omega)
  have g0 := fld hf 0 3 0 rfl rfl rfl cells3 h0
  have g1 := fld hf 1 3 1 rfl rfl rfl cells3 h1
  have g2 := fld hf 2 9 2 rfl rfl rfl cells9 h2
  have g3 := fld hf 3 48 3 rfl rfl rfl cells31 h3
  have g4 := fld hf 4 49 4 rfl rfl rfl cells29 h4
  have g5 := fld hf 5 4 5 rfl rfl rfl cells4 h5
  simp only [List.drop_zero, List.drop_succ_cons, List.take_succ_cons, List.take_zero] at g0 g1 g2 g3 g4 g5
  obtain ⟨k0, e0, _⟩ := DataW.trod_int Tryz.underlying3 g0
  obtain ⟨k1, e1, _⟩ := DataW.trod_int Tryz.underlying3 g1
  obtain ⟨k2, e2, _⟩ := DataW.trod_string Tryz.underlying9 g2
  obtain ⟨a3, c3, l3, e3, _, s3⟩ := open_strs31 g3
  obtain ⟨a4, c4, l4, e4, _, s4⟩ := open_ints29 g4
  obtain ⟨k5, e5, _⟩ := DataW.trod_bool Tryz.underlying4 g5
  refine ⟨⟨k0, k1, k2, l3, l4, k5⟩, ⟨a3, c3, a4, c4⟩, ⟨s3, s4⟩, ?_⟩
  unfold typCells
  simp only [List.cons.injEq, and_true] at e0 e1 e2 e5 ⊢
  exact ⟨e0, e1, e2, e3, e4, e5⟩

theorem open_ali {fuel : Nat} {cs : List Value} {x : DataW H × List MemPlace} (h : DataW.trod enc Tryz.prog W base spare held fuel 77 cs = some x) : ∃ t, cs = aliCells t := by
  obtain ⟨xs, n, _, _, hl, hxl, hf⟩ := DataW.trod_struct Tryz.underlying77 h
  rw [cells52] at hl
  obtain ⟨v0, cs0, rfl, hh0⟩ := len_cons hl
  obtain ⟨v1, cs1, rfl, hh1⟩ := len_cons hh0
  obtain ⟨v2, cs2, rfl, hh2⟩ := len_cons hh1
  obtain rfl : cs2 = [] := List.length_eq_zero_iff.1 hh2
  have get : ∀ i, i < 3 → ∃ y, xs[i]? = some y := fun i hi => ⟨xs[i]'(by rw [hxl]; exact hi), List.getElem?_eq_getElem _⟩
  obtain ⟨y0, h0⟩ := get 0 (by omega)
  obtain ⟨y1, h1⟩ := get 1 (by omega)
  obtain ⟨y2, h2⟩ := get 2 (by omega)
  have g0 := fld hf 0 9 0 rfl rfl rfl cells9 h0
  have g1 := fld hf 1 3 1 rfl rfl rfl cells3 h1
  have g2 := fld hf 2 3 2 rfl rfl rfl cells3 h2
  simp only [List.drop_zero, List.drop_succ_cons, List.take_succ_cons, List.take_zero] at g0 g1 g2
  obtain ⟨k0, e0, _⟩ := DataW.trod_string Tryz.underlying9 g0
  obtain ⟨k1, e1, _⟩ := DataW.trod_int Tryz.underlying3 g1
  obtain ⟨k2, e2, _⟩ := DataW.trod_int Tryz.underlying3 g2
  refine ⟨⟨k0, k1, k2⟩, ?_⟩
  unfold aliCells
  simp only [List.cons.injEq, and_true] at e0 e1 e2 ⊢
  exact ⟨e0, e1, e2⟩

/-- A slice of structs, each of one kind. -/
theorem open_rows {α : Type} {t e : TypeId} (s : Nat) (hs : 0 < s) (Q : α → List Value → Prop) (hlen : ∀ a cs, Q a cs → cs.length = s) (ht : Tryz.prog.underlying t = some (.slice e)) (hc : Tryz.prog.cellsOf e = s)
    (hf : ∀ n cs x, DataW.trod enc Tryz.prog W base spare held n e cs = some x → ∃ a, Q a cs)
    {fuel : Nat} {c : Value} {x : DataW H × List MemPlace} (h : DataW.trod enc Tryz.prog W base spare held fuel t [c] = some x) :
    ∃ A cap, ∃ l : List α, c = .slice A l.length cap ∧ l.length ≤ maxLen ∧ (0 < l.length → ∃ b off, A = some ⟨b, off, none⟩ ∧ b < W.heap.size ∧ ∀ i a, l[i]? = some a → ∃ cs, Q a cs ∧ ∀ j u, cs[j]? = some u → W.cell? ⟨b, off + i * s + j, none⟩ = some u) := by
  rcases open_slice ht h with ⟨h0, _⟩ | ⟨a, len, cap, m, n, D, Pl, h0, hb, hl, hm, hmm, _, hx⟩
  · injection h0 with h0 _
    subst h0
    exact ⟨none, 0, [], rfl, by simp, fun h => absurd h (by simp)⟩
  · injection h0 with h0 _
    subst h0
    rw [hc] at hx
    have hle : len ≤ m := by rw [hmm]; split <;> omega
    have one : ∀ k, k < len → ∃ y cs, Q y cs ∧ ∀ j u, cs[j]? = some u → W.cell? ((a.add (k * s)).add j) = some u := fun k hk => by
      obtain ⟨cs, h1, h2⟩ := hx k (by omega)
      obtain ⟨y, hy⟩ := hf _ _ _ h2
      obtain ⟨_, hcl, hcc⟩ := World.cells?_some h1
      refine ⟨y, cs, hy, fun j u hu => ?_⟩
      have hj := (List.getElem?_eq_some_iff.1 hu).1
      rw [hcc j (by omega), hu]
    have key : ∀ k, k ≤ len → ∃ l : List α, l.length = k ∧ ∀ i y, l[i]? = some y → ∃ cs, Q y cs ∧ ∀ j u, cs[j]? = some u → W.cell? ((a.add (i * s)).add j) = some u := by
      intro k
      induction k with
      | zero => exact fun _ => ⟨[], rfl, fun j u hu => by simp at hu⟩
      | succ k ih =>
        intro hk
        obtain ⟨l, hll, hlc⟩ := ih (by omega)
        obtain ⟨y, cs, hy, hcs⟩ := one k (by omega)
        refine ⟨l ++ [y], by simp [hll], fun i z hz => ?_⟩
        by_cases hj : i < l.length
        · rw [List.getElem?_append_left hj] at hz
          exact hlc i z hz
        · rw [List.getElem?_append_right (by omega)] at hz
          have hj0 : i = k := by
            have := (List.getElem?_eq_some_iff.1 hz).1
            simp at this
            omega
          subst hj0
          rw [hll, Nat.sub_self] at hz
          simp only [List.getElem?_cons_zero, Option.some.injEq] at hz
          subst hz
          exact ⟨cs, hy, hcs⟩
    obtain ⟨l, hll, hlc⟩ := key len (Nat.le_refl _)
    subst hll
    refine ⟨some a, cap, l, rfl, by omega, fun hn => ?_⟩
    obtain ⟨cs, hQ, hcs⟩ := hlc 0 l[0] (by simp [hn])
    have hcl := hlen _ _ hQ
    have h0 := hcs 0 cs[0] (by simp [hcl, hs])
    have e0 : (a.add (0 * s)).add 0 = a := by rw [Nat.zero_mul]; rfl
    rw [e0] at h0
    have hsp := spot_of_cell h0
    obtain ⟨b, off, sp⟩ := a
    simp only [Addr.mk.injEq, true_and] at hsp
    subst hsp
    refine ⟨b, off, rfl, block_lt_of_cell h0, fun i y hy => ?_⟩
    obtain ⟨cs, hQ, hcs⟩ := hlc i y hy
    refine ⟨cs, hQ, fun j u hu => ?_⟩
    have := hcs j u hu
    rw [add_add] at this
    unfold Addr.add at this
    split at this
    · rename_i hj
      rw [show off + i * s + j = off by omega]
      exact this
    · rw [show off + i * s + j = off + (i * s + j) by omega]
      exact this

set_option maxRecDepth 100000 in
/-- A TREE THAT CAME IN. -/
theorem open_tree26 {r : Reach} {b0 : Nat} {v : Value} {d : DataW H} {ps : List MemPlace} (hval : Value.okWide Tryz.prog W r b0 28 v) (h : DataW.Trod enc Tryz.prog W base spare held 28 v d ps) :
    ∃ t p, v = treeV t p ∧ TreeAt (Lt W.heap.size) W t p ∧ t.nodes.length ≤ maxLen ∧ t.types.length ≤ maxLen ∧ t.aliases.length ≤ maxLen ∧ ∀ x ∈ t.nodes, x.int ≤ 9223372036854775807 := by
  unfold Value.okWide at hval
  rw [Tryz.underlying28] at hval
  obtain ⟨cs, rfl, hsz, _⟩ := hval
  obtain ⟨fuel, h⟩ := h
  obtain ⟨xs, n, _, _, hl, hxl, hf⟩ := DataW.trod_struct Tryz.underlying28 h
  rw [cells26] at hsz
  obtain ⟨l⟩ := cs
  have hsz' : l.length = 3 := hsz
  obtain ⟨v0, cs0, rfl, hh0⟩ := len_cons hsz'
  obtain ⟨v1, cs1, rfl, hh1⟩ := len_cons hh0
  obtain ⟨v2, cs2, rfl, hh2⟩ := len_cons hh1
  obtain rfl : cs2 = [] := List.length_eq_zero_iff.1 hh2
  have hcs : ((Value.agg (Array.mk [v0, v1, v2])).cells.toList) = [v0, v1, v2] := rfl
  rw [hcs] at hf
  have get : ∀ i, i < 3 → ∃ y, xs[i]? = some y := fun i hi => ⟨xs[i]'(by rw [hxl]; exact hi), List.getElem?_eq_getElem _⟩
  obtain ⟨y0, h0⟩ := get 0 (by omega)
  obtain ⟨y1, h1⟩ := get 1 (by omega)
  obtain ⟨y2, h2⟩ := get 2 (by omega)
  have g0 := fld hf 0 24 0 rfl rfl rfl cells22 h0
  have g1 := fld hf 1 25 1 rfl rfl rfl cells23 h1
  have g2 := fld hf 2 26 2 rfl rfl rfl cells24 h2
  simp only [List.drop_zero, List.drop_succ_cons, List.take_succ_cons, List.take_zero] at g0 g1 g2
  obtain ⟨A1, c1, l1, rfl, m1, t1⟩ := open_rows 8 (by omega) (fun (t : TermD) cs => ∃ p, TermOk (Lt W.heap.size) W t p ∧ t.int ≤ 9223372036854775807 ∧ cs = termCells t p) (fun a cs h => by obtain ⟨p, _, _, rfl⟩ := h; rfl) Tryz.underlying24 cells33 (fun n cs x hx => open_term hx) g0
  obtain ⟨A2, c2, l2, rfl, m2, t2⟩ := open_rows 6 (by omega) (fun (t : TypD) cs => ∃ p, TypOk (Lt W.heap.size) W t p ∧ cs = typCells t p) (fun a cs h => by obtain ⟨p, _, rfl⟩ := h; rfl) Tryz.underlying25 cells47 (fun n cs x hx => open_typ hx) g1
  obtain ⟨A3, c3, l3, rfl, m3, t3⟩ := open_rows 3 (by omega) (fun (t : AliD) cs => cs = aliCells t) (fun a cs h => by subst h; rfl) Tryz.underlying26 cells52 (fun n cs x hx => open_ali hx) g2
  refine ⟨⟨l1, l2, l3⟩, ⟨A1, c1, A2, c2, A3, c3⟩, rfl, ⟨fun hn => ?_, fun hn => ?_, fun hn => ?_⟩, m1, m2, m3, fun x hx => by
    obtain ⟨i, hi, rfl⟩ := List.getElem_of_mem hx
    obtain ⟨b, off, e, hb, hc⟩ := t1 (by dsimp only at hi; omega)
    obtain ⟨cs, ⟨p, hp, hk, rfl⟩, _⟩ := hc i _ (List.getElem?_eq_getElem hi)
    exact hk⟩
  · obtain ⟨b, off, e, hb, hc⟩ := t1 hn
    refine ⟨b, off, e, hb, fun i t ht => ?_⟩
    obtain ⟨cs, ⟨p, hp, _, rfl⟩, hcs⟩ := hc i t ht
    exact ⟨p, hp, hcs⟩
  · obtain ⟨b, off, e, hb, hc⟩ := t2 hn
    refine ⟨b, off, e, hb, fun i t ht => ?_⟩
    obtain ⟨cs, ⟨p, hp, rfl⟩, hcs⟩ := hc i t ht
    exact ⟨p, hp, hcs⟩
  · obtain ⟨b, off, e, hb, hc⟩ := t3 hn
    refine ⟨b, off, e, hb, fun i t ht j u hu => ?_⟩
    obtain ⟨cs, rfl, hcs⟩ := hc i t ht
    exact hcs j u hu
end
end Go.Proofs.YtjbdgjbmbohfmaaGreatDoor
