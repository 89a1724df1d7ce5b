/- What a tree that may be is like, as the walks of scope ask; Free and Through at every tree. What is wrong with a tree without types, of which no LetRec is -/
import Derived.Test.YtjbdgjbmbohfmaaGreatDoorK30
import Derived.Test.YtjbdgjbmbohfmaaGreatDoorK37
import Derived.Lib.SlBytesConst
namespace Go.Proofs.YtjbdgjbmbohfmaaGreatDoor
open Go Go.Proofs Go.RowKit
theorem noName_of {s : ByteArray} (h : s.toList.isEmpty = true) : s = noName := by
 have h1 : s.toList = [] := by simpa using h
 rw [ByteArray.toList_eq] at h1
 obtain ⟨⟨l⟩⟩ := s
 simp only at h1
 rw [h1]; rfl
theorem nmOk_of {t : TreeD} (h : Rng t) : NmOk t where
 typ := fun i y hy hk => by
  have hb := (h.typ i y hy).2
  unfold typB at hb
  split at hb
  ·simp only [holdsB, Bool.and_eq_true] at hb; exact noName_of hb.1.2.1
  ·split at hb
   ·simp only [holdsB, Bool.and_eq_true] at hb; exact noName_of hb.1.2.1
   ·split at hb
    ·simp only [holdsB, Bool.and_eq_true] at hb; exact noName_of hb.1.2.1
    ·split at hb
     ·simp only [holdsB, Bool.and_eq_true] at hb; exact noName_of hb.2.1
     ·first
       | (cases hb; done)
       | (split at hb; · rename_i h10; exact absurd h10 hk
          ·cases hb)
 ali := fun a ha e => by
  have := (h.ali a ha).2.2
  rw [e] at this
  cases this
 rng := fun a ha => by
  have := h.ali a ha
  omega
theorem ndOk_of {t : TreeD} (h : Rng t) : NdOk t where
 rng := fun j x hx => (h.nod j x hx).1
 two := fun j x hx hk => by
  have hb := (h.nod j x hx).2.2
  unfold termB at hb
  rw [hk] at hb
  simp [holdsB] at hb
  omega
theorem flat_leZ {α β : Type} {f : α → List β} {n : Nat} : ∀ {l : List α}, (∀ x ∈ l, (f x).length ≤ n) → (l.flatMap f).length ≤ l.length * n
 | [], _ => by simp
 | a :: l, h => by
  have h1 := h a (by simp)
  have h2 := flat_leZ (f := f) (n := n) (l := l) (fun x hx => h x (by simp [hx]))
  rw [List.flatMap_cons, List.length_append, List.length_cons, Nat.succ_mul]
  omega
theorem tmSm_of {t : TreeD} (h : TreeFew t) : TmSm t where
 nm := fun x hx => ⟨(h.1 x hx).1, (h.1 x hx).2.1, (h.1 x hx).2.2.2.1⟩
 nms := fun x hx => (h.1 x hx).2.2.1
 all := by
  have h1 := flat_leZ (f := fun x : TermD => x.name :: x.names) (n := 1001) (l := t.nodes) (fun x hx => by have := (h.1 x hx).2.1; simp; omega)
  have h2 := h.2.2.2.2.1
  unfold allN
  rw [List.length_cons]
  have h3 : t.nodes.length * 1001 ≤ 1000 * 1001 := Nat.mul_le_mul_right _ h2
  omega
theorem sm_of {t : TreeD} (h : TreeFew t) (hr : Rng t) : Sm t where
 ty := fun x hx => (h.2.1 x hx).1
 al := h.2.2.1
 la := h.2.2.2.1
 lt := by have := h.2.2.2.2.2; omega
 ln := by have := h.2.2.2.2.1; omega
 pos := fun x hx => (hr.ali x hx).1

/-- The tree in its box. -/
theorem box_tree (t : TreeD) (p : Ptr6) (w W0 : World) (hT : TreeAt (Lt w.heap.size) w t p) (hW0 : w.alloc (.cells #[.slice p.a1 t.nodes.length p.c1, .slice p.a2 t.types.length p.c2, .slice p.a3 t.aliases.length p.c3] 28) = W0) :
 Below w.heap.size w W0 ∧ Blk W0 w.heap.size 28 #[.slice p.a1 t.nodes.length p.c1, .slice p.a2 t.types.length p.c2, .slice p.a3 t.aliases.length p.c3] ∧ TreeAt (Lt W0.heap.size) W0 t p := by
 have hb0 : Below w.heap.size w W0 := by rw [← hW0]; exact (Below.refl _ w).alloc (Nat.le_refl _) _
 exact ⟨hb0, by rw [← hW0]; exact Blk.new w 28 _, (hT.keep (keep_below hb0)).imp (lt_mono hb0.size)⟩

set_option maxRecDepth 100000 in
set_option maxHeartbeats 4000000 in
theorem free_any (t : TreeD) (p : Ptr6) (w : World) (hE : Env4 w) (hT : TreeAt (Lt w.heap.size) w t p) (hF : TreeFew t) :
 Calls Tryz.prog 35 #[treeV t p] w (FreePost (fun s => checkF t = true ∧ s ∈ freeL t t.nodes.length (t.nodes.length - 1) []) w) := by
 obtain ⟨W0, hW0⟩ : ∃ W0, w.alloc (.cells #[.slice p.a1 t.nodes.length p.c1, .slice p.a2 t.types.length p.c2, .slice p.a3 t.aliases.length p.c3] 28) = W0 := ⟨_, rfl⟩
 obtain ⟨hb0, hX0, hT0⟩ := box_tree t p w W0 hT hW0
 have cC := check_any t p W0 (hE.on hb0) hT0 hF
 have x0 := hX0.cell 0
 have x1 := hX0.cell 1
 have x2 := hX0.cell 2
 simp only [List.getElem?_toArray, List.getElem?_cons_zero, List.getElem?_cons_succ] at x0 x1 x2
 have hXl := hX0.lt
 have HB0 := Lib.hid hb0
 have HT0 := Lib.hid hT0
 clear hb0 hT0 hT
 cases hc : checkF t with
 | false =>
  rw [hc] at cC
  clear hc
  go_enter Tryz.func35, Tryz.ntmps35
  go_wp2_with fail
  refine cC.mono ?_
  rintro e w1 ⟨rfl, hb1⟩
  have hb := HB0.out.trans (hb1.mono HB0.out.size)
  go_wp2
  go_ret
  exact ⟨_, [], rfl, World.ownsRow_nil _ _ _ _, List.Pairwise.nil, fun s => ⟨fun h => (by cases h), fun h => (by cases h.1)⟩, hb⟩
 | true =>
  rw [hc] at cC
  have hr := Rng.of hc
  have HRG := Lib.hid hr
  clear hc hr
  go_enter Tryz.func35, Tryz.ntmps35
  go_wp2_with fail
  refine cC.mono ?_
  rintro e w1 ⟨rfl, hb1⟩
  have hb := HB0.out.trans (hb1.mono HB0.out.size)
  have hX1 := hX0.below hb1 hX0.lt
  have hsz1 := hb1.size
  clear x0 x1 x2 hW0 hX0
  have x0 := hX1.cell 0
  have x1 := hX1.cell 1
  have x2 := hX1.cell 2
  simp only [List.getElem?_toArray, List.getElem?_cons_zero, List.getElem?_cons_succ] at x0 x1 x2
  have hT1 := (HT0.out.keep (keep_below hb1)).imp (lt_mono hb1.size)
  have cN := freeNames_any t p w1 hT1 (ndOk_of HRG.out) (tmSm_of hF) HRG.out.one (by have := hF.2.2.2.2.1; omega)
  have HB := Lib.hid hb
  clear hT1 hb hb1 hX1
  go_wp2_with fail
  refine cN.mono ?_
  rintro e w2 ⟨v, ns, rfl, hrow, hrise, hmem, hb2⟩
  have HR := Lib.hid (own_baseZ hrow (base' := w.heap.size) (by omega))
  have HB2 := Lib.hid (HB.out.trans (hb2.mono (by omega)))
  clear hrow hb2
  go_wp2
  go_ret
  exact ⟨v, ns, rfl, HR.out, hrise, fun s => (hmem s).trans ⟨fun h => ⟨trivial, h⟩, fun h => h.2⟩, HB2.out⟩
set_option maxRecDepth 100000 in
set_option maxHeartbeats 4000000 in
theorem wrongNil_any (nodes : List TermD) (p : Ptr6) (w : World) (h0 : 0 < w.heap.size) (hT : TreeAt (Lt w.heap.size) w ⟨nodes, [], []⟩ p) (hln : nodes.length ≤ 65536) :
 Calls Tryz.prog 70 #[treeV ⟨nodes, [], []⟩ p] w (RowPost [] w) := by
 obtain ⟨W0, hW0⟩ : ∃ W0, w.alloc (.cells #[.slice p.a1 nodes.length p.c1, .slice p.a2 0 p.c2, .slice p.a3 0 p.c3] 28) = W0 := ⟨_, rfl⟩
 obtain ⟨hb0, hX0, hT0⟩ := box_tree ⟨nodes, [], []⟩ p w W0 hT hW0
 have cN := named_any ⟨nodes, [], []⟩ p W0 (by have := hX0.lt; omega) hT0 (by simp) (by simp)
 have x0 := hX0.cell 0
 have x1 := hX0.cell 1
 have x2 := hX0.cell 2
 simp only [List.getElem?_toArray, List.getElem?_cons_zero, List.getElem?_cons_succ, List.length_nil] at x0 x1 x2
 have hXl := hX0.lt
 have HB0 := Lib.hid hb0
 have HT0 := Lib.hid hT0
 clear hb0 hT0 hT
 go_enter Tryz.func70, Tryz.ntmps70
 go_wp2_with fail
 refine cN.mono ?_
 rintro e w1 ⟨M, n, D, rfl, hown, hM, hMl, hb1⟩
 have hX1 := hX0.below hb1 hX0.lt
 have hsz1 := hb1.size
 have HB1 := Lib.hid (HB0.out.trans (hb1.mono HB0.out.size))
 have HT1 := Lib.hid ((HT0.out.keep (keep_below hb1)).imp (lt_mono hb1.size))
 clear x0 x1 x2 hW0 hX0 hb1 cN
 have x0 := hX1.cell 0
 have x1 := hX1.cell 1
 have x2 := hX1.cell 2
 simp only [List.getElem?_toArray, List.getElem?_cons_zero, List.getElem?_cons_succ, List.length_nil] at x0 x1 x2
 have cO := onward_any ⟨nodes, [], []⟩ p M n D w1 HT1.out ⟨by simp, by simp, by simp⟩ ⟨by simp, by simp, by simp, by simp, hln, by simp⟩ hown hM
 go_wp2
 go_loopw [3, 5, 6, 18] (fun v3 _ _ vc wr => v3 = .slice none 0 0 ∧ vc = .int .i64 0 ∧ w1 = wr) (fun _ _ _ _ _ => 0)
 case atStart => exact ⟨rfl, rfl, rfl⟩
 case round =>
  obtain ⟨rfl, rfl, rfl⟩ := hrel
  go_wp2
  go_loopw [3, 8, 9, 10, 41] (fun v3 _ _ _ vc wr => v3 = .slice none 0 0 ∧ vc = .int .i64 0 ∧ w1 = wr) (fun _ _ _ _ _ _ => 0)
  case atStart => exact ⟨rfl, rfl, rfl⟩
  case round =>
   obtain ⟨rfl, rfl, rfl⟩ := hrel
   go_wp2_with fail
   refine cO.mono ?_
   rintro e w2 ⟨g, rfl, hg, hB2, hb2⟩
   have cL := looping_any (onL ⟨nodes, [], []⟩) g (onL ⟨nodes, [], []⟩).length w2 hB2 (by simp [onL]) (by simp [onL])
   have HB2 := Lib.hid (HB1.out.trans (hb2.mono (by have := HB1.out.size; omega)))
   have HCL := Lib.hid cL
   clear cL cO hb2 hB2 hown hX1 x0 x1 x2 hM
   go_wp2_with fail
   refine HCL.out.mono ?_
   rintro e w3 ⟨v, out, rfl, hrow, _, hlo, hb3⟩
   have ho : out = [] := by
    have : (onL ⟨nodes, [], []⟩).length = 0 := rfl
    exact List.eq_nil_of_length_eq_zero (by omega)
   subst ho
   obtain ⟨A, c, rfl⟩ := own_sliceZ hrow
   have HB3 := Lib.hid (HB2.out.trans (hb3.mono HB2.out.size))
   clear hrow hb3 hlo
   go_wp2
   go_loopw [3, 12, 73] (fun v3 _ vc wr => v3 = .slice none 0 0 ∧ vc = .int .i64 0 ∧ w3 = wr) (fun _ _ _ _ => 0)
   case atStart => exact ⟨rfl, rfl, rfl⟩
   case round =>
    obtain ⟨rfl, rfl, rfl⟩ := hrel
    go_wp2
    go_ret
    exact ⟨_, rfl, World.ownsRow_nil _ _ _ _, fun _ => rfl, HB3.out⟩

theorem res3 {W : World} {B : Nat} {t : TypeId} {a b c : Value} (h : Blk W B t #[a, b, c]) (x y z : Value) : Blk (((W.setCell ⟨B, 0, none⟩ x).setCell ⟨B, 1, none⟩ y).setCell ⟨B, 2, none⟩ z) B t #[x, y, z] := ((h.set_ 0 x).set_ 1 y).set_ 2 z
set_option maxRecDepth 100000 in
set_option maxHeartbeats 4000000 in
theorem checkNil_any (nodes : List TermD) (p : Ptr6) (w : World) (hE : Env4 w) (hT : TreeAt (Lt w.heap.size) w ⟨nodes, [], []⟩ p) (hF : TreeFew ⟨nodes, [], []⟩) (hc : checkF ⟨nodes, [], []⟩ = true) (hw : wrongT ⟨nodes, [], []⟩ = []) :
 Calls Tryz.prog 34 #[treeV ⟨nodes, [], []⟩ p] w fun e w' => e = .returned (.agg #[.int .i64 0, .int .i64 0, .string ⟨#[]⟩]) ∧ Below w.heap.size w w' := by
 obtain ⟨W0, hW0⟩ : ∃ W0, (w.alloc (.cells #[.slice p.a1 nodes.length p.c1, .slice p.a2 0 p.c2, .slice p.a3 0 p.c3] 28)).alloc (.cells #[.int .i64 0, .int .i64 0, .string ⟨#[]⟩] 31) = W0 := ⟨_, rfl⟩
 have hb0 : Below w.heap.size w W0 := by rw [← hW0]; exact ((Below.refl _ w).alloc (Nat.le_refl _) _).alloc (by simp) _
 have hX0 : Blk W0 w.heap.size 28 #[.slice p.a1 nodes.length p.c1, .slice p.a2 0 p.c2, .slice p.a3 0 p.c3] := by rw [← hW0]; exact (Blk.new w 28 _).alloc _
 have hY0 : Blk W0 (w.heap.size + 1) 31 #[.int .i64 0, .int .i64 0, .string ⟨#[]⟩] := by
  rw [← hW0]
  have := Blk.new (w.alloc (.cells #[.slice p.a1 nodes.length p.c1, .slice p.a2 0 p.c2, .slice p.a3 0 p.c3] 28)) 31 #[.int .i64 0, .int .i64 0, .string ⟨#[]⟩]
  rwa [World.size_alloc] at this
 have hT0 : TreeAt (Lt W0.heap.size) W0 ⟨nodes, [], []⟩ p := (hT.keep (keep_below hb0)).imp (lt_mono hb0.size)
 have cC := check_any ⟨nodes, [], []⟩ p W0 (hE.on hb0) hT0 hF
 rw [hc] at cC
 have hr := Rng.of hc
 have hln : nodes.length ≤ 1000 := hF.2.2.2.2.1
 have x0 := hX0.cell 0
 have x1 := hX0.cell 1
 have x2 := hX0.cell 2
 simp only [List.getElem?_toArray, List.getElem?_cons_zero, List.getElem?_cons_succ] at x0 x1 x2
 have HB0 := Lib.hid hb0
 have HT0 := Lib.hid hT0
 have HRG := Lib.hid hr
 have HW := Lib.hid hw
 have hYl := hY0.lt
 clear hb0 hT0 hT hr hw hc
 go_enter Tryz.func34, Tryz.ntmps34
 go_wp2_with fail
 refine cC.mono ?_
 rintro e w1 ⟨rfl, hb1⟩
 have hX1 := hX0.below hb1 (by omega)
 have hY1 := hY0.below hb1 (by omega)
 have hsz1 := hb1.size
 have HB1 := Lib.hid (HB0.out.trans (hb1.mono HB0.out.size))
 have HT1 := Lib.hid ((HT0.out.keep (keep_below hb1)).imp (lt_mono hb1.size))
 have hEW1 := Lib.hid hY1
 clear x0 x1 x2 hW0 hX0 hY0 hb1 cC
 have x0 := hX1.cell 0
 have x1 := hX1.cell 1
 have x2 := hX1.cell 2
 simp only [List.getElem?_toArray, List.getElem?_cons_zero, List.getElem?_cons_succ] at x0 x1 x2
 have cW : ∀ W, Below w1.heap.size w1 W → Calls Tryz.prog 69 #[treeV ⟨nodes, [], []⟩ p] W fun e w' => e = .returned (.slice none 0 0) ∧ Below w1.heap.size w1 w' := fun W hb => by
  refine (wrongTerms_any ⟨nodes, [], []⟩ p W ((HT1.out.keep (keep_below hb)).imp (lt_mono hb.size)) (ndOk_of HRG.out) (by dsimp only; omega)).mono ?_
  rintro e w' ⟨v, rfl, _, hn, hb2⟩
  exact ⟨by rw [hn HW.out], hb.trans (hb2.mono hb.size)⟩
 have cA : ∀ W, Below w1.heap.size w1 W → Calls Tryz.prog 70 #[treeV ⟨nodes, [], []⟩ p] W fun e w' => e = .returned (.slice none 0 0) ∧ Below w1.heap.size w1 w' := fun W hb => by
  refine (wrongNil_any nodes p W (by have := hb.size; omega) ((HT1.out.keep (keep_below hb)).imp (lt_mono hb.size)) (by omega)).mono ?_
  rintro e w' ⟨v, rfl, _, hn, hb2⟩
  exact ⟨by rw [hn rfl], hb.trans (hb2.mono hb.size)⟩
 have hXl : w.heap.size < w1.heap.size := by omega
 have hX1' := Lib.hid hX1
 clear hX1 hY1
 go_wp2
 go_region_with (first
  | (go_at_call 69; refine (cW _ (by first | exact (Below.refl _ w1).drew | exact (Below.refl _ w1))).mono ?_; rintro e w2 ⟨rfl, hb2⟩; have z0 := (hb2.cell (p := ⟨w.heap.size, 0, none⟩) hXl).trans x0; have z1 := (hb2.cell (p := ⟨w.heap.size, 1, none⟩) hXl).trans x1; have z2 := (hb2.cell (p := ⟨w.heap.size, 2, none⟩) hXl).trans x2)
  | (go_at_call 70; refine (cA _ (by assumption)).mono ?_; rintro e w3 ⟨rfl, hb3⟩))
 all_goals
  have hY3 := hEW1.out.below hb3 (by omega)
  have q0 := hY3.cell 0
  have q1 := hY3.cell 1
  have q2 := hY3.cell 2
  have f0 := hY3.frozen 0
  have f1 := hY3.frozen 1
  have f2 := hY3.frozen 2
  simp only [List.getElem?_toArray, List.getElem?_cons_zero, List.getElem?_cons_succ] at q0 q1 q2
  have HB3 := Lib.hid hb3
  clear hb3 hb2 z0 z1 z2 x0 x1 x2 cW cA
  go_wp2
  have hR := res3 hY3 (.int .i64 0) (.int .i64 0) (.string ⟨#[]⟩)
  have r0 := hR.cell 0
  have r1 := hR.cell 1
  have r2 := hR.cell 2
  simp only [List.getElem?_toArray, List.getElem?_cons_zero, List.getElem?_cons_succ] at r0 r1 r2
  refine bodyPost_ret (v := .agg #[.int .i64 0, .int .i64 0, .string ⟨#[]⟩]) (by simp [results, Tryz.results34, go_sem, r0, r1, r2]) rfl ?_
  exact ⟨rfl, (((HB1.out.trans (HB3.out.mono (by omega))).setCell (p := ⟨w.heap.size + 1, 0, none⟩) (by dsimp only; omega) _).setCell (p := ⟨w.heap.size + 1, 1, none⟩) (by dsimp only; omega) _).setCell (p := ⟨w.heap.size + 1, 2, none⟩) (by dsimp only; omega) _⟩
theorem lexR_atZ (c : UInt8) (r : List UInt8) (k : Nat) (t : Nat × List UInt8) (n : Nat) (h : blankB c = false) (hn : noteB (c :: r) = false) (ht : tok (c :: r) = some (t, n)) :
 lexR (c :: r) k = prep [(t.1, t.2, k)] (lexR ((c :: r).drop n) (k + n)) := by
 have hz := skipN_none c r h hn
 have := lexR_some (c :: r) k t n (by rw [hz]; exact ht)
 rw [hz] at this
 simpa using this
theorem D_asciiZ (c : UInt8) (r : List UInt8) (h : c.toNat < 128) : D (c :: r) = (c.toNat, 1) := by
 unfold D Go.Lib.decodeN
 simp only [List.getD_cons_zero, List.length_cons]
 repeat' split
 all_goals first | rfl | (exfalso; omega)
theorem bd_shiftZ (l : List UInt8) (j : Nat) : bd l j = bd l 0 + j := by
 have := (sg_shift l.length l 0 j (Nat.le_refl _)).2
 rwa [Nat.zero_add] at this
theorem ascii_goodZ (c : UInt8) (r : List UInt8) (h : c.toNat < 128) : ¬ isBad (c :: r) := by
 unfold isBad
 rw [D_asciiZ c r h]
 rintro ⟨h1, _⟩
 dsimp only at h1
 omega
theorem bd_asciiZ (c : UInt8) (r : List UInt8) (h : c.toNat < 128) : bd (c :: r) 0 = bd r 0 + 1 := by
 rw [bd_cons _ _ (by simp) (ascii_goodZ c r h), D_asciiZ c r h]
 dsimp only [List.drop]
 rw [bd_shiftZ]
theorem bd_allZ : ∀ (l : List UInt8), (∀ c ∈ l, c.toNat < 128) → bd l 0 = l.length
 | [], _ => bd_nil [] 0 rfl
 | c :: r, h => by rw [bd_asciiZ c r (h c (by simp)), bd_allZ r (fun x hx => h x (by simp [hx]))]; rfl

/-- The rule text over functions, as a rule. -/
def deepRZ (ts : List Tk) (s : St) : PR := if standsB (tkA ts s.k) [[116, 121, 112, 101]] = true then .un else match deepM ts 257 s with
 | .ok i s' => .ok i s'
 | _ => .un
theorem deepRZ_rule {ts : List Tk} (hT : TsOk ts) : Rule0 ts 57 (deepRZ ts) := by
 intro B w s i s' hBts h hk hM
 unfold deepRZ at hM
 by_cases hs : standsB (tkA ts s.k) [[116, 121, 112, 101]] = true
 ·rw [if_pos hs] at hM; cases hM
 rw [if_neg hs] at hM
 cases hD : deepM ts 257 s with
 | ok j s1 =>
  rw [hD] at hM
  injection hM with h1 h2
  subst h1
  subst h2
  exact (textD_any hT 257 hBts h hk (by simpa using hs)).1 _ _ hD
 | bad c p s1 => rw [hD] at hM; cases hM
 | un => rw [hD] at hM; cases hM

/-- The example's text: fun x -> x y -/
def ezL : List UInt8 := [102, 117, 110, 32, 120, 32, 45, 62, 32, 120, 32, 121]
def ezT : List Tk := [(7, [102, 117, 110], 0), (1, [120], 4), (8, [45, 62], 6), (1, [120], 9), (1, [121], 11), (0, [], 12)]
theorem ezLex : lexA ezL = .ok ezT := by
 have h : lexR ezL 0 = .ok ezT := by
  unfold ezL
  rw [lexR_atZ 102 _ 0 (7, [102, 117, 110]) 3 (by decide) (by decide) (by decide)]
  dsimp only [List.drop]
  rw [lexR_blank 32 _ _ (by decide), lexR_atZ 120 _ _ (1, [120]) 1 (by decide) (by decide) (by decide)]
  dsimp only [List.drop]
  rw [lexR_blank 32 _ _ (by decide), lexR_atZ 45 _ _ (8, [45, 62]) 2 (by decide) (by decide) (by decide)]
  dsimp only [List.drop]
  rw [lexR_blank 32 _ _ (by decide), lexR_atZ 120 _ _ (1, [120]) 1 (by decide) (by decide) (by decide)]
  dsimp only [List.drop]
  rw [lexR_blank 32 _ _ (by decide), lexR_atZ 121 _ _ (1, [121]) 1 (by decide) (by decide) (by decide)]
  dsimp only [List.drop]
  rw [lexR_end [] _ (by rw [skipN_nil]; rfl), skipN_nil]
  rfl
 unfold lexA
 rw [if_neg (by decide), bd_allZ ezL (by decide), if_neg (by decide), h]
def ezTree : List TermD := [⟨0, 9, bs [120], 0, 0, [], [], []⟩, ⟨0, 11, bs [121], 0, 0, [], [], []⟩, ⟨6, 11, bs [], 0, 0, [], [0, 1], []⟩, ⟨5, 0, bs [120], 0, 0, [], [2], []⟩]
theorem ezParse : deepRZ ezT ⟨0, 0, [], []⟩ = .ok 3 ⟨5, 0, ezTree, []⟩ := by rfl
theorem ezCheck : checkF ⟨ezTree, [], []⟩ = true := by kernel_rfl
theorem ezOk : TsOk ezT := ⟨by decide, by decide, fun k => by
 by_cases hk : k < 6
 ·match k, hk with
  | 0, _ | 1, _ | 2, _ | 3, _ | 4, _ | 5, _ => decide
 ·unfold tkA
  rw [List.getD_eq_getElem?_getD, List.getElem?_eq_none (by simpa [ezT] using hk)]
  decide⟩
theorem ezFew : TreeFew ⟨ezTree, [], []⟩ := by
 refine ⟨fun x hx => ?_, fun x hx => by simp at hx, fun x hx => by simp at hx, by simp, by simp [ezTree], by simp⟩
 simp only [ezTree, List.mem_cons, List.not_mem_nil, or_false] at hx
 rcases hx with rfl | rfl | rfl | rfl
 all_goals simp [TermFew, bs]
 all_goals simp [ByteArray.size]
theorem ezWrong : wrongT ⟨ezTree, [], []⟩ = [] := by rfl
theorem ezFree : freeL ⟨ezTree, [], []⟩ 4 3 [] = [bs [121]] := by decide +kernel
theorem ez_new5 (n₀ : Nat) (w : World) (cs : Array Value) (fz : Nat × Nat) (l : List UInt8) (hc : cs = (cells8 l).toArray) (h : w.heap.size < n₀) : TextAt n₀ (w.alloc (.cells cs 5 fz)) (.slice (some ⟨w.heap.size, 0, none⟩) l.length l.length) l := by
 subst hc
 refine .inr ⟨w.heap.size, 0, l.length, rfl, h, Nat.le_refl _, ?_⟩
 intro j hj
 have hn := World.alloc_heap_new w (.cells (cells8 l).toArray 5 fz)
 simp only [World.cell?, hn]
 simp [cells8, List.getD_eq_getElem?_getD, List.getElem?_eq_getElem hj]
theorem ez_nm : (bs [121]).toList = [121] := by rw [ByteArray.toList_eq]; rfl
theorem env4_of {w : World} (h : Env w) : Env4 w := ⟨h.tabs, by have := h.size; omega⟩
theorem ez_rise : Rise [bs [121]] := by simp [Rise]

set_option maxRecDepth 100000 in
set_option maxHeartbeats 8000000 in
theorem lives_any (w : World) (hE : Env w) : Calls Tryz.prog 32 #[] w fun e W' => e = .returned (.bool true) ∧ Below w.heap.size w W' := by
 obtain ⟨w0, hw0⟩ : ∃ w0, w.alloc (.cells #[.int .u8 102, .int .u8 117, .int .u8 110, .int .u8 32, .int .u8 120, .int .u8 32, .int .u8 45, .int .u8 62, .int .u8 32, .int .u8 120, .int .u8 32, .int .u8 121] 5 (12, 13)) = w0 := ⟨_, rfl⟩
 have hb0 : Below w.heap.size w w0 := by rw [← hw0]; exact (Below.refl _ w).alloc (Nat.le_refl _) _
 have hT : TextAt w0.heap.size w0 (.slice (some ⟨w.heap.size, 0, none⟩) 12 12) ezL := by
  rw [← hw0]
  refine ez_new5 _ w _ (12, 13) ezL rfl ?_
  show w.heap.size < (w.heap.push _).size
  rw [Array.size_push]; omega
 have cL := ptext_any ezLex ezOk (by decide) (deepRZ ezT) (deepRZ_rule ezOk) ezParse (by decide) (by decide) (some ⟨w.heap.size, 0, none⟩) 12 12 w0 rfl (hE.on hb0) hT
 have kc := fun (w : World) (C : Array Value) (n c : Nat) => Lib.run_convert_bytes_const (P := Tryz.prog) w 22 5 C n c Tryz.underlying22 Tryz.underlying5
 have hE0 := Lib.hid (hE.on hb0)
 clear hT hE
 go_enter Tryz.func32, Tryz.ntmps32
 go_wp2_with fail
 refine cL.mono ?_
 rintro e w1 ⟨p, rfl, hTA, hb1⟩
 go_wp2_with fail
 obtain ⟨W2, hW2⟩ : ∃ W2, w1.alloc (.cells #[.slice p.a1 ezTree.length p.c1, .slice p.a2 0 p.c2, .slice p.a3 0 p.c3] 28) = W2 := ⟨_, rfl⟩
 obtain ⟨W3, hW3⟩ : ∃ W3, W2.alloc (.cells #[.int .i64 0, .int .i64 0, .string ⟨#[]⟩] 31) = W3 := ⟨_, rfl⟩
 rw [hW2, hW3]
 have hb2 : Below w1.heap.size w1 W2 := by rw [← hW2]; exact (Below.refl _ _).alloc (Nat.le_refl _) _
 have hb3 : Below W2.heap.size W2 W3 := by rw [← hW3]; exact (Below.refl _ _).alloc (Nat.le_refl _) _
 have hX2 : Blk W2 w1.heap.size 28 #[.slice p.a1 ezTree.length p.c1, .slice p.a2 0 p.c2, .slice p.a3 0 p.c3] := by rw [← hW2]; exact Blk.new w1 28 _
 have hY3 : Blk W3 W2.heap.size 31 #[.int .i64 0, .int .i64 0, .string ⟨#[]⟩] := by rw [← hW3]; exact Blk.new W2 31 _
 have hX3 := hX2.below hb3 hX2.lt
 have hb13 : Below w1.heap.size w1 W3 := hb2.trans (hb3.mono hb2.size)
 have hTA3 : TreeAt (Lt W3.heap.size) W3 ⟨ezTree, [], []⟩ p := (hTA.keep (fun b o hb => hb13.cell (p := ⟨b, o, none⟩) hb.2)).imp (fun b hb => Nat.lt_of_lt_of_le hb.2 hb13.size)
 have hE3 : Env W3 := (hE0.out.on hb1).on hb13
 have cF := free_any ⟨ezTree, [], []⟩ p W3 (env4_of hE3) hTA3 ezFew
 have hs2 : W2.heap.size = w1.heap.size + 1 := by
  rw [← hW2]
  show (w1.heap.push _).size = _
  rw [Array.size_push]
 have hbw : Below w.heap.size w W3 := hb0.trans ((hb1.trans (hb13.mono hb1.size)).mono hb0.size)
 have HBW := Lib.hid hbw
 have HT3 := Lib.hid hTA3
 have HE3 := Lib.hid hE3
 have hXl := hX3.lt
 have hYl := hY3.lt
 have x0 := hX3.cell 0
 have x1 := hX3.cell 1
 have x2 := hX3.cell 2
 have y0 := hY3.cell 0
 have y1 := hY3.cell 1
 have y2 := hY3.cell 2
 simp only [List.getElem?_toArray, List.getElem?_cons_zero, List.getElem?_cons_succ] at x0 x1 x2 y0 y1 y2
 rw [hs2] at y0 y1 y2 hYl
 clear hTA hTA3 hb0 hb1 hb2 hb3 hb13 hbw cL kc hX2 hX3 hY3 hW2 hW3 hE3 hE0 hw0
 go_wp2_with fail
 refine cF.mono ?_
 rintro e w4 ⟨v, ns, rfl, hO, hR, hM, hb4⟩
 have hns : ns = [bs [121]] := rise_eq hR ez_rise fun s => by
  rw [hM, ← ezFree]
  exact ⟨fun h => h.2, fun h => ⟨ezCheck, h⟩⟩
 subst hns
 obtain ⟨A, c, rfl, hc, hS⟩ := SlAt.of_own hO
 obtain ⟨b, off, rfl, hbb, hcell⟩ := hS.2 (by decide)
 have g0 := hcell 0 _ rfl
 rw [Nat.add_zero] at g0
 have x0' := (hb4.cell (p := ⟨w1.heap.size, 0, none⟩) hXl).trans x0
 have x1' := (hb4.cell (p := ⟨w1.heap.size, 1, none⟩) hXl).trans x1
 have x2' := (hb4.cell (p := ⟨w1.heap.size, 2, none⟩) hXl).trans x2
 have y0' := (hb4.cell (p := ⟨w1.heap.size + 1, 0, none⟩) hYl).trans y0
 have y1' := (hb4.cell (p := ⟨w1.heap.size + 1, 1, none⟩) hYl).trans y1
 have y2' := (hb4.cell (p := ⟨w1.heap.size + 1, 2, none⟩) hYl).trans y2
 have cK := checkNil_any ezTree p w4 (env4_of (HE3.out.on hb4)) ((HT3.out.keep (keep_below hb4)).imp (lt_mono hb4.size)) ezFew ezCheck ezWrong
 have HB4 := Lib.hid (HBW.out.trans (hb4.mono HBW.out.size))
 clear hb4 x0 x1 x2 y0 y1 y2 cF hcell hS hO hM hR HT3 HE3 HBW
 go_wp2_with fail
 rotate_left
 ·rename_i h
  exact absurd ez_nm h
 rename_i hnm
 refine cK.mono ?_
 rintro e w5 ⟨rfl, hb5⟩
 have HB5 := Lib.hid (HB4.out.trans (hb5.mono HB4.out.size))
 clear hb5 g0 x0' x1' x2' y0' y1' y2'
 go_wp2_with fail
 go_ret
 exact ⟨rfl, HB5.out⟩
end Go.Proofs.YtjbdgjbmbohfmaaGreatDoor
