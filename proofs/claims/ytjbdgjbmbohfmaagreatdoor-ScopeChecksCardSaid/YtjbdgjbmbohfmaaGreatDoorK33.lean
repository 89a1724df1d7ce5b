/- The aliases of a tree by their names, as the program has them: a map. What a type stands for: the -/
import Derived.Test.YtjbdgjbmbohfmaaGreatDoorK32
namespace Go.Proofs.YtjbdgjbmbohfmaaGreatDoor
open Go Go.Proofs Go.RowKit Go.Shelf
attribute [local go_sem] Oper.semAt_some

theorem backA_stops (n : Nat) (hn : 1 ≤ n) (Bs b : Nat) (A : Option Addr) (cap : Nat) (al : List AliD) (hlen : al.length ≤ 140737488351232) (w : World) (hBs : Bs < w.heap.size) (hb : b < w.heap.size)
 (hc : w.cell? ⟨Bs, 0, none⟩ = some (.slice A al.length cap)) (hh : AlisIn b w A al) :
 SeqStopsK Fence.wide n Tryz.prog 229 #[.pointer (some ⟨Bs, 0, none⟩)] (encA al) (Kb b Bs) (fun ys => ys = rv al.length) (fun pre => ∃ rest, rv al.length = pre ++ rest) al.length w := fun ll J Jx W hW hJ _ hY h0 =>
 backA_in n hn ll Bs b A cap al hlen J Jx W hJ hY ((hW.cell (p := ⟨Bs, 0, none⟩) hBs).trans hc) (hh.block (hW.block b hb)) h0

theorem mkBackA_any (A : Option Addr) (n c : Nat) (w : World) : Calls Tryz.prog 188 #[.slice A n c] w fun e w' => e = .returned (.func (.func 229) #[] #[.pointer (some ⟨w.heap.size, 0, none⟩)]) ∧ w' = w.alloc (.cells #[.slice A n c] 26) := by
 go_enter Tryz.func188, Tryz.ntmps188
 go_wp2
 go_ret
 exact ⟨rfl, rfl⟩

/-- What a map of names says that was filled by the places of a row, the last one first. -/
def nmR (al : List AliD) : List Nat → DataW Unit
 | [] => .map []
 | i :: r => (nmR al r).put (.string (al.getD i ⟨noName, 0, 0⟩).name.data.toList) (.lit (.int .i64 (i : Int)))
theorem nmR_map (al : List AliD) : ∀ l, Maps.IsMap (nmR al l)
 | [] => Maps.isMap_empty
 | _ :: r => (nmR_map al r).put _ _
theorem nm_key {a b : ByteArray} : (Lit.string a.data.toList = Lit.string b.data.toList) ↔ a = b := by
 constructor
 ·intro h
  injection h with h
  obtain ⟨⟨a⟩⟩ := a
  obtain ⟨⟨b⟩⟩ := b
  simp only at h
  rw [h]
 ·rintro rfl; rfl
/-- Is the i-th alias of a name? -/
def isNZ (al : List AliD) (s : ByteArray) (i : Nat) : Bool := decide ((al.getD i ⟨noName, 0, 0⟩).name = s)
theorem kl (s : List UInt8) : WideAt.IsKeyLit (.string s) := trivial
theorem nmR_find (al : List AliD) (s : ByteArray) : ∀ l : List Nat, (∀ k : Nat, l.find? (isNZ al s) = some k → Maps.has (nmR al l) (.string s.data.toList) = true ∧ ∀ z, (nmR al l).atKey (.string s.data.toList) z = .lit (.int .i64 (k : Int))) ∧
 (l.find? (isNZ al s) = none → Maps.has (nmR al l) (.string s.data.toList) = false)
 | [] => ⟨fun k h => (by cases h), fun _ => rfl⟩
 | i :: r => by
  obtain ⟨h1, h2⟩ := nmR_find al s r
  by_cases hi : (al.getD i ⟨noName, 0, 0⟩).name = s
  ·rw [List.find?_cons_of_pos (show isNZ al s i = true from decide_eq_true hi)]
   refine ⟨fun k h => ?_, fun h => (by cases h)⟩
   injection h with h
   subst h
   unfold nmR
   rw [hi]
   exact ⟨Maps.has_put_same (nmR_map al r) (kl _) _, fun z => Maps.atKey_put_same (nmR_map al r) (kl _) _ _⟩
  ·rw [List.find?_cons_of_neg (show ¬ isNZ al s i = true from fun e => hi (of_decide_eq_true e))]
   have hne : Lit.string s.data.toList ≠ Lit.string (al.getD i ⟨noName, 0, 0⟩).name.data.toList := fun e => hi (nm_key.1 e).symm
   unfold nmR
   refine ⟨fun k h => ⟨by rw [Maps.has_put_other hne]; exact (h1 k h).1, fun z => by rw [Maps.atKey_put_other hne]; exact (h1 k h).2 z⟩, fun h => by rw [Maps.has_put_other hne]; exact h2 h⟩
theorem firstA_find (al : List AliD) (s : ByteArray) : (List.range al.length).find? (isNZ al s) = firstA al s := by
 cases hf : firstA al s with
 | none =>
  rw [List.find?_range_eq_none]
  intro i hi
  have := firstA_none hf al[i] (List.getElem_mem hi)
  simp [isNZ, List.getD_eq_getElem?_getD, List.getElem?_eq_getElem hi, this]
 | some k =>
  obtain ⟨a, h1, h2, h3⟩ := firstA_some hf
  rw [List.find?_range_eq_some]
  refine ⟨by simp [isNZ, List.getD_eq_getElem?_getD, h1, h2], List.mem_range.2 (firstA_lt hf), fun j hj => ?_⟩
  have hjl : j < al.length := Nat.lt_trans hj (firstA_lt hf)
  have := h3 j hj al[j] (List.getElem?_eq_getElem hjl)
  simp [isNZ, List.getD_eq_getElem?_getD, List.getElem?_eq_getElem hjl, this]
/-- A map that says which alias each name means. -/
structure Means (al : List AliD) (D : DataW Unit) : Prop where
 yes : ∀ (s : ByteArray) (k : Nat), firstA al s = some k → Maps.has D (.string s.data.toList) = true ∧ ∀ z, D.atKey (.string s.data.toList) z = .lit (.int .i64 (k : Int))
 no : ∀ s : ByteArray, firstA al s = none → Maps.has D (.string s.data.toList) = false
theorem means_all (al : List AliD) : Means al (nmR al (List.range al.length)) :=
 ⟨fun s k h => (nmR_find al s _).1 k ((firstA_find al s).trans h), fun s h => (nmR_find al s _).2 ((firstA_find al s).trans h)⟩
theorem rv_range (n : Nat) : ((rv n).map (·.1)).reverse = List.range n := by
 unfold rv
 rw [List.map_reverse, List.reverse_reverse]
 apply List.ext_getElem
 ·simp
 ·intro i h1 h2
  simp

/-- A block of cells stays while none of cells is turned. -/
theorem blk_own {β : Type} (B : Nat) (t : TypeId) (cs : β → Array Value) : Own (fun s W => Blk W B t (cs s)) := fun s X Y row hs hg hrow => by
 have hl := Blk.lt hs
 refine (hg.block B hl (fun e => ?_)).trans hs
 obtain ⟨o, ho, hc⟩ := hrow B e.symm
 rw [show X.heap[B]? = _ from hs] at ho
 cases ho
 cases hc
def NamedPost (al : List AliD) (w : World) (e : Ending) (w' : World) : Prop :=
 ∃ M n D, e = .returned (.map (some M)) ∧ w'.ownsMap Tryz.prog 9 (plainElem Tryz.prog 3) M n D ∧ Means al D ∧ w.heap.size ≤ M ∧ Below w.heap.size w w'

set_option maxRecDepth 100000 in
set_option maxHeartbeats 4000000 in
theorem named_any (t : TreeD) (p : Ptr6) (w : World) (h0 : 0 < w.heap.size) (hT : TreeAt (Lt w.heap.size) w t p) (hF : ∀ x ∈ t.aliases, x.name.size ≤ 1000) (hl : t.aliases.length ≤ 1000) :
 Calls Tryz.prog 135 #[treeV t p] w (NamedPost t.aliases w) := by
 obtain ⟨nodes, types, al⟩ := t
 obtain ⟨a1, c1, a2, c2, a3, c3⟩ := p
 obtain ⟨b, hb, hI⟩ := hT.2.2.into h0
 clear hT
 dsimp only at *
 have hmm := @run_makeMap Tryz.prog
 refine (callsIn_wide (n := 9)).1 ?_
 refine callsIn_of_wp_marks Tryz.func135 rfl trivial ?_ rfl
 simp only [Tryz.ntmps135, List.size_toArray, List.length_cons, List.length_nil, Nat.reduceAdd, Nat.reduceSub, Array.replicate_succ, Array.replicate_zero, List.push_toArray, List.append_toArray, List.nil_append, List.cons_append]
 gi_wp2_with (refine ⟨trivial, ?_⟩; gi_at_call 188; refine (callsIn_wide.2 (mkBackA_any _ _ _ _)).mono ?_; rintro e w' ⟨rfl, rfl⟩)
 obtain ⟨WT, hWT⟩ : ∃ WT, w.alloc (.cells #[.slice a1 nodes.length c1, .slice a2 types.length c2, .slice a3 al.length c3] 28) = WT := ⟨_, rfl⟩
 have hbT : Below w.heap.size w WT := by rw [← hWT]; exact (Below.refl _ w).alloc (Nat.le_refl _) _
 have hsT : WT.heap.size = w.heap.size + 1 := by rw [← hWT]; simp
 rw [hWT]
 obtain ⟨z, hz⟩ : ∃ z, w.heap.size = z := ⟨_, rfl⟩
 rw [hz] at hsT hbT hb h0 ⊢
 have hm0 := World.ownsMap_made (H := Unit) WT Tryz.prog 9 (plainElem Tryz.prog 3)
 have bV := (Boxed.new (WT.alloc (.map #[] 0)) 147 (.map (some (z + 1)))).alloc (.cells #[.slice a3 al.length c3] 26)
 have bS := Boxed.new ((WT.alloc (.map #[] 0)).alloc (.cells #[.map (some (z + 1))] 147)) 26 (.slice a3 al.length c3)
 simp only [World.size_alloc, hsT] at hm0 bV bS
 have hB0 : Below z w (((WT.alloc (.map #[] 0)).alloc (.cells #[.map (some (z + 1))] 147)).alloc (.cells #[.slice a3 al.length c3] 26)) := ((hbT.alloc (by omega) _).alloc (by simp only [World.size_alloc]; omega) _).alloc (by simp only [World.size_alloc]; omega) _
 have hsz : (((WT.alloc (.map #[] 0)).alloc (.cells #[.map (some (z + 1))] 147)).alloc (.cells #[.slice a3 al.length c3] 26)).heap.size = z + 4 := by simp only [World.size_alloc, hsT]
 have hm1 := (hm0.alloc (.cells #[.map (some (z + 1))] 147)).alloc (.cells #[.slice a3 al.length c3] 26)
 obtain ⟨W0, hW0⟩ : ∃ W0, ((WT.alloc (.map #[] 0)).alloc (.cells #[.map (some (z + 1))] 147)).alloc (.cells #[.slice a3 al.length c3] 26) = W0 := ⟨_, rfl⟩
 rw [hW0] at bV bS hB0 hsz hm1 ⊢
 clear hW0 hm0 hWT hmm
 refine wpIn_rangeFunc_ownH rfl (by omega) (gf := 229) (lb := #[.pointer (some ⟨z + 1 + 1 + 1, 0, none⟩)]) rfl trivial (enters_of Tryz.func229 (by kernel_rfl) rfl)
  (backA_stops 8 (by omega) (z + 1 + 1 + 1) b a3 c3 al (by omega) W0 (by omega) (by omega) bS.cell (hI.block (hB0.block b hb))) Kb.trans (Kb_put (by omega) (by omega)) (Below.refl _ _) (fun _ => rfl)
  (fun pre W => ((Boxed W (z + 1 + 1) 147 (.map (some (z + 1))) ∧ Boxed W (z + 1 + 1 + 1) 26 (.slice a3 al.length c3)) ∧ W.ownsMap Tryz.prog 9 (plainElem Tryz.prog 3) (z + 1) pre.length (nmR al (pre.map (·.1)).reverse)) ∧ Below z w W)
  (fun _ _ _ => False)
  (OwnFrom.and (fun s A B row hs hg hr => ⟨⟨boxed_own _ _ (fun (_ : List (Fin al.length)) => Value.map (some (z + 1))) s A B row hs.1.1 hg (fun r e => (hr r e).2), boxed_own _ _ (fun (_ : List (Fin al.length)) => Value.slice a3 al.length c3) s A B row hs.1.2 hg (fun r e => (hr r e).2)⟩, hs.2.kept hg (fun e => by have := (hr _ e.symm).1; omega)⟩) (ownFrom_below (by omega) (by omega)))
  (fun _ _ _ _ _ hs _ _ => hs)
  ⟨⟨⟨bV, bS⟩, hm1⟩, hB0⟩
  (fun x a' W => ∃ Bx, z + 4 ≤ Bx ∧ Blk W Bx 77 (aliCells al[x.1]).toArray ∧ a' = { tmps := #[treeV ⟨nodes, types, al⟩ ⟨a1, c1, a2, c2, a3, c3⟩, .pointer (some ⟨z, 0, none⟩), .map none, .pointer (some ⟨z + 1 + 1, 0, none⟩), .int .i64 (x.1 : Int), .pointer (some ⟨Bx, 0, none⟩), .map (some (z + 1)), .pointer (some ⟨z, 2, none⟩), .slice a3 al.length c3, .func (.func 229) #[] #[.pointer (some ⟨z + 1 + 1 + 1, 0, none⟩)], .int .i64 (x.1 : Int), .agg (aliCells al[x.1]).toArray, undef, undef, undef, undef, undef], defers := [] })
  (fun x a' _ X Y row hs hg hr => by obtain ⟨Bx, h1, h2, h3⟩ := hs; exact ⟨Bx, h1, blk_own Bx 77 (fun (_ : Unit) => (aliCells al[x.1]).toArray) () X Y row h2 hg (fun r e => (hr r e).2), h3⟩)
  ?assign ?body ?done ?stop
 case assign =>
  rintro l pre x W K ⟨⟨⟨bV1, bS1⟩, hm1'⟩, hB1⟩ hK
  have hzW := bS1.lt
  obtain ⟨⟨nm, ty, ps⟩, hx⟩ : ∃ y, al[x.1] = y := ⟨_, rfl⟩
  simp only [encA, hx, aliCells] at hK ⊢
  gi_wp2
  exact hK _ _ ((KeepsOthers.alloc _ _).from _) (Kb.of_below ((Below.refl W.heap.size W).alloc (Nat.le_refl _) _) (by omega) (by omega)) ⟨⟨⟨bV1.alloc _, bS1.alloc _⟩, hm1'.alloc _⟩, hB1.alloc (by omega) _⟩ ⟨W.heap.size, by omega, Blk.new W 77 _, rfl⟩
 case body =>
  rintro l pre x a' W hlw _ ⟨⟨⟨bV1, bS1⟩, hown⟩, hB1⟩ ⟨Bx, hBx, hX, rfl⟩ hpl
  have hxs := hF al[x.1] (List.getElem_mem x.2)
  have hgd : al.getD x.1 ⟨noName, 0, 0⟩ = al[x.1] := by simp [List.getD_eq_getElem?_getD]
  have hfold : nmR al ((pre ++ [x]).map (·.1)).reverse = (nmR al (pre.map (·.1)).reverse).put (.string al[x.1].name.data.toList) (.lit (.int .i64 (x.1 : Int))) := by
   rw [List.map_append, List.reverse_append]
   show nmR al (x.1 :: (pre.map (·.1)).reverse) = _
   rw [nmR, hgd]
  have HF := Lib.hid hfold
  clear hfold hgd
  obtain ⟨⟨nm, ty, ps⟩, hx⟩ : ∃ y, al[x.1] = y := ⟨_, rfl⟩
  rw [hx] at hX HF hxs
  simp only [hx, aliCells] at hX HF hxs ⊢
  have e0 := hX.cell 0
  simp only [List.getElem?_toArray, List.getElem?_cons_zero] at e0
  have hcl := bV1.cell
  have hkey := WideMaps.keyOf_string_mk (P := Tryz.prog) Tryz.underlying9 (s := nm) (by unfold maxLen; omega)
  have hzW := bS1.lt
  have hxl := x.2
  gi_wp2_with (gi_at_mapUpdate; refine wpListIn_mapUpdate_own _ rfl _ _ _ 147 rfl 9 3 (Maps.string_keyed Tryz.underlying9) Tryz.underlying147 _ (z + 1) pre.length _ rfl hown (by unfold maxLen; omega) _ _ _ rfl rfl hkey _ [] (plainElem_int Tryz.underlying3 (by simp [Lit.wf, IntKind.min, IntKind.max, IntKind.signed, IntKind.bits]; omega)) ?_; intro w1 hown1 hgrow1)
  have ne : ∀ k, k ≠ z + 1 → some k ≠ some (z + 1) := fun k h e => h (by injection e)
  refine ⟨KeepsFrom.of_grownBy hgrow1 (fun j e => by cases e; omega), ⟨hgrow1.size, fun k hk => hgrow1.block k (by omega) (ne k (by omega))⟩, ⟨⟨⟨bV1.kept hgrow1 (ne _ (by omega)), bS1.kept hgrow1 (ne _ (by omega))⟩, ?_⟩, hB1.grown hgrow1 (by omega) (fun k e => by cases e; omega)⟩⟩
  rw [HF.out, List.length_append]
  exact hown1
 case done =>
  rintro D ys W hD rfl ⟨⟨⟨bV1, bS1⟩, hown⟩, hB1⟩ hK
  have hcl := bV1.cell
  gi_wp2
  refine ⟨by simp, .inl ⟨_, _, rfl, run_takeDeferred hK, ?_⟩⟩
  refine ⟨_, results_tmp rfl _ _ _, z + 1, _, _, rfl, hown.kept (grownBy_putObj' _ D _) (fun e => by cases e; omega), ?_, by omega, ?_⟩
  ·rw [rv_range]; exact means_all al
  ·rw [hz]
   exact hB1.trans (belowK_b (n₀ := z) (w := W0) (by omega) W D _ _ hD hK rfl rfl)
 case stop =>
  rintro D c pre W _ _ h _
  exact h.elim
end Go.Proofs.YtjbdgjbmbohfmaaGreatDoor
namespace Go.Proofs.YtjbdgjbmbohfmaaGreatDoor
open Go Go.Proofs Go.RowKit
section
variable {al : List AliD} {M n : Nat} {D : DataW Unit} {w : World} {s : ByteArray}
theorem look_yes (hown : w.ownsMap Tryz.prog 9 (plainElem Tryz.prog 3) M n D) (hM : Means al D) (hs : s.size ≤ 1000) {k : Nat} (hf : firstA al s = some k) :
 (Instr.lookup 147 (.map (some M)) (.string s) true).run Tryz.prog w = .ok (.tuple #[.int .i64 (k : Int), .bool true]) w := by
 obtain ⟨v, ps, hrun, hv⟩ := hown.look_ok (Maps.string_keyed Tryz.underlying9) Tryz.underlying147 (Tryz.zeroValue3 _) (zd := .lit (.int .i64 0)) (zp := []) (plainElem_int Tryz.underlying3 (by decide)) (WideMaps.keyOf_string_mk Tryz.underlying9 (s := s) (by unfold maxLen; omega))
 rw [(hM.yes s k hf).2] at hv
 rw [(hM.yes s k hf).1] at hrun
 obtain ⟨c, rfl, hc, _⟩ := plainElem_int_inv Tryz.underlying3 hv
 simp only [Prod.mk.injEq, DataW.lit.injEq, Lit.int.injEq, true_and] at hc
 rw [← hc.1] at hrun
 exact hrun
theorem look_no (hown : w.ownsMap Tryz.prog 9 (plainElem Tryz.prog 3) M n D) (hM : Means al D) (hs : s.size ≤ 1000) (hf : firstA al s = none) :
 (Instr.lookup 147 (.map (some M)) (.string s) true).run Tryz.prog w = .ok (.tuple #[.int .i64 0, .bool false]) w := by
 obtain ⟨v, ps, hrun, hv⟩ := hown.look_ok (Maps.string_keyed Tryz.underlying9) Tryz.underlying147 (Tryz.zeroValue3 _) (zd := .lit (.int .i64 0)) (zp := []) (plainElem_int Tryz.underlying3 (by decide)) (WideMaps.keyOf_string_mk Tryz.underlying9 (s := s) (by unfold maxLen; omega))
 rw [Maps.atKey_of_not_has (hM.no s hf)] at hv
 rw [hM.no s hf] at hrun
 obtain ⟨c, rfl, hc, _⟩ := plainElem_int_inv Tryz.underlying3 hv
 simp only [Prod.mk.injEq, DataW.lit.injEq, Lit.int.injEq, true_and] at hc
 rw [← hc.1] at hrun
 exact hrun
end

/-- What the walks ask of a tree's size. -/
structure Sm (t : TreeD) : Prop where
 ty : ∀ x ∈ t.types, x.name.size ≤ 1000
 al : ∀ x ∈ t.aliases, x.name.size ≤ 1000
 la : t.aliases.length ≤ 1000
 lt : t.types.length ≤ 65536
 ln : t.nodes.length ≤ 65536
 pos : ∀ x ∈ t.aliases, 0 ≤ x.type

end Go.Proofs.YtjbdgjbmbohfmaaGreatDoor
