/- Whether two trees are the same, as the document has it, at every two trees of parts of a bounded size. -/
import Derived.Test.YtinajnkjfhbmkaaGreatDoorRefQT
namespace Go.Proofs.YtinajnkjfhbmkaaGreatDoor
open Go Go.Proofs Go.RowKit

set_option maxRecDepth 100000 in
set_option maxHeartbeats 16000000 in
theorem rsame_any (a b : TreeD) (p q : Ptr6) (w : World) (hTa : TreeAt (Lt w.heap.size) w a p) (hTb : TreeAt (Lt w.heap.size) w b q) (hFa : TreeFew a) (hFb : TreeFew b)
    (hIa : ∀ x ∈ a.nodes, x.int ≤ 9223372036854775807) (hIb : ∀ x ∈ b.nodes, x.int ≤ 9223372036854775807) :
    Calls Tryz.prog 16 #[treeV a p, treeV b q] w fun e w' => e = .returned (.bool (sameB a b)) ∧ Below w.heap.size w w' := by
  have KRa := Lib.hid (fun W (h : TreeAt (Lt W.heap.size) W a p) => right_any a p W h hFa hIa)
  have KRb := Lib.hid (fun W (h : TreeAt (Lt W.heap.size) W b q) => right_any b q W h hFb hIb)
  have KY := Lib.hid (fun (hWa : Whole a) (hWb : Whole b) (k l : Nat) (hkn : k < a.types.length) (hln : l < b.types.length) (W : World) (hA : TreeAt (Lt W.heap.size) W a p) (hB : TreeAt (Lt W.heap.size) W b q) => rsY_any a b p q hWa hWb hFa hFb (k + 1) k l (by omega) hkn hln W hA hB)
  have KT := Lib.hid (fun (hWa : Whole a) (hWb : Whole b) (k l : Nat) (hkn : k < a.nodes.length) (hln : l < b.nodes.length) (W : World) (hA : TreeAt (Lt W.heap.size) W a p) (hB : TreeAt (Lt W.heap.size) W b q) => rsT_any a b p q hWa hWb hFa hFb (k + 1) k l (by omega) hkn hln W hA hB)
  obtain ⟨a1, c1, a2, c2, a3, c3⟩ := p
  obtain ⟨b1, d1, b2, d2, b3, d3⟩ := q
  have tA := hTa.2.2
  have uA := hTb.2.2
  dsimp only at tA uA
  have f5 : a.nodes.length ≤ 1000 := hFa.2.2.2.2.1
  have f6 : a.types.length ≤ 1000 := hFa.2.2.2.2.2
  have f4 : a.aliases.length ≤ 1000 := hFa.2.2.2.1
  have g5 : b.nodes.length ≤ 1000 := hFb.2.2.2.2.1
  have g6 : b.types.length ≤ 1000 := hFb.2.2.2.2.2
  have g4 : b.aliases.length ≤ 1000 := hFb.2.2.2.1
  obtain ⟨W1, hW1⟩ : ∃ W1, (w.alloc (.cells #[.slice a1 a.nodes.length c1, .slice a2 a.types.length c2, .slice a3 a.aliases.length c3] 26)).alloc (.cells #[.slice b1 b.nodes.length d1, .slice b2 b.types.length d2, .slice b3 b.aliases.length d3] 26) = W1 := ⟨_, rfl⟩
  have hB1 : Below w.heap.size w W1 := by rw [← hW1]; exact ((Below.refl _ _).alloc (Nat.le_refl _) _).alloc (by simp) _
  have hX : Blk W1 w.heap.size 26 #[.slice a1 a.nodes.length c1, .slice a2 a.types.length c2, .slice a3 a.aliases.length c3] := by rw [← hW1]; exact (Blk.new w 26 _).alloc _
  have hY : Blk W1 (w.heap.size + 1) 26 #[.slice b1 b.nodes.length d1, .slice b2 b.types.length d2, .slice b3 b.aliases.length d3] := by
    rw [← hW1]
    have := Blk.new (w.alloc (.cells #[.slice a1 a.nodes.length c1, .slice a2 a.types.length c2, .slice a3 a.aliases.length c3] 26)) 26 #[.slice b1 b.nodes.length d1, .slice b2 b.types.length d2, .slice b3 b.aliases.length d3]
    rwa [World.size_alloc] at this
  obtain ⟨r, hr⟩ : ∃ r, sameB a b = r := ⟨_, rfl⟩
  rw [hr]
  have HR := Lib.hid hr
  have hzX := hX.lt
  have hzY := hY.lt
  have HX := Lib.hid hX
  have HY := Lib.hid hY
  have HTa := Lib.hid hTa
  have HTb := Lib.hid hTb
  have HA := Lib.hid tA
  have HB := Lib.hid uA
  have kR := KRa.out W1 (tree_up HTa.out hB1)
  obtain ⟨C, hC⟩ : ∃ C, checkF a = C := ⟨_, rfl⟩
  rw [hC] at kR
  have HCa := Lib.hid hC
  unfold treeV at kR
  dsimp only at kR
  clear hX hY hTa hTb hr tA uA hC hIa hIb hFa hFb
  have x0 := HX.out.cell 0
  have x1 := HX.out.cell 1
  have x2 := HX.out.cell 2
  simp only [List.getElem?_toArray, List.getElem?_cons_zero, List.getElem?_cons_succ] at x0 x1 x2
  have y0 := HY.out.cell 0
  have y1 := HY.out.cell 1
  have y2 := HY.out.cell 2
  simp only [List.getElem?_toArray, List.getElem?_cons_zero, List.getElem?_cons_succ] at y0 y1 y2
  go_enter Tryz.func16, Tryz.ntmps16
  go_wp2_with fail
  refine kR.mono ?_
  rintro e w2 ⟨rfl, hb2⟩
  have hB2 : Below w.heap.size w w2 := hB1.trans (hb2.mono hB1.size)
  have hz2 := hB2.size
  clear hW1 kR
  cases C
  case false =>
    have hf : r = false := by rw [← HR.out]; unfold sameB; rw [HCa.out]; rfl
    subst hf
    clear HR
    go_wp2
    go_ret
    exact ⟨rfl, hB2⟩
  case true =>
  have HX2 := Lib.hid (HX.out.below hb2 hzX)
  have HY2 := Lib.hid (HY.out.below hb2 hzY)
  clear x0 x1 x2 y0 y1 y2 HX HY hzX hzY hb2
  have hzX := HX2.out.lt
  have hzY := HY2.out.lt
  have x0 := HX2.out.cell 0
  have x1 := HX2.out.cell 1
  have x2 := HX2.out.cell 2
  simp only [List.getElem?_toArray, List.getElem?_cons_zero, List.getElem?_cons_succ] at x0 x1 x2
  have y0 := HY2.out.cell 0
  have y1 := HY2.out.cell 1
  have y2 := HY2.out.cell 2
  simp only [List.getElem?_toArray, List.getElem?_cons_zero, List.getElem?_cons_succ] at y0 y1 y2
  have kR := KRb.out w2 (tree_up HTb.out hB2)
  obtain ⟨C, hC⟩ : ∃ C, checkF b = C := ⟨_, rfl⟩
  rw [hC] at kR
  have HCb := Lib.hid hC
  unfold treeV at kR
  dsimp only at kR
  clear hC
  go_wp2_with fail
  refine kR.mono ?_
  rintro e w3 ⟨rfl, hb3⟩
  have hB3 : Below w.heap.size w w3 := hB2.trans (hb3.mono hz2)
  have hz3 := hB3.size
  clear kR
  cases C
  case false =>
    have hf : r = false := by rw [← HR.out]; unfold sameB; rw [HCa.out, HCb.out]; rfl
    subst hf
    clear HR
    go_wp2
    go_ret
    exact ⟨rfl, hB3⟩
  case true =>
  have HX3 := Lib.hid (HX2.out.below hb3 hzX)
  have HY3 := Lib.hid (HY2.out.below hb3 hzY)
  clear x0 x1 x2 y0 y1 y2 HX2 HY2 hzX hzY hb3
  have hzX := HX3.out.lt
  have hzY := HY3.out.lt
  have x0 := HX3.out.cell 0
  have x1 := HX3.out.cell 1
  have x2 := HX3.out.cell 2
  simp only [List.getElem?_toArray, List.getElem?_cons_zero, List.getElem?_cons_succ] at x0 x1 x2
  have y0 := HY3.out.cell 0
  have y1 := HY3.out.cell 1
  have y2 := HY3.out.cell 2
  simp only [List.getElem?_toArray, List.getElem?_cons_zero, List.getElem?_cons_succ] at y0 y1 y2
  have HWa := Lib.hid ((checkF_iff a).1 HCa.out)
  have HWb := Lib.hid ((checkF_iff b).1 HCb.out)
  have HRR : Hid (r = (all2 (fun x y => smA x y && same (atY a b) (tyK a) (tyK b) x.type.toNat y.type.toNat) a.aliases b.aliases && same (rT a b) (tmK a) (tmK b) (a.nodes.length - 1) (b.nodes.length - 1))) := Lib.hid (by rw [← HR.out]; exact sameB_ref HWa.out HWb.out)
  clear HR
  by_cases hlen : a.aliases.length = b.aliases.length
  case neg =>
    have hf : r = false := by rw [HRR.out, all2_long hlen]; rfl
    subst hf
    have hne : ((a.aliases.length : Int) != (b.aliases.length : Int)) = true := by rw [bne_iff_ne]; omega
    clear HRR hlen
    go_wp2
    go_ret
    exact ⟨rfl, hB3⟩
  case pos =>
  have hne : ((a.aliases.length : Int) != (b.aliases.length : Int)) = false := by rw [bne_eq_false_iff_eq]; omega
  have HLEN := Lib.hid hlen
  have hrgA : ∀ x ∈ a.aliases, 0 ≤ x.type ∧ x.type < (a.types.length : Int) := fun x hx => ⟨(HWa.out.rng.ali x hx).1, (HWa.out.rng.ali x hx).2.1⟩
  have hrgB : ∀ x ∈ b.aliases, 0 ≤ x.type ∧ x.type < (b.types.length : Int) := fun x hx => ⟨(HWb.out.rng.ali x hx).1, (HWb.out.rng.ali x hx).2.1⟩
  have HRA := Lib.hid hrgA
  have HRB := Lib.hid hrgB
  have hone := HWa.out.rng.one
  have hone' := HWb.out.rng.one
  clear hlen hrgA hrgB
  go_wp2
  go_loopw [5, 26] (fun _ k0 wr => ∃ (k : Nat), k ≤ a.aliases.length ∧ k0 = .int .i64 k ∧ Hid (all2 (fun x y => smA x y && same (atY a b) (tyK a) (tyK b) x.type.toNat y.type.toNat) (a.aliases.take k) (b.aliases.take k) = true) ∧ Below w3.heap.size w3 wr) (fun _ k0 _ => a.aliases.length - (intOf k0).toNat)
  case atStart => exact ⟨0, Nat.zero_le _, rfl, Lib.hid (by simp [all2]), Below.refl _ _⟩
  case round =>
    obtain ⟨k, hk, rfl, HT, hB⟩ := hrel
    have hBr : Below w.heap.size w wr := hB3.trans (hB.mono hz3)
    have hzr := hB.size
    have hbr := hBr.size
    have HXr := Lib.hid (HX3.out.below hB hzX)
    have HYr := Lib.hid (HY3.out.below hB hzY)
    have xl := HXr.out.lt
    have yl := HYr.out.lt
    clear x0 x1 x2 y0 y1 y2
    by_cases hlt : k < a.aliases.length
    · have hlt' : k < b.aliases.length := by have := HLEN.out; omega
      have HGOOD := Lib.hid (all2_take (f := (fun x y => smA x y && same (atY a b) (tyK a) (tyK b) x.type.toNat y.type.toNat)) hlt hlt' HT.out)
      have HBAD := Lib.hid (all2_bad (f := (fun x y => smA x y && same (atY a b) (tyK a) (tyK b) x.type.toNat y.type.toNat)) hlt hlt')
      obtain ⟨ba, oa, rfl, hba, hca⟩ := HA.out (by omega)
      obtain ⟨bb, ob, rfl, hbb, hcb⟩ := HB.out (by omega)
      have hqa := hca k _ (List.getElem?_eq_getElem hlt)
      have hqb := hcb k _ (List.getElem?_eq_getElem hlt')
      have hz1 := HRA.out _ (List.getElem_mem hlt)
      have hz2' := HRB.out _ (List.getElem_mem hlt')
      obtain ⟨x, hx⟩ : ∃ x, a.aliases[k] = x := ⟨_, rfl⟩
      obtain ⟨y, hy⟩ : ∃ y, b.aliases[k] = y := ⟨_, rfl⟩
      rw [hx] at hqa hz1
      rw [hy] at hqb hz2'
      rw [hx, hy] at HGOOD HBAD
      obtain ⟨nx, tx, px⟩ := x
      obtain ⟨ny, ty, py⟩ := y
      dsimp only at hz1 hz2' HGOOD HBAD
      have e0 := (hBr.cell (p := ⟨ba, oa + k * 3, none⟩) hba).trans (hqa 0 _ rfl)
      have e1 := (hBr.cell (p := ⟨ba, oa + k * 3 + 1, none⟩) hba).trans (hqa 1 _ rfl)
      have l0 := (hBr.cell (p := ⟨bb, ob + k * 3, none⟩) hbb).trans (hqb 0 _ rfl)
      have l1 := (hBr.cell (p := ⟨bb, ob + k * 3 + 1, none⟩) hbb).trans (hqb 1 _ rfl)
      obtain ⟨k1, hk1⟩ : ∃ n : Nat, tx = (n : Int) := ⟨tx.toNat, by omega⟩
      obtain ⟨k2, hk2⟩ : ∃ n : Nat, ty = (n : Int) := ⟨ty.toNat, by omega⟩
      subst hk1
      subst hk2
      rw [Int.toNat_natCast, Int.toNat_natCast] at HGOOD HBAD
      have kI : Hid (∀ W, Below wr.heap.size wr W → Calls Tryz.prog 45 #[treeV a ⟨a1, c1, a2, c2, some ⟨ba, oa, none⟩, c3⟩, .int .i64 (k1 : Int), treeV b ⟨b1, d1, b2, d2, some ⟨bb, ob, none⟩, d3⟩, .int .i64 (k2 : Int)] W fun e w' => e = .returned (.bool (same (atY a b) (tyK a) (tyK b) k1 k2)) ∧ Below W.heap.size W w') := Lib.hid fun W hW => KY.out HWa.out HWb.out k1 k2 (by omega) (by omega) W (tree_up HTa.out (hBr.trans (hW.mono hBr.size))) (tree_up HTb.out (hBr.trans (hW.mono hBr.size)))
      obtain ⟨Q, hQ⟩ : ∃ Q, same (atY a b) (tyK a) (tyK b) k1 k2 = Q := ⟨_, rfl⟩
      rw [hQ] at kI HGOOD HBAD
      unfold treeV at kI
      dsimp only at kI
      have HSS : Hid (∀ W, Below wr.heap.size wr W → (fun W => W.cell? ⟨w.heap.size, 0, none⟩ = some (.slice a1 a.nodes.length c1) ∧ W.cell? ⟨w.heap.size, 1, none⟩ = some (.slice a2 a.types.length c2) ∧ W.cell? ⟨w.heap.size, 2, none⟩ = some (.slice (some ⟨ba, oa, none⟩) a.aliases.length c3) ∧ W.cell? ⟨w.heap.size + 1, 0, none⟩ = some (.slice b1 b.nodes.length d1) ∧ W.cell? ⟨w.heap.size + 1, 1, none⟩ = some (.slice b2 b.types.length d2) ∧ W.cell? ⟨w.heap.size + 1, 2, none⟩ = some (.slice (some ⟨bb, ob, none⟩) b.aliases.length d3) ∧ W.cell? ⟨ba, oa + k * 3, none⟩ = some (.string nx) ∧ W.cell? ⟨bb, ob + k * 3, none⟩ = some (.string ny) ∧ W.cell? ⟨ba, oa + k * 3 + 1, none⟩ = some (.int .i64 (k1 : Int)) ∧ W.cell? ⟨bb, ob + k * 3 + 1, none⟩ = some (.int .i64 (k2 : Int)) ∧ Below wr.heap.size wr W) W) := Lib.hid fun W hW => by
        have A := HXr.out.below hW xl
        have B := HYr.out.below hW yl
        have A0 := A.cell 0
        have A1 := A.cell 1
        have A2 := A.cell 2
        have B0 := B.cell 0
        have B1 := B.cell 1
        have B2 := B.cell 2
        simp only [List.getElem?_toArray, List.getElem?_cons_zero, List.getElem?_cons_succ] at A0 A1 A2 B0 B1 B2
        exact ⟨A0, A1, A2, B0, B1, B2, (hW.cell (p := ⟨ba, _, none⟩) (by dsimp only; omega)).trans e0, (hW.cell (p := ⟨bb, _, none⟩) (by dsimp only; omega)).trans l0, (hW.cell (p := ⟨ba, _, none⟩) (by dsimp only; omega)).trans e1, (hW.cell (p := ⟨bb, _, none⟩) (by dsimp only; omega)).trans l1, hW⟩
      have i1 : (0 : Int) ≤ (k : Int) := by omega
      have i2 : (k : Int) < (a.aliases.length : Int) := by omega
      have i3 : (k : Int) < (b.aliases.length : Int) := by omega
      have hB0 := Below.refl wr.heap.size wr
      have hsm : smA ⟨nx, (k1 : Int), px⟩ ⟨ny, (k2 : Int), py⟩ = decide (nx = ny) := rfl
      rw [hsm] at HGOOD HBAD
      have hba' : ba < wr.heap.size := Nat.lt_of_lt_of_le hba hbr
      have hbb' : bb < wr.heap.size := Nat.lt_of_lt_of_le hbb hbr
      clear hQ hx hy e0 e1 l0 l1 hqa hqb hca hcb hsm hba hbb hne
      by_cases hnm : nx = ny
      case neg =>
        have hq1 : (nx.toList != ny.toList) = true := by rw [bne_iff_ne]; exact fun h => hnm (toList_inj h)
        have hq2 : (nx.toList == ny.toList) = false := by rw [beq_eq_false_iff_ne]; exact fun h => hnm (toList_inj h)
        have HF : Hid (r = false) := Lib.hid (by rw [HRR.out, HBAD.out (by rw [decide_eq_false hnm]; rfl)]; rfl)
        clear HBAD HGOOD hnm
        go_wp2_with fail
        refine wp_region_noPanic ?_
        refine wp_region_held_drew (S := fun W => W.cell? ⟨w.heap.size, 0, none⟩ = some (.slice a1 a.nodes.length c1) ∧ W.cell? ⟨w.heap.size, 1, none⟩ = some (.slice a2 a.types.length c2) ∧ W.cell? ⟨w.heap.size, 2, none⟩ = some (.slice (some ⟨ba, oa, none⟩) a.aliases.length c3) ∧ W.cell? ⟨w.heap.size + 1, 0, none⟩ = some (.slice b1 b.nodes.length d1) ∧ W.cell? ⟨w.heap.size + 1, 1, none⟩ = some (.slice b2 b.types.length d2) ∧ W.cell? ⟨w.heap.size + 1, 2, none⟩ = some (.slice (some ⟨bb, ob, none⟩) b.aliases.length d3) ∧ W.cell? ⟨ba, oa + k * 3, none⟩ = some (.string nx) ∧ W.cell? ⟨bb, ob + k * 3, none⟩ = some (.string ny) ∧ W.cell? ⟨ba, oa + k * 3 + 1, none⟩ = some (.int .i64 (k1 : Int)) ∧ W.cell? ⟨bb, ob + k * 3 + 1, none⟩ = some (.int .i64 (k2 : Int)) ∧ Below wr.heap.size wr W) (by kernel_rfl) (HSS.out _ (Below.drew hB0)) (fun hHeld => ?_)
        refine wpAnyH_take (i := 0) (v := ?vn1) (by simp only [List.getElem?_toArray, List.getElem?_cons_zero]; rfl) (by kernel_rfl) (by kernel_rfl) (by kernel_rfl) (fun _ _ _ h => h) (Or.inl ⟨by rfl, ?hyn1⟩) (by assumption) ?restn1
        case hyn1 => (intro w hSw; (try dsimp only at hSw); go_simp; try with_reducible rfl)
        try simp only [Act.put, List.setIfInBounds_toArray, List.set_cons_zero, List.set_cons_succ]
        refine wpAnyH_take (i := 1) (v := ?vn2) (by simp only [List.getElem?_toArray, List.getElem?_cons_zero, List.getElem?_cons_succ]; rfl) (by kernel_rfl) (by kernel_rfl) (by kernel_rfl) (fun _ _ _ h => h) (Or.inl ⟨by rfl, ?hyn2⟩) (by assumption) ?restn2
        case hyn2 => (intro w hSw; (try dsimp only at hSw); go_simp; try with_reducible rfl)
        try simp only [Act.put, List.setIfInBounds_toArray, List.set_cons_zero, List.set_cons_succ]
        refine wpAnyH_take (i := 2) (v := ?vn3) (by simp only [List.getElem?_toArray, List.getElem?_cons_zero, List.getElem?_cons_succ]; rfl) (by kernel_rfl) (by kernel_rfl) (by kernel_rfl) (fun _ _ _ h => h) (Or.inl ⟨by rfl, ?hyn3⟩) (by assumption) ?restn3
        case hyn3 => (intro w hSw; (try dsimp only at hSw); go_simp; try with_reducible rfl)
        try simp only [Act.put, List.setIfInBounds_toArray, List.set_cons_zero, List.set_cons_succ]
        refine wpAnyH_take (i := 3) (v := ?vn4) (by simp only [List.getElem?_toArray, List.getElem?_cons_zero, List.getElem?_cons_succ]; rfl) (by kernel_rfl) (by kernel_rfl) (by kernel_rfl) (fun _ _ _ h => h) (Or.inl ⟨by rfl, ?hyn4⟩) (by assumption) ?restn4
        case hyn4 => (intro w hSw; (try dsimp only at hSw); go_simp; try with_reducible rfl)
        try simp only [Act.put, List.setIfInBounds_toArray, List.set_cons_zero, List.set_cons_succ]
        refine wpAnyH_take (i := 4) (v := ?vn5) (by simp only [List.getElem?_toArray, List.getElem?_cons_zero, List.getElem?_cons_succ]; rfl) (by kernel_rfl) (by kernel_rfl) (by kernel_rfl) (fun _ _ _ h => h) (Or.inl ⟨by rfl, ?hyn5⟩) (by assumption) ?restn5
        case hyn5 => (intro w hSw; (try dsimp only at hSw); go_simp; try with_reducible rfl)
        try simp only [Act.put, List.setIfInBounds_toArray, List.set_cons_zero, List.set_cons_succ]
        refine wpAnyH_take (i := 5) (v := ?vn6) (by simp only [List.getElem?_toArray, List.getElem?_cons_zero, List.getElem?_cons_succ]; rfl) (by kernel_rfl) (by kernel_rfl) (by kernel_rfl) (fun _ _ _ h => h) (Or.inl ⟨by rfl, ?hyn6⟩) (by assumption) ?restn6
        case hyn6 => (intro w hSw; (try dsimp only at hSw); go_simp; try with_reducible rfl)
        try simp only [Act.put, List.setIfInBounds_toArray, List.set_cons_zero, List.set_cons_succ]
        refine wpAnyH_take (i := 6) (v := ?vn7) (by simp only [List.getElem?_toArray, List.getElem?_cons_zero, List.getElem?_cons_succ]; rfl) (by kernel_rfl) (by kernel_rfl) (by kernel_rfl) (fun _ _ _ h => h) (Or.inl ⟨by rfl, ?hyn7⟩) (by assumption) ?restn7
        case hyn7 => (intro w hSw; (try dsimp only at hSw); go_simp; try with_reducible rfl)
        try simp only [Act.put, List.setIfInBounds_toArray, List.set_cons_zero, List.set_cons_succ]
        refine wpAnyH_take (i := 7) (v := ?vn8) (by simp only [List.getElem?_toArray, List.getElem?_cons_zero, List.getElem?_cons_succ]; rfl) (by kernel_rfl) (by kernel_rfl) (by kernel_rfl) (fun _ _ _ h => h) (Or.inl ⟨by rfl, ?hyn8⟩) (by assumption) ?restn8
        case hyn8 => (intro w hSw; (try dsimp only at hSw); go_simp; try with_reducible rfl)
        try simp only [Act.put, List.setIfInBounds_toArray, List.set_cons_zero, List.set_cons_succ]
        refine wpAnyH_take (i := 8) (v := ?vn9) (by simp only [List.getElem?_toArray, List.getElem?_cons_zero, List.getElem?_cons_succ]; rfl) (by kernel_rfl) (by kernel_rfl) (by kernel_rfl) (fun _ _ _ h => h) (Or.inl ⟨by rfl, ?hyn9⟩) (by assumption) ?restn9
        case hyn9 => (intro w hSw; (try dsimp only at hSw); go_simp; try with_reducible rfl)
        try simp only [Act.put, List.setIfInBounds_toArray, List.set_cons_zero, List.set_cons_succ]
        refine wpAnyH_take (i := 9) (v := ?vn10) (by simp only [List.getElem?_toArray, List.getElem?_cons_zero, List.getElem?_cons_succ]; rfl) (by kernel_rfl) (by kernel_rfl) (by kernel_rfl) (fun _ _ _ h => h) (Or.inl ⟨by rfl, ?hyn10⟩) (by assumption) ?restn10
        case hyn10 => (intro w hSw; (try dsimp only at hSw); go_simp; try with_reducible rfl)
        try simp only [Act.put, List.setIfInBounds_toArray, List.set_cons_zero, List.set_cons_succ]
        refine wpAnyH_take (i := 10) (v := ?vn11) (by simp only [List.getElem?_toArray, List.getElem?_cons_zero, List.getElem?_cons_succ]; rfl) (by kernel_rfl) (by kernel_rfl) (by kernel_rfl) (fun _ _ _ h => h) (Or.inl ⟨by rfl, ?hyn11⟩) (by assumption) ?restn11
        case hyn11 => (intro w hSw; (try dsimp only at hSw); go_simp; try with_reducible rfl)
        try simp only [Act.put, List.setIfInBounds_toArray, List.set_cons_zero, List.set_cons_succ]
        refine wpAnyH_take (i := 11) (v := ?vn12) (by simp only [List.getElem?_toArray, List.getElem?_cons_zero, List.getElem?_cons_succ]; rfl) (by kernel_rfl) (by kernel_rfl) (by kernel_rfl) (fun _ _ _ h => h) (Or.inl ⟨by rfl, ?hyn12⟩) (by assumption) ?restn12
        case hyn12 => (intro w hSw; (try dsimp only at hSw); go_simp; try with_reducible rfl)
        try simp only [Act.put, List.setIfInBounds_toArray, List.set_cons_zero, List.set_cons_succ]
        refine wpAnyH_take (i := 12) (v := ?vn13) (by simp only [List.getElem?_toArray, List.getElem?_cons_zero, List.getElem?_cons_succ]; rfl) (by kernel_rfl) (by kernel_rfl) (by kernel_rfl) (fun _ _ _ h => h) (Or.inl ⟨by rfl, ?hyn13⟩) (by assumption) ?restn13
        case hyn13 => (intro w hSw; (try dsimp only at hSw); go_simp; try with_reducible rfl)
        try simp only [Act.put, List.setIfInBounds_toArray, List.set_cons_zero, List.set_cons_succ]
        refine wpAnyH_take (i := 13) (v := ?vn14) (by simp only [List.getElem?_toArray, List.getElem?_cons_zero, List.getElem?_cons_succ]; rfl) (by kernel_rfl) (by kernel_rfl) (by kernel_rfl) (fun _ _ _ h => h) (Or.inl ⟨by rfl, ?hyn14⟩) (by assumption) ?restn14
        case hyn14 => (intro w hSw; (try dsimp only at hSw); go_simp; try with_reducible rfl)
        try simp only [Act.put, List.setIfInBounds_toArray, List.set_cons_zero, List.set_cons_succ]
        refine wpAnyH_take (i := 14) (v := undef) (by simp only [List.getElem?_toArray, List.getElem?_cons_zero, List.getElem?_cons_succ]; rfl) (by kernel_rfl) (by kernel_rfl) (by kernel_rfl) (fun _ _ _ h => h) (Or.inr ⟨by rfl, rfl⟩) (by assumption) ?restn15
        try simp only [Act.put, List.setIfInBounds_toArray, List.set_cons_zero, List.set_cons_succ]
        refine wpAnyH_take (i := 15) (v := undef) (by simp only [List.getElem?_toArray, List.getElem?_cons_zero, List.getElem?_cons_succ]; rfl) (by kernel_rfl) (by kernel_rfl) (by kernel_rfl) (fun _ _ _ h => h) (Or.inr ⟨by rfl, rfl⟩) (by assumption) ?restn16
        try simp only [Act.put, List.setIfInBounds_toArray, List.set_cons_zero, List.set_cons_succ]
        refine wpAnyH_take (i := 16) (v := undef) (by simp only [List.getElem?_toArray, List.getElem?_cons_zero, List.getElem?_cons_succ]; rfl) (by kernel_rfl) (by kernel_rfl) (by kernel_rfl) (fun _ _ _ h => h) (Or.inr ⟨by rfl, rfl⟩) (by assumption) ?restn17
        try simp only [Act.put, List.setIfInBounds_toArray, List.set_cons_zero, List.set_cons_succ]
        refine wpAnyH_take (i := 17) (v := undef) (by simp only [List.getElem?_toArray, List.getElem?_cons_zero, List.getElem?_cons_succ]; rfl) (by kernel_rfl) (by kernel_rfl) (by kernel_rfl) (fun _ _ _ h => h) (Or.inr ⟨by rfl, rfl⟩) (by assumption) ?restn18
        try simp only [Act.put, List.setIfInBounds_toArray, List.set_cons_zero, List.set_cons_succ]
        refine wpAnyH_take (i := 18) (v := undef) (by simp only [List.getElem?_toArray, List.getElem?_cons_zero, List.getElem?_cons_succ]; rfl) (by kernel_rfl) (by kernel_rfl) (by kernel_rfl) (fun _ _ _ h => h) (Or.inr ⟨by rfl, rfl⟩) (by assumption) ?restn19
        try simp only [Act.put, List.setIfInBounds_toArray, List.set_cons_zero, List.set_cons_succ]
        refine wpAnyH_take (i := 19) (v := undef) (by simp only [List.getElem?_toArray, List.getElem?_cons_zero, List.getElem?_cons_succ]; rfl) (by kernel_rfl) (by kernel_rfl) (by kernel_rfl) (fun _ _ _ h => h) (Or.inr ⟨by rfl, rfl⟩) (by assumption) ?restn20
        try simp only [Act.put, List.setIfInBounds_toArray, List.set_cons_zero, List.set_cons_succ]
        refine wpAnyH_take (i := 20) (v := undef) (by simp only [List.getElem?_toArray, List.getElem?_cons_zero, List.getElem?_cons_succ]; rfl) (by kernel_rfl) (by kernel_rfl) (by kernel_rfl) (fun _ _ _ h => h) (Or.inr ⟨by rfl, rfl⟩) (by assumption) ?restn21
        try simp only [Act.put, List.setIfInBounds_toArray, List.set_cons_zero, List.set_cons_succ]
        refine wpAnyH_take (i := 21) (v := undef) (by simp only [List.getElem?_toArray, List.getElem?_cons_zero, List.getElem?_cons_succ]; rfl) (by kernel_rfl) (by kernel_rfl) (by kernel_rfl) (fun _ _ _ h => h) (Or.inr ⟨by rfl, rfl⟩) (by assumption) ?restn22
        try simp only [Act.put, List.setIfInBounds_toArray, List.set_cons_zero, List.set_cons_succ]
        refine wpAnyH_take (i := 22) (v := undef) (by simp only [List.getElem?_toArray, List.getElem?_cons_zero, List.getElem?_cons_succ]; rfl) (by kernel_rfl) (by kernel_rfl) (by kernel_rfl) (fun _ _ _ h => h) (Or.inr ⟨by rfl, rfl⟩) (by assumption) ?restn23
        try simp only [Act.put, List.setIfInBounds_toArray, List.set_cons_zero, List.set_cons_succ]
        refine wpAnyH_take (i := 23) (v := undef) (by simp only [List.getElem?_toArray, List.getElem?_cons_zero, List.getElem?_cons_succ]; rfl) (by kernel_rfl) (by kernel_rfl) (by kernel_rfl) (fun _ _ _ h => h) (Or.inr ⟨by rfl, rfl⟩) (by assumption) ?restn24
        try simp only [Act.put, List.setIfInBounds_toArray, List.set_cons_zero, List.set_cons_succ]
        refine wpAnyH_take (i := 24) (v := undef) (by simp only [List.getElem?_toArray, List.getElem?_cons_zero, List.getElem?_cons_succ]; rfl) (by kernel_rfl) (by kernel_rfl) (by kernel_rfl) (fun _ _ _ h => h) (Or.inr ⟨by rfl, rfl⟩) (by assumption) ?restn25
        try simp only [Act.put, List.setIfInBounds_toArray, List.set_cons_zero, List.set_cons_succ]
        refine wpAnyH_take (i := 25) (v := undef) (by simp only [List.getElem?_toArray, List.getElem?_cons_zero, List.getElem?_cons_succ]; rfl) (by kernel_rfl) (by kernel_rfl) (by kernel_rfl) (fun _ _ _ h => h) (Or.inr ⟨by rfl, rfl⟩) (by assumption) ?restn26
        try simp only [Act.put, List.setIfInBounds_toArray, List.set_cons_zero, List.set_cons_succ]
        refine wpAnyH_take (i := 26) (v := undef) (by simp only [List.getElem?_toArray, List.getElem?_cons_zero, List.getElem?_cons_succ]; rfl) (by kernel_rfl) (by kernel_rfl) (by kernel_rfl) (fun _ _ _ h => h) (Or.inr ⟨by rfl, rfl⟩) (by assumption) ?restn27
        try simp only [Act.put, List.setIfInBounds_toArray, List.set_cons_zero, List.set_cons_succ]
        refine wpAnyH_take (i := 27) (v := undef) (by simp only [List.getElem?_toArray, List.getElem?_cons_zero, List.getElem?_cons_succ]; rfl) (by kernel_rfl) (by kernel_rfl) (by kernel_rfl) (fun _ _ _ h => h) (Or.inr ⟨by rfl, rfl⟩) (by assumption) ?restn28
        try simp only [Act.put, List.setIfInBounds_toArray, List.set_cons_zero, List.set_cons_succ]
        refine wpAnyH_take (i := 28) (v := undef) (by simp only [List.getElem?_toArray, List.getElem?_cons_zero, List.getElem?_cons_succ]; rfl) (by kernel_rfl) (by kernel_rfl) (by kernel_rfl) (fun _ _ _ h => h) (Or.inr ⟨by rfl, rfl⟩) (by assumption) ?restn29
        try simp only [Act.put, List.setIfInBounds_toArray, List.set_cons_zero, List.set_cons_succ]
        refine wpAnyH_take (i := 29) (v := undef) (by simp only [List.getElem?_toArray, List.getElem?_cons_zero, List.getElem?_cons_succ]; rfl) (by kernel_rfl) (by kernel_rfl) (by kernel_rfl) (fun _ _ _ h => h) (Or.inr ⟨by rfl, rfl⟩) (by assumption) ?restn30
        try simp only [Act.put, List.setIfInBounds_toArray, List.set_cons_zero, List.set_cons_succ]
        refine wpAnyH_take (i := 30) (v := ?vn31) (by simp only [List.getElem?_toArray, List.getElem?_cons_zero, List.getElem?_cons_succ]; rfl) (by kernel_rfl) (by kernel_rfl) (by kernel_rfl) (fun _ _ _ h => h) (Or.inl ⟨by rfl, ?hyn31⟩) (by assumption) ?restn31
        case hyn31 => (intro w hSw; (try dsimp only at hSw); go_simp; try with_reducible rfl)
        try simp only [Act.put, List.setIfInBounds_toArray, List.set_cons_zero, List.set_cons_succ]
        refine wpAnyH_done (by kernel_rfl) ?_ _
        refine NoPanic.normal ?_
        go_wp2
        go_ret
        exact ⟨ret_bool HF.out.symm, hBr.trans (Below.drew (Below.refl _ _))⟩
      case pos =>
        subst hnm
        have hq1 : (nx.toList != nx.toList) = false := by simp
        rw [decide_eq_true rfl, Bool.true_and] at HGOOD HBAD
        go_wp2_with fail
        refine wp_region_noPanic ?_
        refine wp_region_held_drew (S := fun W => W.cell? ⟨w.heap.size, 0, none⟩ = some (.slice a1 a.nodes.length c1) ∧ W.cell? ⟨w.heap.size, 1, none⟩ = some (.slice a2 a.types.length c2) ∧ W.cell? ⟨w.heap.size, 2, none⟩ = some (.slice (some ⟨ba, oa, none⟩) a.aliases.length c3) ∧ W.cell? ⟨w.heap.size + 1, 0, none⟩ = some (.slice b1 b.nodes.length d1) ∧ W.cell? ⟨w.heap.size + 1, 1, none⟩ = some (.slice b2 b.types.length d2) ∧ W.cell? ⟨w.heap.size + 1, 2, none⟩ = some (.slice (some ⟨bb, ob, none⟩) b.aliases.length d3) ∧ W.cell? ⟨ba, oa + k * 3, none⟩ = some (.string nx) ∧ W.cell? ⟨bb, ob + k * 3, none⟩ = some (.string nx) ∧ W.cell? ⟨ba, oa + k * 3 + 1, none⟩ = some (.int .i64 (k1 : Int)) ∧ W.cell? ⟨bb, ob + k * 3 + 1, none⟩ = some (.int .i64 (k2 : Int)) ∧ Below wr.heap.size wr W) (by kernel_rfl) (HSS.out _ (Below.drew hB0)) (fun hHeld => ?_)
        refine wpAnyH_take (i := 0) (v := ?vp1) (by simp only [List.getElem?_toArray, List.getElem?_cons_zero]; rfl) (by kernel_rfl) (by kernel_rfl) (by kernel_rfl) (fun _ _ _ h => h) (Or.inl ⟨by rfl, ?hyp1⟩) (by assumption) ?restp1
        case hyp1 => (intro w hSw; (try dsimp only at hSw); go_simp; try with_reducible rfl)
        try simp only [Act.put, List.setIfInBounds_toArray, List.set_cons_zero, List.set_cons_succ]
        refine wpAnyH_take (i := 1) (v := ?vp2) (by simp only [List.getElem?_toArray, List.getElem?_cons_zero, List.getElem?_cons_succ]; rfl) (by kernel_rfl) (by kernel_rfl) (by kernel_rfl) (fun _ _ _ h => h) (Or.inl ⟨by rfl, ?hyp2⟩) (by assumption) ?restp2
        case hyp2 => (intro w hSw; (try dsimp only at hSw); go_simp; try with_reducible rfl)
        try simp only [Act.put, List.setIfInBounds_toArray, List.set_cons_zero, List.set_cons_succ]
        refine wpAnyH_take (i := 2) (v := ?vp3) (by simp only [List.getElem?_toArray, List.getElem?_cons_zero, List.getElem?_cons_succ]; rfl) (by kernel_rfl) (by kernel_rfl) (by kernel_rfl) (fun _ _ _ h => h) (Or.inl ⟨by rfl, ?hyp3⟩) (by assumption) ?restp3
        case hyp3 => (intro w hSw; (try dsimp only at hSw); go_simp; try with_reducible rfl)
        try simp only [Act.put, List.setIfInBounds_toArray, List.set_cons_zero, List.set_cons_succ]
        refine wpAnyH_take (i := 3) (v := ?vp4) (by simp only [List.getElem?_toArray, List.getElem?_cons_zero, List.getElem?_cons_succ]; rfl) (by kernel_rfl) (by kernel_rfl) (by kernel_rfl) (fun _ _ _ h => h) (Or.inl ⟨by rfl, ?hyp4⟩) (by assumption) ?restp4
        case hyp4 => (intro w hSw; (try dsimp only at hSw); go_simp; try with_reducible rfl)
        try simp only [Act.put, List.setIfInBounds_toArray, List.set_cons_zero, List.set_cons_succ]
        refine wpAnyH_take (i := 4) (v := ?vp5) (by simp only [List.getElem?_toArray, List.getElem?_cons_zero, List.getElem?_cons_succ]; rfl) (by kernel_rfl) (by kernel_rfl) (by kernel_rfl) (fun _ _ _ h => h) (Or.inl ⟨by rfl, ?hyp5⟩) (by assumption) ?restp5
        case hyp5 => (intro w hSw; (try dsimp only at hSw); go_simp; try with_reducible rfl)
        try simp only [Act.put, List.setIfInBounds_toArray, List.set_cons_zero, List.set_cons_succ]
        refine wpAnyH_take (i := 5) (v := ?vp6) (by simp only [List.getElem?_toArray, List.getElem?_cons_zero, List.getElem?_cons_succ]; rfl) (by kernel_rfl) (by kernel_rfl) (by kernel_rfl) (fun _ _ _ h => h) (Or.inl ⟨by rfl, ?hyp6⟩) (by assumption) ?restp6
        case hyp6 => (intro w hSw; (try dsimp only at hSw); go_simp; try with_reducible rfl)
        try simp only [Act.put, List.setIfInBounds_toArray, List.set_cons_zero, List.set_cons_succ]
        refine wpAnyH_take (i := 6) (v := ?vp7) (by simp only [List.getElem?_toArray, List.getElem?_cons_zero, List.getElem?_cons_succ]; rfl) (by kernel_rfl) (by kernel_rfl) (by kernel_rfl) (fun _ _ _ h => h) (Or.inl ⟨by rfl, ?hyp7⟩) (by assumption) ?restp7
        case hyp7 => (intro w hSw; (try dsimp only at hSw); go_simp; try with_reducible rfl)
        try simp only [Act.put, List.setIfInBounds_toArray, List.set_cons_zero, List.set_cons_succ]
        refine wpAnyH_take (i := 7) (v := ?vp8) (by simp only [List.getElem?_toArray, List.getElem?_cons_zero, List.getElem?_cons_succ]; rfl) (by kernel_rfl) (by kernel_rfl) (by kernel_rfl) (fun _ _ _ h => h) (Or.inl ⟨by rfl, ?hyp8⟩) (by assumption) ?restp8
        case hyp8 => (intro w hSw; (try dsimp only at hSw); go_simp; try with_reducible rfl)
        try simp only [Act.put, List.setIfInBounds_toArray, List.set_cons_zero, List.set_cons_succ]
        refine wpAnyH_take (i := 8) (v := ?vp9) (by simp only [List.getElem?_toArray, List.getElem?_cons_zero, List.getElem?_cons_succ]; rfl) (by kernel_rfl) (by kernel_rfl) (by kernel_rfl) (fun _ _ _ h => h) (Or.inl ⟨by rfl, ?hyp9⟩) (by assumption) ?restp9
        case hyp9 => (intro w hSw; (try dsimp only at hSw); go_simp; try with_reducible rfl)
        try simp only [Act.put, List.setIfInBounds_toArray, List.set_cons_zero, List.set_cons_succ]
        refine wpAnyH_take (i := 9) (v := ?vp10) (by simp only [List.getElem?_toArray, List.getElem?_cons_zero, List.getElem?_cons_succ]; rfl) (by kernel_rfl) (by kernel_rfl) (by kernel_rfl) (fun _ _ _ h => h) (Or.inl ⟨by rfl, ?hyp10⟩) (by assumption) ?restp10
        case hyp10 => (intro w hSw; (try dsimp only at hSw); go_simp; try with_reducible rfl)
        try simp only [Act.put, List.setIfInBounds_toArray, List.set_cons_zero, List.set_cons_succ]
        refine wpAnyH_take (i := 10) (v := ?vp11) (by simp only [List.getElem?_toArray, List.getElem?_cons_zero, List.getElem?_cons_succ]; rfl) (by kernel_rfl) (by kernel_rfl) (by kernel_rfl) (fun _ _ _ h => h) (Or.inl ⟨by rfl, ?hyp11⟩) (by assumption) ?restp11
        case hyp11 => (intro w hSw; (try dsimp only at hSw); go_simp; try with_reducible rfl)
        try simp only [Act.put, List.setIfInBounds_toArray, List.set_cons_zero, List.set_cons_succ]
        refine wpAnyH_take (i := 11) (v := ?vp12) (by simp only [List.getElem?_toArray, List.getElem?_cons_zero, List.getElem?_cons_succ]; rfl) (by kernel_rfl) (by kernel_rfl) (by kernel_rfl) (fun _ _ _ h => h) (Or.inl ⟨by rfl, ?hyp12⟩) (by assumption) ?restp12
        case hyp12 => (intro w hSw; (try dsimp only at hSw); go_simp; try with_reducible rfl)
        try simp only [Act.put, List.setIfInBounds_toArray, List.set_cons_zero, List.set_cons_succ]
        refine wpAnyH_take (i := 12) (v := ?vp13) (by simp only [List.getElem?_toArray, List.getElem?_cons_zero, List.getElem?_cons_succ]; rfl) (by kernel_rfl) (by kernel_rfl) (by kernel_rfl) (fun _ _ _ h => h) (Or.inl ⟨by rfl, ?hyp13⟩) (by assumption) ?restp13
        case hyp13 => (intro w hSw; (try dsimp only at hSw); go_simp; try with_reducible rfl)
        try simp only [Act.put, List.setIfInBounds_toArray, List.set_cons_zero, List.set_cons_succ]
        refine wpAnyH_take (i := 13) (v := ?vp14) (by simp only [List.getElem?_toArray, List.getElem?_cons_zero, List.getElem?_cons_succ]; rfl) (by kernel_rfl) (by kernel_rfl) (by kernel_rfl) (fun _ _ _ h => h) (Or.inl ⟨by rfl, ?hyp14⟩) (by assumption) ?restp14
        case hyp14 => (intro w hSw; (try dsimp only at hSw); go_simp; try with_reducible rfl)
        try simp only [Act.put, List.setIfInBounds_toArray, List.set_cons_zero, List.set_cons_succ]
        refine wpAnyH_take (i := 14) (v := ?vp15) (by simp only [List.getElem?_toArray, List.getElem?_cons_zero, List.getElem?_cons_succ]; rfl) (by kernel_rfl) (by kernel_rfl) (by kernel_rfl) (fun _ _ _ h => h) (Or.inl ⟨by rfl, ?hyp15⟩) (by assumption) ?restp15
        case hyp15 => (intro w hSw; (try dsimp only at hSw); go_simp; try with_reducible rfl)
        try simp only [Act.put, List.setIfInBounds_toArray, List.set_cons_zero, List.set_cons_succ]
        refine wpAnyH_take (i := 15) (v := ?vp16) (by simp only [List.getElem?_toArray, List.getElem?_cons_zero, List.getElem?_cons_succ]; rfl) (by kernel_rfl) (by kernel_rfl) (by kernel_rfl) (fun _ _ _ h => h) (Or.inl ⟨by rfl, ?hyp16⟩) (by assumption) ?restp16
        case hyp16 => (intro w hSw; (try dsimp only at hSw); go_simp; try with_reducible rfl)
        try simp only [Act.put, List.setIfInBounds_toArray, List.set_cons_zero, List.set_cons_succ]
        refine wpAnyH_take (i := 16) (v := ?vp17) (by simp only [List.getElem?_toArray, List.getElem?_cons_zero, List.getElem?_cons_succ]; rfl) (by kernel_rfl) (by kernel_rfl) (by kernel_rfl) (fun _ _ _ h => h) (Or.inl ⟨by rfl, ?hyp17⟩) (by assumption) ?restp17
        case hyp17 => (intro w hSw; (try dsimp only at hSw); go_simp; try with_reducible rfl)
        try simp only [Act.put, List.setIfInBounds_toArray, List.set_cons_zero, List.set_cons_succ]
        refine wpAnyH_take (i := 17) (v := ?vp18) (by simp only [List.getElem?_toArray, List.getElem?_cons_zero, List.getElem?_cons_succ]; rfl) (by kernel_rfl) (by kernel_rfl) (by kernel_rfl) (fun _ _ _ h => h) (Or.inl ⟨by rfl, ?hyp18⟩) (by assumption) ?restp18
        case hyp18 => (intro w hSw; (try dsimp only at hSw); go_simp; try with_reducible rfl)
        try simp only [Act.put, List.setIfInBounds_toArray, List.set_cons_zero, List.set_cons_succ]
        refine wpAnyH_take (i := 18) (v := ?vp19) (by simp only [List.getElem?_toArray, List.getElem?_cons_zero, List.getElem?_cons_succ]; rfl) (by kernel_rfl) (by kernel_rfl) (by kernel_rfl) (fun _ _ _ h => h) (Or.inl ⟨by rfl, ?hyp19⟩) (by assumption) ?restp19
        case hyp19 => (intro w hSw; (try dsimp only at hSw); go_simp; try with_reducible rfl)
        try simp only [Act.put, List.setIfInBounds_toArray, List.set_cons_zero, List.set_cons_succ]
        refine wpAnyH_take (i := 19) (v := ?vp20) (by simp only [List.getElem?_toArray, List.getElem?_cons_zero, List.getElem?_cons_succ]; rfl) (by kernel_rfl) (by kernel_rfl) (by kernel_rfl) (fun _ _ _ h => h) (Or.inl ⟨by rfl, ?hyp20⟩) (by assumption) ?restp20
        case hyp20 => (intro w hSw; (try dsimp only at hSw); go_simp; try with_reducible rfl)
        try simp only [Act.put, List.setIfInBounds_toArray, List.set_cons_zero, List.set_cons_succ]
        refine wpAnyH_take (i := 20) (v := ?vp21) (by simp only [List.getElem?_toArray, List.getElem?_cons_zero, List.getElem?_cons_succ]; rfl) (by kernel_rfl) (by kernel_rfl) (by kernel_rfl) (fun _ _ _ h => h) (Or.inl ⟨by rfl, ?hyp21⟩) (by assumption) ?restp21
        case hyp21 => (intro w hSw; (try dsimp only at hSw); go_simp; try with_reducible rfl)
        try simp only [Act.put, List.setIfInBounds_toArray, List.set_cons_zero, List.set_cons_succ]
        refine wpAnyH_take (i := 21) (v := ?vp22) (by simp only [List.getElem?_toArray, List.getElem?_cons_zero, List.getElem?_cons_succ]; rfl) (by kernel_rfl) (by kernel_rfl) (by kernel_rfl) (fun _ _ _ h => h) (Or.inl ⟨by rfl, ?hyp22⟩) (by assumption) ?restp22
        case hyp22 => (intro w hSw; (try dsimp only at hSw); go_simp; try with_reducible rfl)
        try simp only [Act.put, List.setIfInBounds_toArray, List.set_cons_zero, List.set_cons_succ]
        refine wpAnyH_take (i := 22) (v := ?vp23) (by simp only [List.getElem?_toArray, List.getElem?_cons_zero, List.getElem?_cons_succ]; rfl) (by kernel_rfl) (by kernel_rfl) (by kernel_rfl) (fun _ _ _ h => h) (Or.inl ⟨by rfl, ?hyp23⟩) (by assumption) ?restp23
        case hyp23 => (intro w hSw; (try dsimp only at hSw); go_simp; try with_reducible rfl)
        try simp only [Act.put, List.setIfInBounds_toArray, List.set_cons_zero, List.set_cons_succ]
        refine wpAnyH_take (i := 23) (v := ?vp24) (by simp only [List.getElem?_toArray, List.getElem?_cons_zero, List.getElem?_cons_succ]; rfl) (by kernel_rfl) (by kernel_rfl) (by kernel_rfl) (fun _ _ _ h => h) (Or.inl ⟨by rfl, ?hyp24⟩) (by assumption) ?restp24
        case hyp24 => (intro w hSw; (try dsimp only at hSw); go_simp; try with_reducible rfl)
        try simp only [Act.put, List.setIfInBounds_toArray, List.set_cons_zero, List.set_cons_succ]
        refine wpAnyH_take (i := 24) (v := ?vp25) (by simp only [List.getElem?_toArray, List.getElem?_cons_zero, List.getElem?_cons_succ]; rfl) (by kernel_rfl) (by kernel_rfl) (by kernel_rfl) (fun _ _ _ h => h) (Or.inl ⟨by rfl, ?hyp25⟩) (by assumption) ?restp25
        case hyp25 => (intro w hSw; (try dsimp only at hSw); go_simp; try with_reducible rfl)
        try simp only [Act.put, List.setIfInBounds_toArray, List.set_cons_zero, List.set_cons_succ]
        refine wpAnyH_take (i := 25) (v := ?vp26) (by simp only [List.getElem?_toArray, List.getElem?_cons_zero, List.getElem?_cons_succ]; rfl) (by kernel_rfl) (by kernel_rfl) (by kernel_rfl) (fun _ _ _ h => h) (Or.inl ⟨by rfl, ?hyp26⟩) (by assumption) ?restp26
        case hyp26 => (intro w hSw; (try dsimp only at hSw); go_simp; try with_reducible rfl)
        try simp only [Act.put, List.setIfInBounds_toArray, List.set_cons_zero, List.set_cons_succ]
        refine wpAnyH_take (i := 26) (v := ?vp27) (by simp only [List.getElem?_toArray, List.getElem?_cons_zero, List.getElem?_cons_succ]; rfl) (by kernel_rfl) (by kernel_rfl) (by kernel_rfl) (fun _ _ _ h => h) (Or.inl ⟨by rfl, ?hyp27⟩) (by assumption) ?restp27
        case hyp27 => (intro w hSw; (try dsimp only at hSw); go_simp; try with_reducible rfl)
        try simp only [Act.put, List.setIfInBounds_toArray, List.set_cons_zero, List.set_cons_succ]
        refine wpAnyH_take (i := 27) (v := ?vp28) (by simp only [List.getElem?_toArray, List.getElem?_cons_zero, List.getElem?_cons_succ]; rfl) (by kernel_rfl) (by kernel_rfl) (by kernel_rfl) (fun _ _ _ h => h) (Or.inl ⟨by rfl, ?hyp28⟩) (by assumption) ?restp28
        case hyp28 => (intro w hSw; (try dsimp only at hSw); go_simp; try with_reducible rfl)
        try simp only [Act.put, List.setIfInBounds_toArray, List.set_cons_zero, List.set_cons_succ]
        refine wpAnyH_ready (rs := [28]) (by kernel_rfl) (by simp) ?_
        refine AllReadyH.cons (by simp only [List.getElem?_toArray, List.getElem?_cons_zero, List.getElem?_cons_succ]; rfl) (fun K hK => ?stepp29) AllReadyH.nil
        go_simp; go_at_call 45; (with_reducible refine (kI.out _ (Below.drew hB0)).mono ?_); rintro e w6 ⟨rfl, b6'⟩; have b6 := (Below.drew hB0).trans (b6'.mono (by exact Nat.le_refl _))
        go_wp2_with fail
        refine hK.out _ _ ?hSp29 (fun hHeld => ?_)
        case hSp29 => exact HSS.out _ b6
        clear hK K
        try simp only [Act.put, List.setIfInBounds_toArray, List.set_cons_zero, List.set_cons_succ]
        refine wpAnyH_take (i := 29) (v := ?vp30) (by simp only [List.getElem?_toArray, List.getElem?_cons_zero, List.getElem?_cons_succ]; rfl) (by kernel_rfl) (by kernel_rfl) (by kernel_rfl) (fun _ _ _ h => h) (Or.inl ⟨by rfl, ?hyp30⟩) (by assumption) ?restp30
        case hyp30 => (intro w hSw; (try dsimp only at hSw); go_simp; try with_reducible rfl)
        try simp only [Act.put, List.setIfInBounds_toArray, List.set_cons_zero, List.set_cons_succ]
        refine wpAnyH_take (i := 30) (v := ?vp31) (by simp only [List.getElem?_toArray, List.getElem?_cons_zero, List.getElem?_cons_succ]; rfl) (by kernel_rfl) (by kernel_rfl) (by kernel_rfl) (fun _ _ _ h => h) (Or.inl ⟨by rfl, ?hyp31⟩) (by assumption) ?restp31
        case hyp31 => (intro w hSw; (try dsimp only at hSw); go_simp; try with_reducible rfl)
        try simp only [Act.put, List.setIfInBounds_toArray, List.set_cons_zero, List.set_cons_succ]
        refine wpAnyH_done (by kernel_rfl) ?_ _
        refine NoPanic.normal ?_
        cases Q
        · have HF : Hid (r = false) := Lib.hid (by rw [HRR.out, HBAD.out rfl]; rfl)
          clear HBAD HGOOD
          go_wp2
          go_ret
          exact ⟨ret_bool HF.out.symm, hBr.trans (b6.mono hBr.size)⟩
        · have HG := Lib.hid (HGOOD.out rfl)
          clear HBAD HGOOD
          go_wp2
          go_roundw
          case rel => exact ⟨k + 1, by omega, by go_num, HG, hB.trans (b6.mono hzr)⟩
          case measure => simp [intOf]; omega
    · obtain rfl : k = a.aliases.length := by omega
      have HRS : Hid (r = same (rT a b) (tmK a) (tmK b) (a.nodes.length - 1) (b.nodes.length - 1)) := Lib.hid (by
        have h := HT.out
        rw [List.take_length, List.take_of_length_le (by have := HLEN.out; omega)] at h
        rw [HRR.out, h]; rfl)
      have hsub : IntKind.i64.wrap ((a.nodes.length : Int) - 1) = ((a.nodes.length - 1 : Nat) : Int) := by
        rw [IntWalk.i64_in _ (by omega)]; omega
      have hsub' : IntKind.i64.wrap ((b.nodes.length : Int) - 1) = ((b.nodes.length - 1 : Nat) : Int) := by
        rw [IntWalk.i64_in _ (by omega)]; omega
      have kT := KT.out HWa.out HWb.out (a.nodes.length - 1) (b.nodes.length - 1) (by omega) (by omega) wr (tree_up HTa.out hBr) (tree_up HTb.out hBr)
      rw [← HRS.out] at kT
      unfold treeV at kT
      dsimp only at kT
      clear HT HRR
      have x0 := HXr.out.cell 0
      have x1 := HXr.out.cell 1
      have x2 := HXr.out.cell 2
      simp only [List.getElem?_toArray, List.getElem?_cons_zero, List.getElem?_cons_succ] at x0 x1 x2
      have y0 := HYr.out.cell 0
      have y1 := HYr.out.cell 1
      have y2 := HYr.out.cell 2
      simp only [List.getElem?_toArray, List.getElem?_cons_zero, List.getElem?_cons_succ] at y0 y1 y2
      go_wp2_with fail
      refine kT.mono ?_
      rintro e w6 ⟨rfl, hb6⟩
      go_wp2
      go_ret
      exact ⟨rfl, hBr.trans (hb6.mono hBr.size)⟩
end Go.Proofs.YtinajnkjfhbmkaaGreatDoor
