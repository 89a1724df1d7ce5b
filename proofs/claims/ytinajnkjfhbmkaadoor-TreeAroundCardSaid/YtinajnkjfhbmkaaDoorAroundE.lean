/- TreeAround, where the tree is little and the name short. -/
import Derived.Test.YtinajnkjfhbmkaaDoorAroundD
import Derived.IntWalk
namespace Go.Proofs.YtinajnkjfhbmkaaDoor
open Go Go.Proofs Go.RowKit

theorem LaidU.end1 {t : TreeD} {p : Ptr6} {name : ByteArray} {w3 W : World} {A : Option Addr} {c gk : Nat} {r : List (TermD × Ptr3)} (hr : r.map (·.1) = t.nodes) (hok : ∀ x ∈ r, TermOk (Lt w3.heap.size) w3 x.1 x.2)
    (hown : W.ownsRow w3.heap.size 33 8 (.slice A (t.nodes.length + 1) c) (t.nodes.length + 1) (tmCells (r ++ [(funT t.nodes.length name, ⟨none, 0, some ⟨gk, 0, none⟩, 1, none, 0⟩)]))) (hk : Blk W gk 3 #[.int .i64 ((t.nodes.length - 1 : Nat) : Int)]) (hb : Below w3.heap.size w3 W) :
    LaidU t p name w3 W.heap.size ⟨A, c, p.a2, p.c2, p.a3, p.c3⟩ (W.alloc (.cells #[.slice A (t.nodes.length + 1) c, .slice p.a2 t.types.length p.c2, .slice p.a3 t.aliases.length p.c3] 26)) :=
  ⟨Blk.new _ _ _, ⟨r, gk, hr, hok, hown.alloc _, hk.alloc _⟩, below_al hb _, hb.size⟩

theorem seqAt_of {l : List Int} {Bs : Nat} {W : World} (h : ∃ b A c, Bs < W.heap.size ∧ b < W.heap.size ∧ W.cell? ⟨Bs, 0, none⟩ = some (.slice A l.length c) ∧ SlAt (fun k => k = b) W A l.length (l.map iv)) : SeqAt l Bs W := h
theorem blk_bel {w W : World} {g : Nat} {t : TypeId} {cs : Array Value} (h : Blk w g t cs) (hb : Below w.heap.size w W) : Blk W g t cs := h.below hb h.lt

attribute [local irreducible] Blk SeqAt RowI

set_option maxRecDepth 100000 in
set_option maxHeartbeats 40000000 in
theorem around_yes (t : TreeD) (p : Ptr6) (name : ByteArray) (w : World) (hE : Env w) (hT : TreeAt (Lt w.heap.size) w t p) (hG : fewB t = true) (h1 : t.nodes.length ≤ 50) (h2 : 0 < t.nodes.length) (h3 : name.size ≤ 50) :
    Calls Tryd.prog 3 #[treeV t p, .string name] w fun e w' => e = .returned (.bool true) ∧ Below w.heap.size w w' := by
  obtain ⟨F1, F2, F3, F4, F5, F6⟩ := few_of hG
  obtain ⟨W1, hW1⟩ : ∃ W1, w.alloc (.cells #[.slice p.a1 t.nodes.length p.c1, .slice p.a2 t.types.length p.c2, .slice p.a3 t.aliases.length p.c3] 26) = W1 := ⟨_, rfl⟩
  have hB1 : Below w.heap.size w W1 := by rw [← hW1]; exact (Below.refl _ _).alloc (Nat.le_refl _) _
  have hX : Blk W1 w.heap.size 26 #[.slice p.a1 t.nodes.length p.c1, .slice p.a2 t.types.length p.c2, .slice p.a3 t.aliases.length p.c3] := by rw [← hW1]; exact Blk.new w 26 _
  have hXl := hX.lt
  have kL := lives_any W1 (hE.on hB1)
  have HX := Lib.hid hX
  have HE := Lib.hid hE
  have HT := Lib.hid hT
  have HG := Lib.hid hG
  have d1 : decide ((50 : Int) < t.nodes.length) = false := by simp; omega
  have d2 : ((t.nodes.length : Int) == 0) = false := by rw [beq_eq_false_iff_ne]; omega
  have d3 : decide ((50 : Int) < name.size) = false := by simp; omega
  clear hX hE hT hG F1 F2 F3
  go_enter Tryd.func3, Tryd.ntmps3
  go_wp2_with fail
  refine kL.mono ?_
  rintro e w2 ⟨rfl, hb2⟩
  have hB2 : Below w.heap.size w w2 := hB1.trans (hb2.mono (by omega))
  have hX2 := HX.out.below hb2 hXl
  have y0 := hX2.cell 0
  have y1 := hX2.cell 1
  have y2 := hX2.cell 2
  simp only [List.getElem?_toArray, List.getElem?_cons_zero, List.getElem?_cons_succ] at y0 y1 y2
  have HX2 := Lib.hid hX2
  have hX2l := hX2.lt
  have kF := few_any t p w2 (tree_on HT.out hB2) (by omega) (by omega) (by omega)
  rw [HG.out] at kF
  clear hX2 kL hb2
  go_wp2_with fail
  refine kF.mono ?_
  rintro e w3 ⟨rfl, hb3⟩
  have hB3 : Below w.heap.size w w3 := hB2.trans (hb3.mono (by omega))
  have hX3 := HX2.out.below hb3 hX2l
  have z0 := hX3.cell 0
  have z1 := hX3.cell 1
  have z2 := hX3.cell 2
  simp only [List.getElem?_toArray, List.getElem?_cons_zero, List.getElem?_cons_succ] at z0 z1 z2
  have HX3 := Lib.hid hX3
  have hX3l := hX3.lt
  clear hX3 kF hb3 y0 y1 y2
  go_wp2_with fail
  have hsub : IntKind.i64.wrap ((t.nodes.length : Int) - 1) = ((t.nodes.length - 1 : Nat) : Int) := by
    rw [IntWalk.i64_in _ (by omega)]; omega
  go_cut [6] from 10 (fun v w4 => ∃ (Bu : Nat) (pu : Ptr6), v = .pointer (some ⟨Bu, 0, none⟩) ∧ LaidU t p name w3 Bu pu w4)
  case first =>
    obtain ⟨r, hr, hrd, hok, hA⟩ := nodes_rd (tree_on HT.out hB3).1
    have hrl : r.length = t.nodes.length := by rw [← hr, List.length_map]
    have HRR := Lib.hid hr
    have HRD := Lib.hid hrd
    have HOK := Lib.hid hok
    have HRL := Lib.hid hrl
    have HA := Lib.hid hA
    have HS3 : Hid (∀ W, Below w3.heap.size w3 W → W.cell? ⟨w.heap.size, 0, none⟩ = some (.slice p.a1 t.nodes.length p.c1) ∧ W.cell? ⟨w.heap.size, 1, none⟩ = some (.slice p.a2 t.types.length p.c2) ∧ W.cell? ⟨w.heap.size, 2, none⟩ = some (.slice p.a3 t.aliases.length p.c3) ∧ Below w3.heap.size w3 W) := Lib.hid fun W hW =>
      ⟨(hW.cell (p := ⟨w.heap.size, 0, none⟩) hX3l).trans z0, (hW.cell (p := ⟨w.heap.size, 1, none⟩) hX3l).trans z1, (hW.cell (p := ⟨w.heap.size, 2, none⟩) hX3l).trans z2, hW⟩
    clear hr hrd hok hrl hA
    have hS0 := Below.refl w3.heap.size w3
    go_region_held3 (fun w' => w'.cell? ⟨w.heap.size, 0, none⟩ = some (.slice p.a1 t.nodes.length p.c1) ∧ w'.cell? ⟨w.heap.size, 1, none⟩ = some (.slice p.a2 t.types.length p.c2) ∧ w'.cell? ⟨w.heap.size, 2, none⟩ = some (.slice p.a3 t.aliases.length p.c3) ∧ Below w3.heap.size w3 w')
      (exact HS3.out _ (by repeat (first | with_reducible exact bel6 | with_reducible exact bel5 | with_reducible exact hS0 | with_reducible refine below_al ?_ _ | with_reducible refine Below.drew ?_ | (with_reducible refine Below.setCell ?_ ?_ _) | (dsimp only; omega))))
      (first
        | (refine step_first (w3 := w3) rfl _ _ rfl _ t.nodes.length p.c1 p.a1 r (by rfl) (by rfl) (by repeat (first | exact Blk.new' _ _ _ _ (by simp) | with_reducible refine Blk.alloc ?_ _ | with_reducible refine Blk.drew ?_ | with_reducible refine blk_gr ?_ H5.out ?_ | (simp; done) | (simp; omega))) (by first | omega | (simp; done) | (simp; omega)) HRL.out (by omega) (rd_on HRD.out HA.out (by repeat (first | with_reducible exact bel6 | with_reducible exact bel5 | with_reducible exact hS0 | with_reducible refine below_al ?_ _ | with_reducible refine Below.drew ?_ | (with_reducible refine Below.setCell ?_ ?_ _) | (dsimp only; omega)))) (by first | omega | (simp; done) | (simp; omega)) ?_; intro v5 w5 hown5 hgrow5; have hz5 : w3.heap.size ≤ w5.heap.size := (by have := hgrow5.size; simp at this; omega); have bel5 : Below w3.heap.size w3 w5 := below_gr (by repeat (first | with_reducible exact bel6 | with_reducible exact bel5 | with_reducible exact hS0 | with_reducible refine below_al ?_ _ | with_reducible refine Below.drew ?_ | (with_reducible refine Below.setCell ?_ ?_ _) | (dsimp only; omega))) hgrow5 (by intro g e; injection e; omega); have H5 := Lib.hid hgrow5; clear hgrow5)
        | (refine step_second (w3 := w3) rfl _ _ rfl _ t.nodes.length 1 _ v5 r (funT t.nodes.length name) #[.int .i64 ((t.nodes.length - 1 : Nat) : Int)] (by rfl) (by rfl) (by repeat (first | exact Blk.new' _ _ _ _ (by simp) | with_reducible refine Blk.alloc ?_ _ | with_reducible refine Blk.drew ?_ | with_reducible refine blk_gr ?_ H5.out ?_ | (simp; done) | (simp; omega))) (by repeat (first | with_reducible exact hown5 | with_reducible refine World.ownsRow.alloc ?_ _)) (by omega) (by first | omega | (simp; done) | (simp; omega)) (by repeat (first | exact Blk.new' _ _ _ _ (by simp) | with_reducible refine Blk.alloc ?_ _ | with_reducible refine Blk.drew ?_ | with_reducible refine blk_gr ?_ H5.out ?_ | (simp; done) | (simp; omega))) (.inl (by rfl)) ?_; intro A6 c6 w6 hown6 hbel6 hkid6 _; have bel6 : Below w3.heap.size w3 w6 := Below.trans (by repeat (first | with_reducible exact bel6 | with_reducible exact bel5 | with_reducible exact hS0 | with_reducible refine below_al ?_ _ | with_reducible refine Below.drew ?_ | (with_reducible refine Below.setCell ?_ ?_ _) | (dsimp only; omega))) hbel6; have HK6 := Lib.hid hkid6; have HO6 := Lib.hid hown6; have hz6 := hbel6.size; clear hkid6 hown6 hbel6)
        | (refine step_second (w3 := w3) rfl _ _ rfl _ t.nodes.length 1 _ v5 r (funT t.nodes.length name) #[.int .i64 ((t.nodes.length - 1 : Nat) : Int)] (by rfl) (by rfl) (by repeat (first | exact Blk.new' _ _ _ _ (by simp) | with_reducible refine Blk.alloc ?_ _ | with_reducible refine Blk.drew ?_ | with_reducible refine blk_gr ?_ H5.out ?_ | (simp; done) | (simp; omega))) (by repeat (first | with_reducible exact hown5 | with_reducible refine World.ownsRow.alloc ?_ _)) (by omega) (by first | omega | (simp; done) | (simp; omega)) (by repeat (first | exact Blk.new' _ _ _ _ (by simp) | with_reducible refine Blk.alloc ?_ _ | with_reducible refine Blk.drew ?_ | with_reducible refine blk_gr ?_ H5.out ?_ | (simp; done) | (simp; omega))) (.inr ⟨_, by rfl, (by repeat (first | exact Blk.new' _ _ _ _ (by simp) | with_reducible refine Blk.alloc ?_ _ | with_reducible refine Blk.drew ?_ | with_reducible refine blk_gr ?_ H5.out ?_ | (simp; done) | (simp; omega)))⟩) ?_; intro A6 c6 w6 hown6 hbel6 hkid6 hbox6; have bel6 : Below w3.heap.size w3 w6 := Below.trans (by repeat (first | with_reducible exact bel6 | with_reducible exact bel5 | with_reducible exact hS0 | with_reducible refine below_al ?_ _ | with_reducible refine Below.drew ?_ | (with_reducible refine Below.setCell ?_ ?_ _) | (dsimp only; omega))) hbel6; have hbx := hbox6 _ (by rfl); have HK6 := Lib.hid hkid6; have HO6 := Lib.hid hown6; have hz6 := hbel6.size; have k0 := hbx.cell 0; have k1 := hbx.cell 1; have k2 := hbx.cell 2; have m0 := hbx.frozen 0; have m1 := hbx.frozen 1; have m2 := hbx.frozen 2; simp only [List.getElem?_toArray, List.getElem?_cons_zero, List.getElem?_cons_succ] at k0 k1 k2; have HB6 := Lib.hid hbx; clear hkid6 hown6 hbx hbox6 hbel6))
    all_goals
      go_wp2_with fail
      go_meet
      case rel => first | exact ⟨_, ⟨A6, c6, p.a2, p.c2, p.a3, p.c3⟩, rfl, LaidU.end1 HRR.out HOK.out HO6.out HK6.out bel6⟩ | exact ⟨_, ⟨A6, c6, p.a2, p.c2, p.a3, p.c3⟩, rfl, LaidU.end HRR.out HOK.out HO6.out HK6.out bel6 HB6.out (by omega)⟩
  case rest =>
    obtain ⟨Bu, pu, rfl, hU⟩ := hcut
    have hBc : Below w.heap.size w wc := hB3.trans (hU.below.mono (by omega))
    have hXc := HX3.out.below hU.below hX3l
    have z0 := hXc.cell 0
    have z1 := hXc.cell 1
    have z2 := hXc.cell 2
    have v0 := hU.blk.cell 0
    have v1 := hU.blk.cell 1
    have v2 := hU.blk.cell 2
    simp only [List.getElem?_toArray, List.getElem?_cons_zero, List.getElem?_cons_succ] at z0 z1 z2 v0 v1 v2
    have hzc : w.heap.size < wc.heap.size := hXc.lt
    have hzu : Bu < wc.heap.size := hU.blk.lt
    have hTc := tree_on HT.out hBc
    have hTu := hU.tree (tree_on HT.out hB3)
    have hFt := few_of HG.out
    have hFu : TreeFew (around t name) := around_few hFt (by omega) (by omega)
    have hAr := around_iff t name (by omega) (by omega)
    have hul : (around t name).nodes.length = t.nodes.length + 1 := by simp [around]
    have kC := check_any t p wc (HE.out.on hBc) hTc hFt
    have kN := rname_any name (by omega)
    obtain ⟨C, hC⟩ : ∃ C, checkF t = C := ⟨_, rfl⟩
    obtain ⟨N, hN⟩ : ∃ N, isName (tl name) = N := ⟨_, rfl⟩
    have HC := Lib.hid hC
    have HN := Lib.hid hN
    rw [hC, hN] at hAr
    rw [hC] at kC
    have HAR := Lib.hid hAr
    have HXc := Lib.hid hXc
    have HU := Lib.hid hU
    have HTc := Lib.hid hTc
    have HTu := Lib.hid hTu
    have HFt := Lib.hid hFt
    have HFu := Lib.hid hFu
    have HUL := Lib.hid hul
    clear hC hAr hXc hU hTc hTu hFt hFu hul hsub d1 d2 d3
    cases C
    · go_wp2_with fail
      refine kC.mono ?_
      rintro e w4 ⟨rfl, hb4⟩
      have hBc4 : Below w.heap.size w w4 := hBc.trans (hb4.mono (by omega))
      have hT4 := tree_on HTu.out hb4
      have kU := check_any (around t name) ⟨pu.a1, pu.c1, p.a2, p.c2, p.a3, p.c3⟩ w4 (HE.out.on hBc4) hT4 HFu.out
      rw [HAR.out] at kU
      have hX4 := HU.out.blk.below hb4 hzu
      have y0 := hX4.cell 0
      have y1 := hX4.cell 1
      have y2 := hX4.cell 2
      simp only [List.getElem?_toArray, List.getElem?_cons_zero, List.getElem?_cons_succ] at y0 y1 y2
      unfold treeV at kU
      dsimp only at kU
      rw [HUL.out] at kU
      have hz4 := hBc4.size
      have ht : (around t name).types.length = t.types.length := rfl
      have ha : (around t name).aliases.length = t.aliases.length := rfl
      rw [ht, ha] at kU
      clear kC kN hT4 hX4 z0 z1 z2 v0 v1 v2 hb4 ht ha
      go_wp2_with (go_at_call 8; refine kU.mono ?_; rintro e w5 ⟨rfl, hb5⟩)
      go_ret
      exact ⟨rfl, hBc4.trans (hb5.mono hz4)⟩
    · cases N
      · go_wp2_with fail
        refine kC.mono ?_
        rintro e w4 ⟨rfl, hb4⟩
        have hBc4 : Below w.heap.size w w4 := hBc.trans (hb4.mono (by omega))
        have hT4 := tree_on HTu.out hb4
        have hTt4 := tree_on HTc.out hb4
        have kU := check_any (around t name) ⟨pu.a1, pu.c1, p.a2, p.c2, p.a3, p.c3⟩ w4 (HE.out.on hBc4) hT4 HFu.out
        rw [HAR.out] at kU
        have hX4 := HU.out.blk.below hb4 hzu
        have hY4 := HXc.out.below hb4 hzc
        have y0 := hX4.cell 0
        have y1 := hX4.cell 1
        have y2 := hX4.cell 2
        simp only [List.getElem?_toArray, List.getElem?_cons_zero, List.getElem?_cons_succ] at y0 y1 y2
        unfold treeV at kU
        dsimp only at kU
        rw [HUL.out] at kU
        have hz4 := hBc4.size
        have ht : (around t name).types.length = t.types.length := rfl
        have ha : (around t name).aliases.length = t.aliases.length := rfl
        rw [ht, ha] at kU
        rw [HN.out] at kN
        clear kC hT4 hTt4 hX4 hY4 z0 z1 z2 v0 v1 v2 hb4 ht ha hN
        go_wp2_with (first | (go_at_call 9; refine (kN _).mono ?_; rintro e w' ⟨rfl, rfl⟩) | (go_at_call 8; refine kU.mono ?_; rintro e w5 ⟨rfl, hb5⟩))
        go_ret
        exact ⟨rfl, hBc4.trans (hb5.mono hz4)⟩
      · go_wp2_with fail
        refine kC.mono ?_
        rintro e w4 ⟨rfl, hb4⟩
        have hBc4 : Below w.heap.size w w4 := hBc.trans (hb4.mono (by omega))
        have hT4 := tree_on HTu.out hb4
        have hTt4 := tree_on HTc.out hb4
        have kU := check_any (around t name) ⟨pu.a1, pu.c1, p.a2, p.c2, p.a3, p.c3⟩ w4 (HE.out.on hBc4) hT4 HFu.out
        rw [HAR.out] at kU
        have hX4 := HU.out.blk.below hb4 hzu
        have hY4 := HXc.out.below hb4 hzc
        have y0 := hX4.cell 0
        have y1 := hX4.cell 1
        have y2 := hX4.cell 2
        simp only [List.getElem?_toArray, List.getElem?_cons_zero, List.getElem?_cons_succ] at y0 y1 y2
        unfold treeV at kU
        dsimp only at kU
        rw [HUL.out] at kU
        have hz4 := hBc4.size
        have ht : (around t name).types.length = t.types.length := rfl
        have ha : (around t name).aliases.length = t.aliases.length := rfl
        rw [ht, ha] at kU
        rw [HN.out] at kN
        have HX4 := Lib.hid hX4
        have HY4 := Lib.hid hY4
        have HT4 := Lib.hid hT4
        have HTt4 := Lib.hid hTt4
        have hx4 := hX4.lt
        have hy4 := hY4.lt
        clear kC hT4 hTt4 hX4 hY4 z0 z1 z2 v0 v1 v2 hb4 ht ha hN
        go_wp2_with fail
        refine (kN _).mono ?_
        rintro e w' ⟨rfl, rfl⟩
        go_wp2_with fail
        refine kU.mono ?_
        rintro e w5 ⟨rfl, hb5⟩
        have hB5 : Below w.heap.size w w5 := hBc4.trans (hb5.mono hz4)
        have hX5 := HX4.out.below hb5 hx4
        have hY5 := HY4.out.below hb5 hy4
        have hT5 := tree_on HT4.out hb5
        have hTt5 := tree_on HTt4.out hb5
        have hz5 := hB5.size
        have hx5 := hX5.lt
        have hy5 := hY5.lt
        have y0 := hX5.cell 0
        have y1 := hX5.cell 1
        have y2 := hX5.cell 2
        have z0 := hY5.cell 0
        have z1 := hY5.cell 1
        have z2 := hY5.cell 2
        simp only [List.getElem?_toArray, List.getElem?_cons_zero, List.getElem?_cons_succ] at y0 y1 y2 z0 z1 z2
        have HX5 := Lib.hid hX5
        have HY5 := Lib.hid hY5
        have HT5 := Lib.hid hT5
        have HTt5 := Lib.hid hTt5
        clear kU kN hX5 hY5 hT5 hTt5 hb5
        have HS : Hid (∀ W, Below w5.heap.size w5 W → W.cell? ⟨Bu, 0, none⟩ = some (.slice pu.a1 (t.nodes.length + 1) pu.c1) ∧ W.cell? ⟨Bu, 1, none⟩ = some (.slice p.a2 t.types.length p.c2) ∧ W.cell? ⟨Bu, 2, none⟩ = some (.slice p.a3 t.aliases.length p.c3) ∧
            W.cell? ⟨w.heap.size, 0, none⟩ = some (.slice p.a1 t.nodes.length p.c1) ∧ W.cell? ⟨w.heap.size, 1, none⟩ = some (.slice p.a2 t.types.length p.c2) ∧ W.cell? ⟨w.heap.size, 2, none⟩ = some (.slice p.a3 t.aliases.length p.c3) ∧ Below w5.heap.size w5 W) := Lib.hid fun W hW =>
          ⟨(hW.cell (p := ⟨Bu, 0, none⟩) hx5).trans y0, (hW.cell (p := ⟨Bu, 1, none⟩) hx5).trans y1, (hW.cell (p := ⟨Bu, 2, none⟩) hx5).trans y2, (hW.cell (p := ⟨w.heap.size, 0, none⟩) hy5).trans z0, (hW.cell (p := ⟨w.heap.size, 1, none⟩) hy5).trans z1, (hW.cell (p := ⟨w.heap.size, 2, none⟩) hy5).trans z2, hW⟩
        have hB0 := Below.refl w5.heap.size w5
        have kDt : ∀ W, Below w5.heap.size w5 W → Calls Tryd.prog 10 #[treeV t p] W fun e w' => e = .returned (.int .i64 ((depthP t : Nat) : Int)) ∧ Below w5.heap.size w5 w' := fun W hW =>
          (depth_any t p W (HE.out.on (hB5.trans (hW.mono hz5))) (tree_on HTt5.out hW) HFt.out).mono fun e w' ⟨he, hb⟩ => ⟨by rw [he, if_pos HC.out], hW.trans (hb.mono hW.size)⟩
        have kDu : ∀ W, Below w5.heap.size w5 W → Calls Tryd.prog 10 #[treeV (around t name) ⟨pu.a1, pu.c1, p.a2, p.c2, p.a3, p.c3⟩] W fun e w' => e = .returned (.int .i64 ((depthP (around t name) : Nat) : Int)) ∧ Below w5.heap.size w5 w' := fun W hW =>
          (depth_any (around t name) ⟨pu.a1, pu.c1, p.a2, p.c2, p.a3, p.c3⟩ W (HE.out.on (hB5.trans (hW.mono hz5))) (tree_on HT5.out hW) HFu.out).mono fun e w' ⟨he, hb⟩ => ⟨by rw [he, if_pos (show checkF (around t name) = true from HAR.out)], hW.trans (hb.mono hW.size)⟩
        have hWt := (checkF_iff t).1 HC.out
        have hWu := (checkF_iff (around t name)).1 (show checkF (around t name) = true from HAR.out)
        have hDep := around_depth hWt.rng hWu.rng
        have hDs : depthP t ≤ 5000 := by
          unfold depthP
          have h1 := dTm_le hWt.rng (t.nodes.length - 1) (by omega)
          have h2 := most_of_le (l := t.aliases.map fun a => dTy t a.type.toNat) (c := t.types.length) (fun a ha => by
            obtain ⟨x, hx, rfl⟩ := List.mem_map.1 ha
            have := hWt.rng.ali x hx
            exact dTy_le hWt.rng _ (by omega))
          have := HFt.out.2.2.2.2.1
          have := HFt.out.2.2.2.2.2
          omega
        unfold treeV at kDt kDu
        dsimp only at kDt kDu
        rw [HUL.out, show (around t name).types.length = t.types.length from rfl, show (around t name).aliases.length = t.aliases.length from rfl] at kDu
        obtain ⟨dt, hdt⟩ : ∃ dt, depthP t = dt := ⟨_, rfl⟩
        obtain ⟨du, hdu⟩ : ∃ du, depthP (around t name) = du := ⟨_, rfl⟩
        rw [hdt] at kDt hDep hDs
        rw [hdu] at kDu hDep
        have KDt := Lib.hid kDt
        have KDu := Lib.hid kDu
        clear kDt kDu hdt hdu
        go_wp2_with fail
        go_cut [8, 9] from 10 (fun a b W => a = .int .i64 (dt : Int) ∧ b = .int .i64 (du : Int) ∧ Below w5.heap.size w5 W)
        case first =>
          go_region_held3 (fun W => W.cell? ⟨Bu, 0, none⟩ = some (.slice pu.a1 (t.nodes.length + 1) pu.c1) ∧ W.cell? ⟨Bu, 1, none⟩ = some (.slice p.a2 t.types.length p.c2) ∧ W.cell? ⟨Bu, 2, none⟩ = some (.slice p.a3 t.aliases.length p.c3) ∧
            W.cell? ⟨w.heap.size, 0, none⟩ = some (.slice p.a1 t.nodes.length p.c1) ∧ W.cell? ⟨w.heap.size, 1, none⟩ = some (.slice p.a2 t.types.length p.c2) ∧ W.cell? ⟨w.heap.size, 2, none⟩ = some (.slice p.a3 t.aliases.length p.c3) ∧ Below w5.heap.size w5 W)
            (exact HS.out _ (by repeat (first | exact hb7 | exact hb6 | exact hB0 | refine Below.drew ?_)))
            (first
              | (go_at_call 10; (with_reducible refine (KDt.out _ (by repeat (first | exact hb6 | exact hB0 | refine Below.drew ?_))).mono ?_); rintro e w7 ⟨rfl, hb7⟩)
              | (go_at_call 10; (with_reducible refine (KDu.out _ (by repeat (first | exact hb7 | exact hB0 | refine Below.drew ?_))).mono ?_); rintro e w6 ⟨rfl, hb6⟩))
          go_wp2_with fail
          go_meet
          case rel => exact ⟨rfl, rfl, hb6⟩
        case rest =>
          obtain ⟨rfl, rfl, hBe⟩ := hcut
          have hWl := around_walk hWt.rng hWu.rng
          obtain ⟨XS, hXS⟩ : ∃ XS, walkL (around t name) (t.nodes.length : Int) = XS := ⟨_, rfl⟩
          obtain ⟨LT, hLT⟩ : ∃ LT, walkL t ((t.nodes.length - 1 : Nat) : Int) = LT := ⟨_, rfl⟩
          have hxl : XS.length ≤ 65536 := by rw [← hXS]; exact walkL_len _ _
          have hll : LT.length ≤ 65536 := by rw [← hLT]; exact walkL_len _ _
          have hEq : XS = (t.nodes.length : Int) :: LT := by
            rw [← hXS, ← hLT]
            unfold walkL
            rw [if_pos ⟨by omega, by rw [HUL.out]; omega, HAR.out⟩, if_pos ⟨by omega, by omega, HC.out⟩, Int.toNat_natCast, Int.toNat_natCast, hWl]
            rfl
          have kWu : ∀ W, Below w5.heap.size w5 W → Calls Tryd.prog 13 #[treeV (around t name) ⟨pu.a1, pu.c1, p.a2, p.c2, p.a3, p.c3⟩, .int .i64 (t.nodes.length : Int)] W fun e w' => ∃ Bs, e = .returned (.func (.func 49) #[] #[.pointer (some ⟨Bs, 0, none⟩)]) ∧ SeqAt XS Bs w' ∧ Below W.heap.size W w' ∧ Below w5.heap.size w5 w' := fun W hW =>
            (walk_any (around t name) ⟨pu.a1, pu.c1, p.a2, p.c2, p.a3, p.c3⟩ _ W (HE.out.on (hB5.trans (hW.mono hz5))) (tree_on HT5.out hW) HFu.out).mono fun e w' ⟨Bs, b, A, c, h1, h2, h3, h4, h5, h6⟩ => ⟨Bs, h1, hXS ▸ seqAt_of ⟨b, A, c, h2, h3, h4, h5⟩, h6, hW.trans (h6.mono hW.size)⟩
          have kWt : ∀ W, Below w5.heap.size w5 W → Calls Tryd.prog 13 #[treeV t p, .int .i64 ((t.nodes.length - 1 : Nat) : Int)] W fun e w' => ∃ Bs, e = .returned (.func (.func 49) #[] #[.pointer (some ⟨Bs, 0, none⟩)]) ∧ SeqAt LT Bs w' ∧ Below W.heap.size W w' ∧ Below w5.heap.size w5 w' := fun W hW =>
            (walk_any t p _ W (HE.out.on (hB5.trans (hW.mono hz5))) (tree_on HTt5.out hW) HFt.out).mono fun e w' ⟨Bs, b, A, c, h1, h2, h3, h4, h5, h6⟩ => ⟨Bs, h1, hLT ▸ seqAt_of ⟨b, A, c, h2, h3, h4, h5⟩, h6, hW.trans (h6.mono hW.size)⟩
          have kA : ∀ l Bs W, SeqAt l Bs W → l.length ≤ 65536 → Below w5.heap.size w5 W → Calls Tryd.prog 12 #[.func (.func 49) #[] #[.pointer (some ⟨Bs, 0, none⟩)]] W fun e w' => ∃ A c, e = .returned (.slice A l.length c) ∧ RowI W.heap.size w'.heap.size l A w' ∧ Below W.heap.size W w' ∧ Below w5.heap.size w5 w' := fun l Bs W hS hl hW =>
            (allAt_any l Bs W hS hl).mono fun e w' ⟨A, c, h1, h2, h3⟩ => ⟨A, c, h1, RowI.of_sl h2, h3, hW.trans (h3.mono hW.size)⟩
          unfold treeV at kWu kWt
          dsimp only at kWu kWt
          rw [HUL.out, show (around t name).types.length = t.types.length from rfl, show (around t name).aliases.length = t.aliases.length from rfl] at kWu
          have KWu := Lib.hid kWu
          have KWt := Lib.hid kWt
          have KA := Lib.hid kA
          have HEQ := Lib.hid hEq
          have hcase : ((du : Int) == (dt : Int)) = true ∨ (((du : Int) == (dt : Int)) = false ∧ ((du : Int) == (dt : Int) + 1) = true) := by
            rcases hDep with h | h
            · exact .inl (by rw [beq_iff_eq]; omega)
            · exact .inr ⟨by rw [beq_eq_false_iff_ne]; omega, by rw [beq_iff_eq]; omega⟩
          have hsub : IntKind.i64.wrap ((t.nodes.length : Int) - 1) = ((t.nodes.length - 1 : Nat) : Int) := by
            rw [IntWalk.i64_in _ (by omega)]; omega
          have hsum : IntKind.i64.wrap ((dt : Int) + 1) = (dt : Int) + 1 := IntWalk.i64_in _ (by omega)
          have ye := hBe.size
          clear hWt hWu hWl kWu kWt kA hXS hLT hEq hDep hB0
          rcases hcase with d1 | ⟨d1, d2⟩
          case inl =>
            go_wp2_with fail
            refine wp_region_noPanic ?_
            refine wp_region_held_drew (S := fun W => W.cell? ⟨Bu, 0, none⟩ = some (.slice pu.a1 (t.nodes.length + 1) pu.c1) ∧ W.cell? ⟨Bu, 1, none⟩ = some (.slice p.a2 t.types.length p.c2) ∧ W.cell? ⟨Bu, 2, none⟩ = some (.slice p.a3 t.aliases.length p.c3) ∧
              W.cell? ⟨w.heap.size, 0, none⟩ = some (.slice p.a1 t.nodes.length p.c1) ∧ W.cell? ⟨w.heap.size, 1, none⟩ = some (.slice p.a2 t.types.length p.c2) ∧ W.cell? ⟨w.heap.size, 2, none⟩ = some (.slice p.a3 t.aliases.length p.c3) ∧ Below w5.heap.size w5 W) (by kernel_rfl) (HS.out _ (Below.drew hBe)) (fun hHeld => ?_)
            refine wpAnyH_take (i := 0) (v := ?v1) (by simp only [List.getElem?_toArray, List.getElem?_cons_zero]; rfl) (by kernel_rfl) (by kernel_rfl) (by kernel_rfl) (fun _ _ _ h => h) (Or.inl ⟨by rfl, ?hy1⟩) (by assumption) ?rest1
            case hy1 => (intro w hSw; (try dsimp only at hSw); go_simp; try with_reducible rfl)
            try simp only [Act.put, List.setIfInBounds_toArray, List.set_cons_zero, List.set_cons_succ]
            refine wpAnyH_take (i := 1) (v := ?v2) (by simp only [List.getElem?_toArray, List.getElem?_cons_zero, List.getElem?_cons_succ]; rfl) (by kernel_rfl) (by kernel_rfl) (by kernel_rfl) (fun _ _ _ h => h) (Or.inl ⟨by rfl, ?hy2⟩) (by assumption) ?rest2
            case hy2 => (intro w hSw; (try dsimp only at hSw); go_simp; try with_reducible rfl)
            try simp only [Act.put, List.setIfInBounds_toArray, List.set_cons_zero, List.set_cons_succ]
            refine wpAnyH_take (i := 2) (v := .bool true) (by simp only [List.getElem?_toArray, List.getElem?_cons_zero, List.getElem?_cons_succ]; rfl) (by kernel_rfl) (by kernel_rfl) (by kernel_rfl) (fun _ _ _ h => h) (Or.inl ⟨by rfl, ?hy3⟩) (by assumption) ?rest3
            case hy3 => (intro w hSw; (try dsimp only at hSw); go_simp; try with_reducible rfl)
            try simp only [Act.put, List.setIfInBounds_toArray, List.set_cons_zero, List.set_cons_succ]
            refine wpAnyH_take (i := 3) (v := ?v4) (by simp only [List.getElem?_toArray, List.getElem?_cons_zero, List.getElem?_cons_succ]; rfl) (by kernel_rfl) (by kernel_rfl) (by kernel_rfl) (fun _ _ _ h => h) (Or.inl ⟨by rfl, ?hy4⟩) (by assumption) ?rest4
            case hy4 => (intro w hSw; (try dsimp only at hSw); go_simp; try with_reducible rfl)
            try simp only [Act.put, List.setIfInBounds_toArray, List.set_cons_zero, List.set_cons_succ]
            refine wpAnyH_take (i := 4) (v := undef) (by simp only [List.getElem?_toArray, List.getElem?_cons_zero, List.getElem?_cons_succ]; rfl) (by kernel_rfl) (by kernel_rfl) (by kernel_rfl) (fun _ _ _ h => h) (Or.inr ⟨by rfl, rfl⟩) (by assumption) ?rest5
            try simp only [Act.put, List.setIfInBounds_toArray, List.set_cons_zero, List.set_cons_succ]
            refine wpAnyH_take (i := 5) (v := undef) (by simp only [List.getElem?_toArray, List.getElem?_cons_zero, List.getElem?_cons_succ]; rfl) (by kernel_rfl) (by kernel_rfl) (by kernel_rfl) (fun _ _ _ h => h) (Or.inr ⟨by rfl, rfl⟩) (by assumption) ?rest6
            try simp only [Act.put, List.setIfInBounds_toArray, List.set_cons_zero, List.set_cons_succ]
            refine wpAnyH_take (i := 6) (v := undef) (by simp only [List.getElem?_toArray, List.getElem?_cons_zero, List.getElem?_cons_succ]; rfl) (by kernel_rfl) (by kernel_rfl) (by kernel_rfl) (fun _ _ _ h => h) (Or.inr ⟨by rfl, rfl⟩) (by assumption) ?rest7
            try simp only [Act.put, List.setIfInBounds_toArray, List.set_cons_zero, List.set_cons_succ]
            refine wpAnyH_take (i := 7) (v := undef) (by simp only [List.getElem?_toArray, List.getElem?_cons_zero, List.getElem?_cons_succ]; rfl) (by kernel_rfl) (by kernel_rfl) (by kernel_rfl) (fun _ _ _ h => h) (Or.inr ⟨by rfl, rfl⟩) (by assumption) ?rest8
            try simp only [Act.put, List.setIfInBounds_toArray, List.set_cons_zero, List.set_cons_succ]
            refine wpAnyH_take (i := 8) (v := ?v9) (by simp only [List.getElem?_toArray, List.getElem?_cons_zero, List.getElem?_cons_succ]; rfl) (by kernel_rfl) (by kernel_rfl) (by kernel_rfl) (fun _ _ _ h => h) (Or.inl ⟨by rfl, ?hy9⟩) (by assumption) ?rest9
            case hy9 => (intro w hSw; (try dsimp only at hSw); go_simp; try with_reducible rfl)
            try simp only [Act.put, List.setIfInBounds_toArray, List.set_cons_zero, List.set_cons_succ]
            refine wpAnyH_take (i := 9) (v := ?v10) (by simp only [List.getElem?_toArray, List.getElem?_cons_zero, List.getElem?_cons_succ]; rfl) (by kernel_rfl) (by kernel_rfl) (by kernel_rfl) (fun _ _ _ h => h) (Or.inl ⟨by rfl, ?hy10⟩) (by assumption) ?rest10
            case hy10 => (intro w hSw; (try dsimp only at hSw); go_simp; try with_reducible rfl)
            try simp only [Act.put, List.setIfInBounds_toArray, List.set_cons_zero, List.set_cons_succ]
            refine wpAnyH_take (i := 10) (v := ?v11) (by simp only [List.getElem?_toArray, List.getElem?_cons_zero, List.getElem?_cons_succ]; rfl) (by kernel_rfl) (by kernel_rfl) (by kernel_rfl) (fun _ _ _ h => h) (Or.inl ⟨by rfl, ?hy11⟩) (by assumption) ?rest11
            case hy11 => (intro w hSw; (try dsimp only at hSw); go_simp; try with_reducible rfl)
            try simp only [Act.put, List.setIfInBounds_toArray, List.set_cons_zero, List.set_cons_succ]
            refine wpAnyH_take (i := 11) (v := ?v12) (by simp only [List.getElem?_toArray, List.getElem?_cons_zero, List.getElem?_cons_succ]; rfl) (by kernel_rfl) (by kernel_rfl) (by kernel_rfl) (fun _ _ _ h => h) (Or.inl ⟨by rfl, ?hy12⟩) (by assumption) ?rest12
            case hy12 => (intro w hSw; (try dsimp only at hSw); go_simp; try with_reducible rfl)
            try simp only [Act.put, List.setIfInBounds_toArray, List.set_cons_zero, List.set_cons_succ]
            refine wpAnyH_take (i := 14) (v := ?v13) (by simp only [List.getElem?_toArray, List.getElem?_cons_zero, List.getElem?_cons_succ]; rfl) (by kernel_rfl) (by kernel_rfl) (by kernel_rfl) (fun _ _ _ h => h) (Or.inl ⟨by rfl, ?hy13⟩) (by assumption) ?rest13
            case hy13 => (intro w hSw; (try dsimp only at hSw); go_simp; try with_reducible rfl)
            try simp only [Act.put, List.setIfInBounds_toArray, List.set_cons_zero, List.set_cons_succ]
            refine wpAnyH_take (i := 16) (v := ?v14) (by simp only [List.getElem?_toArray, List.getElem?_cons_zero, List.getElem?_cons_succ]; rfl) (by kernel_rfl) (by kernel_rfl) (by kernel_rfl) (fun _ _ _ h => h) (Or.inl ⟨by rfl, ?hy14⟩) (by assumption) ?rest14
            case hy14 => (intro w hSw; (try dsimp only at hSw); go_simp; try with_reducible rfl)
            try simp only [Act.put, List.setIfInBounds_toArray, List.set_cons_zero, List.set_cons_succ]
            refine wpAnyH_take (i := 17) (v := ?v15) (by simp only [List.getElem?_toArray, List.getElem?_cons_zero, List.getElem?_cons_succ]; rfl) (by kernel_rfl) (by kernel_rfl) (by kernel_rfl) (fun _ _ _ h => h) (Or.inl ⟨by rfl, ?hy15⟩) (by assumption) ?rest15
            case hy15 => (intro w hSw; (try dsimp only at hSw); go_simp; try with_reducible rfl)
            try simp only [Act.put, List.setIfInBounds_toArray, List.set_cons_zero, List.set_cons_succ]
            refine wpAnyH_take (i := 18) (v := ?v16) (by simp only [List.getElem?_toArray, List.getElem?_cons_zero, List.getElem?_cons_succ]; rfl) (by kernel_rfl) (by kernel_rfl) (by kernel_rfl) (fun _ _ _ h => h) (Or.inl ⟨by rfl, ?hy16⟩) (by assumption) ?rest16
            case hy16 => (intro w hSw; (try dsimp only at hSw); go_simp; try with_reducible rfl)
            try simp only [Act.put, List.setIfInBounds_toArray, List.set_cons_zero, List.set_cons_succ]
            refine wpAnyH_ready (rs := [12, 15]) (by kernel_rfl) (by simp) ?_
            refine AllReadyH.cons (by simp only [List.getElem?_toArray, List.getElem?_cons_zero, List.getElem?_cons_succ]; rfl) (fun K hK => ?step17) ?more17
            case step17 =>
              go_simp; go_at_call 13; (with_reducible refine (KWu.out _ (by repeat (first | with_reducible exact b11 | with_reducible exact b10 | with_reducible exact b9 | with_reducible exact b8 | with_reducible exact b7 | with_reducible exact b6 | with_reducible exact hBe | with_reducible refine below_al ?_ _ | with_reducible refine Below.drew ?_))).mono ?_); rintro e w6 ⟨B6, rfl, s6, l6, b6⟩; have z6 := l6.size; have y6 : w5.heap.size ≤ w6.heap.size := b6.size; try simp at z6
              go_wp2_with fail
              refine hK.out _ _ ?hS18 (fun hHeld => ?_)
              case hS18 => exact HS.out _ (by repeat (first | with_reducible exact b11 | with_reducible exact b10 | with_reducible exact b9 | with_reducible exact b8 | with_reducible exact b7 | with_reducible exact b6 | with_reducible exact hBe | with_reducible refine below_al ?_ _ | with_reducible refine Below.drew ?_))
              clear hK K
              try simp only [Act.put, List.setIfInBounds_toArray, List.set_cons_zero, List.set_cons_succ]
              refine wpAnyH_ready (rs := [13, 15]) (by kernel_rfl) (by simp) ?_
              refine AllReadyH.cons (by simp only [List.getElem?_toArray, List.getElem?_cons_zero, List.getElem?_cons_succ]; rfl) (fun K hK => ?step19) ?more19
              case step19 =>
                go_simp; go_at_call 12; (with_reducible refine (KA.out XS _ _ (by first | with_reducible exact s6 | with_reducible exact SeqAt.alloc s6 _ | with_reducible exact SeqAt.drew s6 | with_reducible exact SeqAt.alloc (SeqAt.drew s6) _ | with_reducible exact SeqAt.drew (SeqAt.alloc s6 _)) hxl (by repeat (first | with_reducible exact b11 | with_reducible exact b10 | with_reducible exact b9 | with_reducible exact b8 | with_reducible exact b7 | with_reducible exact b6 | with_reducible exact hBe | with_reducible refine below_al ?_ _ | with_reducible refine Below.drew ?_))).mono ?_); rintro e w7 ⟨A7, c7, rfl, R7, l7, b7⟩; have z7 := l7.size; have y7 : w5.heap.size ≤ w7.heap.size := b7.size; try simp at z7
                go_wp2_with fail
                refine hK.out _ _ ?hS20 (fun hHeld => ?_)
                case hS20 => exact HS.out _ (by repeat (first | with_reducible exact b11 | with_reducible exact b10 | with_reducible exact b9 | with_reducible exact b8 | with_reducible exact b7 | with_reducible exact b6 | with_reducible exact hBe | with_reducible refine below_al ?_ _ | with_reducible refine Below.drew ?_))
                clear hK K
                try simp only [Act.put, List.setIfInBounds_toArray, List.set_cons_zero, List.set_cons_succ]
                refine wpAnyH_ready (rs := [15, 19]) (by kernel_rfl) (by simp) ?_
                refine AllReadyH.cons (by simp only [List.getElem?_toArray, List.getElem?_cons_zero, List.getElem?_cons_succ]; rfl) (fun K hK => ?step21) ?more21
                case step21 =>
                  go_simp
                  refine hK.out _ _ ?hS22 (fun hHeld => ?_)
                  case hS22 => exact HS.out _ (by repeat (first | with_reducible exact b11 | with_reducible exact b10 | with_reducible exact b9 | with_reducible exact b8 | with_reducible exact b7 | with_reducible exact b6 | with_reducible exact hBe | with_reducible refine below_al ?_ _ | with_reducible refine Below.drew ?_))
                  clear hK K
                  try simp only [Act.put, List.setIfInBounds_toArray, List.set_cons_zero, List.set_cons_succ]
                  refine wpAnyH_ready (rs := [19]) (by kernel_rfl) (by simp) ?_
                  refine AllReadyH.cons (by simp only [List.getElem?_toArray, List.getElem?_cons_zero, List.getElem?_cons_succ]; rfl) (fun K hK => ?step23) ?more23
                  case step23 =>
                    go_simp; go_at_call 13; (with_reducible refine (KWt.out _ (by repeat (first | with_reducible exact b11 | with_reducible exact b10 | with_reducible exact b9 | with_reducible exact b8 | with_reducible exact b7 | with_reducible exact b6 | with_reducible exact hBe | with_reducible refine below_al ?_ _ | with_reducible refine Below.drew ?_))).mono ?_); rintro e w8 ⟨B8, rfl, s8, l8, b8⟩; have z8 := l8.size; have y8 : w5.heap.size ≤ w8.heap.size := b8.size; try simp at z8
                    go_wp2_with fail
                    refine hK.out _ _ ?hS24 (fun hHeld => ?_)
                    case hS24 => exact HS.out _ (by repeat (first | with_reducible exact b11 | with_reducible exact b10 | with_reducible exact b9 | with_reducible exact b8 | with_reducible exact b7 | with_reducible exact b6 | with_reducible exact hBe | with_reducible refine below_al ?_ _ | with_reducible refine Below.drew ?_))
                    clear hK K
                    try simp only [Act.put, List.setIfInBounds_toArray, List.set_cons_zero, List.set_cons_succ]
                    refine wpAnyH_ready (rs := [20]) (by kernel_rfl) (by simp) ?_
                    refine AllReadyH.cons (by simp only [List.getElem?_toArray, List.getElem?_cons_zero, List.getElem?_cons_succ]; rfl) (fun K hK => ?step25) ?more25
                    case step25 =>
                      go_simp; go_at_call 12; (with_reducible refine (KA.out LT _ _ (by first | with_reducible exact s8 | with_reducible exact SeqAt.alloc s8 _ | with_reducible exact SeqAt.drew s8 | with_reducible exact SeqAt.alloc (SeqAt.drew s8) _ | with_reducible exact SeqAt.drew (SeqAt.alloc s8 _)) hll (by repeat (first | with_reducible exact b11 | with_reducible exact b10 | with_reducible exact b9 | with_reducible exact b8 | with_reducible exact b7 | with_reducible exact b6 | with_reducible exact hBe | with_reducible refine below_al ?_ _ | with_reducible refine Below.drew ?_))).mono ?_); rintro e w9 ⟨A9, c9, rfl, R9, l9, b9⟩; have z9 := l9.size; have y9 : w5.heap.size ≤ w9.heap.size := b9.size; try simp at z9
                      go_wp2_with fail
                      refine hK.out _ _ ?hS26 (fun hHeld => ?_)
                      case hS26 => exact HS.out _ (by repeat (first | with_reducible exact b11 | with_reducible exact b10 | with_reducible exact b9 | with_reducible exact b8 | with_reducible exact b7 | with_reducible exact b6 | with_reducible exact hBe | with_reducible refine below_al ?_ _ | with_reducible refine Below.drew ?_))
                      clear hK K
                      try simp only [Act.put, List.setIfInBounds_toArray, List.set_cons_zero, List.set_cons_succ]
                      refine wpAnyH_ready (rs := [21]) (by kernel_rfl) (by simp) ?_
                      refine AllReadyH.cons (by simp only [List.getElem?_toArray, List.getElem?_cons_zero, List.getElem?_cons_succ]; rfl) (fun K hK => ?step27) ?more27
                      case step27 =>
                        refine step_cons (by rfl) _ _ rfl w5.heap.size (t.nodes.length : Int) _ A9 c9 LT LT.length _ _ (by rfl) (by rfl) rfl (by first | exact (blk_bel (blk_bel (blk_bel (blk_bel (Blk.new _ _ _) l6) l7) l8) l9) | exact (blk_bel (blk_bel (blk_bel (blk_bel (Blk.drew (Blk.new _ _ _)) l6) l7) l8) l9) | exact (blk_bel (blk_bel (blk_bel (Blk.new _ _ _) l7) l8) l9) | exact (blk_bel (blk_bel (blk_bel (Blk.drew (Blk.new _ _ _)) l7) l8) l9) | exact (blk_bel (blk_bel (Blk.new _ _ _) l8) l9) | exact (blk_bel (blk_bel (Blk.drew (Blk.new _ _ _)) l8) l9) | exact (blk_bel (Blk.new _ _ _) l9) | exact (blk_bel (Blk.drew (Blk.new _ _ _)) l9) | exact (Blk.new _ _ _) | exact (Blk.drew (Blk.new _ _ _))) (by first | (simp; done) | (simp; omega) | omega) (by first | exact R9 | exact RowI.alloc R9 _ | exact RowI.drew R9 | exact RowI.drew (RowI.alloc R9 _)) hll (show Below w5.heap.size w5 _ from (by repeat (first | with_reducible exact b11 | with_reducible exact b10 | with_reducible exact b9 | with_reducible exact b8 | with_reducible exact b7 | with_reducible exact b6 | with_reducible exact hBe | with_reducible refine below_al ?_ _ | with_reducible refine Below.drew ?_))).size _ _ XS A7 (by first | exact (RowI.below (RowI.below R7 l8) l9) | exact (RowI.below (RowI.below (RowI.alloc R7 _) l8) l9) | exact (RowI.below (RowI.alloc (RowI.below R7 l8) _) l9) | exact (RowI.alloc (RowI.below (RowI.below R7 l8) l9) _) | exact RowI.drew (RowI.below (RowI.below R7 l8) l9) | exact RowI.drew (RowI.below (RowI.below (RowI.alloc R7 _) l8) l9) | exact RowI.drew (RowI.below (RowI.alloc (RowI.below R7 l8) _) l9) | exact RowI.drew (RowI.alloc (RowI.below (RowI.below R7 l8) l9) _)) (by first | exact .inl (by first | (simp; done) | (simp; omega) | omega) | exact .inr (by first | (simp; done) | (simp; omega) | omega)) ?_; intro A10 c10 w10 rd10 l10 R10; have b10 : Below w5.heap.size w5 w10 := Below.trans (by repeat (first | with_reducible exact b11 | with_reducible exact b10 | with_reducible exact b9 | with_reducible exact b8 | with_reducible exact b7 | with_reducible exact b6 | with_reducible exact hBe | with_reducible refine below_al ?_ _ | with_reducible refine Below.drew ?_)) l10
                        refine hK.out _ _ ?hS28 (fun hHeld => ?_)
                        case hS28 => exact HS.out _ (by repeat (first | with_reducible exact b11 | with_reducible exact b10 | with_reducible exact b9 | with_reducible exact b8 | with_reducible exact b7 | with_reducible exact b6 | with_reducible exact hBe | with_reducible refine below_al ?_ _ | with_reducible refine Below.drew ?_))
                        clear hK K
                        try simp only [Act.put, List.setIfInBounds_toArray, List.set_cons_zero, List.set_cons_succ]
                        refine wpAnyH_ready (rs := [22]) (by kernel_rfl) (by simp) ?_
                        refine AllReadyH.cons (by simp only [List.getElem?_toArray, List.getElem?_cons_zero, List.getElem?_cons_succ]; rfl) (fun K hK => ?step29) ?more29
                        case step29 =>
                          go_simp; go_at_call 11; (with_reducible refine (same_at _ _ _ _ _ _ XS ((t.nodes.length : Int) :: LT) _ (R10.rd) rd10 rfl List.length_cons (by omega) (by omega) HEQ.out).mono ?_); rintro e w11 ⟨rfl, l11⟩; have b11 : Below w5.heap.size w5 w11 := Below.trans b10 (l11.mono b10.size)
                          go_wp2_with fail
                          refine hK.out _ _ ?hS30 (fun hHeld => ?_)
                          case hS30 => exact HS.out _ (by repeat (first | with_reducible exact b11 | with_reducible exact b10 | with_reducible exact b9 | with_reducible exact b8 | with_reducible exact b7 | with_reducible exact b6 | with_reducible exact hBe | with_reducible refine below_al ?_ _ | with_reducible refine Below.drew ?_))
                          clear hK K
                          try simp only [Act.put, List.setIfInBounds_toArray, List.set_cons_zero, List.set_cons_succ]
                          refine wpAnyH_take (i := 23) (v := ?v31) (by simp only [List.getElem?_toArray, List.getElem?_cons_zero, List.getElem?_cons_succ]; rfl) (by kernel_rfl) (by kernel_rfl) (by kernel_rfl) (fun _ _ _ h => h) (Or.inl ⟨by rfl, ?hy31⟩) (by assumption) ?rest31
                          case hy31 => (intro w hSw; (try dsimp only at hSw); go_simp; try with_reducible rfl)
                          try simp only [Act.put, List.setIfInBounds_toArray, List.set_cons_zero, List.set_cons_succ]
                          refine wpAnyH_take (i := 24) (v := ?v32) (by simp only [List.getElem?_toArray, List.getElem?_cons_zero, List.getElem?_cons_succ]; rfl) (by kernel_rfl) (by kernel_rfl) (by kernel_rfl) (fun _ _ _ h => h) (Or.inl ⟨by rfl, ?hy32⟩) (by assumption) ?rest32
                          case hy32 => (intro w hSw; (try dsimp only at hSw); go_simp; try with_reducible rfl)
                          try simp only [Act.put, List.setIfInBounds_toArray, List.set_cons_zero, List.set_cons_succ]
                          refine wpAnyH_done (by kernel_rfl) ?_ _
                          refine NoPanic.normal ?_
                          go_wp2_with fail
                          go_ret
                          exact ⟨rfl, hB5.trans (b11.mono hz5)⟩
                        exact AllReadyH.nil
                      exact AllReadyH.nil
                    exact AllReadyH.nil
                  exact AllReadyH.nil
                refine AllReadyH.cons (by simp only [List.getElem?_toArray, List.getElem?_cons_zero, List.getElem?_cons_succ]; rfl) (fun K hK => ?step33) ?more33
                case step33 =>
                  go_simp; go_at_call 13; (with_reducible refine (KWt.out _ (by repeat (first | with_reducible exact b11 | with_reducible exact b10 | with_reducible exact b9 | with_reducible exact b8 | with_reducible exact b7 | with_reducible exact b6 | with_reducible exact hBe | with_reducible refine below_al ?_ _ | with_reducible refine Below.drew ?_))).mono ?_); rintro e w8 ⟨B8, rfl, s8, l8, b8⟩; have z8 := l8.size; have y8 : w5.heap.size ≤ w8.heap.size := b8.size; try simp at z8
                  go_wp2_with fail
                  refine hK.out _ _ ?hS34 (fun hHeld => ?_)
                  case hS34 => exact HS.out _ (by repeat (first | with_reducible exact b11 | with_reducible exact b10 | with_reducible exact b9 | with_reducible exact b8 | with_reducible exact b7 | with_reducible exact b6 | with_reducible exact hBe | with_reducible refine below_al ?_ _ | with_reducible refine Below.drew ?_))
                  clear hK K
                  try simp only [Act.put, List.setIfInBounds_toArray, List.set_cons_zero, List.set_cons_succ]
                  refine wpAnyH_ready (rs := [15, 20]) (by kernel_rfl) (by simp) ?_
                  refine AllReadyH.cons (by simp only [List.getElem?_toArray, List.getElem?_cons_zero, List.getElem?_cons_succ]; rfl) (fun K hK => ?step35) ?more35
                  case step35 =>
                    go_simp
                    refine hK.out _ _ ?hS36 (fun hHeld => ?_)
                    case hS36 => exact HS.out _ (by repeat (first | with_reducible exact b11 | with_reducible exact b10 | with_reducible exact b9 | with_reducible exact b8 | with_reducible exact b7 | with_reducible exact b6 | with_reducible exact hBe | with_reducible refine below_al ?_ _ | with_reducible refine Below.drew ?_))
                    clear hK K
                    try simp only [Act.put, List.setIfInBounds_toArray, List.set_cons_zero, List.set_cons_succ]
                    refine wpAnyH_ready (rs := [20]) (by kernel_rfl) (by simp) ?_
                    refine AllReadyH.cons (by simp only [List.getElem?_toArray, List.getElem?_cons_zero, List.getElem?_cons_succ]; rfl) (fun K hK => ?step37) ?more37
                    case step37 =>
                      go_simp; go_at_call 12; (with_reducible refine (KA.out LT _ _ (by first | with_reducible exact s8 | with_reducible exact SeqAt.alloc s8 _ | with_reducible exact SeqAt.drew s8 | with_reducible exact SeqAt.alloc (SeqAt.drew s8) _ | with_reducible exact SeqAt.drew (SeqAt.alloc s8 _)) hll (by repeat (first | with_reducible exact b11 | with_reducible exact b10 | with_reducible exact b9 | with_reducible exact b8 | with_reducible exact b7 | with_reducible exact b6 | with_reducible exact hBe | with_reducible refine below_al ?_ _ | with_reducible refine Below.drew ?_))).mono ?_); rintro e w9 ⟨A9, c9, rfl, R9, l9, b9⟩; have z9 := l9.size; have y9 : w5.heap.size ≤ w9.heap.size := b9.size; try simp at z9
                      go_wp2_with fail
                      refine hK.out _ _ ?hS38 (fun hHeld => ?_)
                      case hS38 => exact HS.out _ (by repeat (first | with_reducible exact b11 | with_reducible exact b10 | with_reducible exact b9 | with_reducible exact b8 | with_reducible exact b7 | with_reducible exact b6 | with_reducible exact hBe | with_reducible refine below_al ?_ _ | with_reducible refine Below.drew ?_))
                      clear hK K
                      try simp only [Act.put, List.setIfInBounds_toArray, List.set_cons_zero, List.set_cons_succ]
                      refine wpAnyH_ready (rs := [21]) (by kernel_rfl) (by simp) ?_
                      refine AllReadyH.cons (by simp only [List.getElem?_toArray, List.getElem?_cons_zero, List.getElem?_cons_succ]; rfl) (fun K hK => ?step39) ?more39
                      case step39 =>
                        refine step_cons (by rfl) _ _ rfl w5.heap.size (t.nodes.length : Int) _ A9 c9 LT LT.length _ _ (by rfl) (by rfl) rfl (by first | exact (blk_bel (blk_bel (blk_bel (blk_bel (Blk.new _ _ _) l6) l7) l8) l9) | exact (blk_bel (blk_bel (blk_bel (blk_bel (Blk.drew (Blk.new _ _ _)) l6) l7) l8) l9) | exact (blk_bel (blk_bel (blk_bel (Blk.new _ _ _) l7) l8) l9) | exact (blk_bel (blk_bel (blk_bel (Blk.drew (Blk.new _ _ _)) l7) l8) l9) | exact (blk_bel (blk_bel (Blk.new _ _ _) l8) l9) | exact (blk_bel (blk_bel (Blk.drew (Blk.new _ _ _)) l8) l9) | exact (blk_bel (Blk.new _ _ _) l9) | exact (blk_bel (Blk.drew (Blk.new _ _ _)) l9) | exact (Blk.new _ _ _) | exact (Blk.drew (Blk.new _ _ _))) (by first | (simp; done) | (simp; omega) | omega) (by first | exact R9 | exact RowI.alloc R9 _ | exact RowI.drew R9 | exact RowI.drew (RowI.alloc R9 _)) hll (show Below w5.heap.size w5 _ from (by repeat (first | with_reducible exact b11 | with_reducible exact b10 | with_reducible exact b9 | with_reducible exact b8 | with_reducible exact b7 | with_reducible exact b6 | with_reducible exact hBe | with_reducible refine below_al ?_ _ | with_reducible refine Below.drew ?_))).size _ _ XS A7 (by first | exact (RowI.below (RowI.below R7 l8) l9) | exact (RowI.below (RowI.below (RowI.alloc R7 _) l8) l9) | exact (RowI.below (RowI.alloc (RowI.below R7 l8) _) l9) | exact (RowI.alloc (RowI.below (RowI.below R7 l8) l9) _) | exact RowI.drew (RowI.below (RowI.below R7 l8) l9) | exact RowI.drew (RowI.below (RowI.below (RowI.alloc R7 _) l8) l9) | exact RowI.drew (RowI.below (RowI.alloc (RowI.below R7 l8) _) l9) | exact RowI.drew (RowI.alloc (RowI.below (RowI.below R7 l8) l9) _)) (by first | exact .inl (by first | (simp; done) | (simp; omega) | omega) | exact .inr (by first | (simp; done) | (simp; omega) | omega)) ?_; intro A10 c10 w10 rd10 l10 R10; have b10 : Below w5.heap.size w5 w10 := Below.trans (by repeat (first | with_reducible exact b11 | with_reducible exact b10 | with_reducible exact b9 | with_reducible exact b8 | with_reducible exact b7 | with_reducible exact b6 | with_reducible exact hBe | with_reducible refine below_al ?_ _ | with_reducible refine Below.drew ?_)) l10
                        refine hK.out _ _ ?hS40 (fun hHeld => ?_)
                        case hS40 => exact HS.out _ (by repeat (first | with_reducible exact b11 | with_reducible exact b10 | with_reducible exact b9 | with_reducible exact b8 | with_reducible exact b7 | with_reducible exact b6 | with_reducible exact hBe | with_reducible refine below_al ?_ _ | with_reducible refine Below.drew ?_))
                        clear hK K
                        try simp only [Act.put, List.setIfInBounds_toArray, List.set_cons_zero, List.set_cons_succ]
                        refine wpAnyH_ready (rs := [22]) (by kernel_rfl) (by simp) ?_
                        refine AllReadyH.cons (by simp only [List.getElem?_toArray, List.getElem?_cons_zero, List.getElem?_cons_succ]; rfl) (fun K hK => ?step41) ?more41
                        case step41 =>
                          go_simp; go_at_call 11; (with_reducible refine (same_at _ _ _ _ _ _ XS ((t.nodes.length : Int) :: LT) _ (R10.rd) rd10 rfl List.length_cons (by omega) (by omega) HEQ.out).mono ?_); rintro e w11 ⟨rfl, l11⟩; have b11 : Below w5.heap.size w5 w11 := Below.trans b10 (l11.mono b10.size)
                          go_wp2_with fail
                          refine hK.out _ _ ?hS42 (fun hHeld => ?_)
                          case hS42 => exact HS.out _ (by repeat (first | with_reducible exact b11 | with_reducible exact b10 | with_reducible exact b9 | with_reducible exact b8 | with_reducible exact b7 | with_reducible exact b6 | with_reducible exact hBe | with_reducible refine below_al ?_ _ | with_reducible refine Below.drew ?_))
                          clear hK K
                          try simp only [Act.put, List.setIfInBounds_toArray, List.set_cons_zero, List.set_cons_succ]
                          refine wpAnyH_take (i := 23) (v := ?v43) (by simp only [List.getElem?_toArray, List.getElem?_cons_zero, List.getElem?_cons_succ]; rfl) (by kernel_rfl) (by kernel_rfl) (by kernel_rfl) (fun _ _ _ h => h) (Or.inl ⟨by rfl, ?hy43⟩) (by assumption) ?rest43
                          case hy43 => (intro w hSw; (try dsimp only at hSw); go_simp; try with_reducible rfl)
                          try simp only [Act.put, List.setIfInBounds_toArray, List.set_cons_zero, List.set_cons_succ]
                          refine wpAnyH_take (i := 24) (v := ?v44) (by simp only [List.getElem?_toArray, List.getElem?_cons_zero, List.getElem?_cons_succ]; rfl) (by kernel_rfl) (by kernel_rfl) (by kernel_rfl) (fun _ _ _ h => h) (Or.inl ⟨by rfl, ?hy44⟩) (by assumption) ?rest44
                          case hy44 => (intro w hSw; (try dsimp only at hSw); go_simp; try with_reducible rfl)
                          try simp only [Act.put, List.setIfInBounds_toArray, List.set_cons_zero, List.set_cons_succ]
                          refine wpAnyH_done (by kernel_rfl) ?_ _
                          refine NoPanic.normal ?_
                          go_wp2_with fail
                          go_ret
                          exact ⟨rfl, hB5.trans (b11.mono hz5)⟩
                        exact AllReadyH.nil
                      exact AllReadyH.nil
                    exact AllReadyH.nil
                  refine AllReadyH.cons (by simp only [List.getElem?_toArray, List.getElem?_cons_zero, List.getElem?_cons_succ]; rfl) (fun K hK => ?step45) ?more45
                  case step45 =>
                    go_simp; go_at_call 12; (with_reducible refine (KA.out LT _ _ (by first | with_reducible exact s8 | with_reducible exact SeqAt.alloc s8 _ | with_reducible exact SeqAt.drew s8 | with_reducible exact SeqAt.alloc (SeqAt.drew s8) _ | with_reducible exact SeqAt.drew (SeqAt.alloc s8 _)) hll (by repeat (first | with_reducible exact b11 | with_reducible exact b10 | with_reducible exact b9 | with_reducible exact b8 | with_reducible exact b7 | with_reducible exact b6 | with_reducible exact hBe | with_reducible refine below_al ?_ _ | with_reducible refine Below.drew ?_))).mono ?_); rintro e w9 ⟨A9, c9, rfl, R9, l9, b9⟩; have z9 := l9.size; have y9 : w5.heap.size ≤ w9.heap.size := b9.size; try simp at z9
                    go_wp2_with fail
                    refine hK.out _ _ ?hS46 (fun hHeld => ?_)
                    case hS46 => exact HS.out _ (by repeat (first | with_reducible exact b11 | with_reducible exact b10 | with_reducible exact b9 | with_reducible exact b8 | with_reducible exact b7 | with_reducible exact b6 | with_reducible exact hBe | with_reducible refine below_al ?_ _ | with_reducible refine Below.drew ?_))
                    clear hK K
                    try simp only [Act.put, List.setIfInBounds_toArray, List.set_cons_zero, List.set_cons_succ]
                    refine wpAnyH_ready (rs := [15]) (by kernel_rfl) (by simp) ?_
                    refine AllReadyH.cons (by simp only [List.getElem?_toArray, List.getElem?_cons_zero, List.getElem?_cons_succ]; rfl) (fun K hK => ?step47) ?more47
                    case step47 =>
                      go_simp
                      refine hK.out _ _ ?hS48 (fun hHeld => ?_)
                      case hS48 => exact HS.out _ (by repeat (first | with_reducible exact b11 | with_reducible exact b10 | with_reducible exact b9 | with_reducible exact b8 | with_reducible exact b7 | with_reducible exact b6 | with_reducible exact hBe | with_reducible refine below_al ?_ _ | with_reducible refine Below.drew ?_))
                      clear hK K
                      try simp only [Act.put, List.setIfInBounds_toArray, List.set_cons_zero, List.set_cons_succ]
                      refine wpAnyH_ready (rs := [21]) (by kernel_rfl) (by simp) ?_
                      refine AllReadyH.cons (by simp only [List.getElem?_toArray, List.getElem?_cons_zero, List.getElem?_cons_succ]; rfl) (fun K hK => ?step49) ?more49
                      case step49 =>
                        refine step_cons (by rfl) _ _ rfl w5.heap.size (t.nodes.length : Int) _ A9 c9 LT LT.length _ _ (by rfl) (by rfl) rfl (by first | exact (blk_bel (blk_bel (blk_bel (blk_bel (Blk.new _ _ _) l6) l7) l8) l9) | exact (blk_bel (blk_bel (blk_bel (blk_bel (Blk.drew (Blk.new _ _ _)) l6) l7) l8) l9) | exact (blk_bel (blk_bel (blk_bel (Blk.new _ _ _) l7) l8) l9) | exact (blk_bel (blk_bel (blk_bel (Blk.drew (Blk.new _ _ _)) l7) l8) l9) | exact (blk_bel (blk_bel (Blk.new _ _ _) l8) l9) | exact (blk_bel (blk_bel (Blk.drew (Blk.new _ _ _)) l8) l9) | exact (blk_bel (Blk.new _ _ _) l9) | exact (blk_bel (Blk.drew (Blk.new _ _ _)) l9) | exact (Blk.new _ _ _) | exact (Blk.drew (Blk.new _ _ _))) (by first | (simp; done) | (simp; omega) | omega) (by first | exact R9 | exact RowI.alloc R9 _ | exact RowI.drew R9 | exact RowI.drew (RowI.alloc R9 _)) hll (show Below w5.heap.size w5 _ from (by repeat (first | with_reducible exact b11 | with_reducible exact b10 | with_reducible exact b9 | with_reducible exact b8 | with_reducible exact b7 | with_reducible exact b6 | with_reducible exact hBe | with_reducible refine below_al ?_ _ | with_reducible refine Below.drew ?_))).size _ _ XS A7 (by first | exact (RowI.below (RowI.below R7 l8) l9) | exact (RowI.below (RowI.below (RowI.alloc R7 _) l8) l9) | exact (RowI.below (RowI.alloc (RowI.below R7 l8) _) l9) | exact (RowI.alloc (RowI.below (RowI.below R7 l8) l9) _) | exact RowI.drew (RowI.below (RowI.below R7 l8) l9) | exact RowI.drew (RowI.below (RowI.below (RowI.alloc R7 _) l8) l9) | exact RowI.drew (RowI.below (RowI.alloc (RowI.below R7 l8) _) l9) | exact RowI.drew (RowI.alloc (RowI.below (RowI.below R7 l8) l9) _)) (by first | exact .inl (by first | (simp; done) | (simp; omega) | omega) | exact .inr (by first | (simp; done) | (simp; omega) | omega)) ?_; intro A10 c10 w10 rd10 l10 R10; have b10 : Below w5.heap.size w5 w10 := Below.trans (by repeat (first | with_reducible exact b11 | with_reducible exact b10 | with_reducible exact b9 | with_reducible exact b8 | with_reducible exact b7 | with_reducible exact b6 | with_reducible exact hBe | with_reducible refine below_al ?_ _ | with_reducible refine Below.drew ?_)) l10
                        refine hK.out _ _ ?hS50 (fun hHeld => ?_)
                        case hS50 => exact HS.out _ (by repeat (first | with_reducible exact b11 | with_reducible exact b10 | with_reducible exact b9 | with_reducible exact b8 | with_reducible exact b7 | with_reducible exact b6 | with_reducible exact hBe | with_reducible refine below_al ?_ _ | with_reducible refine Below.drew ?_))
                        clear hK K
                        try simp only [Act.put, List.setIfInBounds_toArray, List.set_cons_zero, List.set_cons_succ]
                        refine wpAnyH_ready (rs := [22]) (by kernel_rfl) (by simp) ?_
                        refine AllReadyH.cons (by simp only [List.getElem?_toArray, List.getElem?_cons_zero, List.getElem?_cons_succ]; rfl) (fun K hK => ?step51) ?more51
                        case step51 =>
                          go_simp; go_at_call 11; (with_reducible refine (same_at _ _ _ _ _ _ XS ((t.nodes.length : Int) :: LT) _ (R10.rd) rd10 rfl List.length_cons (by omega) (by omega) HEQ.out).mono ?_); rintro e w11 ⟨rfl, l11⟩; have b11 : Below w5.heap.size w5 w11 := Below.trans b10 (l11.mono b10.size)
                          go_wp2_with fail
                          refine hK.out _ _ ?hS52 (fun hHeld => ?_)
                          case hS52 => exact HS.out _ (by repeat (first | with_reducible exact b11 | with_reducible exact b10 | with_reducible exact b9 | with_reducible exact b8 | with_reducible exact b7 | with_reducible exact b6 | with_reducible exact hBe | with_reducible refine below_al ?_ _ | with_reducible refine Below.drew ?_))
                          clear hK K
                          try simp only [Act.put, List.setIfInBounds_toArray, List.set_cons_zero, List.set_cons_succ]
                          refine wpAnyH_take (i := 23) (v := ?v53) (by simp only [List.getElem?_toArray, List.getElem?_cons_zero, List.getElem?_cons_succ]; rfl) (by kernel_rfl) (by kernel_rfl) (by kernel_rfl) (fun _ _ _ h => h) (Or.inl ⟨by rfl, ?hy53⟩) (by assumption) ?rest53
                          case hy53 => (intro w hSw; (try dsimp only at hSw); go_simp; try with_reducible rfl)
                          try simp only [Act.put, List.setIfInBounds_toArray, List.set_cons_zero, List.set_cons_succ]
                          refine wpAnyH_take (i := 24) (v := ?v54) (by simp only [List.getElem?_toArray, List.getElem?_cons_zero, List.getElem?_cons_succ]; rfl) (by kernel_rfl) (by kernel_rfl) (by kernel_rfl) (fun _ _ _ h => h) (Or.inl ⟨by rfl, ?hy54⟩) (by assumption) ?rest54
                          case hy54 => (intro w hSw; (try dsimp only at hSw); go_simp; try with_reducible rfl)
                          try simp only [Act.put, List.setIfInBounds_toArray, List.set_cons_zero, List.set_cons_succ]
                          refine wpAnyH_done (by kernel_rfl) ?_ _
                          refine NoPanic.normal ?_
                          go_wp2_with fail
                          go_ret
                          exact ⟨rfl, hB5.trans (b11.mono hz5)⟩
                        exact AllReadyH.nil
                      exact AllReadyH.nil
                    exact AllReadyH.nil
                  exact AllReadyH.nil
                exact AllReadyH.nil
              refine AllReadyH.cons (by simp only [List.getElem?_toArray, List.getElem?_cons_zero, List.getElem?_cons_succ]; rfl) (fun K hK => ?step55) ?more55
              case step55 =>
                go_simp
                refine hK.out _ _ ?hS56 (fun hHeld => ?_)
                case hS56 => exact HS.out _ (by repeat (first | with_reducible exact b11 | with_reducible exact b10 | with_reducible exact b9 | with_reducible exact b8 | with_reducible exact b7 | with_reducible exact b6 | with_reducible exact hBe | with_reducible refine below_al ?_ _ | with_reducible refine Below.drew ?_))
                clear hK K
                try simp only [Act.put, List.setIfInBounds_toArray, List.set_cons_zero, List.set_cons_succ]
                refine wpAnyH_ready (rs := [13]) (by kernel_rfl) (by simp) ?_
                refine AllReadyH.cons (by simp only [List.getElem?_toArray, List.getElem?_cons_zero, List.getElem?_cons_succ]; rfl) (fun K hK => ?step57) ?more57
                case step57 =>
                  go_simp; go_at_call 12; (with_reducible refine (KA.out XS _ _ (by first | with_reducible exact s6 | with_reducible exact SeqAt.alloc s6 _ | with_reducible exact SeqAt.drew s6 | with_reducible exact SeqAt.alloc (SeqAt.drew s6) _ | with_reducible exact SeqAt.drew (SeqAt.alloc s6 _)) hxl (by repeat (first | with_reducible exact b11 | with_reducible exact b10 | with_reducible exact b9 | with_reducible exact b8 | with_reducible exact b7 | with_reducible exact b6 | with_reducible exact hBe | with_reducible refine below_al ?_ _ | with_reducible refine Below.drew ?_))).mono ?_); rintro e w7 ⟨A7, c7, rfl, R7, l7, b7⟩; have z7 := l7.size; have y7 : w5.heap.size ≤ w7.heap.size := b7.size; try simp at z7
                  go_wp2_with fail
                  refine hK.out _ _ ?hS58 (fun hHeld => ?_)
                  case hS58 => exact HS.out _ (by repeat (first | with_reducible exact b11 | with_reducible exact b10 | with_reducible exact b9 | with_reducible exact b8 | with_reducible exact b7 | with_reducible exact b6 | with_reducible exact hBe | with_reducible refine below_al ?_ _ | with_reducible refine Below.drew ?_))
                  clear hK K
                  try simp only [Act.put, List.setIfInBounds_toArray, List.set_cons_zero, List.set_cons_succ]
                  refine wpAnyH_ready (rs := [19]) (by kernel_rfl) (by simp) ?_
                  refine AllReadyH.cons (by simp only [List.getElem?_toArray, List.getElem?_cons_zero, List.getElem?_cons_succ]; rfl) (fun K hK => ?step59) ?more59
                  case step59 =>
                    go_simp; go_at_call 13; (with_reducible refine (KWt.out _ (by repeat (first | with_reducible exact b11 | with_reducible exact b10 | with_reducible exact b9 | with_reducible exact b8 | with_reducible exact b7 | with_reducible exact b6 | with_reducible exact hBe | with_reducible refine below_al ?_ _ | with_reducible refine Below.drew ?_))).mono ?_); rintro e w8 ⟨B8, rfl, s8, l8, b8⟩; have z8 := l8.size; have y8 : w5.heap.size ≤ w8.heap.size := b8.size; try simp at z8
                    go_wp2_with fail
                    refine hK.out _ _ ?hS60 (fun hHeld => ?_)
                    case hS60 => exact HS.out _ (by repeat (first | with_reducible exact b11 | with_reducible exact b10 | with_reducible exact b9 | with_reducible exact b8 | with_reducible exact b7 | with_reducible exact b6 | with_reducible exact hBe | with_reducible refine below_al ?_ _ | with_reducible refine Below.drew ?_))
                    clear hK K
                    try simp only [Act.put, List.setIfInBounds_toArray, List.set_cons_zero, List.set_cons_succ]
                    refine wpAnyH_ready (rs := [20]) (by kernel_rfl) (by simp) ?_
                    refine AllReadyH.cons (by simp only [List.getElem?_toArray, List.getElem?_cons_zero, List.getElem?_cons_succ]; rfl) (fun K hK => ?step61) ?more61
                    case step61 =>
                      go_simp; go_at_call 12; (with_reducible refine (KA.out LT _ _ (by first | with_reducible exact s8 | with_reducible exact SeqAt.alloc s8 _ | with_reducible exact SeqAt.drew s8 | with_reducible exact SeqAt.alloc (SeqAt.drew s8) _ | with_reducible exact SeqAt.drew (SeqAt.alloc s8 _)) hll (by repeat (first | with_reducible exact b11 | with_reducible exact b10 | with_reducible exact b9 | with_reducible exact b8 | with_reducible exact b7 | with_reducible exact b6 | with_reducible exact hBe | with_reducible refine below_al ?_ _ | with_reducible refine Below.drew ?_))).mono ?_); rintro e w9 ⟨A9, c9, rfl, R9, l9, b9⟩; have z9 := l9.size; have y9 : w5.heap.size ≤ w9.heap.size := b9.size; try simp at z9
                      go_wp2_with fail
                      refine hK.out _ _ ?hS62 (fun hHeld => ?_)
                      case hS62 => exact HS.out _ (by repeat (first | with_reducible exact b11 | with_reducible exact b10 | with_reducible exact b9 | with_reducible exact b8 | with_reducible exact b7 | with_reducible exact b6 | with_reducible exact hBe | with_reducible refine below_al ?_ _ | with_reducible refine Below.drew ?_))
                      clear hK K
                      try simp only [Act.put, List.setIfInBounds_toArray, List.set_cons_zero, List.set_cons_succ]
                      refine wpAnyH_ready (rs := [21]) (by kernel_rfl) (by simp) ?_
                      refine AllReadyH.cons (by simp only [List.getElem?_toArray, List.getElem?_cons_zero, List.getElem?_cons_succ]; rfl) (fun K hK => ?step63) ?more63
                      case step63 =>
                        refine step_cons (by rfl) _ _ rfl w5.heap.size (t.nodes.length : Int) _ A9 c9 LT LT.length _ _ (by rfl) (by rfl) rfl (by first | exact (blk_bel (blk_bel (blk_bel (blk_bel (Blk.new _ _ _) l6) l7) l8) l9) | exact (blk_bel (blk_bel (blk_bel (blk_bel (Blk.drew (Blk.new _ _ _)) l6) l7) l8) l9) | exact (blk_bel (blk_bel (blk_bel (Blk.new _ _ _) l7) l8) l9) | exact (blk_bel (blk_bel (blk_bel (Blk.drew (Blk.new _ _ _)) l7) l8) l9) | exact (blk_bel (blk_bel (Blk.new _ _ _) l8) l9) | exact (blk_bel (blk_bel (Blk.drew (Blk.new _ _ _)) l8) l9) | exact (blk_bel (Blk.new _ _ _) l9) | exact (blk_bel (Blk.drew (Blk.new _ _ _)) l9) | exact (Blk.new _ _ _) | exact (Blk.drew (Blk.new _ _ _))) (by first | (simp; done) | (simp; omega) | omega) (by first | exact R9 | exact RowI.alloc R9 _ | exact RowI.drew R9 | exact RowI.drew (RowI.alloc R9 _)) hll (show Below w5.heap.size w5 _ from (by repeat (first | with_reducible exact b11 | with_reducible exact b10 | with_reducible exact b9 | with_reducible exact b8 | with_reducible exact b7 | with_reducible exact b6 | with_reducible exact hBe | with_reducible refine below_al ?_ _ | with_reducible refine Below.drew ?_))).size _ _ XS A7 (by first | exact (RowI.below (RowI.below R7 l8) l9) | exact (RowI.below (RowI.below (RowI.alloc R7 _) l8) l9) | exact (RowI.below (RowI.alloc (RowI.below R7 l8) _) l9) | exact (RowI.alloc (RowI.below (RowI.below R7 l8) l9) _) | exact RowI.drew (RowI.below (RowI.below R7 l8) l9) | exact RowI.drew (RowI.below (RowI.below (RowI.alloc R7 _) l8) l9) | exact RowI.drew (RowI.below (RowI.alloc (RowI.below R7 l8) _) l9) | exact RowI.drew (RowI.alloc (RowI.below (RowI.below R7 l8) l9) _)) (by first | exact .inl (by first | (simp; done) | (simp; omega) | omega) | exact .inr (by first | (simp; done) | (simp; omega) | omega)) ?_; intro A10 c10 w10 rd10 l10 R10; have b10 : Below w5.heap.size w5 w10 := Below.trans (by repeat (first | with_reducible exact b11 | with_reducible exact b10 | with_reducible exact b9 | with_reducible exact b8 | with_reducible exact b7 | with_reducible exact b6 | with_reducible exact hBe | with_reducible refine below_al ?_ _ | with_reducible refine Below.drew ?_)) l10
                        refine hK.out _ _ ?hS64 (fun hHeld => ?_)
                        case hS64 => exact HS.out _ (by repeat (first | with_reducible exact b11 | with_reducible exact b10 | with_reducible exact b9 | with_reducible exact b8 | with_reducible exact b7 | with_reducible exact b6 | with_reducible exact hBe | with_reducible refine below_al ?_ _ | with_reducible refine Below.drew ?_))
                        clear hK K
                        try simp only [Act.put, List.setIfInBounds_toArray, List.set_cons_zero, List.set_cons_succ]
                        refine wpAnyH_ready (rs := [22]) (by kernel_rfl) (by simp) ?_
                        refine AllReadyH.cons (by simp only [List.getElem?_toArray, List.getElem?_cons_zero, List.getElem?_cons_succ]; rfl) (fun K hK => ?step65) ?more65
                        case step65 =>
                          go_simp; go_at_call 11; (with_reducible refine (same_at _ _ _ _ _ _ XS ((t.nodes.length : Int) :: LT) _ (R10.rd) rd10 rfl List.length_cons (by omega) (by omega) HEQ.out).mono ?_); rintro e w11 ⟨rfl, l11⟩; have b11 : Below w5.heap.size w5 w11 := Below.trans b10 (l11.mono b10.size)
                          go_wp2_with fail
                          refine hK.out _ _ ?hS66 (fun hHeld => ?_)
                          case hS66 => exact HS.out _ (by repeat (first | with_reducible exact b11 | with_reducible exact b10 | with_reducible exact b9 | with_reducible exact b8 | with_reducible exact b7 | with_reducible exact b6 | with_reducible exact hBe | with_reducible refine below_al ?_ _ | with_reducible refine Below.drew ?_))
                          clear hK K
                          try simp only [Act.put, List.setIfInBounds_toArray, List.set_cons_zero, List.set_cons_succ]
                          refine wpAnyH_take (i := 23) (v := ?v67) (by simp only [List.getElem?_toArray, List.getElem?_cons_zero, List.getElem?_cons_succ]; rfl) (by kernel_rfl) (by kernel_rfl) (by kernel_rfl) (fun _ _ _ h => h) (Or.inl ⟨by rfl, ?hy67⟩) (by assumption) ?rest67
                          case hy67 => (intro w hSw; (try dsimp only at hSw); go_simp; try with_reducible rfl)
                          try simp only [Act.put, List.setIfInBounds_toArray, List.set_cons_zero, List.set_cons_succ]
                          refine wpAnyH_take (i := 24) (v := ?v68) (by simp only [List.getElem?_toArray, List.getElem?_cons_zero, List.getElem?_cons_succ]; rfl) (by kernel_rfl) (by kernel_rfl) (by kernel_rfl) (fun _ _ _ h => h) (Or.inl ⟨by rfl, ?hy68⟩) (by assumption) ?rest68
                          case hy68 => (intro w hSw; (try dsimp only at hSw); go_simp; try with_reducible rfl)
                          try simp only [Act.put, List.setIfInBounds_toArray, List.set_cons_zero, List.set_cons_succ]
                          refine wpAnyH_done (by kernel_rfl) ?_ _
                          refine NoPanic.normal ?_
                          go_wp2_with fail
                          go_ret
                          exact ⟨rfl, hB5.trans (b11.mono hz5)⟩
                        exact AllReadyH.nil
                      exact AllReadyH.nil
                    exact AllReadyH.nil
                  exact AllReadyH.nil
                exact AllReadyH.nil
              exact AllReadyH.nil
            refine AllReadyH.cons (by simp only [List.getElem?_toArray, List.getElem?_cons_zero, List.getElem?_cons_succ]; rfl) (fun K hK => ?step69) ?more69
            case step69 =>
              go_simp
              refine hK.out _ _ ?hS70 (fun hHeld => ?_)
              case hS70 => exact HS.out _ (by repeat (first | with_reducible exact b11 | with_reducible exact b10 | with_reducible exact b9 | with_reducible exact b8 | with_reducible exact b7 | with_reducible exact b6 | with_reducible exact hBe | with_reducible refine below_al ?_ _ | with_reducible refine Below.drew ?_))
              clear hK K
              try simp only [Act.put, List.setIfInBounds_toArray, List.set_cons_zero, List.set_cons_succ]
              refine wpAnyH_ready (rs := [12]) (by kernel_rfl) (by simp) ?_
              refine AllReadyH.cons (by simp only [List.getElem?_toArray, List.getElem?_cons_zero, List.getElem?_cons_succ]; rfl) (fun K hK => ?step71) ?more71
              case step71 =>
                go_simp; go_at_call 13; (with_reducible refine (KWu.out _ (by repeat (first | with_reducible exact b11 | with_reducible exact b10 | with_reducible exact b9 | with_reducible exact b8 | with_reducible exact b7 | with_reducible exact b6 | with_reducible exact hBe | with_reducible refine below_al ?_ _ | with_reducible refine Below.drew ?_))).mono ?_); rintro e w6 ⟨B6, rfl, s6, l6, b6⟩; have z6 := l6.size; have y6 : w5.heap.size ≤ w6.heap.size := b6.size; try simp at z6
                go_wp2_with fail
                refine hK.out _ _ ?hS72 (fun hHeld => ?_)
                case hS72 => exact HS.out _ (by repeat (first | with_reducible exact b11 | with_reducible exact b10 | with_reducible exact b9 | with_reducible exact b8 | with_reducible exact b7 | with_reducible exact b6 | with_reducible exact hBe | with_reducible refine below_al ?_ _ | with_reducible refine Below.drew ?_))
                clear hK K
                try simp only [Act.put, List.setIfInBounds_toArray, List.set_cons_zero, List.set_cons_succ]
                refine wpAnyH_ready (rs := [13]) (by kernel_rfl) (by simp) ?_
                refine AllReadyH.cons (by simp only [List.getElem?_toArray, List.getElem?_cons_zero, List.getElem?_cons_succ]; rfl) (fun K hK => ?step73) ?more73
                case step73 =>
                  go_simp; go_at_call 12; (with_reducible refine (KA.out XS _ _ (by first | with_reducible exact s6 | with_reducible exact SeqAt.alloc s6 _ | with_reducible exact SeqAt.drew s6 | with_reducible exact SeqAt.alloc (SeqAt.drew s6) _ | with_reducible exact SeqAt.drew (SeqAt.alloc s6 _)) hxl (by repeat (first | with_reducible exact b11 | with_reducible exact b10 | with_reducible exact b9 | with_reducible exact b8 | with_reducible exact b7 | with_reducible exact b6 | with_reducible exact hBe | with_reducible refine below_al ?_ _ | with_reducible refine Below.drew ?_))).mono ?_); rintro e w7 ⟨A7, c7, rfl, R7, l7, b7⟩; have z7 := l7.size; have y7 : w5.heap.size ≤ w7.heap.size := b7.size; try simp at z7
                  go_wp2_with fail
                  refine hK.out _ _ ?hS74 (fun hHeld => ?_)
                  case hS74 => exact HS.out _ (by repeat (first | with_reducible exact b11 | with_reducible exact b10 | with_reducible exact b9 | with_reducible exact b8 | with_reducible exact b7 | with_reducible exact b6 | with_reducible exact hBe | with_reducible refine below_al ?_ _ | with_reducible refine Below.drew ?_))
                  clear hK K
                  try simp only [Act.put, List.setIfInBounds_toArray, List.set_cons_zero, List.set_cons_succ]
                  refine wpAnyH_ready (rs := [19]) (by kernel_rfl) (by simp) ?_
                  refine AllReadyH.cons (by simp only [List.getElem?_toArray, List.getElem?_cons_zero, List.getElem?_cons_succ]; rfl) (fun K hK => ?step75) ?more75
                  case step75 =>
                    go_simp; go_at_call 13; (with_reducible refine (KWt.out _ (by repeat (first | with_reducible exact b11 | with_reducible exact b10 | with_reducible exact b9 | with_reducible exact b8 | with_reducible exact b7 | with_reducible exact b6 | with_reducible exact hBe | with_reducible refine below_al ?_ _ | with_reducible refine Below.drew ?_))).mono ?_); rintro e w8 ⟨B8, rfl, s8, l8, b8⟩; have z8 := l8.size; have y8 : w5.heap.size ≤ w8.heap.size := b8.size; try simp at z8
                    go_wp2_with fail
                    refine hK.out _ _ ?hS76 (fun hHeld => ?_)
                    case hS76 => exact HS.out _ (by repeat (first | with_reducible exact b11 | with_reducible exact b10 | with_reducible exact b9 | with_reducible exact b8 | with_reducible exact b7 | with_reducible exact b6 | with_reducible exact hBe | with_reducible refine below_al ?_ _ | with_reducible refine Below.drew ?_))
                    clear hK K
                    try simp only [Act.put, List.setIfInBounds_toArray, List.set_cons_zero, List.set_cons_succ]
                    refine wpAnyH_ready (rs := [20]) (by kernel_rfl) (by simp) ?_
                    refine AllReadyH.cons (by simp only [List.getElem?_toArray, List.getElem?_cons_zero, List.getElem?_cons_succ]; rfl) (fun K hK => ?step77) ?more77
                    case step77 =>
                      go_simp; go_at_call 12; (with_reducible refine (KA.out LT _ _ (by first | with_reducible exact s8 | with_reducible exact SeqAt.alloc s8 _ | with_reducible exact SeqAt.drew s8 | with_reducible exact SeqAt.alloc (SeqAt.drew s8) _ | with_reducible exact SeqAt.drew (SeqAt.alloc s8 _)) hll (by repeat (first | with_reducible exact b11 | with_reducible exact b10 | with_reducible exact b9 | with_reducible exact b8 | with_reducible exact b7 | with_reducible exact b6 | with_reducible exact hBe | with_reducible refine below_al ?_ _ | with_reducible refine Below.drew ?_))).mono ?_); rintro e w9 ⟨A9, c9, rfl, R9, l9, b9⟩; have z9 := l9.size; have y9 : w5.heap.size ≤ w9.heap.size := b9.size; try simp at z9
                      go_wp2_with fail
                      refine hK.out _ _ ?hS78 (fun hHeld => ?_)
                      case hS78 => exact HS.out _ (by repeat (first | with_reducible exact b11 | with_reducible exact b10 | with_reducible exact b9 | with_reducible exact b8 | with_reducible exact b7 | with_reducible exact b6 | with_reducible exact hBe | with_reducible refine below_al ?_ _ | with_reducible refine Below.drew ?_))
                      clear hK K
                      try simp only [Act.put, List.setIfInBounds_toArray, List.set_cons_zero, List.set_cons_succ]
                      refine wpAnyH_ready (rs := [21]) (by kernel_rfl) (by simp) ?_
                      refine AllReadyH.cons (by simp only [List.getElem?_toArray, List.getElem?_cons_zero, List.getElem?_cons_succ]; rfl) (fun K hK => ?step79) ?more79
                      case step79 =>
                        refine step_cons (by rfl) _ _ rfl w5.heap.size (t.nodes.length : Int) _ A9 c9 LT LT.length _ _ (by rfl) (by rfl) rfl (by first | exact (blk_bel (blk_bel (blk_bel (blk_bel (Blk.new _ _ _) l6) l7) l8) l9) | exact (blk_bel (blk_bel (blk_bel (blk_bel (Blk.drew (Blk.new _ _ _)) l6) l7) l8) l9) | exact (blk_bel (blk_bel (blk_bel (Blk.new _ _ _) l7) l8) l9) | exact (blk_bel (blk_bel (blk_bel (Blk.drew (Blk.new _ _ _)) l7) l8) l9) | exact (blk_bel (blk_bel (Blk.new _ _ _) l8) l9) | exact (blk_bel (blk_bel (Blk.drew (Blk.new _ _ _)) l8) l9) | exact (blk_bel (Blk.new _ _ _) l9) | exact (blk_bel (Blk.drew (Blk.new _ _ _)) l9) | exact (Blk.new _ _ _) | exact (Blk.drew (Blk.new _ _ _))) (by first | (simp; done) | (simp; omega) | omega) (by first | exact R9 | exact RowI.alloc R9 _ | exact RowI.drew R9 | exact RowI.drew (RowI.alloc R9 _)) hll (show Below w5.heap.size w5 _ from (by repeat (first | with_reducible exact b11 | with_reducible exact b10 | with_reducible exact b9 | with_reducible exact b8 | with_reducible exact b7 | with_reducible exact b6 | with_reducible exact hBe | with_reducible refine below_al ?_ _ | with_reducible refine Below.drew ?_))).size _ _ XS A7 (by first | exact (RowI.below (RowI.below R7 l8) l9) | exact (RowI.below (RowI.below (RowI.alloc R7 _) l8) l9) | exact (RowI.below (RowI.alloc (RowI.below R7 l8) _) l9) | exact (RowI.alloc (RowI.below (RowI.below R7 l8) l9) _) | exact RowI.drew (RowI.below (RowI.below R7 l8) l9) | exact RowI.drew (RowI.below (RowI.below (RowI.alloc R7 _) l8) l9) | exact RowI.drew (RowI.below (RowI.alloc (RowI.below R7 l8) _) l9) | exact RowI.drew (RowI.alloc (RowI.below (RowI.below R7 l8) l9) _)) (by first | exact .inl (by first | (simp; done) | (simp; omega) | omega) | exact .inr (by first | (simp; done) | (simp; omega) | omega)) ?_; intro A10 c10 w10 rd10 l10 R10; have b10 : Below w5.heap.size w5 w10 := Below.trans (by repeat (first | with_reducible exact b11 | with_reducible exact b10 | with_reducible exact b9 | with_reducible exact b8 | with_reducible exact b7 | with_reducible exact b6 | with_reducible exact hBe | with_reducible refine below_al ?_ _ | with_reducible refine Below.drew ?_)) l10
                        refine hK.out _ _ ?hS80 (fun hHeld => ?_)
                        case hS80 => exact HS.out _ (by repeat (first | with_reducible exact b11 | with_reducible exact b10 | with_reducible exact b9 | with_reducible exact b8 | with_reducible exact b7 | with_reducible exact b6 | with_reducible exact hBe | with_reducible refine below_al ?_ _ | with_reducible refine Below.drew ?_))
                        clear hK K
                        try simp only [Act.put, List.setIfInBounds_toArray, List.set_cons_zero, List.set_cons_succ]
                        refine wpAnyH_ready (rs := [22]) (by kernel_rfl) (by simp) ?_
                        refine AllReadyH.cons (by simp only [List.getElem?_toArray, List.getElem?_cons_zero, List.getElem?_cons_succ]; rfl) (fun K hK => ?step81) ?more81
                        case step81 =>
                          go_simp; go_at_call 11; (with_reducible refine (same_at _ _ _ _ _ _ XS ((t.nodes.length : Int) :: LT) _ (R10.rd) rd10 rfl List.length_cons (by omega) (by omega) HEQ.out).mono ?_); rintro e w11 ⟨rfl, l11⟩; have b11 : Below w5.heap.size w5 w11 := Below.trans b10 (l11.mono b10.size)
                          go_wp2_with fail
                          refine hK.out _ _ ?hS82 (fun hHeld => ?_)
                          case hS82 => exact HS.out _ (by repeat (first | with_reducible exact b11 | with_reducible exact b10 | with_reducible exact b9 | with_reducible exact b8 | with_reducible exact b7 | with_reducible exact b6 | with_reducible exact hBe | with_reducible refine below_al ?_ _ | with_reducible refine Below.drew ?_))
                          clear hK K
                          try simp only [Act.put, List.setIfInBounds_toArray, List.set_cons_zero, List.set_cons_succ]
                          refine wpAnyH_take (i := 23) (v := ?v83) (by simp only [List.getElem?_toArray, List.getElem?_cons_zero, List.getElem?_cons_succ]; rfl) (by kernel_rfl) (by kernel_rfl) (by kernel_rfl) (fun _ _ _ h => h) (Or.inl ⟨by rfl, ?hy83⟩) (by assumption) ?rest83
                          case hy83 => (intro w hSw; (try dsimp only at hSw); go_simp; try with_reducible rfl)
                          try simp only [Act.put, List.setIfInBounds_toArray, List.set_cons_zero, List.set_cons_succ]
                          refine wpAnyH_take (i := 24) (v := ?v84) (by simp only [List.getElem?_toArray, List.getElem?_cons_zero, List.getElem?_cons_succ]; rfl) (by kernel_rfl) (by kernel_rfl) (by kernel_rfl) (fun _ _ _ h => h) (Or.inl ⟨by rfl, ?hy84⟩) (by assumption) ?rest84
                          case hy84 => (intro w hSw; (try dsimp only at hSw); go_simp; try with_reducible rfl)
                          try simp only [Act.put, List.setIfInBounds_toArray, List.set_cons_zero, List.set_cons_succ]
                          refine wpAnyH_done (by kernel_rfl) ?_ _
                          refine NoPanic.normal ?_
                          go_wp2_with fail
                          go_ret
                          exact ⟨rfl, hB5.trans (b11.mono hz5)⟩
                        exact AllReadyH.nil
                      exact AllReadyH.nil
                    exact AllReadyH.nil
                  exact AllReadyH.nil
                exact AllReadyH.nil
              exact AllReadyH.nil
            exact AllReadyH.nil
          case inr =>
            go_wp2_with fail
            refine wp_region_noPanic ?_
            refine wp_region_held_drew (S := fun W => W.cell? ⟨Bu, 0, none⟩ = some (.slice pu.a1 (t.nodes.length + 1) pu.c1) ∧ W.cell? ⟨Bu, 1, none⟩ = some (.slice p.a2 t.types.length p.c2) ∧ W.cell? ⟨Bu, 2, none⟩ = some (.slice p.a3 t.aliases.length p.c3) ∧
              W.cell? ⟨w.heap.size, 0, none⟩ = some (.slice p.a1 t.nodes.length p.c1) ∧ W.cell? ⟨w.heap.size, 1, none⟩ = some (.slice p.a2 t.types.length p.c2) ∧ W.cell? ⟨w.heap.size, 2, none⟩ = some (.slice p.a3 t.aliases.length p.c3) ∧ Below w5.heap.size w5 W) (by kernel_rfl) (HS.out _ (Below.drew hBe)) (fun hHeld => ?_)
            refine wpAnyH_take (i := 0) (v := ?v1001) (by simp only [List.getElem?_toArray, List.getElem?_cons_zero]; rfl) (by kernel_rfl) (by kernel_rfl) (by kernel_rfl) (fun _ _ _ h => h) (Or.inl ⟨by rfl, ?hy1001⟩) (by assumption) ?rest1001
            case hy1001 => (intro w hSw; (try dsimp only at hSw); go_simp; try with_reducible rfl)
            try simp only [Act.put, List.setIfInBounds_toArray, List.set_cons_zero, List.set_cons_succ]
            refine wpAnyH_take (i := 1) (v := ?v1002) (by simp only [List.getElem?_toArray, List.getElem?_cons_zero, List.getElem?_cons_succ]; rfl) (by kernel_rfl) (by kernel_rfl) (by kernel_rfl) (fun _ _ _ h => h) (Or.inl ⟨by rfl, ?hy1002⟩) (by assumption) ?rest1002
            case hy1002 => (intro w hSw; (try dsimp only at hSw); go_simp; try with_reducible rfl)
            try simp only [Act.put, List.setIfInBounds_toArray, List.set_cons_zero, List.set_cons_succ]
            refine wpAnyH_take (i := 2) (v := .bool false) (by simp only [List.getElem?_toArray, List.getElem?_cons_zero, List.getElem?_cons_succ]; rfl) (by kernel_rfl) (by kernel_rfl) (by kernel_rfl) (fun _ _ _ h => h) (Or.inl ⟨by rfl, ?hy1003⟩) (by assumption) ?rest1003
            case hy1003 => (intro w hSw; (try dsimp only at hSw); go_simp; try with_reducible rfl)
            try simp only [Act.put, List.setIfInBounds_toArray, List.set_cons_zero, List.set_cons_succ]
            refine wpAnyH_take (i := 3) (v := ?v1004) (by simp only [List.getElem?_toArray, List.getElem?_cons_zero, List.getElem?_cons_succ]; rfl) (by kernel_rfl) (by kernel_rfl) (by kernel_rfl) (fun _ _ _ h => h) (Or.inl ⟨by rfl, ?hy1004⟩) (by assumption) ?rest1004
            case hy1004 => (intro w hSw; (try dsimp only at hSw); go_simp; try with_reducible rfl)
            try simp only [Act.put, List.setIfInBounds_toArray, List.set_cons_zero, List.set_cons_succ]
            refine wpAnyH_take (i := 4) (v := ?v1005) (by simp only [List.getElem?_toArray, List.getElem?_cons_zero, List.getElem?_cons_succ]; rfl) (by kernel_rfl) (by kernel_rfl) (by kernel_rfl) (fun _ _ _ h => h) (Or.inl ⟨by rfl, ?hy1005⟩) (by assumption) ?rest1005
            case hy1005 => (intro w hSw; (try dsimp only at hSw); go_simp; try with_reducible rfl)
            try simp only [Act.put, List.setIfInBounds_toArray, List.set_cons_zero, List.set_cons_succ]
            refine wpAnyH_take (i := 5) (v := ?v1006) (by simp only [List.getElem?_toArray, List.getElem?_cons_zero, List.getElem?_cons_succ]; rfl) (by kernel_rfl) (by kernel_rfl) (by kernel_rfl) (fun _ _ _ h => h) (Or.inl ⟨by rfl, ?hy1006⟩) (by assumption) ?rest1006
            case hy1006 => (intro w hSw; (try dsimp only at hSw); go_simp; try with_reducible rfl)
            try simp only [Act.put, List.setIfInBounds_toArray, List.set_cons_zero, List.set_cons_succ]
            refine wpAnyH_take (i := 6) (v := ?v1007) (by simp only [List.getElem?_toArray, List.getElem?_cons_zero, List.getElem?_cons_succ]; rfl) (by kernel_rfl) (by kernel_rfl) (by kernel_rfl) (fun _ _ _ h => h) (Or.inl ⟨by rfl, ?hy1007⟩) (by assumption) ?rest1007
            case hy1007 => (intro w hSw; (try dsimp only at hSw); go_simp; try with_reducible rfl)
            try simp only [Act.put, List.setIfInBounds_toArray, List.set_cons_zero, List.set_cons_succ]
            refine wpAnyH_take (i := 7) (v := .bool true) (by simp only [List.getElem?_toArray, List.getElem?_cons_zero, List.getElem?_cons_succ]; rfl) (by kernel_rfl) (by kernel_rfl) (by kernel_rfl) (fun _ _ _ h => h) (Or.inl ⟨by rfl, ?hy1008⟩) (by assumption) ?rest1008
            case hy1008 => (intro w hSw; (try dsimp only at hSw); go_simp; try with_reducible rfl)
            try simp only [Act.put, List.setIfInBounds_toArray, List.set_cons_zero, List.set_cons_succ]
            refine wpAnyH_take (i := 8) (v := ?v1009) (by simp only [List.getElem?_toArray, List.getElem?_cons_zero, List.getElem?_cons_succ]; rfl) (by kernel_rfl) (by kernel_rfl) (by kernel_rfl) (fun _ _ _ h => h) (Or.inl ⟨by rfl, ?hy1009⟩) (by assumption) ?rest1009
            case hy1009 => (intro w hSw; (try dsimp only at hSw); go_simp; try with_reducible rfl)
            try simp only [Act.put, List.setIfInBounds_toArray, List.set_cons_zero, List.set_cons_succ]
            refine wpAnyH_take (i := 9) (v := ?v1010) (by simp only [List.getElem?_toArray, List.getElem?_cons_zero, List.getElem?_cons_succ]; rfl) (by kernel_rfl) (by kernel_rfl) (by kernel_rfl) (fun _ _ _ h => h) (Or.inl ⟨by rfl, ?hy1010⟩) (by assumption) ?rest1010
            case hy1010 => (intro w hSw; (try dsimp only at hSw); go_simp; try with_reducible rfl)
            try simp only [Act.put, List.setIfInBounds_toArray, List.set_cons_zero, List.set_cons_succ]
            refine wpAnyH_take (i := 10) (v := ?v1011) (by simp only [List.getElem?_toArray, List.getElem?_cons_zero, List.getElem?_cons_succ]; rfl) (by kernel_rfl) (by kernel_rfl) (by kernel_rfl) (fun _ _ _ h => h) (Or.inl ⟨by rfl, ?hy1011⟩) (by assumption) ?rest1011
            case hy1011 => (intro w hSw; (try dsimp only at hSw); go_simp; try with_reducible rfl)
            try simp only [Act.put, List.setIfInBounds_toArray, List.set_cons_zero, List.set_cons_succ]
            refine wpAnyH_take (i := 11) (v := ?v1012) (by simp only [List.getElem?_toArray, List.getElem?_cons_zero, List.getElem?_cons_succ]; rfl) (by kernel_rfl) (by kernel_rfl) (by kernel_rfl) (fun _ _ _ h => h) (Or.inl ⟨by rfl, ?hy1012⟩) (by assumption) ?rest1012
            case hy1012 => (intro w hSw; (try dsimp only at hSw); go_simp; try with_reducible rfl)
            try simp only [Act.put, List.setIfInBounds_toArray, List.set_cons_zero, List.set_cons_succ]
            refine wpAnyH_take (i := 14) (v := ?v1013) (by simp only [List.getElem?_toArray, List.getElem?_cons_zero, List.getElem?_cons_succ]; rfl) (by kernel_rfl) (by kernel_rfl) (by kernel_rfl) (fun _ _ _ h => h) (Or.inl ⟨by rfl, ?hy1013⟩) (by assumption) ?rest1013
            case hy1013 => (intro w hSw; (try dsimp only at hSw); go_simp; try with_reducible rfl)
            try simp only [Act.put, List.setIfInBounds_toArray, List.set_cons_zero, List.set_cons_succ]
            refine wpAnyH_take (i := 16) (v := ?v1014) (by simp only [List.getElem?_toArray, List.getElem?_cons_zero, List.getElem?_cons_succ]; rfl) (by kernel_rfl) (by kernel_rfl) (by kernel_rfl) (fun _ _ _ h => h) (Or.inl ⟨by rfl, ?hy1014⟩) (by assumption) ?rest1014
            case hy1014 => (intro w hSw; (try dsimp only at hSw); go_simp; try with_reducible rfl)
            try simp only [Act.put, List.setIfInBounds_toArray, List.set_cons_zero, List.set_cons_succ]
            refine wpAnyH_take (i := 17) (v := ?v1015) (by simp only [List.getElem?_toArray, List.getElem?_cons_zero, List.getElem?_cons_succ]; rfl) (by kernel_rfl) (by kernel_rfl) (by kernel_rfl) (fun _ _ _ h => h) (Or.inl ⟨by rfl, ?hy1015⟩) (by assumption) ?rest1015
            case hy1015 => (intro w hSw; (try dsimp only at hSw); go_simp; try with_reducible rfl)
            try simp only [Act.put, List.setIfInBounds_toArray, List.set_cons_zero, List.set_cons_succ]
            refine wpAnyH_take (i := 18) (v := ?v1016) (by simp only [List.getElem?_toArray, List.getElem?_cons_zero, List.getElem?_cons_succ]; rfl) (by kernel_rfl) (by kernel_rfl) (by kernel_rfl) (fun _ _ _ h => h) (Or.inl ⟨by rfl, ?hy1016⟩) (by assumption) ?rest1016
            case hy1016 => (intro w hSw; (try dsimp only at hSw); go_simp; try with_reducible rfl)
            try simp only [Act.put, List.setIfInBounds_toArray, List.set_cons_zero, List.set_cons_succ]
            refine wpAnyH_ready (rs := [12, 15]) (by kernel_rfl) (by simp) ?_
            refine AllReadyH.cons (by simp only [List.getElem?_toArray, List.getElem?_cons_zero, List.getElem?_cons_succ]; rfl) (fun K hK => ?step1017) ?more1017
            case step1017 =>
              go_simp; go_at_call 13; (with_reducible refine (KWu.out _ (by repeat (first | with_reducible exact b11 | with_reducible exact b10 | with_reducible exact b9 | with_reducible exact b8 | with_reducible exact b7 | with_reducible exact b6 | with_reducible exact hBe | with_reducible refine below_al ?_ _ | with_reducible refine Below.drew ?_))).mono ?_); rintro e w6 ⟨B6, rfl, s6, l6, b6⟩; have z6 := l6.size; have y6 : w5.heap.size ≤ w6.heap.size := b6.size; try simp at z6
              go_wp2_with fail
              refine hK.out _ _ ?hS1018 (fun hHeld => ?_)
              case hS1018 => exact HS.out _ (by repeat (first | with_reducible exact b11 | with_reducible exact b10 | with_reducible exact b9 | with_reducible exact b8 | with_reducible exact b7 | with_reducible exact b6 | with_reducible exact hBe | with_reducible refine below_al ?_ _ | with_reducible refine Below.drew ?_))
              clear hK K
              try simp only [Act.put, List.setIfInBounds_toArray, List.set_cons_zero, List.set_cons_succ]
              refine wpAnyH_ready (rs := [13, 15]) (by kernel_rfl) (by simp) ?_
              refine AllReadyH.cons (by simp only [List.getElem?_toArray, List.getElem?_cons_zero, List.getElem?_cons_succ]; rfl) (fun K hK => ?step1019) ?more1019
              case step1019 =>
                go_simp; go_at_call 12; (with_reducible refine (KA.out XS _ _ (by first | with_reducible exact s6 | with_reducible exact SeqAt.alloc s6 _ | with_reducible exact SeqAt.drew s6 | with_reducible exact SeqAt.alloc (SeqAt.drew s6) _ | with_reducible exact SeqAt.drew (SeqAt.alloc s6 _)) hxl (by repeat (first | with_reducible exact b11 | with_reducible exact b10 | with_reducible exact b9 | with_reducible exact b8 | with_reducible exact b7 | with_reducible exact b6 | with_reducible exact hBe | with_reducible refine below_al ?_ _ | with_reducible refine Below.drew ?_))).mono ?_); rintro e w7 ⟨A7, c7, rfl, R7, l7, b7⟩; have z7 := l7.size; have y7 : w5.heap.size ≤ w7.heap.size := b7.size; try simp at z7
                go_wp2_with fail
                refine hK.out _ _ ?hS1020 (fun hHeld => ?_)
                case hS1020 => exact HS.out _ (by repeat (first | with_reducible exact b11 | with_reducible exact b10 | with_reducible exact b9 | with_reducible exact b8 | with_reducible exact b7 | with_reducible exact b6 | with_reducible exact hBe | with_reducible refine below_al ?_ _ | with_reducible refine Below.drew ?_))
                clear hK K
                try simp only [Act.put, List.setIfInBounds_toArray, List.set_cons_zero, List.set_cons_succ]
                refine wpAnyH_ready (rs := [15, 19]) (by kernel_rfl) (by simp) ?_
                refine AllReadyH.cons (by simp only [List.getElem?_toArray, List.getElem?_cons_zero, List.getElem?_cons_succ]; rfl) (fun K hK => ?step1021) ?more1021
                case step1021 =>
                  go_simp
                  refine hK.out _ _ ?hS1022 (fun hHeld => ?_)
                  case hS1022 => exact HS.out _ (by repeat (first | with_reducible exact b11 | with_reducible exact b10 | with_reducible exact b9 | with_reducible exact b8 | with_reducible exact b7 | with_reducible exact b6 | with_reducible exact hBe | with_reducible refine below_al ?_ _ | with_reducible refine Below.drew ?_))
                  clear hK K
                  try simp only [Act.put, List.setIfInBounds_toArray, List.set_cons_zero, List.set_cons_succ]
                  refine wpAnyH_ready (rs := [19]) (by kernel_rfl) (by simp) ?_
                  refine AllReadyH.cons (by simp only [List.getElem?_toArray, List.getElem?_cons_zero, List.getElem?_cons_succ]; rfl) (fun K hK => ?step1023) ?more1023
                  case step1023 =>
                    go_simp; go_at_call 13; (with_reducible refine (KWt.out _ (by repeat (first | with_reducible exact b11 | with_reducible exact b10 | with_reducible exact b9 | with_reducible exact b8 | with_reducible exact b7 | with_reducible exact b6 | with_reducible exact hBe | with_reducible refine below_al ?_ _ | with_reducible refine Below.drew ?_))).mono ?_); rintro e w8 ⟨B8, rfl, s8, l8, b8⟩; have z8 := l8.size; have y8 : w5.heap.size ≤ w8.heap.size := b8.size; try simp at z8
                    go_wp2_with fail
                    refine hK.out _ _ ?hS1024 (fun hHeld => ?_)
                    case hS1024 => exact HS.out _ (by repeat (first | with_reducible exact b11 | with_reducible exact b10 | with_reducible exact b9 | with_reducible exact b8 | with_reducible exact b7 | with_reducible exact b6 | with_reducible exact hBe | with_reducible refine below_al ?_ _ | with_reducible refine Below.drew ?_))
                    clear hK K
                    try simp only [Act.put, List.setIfInBounds_toArray, List.set_cons_zero, List.set_cons_succ]
                    refine wpAnyH_ready (rs := [20]) (by kernel_rfl) (by simp) ?_
                    refine AllReadyH.cons (by simp only [List.getElem?_toArray, List.getElem?_cons_zero, List.getElem?_cons_succ]; rfl) (fun K hK => ?step1025) ?more1025
                    case step1025 =>
                      go_simp; go_at_call 12; (with_reducible refine (KA.out LT _ _ (by first | with_reducible exact s8 | with_reducible exact SeqAt.alloc s8 _ | with_reducible exact SeqAt.drew s8 | with_reducible exact SeqAt.alloc (SeqAt.drew s8) _ | with_reducible exact SeqAt.drew (SeqAt.alloc s8 _)) hll (by repeat (first | with_reducible exact b11 | with_reducible exact b10 | with_reducible exact b9 | with_reducible exact b8 | with_reducible exact b7 | with_reducible exact b6 | with_reducible exact hBe | with_reducible refine below_al ?_ _ | with_reducible refine Below.drew ?_))).mono ?_); rintro e w9 ⟨A9, c9, rfl, R9, l9, b9⟩; have z9 := l9.size; have y9 : w5.heap.size ≤ w9.heap.size := b9.size; try simp at z9
                      go_wp2_with fail
                      refine hK.out _ _ ?hS1026 (fun hHeld => ?_)
                      case hS1026 => exact HS.out _ (by repeat (first | with_reducible exact b11 | with_reducible exact b10 | with_reducible exact b9 | with_reducible exact b8 | with_reducible exact b7 | with_reducible exact b6 | with_reducible exact hBe | with_reducible refine below_al ?_ _ | with_reducible refine Below.drew ?_))
                      clear hK K
                      try simp only [Act.put, List.setIfInBounds_toArray, List.set_cons_zero, List.set_cons_succ]
                      refine wpAnyH_ready (rs := [21]) (by kernel_rfl) (by simp) ?_
                      refine AllReadyH.cons (by simp only [List.getElem?_toArray, List.getElem?_cons_zero, List.getElem?_cons_succ]; rfl) (fun K hK => ?step1027) ?more1027
                      case step1027 =>
                        refine step_cons (by rfl) _ _ rfl w5.heap.size (t.nodes.length : Int) _ A9 c9 LT LT.length _ _ (by rfl) (by rfl) rfl (by first | exact (blk_bel (blk_bel (blk_bel (blk_bel (Blk.new _ _ _) l6) l7) l8) l9) | exact (blk_bel (blk_bel (blk_bel (blk_bel (Blk.drew (Blk.new _ _ _)) l6) l7) l8) l9) | exact (blk_bel (blk_bel (blk_bel (Blk.new _ _ _) l7) l8) l9) | exact (blk_bel (blk_bel (blk_bel (Blk.drew (Blk.new _ _ _)) l7) l8) l9) | exact (blk_bel (blk_bel (Blk.new _ _ _) l8) l9) | exact (blk_bel (blk_bel (Blk.drew (Blk.new _ _ _)) l8) l9) | exact (blk_bel (Blk.new _ _ _) l9) | exact (blk_bel (Blk.drew (Blk.new _ _ _)) l9) | exact (Blk.new _ _ _) | exact (Blk.drew (Blk.new _ _ _))) (by first | (simp; done) | (simp; omega) | omega) (by first | exact R9 | exact RowI.alloc R9 _ | exact RowI.drew R9 | exact RowI.drew (RowI.alloc R9 _)) hll (show Below w5.heap.size w5 _ from (by repeat (first | with_reducible exact b11 | with_reducible exact b10 | with_reducible exact b9 | with_reducible exact b8 | with_reducible exact b7 | with_reducible exact b6 | with_reducible exact hBe | with_reducible refine below_al ?_ _ | with_reducible refine Below.drew ?_))).size _ _ XS A7 (by first | exact (RowI.below (RowI.below R7 l8) l9) | exact (RowI.below (RowI.below (RowI.alloc R7 _) l8) l9) | exact (RowI.below (RowI.alloc (RowI.below R7 l8) _) l9) | exact (RowI.alloc (RowI.below (RowI.below R7 l8) l9) _) | exact RowI.drew (RowI.below (RowI.below R7 l8) l9) | exact RowI.drew (RowI.below (RowI.below (RowI.alloc R7 _) l8) l9) | exact RowI.drew (RowI.below (RowI.alloc (RowI.below R7 l8) _) l9) | exact RowI.drew (RowI.alloc (RowI.below (RowI.below R7 l8) l9) _)) (by first | exact .inl (by first | (simp; done) | (simp; omega) | omega) | exact .inr (by first | (simp; done) | (simp; omega) | omega)) ?_; intro A10 c10 w10 rd10 l10 R10; have b10 : Below w5.heap.size w5 w10 := Below.trans (by repeat (first | with_reducible exact b11 | with_reducible exact b10 | with_reducible exact b9 | with_reducible exact b8 | with_reducible exact b7 | with_reducible exact b6 | with_reducible exact hBe | with_reducible refine below_al ?_ _ | with_reducible refine Below.drew ?_)) l10
                        refine hK.out _ _ ?hS1028 (fun hHeld => ?_)
                        case hS1028 => exact HS.out _ (by repeat (first | with_reducible exact b11 | with_reducible exact b10 | with_reducible exact b9 | with_reducible exact b8 | with_reducible exact b7 | with_reducible exact b6 | with_reducible exact hBe | with_reducible refine below_al ?_ _ | with_reducible refine Below.drew ?_))
                        clear hK K
                        try simp only [Act.put, List.setIfInBounds_toArray, List.set_cons_zero, List.set_cons_succ]
                        refine wpAnyH_ready (rs := [22]) (by kernel_rfl) (by simp) ?_
                        refine AllReadyH.cons (by simp only [List.getElem?_toArray, List.getElem?_cons_zero, List.getElem?_cons_succ]; rfl) (fun K hK => ?step1029) ?more1029
                        case step1029 =>
                          go_simp; go_at_call 11; (with_reducible refine (same_at _ _ _ _ _ _ XS ((t.nodes.length : Int) :: LT) _ (R10.rd) rd10 rfl List.length_cons (by omega) (by omega) HEQ.out).mono ?_); rintro e w11 ⟨rfl, l11⟩; have b11 : Below w5.heap.size w5 w11 := Below.trans b10 (l11.mono b10.size)
                          go_wp2_with fail
                          refine hK.out _ _ ?hS1030 (fun hHeld => ?_)
                          case hS1030 => exact HS.out _ (by repeat (first | with_reducible exact b11 | with_reducible exact b10 | with_reducible exact b9 | with_reducible exact b8 | with_reducible exact b7 | with_reducible exact b6 | with_reducible exact hBe | with_reducible refine below_al ?_ _ | with_reducible refine Below.drew ?_))
                          clear hK K
                          try simp only [Act.put, List.setIfInBounds_toArray, List.set_cons_zero, List.set_cons_succ]
                          refine wpAnyH_take (i := 23) (v := ?v1031) (by simp only [List.getElem?_toArray, List.getElem?_cons_zero, List.getElem?_cons_succ]; rfl) (by kernel_rfl) (by kernel_rfl) (by kernel_rfl) (fun _ _ _ h => h) (Or.inl ⟨by rfl, ?hy1031⟩) (by assumption) ?rest1031
                          case hy1031 => (intro w hSw; (try dsimp only at hSw); go_simp; try with_reducible rfl)
                          try simp only [Act.put, List.setIfInBounds_toArray, List.set_cons_zero, List.set_cons_succ]
                          refine wpAnyH_take (i := 24) (v := ?v1032) (by simp only [List.getElem?_toArray, List.getElem?_cons_zero, List.getElem?_cons_succ]; rfl) (by kernel_rfl) (by kernel_rfl) (by kernel_rfl) (fun _ _ _ h => h) (Or.inl ⟨by rfl, ?hy1032⟩) (by assumption) ?rest1032
                          case hy1032 => (intro w hSw; (try dsimp only at hSw); go_simp; try with_reducible rfl)
                          try simp only [Act.put, List.setIfInBounds_toArray, List.set_cons_zero, List.set_cons_succ]
                          refine wpAnyH_done (by kernel_rfl) ?_ _
                          refine NoPanic.normal ?_
                          go_wp2_with fail
                          go_ret
                          exact ⟨rfl, hB5.trans (b11.mono hz5)⟩
                        exact AllReadyH.nil
                      exact AllReadyH.nil
                    exact AllReadyH.nil
                  exact AllReadyH.nil
                refine AllReadyH.cons (by simp only [List.getElem?_toArray, List.getElem?_cons_zero, List.getElem?_cons_succ]; rfl) (fun K hK => ?step1033) ?more1033
                case step1033 =>
                  go_simp; go_at_call 13; (with_reducible refine (KWt.out _ (by repeat (first | with_reducible exact b11 | with_reducible exact b10 | with_reducible exact b9 | with_reducible exact b8 | with_reducible exact b7 | with_reducible exact b6 | with_reducible exact hBe | with_reducible refine below_al ?_ _ | with_reducible refine Below.drew ?_))).mono ?_); rintro e w8 ⟨B8, rfl, s8, l8, b8⟩; have z8 := l8.size; have y8 : w5.heap.size ≤ w8.heap.size := b8.size; try simp at z8
                  go_wp2_with fail
                  refine hK.out _ _ ?hS1034 (fun hHeld => ?_)
                  case hS1034 => exact HS.out _ (by repeat (first | with_reducible exact b11 | with_reducible exact b10 | with_reducible exact b9 | with_reducible exact b8 | with_reducible exact b7 | with_reducible exact b6 | with_reducible exact hBe | with_reducible refine below_al ?_ _ | with_reducible refine Below.drew ?_))
                  clear hK K
                  try simp only [Act.put, List.setIfInBounds_toArray, List.set_cons_zero, List.set_cons_succ]
                  refine wpAnyH_ready (rs := [15, 20]) (by kernel_rfl) (by simp) ?_
                  refine AllReadyH.cons (by simp only [List.getElem?_toArray, List.getElem?_cons_zero, List.getElem?_cons_succ]; rfl) (fun K hK => ?step1035) ?more1035
                  case step1035 =>
                    go_simp
                    refine hK.out _ _ ?hS1036 (fun hHeld => ?_)
                    case hS1036 => exact HS.out _ (by repeat (first | with_reducible exact b11 | with_reducible exact b10 | with_reducible exact b9 | with_reducible exact b8 | with_reducible exact b7 | with_reducible exact b6 | with_reducible exact hBe | with_reducible refine below_al ?_ _ | with_reducible refine Below.drew ?_))
                    clear hK K
                    try simp only [Act.put, List.setIfInBounds_toArray, List.set_cons_zero, List.set_cons_succ]
                    refine wpAnyH_ready (rs := [20]) (by kernel_rfl) (by simp) ?_
                    refine AllReadyH.cons (by simp only [List.getElem?_toArray, List.getElem?_cons_zero, List.getElem?_cons_succ]; rfl) (fun K hK => ?step1037) ?more1037
                    case step1037 =>
                      go_simp; go_at_call 12; (with_reducible refine (KA.out LT _ _ (by first | with_reducible exact s8 | with_reducible exact SeqAt.alloc s8 _ | with_reducible exact SeqAt.drew s8 | with_reducible exact SeqAt.alloc (SeqAt.drew s8) _ | with_reducible exact SeqAt.drew (SeqAt.alloc s8 _)) hll (by repeat (first | with_reducible exact b11 | with_reducible exact b10 | with_reducible exact b9 | with_reducible exact b8 | with_reducible exact b7 | with_reducible exact b6 | with_reducible exact hBe | with_reducible refine below_al ?_ _ | with_reducible refine Below.drew ?_))).mono ?_); rintro e w9 ⟨A9, c9, rfl, R9, l9, b9⟩; have z9 := l9.size; have y9 : w5.heap.size ≤ w9.heap.size := b9.size; try simp at z9
                      go_wp2_with fail
                      refine hK.out _ _ ?hS1038 (fun hHeld => ?_)
                      case hS1038 => exact HS.out _ (by repeat (first | with_reducible exact b11 | with_reducible exact b10 | with_reducible exact b9 | with_reducible exact b8 | with_reducible exact b7 | with_reducible exact b6 | with_reducible exact hBe | with_reducible refine below_al ?_ _ | with_reducible refine Below.drew ?_))
                      clear hK K
                      try simp only [Act.put, List.setIfInBounds_toArray, List.set_cons_zero, List.set_cons_succ]
                      refine wpAnyH_ready (rs := [21]) (by kernel_rfl) (by simp) ?_
                      refine AllReadyH.cons (by simp only [List.getElem?_toArray, List.getElem?_cons_zero, List.getElem?_cons_succ]; rfl) (fun K hK => ?step1039) ?more1039
                      case step1039 =>
                        refine step_cons (by rfl) _ _ rfl w5.heap.size (t.nodes.length : Int) _ A9 c9 LT LT.length _ _ (by rfl) (by rfl) rfl (by first | exact (blk_bel (blk_bel (blk_bel (blk_bel (Blk.new _ _ _) l6) l7) l8) l9) | exact (blk_bel (blk_bel (blk_bel (blk_bel (Blk.drew (Blk.new _ _ _)) l6) l7) l8) l9) | exact (blk_bel (blk_bel (blk_bel (Blk.new _ _ _) l7) l8) l9) | exact (blk_bel (blk_bel (blk_bel (Blk.drew (Blk.new _ _ _)) l7) l8) l9) | exact (blk_bel (blk_bel (Blk.new _ _ _) l8) l9) | exact (blk_bel (blk_bel (Blk.drew (Blk.new _ _ _)) l8) l9) | exact (blk_bel (Blk.new _ _ _) l9) | exact (blk_bel (Blk.drew (Blk.new _ _ _)) l9) | exact (Blk.new _ _ _) | exact (Blk.drew (Blk.new _ _ _))) (by first | (simp; done) | (simp; omega) | omega) (by first | exact R9 | exact RowI.alloc R9 _ | exact RowI.drew R9 | exact RowI.drew (RowI.alloc R9 _)) hll (show Below w5.heap.size w5 _ from (by repeat (first | with_reducible exact b11 | with_reducible exact b10 | with_reducible exact b9 | with_reducible exact b8 | with_reducible exact b7 | with_reducible exact b6 | with_reducible exact hBe | with_reducible refine below_al ?_ _ | with_reducible refine Below.drew ?_))).size _ _ XS A7 (by first | exact (RowI.below (RowI.below R7 l8) l9) | exact (RowI.below (RowI.below (RowI.alloc R7 _) l8) l9) | exact (RowI.below (RowI.alloc (RowI.below R7 l8) _) l9) | exact (RowI.alloc (RowI.below (RowI.below R7 l8) l9) _) | exact RowI.drew (RowI.below (RowI.below R7 l8) l9) | exact RowI.drew (RowI.below (RowI.below (RowI.alloc R7 _) l8) l9) | exact RowI.drew (RowI.below (RowI.alloc (RowI.below R7 l8) _) l9) | exact RowI.drew (RowI.alloc (RowI.below (RowI.below R7 l8) l9) _)) (by first | exact .inl (by first | (simp; done) | (simp; omega) | omega) | exact .inr (by first | (simp; done) | (simp; omega) | omega)) ?_; intro A10 c10 w10 rd10 l10 R10; have b10 : Below w5.heap.size w5 w10 := Below.trans (by repeat (first | with_reducible exact b11 | with_reducible exact b10 | with_reducible exact b9 | with_reducible exact b8 | with_reducible exact b7 | with_reducible exact b6 | with_reducible exact hBe | with_reducible refine below_al ?_ _ | with_reducible refine Below.drew ?_)) l10
                        refine hK.out _ _ ?hS1040 (fun hHeld => ?_)
                        case hS1040 => exact HS.out _ (by repeat (first | with_reducible exact b11 | with_reducible exact b10 | with_reducible exact b9 | with_reducible exact b8 | with_reducible exact b7 | with_reducible exact b6 | with_reducible exact hBe | with_reducible refine below_al ?_ _ | with_reducible refine Below.drew ?_))
                        clear hK K
                        try simp only [Act.put, List.setIfInBounds_toArray, List.set_cons_zero, List.set_cons_succ]
                        refine wpAnyH_ready (rs := [22]) (by kernel_rfl) (by simp) ?_
                        refine AllReadyH.cons (by simp only [List.getElem?_toArray, List.getElem?_cons_zero, List.getElem?_cons_succ]; rfl) (fun K hK => ?step1041) ?more1041
                        case step1041 =>
                          go_simp; go_at_call 11; (with_reducible refine (same_at _ _ _ _ _ _ XS ((t.nodes.length : Int) :: LT) _ (R10.rd) rd10 rfl List.length_cons (by omega) (by omega) HEQ.out).mono ?_); rintro e w11 ⟨rfl, l11⟩; have b11 : Below w5.heap.size w5 w11 := Below.trans b10 (l11.mono b10.size)
                          go_wp2_with fail
                          refine hK.out _ _ ?hS1042 (fun hHeld => ?_)
                          case hS1042 => exact HS.out _ (by repeat (first | with_reducible exact b11 | with_reducible exact b10 | with_reducible exact b9 | with_reducible exact b8 | with_reducible exact b7 | with_reducible exact b6 | with_reducible exact hBe | with_reducible refine below_al ?_ _ | with_reducible refine Below.drew ?_))
                          clear hK K
                          try simp only [Act.put, List.setIfInBounds_toArray, List.set_cons_zero, List.set_cons_succ]
                          refine wpAnyH_take (i := 23) (v := ?v1043) (by simp only [List.getElem?_toArray, List.getElem?_cons_zero, List.getElem?_cons_succ]; rfl) (by kernel_rfl) (by kernel_rfl) (by kernel_rfl) (fun _ _ _ h => h) (Or.inl ⟨by rfl, ?hy1043⟩) (by assumption) ?rest1043
                          case hy1043 => (intro w hSw; (try dsimp only at hSw); go_simp; try with_reducible rfl)
                          try simp only [Act.put, List.setIfInBounds_toArray, List.set_cons_zero, List.set_cons_succ]
                          refine wpAnyH_take (i := 24) (v := ?v1044) (by simp only [List.getElem?_toArray, List.getElem?_cons_zero, List.getElem?_cons_succ]; rfl) (by kernel_rfl) (by kernel_rfl) (by kernel_rfl) (fun _ _ _ h => h) (Or.inl ⟨by rfl, ?hy1044⟩) (by assumption) ?rest1044
                          case hy1044 => (intro w hSw; (try dsimp only at hSw); go_simp; try with_reducible rfl)
                          try simp only [Act.put, List.setIfInBounds_toArray, List.set_cons_zero, List.set_cons_succ]
                          refine wpAnyH_done (by kernel_rfl) ?_ _
                          refine NoPanic.normal ?_
                          go_wp2_with fail
                          go_ret
                          exact ⟨rfl, hB5.trans (b11.mono hz5)⟩
                        exact AllReadyH.nil
                      exact AllReadyH.nil
                    exact AllReadyH.nil
                  refine AllReadyH.cons (by simp only [List.getElem?_toArray, List.getElem?_cons_zero, List.getElem?_cons_succ]; rfl) (fun K hK => ?step1045) ?more1045
                  case step1045 =>
                    go_simp; go_at_call 12; (with_reducible refine (KA.out LT _ _ (by first | with_reducible exact s8 | with_reducible exact SeqAt.alloc s8 _ | with_reducible exact SeqAt.drew s8 | with_reducible exact SeqAt.alloc (SeqAt.drew s8) _ | with_reducible exact SeqAt.drew (SeqAt.alloc s8 _)) hll (by repeat (first | with_reducible exact b11 | with_reducible exact b10 | with_reducible exact b9 | with_reducible exact b8 | with_reducible exact b7 | with_reducible exact b6 | with_reducible exact hBe | with_reducible refine below_al ?_ _ | with_reducible refine Below.drew ?_))).mono ?_); rintro e w9 ⟨A9, c9, rfl, R9, l9, b9⟩; have z9 := l9.size; have y9 : w5.heap.size ≤ w9.heap.size := b9.size; try simp at z9
                    go_wp2_with fail
                    refine hK.out _ _ ?hS1046 (fun hHeld => ?_)
                    case hS1046 => exact HS.out _ (by repeat (first | with_reducible exact b11 | with_reducible exact b10 | with_reducible exact b9 | with_reducible exact b8 | with_reducible exact b7 | with_reducible exact b6 | with_reducible exact hBe | with_reducible refine below_al ?_ _ | with_reducible refine Below.drew ?_))
                    clear hK K
                    try simp only [Act.put, List.setIfInBounds_toArray, List.set_cons_zero, List.set_cons_succ]
                    refine wpAnyH_ready (rs := [15]) (by kernel_rfl) (by simp) ?_
                    refine AllReadyH.cons (by simp only [List.getElem?_toArray, List.getElem?_cons_zero, List.getElem?_cons_succ]; rfl) (fun K hK => ?step1047) ?more1047
                    case step1047 =>
                      go_simp
                      refine hK.out _ _ ?hS1048 (fun hHeld => ?_)
                      case hS1048 => exact HS.out _ (by repeat (first | with_reducible exact b11 | with_reducible exact b10 | with_reducible exact b9 | with_reducible exact b8 | with_reducible exact b7 | with_reducible exact b6 | with_reducible exact hBe | with_reducible refine below_al ?_ _ | with_reducible refine Below.drew ?_))
                      clear hK K
                      try simp only [Act.put, List.setIfInBounds_toArray, List.set_cons_zero, List.set_cons_succ]
                      refine wpAnyH_ready (rs := [21]) (by kernel_rfl) (by simp) ?_
                      refine AllReadyH.cons (by simp only [List.getElem?_toArray, List.getElem?_cons_zero, List.getElem?_cons_succ]; rfl) (fun K hK => ?step1049) ?more1049
                      case step1049 =>
                        refine step_cons (by rfl) _ _ rfl w5.heap.size (t.nodes.length : Int) _ A9 c9 LT LT.length _ _ (by rfl) (by rfl) rfl (by first | exact (blk_bel (blk_bel (blk_bel (blk_bel (Blk.new _ _ _) l6) l7) l8) l9) | exact (blk_bel (blk_bel (blk_bel (blk_bel (Blk.drew (Blk.new _ _ _)) l6) l7) l8) l9) | exact (blk_bel (blk_bel (blk_bel (Blk.new _ _ _) l7) l8) l9) | exact (blk_bel (blk_bel (blk_bel (Blk.drew (Blk.new _ _ _)) l7) l8) l9) | exact (blk_bel (blk_bel (Blk.new _ _ _) l8) l9) | exact (blk_bel (blk_bel (Blk.drew (Blk.new _ _ _)) l8) l9) | exact (blk_bel (Blk.new _ _ _) l9) | exact (blk_bel (Blk.drew (Blk.new _ _ _)) l9) | exact (Blk.new _ _ _) | exact (Blk.drew (Blk.new _ _ _))) (by first | (simp; done) | (simp; omega) | omega) (by first | exact R9 | exact RowI.alloc R9 _ | exact RowI.drew R9 | exact RowI.drew (RowI.alloc R9 _)) hll (show Below w5.heap.size w5 _ from (by repeat (first | with_reducible exact b11 | with_reducible exact b10 | with_reducible exact b9 | with_reducible exact b8 | with_reducible exact b7 | with_reducible exact b6 | with_reducible exact hBe | with_reducible refine below_al ?_ _ | with_reducible refine Below.drew ?_))).size _ _ XS A7 (by first | exact (RowI.below (RowI.below R7 l8) l9) | exact (RowI.below (RowI.below (RowI.alloc R7 _) l8) l9) | exact (RowI.below (RowI.alloc (RowI.below R7 l8) _) l9) | exact (RowI.alloc (RowI.below (RowI.below R7 l8) l9) _) | exact RowI.drew (RowI.below (RowI.below R7 l8) l9) | exact RowI.drew (RowI.below (RowI.below (RowI.alloc R7 _) l8) l9) | exact RowI.drew (RowI.below (RowI.alloc (RowI.below R7 l8) _) l9) | exact RowI.drew (RowI.alloc (RowI.below (RowI.below R7 l8) l9) _)) (by first | exact .inl (by first | (simp; done) | (simp; omega) | omega) | exact .inr (by first | (simp; done) | (simp; omega) | omega)) ?_; intro A10 c10 w10 rd10 l10 R10; have b10 : Below w5.heap.size w5 w10 := Below.trans (by repeat (first | with_reducible exact b11 | with_reducible exact b10 | with_reducible exact b9 | with_reducible exact b8 | with_reducible exact b7 | with_reducible exact b6 | with_reducible exact hBe | with_reducible refine below_al ?_ _ | with_reducible refine Below.drew ?_)) l10
                        refine hK.out _ _ ?hS1050 (fun hHeld => ?_)
                        case hS1050 => exact HS.out _ (by repeat (first | with_reducible exact b11 | with_reducible exact b10 | with_reducible exact b9 | with_reducible exact b8 | with_reducible exact b7 | with_reducible exact b6 | with_reducible exact hBe | with_reducible refine below_al ?_ _ | with_reducible refine Below.drew ?_))
                        clear hK K
                        try simp only [Act.put, List.setIfInBounds_toArray, List.set_cons_zero, List.set_cons_succ]
                        refine wpAnyH_ready (rs := [22]) (by kernel_rfl) (by simp) ?_
                        refine AllReadyH.cons (by simp only [List.getElem?_toArray, List.getElem?_cons_zero, List.getElem?_cons_succ]; rfl) (fun K hK => ?step1051) ?more1051
                        case step1051 =>
                          go_simp; go_at_call 11; (with_reducible refine (same_at _ _ _ _ _ _ XS ((t.nodes.length : Int) :: LT) _ (R10.rd) rd10 rfl List.length_cons (by omega) (by omega) HEQ.out).mono ?_); rintro e w11 ⟨rfl, l11⟩; have b11 : Below w5.heap.size w5 w11 := Below.trans b10 (l11.mono b10.size)
                          go_wp2_with fail
                          refine hK.out _ _ ?hS1052 (fun hHeld => ?_)
                          case hS1052 => exact HS.out _ (by repeat (first | with_reducible exact b11 | with_reducible exact b10 | with_reducible exact b9 | with_reducible exact b8 | with_reducible exact b7 | with_reducible exact b6 | with_reducible exact hBe | with_reducible refine below_al ?_ _ | with_reducible refine Below.drew ?_))
                          clear hK K
                          try simp only [Act.put, List.setIfInBounds_toArray, List.set_cons_zero, List.set_cons_succ]
                          refine wpAnyH_take (i := 23) (v := ?v1053) (by simp only [List.getElem?_toArray, List.getElem?_cons_zero, List.getElem?_cons_succ]; rfl) (by kernel_rfl) (by kernel_rfl) (by kernel_rfl) (fun _ _ _ h => h) (Or.inl ⟨by rfl, ?hy1053⟩) (by assumption) ?rest1053
                          case hy1053 => (intro w hSw; (try dsimp only at hSw); go_simp; try with_reducible rfl)
                          try simp only [Act.put, List.setIfInBounds_toArray, List.set_cons_zero, List.set_cons_succ]
                          refine wpAnyH_take (i := 24) (v := ?v1054) (by simp only [List.getElem?_toArray, List.getElem?_cons_zero, List.getElem?_cons_succ]; rfl) (by kernel_rfl) (by kernel_rfl) (by kernel_rfl) (fun _ _ _ h => h) (Or.inl ⟨by rfl, ?hy1054⟩) (by assumption) ?rest1054
                          case hy1054 => (intro w hSw; (try dsimp only at hSw); go_simp; try with_reducible rfl)
                          try simp only [Act.put, List.setIfInBounds_toArray, List.set_cons_zero, List.set_cons_succ]
                          refine wpAnyH_done (by kernel_rfl) ?_ _
                          refine NoPanic.normal ?_
                          go_wp2_with fail
                          go_ret
                          exact ⟨rfl, hB5.trans (b11.mono hz5)⟩
                        exact AllReadyH.nil
                      exact AllReadyH.nil
                    exact AllReadyH.nil
                  exact AllReadyH.nil
                exact AllReadyH.nil
              refine AllReadyH.cons (by simp only [List.getElem?_toArray, List.getElem?_cons_zero, List.getElem?_cons_succ]; rfl) (fun K hK => ?step1055) ?more1055
              case step1055 =>
                go_simp
                refine hK.out _ _ ?hS1056 (fun hHeld => ?_)
                case hS1056 => exact HS.out _ (by repeat (first | with_reducible exact b11 | with_reducible exact b10 | with_reducible exact b9 | with_reducible exact b8 | with_reducible exact b7 | with_reducible exact b6 | with_reducible exact hBe | with_reducible refine below_al ?_ _ | with_reducible refine Below.drew ?_))
                clear hK K
                try simp only [Act.put, List.setIfInBounds_toArray, List.set_cons_zero, List.set_cons_succ]
                refine wpAnyH_ready (rs := [13]) (by kernel_rfl) (by simp) ?_
                refine AllReadyH.cons (by simp only [List.getElem?_toArray, List.getElem?_cons_zero, List.getElem?_cons_succ]; rfl) (fun K hK => ?step1057) ?more1057
                case step1057 =>
                  go_simp; go_at_call 12; (with_reducible refine (KA.out XS _ _ (by first | with_reducible exact s6 | with_reducible exact SeqAt.alloc s6 _ | with_reducible exact SeqAt.drew s6 | with_reducible exact SeqAt.alloc (SeqAt.drew s6) _ | with_reducible exact SeqAt.drew (SeqAt.alloc s6 _)) hxl (by repeat (first | with_reducible exact b11 | with_reducible exact b10 | with_reducible exact b9 | with_reducible exact b8 | with_reducible exact b7 | with_reducible exact b6 | with_reducible exact hBe | with_reducible refine below_al ?_ _ | with_reducible refine Below.drew ?_))).mono ?_); rintro e w7 ⟨A7, c7, rfl, R7, l7, b7⟩; have z7 := l7.size; have y7 : w5.heap.size ≤ w7.heap.size := b7.size; try simp at z7
                  go_wp2_with fail
                  refine hK.out _ _ ?hS1058 (fun hHeld => ?_)
                  case hS1058 => exact HS.out _ (by repeat (first | with_reducible exact b11 | with_reducible exact b10 | with_reducible exact b9 | with_reducible exact b8 | with_reducible exact b7 | with_reducible exact b6 | with_reducible exact hBe | with_reducible refine below_al ?_ _ | with_reducible refine Below.drew ?_))
                  clear hK K
                  try simp only [Act.put, List.setIfInBounds_toArray, List.set_cons_zero, List.set_cons_succ]
                  refine wpAnyH_ready (rs := [19]) (by kernel_rfl) (by simp) ?_
                  refine AllReadyH.cons (by simp only [List.getElem?_toArray, List.getElem?_cons_zero, List.getElem?_cons_succ]; rfl) (fun K hK => ?step1059) ?more1059
                  case step1059 =>
                    go_simp; go_at_call 13; (with_reducible refine (KWt.out _ (by repeat (first | with_reducible exact b11 | with_reducible exact b10 | with_reducible exact b9 | with_reducible exact b8 | with_reducible exact b7 | with_reducible exact b6 | with_reducible exact hBe | with_reducible refine below_al ?_ _ | with_reducible refine Below.drew ?_))).mono ?_); rintro e w8 ⟨B8, rfl, s8, l8, b8⟩; have z8 := l8.size; have y8 : w5.heap.size ≤ w8.heap.size := b8.size; try simp at z8
                    go_wp2_with fail
                    refine hK.out _ _ ?hS1060 (fun hHeld => ?_)
                    case hS1060 => exact HS.out _ (by repeat (first | with_reducible exact b11 | with_reducible exact b10 | with_reducible exact b9 | with_reducible exact b8 | with_reducible exact b7 | with_reducible exact b6 | with_reducible exact hBe | with_reducible refine below_al ?_ _ | with_reducible refine Below.drew ?_))
                    clear hK K
                    try simp only [Act.put, List.setIfInBounds_toArray, List.set_cons_zero, List.set_cons_succ]
                    refine wpAnyH_ready (rs := [20]) (by kernel_rfl) (by simp) ?_
                    refine AllReadyH.cons (by simp only [List.getElem?_toArray, List.getElem?_cons_zero, List.getElem?_cons_succ]; rfl) (fun K hK => ?step1061) ?more1061
                    case step1061 =>
                      go_simp; go_at_call 12; (with_reducible refine (KA.out LT _ _ (by first | with_reducible exact s8 | with_reducible exact SeqAt.alloc s8 _ | with_reducible exact SeqAt.drew s8 | with_reducible exact SeqAt.alloc (SeqAt.drew s8) _ | with_reducible exact SeqAt.drew (SeqAt.alloc s8 _)) hll (by repeat (first | with_reducible exact b11 | with_reducible exact b10 | with_reducible exact b9 | with_reducible exact b8 | with_reducible exact b7 | with_reducible exact b6 | with_reducible exact hBe | with_reducible refine below_al ?_ _ | with_reducible refine Below.drew ?_))).mono ?_); rintro e w9 ⟨A9, c9, rfl, R9, l9, b9⟩; have z9 := l9.size; have y9 : w5.heap.size ≤ w9.heap.size := b9.size; try simp at z9
                      go_wp2_with fail
                      refine hK.out _ _ ?hS1062 (fun hHeld => ?_)
                      case hS1062 => exact HS.out _ (by repeat (first | with_reducible exact b11 | with_reducible exact b10 | with_reducible exact b9 | with_reducible exact b8 | with_reducible exact b7 | with_reducible exact b6 | with_reducible exact hBe | with_reducible refine below_al ?_ _ | with_reducible refine Below.drew ?_))
                      clear hK K
                      try simp only [Act.put, List.setIfInBounds_toArray, List.set_cons_zero, List.set_cons_succ]
                      refine wpAnyH_ready (rs := [21]) (by kernel_rfl) (by simp) ?_
                      refine AllReadyH.cons (by simp only [List.getElem?_toArray, List.getElem?_cons_zero, List.getElem?_cons_succ]; rfl) (fun K hK => ?step1063) ?more1063
                      case step1063 =>
                        refine step_cons (by rfl) _ _ rfl w5.heap.size (t.nodes.length : Int) _ A9 c9 LT LT.length _ _ (by rfl) (by rfl) rfl (by first | exact (blk_bel (blk_bel (blk_bel (blk_bel (Blk.new _ _ _) l6) l7) l8) l9) | exact (blk_bel (blk_bel (blk_bel (blk_bel (Blk.drew (Blk.new _ _ _)) l6) l7) l8) l9) | exact (blk_bel (blk_bel (blk_bel (Blk.new _ _ _) l7) l8) l9) | exact (blk_bel (blk_bel (blk_bel (Blk.drew (Blk.new _ _ _)) l7) l8) l9) | exact (blk_bel (blk_bel (Blk.new _ _ _) l8) l9) | exact (blk_bel (blk_bel (Blk.drew (Blk.new _ _ _)) l8) l9) | exact (blk_bel (Blk.new _ _ _) l9) | exact (blk_bel (Blk.drew (Blk.new _ _ _)) l9) | exact (Blk.new _ _ _) | exact (Blk.drew (Blk.new _ _ _))) (by first | (simp; done) | (simp; omega) | omega) (by first | exact R9 | exact RowI.alloc R9 _ | exact RowI.drew R9 | exact RowI.drew (RowI.alloc R9 _)) hll (show Below w5.heap.size w5 _ from (by repeat (first | with_reducible exact b11 | with_reducible exact b10 | with_reducible exact b9 | with_reducible exact b8 | with_reducible exact b7 | with_reducible exact b6 | with_reducible exact hBe | with_reducible refine below_al ?_ _ | with_reducible refine Below.drew ?_))).size _ _ XS A7 (by first | exact (RowI.below (RowI.below R7 l8) l9) | exact (RowI.below (RowI.below (RowI.alloc R7 _) l8) l9) | exact (RowI.below (RowI.alloc (RowI.below R7 l8) _) l9) | exact (RowI.alloc (RowI.below (RowI.below R7 l8) l9) _) | exact RowI.drew (RowI.below (RowI.below R7 l8) l9) | exact RowI.drew (RowI.below (RowI.below (RowI.alloc R7 _) l8) l9) | exact RowI.drew (RowI.below (RowI.alloc (RowI.below R7 l8) _) l9) | exact RowI.drew (RowI.alloc (RowI.below (RowI.below R7 l8) l9) _)) (by first | exact .inl (by first | (simp; done) | (simp; omega) | omega) | exact .inr (by first | (simp; done) | (simp; omega) | omega)) ?_; intro A10 c10 w10 rd10 l10 R10; have b10 : Below w5.heap.size w5 w10 := Below.trans (by repeat (first | with_reducible exact b11 | with_reducible exact b10 | with_reducible exact b9 | with_reducible exact b8 | with_reducible exact b7 | with_reducible exact b6 | with_reducible exact hBe | with_reducible refine below_al ?_ _ | with_reducible refine Below.drew ?_)) l10
                        refine hK.out _ _ ?hS1064 (fun hHeld => ?_)
                        case hS1064 => exact HS.out _ (by repeat (first | with_reducible exact b11 | with_reducible exact b10 | with_reducible exact b9 | with_reducible exact b8 | with_reducible exact b7 | with_reducible exact b6 | with_reducible exact hBe | with_reducible refine below_al ?_ _ | with_reducible refine Below.drew ?_))
                        clear hK K
                        try simp only [Act.put, List.setIfInBounds_toArray, List.set_cons_zero, List.set_cons_succ]
                        refine wpAnyH_ready (rs := [22]) (by kernel_rfl) (by simp) ?_
                        refine AllReadyH.cons (by simp only [List.getElem?_toArray, List.getElem?_cons_zero, List.getElem?_cons_succ]; rfl) (fun K hK => ?step1065) ?more1065
                        case step1065 =>
                          go_simp; go_at_call 11; (with_reducible refine (same_at _ _ _ _ _ _ XS ((t.nodes.length : Int) :: LT) _ (R10.rd) rd10 rfl List.length_cons (by omega) (by omega) HEQ.out).mono ?_); rintro e w11 ⟨rfl, l11⟩; have b11 : Below w5.heap.size w5 w11 := Below.trans b10 (l11.mono b10.size)
                          go_wp2_with fail
                          refine hK.out _ _ ?hS1066 (fun hHeld => ?_)
                          case hS1066 => exact HS.out _ (by repeat (first | with_reducible exact b11 | with_reducible exact b10 | with_reducible exact b9 | with_reducible exact b8 | with_reducible exact b7 | with_reducible exact b6 | with_reducible exact hBe | with_reducible refine below_al ?_ _ | with_reducible refine Below.drew ?_))
                          clear hK K
                          try simp only [Act.put, List.setIfInBounds_toArray, List.set_cons_zero, List.set_cons_succ]
                          refine wpAnyH_take (i := 23) (v := ?v1067) (by simp only [List.getElem?_toArray, List.getElem?_cons_zero, List.getElem?_cons_succ]; rfl) (by kernel_rfl) (by kernel_rfl) (by kernel_rfl) (fun _ _ _ h => h) (Or.inl ⟨by rfl, ?hy1067⟩) (by assumption) ?rest1067
                          case hy1067 => (intro w hSw; (try dsimp only at hSw); go_simp; try with_reducible rfl)
                          try simp only [Act.put, List.setIfInBounds_toArray, List.set_cons_zero, List.set_cons_succ]
                          refine wpAnyH_take (i := 24) (v := ?v1068) (by simp only [List.getElem?_toArray, List.getElem?_cons_zero, List.getElem?_cons_succ]; rfl) (by kernel_rfl) (by kernel_rfl) (by kernel_rfl) (fun _ _ _ h => h) (Or.inl ⟨by rfl, ?hy1068⟩) (by assumption) ?rest1068
                          case hy1068 => (intro w hSw; (try dsimp only at hSw); go_simp; try with_reducible rfl)
                          try simp only [Act.put, List.setIfInBounds_toArray, List.set_cons_zero, List.set_cons_succ]
                          refine wpAnyH_done (by kernel_rfl) ?_ _
                          refine NoPanic.normal ?_
                          go_wp2_with fail
                          go_ret
                          exact ⟨rfl, hB5.trans (b11.mono hz5)⟩
                        exact AllReadyH.nil
                      exact AllReadyH.nil
                    exact AllReadyH.nil
                  exact AllReadyH.nil
                exact AllReadyH.nil
              exact AllReadyH.nil
            refine AllReadyH.cons (by simp only [List.getElem?_toArray, List.getElem?_cons_zero, List.getElem?_cons_succ]; rfl) (fun K hK => ?step1069) ?more1069
            case step1069 =>
              go_simp
              refine hK.out _ _ ?hS1070 (fun hHeld => ?_)
              case hS1070 => exact HS.out _ (by repeat (first | with_reducible exact b11 | with_reducible exact b10 | with_reducible exact b9 | with_reducible exact b8 | with_reducible exact b7 | with_reducible exact b6 | with_reducible exact hBe | with_reducible refine below_al ?_ _ | with_reducible refine Below.drew ?_))
              clear hK K
              try simp only [Act.put, List.setIfInBounds_toArray, List.set_cons_zero, List.set_cons_succ]
              refine wpAnyH_ready (rs := [12]) (by kernel_rfl) (by simp) ?_
              refine AllReadyH.cons (by simp only [List.getElem?_toArray, List.getElem?_cons_zero, List.getElem?_cons_succ]; rfl) (fun K hK => ?step1071) ?more1071
              case step1071 =>
                go_simp; go_at_call 13; (with_reducible refine (KWu.out _ (by repeat (first | with_reducible exact b11 | with_reducible exact b10 | with_reducible exact b9 | with_reducible exact b8 | with_reducible exact b7 | with_reducible exact b6 | with_reducible exact hBe | with_reducible refine below_al ?_ _ | with_reducible refine Below.drew ?_))).mono ?_); rintro e w6 ⟨B6, rfl, s6, l6, b6⟩; have z6 := l6.size; have y6 : w5.heap.size ≤ w6.heap.size := b6.size; try simp at z6
                go_wp2_with fail
                refine hK.out _ _ ?hS1072 (fun hHeld => ?_)
                case hS1072 => exact HS.out _ (by repeat (first | with_reducible exact b11 | with_reducible exact b10 | with_reducible exact b9 | with_reducible exact b8 | with_reducible exact b7 | with_reducible exact b6 | with_reducible exact hBe | with_reducible refine below_al ?_ _ | with_reducible refine Below.drew ?_))
                clear hK K
                try simp only [Act.put, List.setIfInBounds_toArray, List.set_cons_zero, List.set_cons_succ]
                refine wpAnyH_ready (rs := [13]) (by kernel_rfl) (by simp) ?_
                refine AllReadyH.cons (by simp only [List.getElem?_toArray, List.getElem?_cons_zero, List.getElem?_cons_succ]; rfl) (fun K hK => ?step1073) ?more1073
                case step1073 =>
                  go_simp; go_at_call 12; (with_reducible refine (KA.out XS _ _ (by first | with_reducible exact s6 | with_reducible exact SeqAt.alloc s6 _ | with_reducible exact SeqAt.drew s6 | with_reducible exact SeqAt.alloc (SeqAt.drew s6) _ | with_reducible exact SeqAt.drew (SeqAt.alloc s6 _)) hxl (by repeat (first | with_reducible exact b11 | with_reducible exact b10 | with_reducible exact b9 | with_reducible exact b8 | with_reducible exact b7 | with_reducible exact b6 | with_reducible exact hBe | with_reducible refine below_al ?_ _ | with_reducible refine Below.drew ?_))).mono ?_); rintro e w7 ⟨A7, c7, rfl, R7, l7, b7⟩; have z7 := l7.size; have y7 : w5.heap.size ≤ w7.heap.size := b7.size; try simp at z7
                  go_wp2_with fail
                  refine hK.out _ _ ?hS1074 (fun hHeld => ?_)
                  case hS1074 => exact HS.out _ (by repeat (first | with_reducible exact b11 | with_reducible exact b10 | with_reducible exact b9 | with_reducible exact b8 | with_reducible exact b7 | with_reducible exact b6 | with_reducible exact hBe | with_reducible refine below_al ?_ _ | with_reducible refine Below.drew ?_))
                  clear hK K
                  try simp only [Act.put, List.setIfInBounds_toArray, List.set_cons_zero, List.set_cons_succ]
                  refine wpAnyH_ready (rs := [19]) (by kernel_rfl) (by simp) ?_
                  refine AllReadyH.cons (by simp only [List.getElem?_toArray, List.getElem?_cons_zero, List.getElem?_cons_succ]; rfl) (fun K hK => ?step1075) ?more1075
                  case step1075 =>
                    go_simp; go_at_call 13; (with_reducible refine (KWt.out _ (by repeat (first | with_reducible exact b11 | with_reducible exact b10 | with_reducible exact b9 | with_reducible exact b8 | with_reducible exact b7 | with_reducible exact b6 | with_reducible exact hBe | with_reducible refine below_al ?_ _ | with_reducible refine Below.drew ?_))).mono ?_); rintro e w8 ⟨B8, rfl, s8, l8, b8⟩; have z8 := l8.size; have y8 : w5.heap.size ≤ w8.heap.size := b8.size; try simp at z8
                    go_wp2_with fail
                    refine hK.out _ _ ?hS1076 (fun hHeld => ?_)
                    case hS1076 => exact HS.out _ (by repeat (first | with_reducible exact b11 | with_reducible exact b10 | with_reducible exact b9 | with_reducible exact b8 | with_reducible exact b7 | with_reducible exact b6 | with_reducible exact hBe | with_reducible refine below_al ?_ _ | with_reducible refine Below.drew ?_))
                    clear hK K
                    try simp only [Act.put, List.setIfInBounds_toArray, List.set_cons_zero, List.set_cons_succ]
                    refine wpAnyH_ready (rs := [20]) (by kernel_rfl) (by simp) ?_
                    refine AllReadyH.cons (by simp only [List.getElem?_toArray, List.getElem?_cons_zero, List.getElem?_cons_succ]; rfl) (fun K hK => ?step1077) ?more1077
                    case step1077 =>
                      go_simp; go_at_call 12; (with_reducible refine (KA.out LT _ _ (by first | with_reducible exact s8 | with_reducible exact SeqAt.alloc s8 _ | with_reducible exact SeqAt.drew s8 | with_reducible exact SeqAt.alloc (SeqAt.drew s8) _ | with_reducible exact SeqAt.drew (SeqAt.alloc s8 _)) hll (by repeat (first | with_reducible exact b11 | with_reducible exact b10 | with_reducible exact b9 | with_reducible exact b8 | with_reducible exact b7 | with_reducible exact b6 | with_reducible exact hBe | with_reducible refine below_al ?_ _ | with_reducible refine Below.drew ?_))).mono ?_); rintro e w9 ⟨A9, c9, rfl, R9, l9, b9⟩; have z9 := l9.size; have y9 : w5.heap.size ≤ w9.heap.size := b9.size; try simp at z9
                      go_wp2_with fail
                      refine hK.out _ _ ?hS1078 (fun hHeld => ?_)
                      case hS1078 => exact HS.out _ (by repeat (first | with_reducible exact b11 | with_reducible exact b10 | with_reducible exact b9 | with_reducible exact b8 | with_reducible exact b7 | with_reducible exact b6 | with_reducible exact hBe | with_reducible refine below_al ?_ _ | with_reducible refine Below.drew ?_))
                      clear hK K
                      try simp only [Act.put, List.setIfInBounds_toArray, List.set_cons_zero, List.set_cons_succ]
                      refine wpAnyH_ready (rs := [21]) (by kernel_rfl) (by simp) ?_
                      refine AllReadyH.cons (by simp only [List.getElem?_toArray, List.getElem?_cons_zero, List.getElem?_cons_succ]; rfl) (fun K hK => ?step1079) ?more1079
                      case step1079 =>
                        refine step_cons (by rfl) _ _ rfl w5.heap.size (t.nodes.length : Int) _ A9 c9 LT LT.length _ _ (by rfl) (by rfl) rfl (by first | exact (blk_bel (blk_bel (blk_bel (blk_bel (Blk.new _ _ _) l6) l7) l8) l9) | exact (blk_bel (blk_bel (blk_bel (blk_bel (Blk.drew (Blk.new _ _ _)) l6) l7) l8) l9) | exact (blk_bel (blk_bel (blk_bel (Blk.new _ _ _) l7) l8) l9) | exact (blk_bel (blk_bel (blk_bel (Blk.drew (Blk.new _ _ _)) l7) l8) l9) | exact (blk_bel (blk_bel (Blk.new _ _ _) l8) l9) | exact (blk_bel (blk_bel (Blk.drew (Blk.new _ _ _)) l8) l9) | exact (blk_bel (Blk.new _ _ _) l9) | exact (blk_bel (Blk.drew (Blk.new _ _ _)) l9) | exact (Blk.new _ _ _) | exact (Blk.drew (Blk.new _ _ _))) (by first | (simp; done) | (simp; omega) | omega) (by first | exact R9 | exact RowI.alloc R9 _ | exact RowI.drew R9 | exact RowI.drew (RowI.alloc R9 _)) hll (show Below w5.heap.size w5 _ from (by repeat (first | with_reducible exact b11 | with_reducible exact b10 | with_reducible exact b9 | with_reducible exact b8 | with_reducible exact b7 | with_reducible exact b6 | with_reducible exact hBe | with_reducible refine below_al ?_ _ | with_reducible refine Below.drew ?_))).size _ _ XS A7 (by first | exact (RowI.below (RowI.below R7 l8) l9) | exact (RowI.below (RowI.below (RowI.alloc R7 _) l8) l9) | exact (RowI.below (RowI.alloc (RowI.below R7 l8) _) l9) | exact (RowI.alloc (RowI.below (RowI.below R7 l8) l9) _) | exact RowI.drew (RowI.below (RowI.below R7 l8) l9) | exact RowI.drew (RowI.below (RowI.below (RowI.alloc R7 _) l8) l9) | exact RowI.drew (RowI.below (RowI.alloc (RowI.below R7 l8) _) l9) | exact RowI.drew (RowI.alloc (RowI.below (RowI.below R7 l8) l9) _)) (by first | exact .inl (by first | (simp; done) | (simp; omega) | omega) | exact .inr (by first | (simp; done) | (simp; omega) | omega)) ?_; intro A10 c10 w10 rd10 l10 R10; have b10 : Below w5.heap.size w5 w10 := Below.trans (by repeat (first | with_reducible exact b11 | with_reducible exact b10 | with_reducible exact b9 | with_reducible exact b8 | with_reducible exact b7 | with_reducible exact b6 | with_reducible exact hBe | with_reducible refine below_al ?_ _ | with_reducible refine Below.drew ?_)) l10
                        refine hK.out _ _ ?hS1080 (fun hHeld => ?_)
                        case hS1080 => exact HS.out _ (by repeat (first | with_reducible exact b11 | with_reducible exact b10 | with_reducible exact b9 | with_reducible exact b8 | with_reducible exact b7 | with_reducible exact b6 | with_reducible exact hBe | with_reducible refine below_al ?_ _ | with_reducible refine Below.drew ?_))
                        clear hK K
                        try simp only [Act.put, List.setIfInBounds_toArray, List.set_cons_zero, List.set_cons_succ]
                        refine wpAnyH_ready (rs := [22]) (by kernel_rfl) (by simp) ?_
                        refine AllReadyH.cons (by simp only [List.getElem?_toArray, List.getElem?_cons_zero, List.getElem?_cons_succ]; rfl) (fun K hK => ?step1081) ?more1081
                        case step1081 =>
                          go_simp; go_at_call 11; (with_reducible refine (same_at _ _ _ _ _ _ XS ((t.nodes.length : Int) :: LT) _ (R10.rd) rd10 rfl List.length_cons (by omega) (by omega) HEQ.out).mono ?_); rintro e w11 ⟨rfl, l11⟩; have b11 : Below w5.heap.size w5 w11 := Below.trans b10 (l11.mono b10.size)
                          go_wp2_with fail
                          refine hK.out _ _ ?hS1082 (fun hHeld => ?_)
                          case hS1082 => exact HS.out _ (by repeat (first | with_reducible exact b11 | with_reducible exact b10 | with_reducible exact b9 | with_reducible exact b8 | with_reducible exact b7 | with_reducible exact b6 | with_reducible exact hBe | with_reducible refine below_al ?_ _ | with_reducible refine Below.drew ?_))
                          clear hK K
                          try simp only [Act.put, List.setIfInBounds_toArray, List.set_cons_zero, List.set_cons_succ]
                          refine wpAnyH_take (i := 23) (v := ?v1083) (by simp only [List.getElem?_toArray, List.getElem?_cons_zero, List.getElem?_cons_succ]; rfl) (by kernel_rfl) (by kernel_rfl) (by kernel_rfl) (fun _ _ _ h => h) (Or.inl ⟨by rfl, ?hy1083⟩) (by assumption) ?rest1083
                          case hy1083 => (intro w hSw; (try dsimp only at hSw); go_simp; try with_reducible rfl)
                          try simp only [Act.put, List.setIfInBounds_toArray, List.set_cons_zero, List.set_cons_succ]
                          refine wpAnyH_take (i := 24) (v := ?v1084) (by simp only [List.getElem?_toArray, List.getElem?_cons_zero, List.getElem?_cons_succ]; rfl) (by kernel_rfl) (by kernel_rfl) (by kernel_rfl) (fun _ _ _ h => h) (Or.inl ⟨by rfl, ?hy1084⟩) (by assumption) ?rest1084
                          case hy1084 => (intro w hSw; (try dsimp only at hSw); go_simp; try with_reducible rfl)
                          try simp only [Act.put, List.setIfInBounds_toArray, List.set_cons_zero, List.set_cons_succ]
                          refine wpAnyH_done (by kernel_rfl) ?_ _
                          refine NoPanic.normal ?_
                          go_wp2_with fail
                          go_ret
                          exact ⟨rfl, hB5.trans (b11.mono hz5)⟩
                        exact AllReadyH.nil
                      exact AllReadyH.nil
                    exact AllReadyH.nil
                  exact AllReadyH.nil
                exact AllReadyH.nil
              exact AllReadyH.nil
            exact AllReadyH.nil
end Go.Proofs.YtinajnkjfhbmkaaDoor
