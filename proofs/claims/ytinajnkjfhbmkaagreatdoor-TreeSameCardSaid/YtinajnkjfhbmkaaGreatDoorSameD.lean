/- Same, at every two trees of parts of a bounded size. -/
import Derived.Test.YtinajnkjfhbmkaaGreatDoorSameC
namespace Go.Proofs.YtinajnkjfhbmkaaGreatDoor
open Go Go.Proofs Go.RowKit

theorem tree_up {w W : World} {t : TreeD} {p : Ptr6} (hT : TreeAt (Lt w.heap.size) w t p) (hb : Below w.heap.size w W) : TreeAt (Lt W.heap.size) W t p := (hT.keep (keep_below hb)).imp (lt_mono hb.size)

attribute [local irreducible] Blk

set_option maxRecDepth 100000 in
set_option maxHeartbeats 8000000 in
theorem same19_any (a b : TreeD) (p q : Ptr6) (w : World) (hE : Env w) (hTa : TreeAt (Lt w.heap.size) w a p) (hTb : TreeAt (Lt w.heap.size) w b q) (hFa : TreeFew a) (hFb : TreeFew b) :
    Calls Tryz.prog 12 #[treeV a p, treeV b q] w fun e w' => e = .returned (.bool (sameB a b)) ∧ Below w.heap.size w w' := by
  obtain ⟨W1, hW1⟩ : ∃ W1, (w.alloc (.cells #[.slice p.a1 a.nodes.length p.c1, .slice p.a2 a.types.length p.c2, .slice p.a3 a.aliases.length p.c3] 26)).alloc (.cells #[.slice q.a1 b.nodes.length q.c1, .slice q.a2 b.types.length q.c2, .slice q.a3 b.aliases.length q.c3] 26) = W1 := ⟨_, rfl⟩
  have hB1 : Below w.heap.size w W1 := by rw [← hW1]; exact ((Below.refl _ _).alloc (Nat.le_refl _) _).alloc (by simp) _
  have hX : Blk W1 w.heap.size 26 #[.slice p.a1 a.nodes.length p.c1, .slice p.a2 a.types.length p.c2, .slice p.a3 a.aliases.length p.c3] := by rw [← hW1]; exact (Blk.new w 26 _).alloc _
  have hY : Blk W1 (w.heap.size + 1) 26 #[.slice q.a1 b.nodes.length q.c1, .slice q.a2 b.types.length q.c2, .slice q.a3 b.aliases.length q.c3] := by
    rw [← hW1]
    have := Blk.new (w.alloc (.cells #[.slice p.a1 a.nodes.length p.c1, .slice p.a2 a.types.length p.c2, .slice p.a3 a.aliases.length p.c3] 26)) 26 #[.slice q.a1 b.nodes.length q.c1, .slice q.a2 b.types.length q.c2, .slice q.a3 b.aliases.length q.c3]
    rwa [World.size_alloc] at this
  have hzX := hX.lt
  have hzY := hY.lt
  have hTa1 := tree_up hTa hB1
  have hTb1 := tree_up hTb hB1
  have kCa := check_any a p W1 (hE.on hB1) hTa1 hFa
  have x0 := hX.cell 0
  have x1 := hX.cell 1
  have x2 := hX.cell 2
  simp only [List.getElem?_toArray, List.getElem?_cons_zero, List.getElem?_cons_succ] at x0 x1 x2
  obtain ⟨r, hr⟩ : ∃ r, sameB a b = r := ⟨_, rfl⟩
  rw [hr]
  have HR := Lib.hid hr
  have HX := Lib.hid hX
  have HY := Lib.hid hY
  have HTa := Lib.hid hTa1
  have HTb := Lib.hid hTb1
  have HE := Lib.hid hE
  have HFa := Lib.hid hFa
  have HFb := Lib.hid hFb
  clear hr hX hY hTa hTb hTa1 hTb1 hE hFa hFb
  by_cases hca : checkF a = true
  case neg =>
    rw [if_neg hca] at kCa
    have hrf : r = false := by rw [← HR.out]; unfold sameB; simp [hca]
    subst hrf
    clear hca HR
    go_enter Tryz.func12, Tryz.ntmps12
    go_wp2_with (go_at_call 8; refine kCa.mono ?_; rintro e w2 ⟨rfl, hb2⟩)
    go_ret
    exact ⟨rfl, hB1.trans (hb2.mono hB1.size)⟩
  case pos =>
    rw [if_pos hca] at kCa
    have HCa := Lib.hid hca
    clear hca
    go_enter Tryz.func12, Tryz.ntmps12
    go_wp2_with fail
    refine kCa.mono ?_
    rintro e w2 ⟨rfl, hb2⟩
    have hB2 : Below w.heap.size w w2 := hB1.trans (hb2.mono hB1.size)
    have HX2 := Lib.hid (HX.out.below hb2 hzX)
    have HY2 := Lib.hid (HY.out.below hb2 hzY)
    have HTa2 := Lib.hid (tree_up HTa.out hb2)
    have HTb2 := Lib.hid (tree_up HTb.out hb2)
    have kCb := check_any b q w2 (HE.out.on hB2) HTb2.out HFb.out
    have x0 := HX2.out.cell 0
    have x1 := HX2.out.cell 1
    have x2 := HX2.out.cell 2
    have y0 := HY2.out.cell 0
    have y1 := HY2.out.cell 1
    have y2 := HY2.out.cell 2
    simp only [List.getElem?_toArray, List.getElem?_cons_zero, List.getElem?_cons_succ] at x0 x1 x2 y0 y1 y2
    have hzX2 := HX2.out.lt
    have hzY2 := HY2.out.lt
    clear kCa HX HY HTa HTb hb2 hzX hzY hW1
    by_cases hcb : checkF b = true
    case neg =>
      rw [if_neg hcb] at kCb
      have hrf : r = false := by rw [← HR.out]; unfold sameB; simp [hcb]
      subst hrf
      clear hcb HR
      go_wp2_with (go_at_call 8; refine kCb.mono ?_; rintro e w3 ⟨rfl, hb3⟩)
      go_ret
      exact ⟨rfl, hB2.trans (hb3.mono hB2.size)⟩
    case pos =>
      rw [if_pos hcb] at kCb
      have hrr : r = (all2 (atT a b) (termsL a) (termsL b) && (all2 smA a.aliases b.aliases && all2 (atY a b) (typesL a (termsL a)) (typesL b (termsL b)))) := by
        rw [← HR.out]; unfold sameB; rw [HCa.out, hcb]; rfl
      have HCb := Lib.hid hcb
      have HRR := Lib.hid hrr
      clear hcb hrr HR
      go_wp2_with fail
      refine kCb.mono ?_
      rintro e w3 ⟨rfl, hb3⟩
      have hB3 : Below w.heap.size w w3 := hB2.trans (hb3.mono hB2.size)
      have HX3 := Lib.hid (HX2.out.below hb3 hzX2)
      have HY3 := Lib.hid (HY2.out.below hb3 hzY2)
      have HTa3 := Lib.hid (tree_up HTa2.out hb3)
      have HTb3 := Lib.hid (tree_up HTb2.out hb3)
      have hzX3 := HX3.out.lt
      have hzY3 := HY3.out.lt
      clear kCb HX2 HY2 HTa2 HTb2 hb3 hzX2 hzY2 x0 x1 x2 y0 y1 y2
      have HWa := Lib.hid ((checkF_iff a).1 HCa.out)
      have HWb := Lib.hid ((checkF_iff b).1 HCb.out)
      have HS : Hid (∀ W, Below w3.heap.size w3 W → (fun W : World => W.cell? ⟨w.heap.size, 0, none⟩ = some (.slice p.a1 a.nodes.length p.c1) ∧ W.cell? ⟨w.heap.size, 1, none⟩ = some (.slice p.a2 a.types.length p.c2) ∧ W.cell? ⟨w.heap.size, 2, none⟩ = some (.slice p.a3 a.aliases.length p.c3) ∧ W.cell? ⟨w.heap.size + 1, 0, none⟩ = some (.slice q.a1 b.nodes.length q.c1) ∧ W.cell? ⟨w.heap.size + 1, 1, none⟩ = some (.slice q.a2 b.types.length q.c2) ∧ W.cell? ⟨w.heap.size + 1, 2, none⟩ = some (.slice q.a3 b.aliases.length q.c3) ∧ Below w3.heap.size w3 W) W) := Lib.hid fun W hW => by
        have x0 := (HX3.out.below hW hzX3).cell 0
        have x1 := (HX3.out.below hW hzX3).cell 1
        have x2 := (HX3.out.below hW hzX3).cell 2
        have y0 := (HY3.out.below hW hzY3).cell 0
        have y1 := (HY3.out.below hW hzY3).cell 1
        have y2 := (HY3.out.below hW hzY3).cell 2
        simp only [List.getElem?_toArray, List.getElem?_cons_zero, List.getElem?_cons_succ] at x0 x1 x2 y0 y1 y2
        exact ⟨x0, x1, x2, y0, y1, y2, hW⟩
      have KWa : Hid (∀ W, Below w3.heap.size w3 W → Calls Tryz.prog 29 #[.agg #[.slice p.a1 a.nodes.length p.c1, .slice p.a2 a.types.length p.c2, .slice p.a3 a.aliases.length p.c3]] W fun e w' => e = .returned (.int .i64 ((a.nodes.length - 1 : Nat) : Int)) ∧ Below W.heap.size W w' ∧ Below w3.heap.size w3 w') := Lib.hid fun W hW =>
        (whole_any a p W HWa.out.rng.one HWa.out.big).mono fun e w' h => ⟨h.1, h.2, hW.trans (h.2.mono hW.size)⟩
      have KMa : Hid (∀ W, Below w3.heap.size w3 W → Calls Tryz.prog 33 #[.agg #[.slice p.a1 a.nodes.length p.c1, .slice p.a2 a.types.length p.c2, .slice p.a3 a.aliases.length p.c3]] W fun e w' => ∃ T, e = .returned (.func (.func 63) #[] #[.pointer (some ⟨T, 0, none⟩)]) ∧ Blk w' T 26 #[.slice p.a1 a.nodes.length p.c1, .slice p.a2 a.types.length p.c2, .slice p.a3 a.aliases.length p.c3] ∧ Below W.heap.size W w' ∧ Below w3.heap.size w3 w') := Lib.hid fun W hW =>
        (mkKidT_any a p W).mono fun e w' h => ⟨W.heap.size, h.1, by rw [h.2]; exact Blk.new W 26 _, by rw [h.2]; exact (Below.refl _ W).alloc (Nat.le_refl _) _, by rw [h.2]; exact hW.alloc hW.size _⟩
      have KAa : Hid (∀ T W, Blk W T 26 #[.slice p.a1 a.nodes.length p.c1, .slice p.a2 a.types.length p.c2, .slice p.a3 a.aliases.length p.c3] → Below w3.heap.size w3 W → Calls Tryz.prog 32 #[.int .i64 ((a.nodes.length - 1 : Nat) : Int), .func (.func 63) #[] #[.pointer (some ⟨T, 0, none⟩)]] W fun e w' => ∃ A c, e = .returned (.slice A (termsL a).length c) ∧ SlAt (Lt w'.heap.size) w' A (termsL a).length ((nz (termsL a)).map iv) ∧ Below W.heap.size W w' ∧ Below w3.heap.size w3 w') := Lib.hid fun T W hT hW => by
        have hTW := tree_up HTa3.out hW
        have hlt := hT.lt
        have hone := HWa.out.rng.one
        have hf : a.nodes.length ≤ 1000 := HFa.out.2.2.2.2.1
        have hll := termsL_len HWa.out HFa.out
        refine (ahead_any 63 (.inl rfl) (.pointer (some ⟨T, 0, none⟩)) (tmK a) a.nodes.length (a.nodes.length - 1) W HWa.out.rng.dnN (by omega) (termsL a) rfl (by omega) (by omega) (fun i V hi hV => ?_)).mono fun e w' h => ?_
        · exact kidT_any a p W.heap.size T i V (hT.below hV hlt) (hTW.1.keep (keep_below hV)) hi hf HWa.out.rng
        · obtain ⟨A, c, h1, h2, h3⟩ := h
          exact ⟨A, c, h1, h2.imp fun b hb => hb.2, h3, hW.trans (h3.mono hW.size)⟩
      have KWb : Hid (∀ W, Below w3.heap.size w3 W → Calls Tryz.prog 29 #[.agg #[.slice q.a1 b.nodes.length q.c1, .slice q.a2 b.types.length q.c2, .slice q.a3 b.aliases.length q.c3]] W fun e w' => e = .returned (.int .i64 ((b.nodes.length - 1 : Nat) : Int)) ∧ Below W.heap.size W w' ∧ Below w3.heap.size w3 w') := Lib.hid fun W hW =>
        (whole_any b q W HWb.out.rng.one HWb.out.big).mono fun e w' h => ⟨h.1, h.2, hW.trans (h.2.mono hW.size)⟩
      have KMb : Hid (∀ W, Below w3.heap.size w3 W → Calls Tryz.prog 33 #[.agg #[.slice q.a1 b.nodes.length q.c1, .slice q.a2 b.types.length q.c2, .slice q.a3 b.aliases.length q.c3]] W fun e w' => ∃ T, e = .returned (.func (.func 63) #[] #[.pointer (some ⟨T, 0, none⟩)]) ∧ Blk w' T 26 #[.slice q.a1 b.nodes.length q.c1, .slice q.a2 b.types.length q.c2, .slice q.a3 b.aliases.length q.c3] ∧ Below W.heap.size W w' ∧ Below w3.heap.size w3 w') := Lib.hid fun W hW =>
        (mkKidT_any b q W).mono fun e w' h => ⟨W.heap.size, h.1, by rw [h.2]; exact Blk.new W 26 _, by rw [h.2]; exact (Below.refl _ W).alloc (Nat.le_refl _) _, by rw [h.2]; exact hW.alloc hW.size _⟩
      have KAb : Hid (∀ T W, Blk W T 26 #[.slice q.a1 b.nodes.length q.c1, .slice q.a2 b.types.length q.c2, .slice q.a3 b.aliases.length q.c3] → Below w3.heap.size w3 W → Calls Tryz.prog 32 #[.int .i64 ((b.nodes.length - 1 : Nat) : Int), .func (.func 63) #[] #[.pointer (some ⟨T, 0, none⟩)]] W fun e w' => ∃ A c, e = .returned (.slice A (termsL b).length c) ∧ SlAt (Lt w'.heap.size) w' A (termsL b).length ((nz (termsL b)).map iv) ∧ Below W.heap.size W w' ∧ Below w3.heap.size w3 w') := Lib.hid fun T W hT hW => by
        have hTW := tree_up HTb3.out hW
        have hlt := hT.lt
        have hone := HWb.out.rng.one
        have hf : b.nodes.length ≤ 1000 := HFb.out.2.2.2.2.1
        have hll := termsL_len HWb.out HFb.out
        refine (ahead_any 63 (.inl rfl) (.pointer (some ⟨T, 0, none⟩)) (tmK b) b.nodes.length (b.nodes.length - 1) W HWb.out.rng.dnN (by omega) (termsL b) rfl (by omega) (by omega) (fun i V hi hV => ?_)).mono fun e w' h => ?_
        · exact kidT_any b q W.heap.size T i V (hT.below hV hlt) (hTW.1.keep (keep_below hV)) hi hf HWb.out.rng
        · obtain ⟨A, c, h1, h2, h3⟩ := h
          exact ⟨A, c, h1, h2.imp fun b hb => hb.2, h3, hW.trans (h3.mono hW.size)⟩
      have hB0 := Below.refl w3.heap.size w3
      go_wp2_with fail
      refine wp_region_noPanic ?_
      refine wp_region_held_drew (S := fun W => W.cell? ⟨w.heap.size, 0, none⟩ = some (.slice p.a1 a.nodes.length p.c1) ∧ W.cell? ⟨w.heap.size, 1, none⟩ = some (.slice p.a2 a.types.length p.c2) ∧ W.cell? ⟨w.heap.size, 2, none⟩ = some (.slice p.a3 a.aliases.length p.c3) ∧ W.cell? ⟨w.heap.size + 1, 0, none⟩ = some (.slice q.a1 b.nodes.length q.c1) ∧ W.cell? ⟨w.heap.size + 1, 1, none⟩ = some (.slice q.a2 b.types.length q.c2) ∧ W.cell? ⟨w.heap.size + 1, 2, none⟩ = some (.slice q.a3 b.aliases.length q.c3) ∧ Below w3.heap.size w3 W) (by kernel_rfl) (HS.out _ (Below.drew hB0)) (fun hHeld => ?_)
      refine wpAnyH_take (i := 0) (v := ?va1) (by simp only [List.getElem?_toArray, List.getElem?_cons_zero]; rfl) (by kernel_rfl) (by kernel_rfl) (by kernel_rfl) (fun _ _ _ h => h) (Or.inl ⟨by rfl, ?hya1⟩) (by assumption) ?resta1
      case hya1 => (intro w hSw; (try dsimp only at hSw); go_simp; try with_reducible rfl)
      try simp only [Act.put, List.setIfInBounds_toArray, List.set_cons_zero, List.set_cons_succ]
      refine wpAnyH_take (i := 2) (v := ?va2) (by simp only [List.getElem?_toArray, List.getElem?_cons_zero, List.getElem?_cons_succ]; rfl) (by kernel_rfl) (by kernel_rfl) (by kernel_rfl) (fun _ _ _ h => h) (Or.inl ⟨by rfl, ?hya2⟩) (by assumption) ?resta2
      case hya2 => (intro w hSw; (try dsimp only at hSw); go_simp; try with_reducible rfl)
      try simp only [Act.put, List.setIfInBounds_toArray, List.set_cons_zero, List.set_cons_succ]
      refine wpAnyH_take (i := 5) (v := ?va3) (by simp only [List.getElem?_toArray, List.getElem?_cons_zero, List.getElem?_cons_succ]; rfl) (by kernel_rfl) (by kernel_rfl) (by kernel_rfl) (fun _ _ _ h => h) (Or.inl ⟨by rfl, ?hya3⟩) (by assumption) ?resta3
      case hya3 => (intro w hSw; (try dsimp only at hSw); go_simp; try with_reducible rfl)
      try simp only [Act.put, List.setIfInBounds_toArray, List.set_cons_zero, List.set_cons_succ]
      refine wpAnyH_take (i := 7) (v := ?va4) (by simp only [List.getElem?_toArray, List.getElem?_cons_zero, List.getElem?_cons_succ]; rfl) (by kernel_rfl) (by kernel_rfl) (by kernel_rfl) (fun _ _ _ h => h) (Or.inl ⟨by rfl, ?hya4⟩) (by assumption) ?resta4
      case hya4 => (intro w hSw; (try dsimp only at hSw); go_simp; try with_reducible rfl)
      try simp only [Act.put, List.setIfInBounds_toArray, List.set_cons_zero, List.set_cons_succ]
      refine wpAnyH_ready (rs := [1]) (by kernel_rfl) (by simp) ?_
      refine AllReadyH.cons (by simp only [List.getElem?_toArray, List.getElem?_cons_zero, List.getElem?_cons_succ]; rfl) (fun K hK => ?stepa5) AllReadyH.nil
      go_simp; go_at_call 29; (with_reducible refine (KWa.out _ (Below.drew hB0)).mono ?_); rintro e w4 ⟨rfl, _, b4⟩
      go_wp2_with fail
      refine hK.out _ _ ?hSa5 (fun hHeld => ?_)
      case hSa5 => exact HS.out _ b4
      clear hK K
      try simp only [Act.put, List.setIfInBounds_toArray, List.set_cons_zero, List.set_cons_succ]
      refine wpAnyH_ready (rs := [3]) (by kernel_rfl) (by simp) ?_
      refine AllReadyH.cons (by simp only [List.getElem?_toArray, List.getElem?_cons_zero, List.getElem?_cons_succ]; rfl) (fun K hK => ?stepa6) AllReadyH.nil
      go_simp; go_at_call 33; (with_reducible refine (KMa.out _ b4).mono ?_); rintro e w5 ⟨T5, rfl, h5, _, b5⟩
      go_wp2_with fail
      refine hK.out _ _ ?hSa6 (fun hHeld => ?_)
      case hSa6 => exact HS.out _ b5
      clear hK K
      try simp only [Act.put, List.setIfInBounds_toArray, List.set_cons_zero, List.set_cons_succ]
      refine wpAnyH_ready (rs := [4]) (by kernel_rfl) (by simp) ?_
      refine AllReadyH.cons (by simp only [List.getElem?_toArray, List.getElem?_cons_zero, List.getElem?_cons_succ]; rfl) (fun K hK => ?stepa7) AllReadyH.nil
      go_simp; go_at_call 32; (with_reducible refine (KAa.out T5 _ h5 b5).mono ?_); rintro e w6 ⟨A6, c6, rfl, h6, _, b6⟩; clear h5; have H6 := Lib.hid h6; clear h6
      go_wp2_with fail
      refine hK.out _ _ ?hSa7 (fun hHeld => ?_)
      case hSa7 => exact HS.out _ b6
      clear hK K
      try simp only [Act.put, List.setIfInBounds_toArray, List.set_cons_zero, List.set_cons_succ]
      refine wpAnyH_ready (rs := [6]) (by kernel_rfl) (by simp) ?_
      refine AllReadyH.cons (by simp only [List.getElem?_toArray, List.getElem?_cons_zero, List.getElem?_cons_succ]; rfl) (fun K hK => ?stepa8) AllReadyH.nil
      go_simp; go_at_call 29; (with_reducible refine (KWb.out _ b6).mono ?_); rintro e w7 ⟨rfl, m7, b7⟩
      go_wp2_with fail
      refine hK.out _ _ ?hSa8 (fun hHeld => ?_)
      case hSa8 => exact HS.out _ b7
      clear hK K
      try simp only [Act.put, List.setIfInBounds_toArray, List.set_cons_zero, List.set_cons_succ]
      refine wpAnyH_ready (rs := [8]) (by kernel_rfl) (by simp) ?_
      refine AllReadyH.cons (by simp only [List.getElem?_toArray, List.getElem?_cons_zero, List.getElem?_cons_succ]; rfl) (fun K hK => ?stepa9) AllReadyH.nil
      go_simp; go_at_call 33; (with_reducible refine (KMb.out _ b7).mono ?_); rintro e w8 ⟨T8, rfl, h8, m8, b8⟩
      go_wp2_with fail
      refine hK.out _ _ ?hSa9 (fun hHeld => ?_)
      case hSa9 => exact HS.out _ b8
      clear hK K
      try simp only [Act.put, List.setIfInBounds_toArray, List.set_cons_zero, List.set_cons_succ]
      refine wpAnyH_ready (rs := [9]) (by kernel_rfl) (by simp) ?_
      refine AllReadyH.cons (by simp only [List.getElem?_toArray, List.getElem?_cons_zero, List.getElem?_cons_succ]; rfl) (fun K hK => ?stepa10) AllReadyH.nil
      go_simp; go_at_call 32; (with_reducible refine (KAb.out T8 _ h8 b8).mono ?_); rintro e w9 ⟨A9, c9, rfl, h9, m9, b9⟩; clear h8; have H9 := Lib.hid h9; clear h9
      go_wp2_with fail
      refine hK.out _ _ ?hSa10 (fun hHeld => ?_)
      case hSa10 => exact HS.out _ b9
      clear hK K
      try simp only [Act.put, List.setIfInBounds_toArray, List.set_cons_zero, List.set_cons_succ]
      refine wpAnyH_take (i := 10) (v := ?va11) (by simp only [List.getElem?_toArray, List.getElem?_cons_zero, List.getElem?_cons_succ]; rfl) (by kernel_rfl) (by kernel_rfl) (by kernel_rfl) (fun _ _ _ h => h) (Or.inl ⟨by rfl, ?hya11⟩) (by assumption) ?resta11
      case hya11 => (intro w hSw; (try dsimp only at hSw); go_simp; try with_reducible rfl)
      try simp only [Act.put, List.setIfInBounds_toArray, List.set_cons_zero, List.set_cons_succ]
      refine wpAnyH_take (i := 11) (v := ?va12) (by simp only [List.getElem?_toArray, List.getElem?_cons_zero, List.getElem?_cons_succ]; rfl) (by kernel_rfl) (by kernel_rfl) (by kernel_rfl) (fun _ _ _ h => h) (Or.inl ⟨by rfl, ?hya12⟩) (by assumption) ?resta12
      case hya12 => (intro w hSw; (try dsimp only at hSw); go_simp; try with_reducible rfl)
      try simp only [Act.put, List.setIfInBounds_toArray, List.set_cons_zero, List.set_cons_succ]
      refine wpAnyH_done (by kernel_rfl) ?_ _
      refine NoPanic.normal ?_
      have M9 := m7.trans ((m8.mono m7.size).trans (m9.mono (Nat.le_trans m7.size m8.size)))
      have H6' : Hid (SlAt (Lt w9.heap.size) w9 A6 (termsL a).length ((nz (termsL a)).map iv)) := Lib.hid ((H6.out.keep (keep_below M9)).imp (lt_mono M9.size))
      have hB9 : Below w.heap.size w w9 := hB3.trans (b9.mono hB3.size)
      have HX9 := Lib.hid (HX3.out.below b9 hzX3)
      have HY9 := Lib.hid (HY3.out.below b9 hzY3)
      have HTa9 := Lib.hid (tree_up HTa3.out b9)
      have HTb9 := Lib.hid (tree_up HTb3.out b9)
      have hzX9 := HX9.out.lt
      have hzY9 := HY9.out.lt
      have hla := termsL_len HWa.out HFa.out
      have hlb := termsL_len HWb.out HFb.out
      clear M9 m7 m8 m9 b4 b5 b6 b7 b8 b9 H6 HX3 HY3 HTa3 HTb3 hzX3 hzY3 HS KWa KWb KMa KMb KAa KAb hHeld
      have hL1 := termsL_lt HWa.out.rng
      have hL2 := termsL_lt HWb.out.rng
      obtain ⟨La, hLa⟩ : ∃ La, termsL a = La := ⟨_, rfl⟩
      obtain ⟨Lb, hLb⟩ : ∃ Lb, termsL b = Lb := ⟨_, rfl⟩
      rw [hLa] at hla H6' hL1
      rw [hLb] at hlb H9 hL2
      have hrr := HRR.out
      rw [hLa, hLb] at hrr
      have HRR2 := Lib.hid hrr
      rw [hLa, hLb]
      clear hrr HRR hLa hLb
      have HS : Hid (∀ W, Below w9.heap.size w9 W → (fun W : World => W.cell? ⟨w.heap.size, 0, none⟩ = some (.slice p.a1 a.nodes.length p.c1) ∧ W.cell? ⟨w.heap.size, 1, none⟩ = some (.slice p.a2 a.types.length p.c2) ∧ W.cell? ⟨w.heap.size, 2, none⟩ = some (.slice p.a3 a.aliases.length p.c3) ∧ W.cell? ⟨w.heap.size + 1, 0, none⟩ = some (.slice q.a1 b.nodes.length q.c1) ∧ W.cell? ⟨w.heap.size + 1, 1, none⟩ = some (.slice q.a2 b.types.length q.c2) ∧ W.cell? ⟨w.heap.size + 1, 2, none⟩ = some (.slice q.a3 b.aliases.length q.c3) ∧ Below w9.heap.size w9 W) W) := Lib.hid fun W hW => by
        have x0 := (HX9.out.below hW hzX9).cell 0
        have x1 := (HX9.out.below hW hzX9).cell 1
        have x2 := (HX9.out.below hW hzX9).cell 2
        have y0 := (HY9.out.below hW hzY9).cell 0
        have y1 := (HY9.out.below hW hzY9).cell 1
        have y2 := (HY9.out.below hW hzY9).cell 2
        simp only [List.getElem?_toArray, List.getElem?_cons_zero, List.getElem?_cons_succ] at x0 x1 x2 y0 y1 y2
        exact ⟨x0, x1, x2, y0, y1, y2, hW⟩
      have KE1 : Hid (∀ W, Below w9.heap.size w9 W → Calls Tryz.prog 35 #[.slice A6 La.length c6, .slice A9 Lb.length c9, .func (.func 36) #[] #[.pointer (some ⟨w.heap.size, 0, none⟩), .pointer (some ⟨w.heap.size + 1, 0, none⟩)]] W fun e w' => e = .returned (.bool (all2 (atT a b) La Lb)) ∧ Below W.heap.size W w' ∧ Below w9.heap.size w9 w') := Lib.hid fun W hW => by
        have hTa := tree_up HTa9.out hW
        have hTb := tree_up HTb9.out hW
        have bX := HX9.out.below hW hzX9
        have bY := HY9.out.below hW hzY9
        refine (eqF_any 36 (.inl rfl) _ _ (atT a b) A6 A9 c6 c9 La Lb W ((H6'.out.keep (keep_below hW)).imp (lt_mono hW.size)) ((H9.out.keep (keep_below hW)).imp (lt_mono hW.size)) (by omega) (by omega) (fun i hi j hj V hV => ?_)).mono fun e w' h => ⟨h.1, h.2, hW.trans (h.2.mono hW.size)⟩
        exact cl35_any a b p q w.heap.size (w.heap.size + 1) i j V (bX.below hV bX.lt) (bY.below hV bY.lt) (tree_up hTa hV).1 (tree_up hTb hV).1 (hL1 i hi) (hL2 j hj) HFa.out.2.2.2.2.1 HFb.out.2.2.2.2.1 (fun x hx => (HFa.out.1 x hx).2.1) (fun x hx => (HFb.out.1 x hx).2.1)
      have KEA : Hid (∀ W, Below w9.heap.size w9 W → Calls Tryz.prog 38 #[.slice p.a3 a.aliases.length p.c3, .slice q.a3 b.aliases.length q.c3, .func (.func 39) #[] #[]] W fun e w' => e = .returned (.bool (all2 smA a.aliases b.aliases)) ∧ Below W.heap.size W w' ∧ Below w9.heap.size w9 w') := Lib.hid fun W hW => by
        have f1 := HFa.out.2.2.2.1
        have f2 := HFb.out.2.2.2.1
        exact (eqA_any p.a3 q.a3 p.c3 q.c3 a.aliases b.aliases W (tree_up HTa9.out hW).2.2 (tree_up HTb9.out hW).2.2 (by omega) (by omega)).mono fun e w' h => ⟨h.1, h.2, hW.trans (h.2.mono hW.size)⟩
      have KTa : Hid (∀ W, Below w9.heap.size w9 W → Calls Tryz.prog 40 #[.agg #[.slice p.a1 a.nodes.length p.c1, .slice p.a2 a.types.length p.c2, .slice p.a3 a.aliases.length p.c3], .slice A6 La.length c6] W fun e w' => ∃ A c, e = .returned (.slice A (typesL a La).length c) ∧ SlAt (Lt w'.heap.size) w' A (typesL a La).length ((nz (typesL a La)).map iv) ∧ Below W.heap.size W w' ∧ Below w9.heap.size w9 w') := Lib.hid fun W hW => by
        refine (typesOf_any a p A6 c6 La W (tree_up HTa9.out hW) HFa.out HWa.out ((H6'.out.keep (keep_below hW)).imp (lt_mono hW.size)) hL1 hla).mono fun e w' h => ?_
        obtain ⟨A, c, h1, h2, h3⟩ := h
        exact ⟨A, c, h1, h2.imp fun b hb => hb.2, h3, hW.trans (h3.mono hW.size)⟩
      have KTb : Hid (∀ W, Below w9.heap.size w9 W → Calls Tryz.prog 40 #[.agg #[.slice q.a1 b.nodes.length q.c1, .slice q.a2 b.types.length q.c2, .slice q.a3 b.aliases.length q.c3], .slice A9 Lb.length c9] W fun e w' => ∃ A c, e = .returned (.slice A (typesL b Lb).length c) ∧ SlAt (Lt w'.heap.size) w' A (typesL b Lb).length ((nz (typesL b Lb)).map iv) ∧ Below W.heap.size W w' ∧ Below w9.heap.size w9 w') := Lib.hid fun W hW => by
        refine (typesOf_any b q A9 c9 Lb W (tree_up HTb9.out hW) HFb.out HWb.out ((H9.out.keep (keep_below hW)).imp (lt_mono hW.size)) hL2 hlb).mono fun e w' h => ?_
        obtain ⟨A, c, h1, h2, h3⟩ := h
        exact ⟨A, c, h1, h2.imp fun b hb => hb.2, h3, hW.trans (h3.mono hW.size)⟩
      have KE3 : Hid (∀ A A' c c' W, SlAt (Lt W.heap.size) W A (typesL a La).length ((nz (typesL a La)).map iv) → SlAt (Lt W.heap.size) W A' (typesL b Lb).length ((nz (typesL b Lb)).map iv) → Below w9.heap.size w9 W → Calls Tryz.prog 35 #[.slice A (typesL a La).length c, .slice A' (typesL b Lb).length c', .func (.func 41) #[] #[.pointer (some ⟨w.heap.size, 0, none⟩), .pointer (some ⟨w.heap.size + 1, 0, none⟩)]] W fun e w' => e = .returned (.bool (all2 (atY a b) (typesL a La) (typesL b Lb))) ∧ Below W.heap.size W w' ∧ Below w9.heap.size w9 w') := Lib.hid fun A A' c c' W hA hA' hW => by
        have hTa := tree_up HTa9.out hW
        have hTb := tree_up HTb9.out hW
        have bX := HX9.out.below hW hzX9
        have bY := HY9.out.below hW hzY9
        have g1 := typesL_len HWa.out HFa.out hla
        have g2 := typesL_len HWb.out HFb.out hlb
        refine (eqF_any 41 (.inr rfl) _ _ (atY a b) A A' c c' (typesL a La) (typesL b Lb) W hA hA' (by omega) (by omega) (fun i hi j hj V hV => ?_)).mono fun e w' h => ⟨h.1, h.2, hW.trans (h.2.mono hW.size)⟩
        exact cl40_any a b p q w.heap.size (w.heap.size + 1) i j V (bX.below hV bX.lt) (bY.below hV bY.lt) (tree_up hTa hV).2.1 (tree_up hTb hV).2.1 (typesL_lt HWa.out.rng _ i hi) (typesL_lt HWb.out.rng _ j hj) HFa.out.2.2.2.2.2 HFb.out.2.2.2.2.2 (fun x hx => (HFa.out.2.1 x hx).2.1) (fun x hx => (HFb.out.2.1 x hx).2.1)
      obtain ⟨B1, hB1'⟩ : ∃ B1, all2 (atT a b) La Lb = B1 := ⟨_, rfl⟩
      obtain ⟨B2, hB2'⟩ : ∃ B2, all2 smA a.aliases b.aliases = B2 := ⟨_, rfl⟩
      obtain ⟨Ya, hYa⟩ : ∃ Ya, typesL a La = Ya := ⟨_, rfl⟩
      obtain ⟨Yb, hYb⟩ : ∃ Yb, typesL b Lb = Yb := ⟨_, rfl⟩
      obtain ⟨B3, hB3'⟩ : ∃ B3, all2 (atY a b) (typesL a La) (typesL b Lb) = B3 := ⟨_, rfl⟩
      have hrr := HRR2.out
      rw [hB1', hB2', hB3'] at hrr
      rw [hB1'] at KE1
      rw [hB2'] at KEA
      rw [hB3'] at KE3
      rw [hYa] at KTa KE3
      rw [hYb] at KTb KE3
      clear hB1' hB2' hB3' hYa hYb HRR2 hL1 hL2
      have hB0 := Below.refl w9.heap.size w9
      cases B1
      case false =>
        have hrf : r = false := by rw [hrr]; rfl
        subst hrf
        clear hrr
        go_wp2_with fail
        refine wp_region_noPanic ?_
        refine wp_region_held_drew (S := fun W => W.cell? ⟨w.heap.size, 0, none⟩ = some (.slice p.a1 a.nodes.length p.c1) ∧ W.cell? ⟨w.heap.size, 1, none⟩ = some (.slice p.a2 a.types.length p.c2) ∧ W.cell? ⟨w.heap.size, 2, none⟩ = some (.slice p.a3 a.aliases.length p.c3) ∧ W.cell? ⟨w.heap.size + 1, 0, none⟩ = some (.slice q.a1 b.nodes.length q.c1) ∧ W.cell? ⟨w.heap.size + 1, 1, none⟩ = some (.slice q.a2 b.types.length q.c2) ∧ W.cell? ⟨w.heap.size + 1, 2, none⟩ = some (.slice q.a3 b.aliases.length q.c3) ∧ Below w9.heap.size w9 W) (by kernel_rfl) (HS.out _ (Below.drew hB0)) (fun hHeld => ?_)
        refine wpAnyH_take (i := 0) (v := ?vb1) (by simp only [List.getElem?_toArray, List.getElem?_cons_zero]; rfl) (by kernel_rfl) (by kernel_rfl) (by kernel_rfl) (fun _ _ _ h => h) (Or.inl ⟨by rfl, ?hyb1⟩) (by assumption) ?restb1
        case hyb1 => (intro w hSw; (try dsimp only at hSw); go_simp; try with_reducible rfl)
        try simp only [Act.put, List.setIfInBounds_toArray, List.set_cons_zero, List.set_cons_succ]
        refine wpAnyH_take (i := 1) (v := ?vb2) (by simp only [List.getElem?_toArray, List.getElem?_cons_zero, List.getElem?_cons_succ]; rfl) (by kernel_rfl) (by kernel_rfl) (by kernel_rfl) (fun _ _ _ h => h) (Or.inl ⟨by rfl, ?hyb2⟩) (by assumption) ?restb2
        case hyb2 => (intro w hSw; (try dsimp only at hSw); go_simp; try with_reducible rfl)
        try simp only [Act.put, List.setIfInBounds_toArray, List.set_cons_zero, List.set_cons_succ]
        refine wpAnyH_take (i := 2) (v := ?vb3) (by simp only [List.getElem?_toArray, List.getElem?_cons_zero, List.getElem?_cons_succ]; rfl) (by kernel_rfl) (by kernel_rfl) (by kernel_rfl) (fun _ _ _ h => h) (Or.inl ⟨by rfl, ?hyb3⟩) (by assumption) ?restb3
        case hyb3 => (intro w hSw; (try dsimp only at hSw); go_simp; try with_reducible rfl)
        try simp only [Act.put, List.setIfInBounds_toArray, List.set_cons_zero, List.set_cons_succ]
        refine wpAnyH_ready (rs := [3]) (by kernel_rfl) (by simp) ?_
        refine AllReadyH.cons (by simp only [List.getElem?_toArray, List.getElem?_cons_zero, List.getElem?_cons_succ]; rfl) (fun K hK => ?stepb4) AllReadyH.nil
        go_simp; go_at_call 35; (with_reducible refine (KE1.out _ (Below.drew hB0)).mono ?_); rintro e w10 ⟨rfl, _, m10⟩
        go_wp2_with fail
        refine hK.out _ _ ?hSb4 (fun hHeld => ?_)
        case hSb4 => exact HS.out _ m10
        clear hK K
        try simp only [Act.put, List.setIfInBounds_toArray, List.set_cons_zero, List.set_cons_succ]
        refine wpAnyH_take (i := 4) (v := ?vb5) (by simp only [List.getElem?_toArray, List.getElem?_cons_zero, List.getElem?_cons_succ]; rfl) (by kernel_rfl) (by kernel_rfl) (by kernel_rfl) (fun _ _ _ h => h) (Or.inl ⟨by rfl, ?hyb5⟩) (by assumption) ?restb5
        case hyb5 => (intro w hSw; (try dsimp only at hSw); go_simp; try with_reducible rfl)
        try simp only [Act.put, List.setIfInBounds_toArray, List.set_cons_zero, List.set_cons_succ]
        refine wpAnyH_take (i := 5) (v := undef) (by simp only [List.getElem?_toArray, List.getElem?_cons_zero, List.getElem?_cons_succ]; rfl) (by kernel_rfl) (by kernel_rfl) (by kernel_rfl) (fun _ _ _ h => h) (Or.inr ⟨by rfl, rfl⟩) (by assumption) ?restb6
        try simp only [Act.put, List.setIfInBounds_toArray, List.set_cons_zero, List.set_cons_succ]
        refine wpAnyH_take (i := 6) (v := undef) (by simp only [List.getElem?_toArray, List.getElem?_cons_zero, List.getElem?_cons_succ]; rfl) (by kernel_rfl) (by kernel_rfl) (by kernel_rfl) (fun _ _ _ h => h) (Or.inr ⟨by rfl, rfl⟩) (by assumption) ?restb7
        try simp only [Act.put, List.setIfInBounds_toArray, List.set_cons_zero, List.set_cons_succ]
        refine wpAnyH_take (i := 7) (v := undef) (by simp only [List.getElem?_toArray, List.getElem?_cons_zero, List.getElem?_cons_succ]; rfl) (by kernel_rfl) (by kernel_rfl) (by kernel_rfl) (fun _ _ _ h => h) (Or.inr ⟨by rfl, rfl⟩) (by assumption) ?restb8
        try simp only [Act.put, List.setIfInBounds_toArray, List.set_cons_zero, List.set_cons_succ]
        refine wpAnyH_take (i := 8) (v := undef) (by simp only [List.getElem?_toArray, List.getElem?_cons_zero, List.getElem?_cons_succ]; rfl) (by kernel_rfl) (by kernel_rfl) (by kernel_rfl) (fun _ _ _ h => h) (Or.inr ⟨by rfl, rfl⟩) (by assumption) ?restb9
        try simp only [Act.put, List.setIfInBounds_toArray, List.set_cons_zero, List.set_cons_succ]
        refine wpAnyH_take (i := 9) (v := undef) (by simp only [List.getElem?_toArray, List.getElem?_cons_zero, List.getElem?_cons_succ]; rfl) (by kernel_rfl) (by kernel_rfl) (by kernel_rfl) (fun _ _ _ h => h) (Or.inr ⟨by rfl, rfl⟩) (by assumption) ?restb10
        try simp only [Act.put, List.setIfInBounds_toArray, List.set_cons_zero, List.set_cons_succ]
        refine wpAnyH_take (i := 10) (v := ?vb11) (by simp only [List.getElem?_toArray, List.getElem?_cons_zero, List.getElem?_cons_succ]; rfl) (by kernel_rfl) (by kernel_rfl) (by kernel_rfl) (fun _ _ _ h => h) (Or.inl ⟨by rfl, ?hyb11⟩) (by assumption) ?restb11
        case hyb11 => (intro w hSw; (try dsimp only at hSw); go_simp; try with_reducible rfl)
        try simp only [Act.put, List.setIfInBounds_toArray, List.set_cons_zero, List.set_cons_succ]
        refine wpAnyH_take (i := 11) (v := ?vb12) (by simp only [List.getElem?_toArray, List.getElem?_cons_zero, List.getElem?_cons_succ]; rfl) (by kernel_rfl) (by kernel_rfl) (by kernel_rfl) (fun _ _ _ h => h) (Or.inl ⟨by rfl, ?hyb12⟩) (by assumption) ?restb12
        case hyb12 => (intro w hSw; (try dsimp only at hSw); go_simp; try with_reducible rfl)
        try simp only [Act.put, List.setIfInBounds_toArray, List.set_cons_zero, List.set_cons_succ]
        refine wpAnyH_take (i := 12) (v := undef) (by simp only [List.getElem?_toArray, List.getElem?_cons_zero, List.getElem?_cons_succ]; rfl) (by kernel_rfl) (by kernel_rfl) (by kernel_rfl) (fun _ _ _ h => h) (Or.inr ⟨by rfl, rfl⟩) (by assumption) ?restb13
        try simp only [Act.put, List.setIfInBounds_toArray, List.set_cons_zero, List.set_cons_succ]
        refine wpAnyH_take (i := 13) (v := undef) (by simp only [List.getElem?_toArray, List.getElem?_cons_zero, List.getElem?_cons_succ]; rfl) (by kernel_rfl) (by kernel_rfl) (by kernel_rfl) (fun _ _ _ h => h) (Or.inr ⟨by rfl, rfl⟩) (by assumption) ?restb14
        try simp only [Act.put, List.setIfInBounds_toArray, List.set_cons_zero, List.set_cons_succ]
        refine wpAnyH_take (i := 14) (v := undef) (by simp only [List.getElem?_toArray, List.getElem?_cons_zero, List.getElem?_cons_succ]; rfl) (by kernel_rfl) (by kernel_rfl) (by kernel_rfl) (fun _ _ _ h => h) (Or.inr ⟨by rfl, rfl⟩) (by assumption) ?restb15
        try simp only [Act.put, List.setIfInBounds_toArray, List.set_cons_zero, List.set_cons_succ]
        refine wpAnyH_take (i := 15) (v := undef) (by simp only [List.getElem?_toArray, List.getElem?_cons_zero, List.getElem?_cons_succ]; rfl) (by kernel_rfl) (by kernel_rfl) (by kernel_rfl) (fun _ _ _ h => h) (Or.inr ⟨by rfl, rfl⟩) (by assumption) ?restb16
        try simp only [Act.put, List.setIfInBounds_toArray, List.set_cons_zero, List.set_cons_succ]
        refine wpAnyH_take (i := 16) (v := undef) (by simp only [List.getElem?_toArray, List.getElem?_cons_zero, List.getElem?_cons_succ]; rfl) (by kernel_rfl) (by kernel_rfl) (by kernel_rfl) (fun _ _ _ h => h) (Or.inr ⟨by rfl, rfl⟩) (by assumption) ?restb17
        try simp only [Act.put, List.setIfInBounds_toArray, List.set_cons_zero, List.set_cons_succ]
        refine wpAnyH_take (i := 17) (v := undef) (by simp only [List.getElem?_toArray, List.getElem?_cons_zero, List.getElem?_cons_succ]; rfl) (by kernel_rfl) (by kernel_rfl) (by kernel_rfl) (fun _ _ _ h => h) (Or.inr ⟨by rfl, rfl⟩) (by assumption) ?restb18
        try simp only [Act.put, List.setIfInBounds_toArray, List.set_cons_zero, List.set_cons_succ]
        refine wpAnyH_take (i := 18) (v := undef) (by simp only [List.getElem?_toArray, List.getElem?_cons_zero, List.getElem?_cons_succ]; rfl) (by kernel_rfl) (by kernel_rfl) (by kernel_rfl) (fun _ _ _ h => h) (Or.inr ⟨by rfl, rfl⟩) (by assumption) ?restb19
        try simp only [Act.put, List.setIfInBounds_toArray, List.set_cons_zero, List.set_cons_succ]
        refine wpAnyH_take (i := 19) (v := undef) (by simp only [List.getElem?_toArray, List.getElem?_cons_zero, List.getElem?_cons_succ]; rfl) (by kernel_rfl) (by kernel_rfl) (by kernel_rfl) (fun _ _ _ h => h) (Or.inr ⟨by rfl, rfl⟩) (by assumption) ?restb20
        try simp only [Act.put, List.setIfInBounds_toArray, List.set_cons_zero, List.set_cons_succ]
        refine wpAnyH_take (i := 20) (v := ?vb21) (by simp only [List.getElem?_toArray, List.getElem?_cons_zero, List.getElem?_cons_succ]; rfl) (by kernel_rfl) (by kernel_rfl) (by kernel_rfl) (fun _ _ _ h => h) (Or.inl ⟨by rfl, ?hyb21⟩) (by assumption) ?restb21
        case hyb21 => (intro w hSw; (try dsimp only at hSw); go_simp; try with_reducible rfl)
        try simp only [Act.put, List.setIfInBounds_toArray, List.set_cons_zero, List.set_cons_succ]
        refine wpAnyH_take (i := 21) (v := ?vb22) (by simp only [List.getElem?_toArray, List.getElem?_cons_zero, List.getElem?_cons_succ]; rfl) (by kernel_rfl) (by kernel_rfl) (by kernel_rfl) (fun _ _ _ h => h) (Or.inl ⟨by rfl, ?hyb22⟩) (by assumption) ?restb22
        case hyb22 => (intro w hSw; (try dsimp only at hSw); go_simp; try with_reducible rfl)
        try simp only [Act.put, List.setIfInBounds_toArray, List.set_cons_zero, List.set_cons_succ]
        refine wpAnyH_done (by kernel_rfl) ?_ _
        refine NoPanic.normal ?_
        go_wp2
        go_ret
        exact ⟨rfl, hB9.trans (m10.mono hB9.size)⟩
      case true =>
        cases B2
        case false =>
          have hrf : r = false := by rw [hrr]; rfl
          subst hrf
          clear hrr
          go_wp2_with fail
          refine wp_region_noPanic ?_
          refine wp_region_held_drew (S := fun W => W.cell? ⟨w.heap.size, 0, none⟩ = some (.slice p.a1 a.nodes.length p.c1) ∧ W.cell? ⟨w.heap.size, 1, none⟩ = some (.slice p.a2 a.types.length p.c2) ∧ W.cell? ⟨w.heap.size, 2, none⟩ = some (.slice p.a3 a.aliases.length p.c3) ∧ W.cell? ⟨w.heap.size + 1, 0, none⟩ = some (.slice q.a1 b.nodes.length q.c1) ∧ W.cell? ⟨w.heap.size + 1, 1, none⟩ = some (.slice q.a2 b.types.length q.c2) ∧ W.cell? ⟨w.heap.size + 1, 2, none⟩ = some (.slice q.a3 b.aliases.length q.c3) ∧ Below w9.heap.size w9 W) (by kernel_rfl) (HS.out _ (Below.drew hB0)) (fun hHeld => ?_)
          refine wpAnyH_take (i := 0) (v := ?vc1) (by simp only [List.getElem?_toArray, List.getElem?_cons_zero]; rfl) (by kernel_rfl) (by kernel_rfl) (by kernel_rfl) (fun _ _ _ h => h) (Or.inl ⟨by rfl, ?hyc1⟩) (by assumption) ?restc1
          case hyc1 => (intro w hSw; (try dsimp only at hSw); go_simp; try with_reducible rfl)
          try simp only [Act.put, List.setIfInBounds_toArray, List.set_cons_zero, List.set_cons_succ]
          refine wpAnyH_take (i := 1) (v := ?vc2) (by simp only [List.getElem?_toArray, List.getElem?_cons_zero, List.getElem?_cons_succ]; rfl) (by kernel_rfl) (by kernel_rfl) (by kernel_rfl) (fun _ _ _ h => h) (Or.inl ⟨by rfl, ?hyc2⟩) (by assumption) ?restc2
          case hyc2 => (intro w hSw; (try dsimp only at hSw); go_simp; try with_reducible rfl)
          try simp only [Act.put, List.setIfInBounds_toArray, List.set_cons_zero, List.set_cons_succ]
          refine wpAnyH_take (i := 2) (v := ?vc3) (by simp only [List.getElem?_toArray, List.getElem?_cons_zero, List.getElem?_cons_succ]; rfl) (by kernel_rfl) (by kernel_rfl) (by kernel_rfl) (fun _ _ _ h => h) (Or.inl ⟨by rfl, ?hyc3⟩) (by assumption) ?restc3
          case hyc3 => (intro w hSw; (try dsimp only at hSw); go_simp; try with_reducible rfl)
          try simp only [Act.put, List.setIfInBounds_toArray, List.set_cons_zero, List.set_cons_succ]
          refine wpAnyH_ready (rs := [3]) (by kernel_rfl) (by simp) ?_
          refine AllReadyH.cons (by simp only [List.getElem?_toArray, List.getElem?_cons_zero, List.getElem?_cons_succ]; rfl) (fun K hK => ?stepc4) AllReadyH.nil
          go_simp; go_at_call 35; (with_reducible refine (KE1.out _ (Below.drew hB0)).mono ?_); rintro e w10 ⟨rfl, _, m10⟩
          go_wp2_with fail
          refine hK.out _ _ ?hSc4 (fun hHeld => ?_)
          case hSc4 => exact HS.out _ m10
          clear hK K
          try simp only [Act.put, List.setIfInBounds_toArray, List.set_cons_zero, List.set_cons_succ]
          refine wpAnyH_take (i := 4) (v := ?vc5) (by simp only [List.getElem?_toArray, List.getElem?_cons_zero, List.getElem?_cons_succ]; rfl) (by kernel_rfl) (by kernel_rfl) (by kernel_rfl) (fun _ _ _ h => h) (Or.inl ⟨by rfl, ?hyc5⟩) (by assumption) ?restc5
          case hyc5 => (intro w hSw; (try dsimp only at hSw); go_simp; try with_reducible rfl)
          try simp only [Act.put, List.setIfInBounds_toArray, List.set_cons_zero, List.set_cons_succ]
          refine wpAnyH_take (i := 5) (v := ?vc6) (by simp only [List.getElem?_toArray, List.getElem?_cons_zero, List.getElem?_cons_succ]; rfl) (by kernel_rfl) (by kernel_rfl) (by kernel_rfl) (fun _ _ _ h => h) (Or.inl ⟨by rfl, ?hyc6⟩) (by assumption) ?restc6
          case hyc6 => (intro w hSw; (try dsimp only at hSw); go_simp; try with_reducible rfl)
          try simp only [Act.put, List.setIfInBounds_toArray, List.set_cons_zero, List.set_cons_succ]
          refine wpAnyH_take (i := 6) (v := ?vc7) (by simp only [List.getElem?_toArray, List.getElem?_cons_zero, List.getElem?_cons_succ]; rfl) (by kernel_rfl) (by kernel_rfl) (by kernel_rfl) (fun _ _ _ h => h) (Or.inl ⟨by rfl, ?hyc7⟩) (by assumption) ?restc7
          case hyc7 => (intro w hSw; (try dsimp only at hSw); go_simp; try with_reducible rfl)
          try simp only [Act.put, List.setIfInBounds_toArray, List.set_cons_zero, List.set_cons_succ]
          refine wpAnyH_take (i := 7) (v := ?vc8) (by simp only [List.getElem?_toArray, List.getElem?_cons_zero, List.getElem?_cons_succ]; rfl) (by kernel_rfl) (by kernel_rfl) (by kernel_rfl) (fun _ _ _ h => h) (Or.inl ⟨by rfl, ?hyc8⟩) (by assumption) ?restc8
          case hyc8 => (intro w hSw; (try dsimp only at hSw); go_simp; try with_reducible rfl)
          try simp only [Act.put, List.setIfInBounds_toArray, List.set_cons_zero, List.set_cons_succ]
          refine wpAnyH_take (i := 8) (v := ?vc9) (by simp only [List.getElem?_toArray, List.getElem?_cons_zero, List.getElem?_cons_succ]; rfl) (by kernel_rfl) (by kernel_rfl) (by kernel_rfl) (fun _ _ _ h => h) (Or.inl ⟨by rfl, ?hyc9⟩) (by assumption) ?restc9
          case hyc9 => (intro w hSw; (try dsimp only at hSw); go_simp; try with_reducible rfl)
          try simp only [Act.put, List.setIfInBounds_toArray, List.set_cons_zero, List.set_cons_succ]
          refine wpAnyH_ready (rs := [9]) (by kernel_rfl) (by simp) ?_
          refine AllReadyH.cons (by simp only [List.getElem?_toArray, List.getElem?_cons_zero, List.getElem?_cons_succ]; rfl) (fun K hK => ?stepc10) AllReadyH.nil
          go_simp; go_at_call 38; (with_reducible refine (KEA.out _ m10).mono ?_); rintro e w11 ⟨rfl, _, b11⟩
          go_wp2_with fail
          refine hK.out _ _ ?hSc10 (fun hHeld => ?_)
          case hSc10 => exact HS.out _ b11
          clear hK K
          try simp only [Act.put, List.setIfInBounds_toArray, List.set_cons_zero, List.set_cons_succ]
          refine wpAnyH_take (i := 10) (v := ?vc11) (by simp only [List.getElem?_toArray, List.getElem?_cons_zero, List.getElem?_cons_succ]; rfl) (by kernel_rfl) (by kernel_rfl) (by kernel_rfl) (fun _ _ _ h => h) (Or.inl ⟨by rfl, ?hyc11⟩) (by assumption) ?restc11
          case hyc11 => (intro w hSw; (try dsimp only at hSw); go_simp; try with_reducible rfl)
          try simp only [Act.put, List.setIfInBounds_toArray, List.set_cons_zero, List.set_cons_succ]
          refine wpAnyH_take (i := 11) (v := ?vc12) (by simp only [List.getElem?_toArray, List.getElem?_cons_zero, List.getElem?_cons_succ]; rfl) (by kernel_rfl) (by kernel_rfl) (by kernel_rfl) (fun _ _ _ h => h) (Or.inl ⟨by rfl, ?hyc12⟩) (by assumption) ?restc12
          case hyc12 => (intro w hSw; (try dsimp only at hSw); go_simp; try with_reducible rfl)
          try simp only [Act.put, List.setIfInBounds_toArray, List.set_cons_zero, List.set_cons_succ]
          refine wpAnyH_take (i := 12) (v := undef) (by simp only [List.getElem?_toArray, List.getElem?_cons_zero, List.getElem?_cons_succ]; rfl) (by kernel_rfl) (by kernel_rfl) (by kernel_rfl) (fun _ _ _ h => h) (Or.inr ⟨by rfl, rfl⟩) (by assumption) ?restc13
          try simp only [Act.put, List.setIfInBounds_toArray, List.set_cons_zero, List.set_cons_succ]
          refine wpAnyH_take (i := 13) (v := undef) (by simp only [List.getElem?_toArray, List.getElem?_cons_zero, List.getElem?_cons_succ]; rfl) (by kernel_rfl) (by kernel_rfl) (by kernel_rfl) (fun _ _ _ h => h) (Or.inr ⟨by rfl, rfl⟩) (by assumption) ?restc14
          try simp only [Act.put, List.setIfInBounds_toArray, List.set_cons_zero, List.set_cons_succ]
          refine wpAnyH_take (i := 14) (v := undef) (by simp only [List.getElem?_toArray, List.getElem?_cons_zero, List.getElem?_cons_succ]; rfl) (by kernel_rfl) (by kernel_rfl) (by kernel_rfl) (fun _ _ _ h => h) (Or.inr ⟨by rfl, rfl⟩) (by assumption) ?restc15
          try simp only [Act.put, List.setIfInBounds_toArray, List.set_cons_zero, List.set_cons_succ]
          refine wpAnyH_take (i := 15) (v := undef) (by simp only [List.getElem?_toArray, List.getElem?_cons_zero, List.getElem?_cons_succ]; rfl) (by kernel_rfl) (by kernel_rfl) (by kernel_rfl) (fun _ _ _ h => h) (Or.inr ⟨by rfl, rfl⟩) (by assumption) ?restc16
          try simp only [Act.put, List.setIfInBounds_toArray, List.set_cons_zero, List.set_cons_succ]
          refine wpAnyH_take (i := 16) (v := undef) (by simp only [List.getElem?_toArray, List.getElem?_cons_zero, List.getElem?_cons_succ]; rfl) (by kernel_rfl) (by kernel_rfl) (by kernel_rfl) (fun _ _ _ h => h) (Or.inr ⟨by rfl, rfl⟩) (by assumption) ?restc17
          try simp only [Act.put, List.setIfInBounds_toArray, List.set_cons_zero, List.set_cons_succ]
          refine wpAnyH_take (i := 17) (v := undef) (by simp only [List.getElem?_toArray, List.getElem?_cons_zero, List.getElem?_cons_succ]; rfl) (by kernel_rfl) (by kernel_rfl) (by kernel_rfl) (fun _ _ _ h => h) (Or.inr ⟨by rfl, rfl⟩) (by assumption) ?restc18
          try simp only [Act.put, List.setIfInBounds_toArray, List.set_cons_zero, List.set_cons_succ]
          refine wpAnyH_take (i := 18) (v := undef) (by simp only [List.getElem?_toArray, List.getElem?_cons_zero, List.getElem?_cons_succ]; rfl) (by kernel_rfl) (by kernel_rfl) (by kernel_rfl) (fun _ _ _ h => h) (Or.inr ⟨by rfl, rfl⟩) (by assumption) ?restc19
          try simp only [Act.put, List.setIfInBounds_toArray, List.set_cons_zero, List.set_cons_succ]
          refine wpAnyH_take (i := 19) (v := undef) (by simp only [List.getElem?_toArray, List.getElem?_cons_zero, List.getElem?_cons_succ]; rfl) (by kernel_rfl) (by kernel_rfl) (by kernel_rfl) (fun _ _ _ h => h) (Or.inr ⟨by rfl, rfl⟩) (by assumption) ?restc20
          try simp only [Act.put, List.setIfInBounds_toArray, List.set_cons_zero, List.set_cons_succ]
          refine wpAnyH_take (i := 20) (v := ?vc21) (by simp only [List.getElem?_toArray, List.getElem?_cons_zero, List.getElem?_cons_succ]; rfl) (by kernel_rfl) (by kernel_rfl) (by kernel_rfl) (fun _ _ _ h => h) (Or.inl ⟨by rfl, ?hyc21⟩) (by assumption) ?restc21
          case hyc21 => (intro w hSw; (try dsimp only at hSw); go_simp; try with_reducible rfl)
          try simp only [Act.put, List.setIfInBounds_toArray, List.set_cons_zero, List.set_cons_succ]
          refine wpAnyH_take (i := 21) (v := ?vc22) (by simp only [List.getElem?_toArray, List.getElem?_cons_zero, List.getElem?_cons_succ]; rfl) (by kernel_rfl) (by kernel_rfl) (by kernel_rfl) (fun _ _ _ h => h) (Or.inl ⟨by rfl, ?hyc22⟩) (by assumption) ?restc22
          case hyc22 => (intro w hSw; (try dsimp only at hSw); go_simp; try with_reducible rfl)
          try simp only [Act.put, List.setIfInBounds_toArray, List.set_cons_zero, List.set_cons_succ]
          refine wpAnyH_done (by kernel_rfl) ?_ _
          refine NoPanic.normal ?_
          go_wp2
          go_ret
          exact ⟨rfl, hB9.trans (b11.mono hB9.size)⟩
        case true =>
          have hrf : r = B3 := by rw [hrr]; cases B3 <;> rfl
          subst hrf
          clear hrr
          go_wp2_with fail
          refine wp_region_noPanic ?_
          refine wp_region_held_drew (S := fun W => W.cell? ⟨w.heap.size, 0, none⟩ = some (.slice p.a1 a.nodes.length p.c1) ∧ W.cell? ⟨w.heap.size, 1, none⟩ = some (.slice p.a2 a.types.length p.c2) ∧ W.cell? ⟨w.heap.size, 2, none⟩ = some (.slice p.a3 a.aliases.length p.c3) ∧ W.cell? ⟨w.heap.size + 1, 0, none⟩ = some (.slice q.a1 b.nodes.length q.c1) ∧ W.cell? ⟨w.heap.size + 1, 1, none⟩ = some (.slice q.a2 b.types.length q.c2) ∧ W.cell? ⟨w.heap.size + 1, 2, none⟩ = some (.slice q.a3 b.aliases.length q.c3) ∧ Below w9.heap.size w9 W) (by kernel_rfl) (HS.out _ (Below.drew hB0)) (fun hHeld => ?_)
          refine wpAnyH_take (i := 0) (v := ?vd1) (by simp only [List.getElem?_toArray, List.getElem?_cons_zero]; rfl) (by kernel_rfl) (by kernel_rfl) (by kernel_rfl) (fun _ _ _ h => h) (Or.inl ⟨by rfl, ?hyd1⟩) (by assumption) ?restd1
          case hyd1 => (intro w hSw; (try dsimp only at hSw); go_simp; try with_reducible rfl)
          try simp only [Act.put, List.setIfInBounds_toArray, List.set_cons_zero, List.set_cons_succ]
          refine wpAnyH_take (i := 1) (v := ?vd2) (by simp only [List.getElem?_toArray, List.getElem?_cons_zero, List.getElem?_cons_succ]; rfl) (by kernel_rfl) (by kernel_rfl) (by kernel_rfl) (fun _ _ _ h => h) (Or.inl ⟨by rfl, ?hyd2⟩) (by assumption) ?restd2
          case hyd2 => (intro w hSw; (try dsimp only at hSw); go_simp; try with_reducible rfl)
          try simp only [Act.put, List.setIfInBounds_toArray, List.set_cons_zero, List.set_cons_succ]
          refine wpAnyH_take (i := 2) (v := ?vd3) (by simp only [List.getElem?_toArray, List.getElem?_cons_zero, List.getElem?_cons_succ]; rfl) (by kernel_rfl) (by kernel_rfl) (by kernel_rfl) (fun _ _ _ h => h) (Or.inl ⟨by rfl, ?hyd3⟩) (by assumption) ?restd3
          case hyd3 => (intro w hSw; (try dsimp only at hSw); go_simp; try with_reducible rfl)
          try simp only [Act.put, List.setIfInBounds_toArray, List.set_cons_zero, List.set_cons_succ]
          refine wpAnyH_ready (rs := [3]) (by kernel_rfl) (by simp) ?_
          refine AllReadyH.cons (by simp only [List.getElem?_toArray, List.getElem?_cons_zero, List.getElem?_cons_succ]; rfl) (fun K hK => ?stepd4) AllReadyH.nil
          go_simp; go_at_call 35; (with_reducible refine (KE1.out _ (Below.drew hB0)).mono ?_); rintro e w10 ⟨rfl, _, m10⟩
          go_wp2_with fail
          refine hK.out _ _ ?hSd4 (fun hHeld => ?_)
          case hSd4 => exact HS.out _ m10
          clear hK K
          try simp only [Act.put, List.setIfInBounds_toArray, List.set_cons_zero, List.set_cons_succ]
          refine wpAnyH_take (i := 4) (v := ?vd5) (by simp only [List.getElem?_toArray, List.getElem?_cons_zero, List.getElem?_cons_succ]; rfl) (by kernel_rfl) (by kernel_rfl) (by kernel_rfl) (fun _ _ _ h => h) (Or.inl ⟨by rfl, ?hyd5⟩) (by assumption) ?restd5
          case hyd5 => (intro w hSw; (try dsimp only at hSw); go_simp; try with_reducible rfl)
          try simp only [Act.put, List.setIfInBounds_toArray, List.set_cons_zero, List.set_cons_succ]
          refine wpAnyH_take (i := 5) (v := ?vd6) (by simp only [List.getElem?_toArray, List.getElem?_cons_zero, List.getElem?_cons_succ]; rfl) (by kernel_rfl) (by kernel_rfl) (by kernel_rfl) (fun _ _ _ h => h) (Or.inl ⟨by rfl, ?hyd6⟩) (by assumption) ?restd6
          case hyd6 => (intro w hSw; (try dsimp only at hSw); go_simp; try with_reducible rfl)
          try simp only [Act.put, List.setIfInBounds_toArray, List.set_cons_zero, List.set_cons_succ]
          refine wpAnyH_take (i := 6) (v := ?vd7) (by simp only [List.getElem?_toArray, List.getElem?_cons_zero, List.getElem?_cons_succ]; rfl) (by kernel_rfl) (by kernel_rfl) (by kernel_rfl) (fun _ _ _ h => h) (Or.inl ⟨by rfl, ?hyd7⟩) (by assumption) ?restd7
          case hyd7 => (intro w hSw; (try dsimp only at hSw); go_simp; try with_reducible rfl)
          try simp only [Act.put, List.setIfInBounds_toArray, List.set_cons_zero, List.set_cons_succ]
          refine wpAnyH_take (i := 7) (v := ?vd8) (by simp only [List.getElem?_toArray, List.getElem?_cons_zero, List.getElem?_cons_succ]; rfl) (by kernel_rfl) (by kernel_rfl) (by kernel_rfl) (fun _ _ _ h => h) (Or.inl ⟨by rfl, ?hyd8⟩) (by assumption) ?restd8
          case hyd8 => (intro w hSw; (try dsimp only at hSw); go_simp; try with_reducible rfl)
          try simp only [Act.put, List.setIfInBounds_toArray, List.set_cons_zero, List.set_cons_succ]
          refine wpAnyH_take (i := 8) (v := ?vd9) (by simp only [List.getElem?_toArray, List.getElem?_cons_zero, List.getElem?_cons_succ]; rfl) (by kernel_rfl) (by kernel_rfl) (by kernel_rfl) (fun _ _ _ h => h) (Or.inl ⟨by rfl, ?hyd9⟩) (by assumption) ?restd9
          case hyd9 => (intro w hSw; (try dsimp only at hSw); go_simp; try with_reducible rfl)
          try simp only [Act.put, List.setIfInBounds_toArray, List.set_cons_zero, List.set_cons_succ]
          refine wpAnyH_ready (rs := [9]) (by kernel_rfl) (by simp) ?_
          refine AllReadyH.cons (by simp only [List.getElem?_toArray, List.getElem?_cons_zero, List.getElem?_cons_succ]; rfl) (fun K hK => ?stepd10) AllReadyH.nil
          go_simp; go_at_call 38; (with_reducible refine (KEA.out _ m10).mono ?_); rintro e w11 ⟨rfl, _, b11⟩
          go_wp2_with fail
          refine hK.out _ _ ?hSd10 (fun hHeld => ?_)
          case hSd10 => exact HS.out _ b11
          clear hK K
          try simp only [Act.put, List.setIfInBounds_toArray, List.set_cons_zero, List.set_cons_succ]
          refine wpAnyH_take (i := 10) (v := ?vd11) (by simp only [List.getElem?_toArray, List.getElem?_cons_zero, List.getElem?_cons_succ]; rfl) (by kernel_rfl) (by kernel_rfl) (by kernel_rfl) (fun _ _ _ h => h) (Or.inl ⟨by rfl, ?hyd11⟩) (by assumption) ?restd11
          case hyd11 => (intro w hSw; (try dsimp only at hSw); go_simp; try with_reducible rfl)
          try simp only [Act.put, List.setIfInBounds_toArray, List.set_cons_zero, List.set_cons_succ]
          refine wpAnyH_take (i := 11) (v := ?vd12) (by simp only [List.getElem?_toArray, List.getElem?_cons_zero, List.getElem?_cons_succ]; rfl) (by kernel_rfl) (by kernel_rfl) (by kernel_rfl) (fun _ _ _ h => h) (Or.inl ⟨by rfl, ?hyd12⟩) (by assumption) ?restd12
          case hyd12 => (intro w hSw; (try dsimp only at hSw); go_simp; try with_reducible rfl)
          try simp only [Act.put, List.setIfInBounds_toArray, List.set_cons_zero, List.set_cons_succ]
          refine wpAnyH_take (i := 12) (v := ?vd13) (by simp only [List.getElem?_toArray, List.getElem?_cons_zero, List.getElem?_cons_succ]; rfl) (by kernel_rfl) (by kernel_rfl) (by kernel_rfl) (fun _ _ _ h => h) (Or.inl ⟨by rfl, ?hyd13⟩) (by assumption) ?restd13
          case hyd13 => (intro w hSw; (try dsimp only at hSw); go_simp; try with_reducible rfl)
          try simp only [Act.put, List.setIfInBounds_toArray, List.set_cons_zero, List.set_cons_succ]
          refine wpAnyH_take (i := 13) (v := ?vd14) (by simp only [List.getElem?_toArray, List.getElem?_cons_zero, List.getElem?_cons_succ]; rfl) (by kernel_rfl) (by kernel_rfl) (by kernel_rfl) (fun _ _ _ h => h) (Or.inl ⟨by rfl, ?hyd14⟩) (by assumption) ?restd14
          case hyd14 => (intro w hSw; (try dsimp only at hSw); go_simp; try with_reducible rfl)
          try simp only [Act.put, List.setIfInBounds_toArray, List.set_cons_zero, List.set_cons_succ]
          refine wpAnyH_take (i := 15) (v := ?vd15) (by simp only [List.getElem?_toArray, List.getElem?_cons_zero, List.getElem?_cons_succ]; rfl) (by kernel_rfl) (by kernel_rfl) (by kernel_rfl) (fun _ _ _ h => h) (Or.inl ⟨by rfl, ?hyd15⟩) (by assumption) ?restd15
          case hyd15 => (intro w hSw; (try dsimp only at hSw); go_simp; try with_reducible rfl)
          try simp only [Act.put, List.setIfInBounds_toArray, List.set_cons_zero, List.set_cons_succ]
          refine wpAnyH_take (i := 16) (v := ?vd16) (by simp only [List.getElem?_toArray, List.getElem?_cons_zero, List.getElem?_cons_succ]; rfl) (by kernel_rfl) (by kernel_rfl) (by kernel_rfl) (fun _ _ _ h => h) (Or.inl ⟨by rfl, ?hyd16⟩) (by assumption) ?restd16
          case hyd16 => (intro w hSw; (try dsimp only at hSw); go_simp; try with_reducible rfl)
          try simp only [Act.put, List.setIfInBounds_toArray, List.set_cons_zero, List.set_cons_succ]
          refine wpAnyH_take (i := 18) (v := ?vd17) (by simp only [List.getElem?_toArray, List.getElem?_cons_zero, List.getElem?_cons_succ]; rfl) (by kernel_rfl) (by kernel_rfl) (by kernel_rfl) (fun _ _ _ h => h) (Or.inl ⟨by rfl, ?hyd17⟩) (by assumption) ?restd17
          case hyd17 => (intro w hSw; (try dsimp only at hSw); go_simp; try with_reducible rfl)
          try simp only [Act.put, List.setIfInBounds_toArray, List.set_cons_zero, List.set_cons_succ]
          refine wpAnyH_ready (rs := [14]) (by kernel_rfl) (by simp) ?_
          refine AllReadyH.cons (by simp only [List.getElem?_toArray, List.getElem?_cons_zero, List.getElem?_cons_succ]; rfl) (fun K hK => ?stepd18) AllReadyH.nil
          go_simp; go_at_call 40; (with_reducible refine (KTa.out _ b11).mono ?_); rintro e w12 ⟨A12, c12, rfl, h12, _, b12⟩; have H12 := Lib.hid h12; clear h12
          go_wp2_with fail
          refine hK.out _ _ ?hSd18 (fun hHeld => ?_)
          case hSd18 => exact HS.out _ b12
          clear hK K
          try simp only [Act.put, List.setIfInBounds_toArray, List.set_cons_zero, List.set_cons_succ]
          refine wpAnyH_ready (rs := [17]) (by kernel_rfl) (by simp) ?_
          refine AllReadyH.cons (by simp only [List.getElem?_toArray, List.getElem?_cons_zero, List.getElem?_cons_succ]; rfl) (fun K hK => ?stepd19) AllReadyH.nil
          go_simp; go_at_call 40; (with_reducible refine (KTb.out _ b12).mono ?_); rintro e w13 ⟨A13, c13, rfl, h13, m13, b13⟩; have H13 := Lib.hid h13; clear h13; have H12' := Lib.hid ((H12.out.keep (keep_below m13)).imp (lt_mono m13.size)); clear H12
          go_wp2_with fail
          refine hK.out _ _ ?hSd19 (fun hHeld => ?_)
          case hSd19 => exact HS.out _ b13
          clear hK K
          try simp only [Act.put, List.setIfInBounds_toArray, List.set_cons_zero, List.set_cons_succ]
          refine wpAnyH_ready (rs := [19]) (by kernel_rfl) (by simp) ?_
          refine AllReadyH.cons (by simp only [List.getElem?_toArray, List.getElem?_cons_zero, List.getElem?_cons_succ]; rfl) (fun K hK => ?stepd20) AllReadyH.nil
          go_simp; go_at_call 35; (with_reducible refine (KE3.out A12 A13 c12 c13 _ H12'.out H13.out b13).mono ?_); rintro e w14 ⟨rfl, _, b14⟩
          go_wp2_with fail
          refine hK.out _ _ ?hSd20 (fun hHeld => ?_)
          case hSd20 => exact HS.out _ b14
          clear hK K
          try simp only [Act.put, List.setIfInBounds_toArray, List.set_cons_zero, List.set_cons_succ]
          refine wpAnyH_take (i := 20) (v := ?vd21) (by simp only [List.getElem?_toArray, List.getElem?_cons_zero, List.getElem?_cons_succ]; rfl) (by kernel_rfl) (by kernel_rfl) (by kernel_rfl) (fun _ _ _ h => h) (Or.inl ⟨by rfl, ?hyd21⟩) (by assumption) ?restd21
          case hyd21 => (intro w hSw; (try dsimp only at hSw); go_simp; try with_reducible rfl)
          try simp only [Act.put, List.setIfInBounds_toArray, List.set_cons_zero, List.set_cons_succ]
          refine wpAnyH_take (i := 21) (v := ?vd22) (by simp only [List.getElem?_toArray, List.getElem?_cons_zero, List.getElem?_cons_succ]; rfl) (by kernel_rfl) (by kernel_rfl) (by kernel_rfl) (fun _ _ _ h => h) (Or.inl ⟨by rfl, ?hyd22⟩) (by assumption) ?restd22
          case hyd22 => (intro w hSw; (try dsimp only at hSw); go_simp; try with_reducible rfl)
          try simp only [Act.put, List.setIfInBounds_toArray, List.set_cons_zero, List.set_cons_succ]
          refine wpAnyH_done (by kernel_rfl) ?_ _
          refine NoPanic.normal ?_
          go_wp2
          go_ret
          exact ⟨rfl, hB9.trans (b14.mono hB9.size)⟩
end Go.Proofs.YtinajnkjfhbmkaaGreatDoor
