/- The depth of a type and of a term, and the walk of a term, as the document has them: recursion, at every whole tree of parts of a bounded size. -/
import Derived.Test.YtinajnkjfhbmkaaGreatDoorRefR
import Derived.Test.YtinajnkjfhbmkaaGreatDoorMayMath
import Derived.Test.YtinajnkjfhbmkaaGreatDoorSameC
namespace Go.Proofs.YtinajnkjfhbmkaaGreatDoor
open Go Go.Proofs Go.RowKit

set_option maxRecDepth 100000 in
set_option maxHeartbeats 4000000 in
theorem rdepthY_any (t : TreeD) (p : Ptr6) (hW : Whole t) (hF : TreeFew t) : ∀ (b i : Nat), i < b → i < t.types.length → ∀ (w : World), TreeAt (Lt w.heap.size) w t p →
    Calls Tryz.prog 44 #[treeV t p, .int .i64 (i : Int)] w fun e w' => e = .returned (.int .i64 (dTy t i : Nat)) ∧ Below w.heap.size w w'
  | 0, _, h, _, _, _ => by omega
  | b + 1, i, hb, hi, w, hT => by
    have IH := Lib.hid (fun (j : Nat) (hj : j < b) (hjn : j < t.types.length) (W : World) (hTW : TreeAt (Lt W.heap.size) W t p) => rdepthY_any t p hW hF b j hj hjn W hTW)
    obtain ⟨a1, c1, a2, c2, a3, c3⟩ := p
    obtain ⟨tN, tT, tA⟩ := id hT
    dsimp only at tN tT tA
    have f5 : t.nodes.length ≤ 1000 := hF.2.2.2.2.1
    have f6 : t.types.length ≤ 1000 := hF.2.2.2.2.2
    have f4 : t.aliases.length ≤ 1000 := hF.2.2.2.1
    obtain ⟨W1, hW1⟩ : ∃ W1, w.alloc (.cells #[.slice a1 t.nodes.length c1, .slice a2 t.types.length c2, .slice a3 t.aliases.length c3] 26) = W1 := ⟨_, rfl⟩
    have hB1 : Below w.heap.size w W1 := by rw [← hW1]; exact (Below.refl _ _).alloc (Nat.le_refl _) _
    have hX : Blk W1 w.heap.size 26 #[.slice a1 t.nodes.length c1, .slice a2 t.types.length c2, .slice a3 t.aliases.length c3] := by rw [← hW1]; exact Blk.new w 26 _
    have hzX : w.heap.size < W1.heap.size := hX.lt
    have x0 := hX.cell 0
    have x1 := hX.cell 1
    have x2 := hX.cell 2
    simp only [List.getElem?_toArray, List.getElem?_cons_zero, List.getElem?_cons_succ] at x0 x1 x2
    have HX := Lib.hid hX
    have HT := Lib.hid hT
    obtain ⟨bb, off, rfl, hbb, hcell⟩ := tT (by omega)
    have hx := List.getElem?_eq_getElem hi
    obtain ⟨⟨qa3, qc3, qa4, qc4⟩, hq, hcq⟩ := hcell i _ hx
    have hfew := hF.2.1 _ (List.getElem_mem hi)
    have hD := dTy_eq hW.rng i hi
    have hrg := (hW.rng.typ i _ hx).1
    have hle : ∀ z ∈ t.types[i].kids, dTy t z.toNat ≤ 2000 := fun z hz => by
      have := hrg z hz
      have := dTy_le hW.rng z.toNat (by omega)
      omega
    obtain ⟨x, hx'⟩ : ∃ x, t.types[i] = x := ⟨_, rfl⟩
    rw [hx'] at hq hcq hfew hD hrg hle
    have e4 : W1.cell? ⟨bb, off + i * 6 + 4, none⟩ = some (.slice qa4 x.kids.length qc4) := (hB1.cell (p := ⟨bb, off + i * 6 + 4, none⟩) hbb).trans (hcq 4 _ rfl)
    have HK : Hid (SlAt (Lt w.heap.size) w qa4 x.kids.length (x.kids.map iv)) := Lib.hid hq.2
    have hkl := hfew.2.2.2
    obtain ⟨DD, hDD⟩ : ∃ DD, dTy t i = DD := ⟨_, rfl⟩
    rw [hDD] at hD ⊢
    have HD := Lib.hid hD
    have HRG := Lib.hid hrg
    have HLE := Lib.hid hle
    have i1 : (0 : Int) ≤ (i : Int) := by omega
    have i2 : (i : Int) < (t.types.length : Int) := by omega
    clear hX hT hcell hcq hq hx hx' hfew hD hDD hrg hle tN tA
    go_enter Tryz.func44, Tryz.ntmps44
    go_wp2
    clear hW1
    go_loopw [5, 7, 15] (fun v _ k0 wr => ∃ (k : Nat), k ≤ x.kids.length ∧ k0 = .int .i64 k ∧ v = .int .i64 (most ((x.kids.take k).map fun z => dTy t z.toNat) : Nat) ∧ Below W1.heap.size W1 wr) (fun _ _ k0 _ => x.kids.length - (intOf k0).toNat)
    case atStart => exact ⟨0, Nat.zero_le _, rfl, rfl, Below.refl _ _⟩
    case round =>
      obtain ⟨k, hk, rfl, rfl, hB⟩ := hrel
      have hBw : Below w.heap.size w wr := hB1.trans (hB.mono (by omega))
      have hmb : most ((x.kids.take k).map fun z => dTy t z.toNat) ≤ 2000 := most_of_le fun a ha => by
        obtain ⟨z, hz, rfl⟩ := List.mem_map.1 ha
        exact HLE.out z (List.mem_of_mem_take hz)
      by_cases hlt : k < x.kids.length
      · obtain ⟨b2, off2, rfl, f1⟩ := rd_at (RdAt.of_sl (HK.out.keep (keep_below hBw))) hlt
        have hz1 := HRG.out _ (List.getElem_mem hlt)
        have hz2 := HLE.out _ (List.getElem_mem hlt)
        have hT2 := most_take (fun z => dTy t z.toNat) x.kids k hlt
        obtain ⟨z, hz⟩ : ∃ z, x.kids[k] = z := ⟨_, rfl⟩
        rw [hz] at f1 hz1 hz2 hT2
        obtain ⟨j, hj⟩ : ∃ j : Nat, z = (j : Int) := ⟨z.toNat, by omega⟩
        subst hj
        rw [Int.toNat_natCast] at hz2 hT2
        have hXr := HX.out.below hB hzX
        have y0 := hXr.cell 0
        have y1 := hXr.cell 1
        have y2 := hXr.cell 2
        simp only [List.getElem?_toArray, List.getElem?_cons_zero, List.getElem?_cons_succ] at y0 y1 y2
        have kI := IH.out j (by omega) (by omega) wr (tree_up HT.out hBw)
        unfold treeV at kI
        dsimp only at kI
        obtain ⟨Dj, hDj⟩ : ∃ Dj, dTy t j = Dj := ⟨_, rfl⟩
        obtain ⟨M, hM⟩ : ∃ M, most ((x.kids.take k).map fun z => dTy t z.toNat) = M := ⟨_, rfl⟩
        rw [hDj] at kI hz2 hT2
        rw [hM] at hT2 hmb ⊢
        have HT2 := Lib.hid hT2
        clear hDj hM hT2 hz hXr hz1 hi
        go_wp2_with (go_at_call 44; (with_reducible refine kI.mono ?_); rintro e w4 ⟨rfl, hb4⟩; have hB4 := hB.trans (hb4.mono (by have := hB.size; omega)); clear hb4)
        go_roundw
        case rel => exact ⟨k + 1, by omega, by go_num, by rw [HT2.out]; go_num, hB4⟩
        case measure => simp [intOf]; omega
      · obtain rfl : k = x.kids.length := by omega
        rw [List.take_length] at hmb ⊢
        obtain ⟨M, hM⟩ : ∃ M, most (x.kids.map fun z => dTy t z.toNat) = M := ⟨_, rfl⟩
        have hfin : DD = 1 + M := by rw [HD.out, hM]
        rw [hM] at hmb ⊢
        have HFI := Lib.hid hfin
        clear hM hi hfin
        go_wp2
        go_ret
        exact ⟨ret_int (by have := HFI.out; omega), hBw⟩

set_option maxRecDepth 100000 in
set_option maxHeartbeats 4000000 in
theorem rwalk_any (t : TreeD) (p : Ptr6) (hW : Whole t) (hF : TreeFew t) : ∀ (b i : Nat), i < b → i < t.nodes.length → ∀ (w : World), TreeAt (Lt w.heap.size) w t p →
    Calls Tryz.prog 13 #[treeV t p, .int .i64 (i : Int)] w (CopyPost w (walk (tmK t) i).length ((nz (walk (tmK t) i)).map iv))
  | 0, _, h, _, _, _ => by omega
  | b + 1, i, hb, hi, w, hT => by
    obtain ⟨i0, hi0, hz0, hz1, hz2⟩ := info_parts info3
    have IH := Lib.hid (fun (j : Nat) (hj : j < b) (hjn : j < t.nodes.length) (W : World) (hTW : TreeAt (Lt W.heap.size) W t p) => rwalk_any t p hW hF b j hj hjn W hTW)
    obtain ⟨a1, c1, a2, c2, a3, c3⟩ := p
    obtain ⟨tN, tT, tA⟩ := id hT
    dsimp only at tN tT tA
    have f5 : t.nodes.length ≤ 1000 := hF.2.2.2.2.1
    have f6 : t.types.length ≤ 1000 := hF.2.2.2.2.2
    have f4 : t.aliases.length ≤ 1000 := hF.2.2.2.1
    obtain ⟨W1, hW1⟩ : ∃ W1, w.alloc (.cells #[.slice a1 t.nodes.length c1, .slice a2 t.types.length c2, .slice a3 t.aliases.length c3] 26) = W1 := ⟨_, rfl⟩
    have hB1 : Below w.heap.size w W1 := by rw [← hW1]; exact (Below.refl _ _).alloc (Nat.le_refl _) _
    have hX : Blk W1 w.heap.size 26 #[.slice a1 t.nodes.length c1, .slice a2 t.types.length c2, .slice a3 t.aliases.length c3] := by rw [← hW1]; exact Blk.new w 26 _
    have hzX : w.heap.size < W1.heap.size := hX.lt
    have x0 := hX.cell 0
    have x1 := hX.cell 1
    have x2 := hX.cell 2
    simp only [List.getElem?_toArray, List.getElem?_cons_zero, List.getElem?_cons_succ] at x0 x1 x2
    have HX := Lib.hid hX
    have HT := Lib.hid hT
    obtain ⟨bb, off, rfl, hbb, hcell⟩ := tN (by omega)
    have hx := List.getElem?_eq_getElem hi
    obtain ⟨⟨qa5, qc5, qa6, qc6, qa7, qc7⟩, hq, hcq⟩ := hcell i _ hx
    have hfew := hF.1 _ (List.getElem_mem hi)
    obtain ⟨n1, n2⟩ := nz_tmK hW.rng hx
    have hWe := walk_eq hW.rng.dnN hi
    have hwl := hW.walkN hi
    have hdn := hW.rng.dnN i hi
    obtain ⟨x, hx'⟩ : ∃ x, t.nodes[i] = x := ⟨_, rfl⟩
    rw [hx'] at hq hcq hfew n1 n2
    obtain ⟨ks, hks⟩ : ∃ ks, tmK t i = ks := ⟨_, rfl⟩
    rw [hks] at n1 n2 hWe hdn
    have e6 : W1.cell? ⟨bb, off + i * 8 + 6, none⟩ = some (.slice qa6 ks.length qc6) := by
      rw [n2]
      exact (hB1.cell (p := ⟨bb, off + i * 8 + 6, none⟩) hbb).trans (hcq 6 _ rfl)
    have HK : Hid (SlAt (Lt w.heap.size) w qa6 ks.length ((nz ks).map iv)) := Lib.hid (by rw [n1, n2]; exact hq.2.1)
    have hkl : ks.length ≤ 1000 := by rw [n2]; exact hfew.2.2.2.1
    have hsubl : ∀ k, k ≤ ks.length → (i :: (ks.take k).flatMap (walk (tmK t))).length ≤ 1000 := fun k hk => by
      have h1 : (i :: ks.flatMap (walk (tmK t))).length ≤ 1000 := by rw [← hWe]; omega
      have h2 : ks.flatMap (walk (tmK t)) = (ks.take k).flatMap (walk (tmK t)) ++ (ks.drop k).flatMap (walk (tmK t)) := by rw [← List.flatMap_append, List.take_append_drop]
      rw [h2] at h1
      simp only [List.length_cons, List.length_append] at h1 ⊢
      omega
    obtain ⟨WL, hWL⟩ : ∃ WL, walk (tmK t) i = WL := ⟨_, rfl⟩
    rw [hWL] at hWe ⊢
    have HWE := Lib.hid hWe
    have HDN := Lib.hid hdn
    have HSL := Lib.hid hsubl
    have i1 : (0 : Int) ≤ (i : Int) := by omega
    have i2 : (i : Int) < (t.nodes.length : Int) := by omega
    have hXa := hX.alloc (.cells #[.int .i64 (i : Int)] 3)
    have z0 := hXa.cell 0
    have z1 := hXa.cell 1
    have z2 := hXa.cell 2
    simp only [List.getElem?_toArray, List.getElem?_cons_zero, List.getElem?_cons_succ] at z0 z1 z2
    have e6' : (W1.alloc (.cells #[.int .i64 (i : Int)] 3)).cell? ⟨bb, off + i * 8 + 6, none⟩ = some (.slice qa6 ks.length qc6) := by
      have hlt : bb < W1.heap.size := Nat.lt_of_lt_of_le hbb hB1.size
      rw [World.cell?_alloc_lt _ _ _ hlt]
      exact e6
    have hO0 : (W1.alloc (.cells #[.int .i64 (i : Int)] 3)).ownsRow W1.heap.size 3 1 (.slice (some ⟨W1.heap.size, 0, none⟩) 1 1) 1 [.int .i64 (i : Int)] :=
      ⟨rfl, .inr ⟨W1.heap.size, 1, #[.int .i64 (i : Int)], rfl, Nat.le_refl _, Blk.new W1 3 _, Nat.le_refl _, by decide, rfl, rfl⟩⟩
    have HO0 := Lib.hid hO0
    have hBa : Below W1.heap.size W1 (W1.alloc (.cells #[.int .i64 (i : Int)] 3)) := (Below.refl _ _).alloc (Nat.le_refl _) _
    clear hX hXa hO0 hT hcell hcq hq hx hx' hfew hWe hdn hsubl n1 n2 hks hWL tT tA hwl
    go_enter Tryz.func13, Tryz.ntmps13
    go_wp2
    clear hW1
    go_loopw [5, 7, 17] (fun v _ k0 wr => ∃ (k : Nat), k ≤ ks.length ∧ k0 = .int .i64 k ∧ Hid (wr.ownsRow W1.heap.size 3 1 v (i :: (ks.take k).flatMap (walk (tmK t))).length ((nz (i :: (ks.take k).flatMap (walk (tmK t)))).map iv)) ∧ Below W1.heap.size W1 wr) (fun _ _ k0 _ => ks.length - (intOf k0).toNat)
    case atStart => exact ⟨0, Nat.zero_le _, rfl, Lib.hid (by simpa using HO0.out), hBa⟩
    case round =>
      obtain ⟨k, hk, rfl, HO, hB⟩ := hrel
      have hBw : Below w.heap.size w wr := hB1.trans (hB.mono (by omega))
      by_cases hlt : k < ks.length
      · obtain ⟨b2, off2, rfl, f1⟩ := nz_at (RdAt.of_sl (HK.out.keep (keep_below hBw))) hlt
        have hjl := HDN.out _ (List.getElem_mem hlt)
        have hll := HSL.out k hk
        have hll2 := HSL.out (k + 1) hlt
        have hfl : (ks.take (k + 1)).flatMap (walk (tmK t)) = (ks.take k).flatMap (walk (tmK t)) ++ walk (tmK t) ks[k] := by rw [List.take_succ_eq_append_getElem hlt, List.flatMap_append]; simp
        obtain ⟨j, hj⟩ : ∃ j, ks[k] = j := ⟨_, rfl⟩
        rw [hj] at f1 hjl hfl
        have kI := IH.out j (by omega) (by omega) wr (tree_up HT.out hBw)
        unfold treeV at kI
        dsimp only at kI
        obtain ⟨Lj, hLj⟩ : ∃ Lj, walk (tmK t) j = Lj := ⟨_, rfl⟩
        rw [hLj] at kI hfl
        obtain ⟨R, hR⟩ : ∃ R, (ks.take k).flatMap (walk (tmK t)) = R := ⟨_, rfl⟩
        rw [hfl, hR] at hll2
        rw [hR] at HO hll hfl
        have hlj : (i :: R).length + Lj.length ≤ 1000 := by simp only [List.length_cons, List.length_append] at hll2 ⊢; omega
        obtain ⟨A5, d5, hv5⟩ := own_form HO.out
        subst hv5
        obtain ⟨m, hm⟩ : ∃ m, (i :: R).length = m := ⟨_, rfl⟩
        rw [hm] at HO hlj hll ⊢
        have HM := Lib.hid hm
        have HFL := Lib.hid hfl
        have hXr := HX.out.below hB hzX
        have y0 := hXr.cell 0
        have y1 := hXr.cell 1
        have y2 := hXr.cell 2
        simp only [List.getElem?_toArray, List.getElem?_cons_zero, List.getElem?_cons_succ] at y0 y1 y2
        clear hLj hR hfl hj hXr hjl hi hll2 z0 z1 z2 e6 e6' hm
        go_wp2_with fail
        refine kI.mono ?_
        rintro e w4 ⟨A7, c7, rfl, hS7, hb7⟩
        have hz7 := hb7.size
        have hzr := hB.size
        have hB4 := hB.trans (hb7.mono hzr)
        have HO4 := Lib.hid (own_below HO.out hb7)
        have HRD := Lib.hid (RdAt.of_sl hS7)
        have hnl : (nz Lj).length = Lj.length := List.length_map _
        clear kI hS7 hb7
        go_wp2_with (at_builtin; refine wpList_app _ rfl _ _ 32 rfl W1.heap.size 3 i0 (.int .i64 0) 1 8 Tryz.underlying32 hi0 hz0 hz1 hz2 rfl (by decide) (.slice A5 m d5) m ((nz (i :: R)).map iv) (by rfl) HO4.out A7 Lj.length c7 ((nz Lj).map iv) (by rfl) (by simp) HRD.out (by intro u hu; obtain ⟨s, _, rfl⟩ := List.mem_map.1 hu; rfl) (by unfold maxLen; omega) (by omega) (by omega) ?_; intro v' w5 hown5 hgrow5 hloc5; have hB5 := own_grown hB4 HO4.out hgrow5 (Nat.le_refl _) (by omega); clear hgrow5 hloc5)
        have HO5 : Hid (w5.ownsRow W1.heap.size 3 1 v' (i :: (ks.take (k + 1)).flatMap (walk (tmK t))).length ((nz (i :: (ks.take (k + 1)).flatMap (walk (tmK t)))).map iv)) := Lib.hid (by
          rw [HFL.out]
          refine ownIs hown5 ?_ ?_
          · have := HM.out
            simp only [List.length_cons, List.length_append] at this ⊢
            omega
          · simp)
        clear hown5
        go_roundw
        case rel => exact ⟨k + 1, by omega, by go_num, HO5, hB5⟩
        case measure => simp [intOf]; omega
      · obtain rfl : k = ks.length := by omega
        rw [List.take_length, ← HWE.out] at HO
        obtain ⟨A6, d6, hv6, _, hs6⟩ := SlAt.of_own HO.out
        subst hv6
        have HS6 := Lib.hid hs6
        clear hs6 HO z0 z1 z2 e6 e6' hi
        go_wp2
        go_ret
        exact ⟨A6, d6, rfl, HS6.out.imp fun b hb => ⟨by have := hb.1; omega, hb.2⟩, hBw⟩

set_option maxRecDepth 100000 in
set_option maxHeartbeats 4000000 in
theorem rdepthT_any (t : TreeD) (p : Ptr6) (hW : Whole t) (hF : TreeFew t) : ∀ (b i : Nat), i < b → i < t.nodes.length → ∀ (w : World), TreeAt (Lt w.heap.size) w t p →
    Calls Tryz.prog 43 #[treeV t p, .int .i64 (i : Int)] w fun e w' => e = .returned (.int .i64 (dTm t i : Nat)) ∧ Below w.heap.size w w'
  | 0, _, h, _, _, _ => by omega
  | b + 1, i, hb, hi, w, hT => by
    have IH := Lib.hid (fun (j : Nat) (hj : j < b) (hjn : j < t.nodes.length) (W : World) (hTW : TreeAt (Lt W.heap.size) W t p) => rdepthT_any t p hW hF b j hj hjn W hTW)
    have IHY := Lib.hid (fun (j : Nat) (hjn : j < t.types.length) (W : World) (hTW : TreeAt (Lt W.heap.size) W t p) => rdepthY_any t p hW hF (j + 1) j (by omega) hjn W hTW)
    obtain ⟨a1, c1, a2, c2, a3, c3⟩ := p
    obtain ⟨tN, tT, tA⟩ := id hT
    dsimp only at tN tT tA
    have f5 : t.nodes.length ≤ 1000 := hF.2.2.2.2.1
    have f6 : t.types.length ≤ 1000 := hF.2.2.2.2.2
    have f4 : t.aliases.length ≤ 1000 := hF.2.2.2.1
    obtain ⟨W1, hW1⟩ : ∃ W1, w.alloc (.cells #[.slice a1 t.nodes.length c1, .slice a2 t.types.length c2, .slice a3 t.aliases.length c3] 26) = W1 := ⟨_, rfl⟩
    have hB1 : Below w.heap.size w W1 := by rw [← hW1]; exact (Below.refl _ _).alloc (Nat.le_refl _) _
    have hX : Blk W1 w.heap.size 26 #[.slice a1 t.nodes.length c1, .slice a2 t.types.length c2, .slice a3 t.aliases.length c3] := by rw [← hW1]; exact Blk.new w 26 _
    have hzX : w.heap.size < W1.heap.size := hX.lt
    have x0 := hX.cell 0
    have x1 := hX.cell 1
    have x2 := hX.cell 2
    simp only [List.getElem?_toArray, List.getElem?_cons_zero, List.getElem?_cons_succ] at x0 x1 x2
    have HX := Lib.hid hX
    have HT := Lib.hid hT
    obtain ⟨bb, off, rfl, hbb, hcell⟩ := tN (by omega)
    have hx := List.getElem?_eq_getElem hi
    obtain ⟨⟨qa5, qc5, qa6, qc6, qa7, qc7⟩, hq, hcq⟩ := hcell i _ hx
    have hfew := hF.1 _ (List.getElem_mem hi)
    have hD := dTm_eq hW.rng i hi
    have hrg := (hW.rng.nod i _ hx).1
    have hrgY := (hW.rng.nod i _ hx).2.1
    have hle : ∀ z ∈ t.nodes[i].kids, dTm t z.toNat ≤ 2000 := fun z hz => by
      have := hrg z hz
      have := dTm_le hW.rng z.toNat (by omega)
      omega
    have hleY : ∀ z ∈ t.nodes[i].types, dTy t z.toNat ≤ 2000 := fun z hz => by
      have := hrgY z hz
      have := dTy_le hW.rng z.toNat (by omega)
      omega
    obtain ⟨x, hx'⟩ : ∃ x, t.nodes[i] = x := ⟨_, rfl⟩
    rw [hx'] at hq hcq hfew hD hrg hle hrgY hleY
    have e6 : W1.cell? ⟨bb, off + i * 8 + 6, none⟩ = some (.slice qa6 x.kids.length qc6) := (hB1.cell (p := ⟨bb, off + i * 8 + 6, none⟩) hbb).trans (hcq 6 _ rfl)
    have E7 : Hid (∀ V, Below W1.heap.size W1 V → V.cell? ⟨bb, off + i * 8 + 7, none⟩ = some (.slice qa7 x.types.length qc7)) := Lib.hid fun V hV => (hV.cell (p := ⟨bb, off + i * 8 + 7, none⟩) (Nat.lt_of_lt_of_le hbb hB1.size)).trans ((hB1.cell (p := ⟨bb, off + i * 8 + 7, none⟩) hbb).trans (hcq 7 _ rfl))
    have HK : Hid (SlAt (Lt w.heap.size) w qa6 x.kids.length (x.kids.map iv)) := Lib.hid hq.2.1
    have HKY : Hid (SlAt (Lt w.heap.size) w qa7 x.types.length (x.types.map iv)) := Lib.hid hq.2.2
    have hkl := hfew.2.2.2.1
    have hyl := hfew.2.2.2.2
    obtain ⟨DD, hDD⟩ : ∃ DD, dTm t i = DD := ⟨_, rfl⟩
    rw [hDD] at hD ⊢
    have HD := Lib.hid hD
    have HRG := Lib.hid hrg
    have HLE := Lib.hid hle
    have HRGY := Lib.hid hrgY
    have HLEY := Lib.hid hleY
    have i1 : (0 : Int) ≤ (i : Int) := by omega
    have i2 : (i : Int) < (t.nodes.length : Int) := by omega
    clear hX hT hcell hcq hq hx hx' hfew hD hDD hrg hle hrgY hleY tT tA
    go_enter Tryz.func43, Tryz.ntmps43
    go_wp2
    clear hW1
    go_loopw [5, 7, 17] (fun v _ k0 wr => ∃ (k : Nat), k ≤ x.kids.length ∧ k0 = .int .i64 k ∧ v = .int .i64 (most ((x.kids.take k).map fun z => dTm t z.toNat) : Nat) ∧ Below W1.heap.size W1 wr) (fun _ _ k0 _ => x.kids.length - (intOf k0).toNat)
    case atStart => exact ⟨0, Nat.zero_le _, rfl, rfl, Below.refl _ _⟩
    case round =>
      obtain ⟨k, hk, rfl, rfl, hB⟩ := hrel
      have hBw : Below w.heap.size w wr := hB1.trans (hB.mono (by omega))
      have hmb : most ((x.kids.take k).map fun z => dTm t z.toNat) ≤ 2000 := most_of_le fun a ha => by
        obtain ⟨z, hz, rfl⟩ := List.mem_map.1 ha
        exact HLE.out z (List.mem_of_mem_take hz)
      by_cases hlt : k < x.kids.length
      · obtain ⟨b2, off2, rfl, f1⟩ := rd_at (RdAt.of_sl (HK.out.keep (keep_below hBw))) hlt
        have hz1 := HRG.out _ (List.getElem_mem hlt)
        have hz2 := HLE.out _ (List.getElem_mem hlt)
        have hT2 := most_take (fun z => dTm t z.toNat) x.kids k hlt
        obtain ⟨z, hz⟩ : ∃ z, x.kids[k] = z := ⟨_, rfl⟩
        rw [hz] at f1 hz1 hz2 hT2
        obtain ⟨j, hj⟩ : ∃ j : Nat, z = (j : Int) := ⟨z.toNat, by omega⟩
        subst hj
        rw [Int.toNat_natCast] at hz2 hT2
        have hXr := HX.out.below hB hzX
        have y0 := hXr.cell 0
        have y1 := hXr.cell 1
        have y2 := hXr.cell 2
        simp only [List.getElem?_toArray, List.getElem?_cons_zero, List.getElem?_cons_succ] at y0 y1 y2
        have kI := IH.out j (by omega) (by omega) wr (tree_up HT.out hBw)
        unfold treeV at kI
        dsimp only at kI
        obtain ⟨Dj, hDj⟩ : ∃ Dj, dTm t j = Dj := ⟨_, rfl⟩
        obtain ⟨M, hM⟩ : ∃ M, most ((x.kids.take k).map fun z => dTm t z.toNat) = M := ⟨_, rfl⟩
        rw [hDj] at kI hz2 hT2
        rw [hM] at hT2 hmb ⊢
        have HT2 := Lib.hid hT2
        clear hDj hM hT2 hz hXr hz1 hi
        go_wp2_with (go_at_call 43; (with_reducible refine kI.mono ?_); rintro e w4 ⟨rfl, hb4⟩; have hB4 := hB.trans (hb4.mono (by have := hB.size; omega)); clear hb4)
        go_roundw
        case rel => exact ⟨k + 1, by omega, by go_num, by rw [HT2.out]; go_num, hB4⟩
        case measure => simp [intOf]; omega
      · obtain rfl : k = x.kids.length := by omega
        rw [List.take_length] at hmb ⊢
        obtain ⟨M1, hM1⟩ : ∃ M1, most (x.kids.map fun z => dTm t z.toNat) = M1 := ⟨_, rfl⟩
        have hfin : DD = 1 + max M1 (most (x.types.map fun z => dTy t z.toNat)) := by rw [HD.out, hM1]
        rw [hM1] at hmb ⊢
        have HFI := Lib.hid hfin
        have hXr := HX.out.below hB hzX
        have y0 := hXr.cell 0
        have y1 := hXr.cell 1
        have y2 := hXr.cell 2
        simp only [List.getElem?_toArray, List.getElem?_cons_zero, List.getElem?_cons_succ] at y0 y1 y2
        have e7 := E7.out wr hB
        have hB0 := hB
        have hM1b := hmb
        obtain ⟨wq, hwq⟩ : ∃ wq, wq = wr := ⟨wr, rfl⟩
        rw [← hwq] at hB0
        clear hM1 hi hfin hXr e6 x0 x1 x2 hmb hB hlt
        go_wp2
        go_loopw [5, 9, 34] (fun v _ k0 wr => ∃ (k : Nat), k ≤ x.types.length ∧ k0 = .int .i64 k ∧ v = .int .i64 (max M1 (most ((x.types.take k).map fun z => dTy t z.toNat)) : Nat) ∧ Below W1.heap.size W1 wr) (fun _ _ k0 _ => x.types.length - (intOf k0).toNat)
        case atStart => exact ⟨0, Nat.zero_le _, rfl, by simp [most], hwq ▸ hB0⟩
        case round =>
          clear y0 y1 y2 e7 hwq
          obtain ⟨k, hk, rfl, rfl, hB⟩ := hrel
          have hBw : Below w.heap.size w wr := hB1.trans (hB.mono (by omega))
          have hmb : most ((x.types.take k).map fun z => dTy t z.toNat) ≤ 2000 := most_of_le fun a ha => by
            obtain ⟨z, hz, rfl⟩ := List.mem_map.1 ha
            exact HLEY.out z (List.mem_of_mem_take hz)
          by_cases hlt : k < x.types.length
          · obtain ⟨b2, off2, rfl, f1⟩ := rd_at (RdAt.of_sl (HKY.out.keep (keep_below hBw))) hlt
            have hz1 := HRGY.out _ (List.getElem_mem hlt)
            have hz2 := HLEY.out _ (List.getElem_mem hlt)
            have hT2 := most_take (fun z => dTy t z.toNat) x.types k hlt
            obtain ⟨z, hz⟩ : ∃ z, x.types[k] = z := ⟨_, rfl⟩
            rw [hz] at f1 hz1 hz2 hT2
            obtain ⟨j, hj⟩ : ∃ j : Nat, z = (j : Int) := ⟨z.toNat, by omega⟩
            subst hj
            rw [Int.toNat_natCast] at hz2 hT2
            have hXr := HX.out.below hB hzX
            have y0 := hXr.cell 0
            have y1 := hXr.cell 1
            have y2 := hXr.cell 2
            simp only [List.getElem?_toArray, List.getElem?_cons_zero, List.getElem?_cons_succ] at y0 y1 y2
            have kI := IHY.out j (by omega) wr (tree_up HT.out hBw)
            unfold treeV at kI
            dsimp only at kI
            obtain ⟨Dj, hDj⟩ : ∃ Dj, dTy t j = Dj := ⟨_, rfl⟩
            obtain ⟨M, hM⟩ : ∃ M, most ((x.types.take k).map fun z => dTy t z.toNat) = M := ⟨_, rfl⟩
            rw [hDj] at kI hz2 hT2
            rw [hM] at hT2 hmb ⊢
            obtain ⟨MM, hMM⟩ : ∃ MM, max M1 M = MM := ⟨_, rfl⟩
            have hMMb : MM ≤ 2000 := by omega
            rw [hMM]
            have HMM := Lib.hid hMM
            clear hMM
            have HT2 := Lib.hid hT2
            clear hDj hM hT2 hz hXr hz1
            go_wp2_with (go_at_call 44; (with_reducible refine kI.mono ?_); rintro e w4 ⟨rfl, hb4⟩; have hB4 := hB.trans (hb4.mono (by have := hB.size; omega)); clear hb4)
            go_roundw
            case rel => exact ⟨k + 1, by omega, by go_num, by rw [HT2.out, ← Nat.max_assoc, HMM.out]; go_num, hB4⟩
            case measure => simp [intOf]; omega
          · obtain rfl : k = x.types.length := by omega
            rw [List.take_length] at hmb ⊢
            obtain ⟨MM, hMM⟩ : ∃ MM, max M1 (most (x.types.map fun z => dTy t z.toNat)) = MM := ⟨_, rfl⟩
            have hMMb : MM ≤ 2000 := by omega
            have hfin : DD = 1 + MM := by rw [HFI.out, hMM]
            rw [hMM]
            have HFN := Lib.hid hfin
            clear hMM hfin
            go_wp2
            go_ret
            exact ⟨ret_int (by have := HFN.out; omega), hBw⟩

set_option maxRecDepth 100000 in
set_option maxHeartbeats 4000000 in
theorem rdepth_any (t : TreeD) (p : Ptr6) (hW : Whole t) (hF : TreeFew t) (w : World) (hT : TreeAt (Lt w.heap.size) w t p) :
    Calls Tryz.prog 14 #[treeV t p] w fun e w' => e = .returned (.int .i64 (depthP t : Nat)) ∧ Below w.heap.size w w' := by
  have h1 := hW.rng.one
  have IHY := Lib.hid (fun (j : Nat) (hjn : j < t.types.length) (W : World) (hTW : TreeAt (Lt W.heap.size) W t p) => rdepthY_any t p hW hF (j + 1) j (by omega) hjn W hTW)
  have IHT := Lib.hid (fun (W : World) (hTW : TreeAt (Lt W.heap.size) W t p) => rdepthT_any t p hW hF t.nodes.length (t.nodes.length - 1) (by omega) (by omega) W hTW)
  obtain ⟨a1, c1, a2, c2, a3, c3⟩ := p
  obtain ⟨tN, tT, tA⟩ := id hT
  dsimp only at tN tT tA
  have f5 : t.nodes.length ≤ 1000 := hF.2.2.2.2.1
  have f6 : t.types.length ≤ 1000 := hF.2.2.2.2.2
  have f4 : t.aliases.length ≤ 1000 := hF.2.2.2.1
  obtain ⟨W1, hW1⟩ : ∃ W1, w.alloc (.cells #[.slice a1 t.nodes.length c1, .slice a2 t.types.length c2, .slice a3 t.aliases.length c3] 26) = W1 := ⟨_, rfl⟩
  have hB1 : Below w.heap.size w W1 := by rw [← hW1]; exact (Below.refl _ _).alloc (Nat.le_refl _) _
  have hX : Blk W1 w.heap.size 26 #[.slice a1 t.nodes.length c1, .slice a2 t.types.length c2, .slice a3 t.aliases.length c3] := by rw [← hW1]; exact Blk.new w 26 _
  have hzX : w.heap.size < W1.heap.size := hX.lt
  have x0 := hX.cell 0
  have x1 := hX.cell 1
  have x2 := hX.cell 2
  simp only [List.getElem?_toArray, List.getElem?_cons_zero, List.getElem?_cons_succ] at x0 x1 x2
  have HX := Lib.hid hX
  have HT := Lib.hid hT
  have hle : dTm t (t.nodes.length - 1) ≤ 2000 := by have := dTm_le hW.rng (t.nodes.length - 1) (by omega); omega
  have hrgA : ∀ a ∈ t.aliases, 0 ≤ a.type ∧ a.type < (t.types.length : Int) := fun a ha => ⟨(hW.rng.ali a ha).1, (hW.rng.ali a ha).2.1⟩
  have hleA : ∀ a ∈ t.aliases, dTy t a.type.toNat ≤ 2000 := fun a ha => by
    have := hrgA a ha
    have := dTy_le hW.rng a.type.toNat (by omega)
    omega
  have kT := IHT.out W1 (tree_up HT.out hB1)
  unfold treeV at kT
  dsimp only at kT
  obtain ⟨M1, hM1⟩ : ∃ M1, dTm t (t.nodes.length - 1) = M1 := ⟨_, rfl⟩
  have HP : Hid (depthP t = max M1 (most (t.aliases.map fun a => dTy t a.type.toNat))) := Lib.hid (by rw [← hM1]; rfl)
  obtain ⟨DD, hDD⟩ : ∃ DD, depthP t = DD := ⟨_, rfl⟩
  rw [hDD] at HP ⊢
  rw [hM1] at hle kT
  have hsub : IntKind.i64.wrap ((t.nodes.length : Int) - 1) = ((t.nodes.length - 1 : Nat) : Int) := by
    rw [IntWalk.i64_in _ (by omega)]; omega
  have HRG := Lib.hid hrgA
  have HLE := Lib.hid hleA
  clear hX hT hM1 hDD hrgA hleA tN tT
  go_enter Tryz.func14, Tryz.ntmps14
  go_wp2_with fail
  refine kT.mono ?_
  rintro e w2 ⟨rfl, hb2⟩
  have hBw2 : Below w.heap.size w w2 := hB1.trans (hb2.mono (by omega))
  have hX2 := HX.out.below hb2 hzX
  have hz2 := hBw2.size
  have hzX2 := hX2.lt
  have HX2 := Lib.hid hX2
  clear kT x0 x1 x2 hW1 hb2
  have y0 := hX2.cell 0
  have y1 := hX2.cell 1
  have y2 := hX2.cell 2
  simp only [List.getElem?_toArray, List.getElem?_cons_zero, List.getElem?_cons_succ] at y0 y1 y2
  clear hX2
  go_wp2
  go_loopw [3, 5, 15] (fun v _ k0 wr => ∃ (k : Nat), k ≤ t.aliases.length ∧ k0 = .int .i64 k ∧ v = .int .i64 (max M1 (most ((t.aliases.take k).map fun a => dTy t a.type.toNat)) : Nat) ∧ Below w2.heap.size w2 wr) (fun _ _ k0 _ => t.aliases.length - (intOf k0).toNat)
  case atStart => exact ⟨0, Nat.zero_le _, rfl, by simp [most], Below.refl _ _⟩
  case round =>
    clear y0 y1 y2
    obtain ⟨k, hk, rfl, rfl, hB⟩ := hrel
    have hzr := hB.size
    have hBw : Below w.heap.size w wr := hBw2.trans (hB.mono hz2)
    have hmb : most ((t.aliases.take k).map fun a => dTy t a.type.toNat) ≤ 2000 := most_of_le fun d hd => by
      obtain ⟨a, ha, rfl⟩ := List.mem_map.1 hd
      exact HLE.out a (List.mem_of_mem_take ha)
    by_cases hlt : k < t.aliases.length
    · obtain ⟨bb, off, rfl, hbb, hcell⟩ := tA (by omega)
      have hcq := hcell k _ (List.getElem?_eq_getElem hlt)
      have hz1 := HRG.out _ (List.getElem_mem hlt)
      have hz3 := HLE.out _ (List.getElem_mem hlt)
      have hT2 : most ((t.aliases.take (k + 1)).map fun a => dTy t a.type.toNat) = max (most ((t.aliases.take k).map fun a => dTy t a.type.toNat)) (dTy t t.aliases[k].type.toNat) := by
        rw [List.take_succ_eq_append_getElem hlt, List.map_append, most_append]
        simp [most]
      obtain ⟨x, hx⟩ : ∃ x, t.aliases[k] = x := ⟨_, rfl⟩
      rw [hx] at hcq hz1 hz3 hT2
      obtain ⟨nm, ty, po⟩ := x
      dsimp only at hz1 hz3 hT2
      have e0 := (hBw.cell (p := ⟨bb, off + k * 3, none⟩) hbb).trans (hcq 0 _ rfl)
      have e1 := (hBw.cell (p := ⟨bb, off + k * 3 + 1, none⟩) hbb).trans (hcq 1 _ rfl)
      have e2 := (hBw.cell (p := ⟨bb, off + k * 3 + 2, none⟩) hbb).trans (hcq 2 _ rfl)
      obtain ⟨j, hj⟩ : ∃ j : Nat, ty = (j : Int) := ⟨ty.toNat, by omega⟩
      subst hj
      rw [Int.toNat_natCast] at hz3 hT2
      obtain ⟨Wn, hWn⟩ : ∃ Wn, wr.alloc (.cells #[.string nm, .int .i64 (j : Int), .int .i64 po] 55) = Wn := ⟨_, rfl⟩
      have hBn : Below wr.heap.size wr Wn := by rw [← hWn]; exact (Below.refl _ _).alloc (Nat.le_refl _) _
      have hXn : Blk Wn wr.heap.size 55 #[.string nm, .int .i64 (j : Int), .int .i64 po] := by rw [← hWn]; exact Blk.new wr 55 _
      have p1 := hXn.cell 1
      simp only [List.getElem?_toArray, List.getElem?_cons_zero, List.getElem?_cons_succ] at p1
      have hB3 := hB.trans (hBn.mono hzr)
      have hXr := HX2.out.below hB3 hzX2
      have y0 := hXr.cell 0
      have y1 := hXr.cell 1
      have y2 := hXr.cell 2
      simp only [List.getElem?_toArray, List.getElem?_cons_zero, List.getElem?_cons_succ] at y0 y1 y2
      have kI := IHY.out j (by omega) Wn (tree_up HT.out (hBw.trans (hBn.mono (by omega))))
      unfold treeV at kI
      dsimp only at kI
      obtain ⟨Dj, hDj⟩ : ∃ Dj, dTy t j = Dj := ⟨_, rfl⟩
      obtain ⟨M, hM⟩ : ∃ M, most ((t.aliases.take k).map fun a => dTy t a.type.toNat) = M := ⟨_, rfl⟩
      rw [hDj] at kI hz3 hT2
      rw [hM] at hT2 hmb ⊢
      obtain ⟨MM, hMM⟩ : ∃ MM, max M1 M = MM := ⟨_, rfl⟩
      have hMMb : MM ≤ 2000 := by omega
      rw [hMM]
      have HMM := Lib.hid hMM
      have HT2 := Lib.hid hT2
      clear hMM hDj hM hT2 hx hXr hz1 hcell hcq hXn
      go_wp2_with (go_at_call 44; (with_reducible refine kI.mono ?_); rintro e w4 ⟨rfl, hb4⟩; have hB4 := hB3.trans (hb4.mono (by have := hB3.size; omega)); clear hb4)
      go_roundw
      case rel => exact ⟨k + 1, by omega, by go_num, by rw [HT2.out, ← Nat.max_assoc, HMM.out]; go_num, hB4⟩
      case measure => simp [intOf]; omega
    · obtain rfl : k = t.aliases.length := by omega
      rw [List.take_length] at hmb ⊢
      rw [← HP.out]
      go_wp2
      go_ret
      exact ⟨rfl, hBw⟩

end Go.Proofs.YtinajnkjfhbmkaaGreatDoor
