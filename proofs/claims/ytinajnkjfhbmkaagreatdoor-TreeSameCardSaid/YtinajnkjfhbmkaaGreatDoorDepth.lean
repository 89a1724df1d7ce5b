/- The depth of a tree: at every tree of parts of a bounded size. -/
import Derived.Test.YtinajnkjfhbmkaaGreatDoorMayMath
import Derived.Deep.RegionLaw
namespace Go.Proofs.YtinajnkjfhbmkaaGreatDoor
open Go Go.Proofs Go.RowKit

theorem nvs_zero (n : Nat) : ivs (List.replicate n 0) = nvs (List.replicate n 0) := by
  apply Array.ext'
  show ((List.replicate n (0 : Int)).map iv) = (List.replicate n (0 : Nat)).map fun n : Nat => iv (n : Int)
  rw [List.map_replicate, List.map_replicate]
  rfl
theorem made29_any (n : Nat) (hn : n ≤ 65536) (W : World) : (Instr.makeSlice 32 (.int .i64 (n : Int)) (.int .i64 (n : Int))).run Tryz.prog W = .ok (.slice (some ⟨W.heap.size, 0, none⟩) n n) (W.alloc (.cells (nvs (List.replicate n 0)) 3)) := by
  obtain ⟨i0, hi, hz0, hz1, hz2⟩ := info_parts info3
  have := run_make (P := Tryz.prog) W 32 3 i0 (.int .i64 0) Tryz.underlying32 hi hz0 .i64 .i64 (n : Int) (n : Int) (by omega) (by omega) (by rw [hz2]; omega) (by omega)
  rw [this, hz1]
  simp only [Int.toNat_natCast, Nat.mul_one]
  have e : (Value.int IntKind.i64 0).cells = #[.int .i64 0] := rfl
  rw [e, made_ivs, nvs_zero]

theorem nvs_set1 (ds : List Nat) (i M : Nat) : (nvs ds).setIfInBounds i (.int .i64 (1 + (M : Int))) = nvs (ds.set i (1 + M)) := by
  rw [← nvs_set]
  congr 3
/-- The first k are told. -/
def Told (f : Nat → Nat) (m k : Nat) (ds : List Nat) : Prop := ds.length = m ∧ ∀ j, j < k → ds.getD j 0 = f j
theorem Told.zero (f : Nat → Nat) (m : Nat) : Told f m 0 (List.replicate m 0) := ⟨by simp, fun j h => absurd h (by omega)⟩
theorem Told.step {f : Nat → Nat} {m k : Nat} {ds : List Nat} (h : Told f m k ds) (hk : k < m) {v : Nat} (hv : v = f k) : Told f m (k + 1) (ds.set k v) :=
  ⟨by simpa using h.1, fun j hj => by
    by_cases e : j = k
    · subst e
      have : j < ds.length := by rw [h.1]; exact hk
      simp [List.getD_eq_getElem?_getD, this, hv]
    · have := h.2 j (by omega)
      rw [← this]
      simp [List.getD_eq_getElem?_getD, Ne.symm e]⟩
theorem Told.most {f : Nat → Nat} {m k : Nat} {ds : List Nat} (h : Told f m k ds) {ks : List Int} (hk : ∀ x ∈ ks, 0 ≤ x ∧ x < (k : Int)) : most (ks.map fun x => ds.getD x.toNat 0) = most (ks.map fun x => f x.toNat) := by
  congr 1
  refine List.map_congr_left fun x hx => ?_
  have := hk x hx
  exact h.2 _ (by omega)

set_option maxRecDepth 100000 in
set_option maxHeartbeats 8000000 in
theorem depth_any (t : TreeD) (p : Ptr6) (w : World) (hE : Env w) (hT : TreeAt (Lt w.heap.size) w t p) (hF : TreeFew t) :
    Calls Tryz.prog 9 #[treeV t p] w fun e w' => e = .returned (.int .i64 (if checkF t then (depthP t : Nat) else 0)) ∧ Below w.heap.size w w' := by
  obtain ⟨a1, c1, a2, c2, a3, c3⟩ := p
  obtain ⟨W1, hW1⟩ : ∃ W1, w.alloc (.cells #[.slice a1 t.nodes.length c1, .slice a2 t.types.length c2, .slice a3 t.aliases.length c3] 26) = W1 := ⟨_, rfl⟩
  have hB1 : Below w.heap.size w W1 := by rw [← hW1]; exact (Below.refl _ _).alloc (Nat.le_refl _) _
  have hX : Blk W1 w.heap.size 26 #[.slice a1 t.nodes.length c1, .slice a2 t.types.length c2, .slice a3 t.aliases.length c3] := by rw [← hW1]; exact Blk.new w 26 _
  have kC := check_any t ⟨a1, c1, a2, c2, a3, c3⟩ W1 (hE.on hB1) ((hT.keep (keep_below hB1)).imp (lt_mono hB1.size)) hF
  have x0 := hX.cell 0
  have x1 := hX.cell 1
  have x2 := hX.cell 2
  simp only [List.getElem?_toArray, List.getElem?_cons_zero, List.getElem?_cons_succ] at x0 x1 x2
  have hzX := hX.lt
  have HX := Lib.hid hX
  clear hX
  cases hc : checkF t
  · rw [hc] at kC
    clear hc hT hF
    go_enter Tryz.func9, Tryz.ntmps9
    go_wp2_with (go_at_call 8; refine kC.mono ?_; rintro e w2 ⟨rfl, hb2⟩)
    go_ret
    exact ⟨rfl, hB1.trans (hb2.mono hB1.size)⟩
  · rw [hc] at kC
    have hR := Rng.of hc
    have hm1 := made29_any t.nodes.length (by have := hF.2.2.2.2.1; omega)
    have hm2 := made29_any t.types.length (by have := hF.2.2.2.2.2; omega)
    obtain ⟨D, hD⟩ : ∃ D : Nat, depthP t = D := ⟨_, rfl⟩
    rw [if_pos rfl, hD]
    have HD := Lib.hid hD
    have HR := Lib.hid hR
    have h1n := hR.one
    have hn1 := hF.2.2.2.2.1
    have hn2 := hF.2.2.2.2.2
    have hn3 := hF.2.2.2.1
    have hfa := hF.1
    have hfb := hF.2.1
    clear hc hD hR hF
    go_enter Tryz.func9, Tryz.ntmps9
    go_wp2_with fail
    refine kC.mono ?_
    rintro e w2 ⟨rfl, hb2⟩
    have hX2 := HX.out.below hb2 hzX
    have y0 := hX2.cell 0
    have y1 := hX2.cell 1
    have y2 := hX2.cell 2
    simp only [List.getElem?_toArray, List.getElem?_cons_zero, List.getElem?_cons_succ] at y0 y1 y2
    have hB2 : Below w.heap.size w w2 := hB1.trans (hb2.mono hB1.size)
    have hz2 := hb2.size
    have HX2 := Lib.hid hX2
    have hT2 : TreeAt (Lt w.heap.size) w2 t ⟨a1, c1, a2, c2, a3, c3⟩ := hT.keep (keep_below hB2)
    obtain ⟨tN, tT, tA⟩ := hT2
    dsimp only at tN tT tA
    have l2 : w.heap.size < w2.heap.size := by omega
    clear kC hX2 x0 x1 x2 hT hb2 hW1
    go_wp2
    obtain ⟨W3, hW3⟩ : ∃ W3, w2.alloc (.cells (nvs (List.replicate t.types.length 0)) 3) = W3 := ⟨_, rfl⟩
    have hb3 : Below w2.heap.size w2 W3 := by rw [← hW3]; exact (Below.refl _ _).alloc (Nat.le_refl _) _
    have hG3 : Blk W3 w2.heap.size 3 (nvs (List.replicate t.types.length 0)) := by rw [← hW3]; exact Blk.new w2 3 _
    rw [hW3]
    clear hW3 hm2
    obtain ⟨g, hg⟩ : ∃ g, w2.heap.size = g := ⟨_, rfl⟩
    rw [hg] at hG3 hb3 l2 hz2 ⊢
    clear hg
    go_loopw [4, 5, 22] (fun _ _ i wr => ∃ (k : Nat) (ds : List Nat), k ≤ t.types.length ∧ i = .int .i64 k ∧ Hid (Told (dTy t) t.types.length k ds) ∧ Blk wr g 3 (nvs ds) ∧ Below g w2 wr) (fun _ _ i _ => t.types.length - (intOf i).toNat)
    case atStart => exact ⟨0, _, Nat.zero_le _, rfl, Lib.hid (Told.zero _ _), hG3, hb3⟩
    case round =>
      obtain ⟨k, ds, hk, rfl, HT, hG, hB⟩ := hrel
      have hgl := hG.lt
      by_cases hlt : k < t.types.length
      · obtain ⟨b, off, rfl, hb, hcell⟩ := tT (by omega)
        obtain ⟨q, hq, hcq⟩ := hcell k t.types[k] (List.getElem?_eq_getElem hlt)
        have hfew := (hfb _ (List.getElem_mem hlt)).2.2.2
        have hrg := (HR.out.typ k _ (List.getElem?_eq_getElem hlt)).1
        have heq := dTy_eq HR.out k hlt
        have hml := mostTy_le HR.out t.types[k].kids (fun z hz => by have := hrg z hz; omega)
        obtain ⟨x, hx⟩ : ∃ x, t.types[k] = x := ⟨_, rfl⟩
        rw [hx] at hq hcq hfew hrg heq hml
        clear hx hcell
        have hbg : b < g := by have : b < w.heap.size := hb; omega
        have e0 := (hB.cell (p := ⟨b, off + k * 6, none⟩) hbg).trans (hcq 0 _ rfl)
        have e1 := (hB.cell (p := ⟨b, off + k * 6 + 1, none⟩) hbg).trans (hcq 1 _ rfl)
        have e2 := (hB.cell (p := ⟨b, off + k * 6 + 2, none⟩) hbg).trans (hcq 2 _ rfl)
        have e3 := (hB.cell (p := ⟨b, off + k * 6 + 3, none⟩) hbg).trans (hcq 3 _ rfl)
        have e4 := (hB.cell (p := ⟨b, off + k * 6 + 4, none⟩) hbg).trans (hcq 4 _ rfl)
        have e5 := (hB.cell (p := ⟨b, off + k * 6 + 5, none⟩) hbg).trans (hcq 5 _ rfl)
        clear hcq
        have hmt := HT.out.most hrg
        obtain ⟨Wn, hWn⟩ : ∃ Wn, wr.alloc (.cells #[.int .i64 x.kind, .int .i64 x.pos, .string x.name, .slice q.a3 x.names.length q.c3, .slice q.a4 x.kids.length q.c4, .bool x.opn] 47) = Wn := ⟨_, rfl⟩
        have hBn : Below wr.heap.size wr Wn := by rw [← hWn]; exact (Below.refl _ _).alloc (Nat.le_refl _) _
        have hXn : Blk Wn wr.heap.size 47 (typCells x q).toArray := by rw [← hWn]; exact Blk.new wr 47 _
        have hGn := hG.below hBn hgl
        have p4 := hXn.cell 4
        unfold typCells at p4
        simp only [List.getElem?_toArray, List.getElem?_cons_zero, List.getElem?_cons_succ] at p4
        have hBg : Below g w2 Wn := hB.trans (hBn.mono (by omega))
        have kD := deepest_any g t.types.length t.types.length q.c4 ds x.kids q.a4 Wn hGn HT.out.1 (by omega) ((hq.2.keep (fun b o hb => hBg.cell (p := ⟨b, o, none⟩) (by have : b < w.heap.size := hb; dsimp only; omega))).imp (fun b hb => by have : b < w.heap.size := hb; have := hGn.lt; omega)) (by omega) (fun z hz => by have := hrg z hz; omega)
        rw [hmt] at kD
        obtain ⟨M, hM⟩ : ∃ M, most (x.kids.map fun k => dTy t k.toNat) = M := ⟨_, rfl⟩
        rw [hM] at kD heq hml
        have f0 := hGn.frozen k
        have c0 := (hGn.cell k).trans (nvs_get ds k (by rw [HT.out.1]; exact hlt))
        have hS := hGn.set_ k (.int .i64 (1 + (M : Int)))
        rw [nvs_set1] at hS
        have HS := Lib.hid hS
        have HQ := Lib.hid heq
        have hbf : Below g w2 (Wn.setCell ⟨g, k, none⟩ (.int .i64 (1 + (M : Int)))) := hBg.setCell (p := ⟨g, k, none⟩) (Nat.le_refl _) _
        have hgn := hGn.lt
        clear hrg hmt hM heq hS hXn hGn
        go_wp2_with (go_at_call 31; refine kD.mono ?_; rintro e w5 ⟨rfl, rfl⟩)
        go_roundw
        case rel => exact ⟨k + 1, ds.set k (1 + M), by omega, by go_num, Lib.hid (HT.out.step hlt HQ.out.symm), HS.out, hbf⟩
        case measure => simp [intOf]; omega
      · obtain rfl : k = t.types.length := by omega
        have hGT := Lib.hid (And.intro hG HT.out)
        have hBW : Below w.heap.size w wr := hB2.trans (hB.mono (by omega))
        have hX4 := HX2.out.below (hB) l2
        have y0 := hX4.cell 0
        have y1 := hX4.cell 1
        have y2 := hX4.cell 2
        simp only [List.getElem?_toArray, List.getElem?_cons_zero, List.getElem?_cons_succ] at y0 y1 y2
        have HX4 := Lib.hid hX4
        have tN4 : NodesAt (Lt w.heap.size) wr a1 t.nodes := tN.keep (fun b o hb => hB.cell (p := ⟨b, o, none⟩) (by have : b < w.heap.size := hb; dsimp only; omega))
        have tA4 : AlisAt (Lt w.heap.size) wr a3 t.aliases := tA.keep (fun b o hb => hB.cell (p := ⟨b, o, none⟩) (by have : b < w.heap.size := hb; dsimp only; omega))
        have hgl2 := hG.lt
        clear hX4 hG HT hB hb3 hG3
        obtain ⟨wt, rfl⟩ : ∃ wt, wt = wr := ⟨wr, rfl⟩
        have l4 : w.heap.size < wt.heap.size := by omega
        go_wp2
        obtain ⟨W5, hW5⟩ : ∃ W5, wt.alloc (.cells (nvs (List.replicate t.nodes.length 0)) 3) = W5 := ⟨_, rfl⟩
        have hb5 : Below wt.heap.size wt W5 := by rw [← hW5]; exact (Below.refl _ _).alloc (Nat.le_refl _) _
        have hH5 : Blk W5 wt.heap.size 3 (nvs (List.replicate t.nodes.length 0)) := by rw [← hW5]; exact Blk.new wt 3 _
        rw [hW5]
        clear hW5 hm1 y0 y1 y2
        obtain ⟨h, hh⟩ : ∃ h, wt.heap.size = h := ⟨_, rfl⟩
        rw [hh] at hH5 hb5 l4 hgl2 ⊢
        have HH := Lib.hid hh
        clear hh
        go_loopw [7, 8, 43] (fun _ _ i wr => ∃ (k : Nat) (ds : List Nat), k ≤ t.nodes.length ∧ i = .int .i64 k ∧ Hid (Told (dTm t) t.nodes.length k ds) ∧ Blk wr h 3 (nvs ds) ∧ Below h wt wr) (fun _ _ i _ => t.nodes.length - (intOf i).toNat)
        case atStart => exact ⟨0, _, Nat.zero_le _, rfl, Lib.hid (Told.zero _ _), hH5, hb5⟩
        case round =>
          obtain ⟨k, dn, hk, rfl, HT, hH, hB⟩ := hrel
          have hhl := hH.lt
          have hGr := hGT.out.1.below hB hgl2
          by_cases hlt : k < t.nodes.length
          · obtain ⟨b, off, rfl, hb, hcell⟩ := tN4 (by omega)
            obtain ⟨q, hq, hcq⟩ := hcell k t.nodes[k] (List.getElem?_eq_getElem hlt)
            have hfew := hfa _ (List.getElem_mem hlt)
            have hrg := HR.out.nod k _ (List.getElem?_eq_getElem hlt)
            have heq := dTm_eq HR.out k hlt
            have hml := mostTm_le HR.out t.nodes[k].kids (fun z hz => by have := hrg.1 z hz; omega)
            have hml2 := mostTy_le HR.out t.nodes[k].types hrg.2.1
            obtain ⟨x, hx⟩ : ∃ x, t.nodes[k] = x := ⟨_, rfl⟩
            rw [hx] at hq hcq hfew hrg heq hml hml2
            clear hx hcell
            have hbg : b < h := by have : b < w.heap.size := hb; omega
            have e0 := (hB.cell (p := ⟨b, off + k * 8, none⟩) hbg).trans (hcq 0 _ rfl)
            have e1 := (hB.cell (p := ⟨b, off + k * 8 + 1, none⟩) hbg).trans (hcq 1 _ rfl)
            have e2 := (hB.cell (p := ⟨b, off + k * 8 + 2, none⟩) hbg).trans (hcq 2 _ rfl)
            have e3 := (hB.cell (p := ⟨b, off + k * 8 + 3, none⟩) hbg).trans (hcq 3 _ rfl)
            have e4 := (hB.cell (p := ⟨b, off + k * 8 + 4, none⟩) hbg).trans (hcq 4 _ rfl)
            have e5 := (hB.cell (p := ⟨b, off + k * 8 + 5, none⟩) hbg).trans (hcq 5 _ rfl)
            have e6 := (hB.cell (p := ⟨b, off + k * 8 + 6, none⟩) hbg).trans (hcq 6 _ rfl)
            have e7 := (hB.cell (p := ⟨b, off + k * 8 + 7, none⟩) hbg).trans (hcq 7 _ rfl)
            clear hcq
            have hmt := HT.out.most hrg.1
            have hmt2 := hGT.out.2.most hrg.2.1
            obtain ⟨Wn, hWn⟩ : ∃ Wn, wr.alloc (.cells #[.int .i64 x.kind, .int .i64 x.pos, .string x.name, .int .i64 x.int, .int .u64 (x.bits : Int), .slice q.a5 x.names.length q.c5, .slice q.a6 x.kids.length q.c6, .slice q.a7 x.types.length q.c7] 45) = Wn := ⟨_, rfl⟩
            have hBn : Below wr.heap.size wr Wn := by rw [← hWn]; exact (Below.refl _ _).alloc (Nat.le_refl _) _
            have hXn : Blk Wn wr.heap.size 45 (termCells x q).toArray := by rw [← hWn]; exact Blk.new wr 45 _
            have hHn := hH.below hBn hhl
            have hGn := hGr.below hBn hGr.lt
            have p6 := hXn.cell 6
            have p7 := hXn.cell 7
            unfold termCells at p6 p7
            simp only [List.getElem?_toArray, List.getElem?_cons_zero, List.getElem?_cons_succ] at p6 p7
            have hBg : Below h wt Wn := hB.trans (hBn.mono (by omega))
            have hf1 := hfew.2.2.2.1
            have hf2 := hfew.2.2.2.2
            have hsl1 : SlAt (fun b => b < Wn.heap.size) Wn q.a6 x.kids.length (x.kids.map iv) := (hq.2.1.keep (fun b o hb => hBg.cell (p := ⟨b, o, none⟩) (by have : b < w.heap.size := hb; dsimp only; omega))).imp (fun b hb => by have : b < w.heap.size := hb; have := hHn.lt; omega)
            have hsl2 : SlAt (fun b => b < Wn.heap.size) Wn q.a7 x.types.length (x.types.map iv) := (hq.2.2.keep (fun b o hb => hBg.cell (p := ⟨b, o, none⟩) (by have : b < w.heap.size := hb; dsimp only; omega))).imp (fun b hb => by have : b < w.heap.size := hb; have := hHn.lt; omega)
            have kD1 := deepest_any h t.nodes.length t.nodes.length q.c6 dn x.kids q.a6 Wn.drew hHn HT.out.1 (by omega) hsl1 (by omega) (fun z hz => by have := hrg.1 z hz; omega)
            have kD2 := deepest_any g t.types.length t.types.length q.c7 _ x.types q.a7 Wn.drew hGn hGT.out.2.1 (by omega) hsl2 (by omega) hrg.2.1
            rw [hmt] at kD1
            rw [hmt2] at kD2
            obtain ⟨M, hM⟩ : ∃ M, most (x.kids.map fun k => dTm t k.toNat) = M := ⟨_, rfl⟩
            obtain ⟨M2, hM2⟩ : ∃ M, most (x.types.map fun k => dTy t k.toNat) = M := ⟨_, rfl⟩
            rw [hM] at kD1 heq hml
            rw [hM2] at kD2 heq hml2
            have f0 := hHn.frozen k
            have c0 := (hHn.cell k).trans (nvs_get dn k (by rw [HT.out.1]; exact hlt))
            have hkl0 : (0 : Int) ≤ (k : Int) := Int.natCast_nonneg _
            have hkl1 : (k : Int) < (t.nodes.length : Int) := by omega
            have hS := hHn.drew.set_ k (.int .i64 (1 + ((max M M2 : Nat) : Int)))
            rw [nvs_set1] at hS
            have HS := Lib.hid hS
            have HQ := Lib.hid heq
            have HBG := Lib.hid hBg
            clear hrg hmt hmt2 hM hM2 heq hS hXn hHn hGn hsl1 hsl2 hBg
            go_wp2_with fail
            go_region_with (first | (go_at_call 31; (with_reducible refine kD1.mono ?_); rintro e w6 ⟨rfl, rfl⟩) | (go_at_call 31; (with_reducible refine kD2.mono ?_); rintro e w6 ⟨rfl, rfl⟩))
            all_goals
              rw [show IntKind.i64.wrap (1 + max (M : Int) (M2 : Int)) = 1 + ((max M M2 : Nat) : Int) from by rw [IntKind.wrap_i64]; omega]
              obtain ⟨WS, hWS⟩ : ∃ WS, (Wn.setCell ⟨h, k, none⟩ (.int .i64 (1 + ((max M M2 : Nat) : Int)))).drew = WS := ⟨_, rfl⟩
              have hSB : Blk WS h 3 (nvs (dn.set k (1 + max M M2))) := by rw [← hWS]; exact HS.out
              have hbf : Below h wt WS := by rw [← hWS]; exact (HBG.out.setCell (p := ⟨h, k, none⟩) (Nat.le_refl _) _).drew
              rw [hWS]
              clear hWS kD1 kD2 f0 c0 p6 p7 e0 e1 e2 e3 e4 e5 e6 e7 hWn
              go_wp2
              go_roundw
              case rel => exact ⟨k + 1, dn.set k (1 + max M M2), by omega, by go_num, Lib.hid (HT.out.step hlt HQ.out.symm), hSB, hbf⟩
              case measure => simp [intOf]; omega
          · obtain rfl : k = t.nodes.length := by omega
            have hBW2 : Below w.heap.size w wr := hBW.trans (hB.mono (by omega))
            have hX6 := HX4.out.below hB (by omega)
            have y0 := hX6.cell 0
            have y1 := hX6.cell 1
            have y2 := hX6.cell 2
            simp only [List.getElem?_toArray, List.getElem?_cons_zero, List.getElem?_cons_succ] at y0 y1 y2
            have tA6 : AlisAt (Lt w.heap.size) wr a3 t.aliases := tA4.keep (fun b o hb => hB.cell (p := ⟨b, o, none⟩) (by have : b < w.heap.size := hb; dsimp only; omega))
            have hG6 := hGT.out.1.below hB hgl2
            have hl6 : t.nodes.length - 1 < dn.length := by rw [HT.out.1]; omega
            have cw := (hH.cell (t.nodes.length - 1)).trans (nvs_get dn _ hl6)
            have hval : dn[t.nodes.length - 1] = dTm t (t.nodes.length - 1) := by
              have := HT.out.2 (t.nodes.length - 1) (by omega)
              simpa [List.getD_eq_getElem?_getD, hl6] using this
            rw [hval] at cw
            have hle := dTm_le HR.out (t.nodes.length - 1) (by omega)
            have kW := whole_any t ⟨a1, c1, a2, c2, a3, c3⟩ wr h1n (by omega)
            obtain ⟨V, hV⟩ : ∃ V, dTm t (t.nodes.length - 1) = V := ⟨_, rfl⟩
            rw [hV] at cw hle
            have HV := Lib.hid hV
            obtain ⟨n1, hn1'⟩ : ∃ n1, t.nodes.length - 1 = n1 := ⟨_, rfl⟩
            rw [hn1'] at cw kW
            have hn1a : n1 < t.nodes.length := by omega
            have HGT6 := Lib.hid hGT.out.2
            clear hX6 hval hV hn1' hB hH hl6 tA4 hBW
            obtain ⟨wu, rfl⟩ : ∃ wu, wu = wr := ⟨wr, rfl⟩
            have hzu := hBW2.size
            have hgu := hG6.lt
            go_wp2_with fail
            refine kW.mono ?_
            rintro e w7 ⟨rfl, hb7⟩
            have cw7 := (hb7.cell (p := ⟨h, n1, none⟩) (by have := block_lt_of_cell cw; exact this)).trans cw
            have z2 := (hb7.cell (p := ⟨w.heap.size, 2, none⟩) (by have := block_lt_of_cell y2; exact this)).trans y2
            have hG7 := hG6.below hb7 hgu
            have tA7 : AlisAt (Lt w.heap.size) w7 a3 t.aliases := tA6.keep (fun b o hb => hb7.cell (p := ⟨b, o, none⟩) (by have : b < w.heap.size := hb; dsimp only; omega))
            have hB7 : Below w.heap.size w w7 := hBW2.trans (hb7.mono hzu)
            have hzz : w.heap.size < w7.heap.size := by have := hb7.size; omega
            have hgw : w.heap.size ≤ g := by omega
            clear kW cw hb7 hG6 tA6 hBW2 y0 y1 y2
            go_wp2
            go_loopw [9, 11, 70] (fun v _ i wr => ∃ k : Nat, k ≤ t.aliases.length ∧ i = .int .i64 k ∧ v = .int .i64 ((max V (most ((t.aliases.take k).map fun a => dTy t a.type.toNat)) : Nat) : Int) ∧ Below w7.heap.size w7 wr) (fun _ _ i _ => t.aliases.length - (intOf i).toNat)
            case atStart => exact ⟨0, Nat.zero_le _, rfl, by simp [most], Below.refl _ _⟩
            case round =>
              obtain ⟨k, hk, rfl, rfl, hB⟩ := hrel
              by_cases hlt : k < t.aliases.length
              · obtain ⟨b, off, rfl, hb, hcell⟩ := tA7 (by omega)
                have hcq := hcell k t.aliases[k] (List.getElem?_eq_getElem hlt)
                have hrg := HR.out.ali _ (List.getElem_mem hlt)
                have htk : (t.aliases.take (k + 1)).map (fun a => dTy t a.type.toNat) = (t.aliases.take k).map (fun a => dTy t a.type.toNat) ++ [dTy t t.aliases[k].type.toNat] := by
                  rw [List.take_succ_eq_append_getElem hlt, List.map_append]; rfl
                obtain ⟨x, hx⟩ : ∃ x, t.aliases[k] = x := ⟨_, rfl⟩
                rw [hx] at hcq hrg htk
                clear hx hcell
                have hbw : b < w7.heap.size := by have : b < w.heap.size := hb; omega
                have e0 := (hB.cell (p := ⟨b, off + k * 3, none⟩) hbw).trans (hcq 0 _ rfl)
                have e1 := (hB.cell (p := ⟨b, off + k * 3 + 1, none⟩) hbw).trans (hcq 1 _ rfl)
                have e2 := (hB.cell (p := ⟨b, off + k * 3 + 2, none⟩) hbw).trans (hcq 2 _ rfl)
                obtain ⟨xn, xt, xp⟩ := x
                dsimp only at e0 e1 e2 hrg htk
                obtain ⟨j, rfl⟩ : ∃ j : Nat, xt = (j : Int) := ⟨xt.toNat, by omega⟩
                have hjm : j < t.types.length := by omega
                have hjd := HGT6.out.2 j hjm
                have hgl7 := hG7.lt
                have hgr : g < wr.heap.size := Nat.lt_of_lt_of_le hgl7 hB.size
                obtain ⟨dsx, hdsx⟩ : ∃ dsx : List Nat, Told (dTy t) t.types.length t.types.length dsx ∧ Blk w7 g 3 (nvs dsx) := ⟨_, HGT6.out, hG7⟩
                have hl := hdsx.1.1
                have cg := ((hdsx.2.below hB hgl7).cell j).trans (nvs_get dsx j (by omega))
                have hv := hdsx.1.2 j hjm
                have hv2 : dsx[j]'(by omega) = dTy t j := by rw [← hv]; simp [List.getD_eq_getElem?_getD, show j < dsx.length by omega]
                rw [hv2] at cg
                have hdl := dTy_le HR.out j hjm
                have hml := most_of_le (l := (t.aliases.take k).map fun a => dTy t a.type.toNat) (c := t.types.length) (fun a ha => by
                  obtain ⟨y, hy, rfl⟩ := List.mem_map.1 ha
                  have := HR.out.ali y (List.mem_of_mem_take hy)
                  exact dTy_le HR.out _ (by omega))
                rw [Int.toNat_natCast] at htk
                obtain ⟨U, hU⟩ : ∃ U, dTy t j = U := ⟨_, rfl⟩
                obtain ⟨Y, hY⟩ : ∃ Y, most ((t.aliases.take k).map fun a => dTy t a.type.toNat) = Y := ⟨_, rfl⟩
                have hnew : most ((t.aliases.take (k + 1)).map fun a => dTy t a.type.toNat) = max Y U := by rw [htk, most_append, hY, hU]; simp [most]
                rw [hU] at cg hdl
                rw [hY] at hml ⊢
                have HN := Lib.hid hnew
                clear hnew hU hY htk hv hv2 hl hdsx hjd hcq hrg
                go_wp2
                go_roundw
                case rel => exact ⟨k + 1, by omega, by go_num, by rw [HN.out]; go_num, hB.alloc (by have := hB.size; omega) _⟩
                case measure => simp [intOf]; omega
              · obtain rfl : k = t.aliases.length := by omega
                have hfin : max V (most ((t.aliases.take t.aliases.length).map fun a => dTy t a.type.toNat)) = D := by
                  rw [List.take_length, ← HV.out, ← HD.out]
                  rfl
                rw [hfin]
                clear hfin
                go_wp2
                go_ret
                exact ⟨rfl, hB7.trans (hB.mono (by omega))⟩
end Go.Proofs.YtinajnkjfhbmkaaGreatDoor
