/- Whether two trees are the same, as the -/
import Derived.Test.YtidmeodmkcomlaaGreatDoorL51
import Derived.Test.YtidmeodmkcomlaaGreatDoorL48
namespace Go.Proofs.YtidmeodmkcomlaaGreatDoor
open Go Go.Proofs Go.RowKit
set_option maxHeartbeats 16000000
set_option maxRecDepth 100000 in
theorem zyr (a b : TreeD) (p q : Ptr6) (w : World) (hTa : TreeAt (Lt w.heap.size) w a p) (hTb : TreeAt (Lt w.heap.size) w b q) (hFa : zb1 a) (hFb : zb1 b)
 (hIa : ∀ x ∈ a.nodes, x.int ≤ 9223372036854775807) (hIb : ∀ x ∈ b.nodes, x.int ≤ 9223372036854775807) :
 Calls Tryz.prog 11 #[treeV a p, treeV b q] w fun e w' => e = .returned (.bool (sameB a b)) ∧ Below w.heap.size w w' := by
 have KRa := zJv (fun W (h : TreeAt (Lt W.heap.size) W a p) => zhc a p W h hFa hIa);have KRb := zJv (fun W (h : TreeAt (Lt W.heap.size) W b q) => zhc b q W h hFb hIb);have KY := zJv (fun (hWa : Whole a) (hWb : Whole b) (k l : Nat) (hkn : k < a.types.length) (hln : l < b.types.length) (W : World) (hA : TreeAt (Lt W.heap.size) W a p) (hB : TreeAt (Lt W.heap.size) W b q) => znu a b p q hWa hWb hFa hFb (k + 1) k l (by omega) hkn hln W hA hB);have KT := zJv (fun (hWa : Whole a) (hWb : Whole b) (k l : Nat) (hkn : k < a.nodes.length) (hln : l < b.nodes.length) (W : World) (hA : TreeAt (Lt W.heap.size) W a p) (hB : TreeAt (Lt W.heap.size) W b q) => zty a b p q hWa hWb hFa hFb (k + 1) k l (by omega) hkn hln W hA hB);obtain ⟨a1, c1, a2, c2, a3, c3⟩ := p;obtain ⟨b1, d1, b2, d2, b3, d3⟩ := q;have tA := hTa.2.2;have uA := hTb.2.2;dsimp only at tA uA;have f5 : a.nodes.length ≤ 1000 := hFa.2.2.2.2.1;have f6 : a.types.length ≤ 1000 := hFa.2.2.2.2.2;have f4 : a.aliases.length ≤ 1000 := hFa.2.2.2.1;have g5 : b.nodes.length ≤ 1000 := hFb.2.2.2.2.1;have g6 : b.types.length ≤ 1000 := hFb.2.2.2.2.2;have g4 : b.aliases.length ≤ 1000 := hFb.2.2.2.1;obtain ⟨W1, hW1⟩ : ∃ W1, (w.alloc (.cells #[.slice a1 a.nodes.length c1, .slice a2 a.types.length c2, .slice a3 a.aliases.length c3] 27)).alloc (.cells #[.slice b1 b.nodes.length d1, .slice b2 b.types.length d2, .slice b3 b.aliases.length d3] 27) = W1 := ⟨_, rfl⟩;have hB1 : Below w.heap.size w W1 := by rw [← hW1]; exact ((zJx _ _).alloc (zJw _) _).alloc (by simp) _
 have hX : Blk W1 w.heap.size 27 #[.slice a1 a.nodes.length c1, .slice a2 a.types.length c2, .slice a3 a.aliases.length c3] := by rw [← hW1]; exact (Blk.new w 27 _).alloc _
 have hY : Blk W1 (w.heap.size + 1) 27 #[.slice b1 b.nodes.length d1, .slice b2 b.types.length d2, .slice b3 b.aliases.length d3] := by
  rw [← hW1];have := Blk.new (w.alloc (.cells #[.slice a1 a.nodes.length c1, .slice a2 a.types.length c2, .slice a3 a.aliases.length c3] 27)) 27 #[.slice b1 b.nodes.length d1, .slice b2 b.types.length d2, .slice b3 b.aliases.length d3];rwa [zKh] at this
 obtain ⟨r, hr⟩ : ∃ r, sameB a b = r := ⟨_, rfl⟩;rw [hr];have HR := zJv hr;have hzX := hX.lt;have hzY := hY.lt;have HX := zJv hX;have HY := zJv hY;have HTa := zJv hTa;have HTb := zJv hTb;have HA := zJv tA;have HB := zJv uA;have kR := KRa.out W1 (zc7 HTa.out hB1);obtain ⟨C, hC⟩ : ∃ C, zbq a = C := ⟨_, rfl⟩;rw [hC] at kR;have HCa := zJv hC;unfold treeV at kR;dsimp only at kR;clear hX hY hTa hTb hr tA uA hC hIa hIb hFa hFb;have x0 := HX.out.cell 0;have x1 := HX.out.cell 1;have x2 := HX.out.cell 2;simp only [gA, gB, gC] at x0 x1 x2;have y0 := HY.out.cell 0;have y1 := HY.out.cell 1;have y2 := HY.out.cell 2;simp only [gA, gB, gC] at y0 y1 y2;go_enter Tryz.func11, Tryz.ntmps11
 go_wp2_with fail
 refine kR.mono ?_;rintro e w2 ⟨rfl, hb2⟩;have hB2 : Below w.heap.size w w2 := hB1.trans (hb2.mono hB1.size);have hz2 := hB2.size;clear hW1 kR;cases C
 case false =>
  have hf : r = false := by rw [← HR.out]; unfold sameB; rw [HCa.out]; rfl
  subst hf;clear HR;go_wp2
  go_ret;exact ⟨rfl, hB2⟩
 case true =>
 have HX2 := zJv (HX.out.below hb2 hzX);have HY2 := zJv (HY.out.below hb2 hzY);clear x0 x1 x2 y0 y1 y2 HX HY hzX hzY hb2;have hzX := HX2.out.lt;have hzY := HY2.out.lt;have x0 := HX2.out.cell 0;have x1 := HX2.out.cell 1;have x2 := HX2.out.cell 2;simp only [gA, gB, gC] at x0 x1 x2;have y0 := HY2.out.cell 0;have y1 := HY2.out.cell 1;have y2 := HY2.out.cell 2;simp only [gA, gB, gC] at y0 y1 y2;have kR := KRb.out w2 (zc7 HTb.out hB2);obtain ⟨C, hC⟩ : ∃ C, zbq b = C := ⟨_, rfl⟩;rw [hC] at kR;have HCb := zJv hC;unfold treeV at kR;dsimp only at kR;clear hC;go_wp2_with fail
 refine kR.mono ?_;rintro e w3 ⟨rfl, hb3⟩;have hB3 : Below w.heap.size w w3 := hB2.trans (hb3.mono hz2);have hz3 := hB3.size;clear kR;cases C
 case false =>
  have hf : r = false := by rw [← HR.out]; unfold sameB; rw [HCa.out, HCb.out]; rfl
  subst hf;clear HR;go_wp2
  go_ret;exact ⟨rfl, hB3⟩
 case true =>
 have HX3 := zJv (HX2.out.below hb3 hzX);have HY3 := zJv (HY2.out.below hb3 hzY);clear x0 x1 x2 y0 y1 y2 HX2 HY2 hzX hzY hb3;have hzX := HX3.out.lt;have hzY := HY3.out.lt;have x0 := HX3.out.cell 0;have x1 := HX3.out.cell 1;have x2 := HX3.out.cell 2;simp only [gA, gB, gC] at x0 x1 x2;have y0 := HY3.out.cell 0;have y1 := HY3.out.cell 1;have y2 := HY3.out.cell 2;simp only [gA, gB, gC] at y0 y1 y2;have HWa := zJv ((ze0 a).1 HCa.out);have HWb := zJv ((ze0 b).1 HCb.out);have HRR : Hid (r = (all2 (fun x y => smA x y && same (atY a b) (tyK a) (tyK b) x.type.toNat y.type.toNat) a.aliases b.aliases && same (rT a b) (tmK a) (tmK b) (a.nodes.length - 1) (b.nodes.length - 1))) := zJv (by rw [← HR.out]; exact zye HWa.out HWb.out);clear HR;by_cases hlen : a.aliases.length = b.aliases.length
 case neg =>
  have hf : r = false := by rw [HRR.out, zjr hlen]; rfl
  subst hf;have hne : ((a.aliases.length : Int) != (b.aliases.length : Int)) = true := by rw [bne_iff_ne]; omega
  clear HRR hlen;go_wp2
  go_ret;exact ⟨rfl, hB3⟩
 case pos =>
 have hne : ((a.aliases.length : Int) != (b.aliases.length : Int)) = false := by rw [bne_eq_false_iff_eq]; omega
 have HLEN := zJv hlen;have hrgA : ∀ x ∈ a.aliases, 0 ≤ x.type ∧ x.type < (a.types.length : Int) := fun x hx => ⟨(HWa.out.rng.ali x hx).1, (HWa.out.rng.ali x hx).2.1⟩;have hrgB : ∀ x ∈ b.aliases, 0 ≤ x.type ∧ x.type < (b.types.length : Int) := fun x hx => ⟨(HWb.out.rng.ali x hx).1, (HWb.out.rng.ali x hx).2.1⟩;have HRA := zJv hrgA;have HRB := zJv hrgB;have hone := HWa.out.rng.one;have hone' := HWb.out.rng.one;clear hlen hrgA hrgB;go_wp2
 go_loopw [5, 26] (fun _ k0 wr => ∃ (k : Nat), k ≤ a.aliases.length ∧ k0 = .int .i64 k ∧ Hid (all2 (fun x y => smA x y && same (atY a b) (tyK a) (tyK b) x.type.toNat y.type.toNat) (a.aliases.take k) (b.aliases.take k) = true) ∧ Below w3.heap.size w3 wr) (fun _ k0 _ => a.aliases.length - (intOf k0).toNat)
 case atStart => exact ⟨0, zK8 _, rfl, zJv (by simp [all2]), zJx _ _⟩
 case round =>
  obtain ⟨k, hk, rfl, HT, hB⟩ := hrel;have hBr : Below w.heap.size w wr := hB3.trans (hB.mono hz3);have hzr := hB.size;have hbr := hBr.size;have HXr := zJv (HX3.out.below hB hzX);have HYr := zJv (HY3.out.below hB hzY);have xl := HXr.out.lt;have yl := HYr.out.lt;clear x0 x1 x2 y0 y1 y2;by_cases hlt : k < a.aliases.length
  · have hlt' : k < b.aliases.length := by have := HLEN.out; omega
    have HGOOD := zJv (zha (f := (fun x y => smA x y && same (atY a b) (tyK a) (tyK b) x.type.toNat y.type.toNat)) hlt hlt' HT.out);have HBAD := zJv (ziq (f := (fun x y => smA x y && same (atY a b) (tyK a) (tyK b) x.type.toNat y.type.toNat)) hlt hlt');obtain ⟨ba, oa, rfl, hba, hca⟩ := HA.out (by omega);obtain ⟨bb, ob, rfl, hbb, hcb⟩ := HB.out (by omega);have hqa := hca k _ (zK1 hlt);have hqb := hcb k _ (zK1 hlt');have hz1 := HRA.out _ (zKe hlt);have hz2' := HRB.out _ (zKe hlt');obtain ⟨x, hx⟩ : ∃ x, a.aliases[k] = x := ⟨_, rfl⟩;obtain ⟨y, hy⟩ : ∃ y, b.aliases[k] = y := ⟨_, rfl⟩;rw [hx] at hqa hz1;rw [hy] at hqb hz2';rw [hx, hy] at HGOOD HBAD;obtain ⟨nx, tx, px⟩ := x;obtain ⟨ny, ty, py⟩ := y;dsimp only at hz1 hz2' HGOOD HBAD;have e0 := (hBr.cell (p := ⟨ba, oa + k * 3, none⟩) hba).trans (hqa 0 _ rfl);have e1 := (hBr.cell (p := ⟨ba, oa + k * 3 + 1, none⟩) hba).trans (hqa 1 _ rfl);have l0 := (hBr.cell (p := ⟨bb, ob + k * 3, none⟩) hbb).trans (hqb 0 _ rfl);have l1 := (hBr.cell (p := ⟨bb, ob + k * 3 + 1, none⟩) hbb).trans (hqb 1 _ rfl);obtain ⟨k1, hk1⟩ : ∃ n : Nat, tx = (n : Int) := ⟨tx.toNat, by omega⟩;obtain ⟨k2, hk2⟩ : ∃ n : Nat, ty = (n : Int) := ⟨ty.toNat, by omega⟩;subst hk1;subst hk2;rw [tam, tam] at HGOOD HBAD;have kI : Hid (∀ W, Below wr.heap.size wr W → Calls Tryz.prog 14 #[treeV a ⟨a1, c1, a2, c2, some ⟨ba, oa, none⟩, c3⟩, .int .i64 (k1 : Int), treeV b ⟨b1, d1, b2, d2, some ⟨bb, ob, none⟩, d3⟩, .int .i64 (k2 : Int)] W fun e w' => e = .returned (.bool (same (atY a b) (tyK a) (tyK b) k1 k2)) ∧ Below W.heap.size W w') := zJv fun W hW => KY.out HWa.out HWb.out k1 k2 (by omega) (by omega) W (zc7 HTa.out (hBr.trans (hW.mono hBr.size))) (zc7 HTb.out (hBr.trans (hW.mono hBr.size)));obtain ⟨Q, hQ⟩ : ∃ Q, same (atY a b) (tyK a) (tyK b) k1 k2 = Q := ⟨_, rfl⟩;rw [hQ] at kI HGOOD HBAD;unfold treeV at kI;dsimp only at kI
    have HSS : Hid (∀ W, Below wr.heap.size wr W → (fun W => W.cell? ⟨w.heap.size, 0, none⟩ = some (.slice a1 a.nodes.length c1) ∧ W.cell? ⟨w.heap.size, 1, none⟩ = some (.slice a2 a.types.length c2) ∧ W.cell? ⟨w.heap.size, 2, none⟩ = some (.slice (some ⟨ba, oa, none⟩) a.aliases.length c3) ∧ W.cell? ⟨w.heap.size + 1, 0, none⟩ = some (.slice b1 b.nodes.length d1) ∧ W.cell? ⟨w.heap.size + 1, 1, none⟩ = some (.slice b2 b.types.length d2) ∧ W.cell? ⟨w.heap.size + 1, 2, none⟩ = some (.slice (some ⟨bb, ob, none⟩) b.aliases.length d3) ∧ W.cell? ⟨ba, oa + k * 3, none⟩ = some (.string nx) ∧ W.cell? ⟨bb, ob + k * 3, none⟩ = some (.string ny) ∧ W.cell? ⟨ba, oa + k * 3 + 1, none⟩ = some (.int .i64 (k1 : Int)) ∧ W.cell? ⟨bb, ob + k * 3 + 1, none⟩ = some (.int .i64 (k2 : Int)) ∧ Below wr.heap.size wr W) W) := zJv fun W hW => by
     have A := HXr.out.below hW xl;have B := HYr.out.below hW yl;have A0 := A.cell 0;have A1 := A.cell 1;have A2 := A.cell 2;have B0 := B.cell 0;have B1 := B.cell 1;have B2 := B.cell 2;simp only [gA, gB, gC] at A0 A1 A2 B0 B1 B2;exact ⟨A0, A1, A2, B0, B1, B2, (hW.cell (p := ⟨ba, _, none⟩) (by dsimp only; omega)).trans e0, (hW.cell (p := ⟨bb, _, none⟩) (by dsimp only; omega)).trans l0, (hW.cell (p := ⟨ba, _, none⟩) (by dsimp only; omega)).trans e1, (hW.cell (p := ⟨bb, _, none⟩) (by dsimp only; omega)).trans l1, hW⟩
    have i1 : (0 : Int) ≤ (k : Int) := by omega
    have i2 : (k : Int) < (a.aliases.length : Int) := by omega
    have i3 : (k : Int) < (b.aliases.length : Int) := by omega
    have hB0 := zJx wr.heap.size wr;have hsm : smA ⟨nx, (k1 : Int), px⟩ ⟨ny, (k2 : Int), py⟩ = decide (nx = ny) := rfl;rw [hsm] at HGOOD HBAD;have hba' : ba < wr.heap.size := zJy hba hbr;have hbb' : bb < wr.heap.size := zJy hbb hbr;clear hQ hx hy e0 e1 l0 l1 hqa hqb hca hcb hsm hba hbb hne;by_cases hnm : nx = ny
    case neg =>
     have hq1 : (nx.toList != ny.toList) = true := by rw [bne_iff_ne]; exact fun h => hnm (toList_inj h)
     have hq2 : (nx.toList == ny.toList) = false := by rw [zKr]; exact fun h => hnm (toList_inj h)
     have HF : Hid (r = false) := zJv (by rw [HRR.out, HBAD.out (by rw [decide_eq_false hnm]; rfl)]; rfl);clear HBAD HGOOD hnm;go_wp2_with fail
     refine wp_region_noPanic ?_;refine wp_region_held_drew (S := fun W => W.cell? ⟨w.heap.size, 0, none⟩ = some (.slice a1 a.nodes.length c1) ∧ W.cell? ⟨w.heap.size, 1, none⟩ = some (.slice a2 a.types.length c2) ∧ W.cell? ⟨w.heap.size, 2, none⟩ = some (.slice (some ⟨ba, oa, none⟩) a.aliases.length c3) ∧ W.cell? ⟨w.heap.size + 1, 0, none⟩ = some (.slice b1 b.nodes.length d1) ∧ W.cell? ⟨w.heap.size + 1, 1, none⟩ = some (.slice b2 b.types.length d2) ∧ W.cell? ⟨w.heap.size + 1, 2, none⟩ = some (.slice (some ⟨bb, ob, none⟩) b.aliases.length d3) ∧ W.cell? ⟨ba, oa + k * 3, none⟩ = some (.string nx) ∧ W.cell? ⟨bb, ob + k * 3, none⟩ = some (.string ny) ∧ W.cell? ⟨ba, oa + k * 3 + 1, none⟩ = some (.int .i64 (k1 : Int)) ∧ W.cell? ⟨bb, ob + k * 3 + 1, none⟩ = some (.int .i64 (k2 : Int)) ∧ Below wr.heap.size wr W) (by kernel_rfl) (HSS.out _ (ta1 hB0)) (fun hHeld => ?_);refine tkH 0 ?_;try simp only [Act.put, sA, sB, sC]
     refine tkH 1 ?_;try simp only [Act.put, sA, sB, sC]
     refine tkH 2 ?_;try simp only [Act.put, sA, sB, sC]
     refine tkH 3 ?_;try simp only [Act.put, sA, sB, sC]
     refine tkH 4 ?_;try simp only [Act.put, sA, sB, sC]
     refine tkH 5 ?_;try simp only [Act.put, sA, sB, sC]
     refine tkH 6 ?_;try simp only [Act.put, sA, sB, sC]
     refine tkH 7 ?_;try simp only [Act.put, sA, sB, sC]
     refine tkH 8 ?_;try simp only [Act.put, sA, sB, sC]
     refine tkH 9 ?_;try simp only [Act.put, sA, sB, sC]
     refine tkH 10 ?_;try simp only [Act.put, sA, sB, sC]
     refine tkH 11 ?_;try simp only [Act.put, sA, sB, sC]
     refine tkH 12 ?_;try simp only [Act.put, sA, sB, sC]
     refine tkH 13 ?_;try simp only [Act.put, sA, sB, sC]
     refine tkU 14 ?restn15;try simp only [Act.put, sA, sB, sC]
     refine tkU 15 ?restn16;try simp only [Act.put, sA, sB, sC]
     refine tkU 16 ?restn17;try simp only [Act.put, sA, sB, sC]
     refine tkU 17 ?restn18;try simp only [Act.put, sA, sB, sC]
     refine tkU 18 ?restn19;try simp only [Act.put, sA, sB, sC]
     refine tkU 19 ?restn20;try simp only [Act.put, sA, sB, sC]
     refine tkU 20 ?restn21;try simp only [Act.put, sA, sB, sC]
     refine tkU 21 ?restn22;try simp only [Act.put, sA, sB, sC]
     refine tkU 22 ?restn23;try simp only [Act.put, sA, sB, sC]
     refine tkU 23 ?restn24;try simp only [Act.put, sA, sB, sC]
     refine tkU 24 ?restn25;try simp only [Act.put, sA, sB, sC]
     refine tkU 25 ?restn26;try simp only [Act.put, sA, sB, sC]
     refine tkU 26 ?restn27;try simp only [Act.put, sA, sB, sC]
     refine tkU 27 ?restn28;try simp only [Act.put, sA, sB, sC]
     refine tkU 28 ?restn29;try simp only [Act.put, sA, sB, sC]
     refine tkU 29 ?restn30;try simp only [Act.put, sA, sB, sC]
     refine tkH 30 ?_;try simp only [Act.put, sA, sB, sC]
     refine wpAnyH_done (by kernel_rfl) ?_ _;refine NoPanic.normal ?_;go_wp2
     go_ret;exact ⟨za7 HF.out.symm, hBr.trans (ta1 (zJx _ _))⟩
    case pos =>
     subst hnm;have hq1 : (nx.toList != nx.toList) = false := by simp
     rw [decide_eq_true rfl, Bool.true_and] at HGOOD HBAD;go_wp2_with fail
     refine wp_region_noPanic ?_;refine wp_region_held_drew (S := fun W => W.cell? ⟨w.heap.size, 0, none⟩ = some (.slice a1 a.nodes.length c1) ∧ W.cell? ⟨w.heap.size, 1, none⟩ = some (.slice a2 a.types.length c2) ∧ W.cell? ⟨w.heap.size, 2, none⟩ = some (.slice (some ⟨ba, oa, none⟩) a.aliases.length c3) ∧ W.cell? ⟨w.heap.size + 1, 0, none⟩ = some (.slice b1 b.nodes.length d1) ∧ W.cell? ⟨w.heap.size + 1, 1, none⟩ = some (.slice b2 b.types.length d2) ∧ W.cell? ⟨w.heap.size + 1, 2, none⟩ = some (.slice (some ⟨bb, ob, none⟩) b.aliases.length d3) ∧ W.cell? ⟨ba, oa + k * 3, none⟩ = some (.string nx) ∧ W.cell? ⟨bb, ob + k * 3, none⟩ = some (.string nx) ∧ W.cell? ⟨ba, oa + k * 3 + 1, none⟩ = some (.int .i64 (k1 : Int)) ∧ W.cell? ⟨bb, ob + k * 3 + 1, none⟩ = some (.int .i64 (k2 : Int)) ∧ Below wr.heap.size wr W) (by kernel_rfl) (HSS.out _ (ta1 hB0)) (fun hHeld => ?_);refine tkH 0 ?_;try simp only [Act.put, sA, sB, sC]
     refine tkH 1 ?_;try simp only [Act.put, sA, sB, sC]
     refine tkH 2 ?_;try simp only [Act.put, sA, sB, sC]
     refine tkH 3 ?_;try simp only [Act.put, sA, sB, sC]
     refine tkH 4 ?_;try simp only [Act.put, sA, sB, sC]
     refine tkH 5 ?_;try simp only [Act.put, sA, sB, sC]
     refine tkH 6 ?_;try simp only [Act.put, sA, sB, sC]
     refine tkH 7 ?_;try simp only [Act.put, sA, sB, sC]
     refine tkH 8 ?_;try simp only [Act.put, sA, sB, sC]
     refine tkH 9 ?_;try simp only [Act.put, sA, sB, sC]
     refine tkH 10 ?_;try simp only [Act.put, sA, sB, sC]
     refine tkH 11 ?_;try simp only [Act.put, sA, sB, sC]
     refine tkH 12 ?_;try simp only [Act.put, sA, sB, sC]
     refine tkH 13 ?_;try simp only [Act.put, sA, sB, sC]
     refine tkH 14 ?_;try simp only [Act.put, sA, sB, sC]
     refine tkH 15 ?_;try simp only [Act.put, sA, sB, sC]
     refine tkH 16 ?_;try simp only [Act.put, sA, sB, sC]
     refine tkH 17 ?_;try simp only [Act.put, sA, sB, sC]
     refine tkH 18 ?_;try simp only [Act.put, sA, sB, sC]
     refine tkH 19 ?_;try simp only [Act.put, sA, sB, sC]
     refine tkH 20 ?_;try simp only [Act.put, sA, sB, sC]
     refine tkH 21 ?_;try simp only [Act.put, sA, sB, sC]
     refine tkH 22 ?_;try simp only [Act.put, sA, sB, sC]
     refine tkH 23 ?_;try simp only [Act.put, sA, sB, sC]
     refine tkH 24 ?_;try simp only [Act.put, sA, sB, sC]
     refine tkH 25 ?_;try simp only [Act.put, sA, sB, sC]
     refine tkH 26 ?_;try simp only [Act.put, sA, sB, sC]
     refine tkH 27 ?_;try simp only [Act.put, sA, sB, sC]
     refine rdH 28 (fun K hK => ?_);go_simp; go_at_call 14; (with_reducible refine (kI.out _ (ta1 hB0)).mono ?_); rintro e w6 ⟨rfl, b6'⟩; have b6 := (ta1 hB0).trans (b6'.mono (by exact zJw _))
     go_wp2_with fail
     refine hK.out _ _ ?hSp29 (fun hHeld => ?_)
     case hSp29 => exact HSS.out _ b6
     clear hK K;try simp only [Act.put, sA, sB, sC]
     refine tkH 29 ?_;try simp only [Act.put, sA, sB, sC]
     refine tkH 30 ?_;try simp only [Act.put, sA, sB, sC]
     refine wpAnyH_done (by kernel_rfl) ?_ _;refine NoPanic.normal ?_;cases Q
     · have HF : Hid (r = false) := zJv (by rw [HRR.out, HBAD.out rfl]; rfl)
       clear HBAD HGOOD;go_wp2
       go_ret;exact ⟨za7 HF.out.symm, hBr.trans (b6.mono hBr.size)⟩
     · have HG := zJv (HGOOD.out rfl)
       clear HBAD HGOOD;go_wp2
       go_roundw
       case rel => exact ⟨k + 1, by omega, by go_num, HG, hB.trans (b6.mono hzr)⟩
       case measure => simp [intOf]; omega
  · obtain rfl : k = a.aliases.length := by omega
    have HRS : Hid (r = same (rT a b) (tmK a) (tmK b) (a.nodes.length - 1) (b.nodes.length - 1)) := zJv (by
     have h := HT.out;rw [tap, List.take_of_length_le (by have := HLEN.out; omega)] at h
     rw [HRR.out, h]; rfl)
    have hsub : IntKind.i64.wrap ((a.nodes.length : Int) - 1) = ((a.nodes.length - 1 : Nat) : Int) := by
     rw [IntWalk.i64_in _ (by omega)]; omega
    have hsub' : IntKind.i64.wrap ((b.nodes.length : Int) - 1) = ((b.nodes.length - 1 : Nat) : Int) := by
     rw [IntWalk.i64_in _ (by omega)]; omega
    have kT := KT.out HWa.out HWb.out (a.nodes.length - 1) (b.nodes.length - 1) (by omega) (by omega) wr (zc7 HTa.out hBr) (zc7 HTb.out hBr);rw [← HRS.out] at kT;unfold treeV at kT;dsimp only at kT;clear HT HRR;have x0 := HXr.out.cell 0;have x1 := HXr.out.cell 1;have x2 := HXr.out.cell 2;simp only [gA, gB, gC] at x0 x1 x2;have y0 := HYr.out.cell 0;have y1 := HYr.out.cell 1;have y2 := HYr.out.cell 2;simp only [gA, gB, gC] at y0 y1 y2;go_wp2_with fail
    refine kT.mono ?_;rintro e w6 ⟨rfl, hb6⟩;go_wp2
    go_ret;exact ⟨rfl, hBr.trans (hb6.mono hBr.size)⟩
theorem zc2 {M K R T n : Int} {kl tl : Nat} {b0 b1 b2 : Bool} (h : za6 M K R T n kl tl b0 b1 b2 = true) : n ≤ M := by
 unfold za6 at h;simp only [zK6, zKq] at h;exact h.1.2.1
theorem zIr {x : TermD} (h : termB x = true) : x.int ≤ 9223372036854775807 := by
 unfold termB at h;by_cases hc : x.kind = 0
 · rw [if_pos hc] at h; have := zc2 h; omega
 rw [if_neg hc] at h;clear hc;by_cases hc : x.kind = 1
 · rw [if_pos hc] at h; have := zc2 h; omega
 rw [if_neg hc] at h;clear hc;by_cases hc : x.kind = 2
 · rw [if_pos hc] at h; have := zc2 h; omega
 rw [if_neg hc] at h;clear hc;by_cases hc : x.kind = 3
 · rw [if_pos hc] at h; have := zc2 h; omega
 rw [if_neg hc] at h;clear hc;by_cases hc : x.kind = 4
 · rw [if_pos hc] at h; have := zc2 h; omega
 rw [if_neg hc] at h;clear hc;by_cases hc : x.kind = 5 ∨ x.kind = 13
 · rw [if_pos hc] at h; have := zc2 h; omega
 rw [if_neg hc] at h;clear hc;by_cases hc : x.kind = 6
 · rw [if_pos hc] at h; have := zc2 h; omega
 rw [if_neg hc] at h;clear hc;by_cases hc : x.kind = 7 ∨ x.kind = 8
 · rw [if_pos hc] at h; have := zc2 h; omega
 rw [if_neg hc] at h;clear hc;by_cases hc : x.kind = 9
 · rw [if_pos hc] at h; have := zc2 h; omega
 rw [if_neg hc] at h;clear hc;by_cases hc : x.kind = 10
 · rw [if_pos hc] at h; have := zc2 h; omega
 rw [if_neg hc] at h;clear hc;by_cases hc : x.kind = 11
 · rw [if_pos hc] at h; have := zc2 h; omega
 rw [if_neg hc] at h;clear hc;by_cases hc : x.kind = 12
 · rw [if_pos hc] at h; have := zc2 h; omega
 rw [if_neg hc] at h;clear hc;by_cases hc : x.kind = 14
 · rw [if_pos hc] at h; have := zc2 h; omega
 rw [if_neg hc] at h;clear hc;by_cases hc : x.kind = 15
 · rw [if_pos hc] at h; have := zc2 h; omega
 rw [if_neg hc] at h;clear hc;by_cases hc : x.kind = 16
 · rw [if_pos hc] at h; have := zc2 h; omega
 rw [if_neg hc] at h;clear hc;cases h
theorem zox {t : TreeD} (h : Whole t) : ∀ x ∈ t.nodes, x.int ≤ 9223372036854775807 := fun x hx => by
 obtain ⟨j, hj, rfl⟩ := zKo hx;exact zIr (h.rng.nod j _ (zK1 hj)).2.2
theorem zL0 (t : TreeD) (d : Nat) (p q : Ptr6) (hW : Whole t) (hF : zb1 t) (w : World) (hA : TreeAt (Lt w.heap.size) w t p) (hB : TreeAt (Lt w.heap.size) w (t.sh d) q) :
 Calls Tryz.prog 11 #[treeV t p, treeV (t.sh d) q] w fun e w' => e = .returned (.bool true) ∧ Below w.heap.size w w' := by
 have h := zyr t (t.sh d) p q w hA hB hF (zIb hF d) (zox hW) (zox (zqz hW d));rw [zH1 hW d] at h;exact h
end Go.Proofs.YtidmeodmkcomlaaGreatDoor
