/- Whether two terms are the same, as the -/
import Derived.Test.YtidmeodmkcomlaaGreatDoorL49
import Derived.Test.YtidmeodmkcomlaaGreatDoorL50
namespace Go.Proofs.YtidmeodmkcomlaaGreatDoor
open Go Go.Proofs Go.RowKit
set_option maxHeartbeats 8000000
set_option maxRecDepth 100000 in
theorem zty (a b : TreeD) (p q : Ptr6) (hWa : Whole a) (hWb : Whole b) (hFa : zb1 a) (hFb : zb1 b) : ∀ (m i j : Nat), i < m → i < a.nodes.length → j < b.nodes.length → ∀ (w : World), TreeAt (Lt w.heap.size) w a p → TreeAt (Lt w.heap.size) w b q →
 Calls Tryz.prog 22 #[treeV a p, .int .i64 (i : Int), treeV b q, .int .i64 (j : Int)] w fun e w' => e = .returned (.bool (same (rT a b) (tmK a) (tmK b) i j)) ∧ Below w.heap.size w w'
 | 0, _, _, h, _, _, _, _, _ => by omega
 | m + 1, i, j, hm, hi, hj, w, hTa, hTb => by
  have IH := zJv (fun (k l : Nat) (hk : k < m) (hkn : k < a.nodes.length) (hln : l < b.nodes.length) (W : World) (hA : TreeAt (Lt W.heap.size) W a p) (hB : TreeAt (Lt W.heap.size) W b q) => zty a b p q hWa hWb hFa hFb m k l hk hkn hln W hA hB);have IHY := zJv (fun (k l : Nat) (hkn : k < a.types.length) (hln : l < b.types.length) (W : World) (hA : TreeAt (Lt W.heap.size) W a p) (hB : TreeAt (Lt W.heap.size) W b q) => znu a b p q hWa hWb hFa hFb (k + 1) k l (by omega) hkn hln W hA hB);obtain ⟨a1, c1, a2, c2, a3, c3⟩ := p;obtain ⟨b1, d1, b2, d2, b3, d3⟩ := q;have tT := hTa.1;have uT := hTb.1;dsimp only at tT uT;have f5 : a.nodes.length ≤ 1000 := hFa.2.2.2.2.1;have f6 : a.types.length ≤ 1000 := hFa.2.2.2.2.2;have f4 : a.aliases.length ≤ 1000 := hFa.2.2.2.1;have g5 : b.nodes.length ≤ 1000 := hFb.2.2.2.2.1;have g6 : b.types.length ≤ 1000 := hFb.2.2.2.2.2;have g4 : b.aliases.length ≤ 1000 := hFb.2.2.2.1;obtain ⟨W1, hW1⟩ : ∃ W1, (w.alloc (.cells #[.slice a1 a.nodes.length c1, .slice a2 a.types.length c2, .slice a3 a.aliases.length c3] 27)).alloc (.cells #[.slice b1 b.nodes.length d1, .slice b2 b.types.length d2, .slice b3 b.aliases.length d3] 27) = W1 := ⟨_, rfl⟩;have hB1 : Below w.heap.size w W1 := by rw [← hW1]; exact ((zJx _ _).alloc (zJw _) _).alloc (by simp) _
  have hX : Blk W1 w.heap.size 27 #[.slice a1 a.nodes.length c1, .slice a2 a.types.length c2, .slice a3 a.aliases.length c3] := by rw [← hW1]; exact (Blk.new w 27 _).alloc _
  have hY : Blk W1 (w.heap.size + 1) 27 #[.slice b1 b.nodes.length d1, .slice b2 b.types.length d2, .slice b3 b.aliases.length d3] := by
   rw [← hW1];have := Blk.new (w.alloc (.cells #[.slice a1 a.nodes.length c1, .slice a2 a.types.length c2, .slice a3 a.aliases.length c3] 27)) 27 #[.slice b1 b.nodes.length d1, .slice b2 b.types.length d2, .slice b3 b.aliases.length d3];rwa [zKh] at this
  have x1 := hX.cell 0;have y1 := hY.cell 0;simp only [gA, gB] at x1 y1;have hzX := hX.lt;have hzY := hY.lt;have HX := zJv hX;have HY := zJv hY;have HTa := zJv hTa;have HTb := zJv hTb;obtain ⟨bb, off, rfl, hbb, hcell⟩ := tT (by omega);have hx := zK1 hi;obtain ⟨⟨p5, q5, p6, q6, p7, q7⟩, hq, hcq⟩ := hcell i _ hx;have hfew := hFa.1 _ (zKe hi);have hrg := (hWa.rng.nod i _ hx).1;have hrgT := (hWa.rng.nod i _ hx).2.1;obtain ⟨be, oe, rfl, hbe, hcell'⟩ := uT (by omega);have hy := zK1 hj;obtain ⟨⟨s5, t5, s6, t6, s7, t7⟩, hq', hcq'⟩ := hcell' j _ hy;have hfew' := hFb.1 _ (zKe hj);have hrg' := (hWb.rng.nod j _ hy).1;have hrgT' := (hWb.rng.nod j _ hy).2.1;have hS := zf7 (r := rT a b) (kids := tmK a) (kids' := tmK b) hWa.rng.dnN hi j;have hA : rT a b i j = (smT a.nodes[i] b.nodes[j] && all2 (same (atY a b) (tyK a) (tyK b)) (nats a.nodes[i].types) (nats b.nodes[j].types)) := by unfold rT atT tmT; rw [hx, hy]; rfl
  have hKa : tmK a i = nats a.nodes[i].kids := by unfold tmK; rw [hx]; rfl
  have hKb : tmK b j = nats b.nodes[j].kids := by unfold tmK; rw [hy]; rfl
  rw [hA, hKa, hKb] at hS;obtain ⟨x, hx'⟩ : ∃ x, a.nodes[i] = x := ⟨_, rfl⟩;obtain ⟨y, hy'⟩ : ∃ y, b.nodes[j] = y := ⟨_, rfl⟩;rw [hx'] at hq hcq hfew hrg hrgT hS;rw [hy'] at hq' hcq' hfew' hrg' hrgT' hS;obtain ⟨R, hR⟩ : ∃ R, same (rT a b) (tmK a) (tmK b) i j = R := ⟨_, rfl⟩;rw [hR] at hS ⊢;have e0 : W1.cell? ⟨bb, off + i * 8, none⟩ = some (.int .i64 x.kind) := (hB1.cell (p := ⟨bb, off + i * 8, none⟩) hbb).trans (hcq 0 _ rfl);have e1 : W1.cell? ⟨bb, off + i * 8 + 1, none⟩ = some (.int .i64 x.pos) := (hB1.cell (p := ⟨bb, off + i * 8 + 1, none⟩) hbb).trans (hcq 1 _ rfl);have e2 : W1.cell? ⟨bb, off + i * 8 + 2, none⟩ = some (.string x.name) := (hB1.cell (p := ⟨bb, off + i * 8 + 2, none⟩) hbb).trans (hcq 2 _ rfl);have e3 : W1.cell? ⟨bb, off + i * 8 + 3, none⟩ = some (.int .i64 x.int) := (hB1.cell (p := ⟨bb, off + i * 8 + 3, none⟩) hbb).trans (hcq 3 _ rfl);have e4 : W1.cell? ⟨bb, off + i * 8 + 4, none⟩ = some (.int .u64 (x.bits : Int)) := (hB1.cell (p := ⟨bb, off + i * 8 + 4, none⟩) hbb).trans (hcq 4 _ rfl);have e5 : W1.cell? ⟨bb, off + i * 8 + 5, none⟩ = some (.slice p5 x.names.length q5) := (hB1.cell (p := ⟨bb, off + i * 8 + 5, none⟩) hbb).trans (hcq 5 _ rfl);have e6 : W1.cell? ⟨bb, off + i * 8 + 6, none⟩ = some (.slice p6 x.kids.length q6) := (hB1.cell (p := ⟨bb, off + i * 8 + 6, none⟩) hbb).trans (hcq 6 _ rfl);have e7 : W1.cell? ⟨bb, off + i * 8 + 7, none⟩ = some (.slice p7 x.types.length q7) := (hB1.cell (p := ⟨bb, off + i * 8 + 7, none⟩) hbb).trans (hcq 7 _ rfl);have l0 : W1.cell? ⟨be, oe + j * 8, none⟩ = some (.int .i64 y.kind) := (hB1.cell (p := ⟨be, oe + j * 8, none⟩) hbe).trans (hcq' 0 _ rfl);have l1 : W1.cell? ⟨be, oe + j * 8 + 1, none⟩ = some (.int .i64 y.pos) := (hB1.cell (p := ⟨be, oe + j * 8 + 1, none⟩) hbe).trans (hcq' 1 _ rfl);have l2 : W1.cell? ⟨be, oe + j * 8 + 2, none⟩ = some (.string y.name) := (hB1.cell (p := ⟨be, oe + j * 8 + 2, none⟩) hbe).trans (hcq' 2 _ rfl);have l3 : W1.cell? ⟨be, oe + j * 8 + 3, none⟩ = some (.int .i64 y.int) := (hB1.cell (p := ⟨be, oe + j * 8 + 3, none⟩) hbe).trans (hcq' 3 _ rfl);have l4 : W1.cell? ⟨be, oe + j * 8 + 4, none⟩ = some (.int .u64 (y.bits : Int)) := (hB1.cell (p := ⟨be, oe + j * 8 + 4, none⟩) hbe).trans (hcq' 4 _ rfl);have l5 : W1.cell? ⟨be, oe + j * 8 + 5, none⟩ = some (.slice s5 y.names.length t5) := (hB1.cell (p := ⟨be, oe + j * 8 + 5, none⟩) hbe).trans (hcq' 5 _ rfl);have l6 : W1.cell? ⟨be, oe + j * 8 + 6, none⟩ = some (.slice s6 y.kids.length t6) := (hB1.cell (p := ⟨be, oe + j * 8 + 6, none⟩) hbe).trans (hcq' 6 _ rfl);have l7 : W1.cell? ⟨be, oe + j * 8 + 7, none⟩ = some (.slice s7 y.types.length t7) := (hB1.cell (p := ⟨be, oe + j * 8 + 7, none⟩) hbe).trans (hcq' 7 _ rfl);have HK : Hid (SlAt (Lt w.heap.size) w p6 x.kids.length (x.kids.map iv)) := zJv hq.2.1;have HK' : Hid (SlAt (Lt w.heap.size) w s6 y.kids.length (y.kids.map iv)) := zJv hq'.2.1;have HKT : Hid (SlAt (Lt w.heap.size) w p7 x.types.length (x.types.map iv)) := zJv hq.2.2;have HKT' : Hid (SlAt (Lt w.heap.size) w s7 y.types.length (y.types.map iv)) := zJv hq'.2.2;have HN : Hid (SlAt (Lt w.heap.size) w p5 x.names.length (x.names.map .string)) := zJv hq.1;have HN' : Hid (SlAt (Lt w.heap.size) w s5 y.names.length (y.names.map .string)) := zJv hq'.1;have hkl := hfew.2.2.2.1;have hkl' := hfew'.2.2.2.1;have hyl := hfew.2.2.2.2;have hyl' := hfew'.2.2.2.2;have hnl := hfew.2.1;have hnl' := hfew'.2.1;have HS := zJv hS;have HRG := zJv hrg;have HRG' := zJv hrg';have HRGT := zJv hrgT;have HRGT' := zJv hrgT';have i1 : (0 : Int) ≤ (i : Int) := by omega
  have i2 : (i : Int) < (a.nodes.length : Int) := by omega
  have j1 : (0 : Int) ≤ (j : Int) := by omega
  have j2 : (j : Int) < (b.nodes.length : Int) := by omega
  clear hX hY hTa hTb hcell hcq hcell' hcq' hq hq' hx hy hx' hy' hfew hfew' hS hR hrg hrg' hrgT hrgT' tT uT hA hKa hKb;go_enter Tryz.func22, Tryz.ntmps22
  go_wp2
  clear hW1
  have HSS : Hid (∀ W, Below W1.heap.size W1 W → (fun W => W.cell? ⟨bb, off + i * 8, none⟩ = some (.int .i64 x.kind) ∧ W.cell? ⟨bb, off + i * 8 + 1, none⟩ = some (.int .i64 x.pos) ∧ W.cell? ⟨bb, off + i * 8 + 2, none⟩ = some (.string x.name) ∧ W.cell? ⟨bb, off + i * 8 + 3, none⟩ = some (.int .i64 x.int) ∧ W.cell? ⟨bb, off + i * 8 + 4, none⟩ = some (.int .u64 (x.bits : Int)) ∧ W.cell? ⟨bb, off + i * 8 + 5, none⟩ = some (.slice p5 x.names.length q5) ∧ W.cell? ⟨bb, off + i * 8 + 6, none⟩ = some (.slice p6 x.kids.length q6) ∧ W.cell? ⟨bb, off + i * 8 + 7, none⟩ = some (.slice p7 x.types.length q7) ∧ W.cell? ⟨be, oe + j * 8, none⟩ = some (.int .i64 y.kind) ∧ W.cell? ⟨be, oe + j * 8 + 1, none⟩ = some (.int .i64 y.pos) ∧ W.cell? ⟨be, oe + j * 8 + 2, none⟩ = some (.string y.name) ∧ W.cell? ⟨be, oe + j * 8 + 3, none⟩ = some (.int .i64 y.int) ∧ W.cell? ⟨be, oe + j * 8 + 4, none⟩ = some (.int .u64 (y.bits : Int)) ∧ W.cell? ⟨be, oe + j * 8 + 5, none⟩ = some (.slice s5 y.names.length t5) ∧ W.cell? ⟨be, oe + j * 8 + 6, none⟩ = some (.slice s6 y.kids.length t6) ∧ W.cell? ⟨be, oe + j * 8 + 7, none⟩ = some (.slice s7 y.types.length t7) ∧ W.cell? ⟨w.heap.size, 0, none⟩ = some (.slice (some ⟨bb, off, none⟩) a.nodes.length c1) ∧ W.cell? ⟨w.heap.size + 1, 0, none⟩ = some (.slice (some ⟨be, oe, none⟩) b.nodes.length d1)) W) := zJv fun W hW => by
   have hl := hB1.size;refine ⟨(hW.cell (p := ⟨bb, _, none⟩) (zJy hbb hl)).trans e0, (hW.cell (p := ⟨bb, _, none⟩) (zJy hbb hl)).trans e1, (hW.cell (p := ⟨bb, _, none⟩) (zJy hbb hl)).trans e2, (hW.cell (p := ⟨bb, _, none⟩) (zJy hbb hl)).trans e3, (hW.cell (p := ⟨bb, _, none⟩) (zJy hbb hl)).trans e4, (hW.cell (p := ⟨bb, _, none⟩) (zJy hbb hl)).trans e5, (hW.cell (p := ⟨bb, _, none⟩) (zJy hbb hl)).trans e6, (hW.cell (p := ⟨bb, _, none⟩) (zJy hbb hl)).trans e7, (hW.cell (p := ⟨be, _, none⟩) (zJy hbe hl)).trans l0, (hW.cell (p := ⟨be, _, none⟩) (zJy hbe hl)).trans l1, (hW.cell (p := ⟨be, _, none⟩) (zJy hbe hl)).trans l2, (hW.cell (p := ⟨be, _, none⟩) (zJy hbe hl)).trans l3, (hW.cell (p := ⟨be, _, none⟩) (zJy hbe hl)).trans l4, (hW.cell (p := ⟨be, _, none⟩) (zJy hbe hl)).trans l5, (hW.cell (p := ⟨be, _, none⟩) (zJy hbe hl)).trans l6, (hW.cell (p := ⟨be, _, none⟩) (zJy hbe hl)).trans l7, (hW.cell (p := ⟨_, _, none⟩) hzX).trans x1, (hW.cell (p := ⟨_, _, none⟩) hzY).trans y1⟩
  go_cut [9, 10] from 11 (fun v9 v10 wx => ∃ B9 B10, v9 = .pointer (some ⟨B9, 0, none⟩) ∧ v10 = .pointer (some ⟨B10, 0, none⟩) ∧ Hid (Blk wx B9 38 #[.int .i64 x.kind, .int .i64 x.pos, .string x.name, .int .i64 x.int, .int .u64 (x.bits : Int), .slice p5 x.names.length q5, .slice p6 x.kids.length q6, .slice p7 x.types.length q7]) ∧ Hid (Blk wx B10 38 #[.int .i64 y.kind, .int .i64 y.pos, .string y.name, .int .i64 y.int, .int .u64 (y.bits : Int), .slice s5 y.names.length t5, .slice s6 y.kids.length t6, .slice s7 y.types.length t7]) ∧ Below W1.heap.size W1 wx)
  case first =>
   clear e0 e1 e2 e3 e4 e5 e6 e7 l0 l1 l2 l3 l4 l5 l6 l7 x1 y1;refine wp_region_noPanic ?_;refine wp_region_held_drew (S := fun W => W.cell? ⟨bb, off + i * 8, none⟩ = some (.int .i64 x.kind) ∧ W.cell? ⟨bb, off + i * 8 + 1, none⟩ = some (.int .i64 x.pos) ∧ W.cell? ⟨bb, off + i * 8 + 2, none⟩ = some (.string x.name) ∧ W.cell? ⟨bb, off + i * 8 + 3, none⟩ = some (.int .i64 x.int) ∧ W.cell? ⟨bb, off + i * 8 + 4, none⟩ = some (.int .u64 (x.bits : Int)) ∧ W.cell? ⟨bb, off + i * 8 + 5, none⟩ = some (.slice p5 x.names.length q5) ∧ W.cell? ⟨bb, off + i * 8 + 6, none⟩ = some (.slice p6 x.kids.length q6) ∧ W.cell? ⟨bb, off + i * 8 + 7, none⟩ = some (.slice p7 x.types.length q7) ∧ W.cell? ⟨be, oe + j * 8, none⟩ = some (.int .i64 y.kind) ∧ W.cell? ⟨be, oe + j * 8 + 1, none⟩ = some (.int .i64 y.pos) ∧ W.cell? ⟨be, oe + j * 8 + 2, none⟩ = some (.string y.name) ∧ W.cell? ⟨be, oe + j * 8 + 3, none⟩ = some (.int .i64 y.int) ∧ W.cell? ⟨be, oe + j * 8 + 4, none⟩ = some (.int .u64 (y.bits : Int)) ∧ W.cell? ⟨be, oe + j * 8 + 5, none⟩ = some (.slice s5 y.names.length t5) ∧ W.cell? ⟨be, oe + j * 8 + 6, none⟩ = some (.slice s6 y.kids.length t6) ∧ W.cell? ⟨be, oe + j * 8 + 7, none⟩ = some (.slice s7 y.types.length t7) ∧ W.cell? ⟨w.heap.size, 0, none⟩ = some (.slice (some ⟨bb, off, none⟩) a.nodes.length c1) ∧ W.cell? ⟨w.heap.size + 1, 0, none⟩ = some (.slice (some ⟨be, oe, none⟩) b.nodes.length d1)) (by kernel_rfl) (HSS.out _ (Below.drew (zJx _ _))) (fun hHeld => ?_);refine tkH 0 ?_;try simp only [Act.put, sA, sB, sC]
   refine tkH 1 ?_;try simp only [Act.put, sA, sB, sC]
   refine tkH 2 ?_;try simp only [Act.put, sA, sB, sC]
   refine tkH 3 ?_;try simp only [Act.put, sA, sB, sC]
   refine tkH 4 ?_;try simp only [Act.put, sA, sB, sC]
   refine tkH 5 ?_;try simp only [Act.put, sA, sB, sC]
   refine tkH 6 ?_;try simp only [Act.put, sA, sB, sC]
   refine tkH 7 ?_;try simp only [Act.put, sA, sB, sC]
   refine tkH 8 ?_;try simp only [Act.put, sA, sB, sC]
   refine tkH 9 ?_;try simp only [Act.put, sA, sB, sC]
   refine wpAnyH_ready (rs := [10, 11]) (by kernel_rfl) (by simp) ?_;refine (AllReadyH.cons (by simp only [gA, gB, gC]; rfl) (fun K hK => ?st29) (AllReadyH.cons (by simp only [gA, gB, gC]; rfl) (fun K hK => ?st30) AllReadyH.nil))
   case st29 =>
    go_simp
    refine hK.out _ _ ?hS29 (fun hHeld => ?_)
    case hS29 => exact HSS.out _ (by repeat (first | (with_reducible exact zJx _ _) | (with_reducible refine Below.drew ?_) | (with_reducible refine Below.alloc ?_ (by simp) _)))
    clear hK K;try simp only [Act.put, sA, sB, sC]
    refine rdH 11 (fun K hK => ?st31)
    case st31 =>
     go_simp
     refine hK.out _ _ ?hS31 (fun hHeld => ?_)
     case hS31 => exact HSS.out _ (by repeat (first | (with_reducible exact zJx _ _) | (with_reducible refine Below.drew ?_) | (with_reducible refine Below.alloc ?_ (by simp) _)))
     clear hK K;try simp only [Act.put, sA, sB, sC]
     refine rdH 12 (fun K hK => ?st32)
     case st32 =>
      go_simp
      refine hK.out _ _ ?hS32 (fun hHeld => ?_)
      case hS32 => exact HSS.out _ (by repeat (first | (with_reducible exact zJx _ _) | (with_reducible refine Below.drew ?_) | (with_reducible refine Below.alloc ?_ (by simp) _)))
      clear hK K;try simp only [Act.put, sA, sB, sC]
      refine rdH 13 (fun K hK => ?st33)
      case st33 =>
       go_simp
       refine hK.out _ _ ?hS33 (fun hHeld => ?_)
       case hS33 => exact HSS.out _ (by repeat (first | (with_reducible exact zJx _ _) | (with_reducible refine Below.drew ?_) | (with_reducible refine Below.alloc ?_ (by simp) _)))
       clear hK K;try simp only [Act.put, sA, sB, sC]
       refine wpAnyH_done (by kernel_rfl) ?_ _;refine NoPanic.normal ?_;go_wp2_with fail
       go_meet
       case rel => exact ⟨_, _, rfl, rfl, zJv ((Blk.new W1 38 _).alloc _), zJv (by have := Blk.new (W1.alloc (.cells #[.int .i64 x.kind, .int .i64 x.pos, .string x.name, .int .i64 x.int, .int .u64 (x.bits : Int), .slice p5 x.names.length q5, .slice p6 x.kids.length q6, .slice p7 x.types.length q7] 38)) 38 #[.int .i64 y.kind, .int .i64 y.pos, .string y.name, .int .i64 y.int, .int .u64 (y.bits : Int), .slice s5 y.names.length t5, .slice s6 y.kids.length t6, .slice s7 y.types.length t7]; rwa [zKh] at this), (by repeat (first | (with_reducible exact zJx _ _) | (with_reducible refine Below.drew ?_) | (with_reducible refine Below.alloc ?_ (by simp) _)))⟩
   case st30 =>
    go_simp
    refine hK.out _ _ ?hS30 (fun hHeld => ?_)
    case hS30 => exact HSS.out _ (by repeat (first | (with_reducible exact zJx _ _) | (with_reducible refine Below.drew ?_) | (with_reducible refine Below.alloc ?_ (by simp) _)))
    clear hK K;try simp only [Act.put, sA, sB, sC]
    refine rdH 10 (fun K hK => ?st34)
    case st34 =>
     go_simp
     refine hK.out _ _ ?hS34 (fun hHeld => ?_)
     case hS34 => exact HSS.out _ (by repeat (first | (with_reducible exact zJx _ _) | (with_reducible refine Below.drew ?_) | (with_reducible refine Below.alloc ?_ (by simp) _)))
     clear hK K;try simp only [Act.put, sA, sB, sC]
     refine rdH 12 (fun K hK => ?st35)
     case st35 =>
      go_simp
      refine hK.out _ _ ?hS35 (fun hHeld => ?_)
      case hS35 => exact HSS.out _ (by repeat (first | (with_reducible exact zJx _ _) | (with_reducible refine Below.drew ?_) | (with_reducible refine Below.alloc ?_ (by simp) _)))
      clear hK K;try simp only [Act.put, sA, sB, sC]
      refine rdH 13 (fun K hK => ?st36)
      case st36 =>
       go_simp
       refine hK.out _ _ ?hS36 (fun hHeld => ?_)
       case hS36 => exact HSS.out _ (by repeat (first | (with_reducible exact zJx _ _) | (with_reducible refine Below.drew ?_) | (with_reducible refine Below.alloc ?_ (by simp) _)))
       clear hK K;try simp only [Act.put, sA, sB, sC]
       refine wpAnyH_done (by kernel_rfl) ?_ _;refine NoPanic.normal ?_;go_wp2_with fail
       go_meet
       case rel => exact ⟨_, _, rfl, rfl, zJv (by have := Blk.new (W1.alloc (.cells #[.int .i64 y.kind, .int .i64 y.pos, .string y.name, .int .i64 y.int, .int .u64 (y.bits : Int), .slice s5 y.names.length t5, .slice s6 y.kids.length t6, .slice s7 y.types.length t7] 38)) 38 #[.int .i64 x.kind, .int .i64 x.pos, .string x.name, .int .i64 x.int, .int .u64 (x.bits : Int), .slice p5 x.names.length q5, .slice p6 x.kids.length q6, .slice p7 x.types.length q7]; rwa [zKh] at this), zJv ((Blk.new W1 38 _).alloc _), (by repeat (first | (with_reducible exact zJx _ _) | (with_reducible refine Below.drew ?_) | (with_reducible refine Below.alloc ?_ (by simp) _)))⟩
  case rest =>
   obtain ⟨B9, B10, rfl, rfl, HX9, HX10, hBc⟩ := hcut;have hBw : Below w.heap.size w wc := hB1.trans (hBc.mono hB1.size);have h9 := HX9.out.lt;have h10 := HX10.out.lt;have hszc := hBc.size;clear e0 e1 e2 e3 e4 e5 e6 e7 l0 l1 l2 l3 l4 l5 l6 l7 x1 y1 HSS;have m0 := HX9.out.cell 0;have m1 := HX9.out.cell 1;have m2 := HX9.out.cell 2;have m3 := HX9.out.cell 3;have m4 := HX9.out.cell 4;have m5 := HX9.out.cell 5;have m6 := HX9.out.cell 6;have m7 := HX9.out.cell 7;simp only [gA, gB, gC] at m0 m1 m2 m3 m4 m5 m6 m7;have u0 := HX10.out.cell 0;have u1 := HX10.out.cell 1;have u2 := HX10.out.cell 2;have u3 := HX10.out.cell 3;have u4 := HX10.out.cell 4;have u5 := HX10.out.cell 5;have u6 := HX10.out.cell 6;have u7 := HX10.out.cell 7;simp only [gA, gB, gC] at u0 u1 u2 u3 u4 u5 u6 u7;have k67 : Hid (∀ W, Below wc.heap.size wc W → Calls Tryz.prog 27 #[.slice p5 x.names.length q5, .slice s5 y.names.length t5] W fun e w' => e = .returned (.bool (decide (x.names = y.names))) ∧ Below W.heap.size W w') := zJv fun W hW => zqg p5 s5 q5 t5 x.names y.names W (zjx HN.out (hBw.trans (hW.mono (by have := hBw.size; omega)))) (zjx HN'.out (hBw.trans (hW.mono (by have := hBw.size; omega)))) (by omega) (by omega);obtain ⟨n9, hn9⟩ : ∃ c, decide (x.names = y.names) = c := ⟨_, rfl⟩;have hp9 : (x.names = y.names) ↔ n9 = true := by rw [← hn9, zKq]
   rw [hn9] at k67;obtain ⟨n0, hn0⟩ : ∃ c, (x.kind != y.kind) = c := ⟨_, rfl⟩;have hq0 : (x.kind == y.kind) = !n0 := by rw [← hn0]; first | (simp only [bne, Bool.not_not]) | (cases ((x.kind != y.kind)) <;> rfl)
   have hp0 : (x.kind = y.kind) ↔ n0 = false := by rw [← hn0, bne_eq_false_iff_eq]
   obtain ⟨n1, hn1⟩ : ∃ c, (x.name.toList != y.name.toList) = c := ⟨_, rfl⟩;have hq1 : (x.name.toList == y.name.toList) = !n1 := by rw [← hn1]; first | (simp only [bne, Bool.not_not]) | (cases ((x.name.toList != y.name.toList)) <;> rfl)
   have hp1 : (x.name = y.name) ↔ n1 = false := by rw [← hn1, bne_eq_false_iff_eq]; exact ⟨fun e => by rw [e], toList_inj⟩
   obtain ⟨n2, hn2⟩ : ∃ c, (x.int != y.int) = c := ⟨_, rfl⟩;have hq2 : (x.int == y.int) = !n2 := by rw [← hn2]; first | (simp only [bne, Bool.not_not]) | (cases ((x.int != y.int)) <;> rfl)
   have hp2 : (x.int = y.int) ↔ n2 = false := by rw [← hn2, bne_eq_false_iff_eq]
   obtain ⟨n3, hn3⟩ : ∃ c, ((x.bits : Int) != (y.bits : Int)) = c := ⟨_, rfl⟩;have hq3 : ((x.bits : Int) == (y.bits : Int)) = !n3 := by rw [← hn3]; first | (simp only [bne, Bool.not_not]) | (cases (((x.bits : Int) != (y.bits : Int))) <;> rfl)
   have hp3 : (x.bits = y.bits) ↔ n3 = false := by rw [← hn3, bne_eq_false_iff_eq]; omega
   have hRR : R = (!n0 && !n1 && !n2 && !n3 && n9 && decide (x.kids.length = y.kids.length) && all2 (same (atY a b) (tyK a) (tyK b)) (nats x.types) (nats y.types) && all2 (same (rT a b) (tmK a) (tmK b)) (nats x.kids) (nats y.kids)) := by
    rw [HS.out];congr 1
    congr 1
    unfold smT;simp only [hp0, hp1, hp2, hp3, hp9, Bool.decide_and, Bool.and_assoc];cases n0 <;> cases n1 <;> cases n2 <;> cases n3 <;> cases n9 <;> rfl
   have HRR := zJv hRR;clear hRR hp0 hp1 hp2 hp3 hp9 hn9;cases n0
   case true =>
    simp only [Bool.not_true] at hq0;have hf : R = false := by rw [HRR.out]; simp
    subst hf;clear HRR HS;go_wp2
    go_ret;exact ⟨rfl, hBw⟩
   case false =>
    simp only [Bool.not_false] at hq0;cases n1
    case true =>
     simp only [Bool.not_true] at hq1;have hf : R = false := by rw [HRR.out]; simp
     subst hf;clear HRR HS;go_wp2
     go_ret;exact ⟨rfl, hBw⟩
    case false =>
     simp only [Bool.not_false] at hq1;cases n2
     case true =>
      simp only [Bool.not_true] at hq2;have hf : R = false := by rw [HRR.out]; simp
      subst hf;clear HRR HS;go_wp2
      go_ret;exact ⟨rfl, hBw⟩
     case false =>
      simp only [Bool.not_false] at hq2;cases n3
      case true =>
       simp only [Bool.not_true] at hq3;have hf : R = false := by rw [HRR.out]; simp
       subst hf;clear HRR HS;go_wp2
       go_ret;exact ⟨rfl, hBw⟩
      case false =>
       simp only [Bool.not_false] at hq3;cases n9
       case false =>
        have hf : R = false := by rw [HRR.out]; simp
        subst hf;clear HRR HS;go_wp2_with (go_at_call 27; refine (k67.out _ (by exact zJx _ _)).mono ?_; rintro e w3 ⟨rfl, hb3⟩; have hB3 := hBw.trans (hb3.mono (by have := hBw.size; omega)))
        go_ret;exact ⟨rfl, hB3⟩
       case true =>
        by_cases hlen : x.kids.length = y.kids.length
        case neg =>
         have hf : R = false := by rw [HRR.out, decide_eq_false hlen]; simp
         subst hf;have hne : ((x.kids.length : Int) != (y.kids.length : Int)) = true := by rw [bne_iff_ne]; omega
         clear HRR HS;go_wp2_with (go_at_call 27; refine (k67.out _ (by exact zJx _ _)).mono ?_; rintro e w3 ⟨rfl, hb3⟩; have hB3 := hBw.trans (hb3.mono (by have := hBw.size; omega)); have m6 := (hb3.cell (p := ⟨B9, 6, none⟩) h9).trans m6; have u6 := (hb3.cell (p := ⟨B10, 6, none⟩) h10).trans u6; clear hb3)
         go_ret;exact ⟨rfl, hB3⟩
        case pos =>
         have hne : ((x.kids.length : Int) != (y.kids.length : Int)) = false := by rw [bne_eq_false_iff_eq]; omega
         have HLEN := zJv hlen;by_cases hlenT : x.types.length = y.types.length
         case neg =>
          have hf : R = false := by rw [HRR.out, zjr (f := (same (atY a b) (tyK a) (tyK b))) (by unfold nats; rw [zKd, zKd]; exact hlenT)]; simp
          subst hf;have hneT : ((x.types.length : Int) != (y.types.length : Int)) = true := by rw [bne_iff_ne]; omega
          clear HRR HS hlen;go_wp2_with (go_at_call 27; refine (k67.out _ (by exact zJx _ _)).mono ?_; rintro e w3 ⟨rfl, hb3⟩; have hB3 := hBw.trans (hb3.mono (by have := hBw.size; omega)); have m6 := (hb3.cell (p := ⟨B9, 6, none⟩) h9).trans m6; have u6 := (hb3.cell (p := ⟨B10, 6, none⟩) h10).trans u6; have m7 := (hb3.cell (p := ⟨B9, 7, none⟩) h9).trans m7; have u7 := (hb3.cell (p := ⟨B10, 7, none⟩) h10).trans u7; clear hb3)
          go_ret;exact ⟨rfl, hB3⟩
         case pos =>
          have hneT : ((x.types.length : Int) != (y.types.length : Int)) = false := by rw [bne_eq_false_iff_eq]; omega
          have HLENT := zJv hlenT;have HRF : Hid (R = (all2 (same (atY a b) (tyK a) (tyK b)) (nats x.types) (nats y.types) && all2 (same (rT a b) (tmK a) (tmK b)) (nats x.kids) (nats y.kids))) := zJv (by rw [HRR.out, decide_eq_true hlen]; rfl);have HX4 := zJv (HX.out.below hBc hzX);have HY4 := zJv (HY.out.below hBc hzY);clear hlen hlenT HRR HS;go_wp2_with (go_at_call 27; refine (k67.out _ (by exact zJx _ _)).mono ?_; rintro e w3 ⟨rfl, hb3⟩; have hB3 := hBw.trans (hb3.mono (by have := hBw.size; omega)); have HM := zJv (HX9.out.below hb3 h9); have HU := zJv (HX10.out.below hb3 h10); have HXc := zJv (HX4.out.below hb3 (zJy hzX hszc)); have HYc := zJv (HY4.out.below hb3 (zJy hzY hszc)); have m6 := (hb3.cell (p := ⟨B9, 6, none⟩) h9).trans m6; have u6 := (hb3.cell (p := ⟨B10, 6, none⟩) h10).trans u6; have m7 := (hb3.cell (p := ⟨B9, 7, none⟩) h9).trans m7; have u7 := (hb3.cell (p := ⟨B10, 7, none⟩) h10).trans u7; have k9 := zJy h9 hb3.size; have k10 := zJy h10 hb3.size; clear hb3)
          have hz3 := hB3.size;obtain ⟨WS, hWS⟩ : ∃ WS, WS = w3 := ⟨w3, rfl⟩;subst hWS;go_loopw [11, 78] (fun _ k0 wr => ∃ (k : Nat), k ≤ x.kids.length ∧ k0 = .int .i64 k ∧ Hid (all2 (same (rT a b) (tmK a) (tmK b)) ((nats x.kids).take k) ((nats y.kids).take k) = true) ∧ Below WS.heap.size WS wr) (fun _ k0 _ => x.kids.length - (intOf k0).toNat)
          case atStart => exact ⟨0, zK8 _, rfl, zJv (by simp [all2]), zJx _ _⟩
          case round =>
           obtain ⟨k, hk, rfl, HT, hB⟩ := hrel;have hBr : Below w.heap.size w wr := hB3.trans (hB.mono hz3);have hzr := hB.size;by_cases hlt : k < x.kids.length
           · have hlt' : k < y.kids.length := by have := HLEN.out; omega
             have lx : k < (nats x.kids).length := by unfold nats; rw [zKd]; exact hlt
             have ly : k < (nats y.kids).length := by unfold nats; rw [zKd]; exact hlt'
             have gx : (nats x.kids)[k] = (x.kids[k]).toNat := by simp [nats]
             have gy : (nats y.kids)[k] = (y.kids[k]).toNat := by simp [nats]
             have HGOOD := zJv (zha lx ly HT.out);have HBAD := zJv (ziq (f := (same (rT a b) (tmK a) (tmK b))) lx ly);rw [gx, gy] at HGOOD HBAD;obtain ⟨bx, ox, rfl, hwx, hcx⟩ := HK.out.at_ hlt;obtain ⟨by_, oy, rfl, hwy, hcy⟩ := HK'.out.at_ hlt';have f1 := (hBr.cell (p := ⟨bx, ox + k, none⟩) hwx).trans (hcx k (iv x.kids[k]) (by simp [hlt]));have f2 := (hBr.cell (p := ⟨by_, oy + k, none⟩) hwy).trans (hcy k (iv y.kids[k]) (by simp [hlt']));unfold iv at f1 f2;have hlx : bx < wr.heap.size := zJy hwx hBr.size;have hly : by_ < wr.heap.size := zJy hwy hBr.size;have hz1 := HRG.out _ (zKe hlt);have hz2 := HRG'.out _ (zKe hlt');obtain ⟨z, hz⟩ : ∃ z, x.kids[k] = z := ⟨_, rfl⟩;obtain ⟨z', hz'⟩ : ∃ z, y.kids[k] = z := ⟨_, rfl⟩;rw [hz] at f1 hz1;rw [hz'] at f2 hz2;rw [hz, hz'] at HGOOD HBAD;obtain ⟨k1, hk1⟩ : ∃ n : Nat, z = (n : Int) := ⟨z.toNat, by omega⟩;obtain ⟨k2, hk2⟩ : ∃ n : Nat, z' = (n : Int) := ⟨z'.toNat, by omega⟩;subst hk1;subst hk2;rw [Int.toNat_natCast, Int.toNat_natCast] at HGOOD HBAD;have kI : Hid (∀ W, Below wr.heap.size wr W → Calls Tryz.prog 22 #[treeV a ⟨some ⟨bb, off, none⟩, c1, a2, c2, a3, c3⟩, .int .i64 (k1 : Int), treeV b ⟨some ⟨be, oe, none⟩, d1, b2, d2, b3, d3⟩, .int .i64 (k2 : Int)] W fun e w' => e = .returned (.bool ((same (rT a b) (tmK a) (tmK b)) k1 k2)) ∧ Below W.heap.size W w') := zJv fun W hW => IH.out k1 k2 (by omega) (by omega) (by omega) W (zc7 HTa.out (hBr.trans (hW.mono hBr.size))) (zc7 HTb.out (hBr.trans (hW.mono hBr.size)));obtain ⟨Q, hQ⟩ : ∃ Q, (same (rT a b) (tmK a) (tmK b)) k1 k2 = Q := ⟨_, rfl⟩;rw [hQ] at kI HGOOD HBAD;unfold treeV at kI;dsimp only at kI;have HXr := zJv (HXc.out.below hB HXc.out.lt);have HYr := zJv (HYc.out.below hB HYc.out.lt);have HMr := zJv (HM.out.below hB k9);have HUr := zJv (HU.out.below hB k10);have xl := HXr.out.lt;have yl := HYr.out.lt;have ml := HMr.out.lt;have ul := HUr.out.lt
             have HSS : Hid (∀ W, Below wr.heap.size wr W → (fun W : World => W.cell? ⟨w.heap.size, 0, none⟩ = some (.slice (some ⟨bb, off, none⟩) a.nodes.length c1) ∧ W.cell? ⟨w.heap.size, 1, none⟩ = some (.slice a2 a.types.length c2) ∧ W.cell? ⟨w.heap.size, 2, none⟩ = some (.slice a3 a.aliases.length c3) ∧ W.cell? ⟨w.heap.size + 1, 0, none⟩ = some (.slice (some ⟨be, oe, none⟩) b.nodes.length d1) ∧ W.cell? ⟨w.heap.size + 1, 1, none⟩ = some (.slice b2 b.types.length d2) ∧ W.cell? ⟨w.heap.size + 1, 2, none⟩ = some (.slice b3 b.aliases.length d3) ∧ W.cell? ⟨B9, 6, none⟩ = some (.slice (some ⟨bx, ox, none⟩) x.kids.length q6) ∧ W.cell? ⟨B10, 6, none⟩ = some (.slice (some ⟨by_, oy, none⟩) y.kids.length t6) ∧ W.cell? ⟨bx, ox + k, none⟩ = some (.int .i64 (k1 : Int)) ∧ W.cell? ⟨by_, oy + k, none⟩ = some (.int .i64 (k2 : Int)) ∧ Below wr.heap.size wr W) W) := zJv fun W hW => by
              have A := HXr.out.below hW xl;have B := HYr.out.below hW yl;have C := HMr.out.below hW ml;have D := HUr.out.below hW ul;have A0 := A.cell 0;have A1 := A.cell 1;have A2 := A.cell 2;have B0 := B.cell 0;have B1 := B.cell 1;have B2 := B.cell 2;have C4 := C.cell 6;have D4 := D.cell 6;simp only [gA, gB, gC] at A0 A1 A2 B0 B1 B2 C4 D4;exact ⟨A0, A1, A2, B0, B1, B2, C4, D4, (hW.cell (p := ⟨bx, _, none⟩) hlx).trans f1, (hW.cell (p := ⟨by_, _, none⟩) hly).trans f2, hW⟩
             have i1 : (0 : Int) ≤ (k : Int) := by omega
             have i2 : (k : Int) < (x.kids.length : Int) := by omega
             have i3 : (k : Int) < (y.kids.length : Int) := by omega
             have hB0 := zJx wr.heap.size wr;clear hz hz' hQ f1 f2 gx gy lx ly m6 u6 m7 u7 hwx hwy hcx hcy;go_wp2_with fail
             refine wp_region_noPanic ?_;refine wp_region_held_drew (S := fun W => W.cell? ⟨w.heap.size, 0, none⟩ = some (.slice (some ⟨bb, off, none⟩) a.nodes.length c1) ∧ W.cell? ⟨w.heap.size, 1, none⟩ = some (.slice a2 a.types.length c2) ∧ W.cell? ⟨w.heap.size, 2, none⟩ = some (.slice a3 a.aliases.length c3) ∧ W.cell? ⟨w.heap.size + 1, 0, none⟩ = some (.slice (some ⟨be, oe, none⟩) b.nodes.length d1) ∧ W.cell? ⟨w.heap.size + 1, 1, none⟩ = some (.slice b2 b.types.length d2) ∧ W.cell? ⟨w.heap.size + 1, 2, none⟩ = some (.slice b3 b.aliases.length d3) ∧ W.cell? ⟨B9, 6, none⟩ = some (.slice (some ⟨bx, ox, none⟩) x.kids.length q6) ∧ W.cell? ⟨B10, 6, none⟩ = some (.slice (some ⟨by_, oy, none⟩) y.kids.length t6) ∧ W.cell? ⟨bx, ox + k, none⟩ = some (.int .i64 (k1 : Int)) ∧ W.cell? ⟨by_, oy + k, none⟩ = some (.int .i64 (k2 : Int)) ∧ Below wr.heap.size wr W) (by kernel_rfl) (HSS.out _ (Below.drew hB0)) (fun hHeld => ?_);refine tkH 0 ?_;try simp only [Act.put, sA, sB, sC]
             refine tkH 1 ?_;try simp only [Act.put, sA, sB, sC]
             refine tkH 2 ?_;try simp only [Act.put, sA, sB, sC]
             refine tkH 3 ?_;try simp only [Act.put, sA, sB, sC]
             refine tkH 4 ?_;try simp only [Act.put, sA, sB, sC]
             refine tkH 5 ?_;try simp only [Act.put, sA, sB, sC]
             refine tkH 6 ?_;try simp only [Act.put, sA, sB, sC]
             refine tkH 7 ?_;try simp only [Act.put, sA, sB, sC]
             refine tkH 8 ?_;try simp only [Act.put, sA, sB, sC]
             refine tkH 9 ?_;try simp only [Act.put, sA, sB, sC]
             refine tkH 10 ?_;try simp only [Act.put, sA, sB, sC]
             refine tkH 11 ?_;try simp only [Act.put, sA, sB, sC]
             refine rdH 12 (fun K hK => ?_);go_simp; go_at_call 22; (with_reducible refine (kI.out _ (Below.drew hB0)).mono ?_); rintro e w6 ⟨rfl, b6'⟩; have b6 := (Below.drew hB0).trans (b6'.mono (by exact zJw _))
             go_wp2_with fail
             refine hK.out _ _ ?hSq13 (fun hHeld => ?_)
             case hSq13 => exact HSS.out _ b6
             clear hK K;try simp only [Act.put, sA, sB, sC]
             refine tkH 13 ?_;try simp only [Act.put, sA, sB, sC]
             refine wpAnyH_done (by kernel_rfl) ?_ _;refine NoPanic.normal ?_;cases Q
             · have hRf := HBAD.out rfl
               have HF : Hid (R = false) := zJv (by rw [HRF.out, hRf]; simp);clear hRf HBAD HGOOD HRF;go_wp2
               go_ret;exact ⟨za7 HF.out.symm, hBr.trans (b6.mono hBr.size)⟩
             · have HG := zJv (HGOOD.out rfl)
               clear HBAD HGOOD;go_wp2
               go_roundw
               case rel => exact ⟨k + 1, by omega, by go_num, HG, hB.trans (b6.mono hzr)⟩
               case measure => simp [intOf]; omega
           · obtain rfl : k = x.kids.length := by omega
             have HA1 : Hid (all2 (same (rT a b) (tmK a) (tmK b)) (nats x.kids) (nats y.kids) = true) := zJv (by have h := HT.out; rw [List.take_of_length_le (by unfold nats; rw [zKd]; omega), List.take_of_length_le (by unfold nats; rw [zKd]; have := HLEN.out; omega)] at h; exact h);have HM2 := zJv (HM.out.below hB k9);have HU2 := zJv (HU.out.below hB k10);have HX2 := zJv (HXc.out.below hB HXc.out.lt);have HY2 := zJv (HYc.out.below hB HYc.out.lt);clear HM HU HXc HYc k9 k10 m6 u6 m7 u7 HT;have HM := HM2;have HU := HU2;have HXc := HX2;have HYc := HY2;have k9 := HM.out.lt;have k10 := HU.out.lt;have m7 := HM.out.cell 7;have u7 := HU.out.cell 7;simp only [gA, gB, gC] at m7 u7;clear HM2 HU2 HX2 HY2 hB3;have hB3 := hBr;clear hBr;go_wp2
             have hz3 := hB3.size;obtain ⟨WS, hWS⟩ : ∃ WS, WS = wr := ⟨wr, rfl⟩;subst hWS;go_loopw [12, 99] (fun _ k0 wr => ∃ (k : Nat), k ≤ x.types.length ∧ k0 = .int .i64 k ∧ Hid (all2 (same (atY a b) (tyK a) (tyK b)) ((nats x.types).take k) ((nats y.types).take k) = true) ∧ Below WS.heap.size WS wr) (fun _ k0 _ => x.types.length - (intOf k0).toNat)
             case atStart => exact ⟨0, zK8 _, rfl, zJv (by simp [all2]), zJx _ _⟩
             case round =>
              obtain ⟨k, hk, rfl, HT, hB⟩ := hrel;have hBr : Below w.heap.size w wr := hB3.trans (hB.mono hz3);have hzr := hB.size;by_cases hlt : k < x.types.length
              · have hlt' : k < y.types.length := by have := HLENT.out; omega
                have lx : k < (nats x.types).length := by unfold nats; rw [zKd]; exact hlt
                have ly : k < (nats y.types).length := by unfold nats; rw [zKd]; exact hlt'
                have gx : (nats x.types)[k] = (x.types[k]).toNat := by simp [nats]
                have gy : (nats y.types)[k] = (y.types[k]).toNat := by simp [nats]
                have HGOOD := zJv (zha lx ly HT.out);have HBAD := zJv (ziq (f := (same (atY a b) (tyK a) (tyK b))) lx ly);rw [gx, gy] at HGOOD HBAD;obtain ⟨bx, ox, rfl, hwx, hcx⟩ := HKT.out.at_ hlt;obtain ⟨by_, oy, rfl, hwy, hcy⟩ := HKT'.out.at_ hlt';have f1 := (hBr.cell (p := ⟨bx, ox + k, none⟩) hwx).trans (hcx k (iv x.types[k]) (by simp [hlt]));have f2 := (hBr.cell (p := ⟨by_, oy + k, none⟩) hwy).trans (hcy k (iv y.types[k]) (by simp [hlt']));unfold iv at f1 f2;have hlx : bx < wr.heap.size := zJy hwx hBr.size;have hly : by_ < wr.heap.size := zJy hwy hBr.size;have hz1 := HRGT.out _ (zKe hlt);have hz2 := HRGT'.out _ (zKe hlt');obtain ⟨z, hz⟩ : ∃ z, x.types[k] = z := ⟨_, rfl⟩;obtain ⟨z', hz'⟩ : ∃ z, y.types[k] = z := ⟨_, rfl⟩;rw [hz] at f1 hz1;rw [hz'] at f2 hz2;rw [hz, hz'] at HGOOD HBAD;obtain ⟨k1, hk1⟩ : ∃ n : Nat, z = (n : Int) := ⟨z.toNat, by omega⟩;obtain ⟨k2, hk2⟩ : ∃ n : Nat, z' = (n : Int) := ⟨z'.toNat, by omega⟩;subst hk1;subst hk2;rw [Int.toNat_natCast, Int.toNat_natCast] at HGOOD HBAD;have kI : Hid (∀ W, Below wr.heap.size wr W → Calls Tryz.prog 14 #[treeV a ⟨some ⟨bb, off, none⟩, c1, a2, c2, a3, c3⟩, .int .i64 (k1 : Int), treeV b ⟨some ⟨be, oe, none⟩, d1, b2, d2, b3, d3⟩, .int .i64 (k2 : Int)] W fun e w' => e = .returned (.bool ((same (atY a b) (tyK a) (tyK b)) k1 k2)) ∧ Below W.heap.size W w') := zJv fun W hW => IHY.out k1 k2 (by omega) (by omega) W (zc7 HTa.out (hBr.trans (hW.mono hBr.size))) (zc7 HTb.out (hBr.trans (hW.mono hBr.size)));obtain ⟨Q, hQ⟩ : ∃ Q, (same (atY a b) (tyK a) (tyK b)) k1 k2 = Q := ⟨_, rfl⟩;rw [hQ] at kI HGOOD HBAD;unfold treeV at kI;dsimp only at kI;have HXr := zJv (HXc.out.below hB HXc.out.lt);have HYr := zJv (HYc.out.below hB HYc.out.lt);have HMr := zJv (HM.out.below hB k9);have HUr := zJv (HU.out.below hB k10);have xl := HXr.out.lt;have yl := HYr.out.lt;have ml := HMr.out.lt;have ul := HUr.out.lt
                have HSS : Hid (∀ W, Below wr.heap.size wr W → (fun W : World => W.cell? ⟨w.heap.size, 0, none⟩ = some (.slice (some ⟨bb, off, none⟩) a.nodes.length c1) ∧ W.cell? ⟨w.heap.size, 1, none⟩ = some (.slice a2 a.types.length c2) ∧ W.cell? ⟨w.heap.size, 2, none⟩ = some (.slice a3 a.aliases.length c3) ∧ W.cell? ⟨w.heap.size + 1, 0, none⟩ = some (.slice (some ⟨be, oe, none⟩) b.nodes.length d1) ∧ W.cell? ⟨w.heap.size + 1, 1, none⟩ = some (.slice b2 b.types.length d2) ∧ W.cell? ⟨w.heap.size + 1, 2, none⟩ = some (.slice b3 b.aliases.length d3) ∧ W.cell? ⟨B9, 7, none⟩ = some (.slice (some ⟨bx, ox, none⟩) x.types.length q7) ∧ W.cell? ⟨B10, 7, none⟩ = some (.slice (some ⟨by_, oy, none⟩) y.types.length t7) ∧ W.cell? ⟨bx, ox + k, none⟩ = some (.int .i64 (k1 : Int)) ∧ W.cell? ⟨by_, oy + k, none⟩ = some (.int .i64 (k2 : Int)) ∧ Below wr.heap.size wr W) W) := zJv fun W hW => by
                 have A := HXr.out.below hW xl;have B := HYr.out.below hW yl;have C := HMr.out.below hW ml;have D := HUr.out.below hW ul;have A0 := A.cell 0;have A1 := A.cell 1;have A2 := A.cell 2;have B0 := B.cell 0;have B1 := B.cell 1;have B2 := B.cell 2;have C4 := C.cell 7;have D4 := D.cell 7;simp only [gA, gB, gC] at A0 A1 A2 B0 B1 B2 C4 D4;exact ⟨A0, A1, A2, B0, B1, B2, C4, D4, (hW.cell (p := ⟨bx, _, none⟩) hlx).trans f1, (hW.cell (p := ⟨by_, _, none⟩) hly).trans f2, hW⟩
                have i1 : (0 : Int) ≤ (k : Int) := by omega
                have i2 : (k : Int) < (x.types.length : Int) := by omega
                have i3 : (k : Int) < (y.types.length : Int) := by omega
                have hB0 := zJx wr.heap.size wr;clear hz hz' hQ f1 f2 gx gy lx ly m7 u7 hwx hwy hcx hcy;go_wp2_with fail
                refine wp_region_noPanic ?_;refine wp_region_held_drew (S := fun W => W.cell? ⟨w.heap.size, 0, none⟩ = some (.slice (some ⟨bb, off, none⟩) a.nodes.length c1) ∧ W.cell? ⟨w.heap.size, 1, none⟩ = some (.slice a2 a.types.length c2) ∧ W.cell? ⟨w.heap.size, 2, none⟩ = some (.slice a3 a.aliases.length c3) ∧ W.cell? ⟨w.heap.size + 1, 0, none⟩ = some (.slice (some ⟨be, oe, none⟩) b.nodes.length d1) ∧ W.cell? ⟨w.heap.size + 1, 1, none⟩ = some (.slice b2 b.types.length d2) ∧ W.cell? ⟨w.heap.size + 1, 2, none⟩ = some (.slice b3 b.aliases.length d3) ∧ W.cell? ⟨B9, 7, none⟩ = some (.slice (some ⟨bx, ox, none⟩) x.types.length q7) ∧ W.cell? ⟨B10, 7, none⟩ = some (.slice (some ⟨by_, oy, none⟩) y.types.length t7) ∧ W.cell? ⟨bx, ox + k, none⟩ = some (.int .i64 (k1 : Int)) ∧ W.cell? ⟨by_, oy + k, none⟩ = some (.int .i64 (k2 : Int)) ∧ Below wr.heap.size wr W) (by kernel_rfl) (HSS.out _ (Below.drew hB0)) (fun hHeld => ?_);refine tkH 0 ?_;try simp only [Act.put, sA, sB, sC]
                refine tkH 1 ?_;try simp only [Act.put, sA, sB, sC]
                refine tkH 2 ?_;try simp only [Act.put, sA, sB, sC]
                refine tkH 3 ?_;try simp only [Act.put, sA, sB, sC]
                refine tkH 4 ?_;try simp only [Act.put, sA, sB, sC]
                refine tkH 5 ?_;try simp only [Act.put, sA, sB, sC]
                refine tkH 6 ?_;try simp only [Act.put, sA, sB, sC]
                refine tkH 7 ?_;try simp only [Act.put, sA, sB, sC]
                refine tkH 8 ?_;try simp only [Act.put, sA, sB, sC]
                refine tkH 9 ?_;try simp only [Act.put, sA, sB, sC]
                refine tkH 10 ?_;try simp only [Act.put, sA, sB, sC]
                refine tkH 11 ?_;try simp only [Act.put, sA, sB, sC]
                refine rdH 12 (fun K hK => ?_);go_simp; go_at_call 14; (with_reducible refine (kI.out _ (Below.drew hB0)).mono ?_); rintro e w6 ⟨rfl, b6'⟩; have b6 := (Below.drew hB0).trans (b6'.mono (by exact zJw _))
                go_wp2_with fail
                refine hK.out _ _ ?hSr13 (fun hHeld => ?_)
                case hSr13 => exact HSS.out _ b6
                clear hK K;try simp only [Act.put, sA, sB, sC]
                refine tkH 13 ?_;try simp only [Act.put, sA, sB, sC]
                refine wpAnyH_done (by kernel_rfl) ?_ _;refine NoPanic.normal ?_;cases Q
                · have hRf := HBAD.out rfl
                  have HF : Hid (R = false) := zJv (by rw [HRF.out, hRf]; rfl);clear hRf HBAD HGOOD HRF;go_wp2
                  go_ret;exact ⟨za7 HF.out.symm, hBr.trans (b6.mono hBr.size)⟩
                · have HG := zJv (HGOOD.out rfl)
                  clear HBAD HGOOD;go_wp2
                  go_roundw
                  case rel => exact ⟨k + 1, by omega, by go_num, HG, hB.trans (b6.mono hzr)⟩
                  case measure => simp [intOf]; omega
              · obtain rfl : k = x.types.length := by omega
                go_wp2
                go_ret;exact ⟨za7 (by rw [HRF.out, HA1.out]; have h := HT.out; rw [List.take_of_length_le (by unfold nats; rw [zKd]; omega), List.take_of_length_le (by unfold nats; rw [zKd]; have := HLENT.out; omega)] at h; rw [h]; rfl), hBr⟩
end Go.Proofs.YtidmeodmkcomlaaGreatDoor
