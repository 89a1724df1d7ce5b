/- Terms of one tree that lies twice in -/
import Derived.Test.YtidmeodmkcomlaaGreatDoorL46
namespace Go.Proofs.YtidmeodmkcomlaaGreatDoor
open Go Go.Proofs Go.RowKit
set_option maxHeartbeats 8000000
structure Dwn (t : TreeD) : Prop where
 typ : ∀ (j : Nat) (x : TypD), t.types[j]? = some x → ∀ k ∈ x.kids, 0 ≤ k ∧ k < (j : Int)
 nod : ∀ (j : Nat) (x : TermD), t.nodes[j]? = some x → (∀ k ∈ x.kids, 0 ≤ k ∧ k < (j : Int)) ∧ ∀ k ∈ x.types, 0 ≤ k ∧ k < (t.types.length : Int)
 kty : ∀ x ∈ t.types, x.kids.length ≤ 1000000
 kno : ∀ x ∈ t.nodes, x.kids.length ≤ 1000000 ∧ x.types.length ≤ 1000000
 len : t.nodes.length ≤ 1000000 ∧ t.types.length ≤ 1000000 ∧ t.aliases.length ≤ 1000000
set_option maxRecDepth 100000 in
theorem zkf (t : TreeD) (p q : Ptr6) (hD : Dwn t) : ∀ (m i : Nat), i < m → i < t.nodes.length → ∀ (w : World), TreeAt (Lt w.heap.size) w t p → TreeAt (Lt w.heap.size) w t q →
 Calls Tryz.prog 23 #[treeV t p, .int .i64 (i : Int), treeV t q, .int .i64 (i : Int)] w fun e w' => e = .returned (.bool true) ∧ Below w.heap.size w w'
 | 0, _, h, _, _, _, _ => by omega
 | m + 1, i, hm, hi, w, hTa, hTb => by
  have IH := zJv (fun (k : Nat) (hk : k < m) (hkn : k < t.nodes.length) (W : World) (hA : TreeAt (Lt W.heap.size) W t p) (hB : TreeAt (Lt W.heap.size) W t q) => zkf t p q hD m k hk hkn W hA hB);have ITY := zJv (fun (k : Nat) (hkn : k < t.types.length) (W : World) (hA : TreeAt (Lt W.heap.size) W t p) (hB : TreeAt (Lt W.heap.size) W t q) => zig t p q hD.typ hD.kty hD.len.2.1 hD.len.1 hD.len.2.2 (k + 1) k (tbb k) hkn W hA hB);obtain ⟨a1, c1, a2, c2, a3, c3⟩ := p;obtain ⟨b1, d1, b2, d2, b3, d3⟩ := q;have tT := hTa.1;have uT := hTb.1;have hn1 := hD.len.1;have hn2 := hD.len.2.1;have hn3 := hD.len.2.2;dsimp only at tT uT;obtain ⟨W1, hW1⟩ : ∃ W1, (w.alloc (.cells #[.slice a1 t.nodes.length c1, .slice a2 t.types.length c2, .slice a3 t.aliases.length c3] 27)).alloc (.cells #[.slice b1 t.nodes.length d1, .slice b2 t.types.length d2, .slice b3 t.aliases.length d3] 27) = W1 := ⟨_, rfl⟩;have hB1 : Below w.heap.size w W1 := by rw [← hW1]; exact ((zJx _ _).alloc (zJw _) _).alloc (by simp) _
  have hX : Blk W1 w.heap.size 27 #[.slice a1 t.nodes.length c1, .slice a2 t.types.length c2, .slice a3 t.aliases.length c3] := by rw [← hW1]; exact (Blk.new w 27 _).alloc _
  have hY : Blk W1 (w.heap.size + 1) 27 #[.slice b1 t.nodes.length d1, .slice b2 t.types.length d2, .slice b3 t.aliases.length d3] := by
   rw [← hW1];have := Blk.new (w.alloc (.cells #[.slice a1 t.nodes.length c1, .slice a2 t.types.length c2, .slice a3 t.aliases.length c3] 27)) 27 #[.slice b1 t.nodes.length d1, .slice b2 t.types.length d2, .slice b3 t.aliases.length d3];rwa [zKh] at this
  have x1 := hX.cell 0;have y1 := hY.cell 0;simp only [gA, gB] at x1 y1;have hzX := hX.lt;have hzY := hY.lt;have HX := zJv hX;have HY := zJv hY;have HTa := zJv hTa;have HTb := zJv hTb;obtain ⟨bb, off, rfl, hbb, hcell⟩ := tT (by omega);have hx := zK1 hi;obtain ⟨⟨p5, p8, p6, p9, p7, p10⟩, hq, hcq⟩ := hcell i _ hx;obtain ⟨be, oe, rfl, hbe, hcell'⟩ := uT (by omega);obtain ⟨⟨s5, s8, s6, s9, s7, s10⟩, hq', hcq'⟩ := hcell' i _ hx;have hkl := hD.kno _ (zKe hi);have hrg := hD.nod i _ hx;obtain ⟨x, hx'⟩ : ∃ x, t.nodes[i] = x := ⟨_, rfl⟩;rw [hx'] at hq hcq hq' hcq' hkl hrg;have hkl1 := hkl.1;have hkl2 := hkl.2;have e0 : W1.cell? ⟨bb, off + i * 8, none⟩ = some (.int .i64 x.kind) := (hB1.cell (p := ⟨bb, off + i * 8, none⟩) hbb).trans (hcq 0 _ rfl);have e1 : W1.cell? ⟨bb, off + i * 8 + 1, none⟩ = some (.int .i64 x.pos) := (hB1.cell (p := ⟨bb, off + i * 8 + 1, none⟩) hbb).trans (hcq 1 _ rfl);have e2 : W1.cell? ⟨bb, off + i * 8 + 2, none⟩ = some (.string x.name) := (hB1.cell (p := ⟨bb, off + i * 8 + 2, none⟩) hbb).trans (hcq 2 _ rfl);have e3 : W1.cell? ⟨bb, off + i * 8 + 3, none⟩ = some (.int .i64 x.int) := (hB1.cell (p := ⟨bb, off + i * 8 + 3, none⟩) hbb).trans (hcq 3 _ rfl);have e4 : W1.cell? ⟨bb, off + i * 8 + 4, none⟩ = some (.int .u64 (x.bits : Int)) := (hB1.cell (p := ⟨bb, off + i * 8 + 4, none⟩) hbb).trans (hcq 4 _ rfl);have e5 : W1.cell? ⟨bb, off + i * 8 + 5, none⟩ = some (.slice p5 x.names.length p8) := (hB1.cell (p := ⟨bb, off + i * 8 + 5, none⟩) hbb).trans (hcq 5 _ rfl);have e6 : W1.cell? ⟨bb, off + i * 8 + 6, none⟩ = some (.slice p6 x.kids.length p9) := (hB1.cell (p := ⟨bb, off + i * 8 + 6, none⟩) hbb).trans (hcq 6 _ rfl);have e7 : W1.cell? ⟨bb, off + i * 8 + 7, none⟩ = some (.slice p7 x.types.length p10) := (hB1.cell (p := ⟨bb, off + i * 8 + 7, none⟩) hbb).trans (hcq 7 _ rfl);have l0 : W1.cell? ⟨be, oe + i * 8, none⟩ = some (.int .i64 x.kind) := (hB1.cell (p := ⟨be, oe + i * 8, none⟩) hbe).trans (hcq' 0 _ rfl);have l1 : W1.cell? ⟨be, oe + i * 8 + 1, none⟩ = some (.int .i64 x.pos) := (hB1.cell (p := ⟨be, oe + i * 8 + 1, none⟩) hbe).trans (hcq' 1 _ rfl);have l2 : W1.cell? ⟨be, oe + i * 8 + 2, none⟩ = some (.string x.name) := (hB1.cell (p := ⟨be, oe + i * 8 + 2, none⟩) hbe).trans (hcq' 2 _ rfl);have l3 : W1.cell? ⟨be, oe + i * 8 + 3, none⟩ = some (.int .i64 x.int) := (hB1.cell (p := ⟨be, oe + i * 8 + 3, none⟩) hbe).trans (hcq' 3 _ rfl);have l4 : W1.cell? ⟨be, oe + i * 8 + 4, none⟩ = some (.int .u64 (x.bits : Int)) := (hB1.cell (p := ⟨be, oe + i * 8 + 4, none⟩) hbe).trans (hcq' 4 _ rfl);have l5 : W1.cell? ⟨be, oe + i * 8 + 5, none⟩ = some (.slice s5 x.names.length s8) := (hB1.cell (p := ⟨be, oe + i * 8 + 5, none⟩) hbe).trans (hcq' 5 _ rfl);have l6 : W1.cell? ⟨be, oe + i * 8 + 6, none⟩ = some (.slice s6 x.kids.length s9) := (hB1.cell (p := ⟨be, oe + i * 8 + 6, none⟩) hbe).trans (hcq' 6 _ rfl);have l7 : W1.cell? ⟨be, oe + i * 8 + 7, none⟩ = some (.slice s7 x.types.length s10) := (hB1.cell (p := ⟨be, oe + i * 8 + 7, none⟩) hbe).trans (hcq' 7 _ rfl);have HK : Hid (SlAt (Lt w.heap.size) w p6 x.kids.length (x.kids.map iv)) := zJv hq.2.1;have HK' : Hid (SlAt (Lt w.heap.size) w s6 x.kids.length (x.kids.map iv)) := zJv hq'.2.1;have HY7 : Hid (SlAt (Lt w.heap.size) w p7 x.types.length (x.types.map iv)) := zJv hq.2.2;have HY7' : Hid (SlAt (Lt w.heap.size) w s7 x.types.length (x.types.map iv)) := zJv hq'.2.2;have HRG := zJv hrg;have i1 : (0 : Int) ≤ (i : Int) := by omega
  have i2 : (i : Int) < (t.nodes.length : Int) := by omega
  clear hX hY hTa hTb hcell hcq hcell' hcq' hq hq' hx hx' hrg tT uT hkl;go_enter Tryz.func23, Tryz.ntmps23
  go_wp2
  clear hW1
  have HSS : Hid (∀ W, Below W1.heap.size W1 W → (fun W : World => W.cell? ⟨bb, off + i * 8, none⟩ = some (.int .i64 x.kind) ∧ W.cell? ⟨bb, off + i * 8 + 1, none⟩ = some (.int .i64 x.pos) ∧ W.cell? ⟨bb, off + i * 8 + 2, none⟩ = some (.string x.name) ∧ W.cell? ⟨bb, off + i * 8 + 3, none⟩ = some (.int .i64 x.int) ∧ W.cell? ⟨bb, off + i * 8 + 4, none⟩ = some (.int .u64 (x.bits : Int)) ∧ W.cell? ⟨bb, off + i * 8 + 5, none⟩ = some (.slice p5 x.names.length p8) ∧ W.cell? ⟨bb, off + i * 8 + 6, none⟩ = some (.slice p6 x.kids.length p9) ∧ W.cell? ⟨bb, off + i * 8 + 7, none⟩ = some (.slice p7 x.types.length p10) ∧ W.cell? ⟨be, oe + i * 8, none⟩ = some (.int .i64 x.kind) ∧ W.cell? ⟨be, oe + i * 8 + 1, none⟩ = some (.int .i64 x.pos) ∧ W.cell? ⟨be, oe + i * 8 + 2, none⟩ = some (.string x.name) ∧ W.cell? ⟨be, oe + i * 8 + 3, none⟩ = some (.int .i64 x.int) ∧ W.cell? ⟨be, oe + i * 8 + 4, none⟩ = some (.int .u64 (x.bits : Int)) ∧ W.cell? ⟨be, oe + i * 8 + 5, none⟩ = some (.slice s5 x.names.length s8) ∧ W.cell? ⟨be, oe + i * 8 + 6, none⟩ = some (.slice s6 x.kids.length s9) ∧ W.cell? ⟨be, oe + i * 8 + 7, none⟩ = some (.slice s7 x.types.length s10) ∧ W.cell? ⟨w.heap.size, 0, none⟩ = some (.slice (some ⟨bb, off, none⟩) t.nodes.length c1) ∧ W.cell? ⟨w.heap.size + 1, 0, none⟩ = some (.slice (some ⟨be, oe, none⟩) t.nodes.length d1)) W) := zJv fun W hW => by
   have hl := hB1.size;exact ⟨(hW.cell (p := ⟨bb, _, none⟩) (zJy hbb hl)).trans e0, (hW.cell (p := ⟨bb, _, none⟩) (zJy hbb hl)).trans e1, (hW.cell (p := ⟨bb, _, none⟩) (zJy hbb hl)).trans e2, (hW.cell (p := ⟨bb, _, none⟩) (zJy hbb hl)).trans e3, (hW.cell (p := ⟨bb, _, none⟩) (zJy hbb hl)).trans e4, (hW.cell (p := ⟨bb, _, none⟩) (zJy hbb hl)).trans e5, (hW.cell (p := ⟨bb, _, none⟩) (zJy hbb hl)).trans e6, (hW.cell (p := ⟨bb, _, none⟩) (zJy hbb hl)).trans e7, (hW.cell (p := ⟨be, _, none⟩) (zJy hbe hl)).trans l0, (hW.cell (p := ⟨be, _, none⟩) (zJy hbe hl)).trans l1, (hW.cell (p := ⟨be, _, none⟩) (zJy hbe hl)).trans l2, (hW.cell (p := ⟨be, _, none⟩) (zJy hbe hl)).trans l3, (hW.cell (p := ⟨be, _, none⟩) (zJy hbe hl)).trans l4, (hW.cell (p := ⟨be, _, none⟩) (zJy hbe hl)).trans l5, (hW.cell (p := ⟨be, _, none⟩) (zJy hbe hl)).trans l6, (hW.cell (p := ⟨be, _, none⟩) (zJy hbe hl)).trans l7, (hW.cell (p := ⟨w.heap.size, 0, none⟩) hzX).trans x1, (hW.cell (p := ⟨w.heap.size + 1, 0, none⟩) hzY).trans y1⟩
  go_cut [9, 10] from 11 (fun v9 v10 wx => ∃ B9 B10, v9 = .pointer (some ⟨B9, 0, none⟩) ∧ v10 = .pointer (some ⟨B10, 0, none⟩) ∧ Hid (Blk wx B9 38 #[.int .i64 x.kind, .int .i64 x.pos, .string x.name, .int .i64 x.int, .int .u64 (x.bits : Int), .slice p5 x.names.length p8, .slice p6 x.kids.length p9, .slice p7 x.types.length p10]) ∧ Hid (Blk wx B10 38 #[.int .i64 x.kind, .int .i64 x.pos, .string x.name, .int .i64 x.int, .int .u64 (x.bits : Int), .slice s5 x.names.length s8, .slice s6 x.kids.length s9, .slice s7 x.types.length s10]) ∧ Below W1.heap.size W1 wx)
  case first =>
   clear e0 l0 e1 l1 e2 l2 e3 l3 e4 l4 e5 l5 e6 l6 e7 l7 x1 y1;refine wp_region_noPanic ?_;refine wp_region_held_drew (S := fun W => W.cell? ⟨bb, off + i * 8, none⟩ = some (.int .i64 x.kind) ∧ W.cell? ⟨bb, off + i * 8 + 1, none⟩ = some (.int .i64 x.pos) ∧ W.cell? ⟨bb, off + i * 8 + 2, none⟩ = some (.string x.name) ∧ W.cell? ⟨bb, off + i * 8 + 3, none⟩ = some (.int .i64 x.int) ∧ W.cell? ⟨bb, off + i * 8 + 4, none⟩ = some (.int .u64 (x.bits : Int)) ∧ W.cell? ⟨bb, off + i * 8 + 5, none⟩ = some (.slice p5 x.names.length p8) ∧ W.cell? ⟨bb, off + i * 8 + 6, none⟩ = some (.slice p6 x.kids.length p9) ∧ W.cell? ⟨bb, off + i * 8 + 7, none⟩ = some (.slice p7 x.types.length p10) ∧ W.cell? ⟨be, oe + i * 8, none⟩ = some (.int .i64 x.kind) ∧ W.cell? ⟨be, oe + i * 8 + 1, none⟩ = some (.int .i64 x.pos) ∧ W.cell? ⟨be, oe + i * 8 + 2, none⟩ = some (.string x.name) ∧ W.cell? ⟨be, oe + i * 8 + 3, none⟩ = some (.int .i64 x.int) ∧ W.cell? ⟨be, oe + i * 8 + 4, none⟩ = some (.int .u64 (x.bits : Int)) ∧ W.cell? ⟨be, oe + i * 8 + 5, none⟩ = some (.slice s5 x.names.length s8) ∧ W.cell? ⟨be, oe + i * 8 + 6, none⟩ = some (.slice s6 x.kids.length s9) ∧ W.cell? ⟨be, oe + i * 8 + 7, none⟩ = some (.slice s7 x.types.length s10) ∧ W.cell? ⟨w.heap.size, 0, none⟩ = some (.slice (some ⟨bb, off, none⟩) t.nodes.length c1) ∧ W.cell? ⟨w.heap.size + 1, 0, none⟩ = some (.slice (some ⟨be, oe, none⟩) t.nodes.length d1)) (by kernel_rfl) (HSS.out _ (by repeat (first | (with_reducible exact zJx _ _) | (with_reducible refine ta1 ?_)))) (fun hHeld => ?_);refine tkH 0 ?_;try simp only [Act.put, sA, sB, sC]
   refine tkH 1 ?_;try simp only [Act.put, sA, sB, sC]
   refine tkH 2 ?_;try simp only [Act.put, sA, sB, sC]
   refine tkH 3 ?_;try simp only [Act.put, sA, sB, sC]
   refine tkH 4 ?_;try simp only [Act.put, sA, sB, sC]
   refine tkH 5 ?_;try simp only [Act.put, sA, sB, sC]
   refine tkH 6 ?_;try simp only [Act.put, sA, sB, sC]
   refine tkH 7 ?_;try simp only [Act.put, sA, sB, sC]
   refine tkH 8 ?_;try simp only [Act.put, sA, sB, sC]
   refine tkH 9 ?_;try simp only [Act.put, sA, sB, sC]
   refine wpAnyH_ready (rs := [10, 11]) (by kernel_rfl) (by simp) ?_;refine (AllReadyH.cons (by simp only [gA, gB, gC]; rfl) (fun K hK => ?sta11) (AllReadyH.cons (by simp only [gA, gB, gC]; rfl) (fun K hK => ?sta12) AllReadyH.nil))
   case sta11 =>
    go_simp
    refine hK.out _ _ ?hSa11 (fun hHeld => ?_)
    case hSa11 => exact HSS.out _ (by repeat (first | (with_reducible exact zJx _ _) | (with_reducible refine ta1 ?_) | (with_reducible refine tab ?_ (by simp) _)))
    clear hK K;try simp only [Act.put, sA, sB, sC]
    refine rdH 11 (fun K hK => ?sta11b)
    case sta11b =>
     go_simp
     refine hK.out _ _ ?hSa11b (fun hHeld => ?_)
     case hSa11b => exact HSS.out _ (by repeat (first | (with_reducible exact zJx _ _) | (with_reducible refine ta1 ?_) | (with_reducible refine tab ?_ (by simp) _)))
     clear hK K;try simp only [Act.put, sA, sB, sC]
     refine rdH 12 (fun K hK => ?sta11c)
     case sta11c =>
      go_simp
      refine hK.out _ _ ?hSa11c (fun hHeld => ?_)
      case hSa11c => exact HSS.out _ (by repeat (first | (with_reducible exact zJx _ _) | (with_reducible refine ta1 ?_) | (with_reducible refine tab ?_ (by simp) _)))
      clear hK K;try simp only [Act.put, sA, sB, sC]
      refine rdH 13 (fun K hK => ?sta11d)
      case sta11d =>
       go_simp
       refine hK.out _ _ ?hSa11d (fun hHeld => ?_)
       case hSa11d => exact HSS.out _ (by repeat (first | (with_reducible exact zJx _ _) | (with_reducible refine ta1 ?_) | (with_reducible refine tab ?_ (by simp) _)))
       clear hK K;try simp only [Act.put, sA, sB, sC]
       refine wpAnyH_done (by kernel_rfl) ?_ _;refine NoPanic.normal ?_;go_wp2_with fail
       go_meet
       case rel => exact ⟨_, _, rfl, rfl, zJv ((Blk.new W1 38 _).alloc _), zJv (by have := Blk.new (W1.alloc (.cells #[.int .i64 x.kind, .int .i64 x.pos, .string x.name, .int .i64 x.int, .int .u64 (x.bits : Int), .slice p5 x.names.length p8, .slice p6 x.kids.length p9, .slice p7 x.types.length p10] 38)) 38 #[.int .i64 x.kind, .int .i64 x.pos, .string x.name, .int .i64 x.int, .int .u64 (x.bits : Int), .slice s5 x.names.length s8, .slice s6 x.kids.length s9, .slice s7 x.types.length s10]; rwa [zKh] at this), by repeat (first | (with_reducible exact zJx _ _) | (with_reducible refine ta1 ?_) | (with_reducible refine tab ?_ (by simp) _))⟩
   case sta12 =>
    go_simp
    refine hK.out _ _ ?hSa12 (fun hHeld => ?_)
    case hSa12 => exact HSS.out _ (by repeat (first | (with_reducible exact zJx _ _) | (with_reducible refine ta1 ?_) | (with_reducible refine tab ?_ (by simp) _)))
    clear hK K;try simp only [Act.put, sA, sB, sC]
    refine rdH 10 (fun K hK => ?sta12b)
    case sta12b =>
     go_simp
     refine hK.out _ _ ?hSa12b (fun hHeld => ?_)
     case hSa12b => exact HSS.out _ (by repeat (first | (with_reducible exact zJx _ _) | (with_reducible refine ta1 ?_) | (with_reducible refine tab ?_ (by simp) _)))
     clear hK K;try simp only [Act.put, sA, sB, sC]
     refine rdH 12 (fun K hK => ?sta12c)
     case sta12c =>
      go_simp
      refine hK.out _ _ ?hSa12c (fun hHeld => ?_)
      case hSa12c => exact HSS.out _ (by repeat (first | (with_reducible exact zJx _ _) | (with_reducible refine ta1 ?_) | (with_reducible refine tab ?_ (by simp) _)))
      clear hK K;try simp only [Act.put, sA, sB, sC]
      refine rdH 13 (fun K hK => ?sta12d)
      case sta12d =>
       go_simp
       refine hK.out _ _ ?hSa12d (fun hHeld => ?_)
       case hSa12d => exact HSS.out _ (by repeat (first | (with_reducible exact zJx _ _) | (with_reducible refine ta1 ?_) | (with_reducible refine tab ?_ (by simp) _)))
       clear hK K;try simp only [Act.put, sA, sB, sC]
       refine wpAnyH_done (by kernel_rfl) ?_ _;refine NoPanic.normal ?_;go_wp2_with fail
       go_meet
       case rel => exact ⟨_, _, rfl, rfl, zJv (by have := Blk.new (W1.alloc (.cells #[.int .i64 x.kind, .int .i64 x.pos, .string x.name, .int .i64 x.int, .int .u64 (x.bits : Int), .slice s5 x.names.length s8, .slice s6 x.kids.length s9, .slice s7 x.types.length s10] 38)) 38 #[.int .i64 x.kind, .int .i64 x.pos, .string x.name, .int .i64 x.int, .int .u64 (x.bits : Int), .slice p5 x.names.length p8, .slice p6 x.kids.length p9, .slice p7 x.types.length p10]; rwa [zKh] at this), zJv ((Blk.new W1 38 _).alloc _), by repeat (first | (with_reducible exact zJx _ _) | (with_reducible refine ta1 ?_) | (with_reducible refine tab ?_ (by simp) _))⟩
  case rest =>
   obtain ⟨B9, B10, rfl, rfl, HX9, HX10, hBc⟩ := hcut;have hBw : Below w.heap.size w wc := hB1.trans (hBc.mono hB1.size);have h9 := HX9.out.lt;have h10 := HX10.out.lt;have hszc := hBc.size;clear e0 l0 e1 l1 e2 l2 e3 l3 e4 l4 e5 l5 e6 l6 e7 l7 x1 y1 HSS;have HXc := zJv (HX.out.below hBc hzX);have HYc := zJv (HY.out.below hBc hzY);have hp1 : (x.pos != x.pos) = false := by simp
   have hp4 : ((x.kids.length : Int) != (x.kids.length : Int)) = false := by simp
   have hp5 : ((x.types.length : Int) != (x.types.length : Int)) = false := by simp
   have HM := zJv (fun (W : World) (hW : Below wc.heap.size wc W) => (⟨(HX9.out.below hW h9).cell 1, (HX9.out.below hW h9).cell 6, (HX9.out.below hW h9).cell 7, (HX10.out.below hW h10).cell 1, (HX10.out.below hW h10).cell 6, (HX10.out.below hW h10).cell 7⟩ : _ ∧ _ ∧ _ ∧ _ ∧ _ ∧ _));obtain ⟨m1, m6, m7, u1, u6, u7⟩ := HM.out wc (zJx _ _);simp only [gA, gB, gC] at m1 m6 m7 u1 u6 u7;go_wp2
   have hz3 := hBw.size;obtain ⟨WS, hWS⟩ : ∃ WS, WS = wc := ⟨wc, rfl⟩;subst hWS;go_loopw [11, 49] (fun _ k0 wr => ∃ (k : Nat), k ≤ x.types.length ∧ k0 = .int .i64 k ∧ Below WS.heap.size WS wr) (fun _ k0 _ => x.types.length - (intOf k0).toNat)
   case atStart => exact ⟨0, zK8 _, rfl, zJx _ _⟩
   case round =>
    obtain ⟨k, hk, rfl, hB⟩ := hrel;have hBr : Below w.heap.size w wr := hBw.trans (hB.mono hz3);have hzr := hB.size;by_cases hlt : k < x.types.length
    · obtain ⟨bx, ox, rfl, hwx, hcx⟩ := HY7.out.at_ hlt
      obtain ⟨by_, oy, rfl, hwy, hcy⟩ := HY7'.out.at_ hlt;have f1 := (hBr.cell (p := ⟨bx, ox + k, none⟩) hwx).trans (hcx k (iv x.types[k]) (by simp [hlt]));have f2 := (hBr.cell (p := ⟨by_, oy + k, none⟩) hwy).trans (hcy k (iv x.types[k]) (by simp [hlt]));unfold iv at f1 f2;have hlx : bx < wr.heap.size := zJy hwx hBr.size;have hly : by_ < wr.heap.size := zJy hwy hBr.size;have hz1 := HRG.out.2 _ (zKe hlt);obtain ⟨z, hz⟩ : ∃ z, x.types[k] = z := ⟨_, rfl⟩;rw [hz] at f1 f2 hz1;obtain ⟨k1, hk1⟩ : ∃ n : Nat, z = (n : Int) := ⟨z.toNat, by omega⟩;subst hk1;have kI : Hid (∀ W, Below wr.heap.size wr W → Calls Tryz.prog 15 #[treeV t ⟨(some ⟨bb, off, none⟩), c1, a2, c2, a3, c3⟩, .int .i64 (k1 : Int), treeV t ⟨(some ⟨be, oe, none⟩), d1, b2, d2, b3, d3⟩, .int .i64 (k1 : Int)] W fun e w' => e = .returned (.bool true) ∧ Below W.heap.size W w') := zJv fun W hW => ITY.out k1 (by omega) W (zcu HTa.out (hBr.trans (hW.mono hBr.size))) (zcu HTb.out (hBr.trans (hW.mono hBr.size)));unfold treeV at kI;dsimp only at kI;have HXr := zJv (HXc.out.below hB HXc.out.lt);have HYr := zJv (HYc.out.below hB HYc.out.lt);have HMr := zJv (HX9.out.below hB h9);have HUr := zJv (HX10.out.below hB h10);have xl := HXr.out.lt;have yl := HYr.out.lt;have ml := HMr.out.lt;have ul := HUr.out.lt
      have HSS : Hid (∀ W, Below wr.heap.size wr W → (fun W : World => W.cell? ⟨w.heap.size, 0, none⟩ = some (.slice (some ⟨bb, off, none⟩) t.nodes.length c1) ∧ W.cell? ⟨w.heap.size, 1, none⟩ = some (.slice a2 t.types.length c2) ∧ W.cell? ⟨w.heap.size, 2, none⟩ = some (.slice a3 t.aliases.length c3) ∧ W.cell? ⟨w.heap.size + 1, 0, none⟩ = some (.slice (some ⟨be, oe, none⟩) t.nodes.length d1) ∧ W.cell? ⟨w.heap.size + 1, 1, none⟩ = some (.slice b2 t.types.length d2) ∧ W.cell? ⟨w.heap.size + 1, 2, none⟩ = some (.slice b3 t.aliases.length d3) ∧ W.cell? ⟨B9, 7, none⟩ = some (.slice (some ⟨bx, ox, none⟩) x.types.length p10) ∧ W.cell? ⟨B10, 7, none⟩ = some (.slice (some ⟨by_, oy, none⟩) x.types.length s10) ∧ W.cell? ⟨bx, ox + k, none⟩ = some (.int .i64 (k1 : Int)) ∧ W.cell? ⟨by_, oy + k, none⟩ = some (.int .i64 (k1 : Int)) ∧ Below wr.heap.size wr W) W) := zJv fun W hW => by
       have A := HXr.out.below hW xl;have B := HYr.out.below hW yl;have C := HMr.out.below hW ml;have D := HUr.out.below hW ul;have A0 := A.cell 0;have A1 := A.cell 1;have A2 := A.cell 2;have B0 := B.cell 0;have B1 := B.cell 1;have B2 := B.cell 2;have C4 := C.cell 7;have D4 := D.cell 7;simp only [gA, gB, gC] at A0 A1 A2 B0 B1 B2 C4 D4;exact ⟨A0, A1, A2, B0, B1, B2, C4, D4, (hW.cell (p := ⟨bx, _, none⟩) hlx).trans f1, (hW.cell (p := ⟨by_, _, none⟩) hly).trans f2, hW⟩
      have i1 : (0 : Int) ≤ (k : Int) := by omega
      have i2 : (k : Int) < (x.types.length : Int) := by omega
      have hB0 := zJx wr.heap.size wr;clear hz f1 f2 hwx hwy hcx hcy;try clear m1 u1 m6 u6 m7 u7
      go_wp2_with fail
      refine wp_region_noPanic ?_;refine wp_region_held_drew (S := fun W => W.cell? ⟨w.heap.size, 0, none⟩ = some (.slice (some ⟨bb, off, none⟩) t.nodes.length c1) ∧ W.cell? ⟨w.heap.size, 1, none⟩ = some (.slice a2 t.types.length c2) ∧ W.cell? ⟨w.heap.size, 2, none⟩ = some (.slice a3 t.aliases.length c3) ∧ W.cell? ⟨w.heap.size + 1, 0, none⟩ = some (.slice (some ⟨be, oe, none⟩) t.nodes.length d1) ∧ W.cell? ⟨w.heap.size + 1, 1, none⟩ = some (.slice b2 t.types.length d2) ∧ W.cell? ⟨w.heap.size + 1, 2, none⟩ = some (.slice b3 t.aliases.length d3) ∧ W.cell? ⟨B9, 7, none⟩ = some (.slice (some ⟨bx, ox, none⟩) x.types.length p10) ∧ W.cell? ⟨B10, 7, none⟩ = some (.slice (some ⟨by_, oy, none⟩) x.types.length s10) ∧ W.cell? ⟨bx, ox + k, none⟩ = some (.int .i64 (k1 : Int)) ∧ W.cell? ⟨by_, oy + k, none⟩ = some (.int .i64 (k1 : Int)) ∧ Below wr.heap.size wr W) (by kernel_rfl) (HSS.out _ (ta1 hB0)) (fun hHeld => ?_);refine tkH 0 ?_;try simp only [Act.put, sA, sB, sC]
      refine tkH 1 ?_;try simp only [Act.put, sA, sB, sC]
      refine tkH 2 ?_;try simp only [Act.put, sA, sB, sC]
      refine tkH 3 ?_;try simp only [Act.put, sA, sB, sC]
      refine tkH 4 ?_;try simp only [Act.put, sA, sB, sC]
      refine tkH 5 ?_;try simp only [Act.put, sA, sB, sC]
      refine tkH 6 ?_;try simp only [Act.put, sA, sB, sC]
      refine tkH 7 ?_;try simp only [Act.put, sA, sB, sC]
      refine tkH 8 ?_;try simp only [Act.put, sA, sB, sC]
      refine tkH 9 ?_;try simp only [Act.put, sA, sB, sC]
      refine tkH 10 ?_;try simp only [Act.put, sA, sB, sC]
      refine tkH 11 ?_;try simp only [Act.put, sA, sB, sC]
      refine rdH 12 (fun K hK => ?_);go_simp; go_at_call 15; (with_reducible refine (kI.out _ (ta1 hB0)).mono ?_); rintro e w6 ⟨rfl, b6'⟩; have b6 := (ta1 hB0).trans (b6'.mono (by exact zJw _))
      go_wp2_with fail
      refine hK.out _ _ ?hSq713 (fun hHeld => ?_)
      case hSq713 => exact HSS.out _ b6
      clear hK K;try simp only [Act.put, sA, sB, sC]
      refine tkH 13 ?_;try simp only [Act.put, sA, sB, sC]
      refine wpAnyH_done (by kernel_rfl) ?_ _;refine NoPanic.normal ?_;go_wp2
      go_roundw
      case rel => exact ⟨k + 1, by omega, by go_num, hB.trans (b6.mono hzr)⟩
      case measure => simp [intOf]; omega
    · obtain rfl : k = x.types.length := by omega
      obtain ⟨m1, m6, m7, u1, u6, u7⟩ := HM.out wr hB;simp only [gA, gB, gC] at m1 m6 m7 u1 u6 u7;go_wp2
      have hBx := hB;go_loopw [12, 70] (fun _ k0 wr => ∃ (k : Nat), k ≤ x.kids.length ∧ k0 = .int .i64 k ∧ Below WS.heap.size WS wr) (fun _ k0 _ => x.kids.length - (intOf k0).toNat)
      case atStart => exact ⟨0, zK8 _, rfl, hBx⟩
      case round =>
       obtain ⟨k, hk, rfl, hB⟩ := hrel;have hBr : Below w.heap.size w wr := hBw.trans (hB.mono hz3);have hzr := hB.size;by_cases hlt : k < x.kids.length
       · obtain ⟨bx, ox, rfl, hwx, hcx⟩ := HK.out.at_ hlt
         obtain ⟨by_, oy, rfl, hwy, hcy⟩ := HK'.out.at_ hlt;have f1 := (hBr.cell (p := ⟨bx, ox + k, none⟩) hwx).trans (hcx k (iv x.kids[k]) (by simp [hlt]));have f2 := (hBr.cell (p := ⟨by_, oy + k, none⟩) hwy).trans (hcy k (iv x.kids[k]) (by simp [hlt]));unfold iv at f1 f2;have hlx : bx < wr.heap.size := zJy hwx hBr.size;have hly : by_ < wr.heap.size := zJy hwy hBr.size;have hz1 := HRG.out.1 _ (zKe hlt);obtain ⟨z, hz⟩ : ∃ z, x.kids[k] = z := ⟨_, rfl⟩;rw [hz] at f1 f2 hz1;obtain ⟨k1, hk1⟩ : ∃ n : Nat, z = (n : Int) := ⟨z.toNat, by omega⟩;subst hk1;have kI : Hid (∀ W, Below wr.heap.size wr W → Calls Tryz.prog 23 #[treeV t ⟨(some ⟨bb, off, none⟩), c1, a2, c2, a3, c3⟩, .int .i64 (k1 : Int), treeV t ⟨(some ⟨be, oe, none⟩), d1, b2, d2, b3, d3⟩, .int .i64 (k1 : Int)] W fun e w' => e = .returned (.bool true) ∧ Below W.heap.size W w') := zJv fun W hW => IH.out k1 (by omega) (by omega) W (zcu HTa.out (hBr.trans (hW.mono hBr.size))) (zcu HTb.out (hBr.trans (hW.mono hBr.size)));unfold treeV at kI;dsimp only at kI;have HXr := zJv (HXc.out.below hB HXc.out.lt);have HYr := zJv (HYc.out.below hB HYc.out.lt);have HMr := zJv (HX9.out.below hB h9);have HUr := zJv (HX10.out.below hB h10);have xl := HXr.out.lt;have yl := HYr.out.lt;have ml := HMr.out.lt;have ul := HUr.out.lt
         have HSS : Hid (∀ W, Below wr.heap.size wr W → (fun W : World => W.cell? ⟨w.heap.size, 0, none⟩ = some (.slice (some ⟨bb, off, none⟩) t.nodes.length c1) ∧ W.cell? ⟨w.heap.size, 1, none⟩ = some (.slice a2 t.types.length c2) ∧ W.cell? ⟨w.heap.size, 2, none⟩ = some (.slice a3 t.aliases.length c3) ∧ W.cell? ⟨w.heap.size + 1, 0, none⟩ = some (.slice (some ⟨be, oe, none⟩) t.nodes.length d1) ∧ W.cell? ⟨w.heap.size + 1, 1, none⟩ = some (.slice b2 t.types.length d2) ∧ W.cell? ⟨w.heap.size + 1, 2, none⟩ = some (.slice b3 t.aliases.length d3) ∧ W.cell? ⟨B9, 6, none⟩ = some (.slice (some ⟨bx, ox, none⟩) x.kids.length p9) ∧ W.cell? ⟨B10, 6, none⟩ = some (.slice (some ⟨by_, oy, none⟩) x.kids.length s9) ∧ W.cell? ⟨bx, ox + k, none⟩ = some (.int .i64 (k1 : Int)) ∧ W.cell? ⟨by_, oy + k, none⟩ = some (.int .i64 (k1 : Int)) ∧ Below wr.heap.size wr W) W) := zJv fun W hW => by
          have A := HXr.out.below hW xl;have B := HYr.out.below hW yl;have C := HMr.out.below hW ml;have D := HUr.out.below hW ul;have A0 := A.cell 0;have A1 := A.cell 1;have A2 := A.cell 2;have B0 := B.cell 0;have B1 := B.cell 1;have B2 := B.cell 2;have C4 := C.cell 6;have D4 := D.cell 6;simp only [gA, gB, gC] at A0 A1 A2 B0 B1 B2 C4 D4;exact ⟨A0, A1, A2, B0, B1, B2, C4, D4, (hW.cell (p := ⟨bx, _, none⟩) hlx).trans f1, (hW.cell (p := ⟨by_, _, none⟩) hly).trans f2, hW⟩
         have i1 : (0 : Int) ≤ (k : Int) := by omega
         have i2 : (k : Int) < (x.kids.length : Int) := by omega
         have hB0 := zJx wr.heap.size wr;clear hz f1 f2 hwx hwy hcx hcy;try clear m1 u1 m6 u6 m7 u7
         go_wp2_with fail
         refine wp_region_noPanic ?_;refine wp_region_held_drew (S := fun W => W.cell? ⟨w.heap.size, 0, none⟩ = some (.slice (some ⟨bb, off, none⟩) t.nodes.length c1) ∧ W.cell? ⟨w.heap.size, 1, none⟩ = some (.slice a2 t.types.length c2) ∧ W.cell? ⟨w.heap.size, 2, none⟩ = some (.slice a3 t.aliases.length c3) ∧ W.cell? ⟨w.heap.size + 1, 0, none⟩ = some (.slice (some ⟨be, oe, none⟩) t.nodes.length d1) ∧ W.cell? ⟨w.heap.size + 1, 1, none⟩ = some (.slice b2 t.types.length d2) ∧ W.cell? ⟨w.heap.size + 1, 2, none⟩ = some (.slice b3 t.aliases.length d3) ∧ W.cell? ⟨B9, 6, none⟩ = some (.slice (some ⟨bx, ox, none⟩) x.kids.length p9) ∧ W.cell? ⟨B10, 6, none⟩ = some (.slice (some ⟨by_, oy, none⟩) x.kids.length s9) ∧ W.cell? ⟨bx, ox + k, none⟩ = some (.int .i64 (k1 : Int)) ∧ W.cell? ⟨by_, oy + k, none⟩ = some (.int .i64 (k1 : Int)) ∧ Below wr.heap.size wr W) (by kernel_rfl) (HSS.out _ (ta1 hB0)) (fun hHeld => ?_);refine tkH 0 ?_;try simp only [Act.put, sA, sB, sC]
         refine tkH 1 ?_;try simp only [Act.put, sA, sB, sC]
         refine tkH 2 ?_;try simp only [Act.put, sA, sB, sC]
         refine tkH 3 ?_;try simp only [Act.put, sA, sB, sC]
         refine tkH 4 ?_;try simp only [Act.put, sA, sB, sC]
         refine tkH 5 ?_;try simp only [Act.put, sA, sB, sC]
         refine tkH 6 ?_;try simp only [Act.put, sA, sB, sC]
         refine tkH 7 ?_;try simp only [Act.put, sA, sB, sC]
         refine tkH 8 ?_;try simp only [Act.put, sA, sB, sC]
         refine tkH 9 ?_;try simp only [Act.put, sA, sB, sC]
         refine tkH 10 ?_;try simp only [Act.put, sA, sB, sC]
         refine tkH 11 ?_;try simp only [Act.put, sA, sB, sC]
         refine rdH 12 (fun K hK => ?_);go_simp; go_at_call 23; (with_reducible refine (kI.out _ (ta1 hB0)).mono ?_); rintro e w6 ⟨rfl, b6'⟩; have b6 := (ta1 hB0).trans (b6'.mono (by exact zJw _))
         go_wp2_with fail
         refine hK.out _ _ ?hSq613 (fun hHeld => ?_)
         case hSq613 => exact HSS.out _ b6
         clear hK K;try simp only [Act.put, sA, sB, sC]
         refine tkH 13 ?_;try simp only [Act.put, sA, sB, sC]
         refine wpAnyH_done (by kernel_rfl) ?_ _;refine NoPanic.normal ?_;go_wp2
         go_roundw
         case rel => exact ⟨k + 1, by omega, by go_num, hB.trans (b6.mono hzr)⟩
         case measure => simp [intOf]; omega
       · obtain rfl : k = x.kids.length := by omega
         go_wp2
         go_ret;exact ⟨rfl, hBr⟩
end Go.Proofs.YtidmeodmkcomlaaGreatDoor
