/- A tree is copied; a builder: what is put in, one by one. -/
import Derived.Test.YtidmeodmkcomlaaGreatDoorK10
import Derived.Deep.RegionLaw
set_option linter.unusedSimpArgs false
set_option linter.unusedVariables false
namespace Go.Proofs.YtidmeodmkcomlaaGreatDoor
open Go Go.Proofs Go.RowKit
set_option maxHeartbeats 8000000
def zj1 (w : World) (t : TreeD) (e : Ending) (w' : World) : Prop := ∃ p, e = .returned (treeV t p) ∧ TreeAt (New w w') w' t p ∧ Below w.heap.size w w'
theorem zdm {w4 w5 : World} {o : Obj} {v1 : Value} (hg : (w4.alloc o).grownBy w5 v1.ownBlock) {b off : Nat} (hb : b < w4.heap.size) (hne : v1.ownBlock ≠ some b) : w5.cell? ⟨b, off, none⟩ = w4.cell? ⟨b, off, none⟩ :=
 (zKb (a := ⟨b, off, none⟩) (hg.block b (by rw [zKh]; omega) (fun e => hne e.symm))).trans (World.cell?_alloc_lt w4 o ⟨b, off, none⟩ hb)
theorem zdv {w4 w5 : World} {o : Obj} {v1 : Value} (hg : (w4.alloc o).grownBy w5 v1.ownBlock) {b off : Nat} (hb : b < w4.heap.size) (hne : v1.ownBlock ≠ some b) : w5.frozen? ⟨b, off, none⟩ = w4.frozen? ⟨b, off, none⟩ := by
 have h := hg.block b (by rw [zKh]; omega) (fun e => hne e.symm);have h2 := (Below.heap_alloc w4 o b hb);simp only [World.frozen?, h, h2]
set_option maxRecDepth 100000 in
theorem zzn (t : TreeD) (p : Ptr6) (w : World) (hT : TreeAt (Lt w.heap.size) w t p) (n1 : t.nodes.length ≤ 65536) (n2 : t.types.length ≤ 65536) (n3 : t.aliases.length ≤ 65536)
 (hF1 : ∀ x ∈ t.nodes, x.names.length ≤ 65536 ∧ x.kids.length ≤ 65536 ∧ x.types.length ≤ 65536) (hF2 : ∀ x ∈ t.types, x.names.length ≤ 65536 ∧ x.kids.length ≤ 65536) :
 Calls Tryz.prog 72 #[treeV t p] w (zj1 w t) := by
 obtain ⟨nodes, types, aliases⟩ := t;obtain ⟨a1, c1, a2, c2, a3, c3⟩ := p;obtain ⟨hN1, hN2, hN3⟩ := hT;obtain ⟨i1, hi1, hz11, hz12, hz13⟩ := info_parts zr6;obtain ⟨i2, hi2, hz21, hz22, hz23⟩ := info_parts zrd;dsimp only at *;obtain ⟨W1, hW1⟩ : ∃ W1, (w.alloc (.cells #[.slice a1 nodes.length c1, .slice a2 types.length c2, .slice a3 aliases.length c3] 27)).alloc (.cells #[.slice none 0 0, .slice none 0 0, .slice none 0 0] 27) = W1 := ⟨_, rfl⟩;have hB1 : Below w.heap.size w W1 := by rw [← hW1]; exact ((zJx _ _).alloc (zJw _) _).alloc (by simp) _
 have hX : Blk W1 w.heap.size 27 #[.slice a1 nodes.length c1, .slice a2 types.length c2, .slice a3 aliases.length c3] := by rw [← hW1]; exact (Blk.new w 27 _).alloc _
 have hY : Blk W1 (w.heap.size + 1) 27 #[.slice none 0 0, .slice none 0 0, .slice none 0 0] := by
  rw [← hW1];have := Blk.new (w.alloc (.cells #[.slice a1 nodes.length c1, .slice a2 types.length c2, .slice a3 aliases.length c3] 27)) 27 #[.slice none 0 0, .slice none 0 0, .slice none 0 0];rwa [zKh] at this
 have hs1 : W1.heap.size = w.heap.size + 2 := by rw [← hW1]; simp only [zKh]
 have kA := zo7 a3 c3 aliases W1 (zte (hN3.keep (zaa hB1))) n3;have x0 := hX.cell 0;have x1 := hX.cell 1;have x2 := hX.cell 2;simp only [gA, gB, gC] at x0 x1 x2;have HS1 := zJv hs1;have HX := zJv hX;have HY := zJv hY;clear hs1 hX hY;go_enter Tryz.func72, Tryz.ntmps72
 go_wp2_with fail
 clear hW1;refine kA.mono ?_;rintro e w2 ⟨v3, rfl, ho3, hb2⟩;obtain ⟨A3, d3, rfl⟩ := za8 ho3;clear kA;have hz2 := hb2.size;rw [HS1.out] at hb2 hz2 ho3;have hX2 := HX.out.below hb2 (by omega);have hY2 := HY.out.below hb2 (by omega);have hB2 : Below w.heap.size w w2 := hB1.trans (hb2.mono (by omega));have y0 := hX2.cell 0;have y1 := hX2.cell 1;have y2 := hX2.cell 2;simp only [gA, gB, gC] at y0 y1 y2;have l2 : w.heap.size < w2.heap.size := by omega
 have HX2 := zJv hX2;have HY2 := zJv hY2;have HO3 := zJv ho3;clear hX2 hY2 x0 x1 x2 HX HY hb2 ho3;go_wp2
 obtain ⟨W3, hW3⟩ : ∃ W3, w2.alloc (.cells #[.slice none 0 0, .slice none 0 0, .slice A3 aliases.length d3] 27) = W3 := ⟨_, rfl⟩
 have hT3 : TreeOwn W3 (w.heap.size + 2) w2.heap.size 27 (.slice none 0 0) (.slice none 0 0) (.slice A3 aliases.length d3) [] [] aliases := by
  rw [← hW3];exact ⟨Blk.new w2 27 _, .inl rfl, by omega, World.ownsRow_nil _ _ _ _, World.ownsRow_nil _ _ _ _, HO3.out.alloc _, fun _ h => by simp at h, fun _ h => by simp at h⟩
 have hB3 : Below w.heap.size w W3 := by rw [← hW3]; exact hB2.alloc (by omega) _
 have hX3 : Blk W3 w.heap.size 27 #[.slice a1 nodes.length c1, .slice a2 types.length c2, .slice a3 aliases.length c3] := by rw [← hW3]; exact HX2.out.alloc _
 have hY3 : Blk W3 (w.heap.size + 1) 27 #[.slice none 0 0, .slice none 0 0, .slice none 0 0] := by rw [← hW3]; exact HY2.out.alloc _
 have hs3 : W3.heap.size = w2.heap.size + 1 := by rw [← hW3]; simp only [zKh]
 rw [hW3];obtain ⟨cb, hcb⟩ : ∃ cb, w2.heap.size = cb := ⟨_, rfl⟩;rw [hcb] at hT3 hs3 hz2 ⊢;have HS3 := zJv hs3;have HX3 := zJv hX3;have HY3 := zJv hY3;have HT3 := zJv hT3;clear hW3 hs3 hX3 hY3 hT3 HX2 HY2 HO3 y0 y1 y2 l2 hB2 hcb;go_loopw [5, 15] (fun _ i wr => ∃ (k : Nat) (r1 : List (TermD × Ptr3)) (v1 : Value), k ≤ nodes.length ∧ i = .int .i64 k ∧ Hid (r1.map (·.1) = nodes.take k) ∧ Hid (TreeOwn wr (w.heap.size + 2) cb 27 v1 (.slice none 0 0) (.slice A3 aliases.length d3) r1 [] aliases) ∧ Below (w.heap.size + 2) W3 wr) (fun _ i _ => nodes.length - (intOf i).toNat)
 case atStart => exact ⟨0, [], .slice none 0 0, zK8 _, rfl, zJv (by simp), HT3, zJx _ _⟩
 case round =>
  obtain ⟨k, r1, v1, hk, rfl, HR, HT, hB⟩ := hrel;have hzr := hB.size;have hzc := HT.out.blk.lt;have hBw : Below w.heap.size w wr := hB3.trans (hB.mono (by omega));have hrl : r1.length = k := by have := congrArg List.length HR.out; simp at this; omega
  by_cases hlt : k < nodes.length
  · obtain ⟨b, off, rfl, hb, hcell⟩ := hN1 (by omega)
    obtain ⟨q, hq, hcq⟩ := hcell k nodes[k] (zK1 hlt);have hfew := hF1 _ (zKe hlt);have htk : nodes.take (k + 1) = nodes.take k ++ [nodes[k]] := zK9 hlt;obtain ⟨x, hx⟩ : ∃ x, nodes[k] = x := ⟨_, rfl⟩;rw [hx] at hq hcq hfew htk;clear hx hcell;have e0 := (hBw.cell (p := ⟨b, off + k * 8, none⟩) hb).trans (hcq 0 _ rfl);have e1 := (hBw.cell (p := ⟨b, off + k * 8 + 1, none⟩) hb).trans (hcq 1 _ rfl);have e2 := (hBw.cell (p := ⟨b, off + k * 8 + 2, none⟩) hb).trans (hcq 2 _ rfl);have e3 := (hBw.cell (p := ⟨b, off + k * 8 + 3, none⟩) hb).trans (hcq 3 _ rfl);have e4 := (hBw.cell (p := ⟨b, off + k * 8 + 4, none⟩) hb).trans (hcq 4 _ rfl);have e5 := (hBw.cell (p := ⟨b, off + k * 8 + 5, none⟩) hb).trans (hcq 5 _ rfl);have e6 := (hBw.cell (p := ⟨b, off + k * 8 + 6, none⟩) hb).trans (hcq 6 _ rfl);have e7 := (hBw.cell (p := ⟨b, off + k * 8 + 7, none⟩) hb).trans (hcq 7 _ rfl);clear hcq;have HTK := zJv htk;have HRL := zJv hrl;clear htk hrl;go_wp2_with fail
    obtain ⟨Wn, hWn⟩ : ∃ Wn, wr.alloc (.cells #[.int .i64 x.kind, .int .i64 x.pos, .string x.name, .int .i64 x.int, .int .u64 (x.bits : Int), .slice q.a5 x.names.length q.c5, .slice q.a6 x.kids.length q.c6, .slice q.a7 x.types.length q.c7] 38) = Wn := ⟨_, rfl⟩;have hBn : Below wr.heap.size wr Wn := by rw [← hWn]; exact (zJx _ _).alloc (zJw _) _
    have hXn : Blk Wn wr.heap.size 38 (za1 x q).toArray := by rw [← hWn]; exact Blk.new wr 38 _
    rw [hWn];clear hWn e0 e1 e2 e3 e4 e5 e6 e7;have hzn := hXn.lt;have hTn := HT.out.below hBn;have k32 := fun W (hW : TermOk (Lt W.heap.size) W x q) => zg8 x q W hW hfew.1 hfew.2.1 hfew.2.2;have c0 := hTn.blk.cell 0;have g0 := hTn.blk.frozen 0;have p0 := hXn.cell 0;have p1 := hXn.cell 1;have p2 := hXn.cell 2;have p3 := hXn.cell 3;have p4 := hXn.cell 4;have p5 := hXn.cell 5;have p6 := hXn.cell 6;have p7 := hXn.cell 7;unfold za1 at p0 p1 p2 p3 p4 p5 p6 p7;simp only [gA, gB, gC] at c0 p0 p1 p2 p3 p4 p5 p6 p7;have hqn : TermOk (Lt Wn.heap.size) Wn x q := ((hq.keep (zaa hBw)).keep (fun b o hb => hBn.cell (p := ⟨b, o, none⟩) (zJy hb (by omega)))).imp (zc6 (by have := hBn.size; omega));unfold za1 at k32;have HTN := zJv hTn;have hczn : cb < Wn.heap.size := hTn.blk.lt;clear hTn hXn;have hne1 : v1.ownBlock ≠ some cb := za3 HT.out.o1 HT.out.blk (by decide)
    go_region_law (first
     | (refine zdy _ rfl _ _ 23 rfl (w.heap.size + 2) 38 i1 _ 8 120 Tryz.underlying23 hi1 hz11 hz12 hz13 rfl (by decide) v1 r1.length (zf2 r1) (by simp [Act.eval]) ((HTN.out.below hb5).o1.alloc _) (some ⟨w4.heap.size, 0, none⟩) 1 1 (za1 x p') (by simp [Act.eval]) rfl (zgx w4 (za1 x p') 38) (by intro u hu; simp [za1] at hu; rcases hu with rfl | rfl | rfl | rfl | rfl | rfl | rfl | rfl <;> rfl) (by unfold maxLen; have := HRL.out; omega) (by have := HRL.out; omega) (by simp only [zKh]; have := hb5.size; have := hBn.size; omega) ?_; intro v' w5 hown5 hgrow5 hloc5; have c5 := (zdm (off := 0) hgrow5 l4 hne1).trans c4; have g5 := (zdv (off := 0) hgrow5 l4 hne1).trans g4; obtain ⟨A5, d5, rfl⟩ := za8 hown5)
     | (rw [if_pos (by simp [Region.wanted])]; go_simp; go_at_call 112; refine (k32 _ (by exact hqn)).mono ?_; rintro e w4 ⟨p', rfl, hok, hb4⟩; simp only [za1]; have hb5 : Below Wn.heap.size Wn w4 := ((zJx _ Wn).drew).trans hb4; have l4 : cb < w4.heap.size := zJy hczn hb5.size; have c4 := (hb4.cell (p := ⟨cb, 0, none⟩) hczn).trans c0; have g4 := (hb4.frozen (p := ⟨cb, 0, none⟩) hczn).trans g0; go_simp))
    all_goals
     have hpush := TreeOwn.pushTerm HTN.out x p' hb5 hok ((zJx w4.heap.size w4).alloc (zJw _) (.cells (za1 x p').toArray 38)) (by simpa using hown5) hgrow5 hloc5;have HP := zJv hpush.1;have hbp := hpush.2 (w.heap.size + 2) (zJw _) (by have := hBn.size; omega);have hbf : Below (w.heap.size + 2) W3 (w5.setCell ⟨cb, 0, none⟩ (.slice A5 (r1.length + 1) d5)) := hB.trans ((hBn.mono (by omega)).trans hbp);clear hpush hbp hok hown5 hgrow5 hloc5 hb4 hb5 c5 g5 c4 g4 k32 c0 g0 p0 p1 p2 p3 p4 p5 p6 p7;go_wp2
     go_roundw
     case rel => exact ⟨k + 1, r1 ++ [(x, p')], .slice A5 (r1.length + 1) d5, by omega, by go_num, zJv (by rw [List.map_append, HR.out, HTK.out]; rfl), HP, hbf⟩
     case measure => simp [intOf]; omega
  · obtain rfl : k = nodes.length := by omega
    have hX4 := HX3.out.below hB (by omega);have hY4 := HY3.out.below hB (by omega);have y0 := hX4.cell 0;have y1 := hX4.cell 1;simp only [gA, gB, gC] at y0 y1;have HX4 := zJv hX4;have HY4 := zJv hY4;have HRF : Hid (r1.map (·.1) = nodes) := zJv (by rw [HR.out, List.take_length]);have hBE := hBw;have HTE := HT;clear hX4 hY4 HR HT hBw hB hrl;go_wp2
    obtain ⟨WE, rfl⟩ : ∃ WE, WE = wr := ⟨wr, rfl⟩;skip
    go_loopw [7, 30] (fun _ i wr => ∃ (k : Nat) (r2 : List (TypD × Ptr2)) (v2 : Value), k ≤ types.length ∧ i = .int .i64 k ∧ Hid (r2.map (·.1) = types.take k) ∧ Hid (TreeOwn wr (w.heap.size + 2) cb 27 v1 v2 (.slice A3 aliases.length d3) r1 r2 aliases) ∧ Below (w.heap.size + 2) WE wr) (fun _ i _ => types.length - (intOf i).toNat)
    case atStart => exact ⟨0, [], .slice none 0 0, zK8 _, rfl, zJv (by simp), HTE, zJx _ _⟩
    case round =>
     obtain ⟨k, r2, v2, hk, rfl, HR, HT, hB⟩ := hrel;have hzr := hB.size;have hzc := HT.out.blk.lt;have hBw : Below w.heap.size w wr := hBE.trans (hB.mono (by omega));have hrl : r2.length = k := by have := congrArg List.length HR.out; simp at this; omega
     by_cases hlt : k < types.length
     · obtain ⟨b, off, rfl, hb, hcell⟩ := hN2 (by omega)
       obtain ⟨q, hq, hcq⟩ := hcell k types[k] (zK1 hlt);have hfew := hF2 _ (zKe hlt);have htk : types.take (k + 1) = types.take k ++ [types[k]] := zK9 hlt;obtain ⟨x, hx⟩ : ∃ x, types[k] = x := ⟨_, rfl⟩;rw [hx] at hq hcq hfew htk;clear hx hcell;have e0 := (hBw.cell (p := ⟨b, off + k * 6, none⟩) hb).trans (hcq 0 _ rfl);have e1 := (hBw.cell (p := ⟨b, off + k * 6 + 1, none⟩) hb).trans (hcq 1 _ rfl);have e2 := (hBw.cell (p := ⟨b, off + k * 6 + 2, none⟩) hb).trans (hcq 2 _ rfl);have e3 := (hBw.cell (p := ⟨b, off + k * 6 + 3, none⟩) hb).trans (hcq 3 _ rfl);have e4 := (hBw.cell (p := ⟨b, off + k * 6 + 4, none⟩) hb).trans (hcq 4 _ rfl);have e5 := (hBw.cell (p := ⟨b, off + k * 6 + 5, none⟩) hb).trans (hcq 5 _ rfl);clear hcq;have HTK := zJv htk;have HRL := zJv hrl;clear htk hrl;go_wp2_with fail
       obtain ⟨Wn, hWn⟩ : ∃ Wn, wr.alloc (.cells #[.int .i64 x.kind, .int .i64 x.pos, .string x.name, .slice q.a3 x.names.length q.c3, .slice q.a4 x.kids.length q.c4, .bool x.opn] 40) = Wn := ⟨_, rfl⟩;have hBn : Below wr.heap.size wr Wn := by rw [← hWn]; exact (zJx _ _).alloc (zJw _) _
       have hXn : Blk Wn wr.heap.size 40 (za4 x q).toArray := by rw [← hWn]; exact Blk.new wr 40 _
       rw [hWn];clear hWn e0 e1 e2 e3 e4 e5;have hzn := hXn.lt;have hTn := HT.out.below hBn;have k32 := fun W (hW : TypOk (Lt W.heap.size) W x q) => zg6 x q W hW hfew.1 hfew.2;have c0 := hTn.blk.cell 1;have g0 := hTn.blk.frozen 1;have p0 := hXn.cell 0;have p1 := hXn.cell 1;have p2 := hXn.cell 2;have p3 := hXn.cell 3;have p4 := hXn.cell 4;have p5 := hXn.cell 5;unfold za4 at p0 p1 p2 p3 p4 p5;simp only [gA, gB, gC] at c0 p0 p1 p2 p3 p4 p5;have hqn : TypOk (Lt Wn.heap.size) Wn x q := ((hq.keep (zaa hBw)).keep (fun b o hb => hBn.cell (p := ⟨b, o, none⟩) (zJy hb (by omega)))).imp (zc6 (by have := hBn.size; omega));unfold za4 at k32;have HTN := zJv hTn;have hczn : cb < Wn.heap.size := hTn.blk.lt;clear hTn hXn;have hne1 : v2.ownBlock ≠ some cb := za3 HT.out.o2 HT.out.blk (by decide)
       go_region_law (first
        | (refine zdy _ rfl _ _ 24 rfl (w.heap.size + 2) 40 i2 _ 6 88 Tryz.underlying24 hi2 hz21 hz22 hz23 rfl (by decide) v2 r2.length (zar r2) (by simp [Act.eval]) ((HTN.out.below hb5).o2.alloc _) (some ⟨w4.heap.size, 0, none⟩) 1 1 (za4 x p') (by simp [Act.eval]) rfl (zgx w4 (za4 x p') 40) (by intro u hu; simp [za4] at hu; rcases hu with rfl | rfl | rfl | rfl | rfl | rfl <;> rfl) (by unfold maxLen; have := HRL.out; omega) (by have := HRL.out; omega) (by simp only [zKh]; have := hb5.size; have := hBn.size; omega) ?_; intro v' w5 hown5 hgrow5 hloc5; have c5 := (zdm (off := 1) hgrow5 l4 hne1).trans c4; have g5 := (zdv (off := 1) hgrow5 l4 hne1).trans g4; obtain ⟨A5, d5, rfl⟩ := za8 hown5)
        | (rw [if_pos (by simp [Region.wanted])]; go_simp; go_at_call 113; refine (k32 _ (by exact hqn)).mono ?_; rintro e w4 ⟨p', rfl, hok, hb4⟩; simp only [za4]; have hb5 : Below Wn.heap.size Wn w4 := ((zJx _ Wn).drew).trans hb4; have l4 : cb < w4.heap.size := zJy hczn hb5.size; have c4 := (hb4.cell (p := ⟨cb, 1, none⟩) hczn).trans c0; have g4 := (hb4.frozen (p := ⟨cb, 1, none⟩) hczn).trans g0; go_simp))
       all_goals
        have hpush := TreeOwn.pushType HTN.out x p' hb5 hok ((zJx w4.heap.size w4).alloc (zJw _) (.cells (za4 x p').toArray 40)) (by simpa using hown5) hgrow5 hloc5;have HP := zJv hpush.1;have hbp := hpush.2 (w.heap.size + 2) (zJw _) (by have := hBn.size; omega);have hbf : Below (w.heap.size + 2) WE (w5.setCell ⟨cb, 1, none⟩ (.slice A5 (r2.length + 1) d5)) := hB.trans ((hBn.mono (by omega)).trans hbp);clear hpush hbp hok hown5 hgrow5 hloc5 hb4 hb5 c5 g5 c4 g4 k32 c0 g0 p0 p1 p2 p3 p4 p5;go_wp2
        go_roundw
        case rel => exact ⟨k + 1, r2 ++ [(x, p')], .slice A5 (r2.length + 1) d5, by omega, by go_num, zJv (by rw [List.map_append, HR.out, HTK.out]; rfl), HP, hbf⟩
        case measure => simp [intOf]; omega
     · obtain rfl : k = types.length := by omega
       have hX5 := HX4.out.below hB (by omega);have hY5 := HY4.out.below hB (by omega);have HRF2 : Hid (r2.map (·.1) = types) := zJv (by rw [HR.out, List.take_length]);have cc0 := HT.out.blk.cell 0;have cc1 := HT.out.blk.cell 1;have cc2 := HT.out.blk.cell 2;have z0 := hY5.cell 0;have z1 := hY5.cell 1;have z2 := hY5.cell 2;have u0 := hY5.frozen 0;have u1 := hY5.frozen 1;have u2 := hY5.frozen 2;simp only [gA, gB, gC] at cc0 cc1 cc2 z0 z1 z2;obtain ⟨P', hP1, hP2, hP3, hPT⟩ := HT.out.at_;have hl1 : r1.length = nodes.length := by have := congrArg List.length HRF.out; simpa using this
       have hl2 : r2.length = types.length := by have := congrArg List.length HRF2.out; simpa using this
       rw [hl1] at hP1;rw [hl2] at hP2;rw [HRF.out, HRF2.out] at hPT;subst hP1;subst hP2;have hP3' := hP3;rw [hP3] at cc2;have HPT := zJv hPT;have HY5 := zJv hY5;clear hP3 hP3' hPT hX5 hY5 hl1 hl2 HT HR;go_wp2
       obtain ⟨WZ, hWZ⟩ : ∃ WZ, ((wr.setCell ⟨w.heap.size + 1, 0, none⟩ (.slice P'.a1 nodes.length P'.c1)).setCell ⟨w.heap.size + 1, 1, none⟩ (.slice P'.a2 types.length P'.c2)).setCell ⟨w.heap.size + 1, 2, none⟩ (.slice P'.a3 aliases.length P'.c3) = WZ := ⟨_, rfl⟩
       have hRZ : Blk WZ (w.heap.size + 1) 27 #[.slice P'.a1 nodes.length P'.c1, .slice P'.a2 types.length P'.c2, .slice P'.a3 aliases.length P'.c3] := by
        rw [← hWZ];have := ((HY5.out.set_ 0 (.slice P'.a1 nodes.length P'.c1)).set_ 1 (.slice P'.a2 types.length P'.c2)).set_ 2 (.slice P'.a3 aliases.length P'.c3);simpa using this
       have hBZ : Below w.heap.size w WZ := by
        rw [← hWZ];exact ((hBw.setCell (p := ⟨w.heap.size + 1, 0, none⟩) (Nat.le_succ _) _).setCell (p := ⟨w.heap.size + 1, 1, none⟩) (Nat.le_succ _) _).setCell (p := ⟨w.heap.size + 1, 2, none⟩) (Nat.le_succ _) _
       have hzZ : WZ.heap.size = wr.heap.size := by rw [← hWZ]; simp
       have hkZ : ∀ b o, w.heap.size + 2 ≤ b → WZ.cell? ⟨b, o, none⟩ = wr.cell? ⟨b, o, none⟩ := fun b o hb => by
        rw [← hWZ, zK0 _ _ _ _ (by intro e; injection e; omega), zK0 _ _ _ _ (by intro e; injection e; omega), zK0 _ _ _ _ (by intro e; injection e; omega)]
       rw [hWZ];clear hWZ cc0 cc1 cc2 z0 z1 z2 u0 u1 u2;have r0 := hRZ.cell 0;have r1' := hRZ.cell 1;have r2' := hRZ.cell 2;simp only [gA, gB, gC] at r0 r1' r2';refine bodyPost_ret (v := treeV ⟨nodes, types, aliases⟩ P') (by simp [results, Tryz.results72, go_sem, r0, r1', r2']) rfl ⟨_, rfl, ?_, hBZ⟩;have := (HPT.out.keep (fun b o hb => hkZ b o hb.1)).imp (Qb := New w WZ) (fun b hb => ⟨by have := hb.1; omega, by rw [hzZ]; exact hb.2⟩);exact this
end Go.Proofs.YtidmeodmkcomlaaGreatDoor
namespace Go.Proofs.YtidmeodmkcomlaaGreatDoor
open Go Go.Proofs Go.RowKit
theorem zjl {w w1 w2 w3 : World} {row : Option Nat} {cb g : Nat} (hb : Below w.heap.size w w1) (hb2 : Below w1.heap.size w1 w2) (hg : w2.grownBy w3 row) (h1 : g < w.heap.size) (h2 : g ≠ cb) (h3 : row ≠ some g) (v' : Value) (k : Nat) :
 (w3.setCell ⟨cb, k, none⟩ v').heap[g]? = w.heap[g]? := by
 have hs1 := hb.size;have hs2 := hb2.size;rw [zKp _ _ _ _ h2, hg.block g (by omega) (fun e => h3 e.symm), hb2.block g (by omega), hb.block g h1]
theorem zpm {w w1 w2 w3 : World} {row : Option Nat} {cb : Nat} (_hb : Below w.heap.size w w1) (hb2 : Below w1.heap.size w1 w2) (hg : w2.grownBy w3 row) (hr : ∀ g, row = some g → g < w.heap.size) (hcb : cb < w.heap.size) (v' : Value) (k b o : Nat) (h1 : w.heap.size ≤ b ∧ b < w1.heap.size) :
 (w3.setCell ⟨cb, k, none⟩ v').cell? ⟨b, o, none⟩ = w1.cell? ⟨b, o, none⟩ := by
 have hs2 := hb2.size;rw [zK0 _ _ _ _ (by intro e; injection e; omega), zKb (a := ⟨b, o, none⟩) (hg.block b (by omega) (fun e => by have := hr b e.symm; omega)), hb2.cell (p := ⟨b, o, none⟩) h1.2]
def zt2 (base cb : Nat) (v1 v2 v3 : Value) (r1 : List (TermD × Ptr3)) (r2 : List (TypD × Ptr2)) (r3 : List AliD) (x : TermD) (w : World) (e : Ending) (w' : World) : Prop :=
 ∃ p' v', e = .returned (.tuple #[.int .i64 (r1.length : Nat), .int .i64 0]) ∧ TreeOwn w' base cb 99 v' v2 v3 (r1 ++ [(x, p')]) r2 r3 ∧ (∀ B, B ≤ base → B ≤ w.heap.size → Below B w w') ∧ (∀ g, g < w.heap.size → (g ≠ cb → v1.ownBlock ≠ some g → w'.heap[g]? = w.heap[g]?)) ∧ TermOk (fun b => w.heap.size ≤ b) w' x p' ∧ ∀ g, v'.ownBlock = some g → g < w.heap.size → v1.ownBlock = some g
theorem zAb (base cb : Nat) {v1 v2 v3 : Value} {r1 : List (TermD × Ptr3)} {r2 : List (TypD × Ptr2)} {r3 : List AliD} (x : TermD) (q : Ptr3) (w : World) (hT : TreeOwn w base cb 99 v1 v2 v3 r1 r2 r3) (hl : r1.length = 65536) :
 Calls Tryz.prog 137 #[.pointer (some ⟨cb, 0, none⟩), .agg (za1 x q).toArray] w fun e w' => e = .returned (.tuple #[.int .i64 0, .int .i64 6]) ∧ Below w.heap.size w w' := by
 obtain ⟨A, c, hv⟩ := za8 hT.o1;have c0 := hT.blk.cell 0;have hcb := hT.blk.lt;simp only [gA, gB] at c0;rw [hv, hl] at c0;clear hv hT hl;unfold za1;go_enter Tryz.func137, Tryz.ntmps137
 go_wp2
 go_ret2
 exact ⟨rfl, (zJx _ _).alloc (zJw _) _⟩
set_option maxRecDepth 100000 in
theorem zqc (base cb : Nat) {v1 v2 v3 : Value} {r1 : List (TermD × Ptr3)} {r2 : List (TypD × Ptr2)} {r3 : List AliD} (x : TermD) (q : Ptr3) (w : World) (hT : TreeOwn w base cb 99 v1 v2 v3 r1 r2 r3) (hl : r1.length < 65536) (hq : TermOk (Lt w.heap.size) w x q) (f1 : x.names.length ≤ 65536) (f2 : x.kids.length ≤ 65536) (f3 : x.types.length ≤ 65536) :
 Calls Tryz.prog 137 #[.pointer (some ⟨cb, 0, none⟩), .agg (za1 x q).toArray] w (zt2 base cb v1 v2 v3 r1 r2 r3 x w) := by
 obtain ⟨i0, hi, hz0, hz1, hz2⟩ := info_parts zr6;obtain ⟨A, c, hv⟩ := za8 hT.o1;have hbs := hT.bas;have h65 : ((r1.length : Int) == 65536) = false := by rw [zKr]; omega
 obtain ⟨Wn, hWn⟩ : ∃ Wn, w.alloc (.cells (za1 x q).toArray 38) = Wn := ⟨_, rfl⟩;have hBn : Below w.heap.size w Wn := by rw [← hWn]; exact (zJx _ _).alloc (zJw _) _
 have hXn : Blk Wn w.heap.size 38 (za1 x q).toArray := by rw [← hWn]; exact Blk.new w 38 _
 have hTn := hT.below hBn;have c0 := hTn.blk.cell 0;have hcb := hTn.blk.lt;simp only [gA, gB] at c0;rw [hv] at c0;unfold za1 at *;have HT := zJv hT;have HV := zJv hv;have HBN := zJv hBn;have HXN := zJv hXn;have HTN := zJv hTn;have HQ := zJv hq;clear hT hv hBn hXn hTn hq;go_enter Tryz.func137, Tryz.ntmps137
 go_wp2_with fail
 have hBn := HBN.out;have hXn := HXN.out;have hTn := HTN.out;clear hWn;have hzn := hXn.lt;have k32 := fun W (hW : TermOk (Lt W.heap.size) W x q) => zg8 x q W hW f1 f2 f3;have g0 := hTn.blk.frozen 0;have p0 := hXn.cell 0;have p1 := hXn.cell 1;have p2 := hXn.cell 2;have p3 := hXn.cell 3;have p4 := hXn.cell 4;have p5 := hXn.cell 5;have p6 := hXn.cell 6;have p7 := hXn.cell 7;simp only [gA, gB, gC] at p0 p1 p2 p3 p4 p5 p6 p7;have hqn : TermOk (Lt Wn.heap.size) Wn x q := (HQ.out.keep (zaa hBn)).imp (zc6 hBn.size);unfold za1 at k32;have hczn : cb < Wn.heap.size := hTn.blk.lt;clear hTn hXn;have hne1 : v1.ownBlock ≠ some cb := za3 HT.out.o1 HT.out.blk (by decide);rw [HV.out] at hne1
 go_region_law (first
  | (refine zdy _ rfl _ _ 23 rfl base 38 i0 _ 8 120 Tryz.underlying23 hi hz0 hz1 hz2 rfl (by decide) (.slice A r1.length c) r1.length (zf2 r1) (by simp [Act.eval]) (HV.out ▸ ((HTN.out.below hb5).o1.alloc _)) (some ⟨w4.heap.size, 0, none⟩) 1 1 (za1 x p') (by simp [Act.eval]) rfl (zgx w4 (za1 x p') 38) (by intro u hu; simp [za1] at hu; rcases hu with rfl | rfl | rfl | rfl | rfl | rfl | rfl | rfl <;> rfl) (by unfold maxLen; omega) (by omega) (by simp only [zKh]; have := hb5.size; have := hBn.size; omega) ?_; intro v' w5 hown5 hgrow5 hloc5; have c5 := (zdm (off := 0) hgrow5 l4 hne1).trans c4; have g5 := (zdv (off := 0) hgrow5 l4 hne1).trans g4; obtain ⟨A5, d5, rfl⟩ := za8 hown5)
  | (rw [if_pos (by simp [Region.wanted])]; go_simp; go_at_call 112; refine (k32 _ (by exact hqn)).mono ?_; rintro e w4 ⟨p', rfl, hok, hb4⟩; simp only [za1]; have hb5 : Below Wn.heap.size Wn w4 := ((zJx _ Wn).drew).trans hb4; have l4 : cb < w4.heap.size := zJy hczn hb5.size; have c4 := (hb4.cell (p := ⟨cb, 0, none⟩) hczn).trans c0; have g4 := (hb4.frozen (p := ⟨cb, 0, none⟩) hczn).trans g0; go_simp))
 all_goals
  have hpush := TreeOwn.pushTerm HTN.out x p' hb5 hok ((zJx w4.heap.size w4).alloc (zJw _) (.cells (za1 x p').toArray 38)) (by simpa using hown5) (by rw [HV.out]; exact hgrow5) (by rw [HV.out]; exact hloc5);have HK : Hid (∀ g, g < w.heap.size → g ≠ cb → v1.ownBlock ≠ some g → ∀ v, (w5.setCell ⟨cb, 0, none⟩ v).heap[g]? = w.heap[g]?) := zJv (fun g h1 h2 h3 v => (zjl hb5 ((zJx w4.heap.size w4).alloc (zJw _) (.cells (za1 x p').toArray 38)) hgrow5 (zJy h1 hBn.size) h2 (by rw [← HV.out]; exact h3) v 0).trans (hBn.block g h1))
  have HL : Hid (∀ g, (Value.slice A5 (r1.length + 1) d5).ownBlock = some g → g < w.heap.size → v1.ownBlock = some g) := zJv (fun g e hg => by
   have hs1 := hb5.size;have hs2 := hBn.size;rcases hloc5 with h | h
   · rw [HV.out]; exact h.symm.trans e
   · rw [h] at e; injection e with e; simp only [zKh] at e; omega)
  have HN : Hid (∀ v, TermOk (fun b => w.heap.size ≤ b) (w5.setCell ⟨cb, 0, none⟩ v) x p') := zJv (fun v => (hok.keep (fun b o hq => zpm hb5 ((zJx w4.heap.size w4).alloc (zJw _) (.cells (za1 x p').toArray 38)) hgrow5 (fun g e => by rw [← HV.out] at e; exact zb8 HTN.out.o1 g e) hczn v 0 b o hq)).imp (fun b hq => zK4 hBn.size hq.1));have HP := zJv hpush.1;have HB := zJv hpush.2;clear hpush hok hown5 hgrow5 hloc5 hb4 hb5 c5 g5 c4 g4 k32 c0 g0 p0 p1 p2 p3 p4 p5 p6 p7;go_wp2
  go_ret2
  exact ⟨p', _, rfl, HP.out, fun B h1 h2 => (hBn.mono h2).trans (HB.out B h1 (zK4 h2 hBn.size)), fun g h1 h2 h3 => HK.out g h1 h2 h3 _, HN.out _, HL.out⟩
def zsl (base cb : Nat) (v1 v2 v3 : Value) (r1 : List (TermD × Ptr3)) (r2 : List (TypD × Ptr2)) (r3 : List AliD) (x : TypD) (w : World) (e : Ending) (w' : World) : Prop :=
 ∃ p' v', e = .returned (.tuple #[.int .i64 (r2.length : Nat), .int .i64 0]) ∧ TreeOwn w' base cb 99 v1 v' v3 r1 (r2 ++ [(x, p')]) r3 ∧ (∀ B, B ≤ base → B ≤ w.heap.size → Below B w w') ∧ (∀ g, g < w.heap.size → (g ≠ cb → v2.ownBlock ≠ some g → w'.heap[g]? = w.heap[g]?)) ∧ TypOk (fun b => w.heap.size ≤ b) w' x p' ∧ ∀ g, v'.ownBlock = some g → g < w.heap.size → v2.ownBlock = some g
theorem zAg (base cb : Nat) {v1 v2 v3 : Value} {r1 : List (TermD × Ptr3)} {r2 : List (TypD × Ptr2)} {r3 : List AliD} (x : TypD) (q : Ptr2) (w : World) (hT : TreeOwn w base cb 99 v1 v2 v3 r1 r2 r3) (hl : r2.length = 65536) :
 Calls Tryz.prog 82 #[.pointer (some ⟨cb, 0, none⟩), .agg (za4 x q).toArray] w fun e w' => e = .returned (.tuple #[.int .i64 0, .int .i64 6]) ∧ Below w.heap.size w w' := by
 obtain ⟨A, c, hv⟩ := za8 hT.o2;have c0 := hT.blk.cell 1;have hcb := hT.blk.lt;simp only [gA, gC, gB] at c0;rw [hv, hl] at c0;clear hv hT hl;unfold za4;go_enter Tryz.func82, Tryz.ntmps82
 go_wp2
 go_ret2
 exact ⟨rfl, (zJx _ _).alloc (zJw _) _⟩
set_option maxRecDepth 100000 in
theorem zr0 (base cb : Nat) {v1 v2 v3 : Value} {r1 : List (TermD × Ptr3)} {r2 : List (TypD × Ptr2)} {r3 : List AliD} (x : TypD) (q : Ptr2) (w : World) (hT : TreeOwn w base cb 99 v1 v2 v3 r1 r2 r3) (hl : r2.length < 65536) (hq : TypOk (Lt w.heap.size) w x q) (f1 : x.names.length ≤ 65536) (f2 : x.kids.length ≤ 65536) :
 Calls Tryz.prog 82 #[.pointer (some ⟨cb, 0, none⟩), .agg (za4 x q).toArray] w (zsl base cb v1 v2 v3 r1 r2 r3 x w) := by
 obtain ⟨i0, hi, hz0, hz1, hz2⟩ := info_parts zrd;obtain ⟨A, c, hv⟩ := za8 hT.o2;have hbs := hT.bas;have h65 : ((r2.length : Int) == 65536) = false := by rw [zKr]; omega
 obtain ⟨Wn, hWn⟩ : ∃ Wn, w.alloc (.cells (za4 x q).toArray 40) = Wn := ⟨_, rfl⟩;have hBn : Below w.heap.size w Wn := by rw [← hWn]; exact (zJx _ _).alloc (zJw _) _
 have hXn : Blk Wn w.heap.size 40 (za4 x q).toArray := by rw [← hWn]; exact Blk.new w 40 _
 have hTn := hT.below hBn;have c0 := hTn.blk.cell 1;have hcb := hTn.blk.lt;simp only [gA, gC, gB] at c0;rw [hv] at c0;unfold za4 at *;have HT := zJv hT;have HV := zJv hv;have HBN := zJv hBn;have HXN := zJv hXn;have HTN := zJv hTn;have HQ := zJv hq;clear hT hv hBn hXn hTn hq;go_enter Tryz.func82, Tryz.ntmps82
 go_wp2_with fail
 have hBn := HBN.out;have hXn := HXN.out;have hTn := HTN.out;clear hWn;have hzn := hXn.lt;have k32 := fun W (hW : TypOk (Lt W.heap.size) W x q) => zg6 x q W hW f1 f2;have g0 := hTn.blk.frozen 1;have p0 := hXn.cell 0;have p1 := hXn.cell 1;have p2 := hXn.cell 2;have p3 := hXn.cell 3;have p4 := hXn.cell 4;have p5 := hXn.cell 5;simp only [gA, gB, gC] at p0 p1 p2 p3 p4 p5;have hqn : TypOk (Lt Wn.heap.size) Wn x q := (HQ.out.keep (zaa hBn)).imp (zc6 hBn.size);unfold za4 at k32;have hczn : cb < Wn.heap.size := hTn.blk.lt;clear hTn hXn;have hne1 : v2.ownBlock ≠ some cb := za3 HT.out.o2 HT.out.blk (by decide);rw [HV.out] at hne1
 go_region_law (first
  | (refine zdy _ rfl _ _ 24 rfl base 40 i0 _ 6 88 Tryz.underlying24 hi hz0 hz1 hz2 rfl (by decide) (.slice A r2.length c) r2.length (zar r2) (by simp [Act.eval]) (HV.out ▸ ((HTN.out.below hb5).o2.alloc _)) (some ⟨w4.heap.size, 0, none⟩) 1 1 (za4 x p') (by simp [Act.eval]) rfl (zgx w4 (za4 x p') 40) (by intro u hu; simp [za4] at hu; rcases hu with rfl | rfl | rfl | rfl | rfl | rfl <;> rfl) (by unfold maxLen; omega) (by omega) (by simp only [zKh]; have := hb5.size; have := hBn.size; omega) ?_; intro v' w5 hown5 hgrow5 hloc5; have c5 := (zdm (off := 1) hgrow5 l4 hne1).trans c4; have g5 := (zdv (off := 1) hgrow5 l4 hne1).trans g4; obtain ⟨A5, d5, rfl⟩ := za8 hown5)
  | (rw [if_pos (by simp [Region.wanted])]; go_simp; go_at_call 113; refine (k32 _ (by exact hqn)).mono ?_; rintro e w4 ⟨p', rfl, hok, hb4⟩; simp only [za4]; have hb5 : Below Wn.heap.size Wn w4 := ((zJx _ Wn).drew).trans hb4; have l4 : cb < w4.heap.size := zJy hczn hb5.size; have c4 := (hb4.cell (p := ⟨cb, 1, none⟩) hczn).trans c0; have g4 := (hb4.frozen (p := ⟨cb, 1, none⟩) hczn).trans g0; go_simp))
 all_goals
  have hpush := TreeOwn.pushType HTN.out x p' hb5 hok ((zJx w4.heap.size w4).alloc (zJw _) (.cells (za4 x p').toArray 40)) (by simpa using hown5) (by rw [HV.out]; exact hgrow5) (by rw [HV.out]; exact hloc5);have HK : Hid (∀ g, g < w.heap.size → g ≠ cb → v2.ownBlock ≠ some g → ∀ v, (w5.setCell ⟨cb, 1, none⟩ v).heap[g]? = w.heap[g]?) := zJv (fun g h1 h2 h3 v => (zjl hb5 ((zJx w4.heap.size w4).alloc (zJw _) (.cells (za4 x p').toArray 40)) hgrow5 (zJy h1 hBn.size) h2 (by rw [← HV.out]; exact h3) v 1).trans (hBn.block g h1))
  have HL : Hid (∀ g, (Value.slice A5 (r2.length + 1) d5).ownBlock = some g → g < w.heap.size → v2.ownBlock = some g) := zJv (fun g e hg => by
   have hs1 := hb5.size;have hs2 := hBn.size;rcases hloc5 with h | h
   · rw [HV.out]; exact h.symm.trans e
   · rw [h] at e; injection e with e; simp only [zKh] at e; omega)
  have HN : Hid (∀ v, TypOk (fun b => w.heap.size ≤ b) (w5.setCell ⟨cb, 1, none⟩ v) x p') := zJv (fun v => (hok.keep (fun b o hq => zpm hb5 ((zJx w4.heap.size w4).alloc (zJw _) (.cells (za4 x p').toArray 40)) hgrow5 (fun g e => by rw [← HV.out] at e; exact zb8 HTN.out.o2 g e) hczn v 1 b o hq)).imp (fun b hq => zK4 hBn.size hq.1));have HP := zJv hpush.1;have HB := zJv hpush.2;clear hpush hok hown5 hgrow5 hloc5 hb4 hb5 c5 g5 c4 g4 k32 c0 g0 p0 p1 p2 p3 p4 p5;go_wp2
  go_ret2
  exact ⟨p', _, rfl, HP.out, fun B h1 h2 => (hBn.mono h2).trans (HB.out B h1 (zK4 h2 hBn.size)), fun g h1 h2 h3 => HK.out g h1 h2 h3 _, HN.out _, HL.out⟩
theorem ze5 (w : World) : Calls Tryz.prog 37 #[] w fun e w' => e = .returned (.pointer (some ⟨w.heap.size, 0, none⟩)) ∧ TreeOwn w' w.heap.size w.heap.size 99 (.slice none 0 0) (.slice none 0 0) (.slice none 0 0) [] [] [] ∧ Below w.heap.size w w' := by
 go_enter Tryz.func37, Tryz.ntmps37
 go_wp2
 go_ret;exact ⟨rfl, ⟨Blk.new w 99 _, .inr rfl, zJw _, World.ownsRow_nil _ _ _ _, World.ownsRow_nil _ _ _ _, World.ownsRow_nil _ _ _ _, fun _ h => by simp at h, fun _ h => by simp at h⟩, (zJx _ _).alloc (zJw _) _⟩
theorem zit (base cb : Nat) {v1 v2 v3 : Value} {r1 : List (TermD × Ptr3)} {r2 : List (TypD × Ptr2)} {r3 : List AliD} (w : World) (hT : TreeOwn w base cb 99 v1 v2 v3 r1 r2 r3) (n1 : r1.length ≤ 65536) (n2 : r2.length ≤ 65536) (n3 : r3.length ≤ 65536)
 (hF1 : ∀ x ∈ r1, x.1.names.length ≤ 65536 ∧ x.1.kids.length ≤ 65536 ∧ x.1.types.length ≤ 65536) (hF2 : ∀ x ∈ r2, x.1.names.length ≤ 65536 ∧ x.1.kids.length ≤ 65536) :
 Calls Tryz.prog 39 #[.pointer (some ⟨cb, 0, none⟩)] w (zj1 w ⟨r1.map (·.1), r2.map (·.1), r3⟩) := by
 obtain ⟨P', hP1, hP2, hP3, hPT⟩ := hT.at_;obtain ⟨Wn, hWn⟩ : ∃ Wn, w.alloc (.cells #[.slice none 0 0, .slice none 0 0, .slice none 0 0] 27) = Wn := ⟨_, rfl⟩;have hBn : Below w.heap.size w Wn := by rw [← hWn]; exact (zJx _ _).alloc (zJw _) _
 have hXn : Blk Wn w.heap.size 27 #[.slice none 0 0, .slice none 0 0, .slice none 0 0] := by rw [← hWn]; exact Blk.new w 27 _
 have hzW : Wn.heap.size = w.heap.size + 1 := by rw [← hWn]; simp only [zKh]
 have hTn := hT.below hBn;have c0 := hTn.blk.cell 0;have c1 := hTn.blk.cell 1;have c2 := hTn.blk.cell 2;simp only [gA, gB, gC] at c0 c1 c2;rw [hP1] at c0;rw [hP2] at c1;rw [hP3] at c2
 have k33 := zzn ⟨r1.map (·.1), r2.map (·.1), r3⟩ P' Wn ((hPT.keep (fun b o hb => hBn.cell (p := ⟨b, o, none⟩) hb.2)).imp (fun b hb => zJy hb.2 hBn.size)) (by simpa using n1) (by simpa using n2) n3
  (fun x hx => by obtain ⟨y, hy, rfl⟩ := List.mem_map.1 hx; exact hF1 y hy) (fun x hx => by obtain ⟨y, hy, rfl⟩ := List.mem_map.1 hx; exact hF2 y hy)
 have hm1 : (r1.map (·.1)).length = r1.length := zKd _;have hm2 : (r2.map (·.1)).length = r2.length := zKd _;unfold treeV at k33;dsimp only at k33;rw [hm1, hm2] at k33;have HBN := zJv hBn;have HXN := zJv hXn;have HZW := zJv hzW;clear hPT hP1 hP2 hP3 hT hTn hF1 hF2 hBn hXn hzW hm1 hm2;go_enter Tryz.func39, Tryz.ntmps39
 go_wp2_with fail
 refine k33.mono ?_;rintro e w2 ⟨p', rfl, hat, hb⟩;unfold treeV;dsimp only;have hm1 : (r1.map (·.1)).length = r1.length := zKd _;have hm2 : (r2.map (·.1)).length = r2.length := zKd _;have hX2 := HXN.out.below hb (by have := HXN.out.lt; omega);have x0 := hX2.cell 0;have x1 := hX2.cell 1;have x2 := hX2.cell 2;have y0 := hX2.frozen 0;have y1 := hX2.frozen 1;have y2 := hX2.frozen 2;simp only [gA, gB, gC] at x0 x1 x2;rw [hm1, hm2];have HX2 := zJv hX2;have HAT := zJv hat;have HM := zJv (And.intro hm1 hm2);have HB := zJv hb;clear hX2 hat hm1 hm2 k33 hb hWn;go_wp2
 obtain ⟨WZ, hWZ⟩ : ∃ WZ, ((w2.setCell ⟨w.heap.size, 0, none⟩ (.slice p'.a1 r1.length p'.c1)).setCell ⟨w.heap.size, 1, none⟩ (.slice p'.a2 r2.length p'.c2)).setCell ⟨w.heap.size, 2, none⟩ (.slice p'.a3 r3.length p'.c3) = WZ := ⟨_, rfl⟩
 have hRZ : Blk WZ w.heap.size 27 #[.slice p'.a1 r1.length p'.c1, .slice p'.a2 r2.length p'.c2, .slice p'.a3 r3.length p'.c3] := by
  rw [← hWZ];have := ((HX2.out.set_ 0 (.slice p'.a1 r1.length p'.c1)).set_ 1 (.slice p'.a2 r2.length p'.c2)).set_ 2 (.slice p'.a3 r3.length p'.c3);simpa using this
 have hBZ : Below w.heap.size w WZ := by
  rw [← hWZ];exact (((HBN.out.trans (HB.out.mono HBN.out.size)).setCell (p := ⟨w.heap.size, 0, none⟩) (zJw _) _).setCell (p := ⟨w.heap.size, 1, none⟩) (zJw _) _).setCell (p := ⟨w.heap.size, 2, none⟩) (zJw _) _
 have hzZ : WZ.heap.size = w2.heap.size := by rw [← hWZ]; simp
 have hkZ : ∀ b o, w.heap.size + 1 ≤ b → WZ.cell? ⟨b, o, none⟩ = w2.cell? ⟨b, o, none⟩ := fun b o hb => by
  rw [← hWZ, zK0 _ _ _ _ (by intro e; injection e; omega), zK0 _ _ _ _ (by intro e; injection e; omega), zK0 _ _ _ _ (by intro e; injection e; omega)]
 rw [hWZ];clear hWZ x0 x1 x2 y0 y1 y2;have q0 := hRZ.cell 0;have q1 := hRZ.cell 1;have q2 := hRZ.cell 2;simp only [gA, gB, gC] at q0 q1 q2;refine bodyPost_ret (v := .agg #[.slice p'.a1 r1.length p'.c1, .slice p'.a2 r2.length p'.c2, .slice p'.a3 r3.length p'.c3]) (by simp [results, Tryz.results39, go_sem, q0, q1, q2]) rfl ⟨p', by unfold treeV; dsimp only; rw [HM.out.1, HM.out.2], ?_, hBZ⟩;have := (HAT.out.keep (fun b o hb => hkZ b o (by have := hb.1; have := HZW.out; omega))).imp (Qb := New w WZ) (fun b hb => ⟨by have := hb.1; have := HZW.out; omega, by rw [hzZ]; exact hb.2⟩);exact this
end Go.Proofs.YtidmeodmkcomlaaGreatDoor
