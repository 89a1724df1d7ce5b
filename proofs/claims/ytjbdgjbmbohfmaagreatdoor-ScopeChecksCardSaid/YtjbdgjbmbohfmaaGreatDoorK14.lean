/- A copy of a tree, in new memory. -/
import Derived.Test.YtjbdgjbmbohfmaaGreatDoorK13
import Derived.Deep.RegionLaw
namespace Go.Proofs.YtjbdgjbmbohfmaaGreatDoor
open Go Go.Proofs Go.RowKit
def CloneTreePost (w : World) (t : TreeD) (e : Ending) (w' : World) : Prop := ∃ p, e = .returned (treeV t p) ∧ TreeAt (New w w') w' t p ∧ Below w.heap.size w w'

theorem app_cell {w4 w5 : World} {o : Obj} {v1 : Value} (hg : (w4.alloc o).grownBy w5 v1.ownBlock) {b off : Nat} (hb : b < w4.heap.size) (hne : v1.ownBlock ≠ some b) : w5.cell? ⟨b, off, none⟩ = w4.cell? ⟨b, off, none⟩ :=
 (World.cell?_of_block (a := ⟨b, off, none⟩) (hg.block b (by rw [World.size_alloc]; omega) (fun e => hne e.symm))).trans (World.cell?_alloc_lt w4 o ⟨b, off, none⟩ hb)
theorem app_frozen {w4 w5 : World} {o : Obj} {v1 : Value} (hg : (w4.alloc o).grownBy w5 v1.ownBlock) {b off : Nat} (hb : b < w4.heap.size) (hne : v1.ownBlock ≠ some b) : w5.frozen? ⟨b, off, none⟩ = w4.frozen? ⟨b, off, none⟩ := by
 have h := hg.block b (by rw [World.size_alloc]; omega) (fun e => hne e.symm)
 have h2 := (Below.heap_alloc w4 o b hb)
 simp only [World.frozen?, h, h2]

set_option maxRecDepth 100000 in
set_option maxHeartbeats 8000000 in
theorem clone_any (t : TreeD) (p : Ptr6) (w : World) (hT : TreeAt (Lt w.heap.size) w t p) (n1 : t.nodes.length ≤ 65536) (n2 : t.types.length ≤ 65536) (n3 : t.aliases.length ≤ 65536)
 (hF1 : ∀ x ∈ t.nodes, x.names.length ≤ 65536 ∧ x.kids.length ≤ 65536 ∧ x.types.length ≤ 65536) (hF2 : ∀ x ∈ t.types, x.names.length ≤ 65536 ∧ x.kids.length ≤ 65536) :
 Calls Tryz.prog 151 #[treeV t p] w (CloneTreePost w t) := by
 obtain ⟨nodes, types, aliases⟩ := t
 obtain ⟨a1, c1, a2, c2, a3, c3⟩ := p
 obtain ⟨hN1, hN2, hN3⟩ := hT
 obtain ⟨i1, hi1, hz11, hz12, hz13⟩ := info_parts info33
 obtain ⟨i2, hi2, hz21, hz22, hz23⟩ := info_parts info47
 dsimp only at *
 obtain ⟨W1, hW1⟩ : ∃ W1, (w.alloc (.cells #[.slice a1 nodes.length c1, .slice a2 types.length c2, .slice a3 aliases.length c3] 28)).alloc (.cells #[.slice none 0 0, .slice none 0 0, .slice none 0 0] 28) = W1 := ⟨_, rfl⟩
 have hB1 : Below w.heap.size w W1 := by rw [← hW1]; exact ((Below.refl _ _).alloc (Nat.le_refl _) _).alloc (by simp) _
 have hX : Blk W1 w.heap.size 28 #[.slice a1 nodes.length c1, .slice a2 types.length c2, .slice a3 aliases.length c3] := by rw [← hW1]; exact (Blk.new w 28 _).alloc _
 have hY : Blk W1 (w.heap.size + 1) 28 #[.slice none 0 0, .slice none 0 0, .slice none 0 0] := by
  rw [← hW1]
  have := Blk.new (w.alloc (.cells #[.slice a1 nodes.length c1, .slice a2 types.length c2, .slice a3 aliases.length c3] 28)) 28 #[.slice none 0 0, .slice none 0 0, .slice none 0 0]
  rwa [World.size_alloc] at this
 have hs1 : W1.heap.size = w.heap.size + 2 := by rw [← hW1]; simp only [World.size_alloc]
 have kA := copyA_any a3 c3 aliases W1 (alis_rd (hN3.keep (keep_below hB1))) n3
 have x0 := hX.cell 0
 have x1 := hX.cell 1
 have x2 := hX.cell 2
 simp only [List.getElem?_toArray, List.getElem?_cons_zero, List.getElem?_cons_succ] at x0 x1 x2
 have HS1 := Lib.hid hs1
 have HX := Lib.hid hX
 have HY := Lib.hid hY
 clear hs1 hX hY
 go_enter Tryz.func151, Tryz.ntmps151
 go_wp2_with fail
 clear hW1
 refine kA.mono ?_
 rintro e w2 ⟨v3, rfl, ho3, hb2⟩
 obtain ⟨A3, d3, rfl⟩ := own_form ho3
 clear kA
 have hz2 := hb2.size
 rw [HS1.out] at hb2 hz2 ho3
 have hX2 := HX.out.below hb2 (by omega)
 have hY2 := HY.out.below hb2 (by omega)
 have hB2 : Below w.heap.size w w2 := hB1.trans (hb2.mono (by omega))
 have y0 := hX2.cell 0
 have y1 := hX2.cell 1
 have y2 := hX2.cell 2
 simp only [List.getElem?_toArray, List.getElem?_cons_zero, List.getElem?_cons_succ] at y0 y1 y2
 have l2 : w.heap.size < w2.heap.size := by omega
 have HX2 := Lib.hid hX2
 have HY2 := Lib.hid hY2
 have HO3 := Lib.hid ho3
 clear hX2 hY2 x0 x1 x2 HX HY hb2 ho3
 go_wp2
 obtain ⟨W3, hW3⟩ : ∃ W3, w2.alloc (.cells #[.slice none 0 0, .slice none 0 0, .slice A3 aliases.length d3] 28) = W3 := ⟨_, rfl⟩
 have hT3 : TreeOwn W3 (w.heap.size + 2) w2.heap.size 28 (.slice none 0 0) (.slice none 0 0) (.slice A3 aliases.length d3) [] [] aliases := by
  rw [← hW3]
  exact ⟨Blk.new w2 28 _, .inl rfl, by omega, World.ownsRow_nil _ _ _ _, World.ownsRow_nil _ _ _ _, HO3.out.alloc _, fun _ h => by simp at h, fun _ h => by simp at h⟩
 have hB3 : Below w.heap.size w W3 := by rw [← hW3]; exact hB2.alloc (by omega) _
 have hX3 : Blk W3 w.heap.size 28 #[.slice a1 nodes.length c1, .slice a2 types.length c2, .slice a3 aliases.length c3] := by rw [← hW3]; exact HX2.out.alloc _
 have hY3 : Blk W3 (w.heap.size + 1) 28 #[.slice none 0 0, .slice none 0 0, .slice none 0 0] := by rw [← hW3]; exact HY2.out.alloc _
 have hs3 : W3.heap.size = w2.heap.size + 1 := by rw [← hW3]; simp only [World.size_alloc]
 rw [hW3]
 obtain ⟨cb, hcb⟩ : ∃ cb, w2.heap.size = cb := ⟨_, rfl⟩
 rw [hcb] at hT3 hs3 hz2 ⊢
 have HS3 := Lib.hid hs3
 have HX3 := Lib.hid hX3
 have HY3 := Lib.hid hY3
 have HT3 := Lib.hid hT3
 clear hW3 hs3 hX3 hY3 hT3 HX2 HY2 HO3 y0 y1 y2 l2 hB2 hcb
 go_loopw [5, 15] (fun _ i wr => ∃ (k : Nat) (r1 : List (TermD × Ptr3)) (v1 : Value), k ≤ nodes.length ∧ i = .int .i64 k ∧ Hid (r1.map (·.1) = nodes.take k) ∧ Hid (TreeOwn wr (w.heap.size + 2) cb 28 v1 (.slice none 0 0) (.slice A3 aliases.length d3) r1 [] aliases) ∧ Below (w.heap.size + 2) W3 wr) (fun _ i _ => nodes.length - (intOf i).toNat)
 case atStart => exact ⟨0, [], .slice none 0 0, Nat.zero_le _, rfl, Lib.hid (by simp), HT3, Below.refl _ _⟩
 case round =>
  obtain ⟨k, r1, v1, hk, rfl, HR, HT, hB⟩ := hrel
  have hzr := hB.size
  have hzc := HT.out.blk.lt
  have hBw : Below w.heap.size w wr := hB3.trans (hB.mono (by omega))
  have hrl : r1.length = k := by have := congrArg List.length HR.out; simp at this; omega
  by_cases hlt : k < nodes.length
  ·obtain ⟨b, off, rfl, hb, hcell⟩ := hN1 (by omega)
   obtain ⟨q, hq, hcq⟩ := hcell k nodes[k] (List.getElem?_eq_getElem hlt)
   have hfew := hF1 _ (List.getElem_mem hlt)
   have htk : nodes.take (k + 1) = nodes.take k ++ [nodes[k]] := List.take_succ_eq_append_getElem hlt
   obtain ⟨x, hx⟩ : ∃ x, nodes[k] = x := ⟨_, rfl⟩
   rw [hx] at hq hcq hfew htk
   clear hx hcell
   have e0 := (hBw.cell (p := ⟨b, off + k * 8, none⟩) hb).trans (hcq 0 _ rfl)
   have e1 := (hBw.cell (p := ⟨b, off + k * 8 + 1, none⟩) hb).trans (hcq 1 _ rfl)
   have e2 := (hBw.cell (p := ⟨b, off + k * 8 + 2, none⟩) hb).trans (hcq 2 _ rfl)
   have e3 := (hBw.cell (p := ⟨b, off + k * 8 + 3, none⟩) hb).trans (hcq 3 _ rfl)
   have e4 := (hBw.cell (p := ⟨b, off + k * 8 + 4, none⟩) hb).trans (hcq 4 _ rfl)
   have e5 := (hBw.cell (p := ⟨b, off + k * 8 + 5, none⟩) hb).trans (hcq 5 _ rfl)
   have e6 := (hBw.cell (p := ⟨b, off + k * 8 + 6, none⟩) hb).trans (hcq 6 _ rfl)
   have e7 := (hBw.cell (p := ⟨b, off + k * 8 + 7, none⟩) hb).trans (hcq 7 _ rfl)
   clear hcq
   have HTK := Lib.hid htk
   have HRL := Lib.hid hrl
   clear htk hrl
   go_wp2_with fail
   obtain ⟨Wn, hWn⟩ : ∃ Wn, wr.alloc (.cells #[.int .i64 x.kind, .int .i64 x.pos, .string x.name, .int .i64 x.int, .int .u64 (x.bits : Int), .slice q.a5 x.names.length q.c5, .slice q.a6 x.kids.length q.c6, .slice q.a7 x.types.length q.c7] 60) = Wn := ⟨_, rfl⟩
   have hBn : Below wr.heap.size wr Wn := by rw [← hWn]; exact (Below.refl _ _).alloc (Nat.le_refl _) _
   have hXn : Blk Wn wr.heap.size 60 (termCells x q).toArray := by rw [← hWn]; exact Blk.new wr 60 _
   rw [hWn]
   clear hWn e0 e1 e2 e3 e4 e5 e6 e7
   have hzn := hXn.lt
   have hTn := HT.out.below hBn
   have k32 := fun W (hW : TermOk (Lt W.heap.size) W x q) => cloneTerm_any x q W hW hfew.1 hfew.2.1 hfew.2.2
   have c0 := hTn.blk.cell 0
   have g0 := hTn.blk.frozen 0
   have p0 := hXn.cell 0
   have p1 := hXn.cell 1
   have p2 := hXn.cell 2
   have p3 := hXn.cell 3
   have p4 := hXn.cell 4
   have p5 := hXn.cell 5
   have p6 := hXn.cell 6
   have p7 := hXn.cell 7
   unfold termCells at p0 p1 p2 p3 p4 p5 p6 p7
   simp only [List.getElem?_toArray, List.getElem?_cons_zero, List.getElem?_cons_succ] at c0 p0 p1 p2 p3 p4 p5 p6 p7
   have hqn : TermOk (Lt Wn.heap.size) Wn x q := ((hq.keep (keep_below hBw)).keep (fun b o hb => hBn.cell (p := ⟨b, o, none⟩) (Nat.lt_of_lt_of_le hb (by omega)))).imp (lt_mono (by have := hBn.size; omega))
   unfold termCells at k32
   have HTN := Lib.hid hTn
   have hczn : cb < Wn.heap.size := hTn.blk.lt
   clear hTn hXn
   have hne1 : v1.ownBlock ≠ some cb := own_blk_ne HT.out.o1 HT.out.blk (by decide)
   go_region_law (first
    | (refine step_app _ rfl _ _ 24 rfl (w.heap.size + 2) 60 i1 _ 8 120 Tryz.underlying24 hi1 hz11 hz12 hz13 rfl (by decide) v1 r1.length (tmCells r1) (by simp [Act.eval]) ((HTN.out.below hb5).o1.alloc _) (some ⟨w4.heap.size, 0, none⟩) 1 1 (termCells x p') (by simp [Act.eval]) rfl (rd_new w4 (termCells x p') 60) (by intro u hu; simp [termCells] at hu; rcases hu with rfl | rfl | rfl | rfl | rfl | rfl | rfl | rfl <;> rfl) (by unfold maxLen; have := HRL.out; omega) (by have := HRL.out; omega) (by simp only [World.size_alloc]; have := hb5.size; have := hBn.size; omega) ?_; intro v' w5 hown5 hgrow5 hloc5; have c5 := (app_cell (off := 0) hgrow5 l4 hne1).trans c4; have g5 := (app_frozen (off := 0) hgrow5 l4 hne1).trans g4; obtain ⟨A5, d5, rfl⟩ := own_form hown5)
    | (rw [if_pos (by simp [Region.wanted])]; go_simp; go_at_call 208; refine (k32 _ (by exact hqn)).mono ?_; rintro e w4 ⟨p', rfl, hok, hb4⟩; simp only [termCells]; have hb5 : Below Wn.heap.size Wn w4 := ((Below.refl _ Wn).drew).trans hb4; have l4 : cb < w4.heap.size := Nat.lt_of_lt_of_le hczn hb5.size; have c4 := (hb4.cell (p := ⟨cb, 0, none⟩) hczn).trans c0; have g4 := (hb4.frozen (p := ⟨cb, 0, none⟩) hczn).trans g0; go_simp))
   all_goals
    have hpush := TreeOwn.pushTerm HTN.out x p' hb5 hok ((Below.refl w4.heap.size w4).alloc (Nat.le_refl _) (.cells (termCells x p').toArray 60)) (by simpa using hown5) hgrow5 hloc5
    have HP := Lib.hid hpush.1
    have hbp := hpush.2 (w.heap.size + 2) (Nat.le_refl _) (by have := hBn.size; omega)
    have hbf : Below (w.heap.size + 2) W3 (w5.setCell ⟨cb, 0, none⟩ (.slice A5 (r1.length + 1) d5)) := hB.trans ((hBn.mono (by omega)).trans hbp)
    clear hpush hbp hok hown5 hgrow5 hloc5 hb4 hb5 c5 g5 c4 g4 k32 c0 g0 p0 p1 p2 p3 p4 p5 p6 p7
    go_wp2
    go_roundw
    case rel => exact ⟨k + 1, r1 ++ [(x, p')], .slice A5 (r1.length + 1) d5, by omega, by go_num, Lib.hid (by rw [List.map_append, HR.out, HTK.out]; rfl), HP, hbf⟩
    case measure => simp [intOf]; omega
  ·obtain rfl : k = nodes.length := by omega
   have hX4 := HX3.out.below hB (by omega)
   have hY4 := HY3.out.below hB (by omega)
   have y0 := hX4.cell 0
   have y1 := hX4.cell 1
   simp only [List.getElem?_toArray, List.getElem?_cons_zero, List.getElem?_cons_succ] at y0 y1
   have HX4 := Lib.hid hX4
   have HY4 := Lib.hid hY4
   have HRF : Hid (r1.map (·.1) = nodes) := Lib.hid (by rw [HR.out, List.take_length])
   have hBE := hBw
   have HTE := HT
   clear hX4 hY4 HR HT hBw hB hrl
   go_wp2
   obtain ⟨WE, rfl⟩ : ∃ WE, WE = wr := ⟨wr, rfl⟩
   skip
   go_loopw [7, 30] (fun _ i wr => ∃ (k : Nat) (r2 : List (TypD × Ptr2)) (v2 : Value), k ≤ types.length ∧ i = .int .i64 k ∧ Hid (r2.map (·.1) = types.take k) ∧ Hid (TreeOwn wr (w.heap.size + 2) cb 28 v1 v2 (.slice A3 aliases.length d3) r1 r2 aliases) ∧ Below (w.heap.size + 2) WE wr) (fun _ i _ => types.length - (intOf i).toNat)
   case atStart => exact ⟨0, [], .slice none 0 0, Nat.zero_le _, rfl, Lib.hid (by simp), HTE, Below.refl _ _⟩
   case round =>
    obtain ⟨k, r2, v2, hk, rfl, HR, HT, hB⟩ := hrel
    have hzr := hB.size
    have hzc := HT.out.blk.lt
    have hBw : Below w.heap.size w wr := hBE.trans (hB.mono (by omega))
    have hrl : r2.length = k := by have := congrArg List.length HR.out; simp at this; omega
    by_cases hlt : k < types.length
    ·obtain ⟨b, off, rfl, hb, hcell⟩ := hN2 (by omega)
     obtain ⟨q, hq, hcq⟩ := hcell k types[k] (List.getElem?_eq_getElem hlt)
     have hfew := hF2 _ (List.getElem_mem hlt)
     have htk : types.take (k + 1) = types.take k ++ [types[k]] := List.take_succ_eq_append_getElem hlt
     obtain ⟨x, hx⟩ : ∃ x, types[k] = x := ⟨_, rfl⟩
     rw [hx] at hq hcq hfew htk
     clear hx hcell
     have e0 := (hBw.cell (p := ⟨b, off + k * 6, none⟩) hb).trans (hcq 0 _ rfl)
     have e1 := (hBw.cell (p := ⟨b, off + k * 6 + 1, none⟩) hb).trans (hcq 1 _ rfl)
     have e2 := (hBw.cell (p := ⟨b, off + k * 6 + 2, none⟩) hb).trans (hcq 2 _ rfl)
     have e3 := (hBw.cell (p := ⟨b, off + k * 6 + 3, none⟩) hb).trans (hcq 3 _ rfl)
     have e4 := (hBw.cell (p := ⟨b, off + k * 6 + 4, none⟩) hb).trans (hcq 4 _ rfl)
     have e5 := (hBw.cell (p := ⟨b, off + k * 6 + 5, none⟩) hb).trans (hcq 5 _ rfl)
     clear hcq
     have HTK := Lib.hid htk
     have HRL := Lib.hid hrl
     clear htk hrl
     go_wp2_with fail
     obtain ⟨Wn, hWn⟩ : ∃ Wn, wr.alloc (.cells #[.int .i64 x.kind, .int .i64 x.pos, .string x.name, .slice q.a3 x.names.length q.c3, .slice q.a4 x.kids.length q.c4, .bool x.opn] 51) = Wn := ⟨_, rfl⟩
     have hBn : Below wr.heap.size wr Wn := by rw [← hWn]; exact (Below.refl _ _).alloc (Nat.le_refl _) _
     have hXn : Blk Wn wr.heap.size 51 (typCells x q).toArray := by rw [← hWn]; exact Blk.new wr 51 _
     rw [hWn]
     clear hWn e0 e1 e2 e3 e4 e5
     have hzn := hXn.lt
     have hTn := HT.out.below hBn
     have k32 := fun W (hW : TypOk (Lt W.heap.size) W x q) => cloneType_any x q W hW hfew.1 hfew.2
     have c0 := hTn.blk.cell 1
     have g0 := hTn.blk.frozen 1
     have p0 := hXn.cell 0
     have p1 := hXn.cell 1
     have p2 := hXn.cell 2
     have p3 := hXn.cell 3
     have p4 := hXn.cell 4
     have p5 := hXn.cell 5
     unfold typCells at p0 p1 p2 p3 p4 p5
     simp only [List.getElem?_toArray, List.getElem?_cons_zero, List.getElem?_cons_succ] at c0 p0 p1 p2 p3 p4 p5
     have hqn : TypOk (Lt Wn.heap.size) Wn x q := ((hq.keep (keep_below hBw)).keep (fun b o hb => hBn.cell (p := ⟨b, o, none⟩) (Nat.lt_of_lt_of_le hb (by omega)))).imp (lt_mono (by have := hBn.size; omega))
     unfold typCells at k32
     have HTN := Lib.hid hTn
     have hczn : cb < Wn.heap.size := hTn.blk.lt
     clear hTn hXn
     have hne1 : v2.ownBlock ≠ some cb := own_blk_ne HT.out.o2 HT.out.blk (by decide)
     go_region_law (first
      | (refine step_app _ rfl _ _ 25 rfl (w.heap.size + 2) 51 i2 _ 6 88 Tryz.underlying25 hi2 hz21 hz22 hz23 rfl (by decide) v2 r2.length (tyCells r2) (by simp [Act.eval]) ((HTN.out.below hb5).o2.alloc _) (some ⟨w4.heap.size, 0, none⟩) 1 1 (typCells x p') (by simp [Act.eval]) rfl (rd_new w4 (typCells x p') 51) (by intro u hu; simp [typCells] at hu; rcases hu with rfl | rfl | rfl | rfl | rfl | rfl <;> rfl) (by unfold maxLen; have := HRL.out; omega) (by have := HRL.out; omega) (by simp only [World.size_alloc]; have := hb5.size; have := hBn.size; omega) ?_; intro v' w5 hown5 hgrow5 hloc5; have c5 := (app_cell (off := 1) hgrow5 l4 hne1).trans c4; have g5 := (app_frozen (off := 1) hgrow5 l4 hne1).trans g4; obtain ⟨A5, d5, rfl⟩ := own_form hown5)
      | (rw [if_pos (by simp [Region.wanted])]; go_simp; go_at_call 209; refine (k32 _ (by exact hqn)).mono ?_; rintro e w4 ⟨p', rfl, hok, hb4⟩; simp only [typCells]; have hb5 : Below Wn.heap.size Wn w4 := ((Below.refl _ Wn).drew).trans hb4; have l4 : cb < w4.heap.size := Nat.lt_of_lt_of_le hczn hb5.size; have c4 := (hb4.cell (p := ⟨cb, 1, none⟩) hczn).trans c0; have g4 := (hb4.frozen (p := ⟨cb, 1, none⟩) hczn).trans g0; go_simp))
     all_goals
      have hpush := TreeOwn.pushType HTN.out x p' hb5 hok ((Below.refl w4.heap.size w4).alloc (Nat.le_refl _) (.cells (typCells x p').toArray 51)) (by simpa using hown5) hgrow5 hloc5
      have HP := Lib.hid hpush.1
      have hbp := hpush.2 (w.heap.size + 2) (Nat.le_refl _) (by have := hBn.size; omega)
      have hbf : Below (w.heap.size + 2) WE (w5.setCell ⟨cb, 1, none⟩ (.slice A5 (r2.length + 1) d5)) := hB.trans ((hBn.mono (by omega)).trans hbp)
      clear hpush hbp hok hown5 hgrow5 hloc5 hb4 hb5 c5 g5 c4 g4 k32 c0 g0 p0 p1 p2 p3 p4 p5
      go_wp2
      go_roundw
      case rel => exact ⟨k + 1, r2 ++ [(x, p')], .slice A5 (r2.length + 1) d5, by omega, by go_num, Lib.hid (by rw [List.map_append, HR.out, HTK.out]; rfl), HP, hbf⟩
      case measure => simp [intOf]; omega
    ·obtain rfl : k = types.length := by omega
     have hX5 := HX4.out.below hB (by omega)
     have hY5 := HY4.out.below hB (by omega)
     have HRF2 : Hid (r2.map (·.1) = types) := Lib.hid (by rw [HR.out, List.take_length])
     have cc0 := HT.out.blk.cell 0
     have cc1 := HT.out.blk.cell 1
     have cc2 := HT.out.blk.cell 2
     have z0 := hY5.cell 0
     have z1 := hY5.cell 1
     have z2 := hY5.cell 2
     have u0 := hY5.frozen 0
     have u1 := hY5.frozen 1
     have u2 := hY5.frozen 2
     simp only [List.getElem?_toArray, List.getElem?_cons_zero, List.getElem?_cons_succ] at cc0 cc1 cc2 z0 z1 z2
     obtain ⟨P', hP1, hP2, hP3, hPT⟩ := HT.out.at_
     have hl1 : r1.length = nodes.length := by have := congrArg List.length HRF.out; simpa using this
     have hl2 : r2.length = types.length := by have := congrArg List.length HRF2.out; simpa using this
     rw [hl1] at hP1
     rw [hl2] at hP2
     rw [HRF.out, HRF2.out] at hPT
     subst hP1
     subst hP2
     have hP3' := hP3
     rw [hP3] at cc2
     have HPT := Lib.hid hPT
     have HY5 := Lib.hid hY5
     clear hP3 hP3' hPT hX5 hY5 hl1 hl2 HT HR
     go_wp2
     obtain ⟨WZ, hWZ⟩ : ∃ WZ, ((wr.setCell ⟨w.heap.size + 1, 0, none⟩ (.slice P'.a1 nodes.length P'.c1)).setCell ⟨w.heap.size + 1, 1, none⟩ (.slice P'.a2 types.length P'.c2)).setCell ⟨w.heap.size + 1, 2, none⟩ (.slice P'.a3 aliases.length P'.c3) = WZ := ⟨_, rfl⟩
     have hRZ : Blk WZ (w.heap.size + 1) 28 #[.slice P'.a1 nodes.length P'.c1, .slice P'.a2 types.length P'.c2, .slice P'.a3 aliases.length P'.c3] := by
      rw [← hWZ]
      have := ((HY5.out.set_ 0 (.slice P'.a1 nodes.length P'.c1)).set_ 1 (.slice P'.a2 types.length P'.c2)).set_ 2 (.slice P'.a3 aliases.length P'.c3)
      simpa using this
     have hBZ : Below w.heap.size w WZ := by
      rw [← hWZ]
      exact ((hBw.setCell (p := ⟨w.heap.size + 1, 0, none⟩) (Nat.le_succ _) _).setCell (p := ⟨w.heap.size + 1, 1, none⟩) (Nat.le_succ _) _).setCell (p := ⟨w.heap.size + 1, 2, none⟩) (Nat.le_succ _) _
     have hzZ : WZ.heap.size = wr.heap.size := by rw [← hWZ]; simp
     have hkZ : ∀ b o, w.heap.size + 2 ≤ b → WZ.cell? ⟨b, o, none⟩ = wr.cell? ⟨b, o, none⟩ := fun b o hb => by
      rw [← hWZ, World.cell?_setCell_other _ _ _ _ (by intro e; injection e; omega), World.cell?_setCell_other _ _ _ _ (by intro e; injection e; omega), World.cell?_setCell_other _ _ _ _ (by intro e; injection e; omega)]
     rw [hWZ]
     clear hWZ cc0 cc1 cc2 z0 z1 z2 u0 u1 u2
     have r0 := hRZ.cell 0
     have r1' := hRZ.cell 1
     have r2' := hRZ.cell 2
     simp only [List.getElem?_toArray, List.getElem?_cons_zero, List.getElem?_cons_succ] at r0 r1' r2'
     refine bodyPost_ret (v := treeV ⟨nodes, types, aliases⟩ P') (by simp [results, Tryz.results151, go_sem, r0, r1', r2']) rfl ⟨_, rfl, ?_, hBZ⟩
     have := (HPT.out.keep (fun b o hb => hkZ b o hb.1)).imp (Qb := New w WZ) (fun b hb => ⟨by have := hb.1; omega, by rw [hzZ]; exact hb.2⟩)
     exact this
end Go.Proofs.YtjbdgjbmbohfmaaGreatDoor
