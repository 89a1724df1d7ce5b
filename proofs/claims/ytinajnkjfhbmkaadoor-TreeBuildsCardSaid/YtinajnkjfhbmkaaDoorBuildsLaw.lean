/- TreeBuilds returns true at every tree. -/
import Derived.Test.YtinajnkjfhbmkaaDoorBuilderB
import Derived.Test.YtinajnkjfhbmkaaDoorSameD
import Derived.Test.YtinajnkjfhbmkaaDoorFew
import Derived.Test.YtinajnkjfhbmkaaDoorFullLaw
namespace Go.Proofs.YtinajnkjfhbmkaaDoor
open Go Go.Proofs Go.RowKit

theorem blk_same {w W : World} {g : Nat} {t : TypeId} {cs : Array Value} (h : Blk w g t cs) (he : W.heap[g]? = w.heap[g]?) : Blk W g t cs := he.trans h

attribute [local irreducible] Blk

set_option maxRecDepth 100000 in
set_option maxHeartbeats 8000000 in
theorem builds_not (t : TreeD) (p : Ptr6) (w : World) (hE : Env w) (hT : TreeAt (Lt w.heap.size) w t p) (b1 : t.nodes.length ≤ 9223372036854775807) (b2 : t.types.length ≤ 9223372036854775807) (b3 : t.aliases.length ≤ 9223372036854775807) (hG : fewB t = false) :
    Calls Tryd.prog 4 #[treeV t p] w fun e w' => e = .returned (.bool true) ∧ Below w.heap.size w w' := by
  obtain ⟨a1, c1, a2, c2, a3, c3⟩ := p
  obtain ⟨tN, tT, tA⟩ := id hT
  dsimp only at tN tT tA
  obtain ⟨W1, hW1⟩ : ∃ W1, w.alloc (.cells #[.slice a1 t.nodes.length c1, .slice a2 t.types.length c2, .slice a3 t.aliases.length c3] 26) = W1 := ⟨_, rfl⟩
  have hB1 : Below w.heap.size w W1 := by rw [← hW1]; exact (Below.refl _ _).alloc (Nat.le_refl _) _
  have hX : Blk W1 w.heap.size 26 #[.slice a1 t.nodes.length c1, .slice a2 t.types.length c2, .slice a3 t.aliases.length c3] := by rw [← hW1]; exact Blk.new w 26 _
  have hXl := hX.lt
  have HBB := Lib.hid (And.intro b1 (And.intro b2 b3))
  clear b1 b2 b3
  have kL := lives_any W1 (hE.on hB1)
  have HX := Lib.hid hX
  have HE := Lib.hid hE
  have HT := Lib.hid hT
  have HG := Lib.hid hG
  clear hX hE hT hG tN tT tA
  go_enter Tryd.func4, Tryd.ntmps4
  go_wp2_with fail
  refine kL.mono ?_
  rintro e w2 ⟨rfl, hb2⟩
  have hB2 : Below w.heap.size w w2 := hB1.trans (hb2.mono (by omega))
  have hX2 := HX.out.below hb2 hXl
  have y0 := hX2.cell 0
  have y1 := hX2.cell 1
  have y2 := hX2.cell 2
  simp only [List.getElem?_toArray, List.getElem?_cons_zero, List.getElem?_cons_succ] at y0 y1 y2
  have kF := few_any t ⟨a1, c1, a2, c2, a3, c3⟩ w2 (tree_up HT.out hB2) (by have := HBB.out.1; omega) (by have := HBB.out.2.1; omega) (by have := HBB.out.2.2; omega)
  rw [HG.out] at kF
  have hs2 := hB2.size
  clear hX2 kL hb2
  go_wp2_with fail
  refine kF.mono ?_
  rintro e w3 ⟨rfl, hb3⟩
  have hB3 : Below w.heap.size w w3 := hB2.trans (hb3.mono (by omega))
  have kL := lives_any w3 (HE.out.on hB3)
  clear kF hb3
  go_wp2_with (go_at_call 6; refine kL.mono ?_; rintro e w4 ⟨rfl, hb4⟩)
  go_ret
  exact ⟨rfl, hB3.trans (hb4.mono (by have := hB3.size; omega))⟩

set_option maxRecDepth 100000 in
set_option maxHeartbeats 40000000 in
theorem builds_yes (t : TreeD) (p : Ptr6) (w : World) (hE : Env w) (hT : TreeAt (Lt w.heap.size) w t p) (hG : fewB t = true) :
    Calls Tryd.prog 4 #[treeV t p] w fun e w' => e = .returned (.bool true) ∧ Below w.heap.size w w' := by
  have hFew := few_of hG
  obtain ⟨F1, F2, F3, F4, F5, F6⟩ := few_of hG
  obtain ⟨a1, c1, a2, c2, a3, c3⟩ := p
  obtain ⟨tN, tT, tA⟩ := id hT
  dsimp only at tN tT tA
  obtain ⟨W1, hW1⟩ : ∃ W1, w.alloc (.cells #[.slice a1 t.nodes.length c1, .slice a2 t.types.length c2, .slice a3 t.aliases.length c3] 26) = W1 := ⟨_, rfl⟩
  have hB1 : Below w.heap.size w W1 := by rw [← hW1]; exact (Below.refl _ _).alloc (Nat.le_refl _) _
  have hX : Blk W1 w.heap.size 26 #[.slice a1 t.nodes.length c1, .slice a2 t.types.length c2, .slice a3 t.aliases.length c3] := by rw [← hW1]; exact Blk.new w 26 _
  have hXl := hX.lt
  have kL := lives_any W1 (hE.on hB1)
  have HX := Lib.hid hX
  have HE := Lib.hid hE
  have HT := Lib.hid hT
  have HG := Lib.hid hG
  have HFew := Lib.hid hFew
  have HF1 := Lib.hid F1
  have HF2 := Lib.hid F2
  clear hX hE hT hG hFew F1 F2 F3
  go_enter Tryd.func4, Tryd.ntmps4
  go_wp2_with fail
  refine kL.mono ?_
  rintro e w2 ⟨rfl, hb2⟩
  have hB2 : Below w.heap.size w w2 := hB1.trans (hb2.mono (by omega))
  have hX2 := HX.out.below hb2 hXl
  have y0 := hX2.cell 0
  have y1 := hX2.cell 1
  have y2 := hX2.cell 2
  simp only [List.getElem?_toArray, List.getElem?_cons_zero, List.getElem?_cons_succ] at y0 y1 y2
  have HX2 := Lib.hid hX2
  have hX2l := hX2.lt
  have kF := few_any t ⟨a1, c1, a2, c2, a3, c3⟩ w2 (tree_up HT.out hB2) (by omega) (by omega) (by omega)
  rw [HG.out] at kF
  clear hX2 kL hb2 hW1
  go_wp2_with fail
  refine kF.mono ?_
  rintro e w3 ⟨rfl, hb3⟩
  have hB3 : Below w.heap.size w w3 := hB2.trans (hb3.mono (by omega))
  have HX3 := Lib.hid (HX2.out.below hb3 hX2l)
  have hX3l := HX3.out.lt
  have kN := new_any w3
  obtain ⟨B, hB⟩ : ∃ B, w3.heap.size = B := ⟨_, rfl⟩
  rw [hB] at kN
  clear kF hb3 HX2 hX2l y0 y1 y2
  go_wp2_with fail
  refine kN.mono ?_
  rintro e w4 ⟨rfl, hT4, hb4⟩
  have hwB : w.heap.size < B := by omega
  have HT4 := Lib.hid hT4
  have HX4 := Lib.hid (HX3.out.below (hB ▸ hb4) (by omega))
  have hB4 : Below w.heap.size w w4 := hB3.trans (hb4.mono (by omega))
  have hz4 : B < w4.heap.size := hT4.blk.lt
  clear kN hT4 hb4 hX3l HX3 hB HX hXl
  have x0 := HX4.out.cell 0
  have x1 := HX4.out.cell 1
  have x2 := HX4.out.cell 2
  simp only [List.getElem?_toArray, List.getElem?_cons_zero, List.getElem?_cons_succ] at x0 x1 x2
  go_wp2
  go_loopw [5, 6, 7, 8, 9, 10, 33] (fun _ _ _ _ _ _ i wr => ∃ (k : Nat) (r2 : List (TypD × Ptr2)) (v2 : Value), k ≤ t.types.length ∧ i = .int .i64 k ∧ Hid (r2.map (·.1) = t.types.take k) ∧ Hid (TreeOwn wr B B 66 (.slice none 0 0) v2 (.slice none 0 0) [] r2 []) ∧ Below B w4 wr) (fun _ _ _ _ _ _ i _ => t.types.length - (intOf i).toNat)
  case atStart => exact ⟨0, [], .slice none 0 0, Nat.zero_le _, rfl, Lib.hid (by simp), HT4, Below.refl _ _⟩
  case round =>
    obtain ⟨k, r2, v2, hk, rfl, HR, HT2, hBr⟩ := hrel
    have hzr := hBr.size
    have hBw : Below w.heap.size w wr := hB4.trans (hBr.mono (by omega))
    have hrl : r2.length = k := by have := congrArg List.length HR.out; simp at this; omega
    by_cases hlt : k < t.types.length
    · obtain ⟨b, off, rfl, hb, hcell⟩ := tT (by omega)
      obtain ⟨q, hq, hcq⟩ := hcell k t.types[k] (List.getElem?_eq_getElem hlt)
      have htk : t.types.take (k + 1) = t.types.take k ++ [t.types[k]] := List.take_succ_eq_append_getElem hlt
      have hfew := HF2.out _ (List.getElem_mem hlt)
      obtain ⟨x, hx⟩ : ∃ x, t.types[k] = x := ⟨_, rfl⟩
      rw [hx] at hq hcq hfew htk
      have e0 := (hBw.cell (p := ⟨b, off + k * 6, none⟩) hb).trans (hcq 0 _ rfl)
      have e1 := (hBw.cell (p := ⟨b, off + k * 6 + 1, none⟩) hb).trans (hcq 1 _ rfl)
      have e2 := (hBw.cell (p := ⟨b, off + k * 6 + 2, none⟩) hb).trans (hcq 2 _ rfl)
      have e3 := (hBw.cell (p := ⟨b, off + k * 6 + 3, none⟩) hb).trans (hcq 3 _ rfl)
      have e4 := (hBw.cell (p := ⟨b, off + k * 6 + 4, none⟩) hb).trans (hcq 4 _ rfl)
      have e5 := (hBw.cell (p := ⟨b, off + k * 6 + 5, none⟩) hb).trans (hcq 5 _ rfl)
      clear hcq hcell hx
      have HTK := Lib.hid htk
      have HRL := Lib.hid hrl
      clear htk hrl
      obtain ⟨Wn, hWn⟩ : ∃ Wn, wr.alloc (.cells #[.int .i64 x.kind, .int .i64 x.pos, .string x.name, .slice q.a3 x.names.length q.c3, .slice q.a4 x.kids.length q.c4, .bool x.opn] 47) = Wn := ⟨_, rfl⟩
      have hBn : Below wr.heap.size wr Wn := by rw [← hWn]; exact (Below.refl _ _).alloc (Nat.le_refl _) _
      have hXn : Blk Wn wr.heap.size 47 (typCells x q).toArray := by rw [← hWn]; exact Blk.new wr 47 _
      have hzn := hXn.lt
      have hszn : Wn.heap.size = wr.heap.size + 1 := by rw [← hWn]; simp
      have hqn : TypOk (Lt Wn.heap.size) Wn x q := ((hq.keep (keep_below hBw)).keep (fun b o hb => hBn.cell (p := ⟨b, o, none⟩) (Nat.lt_of_lt_of_le hb (by have := hBw.size; omega)))).imp (lt_mono (by have := hBn.size; have := hBw.size; omega))
      have hTn := HT2.out.below hBn
      have kA := type_any2 B B x q Wn hTn (by rw [HRL.out]; omega) hqn (by have := hfew.2.1; omega) (by have := hfew.2.2.2; omega)
      have kZ := fun W => type_nil x q W
      have p0 := hXn.cell 0
      have p1 := hXn.cell 1
      have p2 := hXn.cell 2
      have p3 := hXn.cell 3
      have p4 := hXn.cell 4
      have p5 := hXn.cell 5
      unfold typCells at p0 p1 p2 p3 p4 p5 kA kZ
      simp only [List.getElem?_toArray, List.getElem?_cons_zero, List.getElem?_cons_succ] at p0 p1 p2 p3 p4 p5
      have HBN := Lib.hid hBn
      have HXN := Lib.hid hXn
      have hvn : v2.ownBlock ≠ some wr.heap.size := fun e => by have := (own_lt HT2.out.o2 e).1; omega
      clear hTn hBn hXn hq hqn
      go_wp2_with fail
      skip
      refine kA.mono ?_
      rintro e w7 ⟨⟨p', v', rfl, hT7, hk7⟩, hs7⟩
      have hb7 := hk7 B (Nat.le_refl _) (by omega)
      have hX7 : Blk w7 wr.heap.size 47 (typCells x q).toArray := blk_same HXN.out (hs7 wr.heap.size (by omega) (by omega) hvn)
      have r0 := hX7.cell 0
      have r1 := hX7.cell 1
      have r2 := hX7.cell 2
      have r3 := hX7.cell 3
      have r4 := hX7.cell 4
      have r5 := hX7.cell 5
      unfold typCells at r0 r1 r2 r3 r4 r5
      simp only [List.getElem?_toArray, List.getElem?_cons_zero, List.getElem?_cons_succ] at r0 r1 r2 r3 r4 r5
      have hz7 := hb7.size
      have HT7 := Lib.hid hT7
      have hB7 : Below B w4 w7 := hBr.trans ((HBN.out.mono (by omega)).trans hb7)
      clear kA hT7 hk7 hs7 hX7 hb7 hWn p0 e0 p1 e1 p2 e2 p3 e3 p4 e4 p5 e5
      go_wp2_with fail
      refine (kZ _).mono ?_
      rintro e w8 ⟨rfl, hb8⟩
      have HT8 := Lib.hid (HT7.out.below hb8)
      have hB8 : Below B w4 w8 := hB7.trans (hb8.mono (by have := HT7.out.blk.lt; omega))
      clear kZ hb8 r0 r1 r2 r3 r4 r5
      have hrk : r2.length = k := HRL.out
      have hq1 : ((r2.length : Int) != (k : Int)) = false := by rw [hrk]; simp
      go_wp2
      go_roundw
      case rel => exact ⟨k + 1, r2 ++ [(x, p')], v', by omega, by go_num, Lib.hid (by rw [List.map_append, HR.out, HTK.out]; rfl), HT8, hB8⟩
      case measure => simp [intOf]; omega
    · obtain rfl : k = t.types.length := by omega
      have HR2 : Hid (r2.map (·.1) = t.types) := Lib.hid (by rw [HR.out, List.take_length])
      have HX5 := Lib.hid (HX4.out.below hBr hwB)
      have hBE := hBw
      have HTE := HT2
      obtain ⟨w5, hw5⟩ : ∃ w5, w5 = wr := ⟨wr, rfl⟩
      rw [← hw5] at HTE HX5 hBE
      have hzE : B < w5.heap.size := hw5 ▸ HT2.out.blk.lt
      have hBE4 : Below B w4 w5 := hw5 ▸ hBr
      clear x0 x1 x2 HX4 hrl HR HT2 hBr hlt hzr hBw
      have x0 := HX5.out.cell 0
      have x1 := HX5.out.cell 1
      have x2 := HX5.out.cell 2
      simp only [List.getElem?_toArray, List.getElem?_cons_zero, List.getElem?_cons_succ] at x0 x1 x2
      rw [hw5] at x0 x1 x2
      go_wp2
      go_loopw [11, 12, 13, 14, 15, 16, 65] (fun _ _ _ _ _ _ i wr => ∃ (k : Nat) (r1 : List (TermD × Ptr3)) (v1 : Value), k ≤ t.nodes.length ∧ i = .int .i64 k ∧ Hid (r1.map (·.1) = t.nodes.take k) ∧ Hid (TreeOwn wr B B 66 v1 v2 (.slice none 0 0) r1 r2 []) ∧ Below B w5 wr) (fun _ _ _ _ _ _ i _ => t.nodes.length - (intOf i).toNat)
      case atStart => exact ⟨0, [], .slice none 0 0, Nat.zero_le _, rfl, Lib.hid (by simp), hw5 ▸ HTE, by rw [hw5]; exact Below.refl _ _⟩
      case round =>
        clear hw5
        obtain ⟨k, r1, v1, hk, rfl, HR, HT2, hBr⟩ := hrel
        have hzr := hBr.size
        have hBw : Below w.heap.size w wr := hBE.trans (hBr.mono (by omega))
        have hrl : r1.length = k := by have := congrArg List.length HR.out; simp at this; omega
        by_cases hlt : k < t.nodes.length
        · obtain ⟨b, off, rfl, hb, hcell⟩ := tN (by omega)
          obtain ⟨q, hq, hcq⟩ := hcell k t.nodes[k] (List.getElem?_eq_getElem hlt)
          have htk : t.nodes.take (k + 1) = t.nodes.take k ++ [t.nodes[k]] := List.take_succ_eq_append_getElem hlt
          have hfew := HF1.out _ (List.getElem_mem hlt)
          obtain ⟨x, hx⟩ : ∃ x, t.nodes[k] = x := ⟨_, rfl⟩
          rw [hx] at hq hcq hfew htk
          have e0 := (hBw.cell (p := ⟨b, off + k * 8, none⟩) hb).trans (hcq 0 _ rfl)
          have e1 := (hBw.cell (p := ⟨b, off + k * 8 + 1, none⟩) hb).trans (hcq 1 _ rfl)
          have e2 := (hBw.cell (p := ⟨b, off + k * 8 + 2, none⟩) hb).trans (hcq 2 _ rfl)
          have e3 := (hBw.cell (p := ⟨b, off + k * 8 + 3, none⟩) hb).trans (hcq 3 _ rfl)
          have e4 := (hBw.cell (p := ⟨b, off + k * 8 + 4, none⟩) hb).trans (hcq 4 _ rfl)
          have e5 := (hBw.cell (p := ⟨b, off + k * 8 + 5, none⟩) hb).trans (hcq 5 _ rfl)
          have e6 := (hBw.cell (p := ⟨b, off + k * 8 + 6, none⟩) hb).trans (hcq 6 _ rfl)
          have e7 := (hBw.cell (p := ⟨b, off + k * 8 + 7, none⟩) hb).trans (hcq 7 _ rfl)
          clear hcq hcell hx
          have HTK := Lib.hid htk
          have HRL := Lib.hid hrl
          clear htk hrl
          obtain ⟨Wn, hWn⟩ : ∃ Wn, wr.alloc (.cells #[.int .i64 x.kind, .int .i64 x.pos, .string x.name, .int .i64 x.int, .int .u64 (x.bits : Int), .slice q.a5 x.names.length q.c5, .slice q.a6 x.kids.length q.c6, .slice q.a7 x.types.length q.c7] 33) = Wn := ⟨_, rfl⟩
          have hBn : Below wr.heap.size wr Wn := by rw [← hWn]; exact (Below.refl _ _).alloc (Nat.le_refl _) _
          have hXn : Blk Wn wr.heap.size 33 (termCells x q).toArray := by rw [← hWn]; exact Blk.new wr 33 _
          have hzn := hXn.lt
          have hszn : Wn.heap.size = wr.heap.size + 1 := by rw [← hWn]; simp
          have hqn : TermOk (Lt Wn.heap.size) Wn x q := ((hq.keep (keep_below hBw)).keep (fun b o hb => hBn.cell (p := ⟨b, o, none⟩) (Nat.lt_of_lt_of_le hb (by have := hBw.size; omega)))).imp (lt_mono (by have := hBn.size; have := hBw.size; omega))
          have hTn := HT2.out.below hBn
          have kA := term_any2 B B x q Wn hTn (by rw [HRL.out]; omega) hqn (by have := hfew.2.1; omega) (by have := hfew.2.2.2.1; omega) (by have := hfew.2.2.2.2; omega)
          have kZ := fun W => term_nil x q W
          have p0 := hXn.cell 0
          have p1 := hXn.cell 1
          have p2 := hXn.cell 2
          have p3 := hXn.cell 3
          have p4 := hXn.cell 4
          have p5 := hXn.cell 5
          have p6 := hXn.cell 6
          have p7 := hXn.cell 7
          unfold termCells at p0 p1 p2 p3 p4 p5 p6 p7 kA kZ
          simp only [List.getElem?_toArray, List.getElem?_cons_zero, List.getElem?_cons_succ] at p0 p1 p2 p3 p4 p5 p6 p7
          have HBN := Lib.hid hBn
          have HXN := Lib.hid hXn
          have hvn : v1.ownBlock ≠ some wr.heap.size := fun e => by have := (own_lt HT2.out.o1 e).1; omega
          clear hTn hBn hXn hq hqn
          go_wp2_with fail
          skip
          refine kA.mono ?_
          rintro e w7 ⟨⟨p', v', rfl, hT7, hk7⟩, hs7⟩
          have hb7 := hk7 B (Nat.le_refl _) (by omega)
          have hX7 : Blk w7 wr.heap.size 33 (termCells x q).toArray := blk_same HXN.out (hs7 wr.heap.size (by omega) (by omega) hvn)
          have r0 := hX7.cell 0
          have r1 := hX7.cell 1
          have r2 := hX7.cell 2
          have r3 := hX7.cell 3
          have r4 := hX7.cell 4
          have r5 := hX7.cell 5
          have r6 := hX7.cell 6
          have r7 := hX7.cell 7
          unfold termCells at r0 r1 r2 r3 r4 r5 r6 r7
          simp only [List.getElem?_toArray, List.getElem?_cons_zero, List.getElem?_cons_succ] at r0 r1 r2 r3 r4 r5 r6 r7
          have hz7 := hb7.size
          have HT7 := Lib.hid hT7
          have hB7 : Below B w5 w7 := hBr.trans ((HBN.out.mono (by omega)).trans hb7)
          clear kA hT7 hk7 hs7 hX7 hb7 hWn p0 e0 p1 e1 p2 e2 p3 e3 p4 e4 p5 e5 p6 e6 p7 e7
          go_wp2_with fail
          refine (kZ _).mono ?_
          rintro e w8 ⟨rfl, hb8⟩
          have HT8 := Lib.hid (HT7.out.below hb8)
          have hB8 : Below B w5 w8 := hB7.trans (hb8.mono (by have := HT7.out.blk.lt; omega))
          clear kZ hb8 r0 r1 r2 r3 r4 r5 r6 r7
          have hrk : r1.length = k := HRL.out
          have hq1 : ((r1.length : Int) != (k : Int)) = false := by rw [hrk]; simp
          go_wp2
          go_roundw
          case rel => exact ⟨k + 1, r1 ++ [(x, p')], v', by omega, by go_num, Lib.hid (by rw [List.map_append, HR.out, HTK.out]; rfl), HT8, hB8⟩
          case measure => simp [intOf]; omega
        · obtain rfl : k = t.nodes.length := by omega
          have HR1 : Hid (r1.map (·.1) = t.nodes) := Lib.hid (by rw [HR.out, List.take_length])
          have HX6 := Lib.hid (HX5.out.below hBr hwB)
          have hBF := hBw
          have HTF := HT2
          obtain ⟨w6, hw6⟩ : ∃ w6, w6 = wr := ⟨wr, rfl⟩
          rw [← hw6] at HTF HX6 hBF
          have hzF : B < w6.heap.size := hw6 ▸ HT2.out.blk.lt
          clear x0 x1 x2 HX5 hrl HR HT2 hBr hlt hzr hBw HTE hBE hzE
          have x0 := HX6.out.cell 0
          have x1 := HX6.out.cell 1
          have x2 := HX6.out.cell 2
          simp only [List.getElem?_toArray, List.getElem?_cons_zero, List.getElem?_cons_succ] at x0 x1 x2
          rw [hw6] at x0 x1 x2
          go_wp2
          go_loopw [18, 97] (fun _ i wr => ∃ (k : Nat) (v3 : Value), k ≤ t.aliases.length ∧ i = .int .i64 k ∧ Hid (TreeOwn wr B B 66 v1 v2 v3 r1 r2 (t.aliases.take k)) ∧ Below B w6 wr) (fun _ i _ => t.aliases.length - (intOf i).toNat)
          case atStart => exact ⟨0, .slice none 0 0, Nat.zero_le _, rfl, by simpa using (hw6 ▸ HTF), by rw [hw6]; exact Below.refl _ _⟩
          case round =>
            clear hw6
            obtain ⟨k, v3, hk, rfl, HT2, hBr⟩ := hrel
            have hzr := hBr.size
            have hBw : Below w.heap.size w wr := hBF.trans (hBr.mono (by omega))
            by_cases hlt : k < t.aliases.length
            · obtain ⟨b, off, rfl, hb, hcell⟩ := tA (by omega)
              have hcq := hcell k t.aliases[k] (List.getElem?_eq_getElem hlt)
              have htk : t.aliases.take (k + 1) = t.aliases.take k ++ [t.aliases[k]] := List.take_succ_eq_append_getElem hlt
              obtain ⟨x, hx⟩ : ∃ x, t.aliases[k] = x := ⟨_, rfl⟩
              rw [hx] at hcq htk
              have e0 := (hBw.cell (p := ⟨b, off + k * 3, none⟩) hb).trans (hcq 0 _ rfl)
              have e1 := (hBw.cell (p := ⟨b, off + k * 3 + 1, none⟩) hb).trans (hcq 1 _ rfl)
              have e2 := (hBw.cell (p := ⟨b, off + k * 3 + 2, none⟩) hb).trans (hcq 2 _ rfl)
              clear hcq hcell hx
              have HTK := Lib.hid htk
              clear htk
              obtain ⟨Wn, hWn⟩ : ∃ Wn, wr.alloc (.cells #[.string x.name, .int .i64 x.type, .int .i64 x.pos] 52) = Wn := ⟨_, rfl⟩
              have hBn : Below wr.heap.size wr Wn := by rw [← hWn]; exact (Below.refl _ _).alloc (Nat.le_refl _) _
              have hXn : Blk Wn wr.heap.size 52 (aliCells x).toArray := by rw [← hWn]; exact Blk.new wr 52 _
              have hzn := hXn.lt
              have hszn : Wn.heap.size = wr.heap.size + 1 := by rw [← hWn]; simp
              have hTn := HT2.out.below hBn
              have kA := alias_any2 B B x Wn hTn (by rw [List.length_take]; omega) (by omega)
              have kZ := fun W => alias_nil x W
              have p0 := hXn.cell 0
              have p1 := hXn.cell 1
              have p2 := hXn.cell 2
              unfold aliCells at p0 p1 p2 kA kZ
              simp only [List.getElem?_toArray, List.getElem?_cons_zero, List.getElem?_cons_succ] at p0 p1 p2
              have HBN := Lib.hid hBn
              have HXN := Lib.hid hXn
              have hvn : v3.ownBlock ≠ some wr.heap.size := fun e => by have := (own_lt HT2.out.o3 e).1; omega
              clear hTn hBn hXn
              go_wp2_with fail
              skip
              refine kA.mono ?_
              rintro e w7 ⟨⟨⟨u7, rfl⟩, v', hT7, hk7⟩, hs7⟩
              have hb7 := hk7 B (Nat.le_refl _) (by omega)
              have hX7 : Blk w7 wr.heap.size 52 (aliCells x).toArray := blk_same HXN.out (hs7 wr.heap.size (by omega) (by omega) hvn)
              have r0 := hX7.cell 0
              have r1 := hX7.cell 1
              have r2 := hX7.cell 2
              unfold aliCells at r0 r1 r2
              simp only [List.getElem?_toArray, List.getElem?_cons_zero, List.getElem?_cons_succ] at r0 r1 r2
              have hz7 := hb7.size
              have HT7 := Lib.hid hT7
              have hB7 : Below B w6 w7 := hBr.trans ((HBN.out.mono (by omega)).trans hb7)
              clear kA hT7 hk7 hs7 hX7 hb7 hWn p0 e0 p1 e1 p2 e2
              go_wp2_with fail
              refine (kZ _).mono ?_
              rintro e w8 ⟨⟨u8, rfl⟩, hb8⟩
              have HT8 := Lib.hid (HT7.out.below hb8)
              have hB8 : Below B w6 w8 := hB7.trans (hb8.mono (by have := HT7.out.blk.lt; omega))
              clear kZ hb8 r0 r1 r2
              go_wp2
              go_roundw
              case rel => exact ⟨k + 1, v', by omega, by go_num, by rw [HTK.out]; exact HT8, hB8⟩
              case measure => simp [intOf]; omega
            · obtain rfl : k = t.aliases.length := by omega
              rw [List.take_length] at HT2
              have hl1 : r1.length = t.nodes.length := by have := congrArg List.length HR1.out; simpa using this
              have hl2 : r2.length = t.types.length := by have := congrArg List.length HR2.out; simpa using this
              have kT := tree_any B B wr HT2.out (by omega) (by omega) (by omega) (fun x hx => by
                have h : x.1 ∈ r1.map (·.1) := List.mem_map_of_mem hx
                rw [HR1.out] at h
                have := HF1.out _ h
                exact ⟨by have := this.2.1; omega, by have := this.2.2.2.1; omega, by have := this.2.2.2.2; omega⟩) (fun x hx => by
                have h : x.1 ∈ r2.map (·.1) := List.mem_map_of_mem hx
                rw [HR2.out] at h
                have := HF2.out _ h
                exact ⟨by have := this.2.1; omega, by have := this.2.2.2; omega⟩)
              rw [show (⟨r1.map (·.1), r2.map (·.1), t.aliases⟩ : TreeD) = t from by rw [HR1.out, HR2.out]] at kT
              have HX7 := Lib.hid (HX6.out.below hBr hwB)
              clear hl1 hl2 HX6 HF1 HF2 HR1 HR2 x0 x1 x2
              go_wp2_with fail
              refine kT.mono ?_
              rintro e w7 ⟨⟨qa1, qc1, qa2, qc2, qa3, qc3⟩, rfl, hTq, hb7⟩
              simp only [treeV]
              have hz7 := hb7.size
              have hzr2 := HT2.out.blk.lt
              obtain ⟨W8, hW8⟩ : ∃ W8, w7.alloc (.cells #[.slice qa1 t.nodes.length qc1, .slice qa2 t.types.length qc2, .slice qa3 t.aliases.length qc3] 26) = W8 := ⟨_, rfl⟩
              have hb78 : Below w7.heap.size w7 W8 := by rw [← hW8]; exact (Below.refl _ _).alloc (Nat.le_refl _) _
              have hBk : Below wr.heap.size wr W8 := hb7.trans (hb78.mono hz7)
              have HG8 : Hid (Blk W8 w7.heap.size 26 #[.slice qa1 t.nodes.length qc1, .slice qa2 t.types.length qc2, .slice qa3 t.aliases.length qc3]) := Lib.hid (by rw [← hW8]; exact Blk.new w7 26 _)
              have HX8 := Lib.hid (HX7.out.below hBk (by omega))
              have hB8 : Below w.heap.size w W8 := hBw.trans (hBk.mono (by omega))
              have HTq8 : Hid (TreeAt (Lt W8.heap.size) W8 t ⟨qa1, qc1, qa2, qc2, qa3, qc3⟩) := Lib.hid (tree_up (hTq.imp fun b hb => hb.2) hb78)
              have HTt8 := Lib.hid (tree_up HT.out hB8)
              have hzG := HG8.out.lt
              have hzX := HX8.out.lt
              obtain ⟨cI, hcI⟩ : ∃ cI : Int, (if checkF t then 0 else 14) = cI := ⟨_, rfl⟩
              have KC1 : Hid (∀ W, Below W8.heap.size W8 W → Calls Tryd.prog 8 #[.agg #[.slice qa1 t.nodes.length qc1, .slice qa2 t.types.length qc2, .slice qa3 t.aliases.length qc3]] W fun e w' => e = .returned (.int .i64 cI) ∧ Below W8.heap.size W8 w') := Lib.hid fun W hW => by
                have := check_any t ⟨qa1, qc1, qa2, qc2, qa3, qc3⟩ W (HE.out.on (hB8.trans (hW.mono hB8.size))) (tree_up HTq8.out hW) HFew.out
                rw [hcI] at this
                exact this.mono fun e w' h => ⟨h.1, hW.trans (h.2.mono hW.size)⟩
              have KC2 : Hid (∀ W, Below W8.heap.size W8 W → Calls Tryd.prog 8 #[.agg #[.slice a1 t.nodes.length c1, .slice a2 t.types.length c2, .slice a3 t.aliases.length c3]] W fun e w' => e = .returned (.int .i64 cI) ∧ Below W8.heap.size W8 w') := Lib.hid fun W hW => by
                have := check_any t ⟨a1, c1, a2, c2, a3, c3⟩ W (HE.out.on (hB8.trans (hW.mono hB8.size))) (tree_up HTt8.out hW) HFew.out
                rw [hcI] at this
                exact this.mono fun e w' h => ⟨h.1, hW.trans (h.2.mono hW.size)⟩
              have HCI := Lib.hid hcI
              have HS : Hid (∀ W, Below W8.heap.size W8 W → (fun W : World => W.cell? ⟨w7.heap.size, 0, none⟩ = some (.slice qa1 t.nodes.length qc1) ∧ W.cell? ⟨w7.heap.size, 1, none⟩ = some (.slice qa2 t.types.length qc2) ∧ W.cell? ⟨w7.heap.size, 2, none⟩ = some (.slice qa3 t.aliases.length qc3) ∧ W.cell? ⟨w.heap.size, 0, none⟩ = some (.slice a1 t.nodes.length c1) ∧ W.cell? ⟨w.heap.size, 1, none⟩ = some (.slice a2 t.types.length c2) ∧ W.cell? ⟨w.heap.size, 2, none⟩ = some (.slice a3 t.aliases.length c3) ∧ Below W8.heap.size W8 W) W) := Lib.hid fun W hW => by
                have x0 := (HG8.out.below hW hzG).cell 0
                have x1 := (HG8.out.below hW hzG).cell 1
                have x2 := (HG8.out.below hW hzG).cell 2
                have y0 := (HX8.out.below hW hzX).cell 0
                have y1 := (HX8.out.below hW hzX).cell 1
                have y2 := (HX8.out.below hW hzX).cell 2
                simp only [List.getElem?_toArray, List.getElem?_cons_zero, List.getElem?_cons_succ] at x0 x1 x2 y0 y1 y2
                exact ⟨x0, x1, x2, y0, y1, y2, hW⟩
              have hB0 := Below.refl W8.heap.size W8
              have hfd := field0
              clear kT hTq hb7 hb78 hBk HT2 hBr hcI HX7
              go_wp2_with fail
              refine wp_region_noPanic ?_
              refine wp_region_held_drew (S := fun W => W.cell? ⟨w7.heap.size, 0, none⟩ = some (.slice qa1 t.nodes.length qc1) ∧ W.cell? ⟨w7.heap.size, 1, none⟩ = some (.slice qa2 t.types.length qc2) ∧ W.cell? ⟨w7.heap.size, 2, none⟩ = some (.slice qa3 t.aliases.length qc3) ∧ W.cell? ⟨w.heap.size, 0, none⟩ = some (.slice a1 t.nodes.length c1) ∧ W.cell? ⟨w.heap.size, 1, none⟩ = some (.slice a2 t.types.length c2) ∧ W.cell? ⟨w.heap.size, 2, none⟩ = some (.slice a3 t.aliases.length c3) ∧ Below W8.heap.size W8 W) (by kernel_rfl) (HS.out _ (Below.drew hB0)) (fun hHeld => ?_)
              refine wpAnyH_take (i := 0) (v := ?vr1) (by simp only [List.getElem?_toArray, List.getElem?_cons_zero]; rfl) (by kernel_rfl) (by kernel_rfl) (by kernel_rfl) (fun _ _ _ h => h) (Or.inl ⟨by rfl, ?hyr1⟩) (by assumption) ?restr1
              case hyr1 => (intro w hSw; (try dsimp only at hSw); go_simp; try with_reducible rfl)
              try simp only [Act.put, List.setIfInBounds_toArray, List.set_cons_zero, List.set_cons_succ]
              refine wpAnyH_take (i := 2) (v := ?vr2) (by simp only [List.getElem?_toArray, List.getElem?_cons_zero, List.getElem?_cons_succ]; rfl) (by kernel_rfl) (by kernel_rfl) (by kernel_rfl) (fun _ _ _ h => h) (Or.inl ⟨by rfl, ?hyr2⟩) (by assumption) ?restr2
              case hyr2 => (intro w hSw; (try dsimp only at hSw); go_simp; try with_reducible rfl)
              try simp only [Act.put, List.setIfInBounds_toArray, List.set_cons_zero, List.set_cons_succ]
              refine wpAnyH_ready (rs := [1]) (by kernel_rfl) (by simp) ?_
              refine AllReadyH.cons (by simp only [List.getElem?_toArray, List.getElem?_cons_zero, List.getElem?_cons_succ]; rfl) (fun K hK => ?stepr3) AllReadyH.nil
              go_simp; go_at_call 8; (with_reducible refine (KC1.out _ (Below.drew hB0)).mono ?_); rintro e w9 ⟨rfl, b9⟩
              go_wp2_with fail
              refine hK.out _ _ ?hSr3 (fun hHeld => ?_)
              case hSr3 => exact HS.out _ b9
              clear hK K
              try simp only [Act.put, List.setIfInBounds_toArray, List.set_cons_zero, List.set_cons_succ]
              refine wpAnyH_ready (rs := [3]) (by kernel_rfl) (by simp) ?_
              refine AllReadyH.cons (by simp only [List.getElem?_toArray, List.getElem?_cons_zero, List.getElem?_cons_succ]; rfl) (fun K hK => ?stepr4) AllReadyH.nil
              go_simp; go_at_call 8; (with_reducible refine (KC2.out _ b9).mono ?_); rintro e w10 ⟨rfl, b10⟩
              go_wp2_with fail
              refine hK.out _ _ ?hSr4 (fun hHeld => ?_)
              case hSr4 => exact HS.out _ b10
              clear hK K
              try simp only [Act.put, List.setIfInBounds_toArray, List.set_cons_zero, List.set_cons_succ]
              refine wpAnyH_take (i := 4) (v := ?vr5) (by simp only [List.getElem?_toArray, List.getElem?_cons_zero, List.getElem?_cons_succ]; rfl) (by kernel_rfl) (by kernel_rfl) (by kernel_rfl) (fun _ _ _ h => h) (Or.inl ⟨by rfl, ?hyr5⟩) (by assumption) ?restr5
              case hyr5 => (intro w hSw; (try dsimp only at hSw); go_simp; try with_reducible rfl)
              try simp only [Act.put, List.setIfInBounds_toArray, List.set_cons_zero, List.set_cons_succ]
              refine wpAnyH_take (i := 5) (v := ?vr6) (by simp only [List.getElem?_toArray, List.getElem?_cons_zero, List.getElem?_cons_succ]; rfl) (by kernel_rfl) (by kernel_rfl) (by kernel_rfl) (fun _ _ _ h => h) (Or.inl ⟨by rfl, ?hyr6⟩) (by assumption) ?restr6
              case hyr6 => (intro w hSw; (try dsimp only at hSw); go_simp; try with_reducible rfl)
              try simp only [Act.put, List.setIfInBounds_toArray, List.set_cons_zero, List.set_cons_succ]
              refine wpAnyH_take (i := 6) (v := ?vr7) (by simp only [List.getElem?_toArray, List.getElem?_cons_zero, List.getElem?_cons_succ]; rfl) (by kernel_rfl) (by kernel_rfl) (by kernel_rfl) (fun _ _ _ h => h) (Or.inl ⟨by rfl, ?hyr7⟩) (by assumption) ?restr7
              case hyr7 => (intro w hSw; (try dsimp only at hSw); go_simp; try with_reducible rfl)
              try simp only [Act.put, List.setIfInBounds_toArray, List.set_cons_zero, List.set_cons_succ]
              refine wpAnyH_take (i := 7) (v := ?vr8) (by simp only [List.getElem?_toArray, List.getElem?_cons_zero, List.getElem?_cons_succ]; rfl) (by kernel_rfl) (by kernel_rfl) (by kernel_rfl) (fun _ _ _ h => h) (Or.inl ⟨by rfl, ?hyr8⟩) (by assumption) ?restr8
              case hyr8 => (intro w hSw; (try dsimp only at hSw); go_simp; try with_reducible rfl)
              try simp only [Act.put, List.setIfInBounds_toArray, List.set_cons_zero, List.set_cons_succ]
              refine wpAnyH_take (i := 8) (v := ?vr9) (by simp only [List.getElem?_toArray, List.getElem?_cons_zero, List.getElem?_cons_succ]; rfl) (by kernel_rfl) (by kernel_rfl) (by kernel_rfl) (fun _ _ _ h => h) (Or.inl ⟨by rfl, ?hyr9⟩) (by assumption) ?restr9
              case hyr9 => (intro w hSw; (try dsimp only at hSw); go_simp; try with_reducible rfl)
              try simp only [Act.put, List.setIfInBounds_toArray, List.set_cons_zero, List.set_cons_succ]
              refine wpAnyH_take (i := 9) (v := ?vr10) (by simp only [List.getElem?_toArray, List.getElem?_cons_zero, List.getElem?_cons_succ]; rfl) (by kernel_rfl) (by kernel_rfl) (by kernel_rfl) (fun _ _ _ h => h) (Or.inl ⟨by rfl, ?hyr10⟩) (by assumption) ?restr10
              case hyr10 => (intro w hSw; (try dsimp only at hSw); go_simp; try with_reducible rfl)
              try simp only [Act.put, List.setIfInBounds_toArray, List.set_cons_zero, List.set_cons_succ]
              refine wpAnyH_take (i := 10) (v := ?vr11) (by simp only [List.getElem?_toArray, List.getElem?_cons_zero, List.getElem?_cons_succ]; rfl) (by kernel_rfl) (by kernel_rfl) (by kernel_rfl) (fun _ _ _ h => h) (Or.inl ⟨by rfl, ?hyr11⟩) (by assumption) ?restr11
              case hyr11 => (intro w hSw; (try dsimp only at hSw); go_simp; try with_reducible rfl)
              try simp only [Act.put, List.setIfInBounds_toArray, List.set_cons_zero, List.set_cons_succ]
              refine wpAnyH_take (i := 11) (v := ?vr12) (by simp only [List.getElem?_toArray, List.getElem?_cons_zero, List.getElem?_cons_succ]; rfl) (by kernel_rfl) (by kernel_rfl) (by kernel_rfl) (fun _ _ _ h => h) (Or.inl ⟨by rfl, ?hyr12⟩) (by assumption) ?restr12
              case hyr12 => (intro w hSw; (try dsimp only at hSw); go_simp; try with_reducible rfl)
              try simp only [Act.put, List.setIfInBounds_toArray, List.set_cons_zero, List.set_cons_succ]
              refine wpAnyH_take (i := 12) (v := ?vr13) (by simp only [List.getElem?_toArray, List.getElem?_cons_zero, List.getElem?_cons_succ]; rfl) (by kernel_rfl) (by kernel_rfl) (by kernel_rfl) (fun _ _ _ h => h) (Or.inl ⟨by rfl, ?hyr13⟩) (by assumption) ?restr13
              case hyr13 => (intro w hSw; (try dsimp only at hSw); go_simp; try with_reducible rfl)
              try simp only [Act.put, List.setIfInBounds_toArray, List.set_cons_zero, List.set_cons_succ]
              refine wpAnyH_take (i := 13) (v := ?vr14) (by simp only [List.getElem?_toArray, List.getElem?_cons_zero, List.getElem?_cons_succ]; rfl) (by kernel_rfl) (by kernel_rfl) (by kernel_rfl) (fun _ _ _ h => h) (Or.inl ⟨by rfl, ?hyr14⟩) (by assumption) ?restr14
              case hyr14 => (intro w hSw; (try dsimp only at hSw); go_simp; try with_reducible rfl)
              try simp only [Act.put, List.setIfInBounds_toArray, List.set_cons_zero, List.set_cons_succ]
              refine wpAnyH_take (i := 14) (v := ?vr15) (by simp only [List.getElem?_toArray, List.getElem?_cons_zero, List.getElem?_cons_succ]; rfl) (by kernel_rfl) (by kernel_rfl) (by kernel_rfl) (fun _ _ _ h => h) (Or.inl ⟨by rfl, ?hyr15⟩) (by assumption) ?restr15
              case hyr15 => (intro w hSw; (try dsimp only at hSw); go_simp; try with_reducible rfl)
              try simp only [Act.put, List.setIfInBounds_toArray, List.set_cons_zero, List.set_cons_succ]
              refine wpAnyH_take (i := 15) (v := ?vr16) (by simp only [List.getElem?_toArray, List.getElem?_cons_zero, List.getElem?_cons_succ]; rfl) (by kernel_rfl) (by kernel_rfl) (by kernel_rfl) (fun _ _ _ h => h) (Or.inl ⟨by rfl, ?hyr16⟩) (by assumption) ?restr16
              case hyr16 => (intro w hSw; (try dsimp only at hSw); go_simp; try with_reducible rfl)
              try simp only [Act.put, List.setIfInBounds_toArray, List.set_cons_zero, List.set_cons_succ]
              refine wpAnyH_take (i := 16) (v := ?vr17) (by simp only [List.getElem?_toArray, List.getElem?_cons_zero, List.getElem?_cons_succ]; rfl) (by kernel_rfl) (by kernel_rfl) (by kernel_rfl) (fun _ _ _ h => h) (Or.inl ⟨by rfl, ?hyr17⟩) (by assumption) ?restr17
              case hyr17 => (intro w hSw; (try dsimp only at hSw); go_simp; try with_reducible rfl)
              try simp only [Act.put, List.setIfInBounds_toArray, List.set_cons_zero, List.set_cons_succ]
              refine wpAnyH_take (i := 17) (v := ?vr18) (by simp only [List.getElem?_toArray, List.getElem?_cons_zero, List.getElem?_cons_succ]; rfl) (by kernel_rfl) (by kernel_rfl) (by kernel_rfl) (fun _ _ _ h => h) (Or.inl ⟨by rfl, ?hyr18⟩) (by assumption) ?restr18
              case hyr18 => (intro w hSw; (try dsimp only at hSw); go_simp; try with_reducible rfl)
              try simp only [Act.put, List.setIfInBounds_toArray, List.set_cons_zero, List.set_cons_succ]
              refine wpAnyH_take (i := 18) (v := ?vr19) (by simp only [List.getElem?_toArray, List.getElem?_cons_zero, List.getElem?_cons_succ]; rfl) (by kernel_rfl) (by kernel_rfl) (by kernel_rfl) (fun _ _ _ h => h) (Or.inl ⟨by rfl, ?hyr19⟩) (by assumption) ?restr19
              case hyr19 => (intro w hSw; (try dsimp only at hSw); go_simp; try with_reducible rfl)
              try simp only [Act.put, List.setIfInBounds_toArray, List.set_cons_zero, List.set_cons_succ]
              refine wpAnyH_take (i := 19) (v := ?vr20) (by simp only [List.getElem?_toArray, List.getElem?_cons_zero, List.getElem?_cons_succ]; rfl) (by kernel_rfl) (by kernel_rfl) (by kernel_rfl) (fun _ _ _ h => h) (Or.inl ⟨by rfl, ?hyr20⟩) (by assumption) ?restr20
              case hyr20 => (intro w hSw; (try dsimp only at hSw); go_simp; try with_reducible rfl)
              try simp only [Act.put, List.setIfInBounds_toArray, List.set_cons_zero, List.set_cons_succ]
              refine wpAnyH_take (i := 20) (v := ?vr21) (by simp only [List.getElem?_toArray, List.getElem?_cons_zero, List.getElem?_cons_succ]; rfl) (by kernel_rfl) (by kernel_rfl) (by kernel_rfl) (fun _ _ _ h => h) (Or.inl ⟨by rfl, ?hyr21⟩) (by assumption) ?restr21
              case hyr21 => (intro w hSw; (try dsimp only at hSw); go_simp; try with_reducible rfl)
              try simp only [Act.put, List.setIfInBounds_toArray, List.set_cons_zero, List.set_cons_succ]
              refine wpAnyH_take (i := 21) (v := ?vr22) (by simp only [List.getElem?_toArray, List.getElem?_cons_zero, List.getElem?_cons_succ]; rfl) (by kernel_rfl) (by kernel_rfl) (by kernel_rfl) (fun _ _ _ h => h) (Or.inl ⟨by rfl, ?hyr22⟩) (by assumption) ?restr22
              case hyr22 => (intro w hSw; (try dsimp only at hSw); go_simp; try with_reducible rfl)
              try simp only [Act.put, List.setIfInBounds_toArray, List.set_cons_zero, List.set_cons_succ]
              refine wpAnyH_take (i := 22) (v := ?vr23) (by simp only [List.getElem?_toArray, List.getElem?_cons_zero, List.getElem?_cons_succ]; rfl) (by kernel_rfl) (by kernel_rfl) (by kernel_rfl) (fun _ _ _ h => h) (Or.inl ⟨by rfl, ?hyr23⟩) (by assumption) ?restr23
              case hyr23 => (intro w hSw; (try dsimp only at hSw); go_simp; try with_reducible rfl)
              try simp only [Act.put, List.setIfInBounds_toArray, List.set_cons_zero, List.set_cons_succ]
              refine wpAnyH_take (i := 23) (v := ?vr24) (by simp only [List.getElem?_toArray, List.getElem?_cons_zero, List.getElem?_cons_succ]; rfl) (by kernel_rfl) (by kernel_rfl) (by kernel_rfl) (fun _ _ _ h => h) (Or.inl ⟨by rfl, ?hyr24⟩) (by assumption) ?restr24
              case hyr24 => (intro w hSw; (try dsimp only at hSw); go_simp; try with_reducible rfl)
              try simp only [Act.put, List.setIfInBounds_toArray, List.set_cons_zero, List.set_cons_succ]
              refine wpAnyH_take (i := 24) (v := ?vr25) (by simp only [List.getElem?_toArray, List.getElem?_cons_zero, List.getElem?_cons_succ]; rfl) (by kernel_rfl) (by kernel_rfl) (by kernel_rfl) (fun _ _ _ h => h) (Or.inl ⟨by rfl, ?hyr25⟩) (by assumption) ?restr25
              case hyr25 => (intro w hSw; (try dsimp only at hSw); go_simp; try with_reducible rfl)
              try simp only [Act.put, List.setIfInBounds_toArray, List.set_cons_zero, List.set_cons_succ]
              refine wpAnyH_take (i := 25) (v := ?vr26) (by simp only [List.getElem?_toArray, List.getElem?_cons_zero, List.getElem?_cons_succ]; rfl) (by kernel_rfl) (by kernel_rfl) (by kernel_rfl) (fun _ _ _ h => h) (Or.inl ⟨by rfl, ?hyr26⟩) (by assumption) ?restr26
              case hyr26 => (intro w hSw; (try dsimp only at hSw); go_simp; try with_reducible rfl)
              try simp only [Act.put, List.setIfInBounds_toArray, List.set_cons_zero, List.set_cons_succ]
              refine wpAnyH_take (i := 26) (v := ?vr27) (by simp only [List.getElem?_toArray, List.getElem?_cons_zero, List.getElem?_cons_succ]; rfl) (by kernel_rfl) (by kernel_rfl) (by kernel_rfl) (fun _ _ _ h => h) (Or.inl ⟨by rfl, ?hyr27⟩) (by assumption) ?restr27
              case hyr27 => (intro w hSw; (try dsimp only at hSw); go_simp; try with_reducible rfl)
              try simp only [Act.put, List.setIfInBounds_toArray, List.set_cons_zero, List.set_cons_succ]
              refine wpAnyH_take (i := 27) (v := ?vr28) (by simp only [List.getElem?_toArray, List.getElem?_cons_zero, List.getElem?_cons_succ]; rfl) (by kernel_rfl) (by kernel_rfl) (by kernel_rfl) (fun _ _ _ h => h) (Or.inl ⟨by rfl, ?hyr28⟩) (by assumption) ?restr28
              case hyr28 => (intro w hSw; (try dsimp only at hSw); go_simp; try with_reducible rfl)
              try simp only [Act.put, List.setIfInBounds_toArray, List.set_cons_zero, List.set_cons_succ]
              refine wpAnyH_take (i := 28) (v := ?vr29) (by simp only [List.getElem?_toArray, List.getElem?_cons_zero, List.getElem?_cons_succ]; rfl) (by kernel_rfl) (by kernel_rfl) (by kernel_rfl) (fun _ _ _ h => h) (Or.inl ⟨by rfl, ?hyr29⟩) (by assumption) ?restr29
              case hyr29 => (intro w hSw; (try dsimp only at hSw); go_simp; try with_reducible rfl)
              try simp only [Act.put, List.setIfInBounds_toArray, List.set_cons_zero, List.set_cons_succ]
              refine wpAnyH_take (i := 29) (v := ?vr30) (by simp only [List.getElem?_toArray, List.getElem?_cons_zero, List.getElem?_cons_succ]; rfl) (by kernel_rfl) (by kernel_rfl) (by kernel_rfl) (fun _ _ _ h => h) (Or.inl ⟨by rfl, ?hyr30⟩) (by assumption) ?restr30
              case hyr30 => (intro w hSw; (try dsimp only at hSw); go_simp; try with_reducible rfl)
              try simp only [Act.put, List.setIfInBounds_toArray, List.set_cons_zero, List.set_cons_succ]
              refine wpAnyH_take (i := 30) (v := ?vr31) (by simp only [List.getElem?_toArray, List.getElem?_cons_zero, List.getElem?_cons_succ]; rfl) (by kernel_rfl) (by kernel_rfl) (by kernel_rfl) (fun _ _ _ h => h) (Or.inl ⟨by rfl, ?hyr31⟩) (by assumption) ?restr31
              case hyr31 => (intro w hSw; (try dsimp only at hSw); go_simp; try with_reducible rfl)
              try simp only [Act.put, List.setIfInBounds_toArray, List.set_cons_zero, List.set_cons_succ]
              refine wpAnyH_take (i := 31) (v := ?vr32) (by simp only [List.getElem?_toArray, List.getElem?_cons_zero, List.getElem?_cons_succ]; rfl) (by kernel_rfl) (by kernel_rfl) (by kernel_rfl) (fun _ _ _ h => h) (Or.inl ⟨by rfl, ?hyr32⟩) (by assumption) ?restr32
              case hyr32 => (intro w hSw; (try dsimp only at hSw); go_simp; try with_reducible rfl)
              try simp only [Act.put, List.setIfInBounds_toArray, List.set_cons_zero, List.set_cons_succ]
              refine wpAnyH_take (i := 32) (v := ?vr33) (by simp only [List.getElem?_toArray, List.getElem?_cons_zero, List.getElem?_cons_succ]; rfl) (by kernel_rfl) (by kernel_rfl) (by kernel_rfl) (fun _ _ _ h => h) (Or.inl ⟨by rfl, ?hyr33⟩) (by assumption) ?restr33
              case hyr33 => (intro w hSw; (try dsimp only at hSw); go_simp; try with_reducible rfl)
              try simp only [Act.put, List.setIfInBounds_toArray, List.set_cons_zero, List.set_cons_succ]
              refine wpAnyH_take (i := 33) (v := ?vr34) (by simp only [List.getElem?_toArray, List.getElem?_cons_zero, List.getElem?_cons_succ]; rfl) (by kernel_rfl) (by kernel_rfl) (by kernel_rfl) (fun _ _ _ h => h) (Or.inl ⟨by rfl, ?hyr34⟩) (by assumption) ?restr34
              case hyr34 => (intro w hSw; (try dsimp only at hSw); go_simp; try with_reducible rfl)
              try simp only [Act.put, List.setIfInBounds_toArray, List.set_cons_zero, List.set_cons_succ]
              refine wpAnyH_ready (rs := [34]) (by kernel_rfl) (by simp) ?_
              refine AllReadyH.cons (by simp only [List.getElem?_toArray, List.getElem?_cons_zero, List.getElem?_cons_succ]; rfl) (fun K hK => ?stepr35) AllReadyH.nil
              go_simp; go_at_call 18; (with_reducible refine (tree_nil _).mono ?_); rintro e w11 ⟨rfl, m11⟩; have b11 := b10.trans (m11.mono b10.size); clear m11
              go_wp2_with fail
              refine hK.out _ _ ?hSr35 (fun hHeld => ?_)
              case hSr35 => exact HS.out _ b11
              clear hK K
              try simp only [Act.put, List.setIfInBounds_toArray, List.set_cons_zero, List.set_cons_succ]
              refine wpAnyH_take (i := 35) (v := ?vr36) (by simp only [List.getElem?_toArray, List.getElem?_cons_zero, List.getElem?_cons_succ]; rfl) (by kernel_rfl) (by kernel_rfl) (by kernel_rfl) (fun _ _ _ h => h) (Or.inl ⟨by rfl, ?hyr36⟩) (by assumption) ?restr36
              case hyr36 => (intro w hSw; (try dsimp only at hSw); go_simp; try with_reducible rfl)
              try simp only [Act.put, List.setIfInBounds_toArray, List.set_cons_zero, List.set_cons_succ]
              refine wpAnyH_take (i := 36) (v := ?vr37) (by simp only [List.getElem?_toArray, List.getElem?_cons_zero, List.getElem?_cons_succ]; rfl) (by kernel_rfl) (by kernel_rfl) (by kernel_rfl) (fun _ _ _ h => h) (Or.inl ⟨by rfl, ?hyr37⟩) (by assumption) ?restr37
              case hyr37 => (intro w hSw; (try dsimp only at hSw); go_simp; try with_reducible rfl)
              try simp only [Act.put, List.setIfInBounds_toArray, List.set_cons_zero, List.set_cons_succ]
              refine wpAnyH_take (i := 37) (v := ?vr38) (by simp only [List.getElem?_toArray, List.getElem?_cons_zero, List.getElem?_cons_succ]; rfl) (by kernel_rfl) (by kernel_rfl) (by kernel_rfl) (fun _ _ _ h => h) (Or.inl ⟨by rfl, ?hyr38⟩) (by assumption) ?restr38
              case hyr38 => (intro w hSw; (try dsimp only at hSw); go_simp; try with_reducible rfl)
              try simp only [Act.put, List.setIfInBounds_toArray, List.set_cons_zero, List.set_cons_succ]
              refine wpAnyH_take (i := 38) (v := ?vr39) (by simp only [List.getElem?_toArray, List.getElem?_cons_zero, List.getElem?_cons_succ]; rfl) (by kernel_rfl) (by kernel_rfl) (by kernel_rfl) (fun _ _ _ h => h) (Or.inl ⟨by rfl, ?hyr39⟩) (by assumption) ?restr39
              case hyr39 => (intro w hSw; (try dsimp only at hSw); go_simp; try with_reducible rfl)
              try simp only [Act.put, List.setIfInBounds_toArray, List.set_cons_zero, List.set_cons_succ]
              refine wpAnyH_done (by kernel_rfl) ?_ _
              refine NoPanic.normal ?_
              go_wp2_with fail
              have z0 := HS.out w11 b11
              (try dsimp only at z0)
              obtain ⟨g0, g1, g2, x0, x1, x2, _⟩ := z0
              clear hHeld b9 b10 KC1 KC2
              go_wp2
              go_loopw [20, 152] (fun _ i wr => ∃ k : Nat, k ≤ t.nodes.length ∧ i = .int .i64 k ∧ Below W8.heap.size W8 wr) (fun _ i _ => t.nodes.length - (intOf i).toNat)
              case atStart => exact ⟨0, Nat.zero_le _, rfl, b11⟩
              case round =>
                obtain ⟨k, hk, rfl, hBr⟩ := hrel
                have z0 := HS.out wr hBr
                (try dsimp only at z0)
                obtain ⟨g0, g1, g2, x0, x1, x2, _⟩ := z0
                by_cases hlt : k < t.nodes.length
                · obtain ⟨b, off, hp, hb, hcell⟩ := HTt8.out.1 (by omega)
                  obtain ⟨b', off', hp', hb', hcell'⟩ := HTq8.out.1 (by omega)
                  dsimp only at hp hp'
                  obtain ⟨u, _, hcu⟩ := hcell k t.nodes[k] (List.getElem?_eq_getElem hlt)
                  obtain ⟨v, _, hcv⟩ := hcell' k t.nodes[k] (List.getElem?_eq_getElem hlt)
                  obtain ⟨x, hx⟩ : ∃ x, t.nodes[k] = x := ⟨_, rfl⟩
                  rw [hx] at hcu hcv
                  subst hp
                  subst hp'
                  have e0 := (hBr.cell (p := ⟨b, off + k * 8, none⟩) hb).trans (hcu 0 _ rfl)
                  have e1 := (hBr.cell (p := ⟨b, off + k * 8 + 1, none⟩) hb).trans (hcu 1 _ rfl)
                  have f0 := (hBr.cell (p := ⟨b', off' + k * 8, none⟩) hb').trans (hcv 0 _ rfl)
                  have f1 := (hBr.cell (p := ⟨b', off' + k * 8 + 1, none⟩) hb').trans (hcv 1 _ rfl)
                  have i1 : (0 : Int) ≤ (k : Int) := by omega
                  have i2 : (k : Int) < (t.nodes.length : Int) := by omega
                  have hq1 : (x.pos != x.pos) = false := by simp
                  have hq2 : (x.kind != x.kind) = false := by simp
                  clear hcell hcell' hcu hcv hx
                  go_wp2
                  go_quiet (fail)
                  go_wp2
                  go_roundw
                  case rel => exact ⟨k + 1, by omega, by go_num, hBr.trans (below_drewN _ _ _)⟩
                  case measure => simp [intOf]; omega
                · obtain rfl : k = t.nodes.length := by omega
                  have hBE := hB8.trans (hBr.mono hB8.size)
                  have hTa := tree_up HTq8.out hBr
                  have hTb := tree_up HTt8.out hBr
                  have kC := check_any t ⟨a1, c1, a2, c2, a3, c3⟩ wr (HE.out.on hBE) hTb HFew.out
                  have hzE := hBE.size
                  by_cases hc : checkF t = true
                  · rw [if_pos hc] at kC
                    have hsr := sameB_refl hc
                    have KS : Hid (∀ W, Below wr.heap.size wr W → Calls Tryd.prog 19 #[.agg #[.slice qa1 t.nodes.length qc1, .slice qa2 t.types.length qc2, .slice qa3 t.aliases.length qc3], .agg #[.slice a1 t.nodes.length c1, .slice a2 t.types.length c2, .slice a3 t.aliases.length c3]] W fun e w' => e = .returned (.bool true) ∧ Below W.heap.size W w') := Lib.hid fun W hW => by
                      have := same19_any t t ⟨qa1, qc1, qa2, qc2, qa3, qc3⟩ ⟨a1, c1, a2, c2, a3, c3⟩ W (HE.out.on (hBE.trans (hW.mono hzE))) (tree_up hTa hW) (tree_up hTb hW) HFew.out HFew.out
                      rwa [hsr] at this
                    have HTb := Lib.hid hTb
                    clear hTa hTb hc hsr HCI
                    go_wp2_with fail
                    refine kC.mono ?_
                    rintro e w12 ⟨rfl, b12⟩
                    have z0 := HS.out w12 (hBr.trans (b12.mono hBr.size))
                    (try dsimp only at z0)
                    clear g0 g1 g2 x0 x1 x2
                    obtain ⟨g0, g1, g2, x0, x1, x2, _⟩ := z0
                    have kS := KS.out w12 b12
                    have hB12 := hBE.trans (b12.mono hzE)
                    clear kC b12
                    go_wp2_with (go_at_call 19; refine kS.mono ?_; rintro e w13 ⟨rfl, b13⟩)
                    go_ret
                    exact ⟨rfl, hB12.trans (b13.mono hB12.size)⟩
                  · rw [if_neg hc] at kC
                    clear hTa hTb hc HCI
                    go_wp2_with (go_at_call 8; refine kC.mono ?_; rintro e w12 ⟨rfl, b12⟩)
                    go_ret
                    exact ⟨rfl, hBE.trans (b12.mono hzE)⟩

theorem builds_any (t : TreeD) (p : Ptr6) (w : World) (hE : Env w) (hT : TreeAt (Lt w.heap.size) w t p) (b1 : t.nodes.length ≤ maxLen) (b2 : t.types.length ≤ maxLen) (b3 : t.aliases.length ≤ maxLen) :
    Calls Tryd.prog 4 #[treeV t p] w fun e w' => e = .returned (.bool true) ∧ Below w.heap.size w w' := by
  unfold maxLen at b1 b2 b3
  by_cases hG : fewB t = true
  · exact builds_yes t p w hE hT hG
  · exact builds_not t p w hE hT (by omega) (by omega) (by omega) (by simpa using hG)
end Go.Proofs.YtinajnkjfhbmkaaDoor
