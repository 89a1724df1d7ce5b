/- Whether a tree is little: at every tree. The document's answer for tags and names, at every string of at most 1000 bytes. Are two rows of numbers the same? The -/
import Derived.Test.YtjbdgjbmbohfmaaGreatDoorK30
namespace Go.Proofs.YtjbdgjbmbohfmaaGreatDoor
open Go Go.Proofs Go.RowKit
def fewTm (x : TermD) : Prop := x.names.length ≤ 20 ∧ x.kids.length ≤ 20 ∧ x.types.length ≤ 20 ∧ x.name.size ≤ 60 ∧ ∀ s ∈ x.names, s.size ≤ 60
def fewTy (x : TypD) : Prop := x.names.length ≤ 20 ∧ x.kids.length ≤ 20 ∧ x.name.size ≤ 60 ∧ ∀ s ∈ x.names, s.size ≤ 60
instance (x : TermD) : Decidable (fewTm x) := by unfold fewTm; infer_instance
instance (x : TypD) : Decidable (fewTy x) := by unfold fewTy; infer_instance
def fewB (t : TreeD) : Bool := decide ((∀ x ∈ t.nodes, fewTm x) ∧ (∀ x ∈ t.types, fewTy x) ∧ (∀ x ∈ t.aliases, x.name.size ≤ 60) ∧ t.nodes.length ≤ 60 ∧ t.types.length ≤ 60 ∧ t.aliases.length ≤ 10)
theorem few_of {t : TreeD} (h : fewB t = true) : TreeFew t := by
 unfold fewB at h
 rw [decide_eq_true_eq] at h
 obtain ⟨h1, h2, h3, h4, h5, h6⟩ := h
 refine ⟨fun x hx => ?_, fun x hx => ?_, fun x hx => by have := h3 x hx; omega, by omega, by omega, by omega⟩
 ·obtain ⟨a, b, c, d, e⟩ := h1 x hx
  exact ⟨by omega, by omega, fun s hs => by have := e s hs; omega, by omega, by omega⟩
 ·obtain ⟨a, b, d, e⟩ := h2 x hx
  exact ⟨by omega, by omega, fun s hs => by have := e s hs; omega, by omega⟩

set_option maxRecDepth 100000 in
set_option maxHeartbeats 8000000 in
theorem few_any (t : TreeD) (p : Ptr6) (w : World) (hT : TreeAt (Lt w.heap.size) w t p) (b1 : t.nodes.length ≤ 9223372036854775807) (b2 : t.types.length ≤ 9223372036854775807) (b3 : t.aliases.length ≤ 9223372036854775807) :
 Calls Tryz.prog 20 #[treeV t p] w fun e w' => e = .returned (.bool (fewB t)) ∧ Below w.heap.size w w' := by
 obtain ⟨a1, c1, a2, c2, a3, c3⟩ := p
 obtain ⟨tN, tT, tA⟩ := hT
 dsimp only at tN tT tA
 obtain ⟨W1, hW1⟩ : ∃ W1, w.alloc (.cells #[.slice a1 t.nodes.length c1, .slice a2 t.types.length c2, .slice a3 t.aliases.length c3] 28) = W1 := ⟨_, rfl⟩
 have hB1 : Below w.heap.size w W1 := by rw [← hW1]; exact (Below.refl _ _).alloc (Nat.le_refl _) _
 have hX : Blk W1 w.heap.size 28 #[.slice a1 t.nodes.length c1, .slice a2 t.types.length c2, .slice a3 t.aliases.length c3] := by rw [← hW1]; exact Blk.new w 28 _
 have x0 := hX.cell 0
 have x1 := hX.cell 1
 have x2 := hX.cell 2
 simp only [List.getElem?_toArray, List.getElem?_cons_zero, List.getElem?_cons_succ] at x0 x1 x2
 have hzX := hX.lt
 obtain ⟨R, hR⟩ : ∃ R, fewB t = R := ⟨_, rfl⟩
 rw [hR]
 have HR := Lib.hid hR
 have HX := Lib.hid hX
 clear hR hX
 go_enter Tryz.func20, Tryz.ntmps20
 go_wp2
 clear hW1
 go_loopw [4, 6, 16, 45] (fun _ _ i _ wr => ∃ k : Nat, k ≤ t.nodes.length ∧ i = .int .i64 k ∧ Hid (∀ x ∈ t.nodes.take k, fewTm x) ∧ Below W1.heap.size W1 wr) (fun _ _ i _ _ => t.nodes.length - (intOf i).toNat)
 case atStart => exact ⟨0, Nat.zero_le _, rfl, Lib.hid (by simp), Below.refl _ _⟩
 case round =>
  obtain ⟨k, hk, rfl, HF, hB⟩ := hrel
  have hzr := hB.size
  have hBw : Below w.heap.size w wr := hB1.trans (hB.mono (by omega))
  by_cases hlt : k < t.nodes.length
  ·obtain ⟨b, off, rfl, hb, hcell⟩ := tN (by omega)
   obtain ⟨q, hq, hcq⟩ := hcell k t.nodes[k] (List.getElem?_eq_getElem hlt)
   have htk : t.nodes.take (k + 1) = t.nodes.take k ++ [t.nodes[k]] := List.take_succ_eq_append_getElem hlt
   have hno : ¬ fewTm t.nodes[k] → R = false := fun h => by
    rw [← HR.out]; unfold fewB; rw [decide_eq_false_iff_not]; exact fun h2 => h (h2.1 _ (List.getElem_mem hlt))
   obtain ⟨x, hx⟩ : ∃ x, t.nodes[k] = x := ⟨_, rfl⟩
   rw [hx] at hq hcq htk hno
   clear hx hcell
   have e0 := (hBw.cell (p := ⟨b, off + k * 8, none⟩) hb).trans (hcq 0 _ rfl)
   have e1 := (hBw.cell (p := ⟨b, off + k * 8 + 1, none⟩) hb).trans (hcq 1 _ rfl)
   have e2 := (hBw.cell (p := ⟨b, off + k * 8 + 2, none⟩) hb).trans (hcq 2 _ rfl)
   have e3 := (hBw.cell (p := ⟨b, off + k * 8 + 3, none⟩) hb).trans (hcq 3 _ rfl)
   have e4 := (hBw.cell (p := ⟨b, off + k * 8 + 4, none⟩) hb).trans (hcq 4 _ rfl)
   have e5 := (hBw.cell (p := ⟨b, off + k * 8 + 5, none⟩) hb).trans (hcq 5 _ rfl)
   have e6 := (hBw.cell (p := ⟨b, off + k * 8 + 6, none⟩) hb).trans (hcq 6 _ rfl)
   have e7 := (hBw.cell (p := ⟨b, off + k * 8 + 7, none⟩) hb).trans (hcq 7 _ rfl)
   clear hcq
   obtain ⟨Wn, hWn⟩ : ∃ Wn, wr.alloc (.cells #[.int .i64 x.kind, .int .i64 x.pos, .string x.name, .int .i64 x.int, .int .u64 (x.bits : Int), .slice q.a5 x.names.length q.c5, .slice q.a6 x.kids.length q.c6, .slice q.a7 x.types.length q.c7] 60) = Wn := ⟨_, rfl⟩
   have hBn : Below wr.heap.size wr Wn := by rw [← hWn]; exact (Below.refl _ _).alloc (Nat.le_refl _) _
   have hXn : Blk Wn wr.heap.size 60 (termCells x q).toArray := by rw [← hWn]; exact Blk.new wr 60 _
   have p2 := hXn.cell 2
   have p5 := hXn.cell 5
   have p6 := hXn.cell 6
   have p7 := hXn.cell 7
   unfold termCells at p2 p5 p6 p7
   simp only [List.getElem?_toArray, List.getElem?_cons_zero, List.getElem?_cons_succ] at p2 p5 p6 p7
   have hBf : Below W1.heap.size W1 Wn := hB.trans (hBn.mono (by omega))
   have hBnw : Below w.heap.size w Wn := hBw.trans (hBn.mono (by omega))
   have HTK := Lib.hid htk
   have HN := Lib.hid hno
   have hqn := hq.1.keep (keep_below hBnw)
   clear htk hno hXn hq
   by_cases hC : x.names.length ≤ 20 ∧ x.kids.length ≤ 20 ∧ x.types.length ≤ 20 ∧ x.name.size ≤ 60
   ·obtain ⟨h1, h2, h3, h4⟩ := hC
    have d1 : decide ((20 : Int) < x.names.length) = false := by simp; omega
    have d2 : decide ((20 : Int) < x.kids.length) = false := by simp; omega
    have d3 : decide ((20 : Int) < x.types.length) = false := by simp; omega
    have d4 : decide ((60 : Int) < x.name.size) = false := by simp; omega
    go_wp2
    go_loop [6, 45] (fun _ i => ∃ j : Nat, j ≤ x.names.length ∧ i = .int .i64 j ∧ Hid (∀ s ∈ x.names.take j, s.size ≤ 60)) (fun _ i => x.names.length - (intOf i).toNat)
    case atStart => exact ⟨0, Nat.zero_le _, rfl, Lib.hid (by simp)⟩
    case round =>
     obtain ⟨j, hj, rfl, HJ⟩ := hrel
     by_cases hjl : j < x.names.length
     ·obtain ⟨b', off', hA', hb', hcell'⟩ := hqn.at_ hjl
      have hq' := hcell' j (.string x.names[j]) (by simp [hjl])
      have hjk : x.names.take (j + 1) = x.names.take j ++ [x.names[j]] := List.take_succ_eq_append_getElem hjl
      have hbad : ¬ x.names[j].size ≤ 60 → R = false := fun h => HN.out (fun h2 => h (h2.2.2.2.2 _ (List.getElem_mem hjl)))
      obtain ⟨s, hs⟩ : ∃ s, x.names[j] = s := ⟨_, rfl⟩
      rw [hs] at hq' hjk hbad
      have HJK := Lib.hid hjk
      have HBAD := Lib.hid hbad
      clear hs hcell' hjk hbad
      by_cases h60 : s.size ≤ 60
      ·have d5 : decide ((60 : Int) < s.size) = false := by simp; omega
       go_wp2
       go_round
       case rel => exact ⟨j + 1, by omega, by go_num, Lib.hid fun y hy => by
        rw [HJK.out] at hy
        rcases List.mem_append.1 hy with hy | hy
        ·exact HJ.out y hy
        ·simp only [List.mem_singleton] at hy; subst hy; exact h60⟩
       case measure => simp [intOf]; omega
      ·have HF2 := Lib.hid (HBAD.out h60)
       have d5 : decide ((60 : Int) < s.size) = true := by simp; omega
       go_wp2
       go_ret
       exact ⟨ret_bool HF2.out.symm, hBnw⟩
     ·obtain rfl : j = x.names.length := by omega
      have HG : Hid (fewTm x) := Lib.hid ⟨h1, h2, h3, h4, fun s hs => HJ.out s (by rw [List.take_length]; exact hs)⟩
      clear HJ
      go_wp2
      go_roundw
      case rel => exact ⟨k + 1, by omega, by go_num, Lib.hid fun y hy => by
       rw [HTK.out] at hy
       rcases List.mem_append.1 hy with hy | hy
       ·exact HF.out y hy
       ·simp only [List.mem_singleton] at hy; subst hy; exact HG.out, hBf⟩
      case measure => simp [intOf]; omega
   ·have HF2 := Lib.hid (HN.out (fun h => hC ⟨h.1, h.2.1, h.2.2.1, h.2.2.2.1⟩))
    go_wp2
    all_goals go_ret
    all_goals exact ⟨ret_bool HF2.out.symm, hBnw⟩
  ·obtain rfl : k = t.nodes.length := by omega
   have HF1 : Hid (∀ x ∈ t.nodes, fewTm x) := Lib.hid fun x hx => HF.out x (by rw [List.take_length]; exact hx)
   have hX2 := HX.out.below hB hzX
   have y0 := hX2.cell 0
   have y1 := hX2.cell 1
   have y2 := hX2.cell 2
   simp only [List.getElem?_toArray, List.getElem?_cons_zero, List.getElem?_cons_succ] at y0 y1 y2
   have HX2 := Lib.hid hX2
   have hzX2 := hX2.lt
   clear hX2 HF x0 x1 x2 hB
   obtain ⟨W2, rfl⟩ : ∃ W2, W2 = wr := ⟨wr, rfl⟩
   go_wp2
   go_loopw [8, 10, 57, 80] (fun _ _ i _ wr => ∃ k : Nat, k ≤ t.types.length ∧ i = .int .i64 k ∧ Hid (∀ x ∈ t.types.take k, fewTy x) ∧ Below W2.heap.size W2 wr) (fun _ _ i _ _ => t.types.length - (intOf i).toNat)
   case atStart => exact ⟨0, Nat.zero_le _, rfl, Lib.hid (by simp), Below.refl _ _⟩
   case round =>
    obtain ⟨k, hk, rfl, HF, hB⟩ := hrel
    have hzr2 := hB.size
    have hBw2 : Below w.heap.size w wr := hBw.trans (hB.mono (by omega))
    by_cases hlt : k < t.types.length
    ·obtain ⟨b, off, rfl, hb, hcell⟩ := tT (by omega)
     obtain ⟨q, hq, hcq⟩ := hcell k t.types[k] (List.getElem?_eq_getElem hlt)
     have htk : t.types.take (k + 1) = t.types.take k ++ [t.types[k]] := List.take_succ_eq_append_getElem hlt
     have hno : ¬ fewTy t.types[k] → R = false := fun h => by
      rw [← HR.out]; unfold fewB; rw [decide_eq_false_iff_not]; exact fun h2 => h (h2.2.1 _ (List.getElem_mem hlt))
     obtain ⟨x, hx⟩ : ∃ x, t.types[k] = x := ⟨_, rfl⟩
     rw [hx] at hq hcq htk hno
     clear hx hcell
     have e0 := (hBw2.cell (p := ⟨b, off + k * 6, none⟩) hb).trans (hcq 0 _ rfl)
     have e1 := (hBw2.cell (p := ⟨b, off + k * 6 + 1, none⟩) hb).trans (hcq 1 _ rfl)
     have e2 := (hBw2.cell (p := ⟨b, off + k * 6 + 2, none⟩) hb).trans (hcq 2 _ rfl)
     have e3 := (hBw2.cell (p := ⟨b, off + k * 6 + 3, none⟩) hb).trans (hcq 3 _ rfl)
     have e4 := (hBw2.cell (p := ⟨b, off + k * 6 + 4, none⟩) hb).trans (hcq 4 _ rfl)
     have e5 := (hBw2.cell (p := ⟨b, off + k * 6 + 5, none⟩) hb).trans (hcq 5 _ rfl)
     clear hcq
     obtain ⟨Wn, hWn⟩ : ∃ Wn, wr.alloc (.cells #[.int .i64 x.kind, .int .i64 x.pos, .string x.name, .slice q.a3 x.names.length q.c3, .slice q.a4 x.kids.length q.c4, .bool x.opn] 51) = Wn := ⟨_, rfl⟩
     have hBn : Below wr.heap.size wr Wn := by rw [← hWn]; exact (Below.refl _ _).alloc (Nat.le_refl _) _
     have hXn : Blk Wn wr.heap.size 51 (typCells x q).toArray := by rw [← hWn]; exact Blk.new wr 51 _
     have p2 := hXn.cell 2
     have p3 := hXn.cell 3
     have p4 := hXn.cell 4
     unfold typCells at p2 p3 p4
     simp only [List.getElem?_toArray, List.getElem?_cons_zero, List.getElem?_cons_succ] at p2 p3 p4
     have hBf : Below W2.heap.size W2 Wn := hB.trans (hBn.mono (by omega))
     have hBnw : Below w.heap.size w Wn := hBw2.trans (hBn.mono (by omega))
     have HTK := Lib.hid htk
     have HN := Lib.hid hno
     have hqn := hq.1.keep (keep_below hBnw)
     clear htk hno hXn hq
     by_cases hC : x.names.length ≤ 20 ∧ x.kids.length ≤ 20 ∧ x.name.size ≤ 60
     ·obtain ⟨h1, h2, h4⟩ := hC
      have d1 : decide ((20 : Int) < x.names.length) = false := by simp; omega
      have d2 : decide ((20 : Int) < x.kids.length) = false := by simp; omega
      have d4 : decide ((60 : Int) < x.name.size) = false := by simp; omega
      go_wp2
      go_loop [10, 80] (fun _ i => ∃ j : Nat, j ≤ x.names.length ∧ i = .int .i64 j ∧ Hid (∀ s ∈ x.names.take j, s.size ≤ 60)) (fun _ i => x.names.length - (intOf i).toNat)
      case atStart => exact ⟨0, Nat.zero_le _, rfl, Lib.hid (by simp)⟩
      case round =>
       obtain ⟨j, hj, rfl, HJ⟩ := hrel
       by_cases hjl : j < x.names.length
       ·obtain ⟨b', off', hA', hb', hcell'⟩ := hqn.at_ hjl
        have hq' := hcell' j (.string x.names[j]) (by simp [hjl])
        have hjk : x.names.take (j + 1) = x.names.take j ++ [x.names[j]] := List.take_succ_eq_append_getElem hjl
        have hbad : ¬ x.names[j].size ≤ 60 → R = false := fun h => HN.out (fun h2 => h (h2.2.2.2 _ (List.getElem_mem hjl)))
        obtain ⟨s, hs⟩ : ∃ s, x.names[j] = s := ⟨_, rfl⟩
        rw [hs] at hq' hjk hbad
        have HJK := Lib.hid hjk
        have HBAD := Lib.hid hbad
        clear hs hcell' hjk hbad
        by_cases h60 : s.size ≤ 60
        ·have d5 : decide ((60 : Int) < s.size) = false := by simp; omega
         go_wp2
         go_round
         case rel => exact ⟨j + 1, by omega, by go_num, Lib.hid fun y hy => by
          rw [HJK.out] at hy
          rcases List.mem_append.1 hy with hy | hy
          ·exact HJ.out y hy
          ·simp only [List.mem_singleton] at hy; subst hy; exact h60⟩
         case measure => simp [intOf]; omega
        ·have HF2 := Lib.hid (HBAD.out h60)
         have d5 : decide ((60 : Int) < s.size) = true := by simp; omega
         go_wp2
         go_ret
         exact ⟨ret_bool HF2.out.symm, hBnw⟩
       ·obtain rfl : j = x.names.length := by omega
        have HG : Hid (fewTy x) := Lib.hid ⟨h1, h2, h4, fun s hs => HJ.out s (by rw [List.take_length]; exact hs)⟩
        clear HJ
        go_wp2
        go_roundw
        case rel => exact ⟨k + 1, by omega, by go_num, Lib.hid fun y hy => by
         rw [HTK.out] at hy
         rcases List.mem_append.1 hy with hy | hy
         ·exact HF.out y hy
         ·simp only [List.mem_singleton] at hy; subst hy; exact HG.out, hBf⟩
        case measure => simp [intOf]; omega
     ·have HF2 := Lib.hid (HN.out (fun h => hC ⟨h.1, h.2.1, h.2.2.1⟩))
      go_wp2
      all_goals go_ret
      all_goals exact ⟨ret_bool HF2.out.symm, hBnw⟩
    ·obtain rfl : k = t.types.length := by omega
     have HFT : Hid (∀ x ∈ t.types, fewTy x) := Lib.hid fun x hx => HF.out x (by rw [List.take_length]; exact hx)
     have hX3 := HX2.out.below hB hzX2
     have z0 := hX3.cell 0
     have z1 := hX3.cell 1
     have z2 := hX3.cell 2
     simp only [List.getElem?_toArray, List.getElem?_cons_zero, List.getElem?_cons_succ] at z0 z1 z2
     have HX3 := Lib.hid hX3
     have hzX3 := hX3.lt
     clear hX3 HF y0 y1 y2 hB
     obtain ⟨W3, rfl⟩ : ∃ W3, W3 = wr := ⟨wr, rfl⟩
     go_wp2
     go_loopw [12, 92] (fun _ i wr => ∃ k : Nat, k ≤ t.aliases.length ∧ i = .int .i64 k ∧ Hid (∀ x ∈ t.aliases.take k, x.name.size ≤ 60) ∧ Below W3.heap.size W3 wr) (fun _ i _ => t.aliases.length - (intOf i).toNat)
     case atStart => exact ⟨0, Nat.zero_le _, rfl, Lib.hid (by simp), Below.refl _ _⟩
     case round =>
      obtain ⟨k, hk, rfl, HF, hB⟩ := hrel
      have hzr3 := hB.size
      have hBw3 : Below w.heap.size w wr := hBw2.trans (hB.mono (by omega))
      by_cases hlt : k < t.aliases.length
      ·obtain ⟨b, off, rfl, hb, hcell⟩ := tA (by omega)
       have hcq := hcell k t.aliases[k] (List.getElem?_eq_getElem hlt)
       have htk : t.aliases.take (k + 1) = t.aliases.take k ++ [t.aliases[k]] := List.take_succ_eq_append_getElem hlt
       have hno : ¬ t.aliases[k].name.size ≤ 60 → R = false := fun h => by
        rw [← HR.out]; unfold fewB; rw [decide_eq_false_iff_not]; exact fun h2 => h (h2.2.2.1 _ (List.getElem_mem hlt))
       obtain ⟨x, hx⟩ : ∃ x, t.aliases[k] = x := ⟨_, rfl⟩
       rw [hx] at hcq htk hno
       clear hx hcell
       have e0 := (hBw3.cell (p := ⟨b, off + k * 3, none⟩) hb).trans (hcq 0 _ rfl)
       have e1 := (hBw3.cell (p := ⟨b, off + k * 3 + 1, none⟩) hb).trans (hcq 1 _ rfl)
       have e2 := (hBw3.cell (p := ⟨b, off + k * 3 + 2, none⟩) hb).trans (hcq 2 _ rfl)
       clear hcq
       have HTK := Lib.hid htk
       have HN := Lib.hid hno
       clear htk hno
       by_cases h60 : x.name.size ≤ 60
       ·have d5 : decide ((60 : Int) < x.name.size) = false := by simp; omega
        go_wp2
        go_roundw
        case rel => exact ⟨k + 1, by omega, by go_num, Lib.hid (fun y hy => by
         rw [HTK.out] at hy
         rcases List.mem_append.1 hy with hy | hy
         ·exact HF.out y hy
         ·simp only [List.mem_singleton] at hy; subst hy; exact h60), hB.alloc hzr3 _⟩
        case measure => simp [intOf]; omega
       ·have HF2 := Lib.hid (HN.out h60)
        have d5 : decide ((60 : Int) < x.name.size) = true := by simp; omega
        go_wp2
        go_ret
        exact ⟨ret_bool HF2.out.symm, hBw3.alloc (by omega) _⟩
      ·obtain rfl : k = t.aliases.length := by omega
       have HFA : Hid (∀ x ∈ t.aliases, x.name.size ≤ 60) := Lib.hid fun x hx => HF.out x (by rw [List.take_length]; exact hx)
       have hX4 := HX3.out.below hB hzX3
       have u0 := hX4.cell 0
       have u1 := hX4.cell 1
       have u2 := hX4.cell 2
       simp only [List.getElem?_toArray, List.getElem?_cons_zero, List.getElem?_cons_succ] at u0 u1 u2
       have hfin : R = decide (t.nodes.length ≤ 60 ∧ t.types.length ≤ 60 ∧ t.aliases.length ≤ 10) := by
        rw [← HR.out]; unfold fewB
        rw [decide_eq_decide]
        exact ⟨fun h => h.2.2.2, fun h => ⟨HF1.out, HFT.out, HFA.out, h⟩⟩
       have HFIN := Lib.hid hfin
       clear hX4 HF z0 z1 z2 hfin
       go_wp2
       all_goals go_ret
       all_goals exact ⟨ret_bool (by rw [HFIN.out, Bool.eq_iff_iff]; simp; omega), hBw3⟩
/-- A name, or a word. -/
def nmB (l : List UInt8) : Bool := decide (l ≠ []) && decide (nameN l = l.length)
theorem isName_nm (l : List UInt8) : isName l = (nmB l && !isW l) := rfl
def tagAt (i : Nat) (c : UInt8) : Bool := lowB c || (decide (0 < i) && digB c)

theorem takeWhile_len {p : UInt8 → Bool} : ∀ (l : List UInt8), (l.takeWhile p).length = l.length ↔ ∀ x ∈ l, p x = true
 | [] => by simp
 | c :: r => by
  rw [List.takeWhile_cons]
  split
  ·rename_i h
   simp only [List.length_cons, Nat.add_right_cancel_iff, List.mem_cons, forall_eq_or_imp, h, true_and]
   exact takeWhile_len r
  ·rename_i h
   simp only [List.length_nil, List.length_cons, List.mem_cons, forall_eq_or_imp, h, false_and, iff_false, Bool.false_eq_true]
   omega

theorem nmB_iff (l : List UInt8) : nmB l = true ↔ l ≠ [] ∧ ∀ j (h : j < l.length), tagAt j l[j] = true := by
 cases l with
 | nil => simp [nmB]
 | cons c r =>
  have hN : nameN (c :: r) = (c :: r).length ↔ lowB c = true ∧ ∀ x ∈ r, wordB' x = true := by
   show (if lowB c then (r.takeWhile wordB').length + 1 else 0) = r.length + 1 ↔ _
   split
   ·rename_i h
    rw [Nat.add_right_cancel_iff, takeWhile_len]
    simp [h]
   ·rename_i h
    simp [h]
  simp only [nmB, ne_eq, reduceCtorEq, not_false_eq_true, decide_true, Bool.true_and, decide_eq_true_eq, true_and]
  rw [hN]
  constructor
  ·rintro ⟨h1, h2⟩ j hj
   cases j with
   | zero => simp [tagAt, h1]
   | succ j =>
    have := h2 (r[j]'(by simpa using hj)) (List.getElem_mem _)
    simp only [wordB'] at this
    simpa [tagAt] using this
  ·intro h
   refine ⟨by have := h 0 (by simp); simpa [tagAt] using this, fun x hx => ?_⟩
   obtain ⟨j, hj, rfl⟩ := List.getElem_of_mem hx
   have := h (j + 1) (by simpa using hj)
   simpa [tagAt, wordB'] using this

set_option maxHeartbeats 2000000 in
theorem rtag_any (s : ByteArray) (hs : s.size ≤ 1000) (w : World) : Calls Tryz.prog 85 #[.string s] w fun e w' => e = .returned (.bool (nmB (tl s))) ∧ w = w' := by
 have hlen := tl_length s
 have hE := empty_eq s
 have hI := nmB_iff (tl s)
 have hE2 : (s.toList != []) = decide (0 < s.size) := by
  by_cases hz : s.size = 0
  ·have hE1 : (s.toList == []) = true := by rw [hE]; simpa using hz
   simp [bne, hE1, hz]
  ·have hE1 : (s.toList == []) = false := by rw [hE]; simpa using hz
   simp [bne, hE1]
   omega
 obtain ⟨R, hR⟩ : ∃ R, nmB (tl s) = R := ⟨_, rfl⟩
 rw [hR] at hI ⊢
 clear hR hE
 have HI := Lib.hid hI
 have HL := Lib.hid hlen
 have HE2 := Lib.hid hE2
 clear hI hlen hE2
 go_enter Tryz.func85, Tryz.ntmps85
 go_wp2
 go_loop [3] (fun i => ∃ k : Nat, k ≤ s.size ∧ i = .int .i64 k ∧ Hid (∀ j (h : j < s.size), j < k → tagAt j s[j] = true)) (fun i => s.size - (intOf i).toNat)
 case atStart => exact ⟨0, Nat.zero_le _, rfl, Lib.hid fun j _ h => absurd h (by omega)⟩
 case round =>
  obtain ⟨k, hk, rfl, HA⟩ := hrel
  by_cases hlt : k < s.size
  ·have hc := s[k].toNat_lt
   have hstep : tagAt k s[k] = true → ∀ j (h : j < s.size), j < k + 1 → tagAt j s[j] = true := fun hA j hj hjk => by
    by_cases e : j = k
    ·subst e; exact hA
    ·exact HA.out j hj (by omega)
   have hbad : tagAt k s[k] = false → R = false := fun hA => by
    cases R
    ·rfl
    ·have := (HI.out.1 rfl).2 k (by rw [HL.out]; exact hlt)
     have h2 : (tl s)[k]'(by rw [HL.out]; exact hlt) = s[k] := rfl
     rw [h2, hA] at this
     cases this
   obtain ⟨c, hcs⟩ : ∃ c, s[k] = c := ⟨_, rfl⟩
   rw [hcs] at hc hstep hbad
   have HC := Lib.hid hcs
   have HS := Lib.hid hstep
   have HB := Lib.hid hbad
   clear hstep hbad
   by_cases h1 : 97 ≤ c.toNat ∧ c.toNat ≤ 122
   ·obtain ⟨h1, h2⟩ := h1
    have h3 : Hid (tagAt k c = true) := Lib.hid (by simp [tagAt, lowB]; omega)
    go_wp2
    all_goals
     go_round
     case rel => exact ⟨k + 1, by omega, by go_num, Lib.hid (HS.out h3.out)⟩
     case measure => simp [intOf]; omega
   ·by_cases h2 : c.toNat = 95
    ·have h3 : Hid (tagAt k c = true) := Lib.hid (by simp [tagAt, lowB]; omega)
     have h4 : ((c.toNat : Int) == 95) = true := by simp; omega
     have h5 : decide ((97 : Int) ≤ c.toNat) = false := by simp; omega
     clear h1
     have h6 : c.toNat ≤ 95 := by omega
     clear h2
     go_wp2
     all_goals
      go_round
      case rel => exact ⟨k + 1, by omega, by go_num, Lib.hid (HS.out h3.out)⟩
      case measure => simp [intOf]; omega
    ·have h4 : ((c.toNat : Int) == 95) = false := by simp; omega
     by_cases h7 : k = 0
     ·subst h7
      have h3 : Hid (tagAt 0 c = false) := Lib.hid (by simp [tagAt, lowB]; omega)
      by_cases h8 : 97 ≤ c.toNat
      ·have h9 : decide ((c.toNat : Int) ≤ 122) = false := by simp; omega
       clear h1 h2
       go_wp2
       all_goals
        go_ret
        exact ⟨ret_bool (HB.out h3.out).symm, rfl⟩
      ·clear h1 h2
       go_wp2
       all_goals
        go_ret
        exact ⟨ret_bool (HB.out h3.out).symm, rfl⟩
     ·have h10 : ((k : Int) == 0) = false := by simp; omega
      have h11 : 0 < k := by omega
      clear h7
      by_cases h12 : 48 ≤ c.toNat ∧ c.toNat ≤ 57
      ·obtain ⟨h12, h13⟩ := h12
       have h3 : Hid (tagAt k c = true) := Lib.hid (by simp [tagAt, lowB, digB]; omega)
       clear h1 h2
       go_wp2
       all_goals
        go_round
        case rel => exact ⟨k + 1, by omega, by go_num, Lib.hid (HS.out h3.out)⟩
        case measure => simp [intOf]; omega
      ·have h3 : Hid (tagAt k c = false) := Lib.hid (by simp [tagAt, lowB, digB]; omega)
       by_cases h8 : 97 ≤ c.toNat
       ·have h9 : decide ((c.toNat : Int) ≤ 122) = false := by simp; omega
        clear h1 h2 h12
        go_wp2
        all_goals
         go_ret
         exact ⟨ret_bool (HB.out h3.out).symm, rfl⟩
       ·by_cases h13 : c.toNat < 48
        ·clear h1 h2 h12
         go_wp2
         all_goals
          go_ret
          exact ⟨ret_bool (HB.out h3.out).symm, rfl⟩
        ·have h14 : 57 < c.toNat := by omega
         clear h1 h2 h12
         go_wp2
         all_goals
          go_ret
          exact ⟨ret_bool (HB.out h3.out).symm, rfl⟩
  ·obtain rfl : k = s.size := by omega
   have hfin : decide (0 < s.size) = R := by
    cases R
    ·rw [decide_eq_false_iff_not]
     intro h0
     have := HI.out.2 ⟨fun he => by have := HL.out; rw [he] at this; simp at this; omega, fun j hj => by rw [HL.out] at hj; exact HA.out j hj hj⟩
     cases this
    ·rw [decide_eq_true_eq]
     have := (HI.out.1 rfl).1
     rcases Nat.eq_zero_or_pos s.size with h0 | h0
     ·exact absurd (List.length_eq_zero_iff.1 (HL.out.trans h0)) this
     ·exact h0
   have HF : Hid ((s.toList != []) = R) := Lib.hid (HE2.out.trans hfin)
   clear hfin
   go_wp2
   go_ret
   exact ⟨ret_bool (by have := HF.out; simpa [bne] using this), rfl⟩

theorem rname_any (s : ByteArray) (hs : s.size ≤ 1000) (w : World) : Calls Tryz.prog 42 #[.string s] w fun e w' => e = .returned (.bool (isName (tl s))) ∧ w = w' := by
 have c1 := rtag_any s hs
 have c2 := rword_any s (by omega)
 rw [isName_nm]
 cases hn : nmB (tl s) <;> cases hw : isW (tl s)
 all_goals
  rw [hn] at c1
  rw [hw] at c2
  clear hn hw
  go_enter Tryz.func42, Tryz.ntmps42
  go_wp2_with (first | (go_at_call 85; refine (c1 _).mono ?_; rintro e w' ⟨rfl, rfl⟩) | (go_at_call 86; refine (c2 _).mono ?_; rintro e w' ⟨rfl, rfl⟩))
  go_ret
  exact ⟨rfl, rfl⟩
theorem rd_at {w : World} {A : Option Addr} {xs : List Int} {k : Nat} (h : RdAt w A (xs.map iv)) (hk : k < xs.length) : ∃ b off, A = some ⟨b, off, none⟩ ∧ w.cell? ⟨b, off + k, none⟩ = some (.int .i64 xs[k]) := by
 rcases h with h | ⟨b, off, e, h⟩
 ·have : xs = [] := by simpa using h
  subst this
  simp at hk
 ·exact ⟨b, off, e, h k _ (by simp [hk])⟩

theorem below_drewN (n₀ : Nat) (w : World) (d : Nat) : Below n₀ w (w.drewN d) := ⟨rfl, rfl, rfl, Nat.le_refl _, fun _ _ => rfl⟩
theorem drewN_two (w : World) (a b : Nat) : (w.drewN a).drewN b = w.drewN (a + b) := by simp [World.drewN, Nat.add_assoc]
end Go.Proofs.YtjbdgjbmbohfmaaGreatDoor
