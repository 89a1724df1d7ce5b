/- Trees of few parts; a tree that came in as an argument. -/
import Derived.Test.YtinajnkjfhbmkaaGreatDoorMayMath
import Derived.Deep.Slices
import Derived.OpenShut
import Derived.Carry
namespace Go.Proofs.YtinajnkjfhbmkaaGreatDoor
open Go Go.Proofs Go.RowKit

def fewTm (x : TermD) : Prop := x.names.length ≤ 20 ∧ x.kids.length ≤ 20 ∧ x.types.length ≤ 20 ∧ x.name.size ≤ 60 ∧ ∀ s ∈ x.names, s.size ≤ 60
def fewTy (x : TypD) : Prop := x.names.length ≤ 20 ∧ x.kids.length ≤ 20 ∧ x.name.size ≤ 60 ∧ ∀ s ∈ x.names, s.size ≤ 60
instance (x : TermD) : Decidable (fewTm x) := by unfold fewTm; infer_instance
instance (x : TypD) : Decidable (fewTy x) := by unfold fewTy; infer_instance
def fewB (t : TreeD) : Bool := decide ((∀ x ∈ t.nodes, fewTm x) ∧ (∀ x ∈ t.types, fewTy x) ∧ (∀ x ∈ t.aliases, x.name.size ≤ 60) ∧ t.nodes.length ≤ 60 ∧ t.types.length ≤ 60 ∧ t.aliases.length ≤ 10)
theorem few_of {t : TreeD} (h : fewB t = true) : TreeFew t := by
  unfold fewB at h
  rw [decide_eq_true_eq] at h
  obtain ⟨h1, h2, h3, h4, h5, h6⟩ := h
  refine ⟨fun x hx => ?_, fun x hx => ?_, fun x hx => by have := h3 x hx; omega, by omega, by omega, by omega⟩
  · obtain ⟨a, b, c, d, e⟩ := h1 x hx
    exact ⟨by omega, by omega, fun s hs => by have := e s hs; omega, by omega, by omega⟩
  · obtain ⟨a, b, d, e⟩ := h2 x hx
    exact ⟨by omega, by omega, fun s hs => by have := e s hs; omega, by omega⟩

set_option maxRecDepth 100000 in
set_option maxHeartbeats 8000000 in
theorem few_any (t : TreeD) (p : Ptr6) (w : World) (hT : TreeAt (Lt w.heap.size) w t p) (b1 : t.nodes.length ≤ 9223372036854775807) (b2 : t.types.length ≤ 9223372036854775807) (b3 : t.aliases.length ≤ 9223372036854775807) :
    Calls Tryz.prog 6 #[treeV t p] w fun e w' => e = .returned (.bool (fewB t)) ∧ Below w.heap.size w w' := by
  obtain ⟨a1, c1, a2, c2, a3, c3⟩ := p
  obtain ⟨tN, tT, tA⟩ := hT
  dsimp only at tN tT tA
  obtain ⟨W1, hW1⟩ : ∃ W1, w.alloc (.cells #[.slice a1 t.nodes.length c1, .slice a2 t.types.length c2, .slice a3 t.aliases.length c3] 26) = W1 := ⟨_, rfl⟩
  have hB1 : Below w.heap.size w W1 := by rw [← hW1]; exact (Below.refl _ _).alloc (Nat.le_refl _) _
  have hX : Blk W1 w.heap.size 26 #[.slice a1 t.nodes.length c1, .slice a2 t.types.length c2, .slice a3 t.aliases.length c3] := by rw [← hW1]; exact Blk.new w 26 _
  have x0 := hX.cell 0
  have x1 := hX.cell 1
  have x2 := hX.cell 2
  simp only [List.getElem?_toArray, List.getElem?_cons_zero, List.getElem?_cons_succ] at x0 x1 x2
  have hzX := hX.lt
  obtain ⟨R, hR⟩ : ∃ R, fewB t = R := ⟨_, rfl⟩
  rw [hR]
  have HR := Lib.hid hR
  have HX := Lib.hid hX
  clear hR hX
  go_enter Tryz.func6, Tryz.ntmps6
  go_wp2
  clear hW1
  go_loopw [4, 6, 16, 45] (fun _ _ i _ wr => ∃ k : Nat, k ≤ t.nodes.length ∧ i = .int .i64 k ∧ Hid (∀ x ∈ t.nodes.take k, fewTm x) ∧ Below W1.heap.size W1 wr) (fun _ _ i _ _ => t.nodes.length - (intOf i).toNat)
  case atStart => exact ⟨0, Nat.zero_le _, rfl, Lib.hid (by simp), Below.refl _ _⟩
  case round =>
    obtain ⟨k, hk, rfl, HF, hB⟩ := hrel
    have hzr := hB.size
    have hBw : Below w.heap.size w wr := hB1.trans (hB.mono (by omega))
    by_cases hlt : k < t.nodes.length
    · obtain ⟨b, off, rfl, hb, hcell⟩ := tN (by omega)
      obtain ⟨q, hq, hcq⟩ := hcell k t.nodes[k] (List.getElem?_eq_getElem hlt)
      have htk : t.nodes.take (k + 1) = t.nodes.take k ++ [t.nodes[k]] := List.take_succ_eq_append_getElem hlt
      have hno : ¬ fewTm t.nodes[k] → R = false := fun h => by
        rw [← HR.out]; unfold fewB; rw [decide_eq_false_iff_not]; exact fun h2 => h (h2.1 _ (List.getElem_mem hlt))
      obtain ⟨x, hx⟩ : ∃ x, t.nodes[k] = x := ⟨_, rfl⟩
      rw [hx] at hq hcq htk hno
      clear hx hcell
      have e0 := (hBw.cell (p := ⟨b, off + k * 8, none⟩) hb).trans (hcq 0 _ rfl)
      have e1 := (hBw.cell (p := ⟨b, off + k * 8 + 1, none⟩) hb).trans (hcq 1 _ rfl)
      have e2 := (hBw.cell (p := ⟨b, off + k * 8 + 2, none⟩) hb).trans (hcq 2 _ rfl)
      have e3 := (hBw.cell (p := ⟨b, off + k * 8 + 3, none⟩) hb).trans (hcq 3 _ rfl)
      have e4 := (hBw.cell (p := ⟨b, off + k * 8 + 4, none⟩) hb).trans (hcq 4 _ rfl)
      have e5 := (hBw.cell (p := ⟨b, off + k * 8 + 5, none⟩) hb).trans (hcq 5 _ rfl)
      have e6 := (hBw.cell (p := ⟨b, off + k * 8 + 6, none⟩) hb).trans (hcq 6 _ rfl)
      have e7 := (hBw.cell (p := ⟨b, off + k * 8 + 7, none⟩) hb).trans (hcq 7 _ rfl)
      clear hcq
      obtain ⟨Wn, hWn⟩ : ∃ Wn, wr.alloc (.cells #[.int .i64 x.kind, .int .i64 x.pos, .string x.name, .int .i64 x.int, .int .u64 (x.bits : Int), .slice q.a5 x.names.length q.c5, .slice q.a6 x.kids.length q.c6, .slice q.a7 x.types.length q.c7] 45) = Wn := ⟨_, rfl⟩
      have hBn : Below wr.heap.size wr Wn := by rw [← hWn]; exact (Below.refl _ _).alloc (Nat.le_refl _) _
      have hXn : Blk Wn wr.heap.size 45 (termCells x q).toArray := by rw [← hWn]; exact Blk.new wr 45 _
      have p2 := hXn.cell 2
      have p5 := hXn.cell 5
      have p6 := hXn.cell 6
      have p7 := hXn.cell 7
      unfold termCells at p2 p5 p6 p7
      simp only [List.getElem?_toArray, List.getElem?_cons_zero, List.getElem?_cons_succ] at p2 p5 p6 p7
      have hBf : Below W1.heap.size W1 Wn := hB.trans (hBn.mono (by omega))
      have hBnw : Below w.heap.size w Wn := hBw.trans (hBn.mono (by omega))
      have HTK := Lib.hid htk
      have HN := Lib.hid hno
      have hqn := hq.1.keep (keep_below hBnw)
      clear htk hno hXn hq
      by_cases hC : x.names.length ≤ 20 ∧ x.kids.length ≤ 20 ∧ x.types.length ≤ 20 ∧ x.name.size ≤ 60
      · obtain ⟨h1, h2, h3, h4⟩ := hC
        have d1 : decide ((20 : Int) < x.names.length) = false := by simp; omega
        have d2 : decide ((20 : Int) < x.kids.length) = false := by simp; omega
        have d3 : decide ((20 : Int) < x.types.length) = false := by simp; omega
        have d4 : decide ((60 : Int) < x.name.size) = false := by simp; omega
        go_wp2
        go_loop [6, 45] (fun _ i => ∃ j : Nat, j ≤ x.names.length ∧ i = .int .i64 j ∧ Hid (∀ s ∈ x.names.take j, s.size ≤ 60)) (fun _ i => x.names.length - (intOf i).toNat)
        case atStart => exact ⟨0, Nat.zero_le _, rfl, Lib.hid (by simp)⟩
        case round =>
          obtain ⟨j, hj, rfl, HJ⟩ := hrel
          by_cases hjl : j < x.names.length
          · obtain ⟨b', off', hA', hb', hcell'⟩ := hqn.at_ hjl
            have hq' := hcell' j (.string x.names[j]) (by simp [hjl])
            have hjk : x.names.take (j + 1) = x.names.take j ++ [x.names[j]] := List.take_succ_eq_append_getElem hjl
            have hbad : ¬ x.names[j].size ≤ 60 → R = false := fun h => HN.out (fun h2 => h (h2.2.2.2.2 _ (List.getElem_mem hjl)))
            obtain ⟨s, hs⟩ : ∃ s, x.names[j] = s := ⟨_, rfl⟩
            rw [hs] at hq' hjk hbad
            have HJK := Lib.hid hjk
            have HBAD := Lib.hid hbad
            clear hs hcell' hjk hbad
            by_cases h60 : s.size ≤ 60
            · have d5 : decide ((60 : Int) < s.size) = false := by simp; omega
              go_wp2
              go_round
              case rel => exact ⟨j + 1, by omega, by go_num, Lib.hid fun y hy => by
                rw [HJK.out] at hy
                rcases List.mem_append.1 hy with hy | hy
                · exact HJ.out y hy
                · simp only [List.mem_singleton] at hy; subst hy; exact h60⟩
              case measure => simp [intOf]; omega
            · have HF2 := Lib.hid (HBAD.out h60)
              have d5 : decide ((60 : Int) < s.size) = true := by simp; omega
              go_wp2
              go_ret
              exact ⟨ret_bool HF2.out.symm, hBnw⟩
          · obtain rfl : j = x.names.length := by omega
            have HG : Hid (fewTm x) := Lib.hid ⟨h1, h2, h3, h4, fun s hs => HJ.out s (by rw [List.take_length]; exact hs)⟩
            clear HJ
            go_wp2
            go_roundw
            case rel => exact ⟨k + 1, by omega, by go_num, Lib.hid fun y hy => by
              rw [HTK.out] at hy
              rcases List.mem_append.1 hy with hy | hy
              · exact HF.out y hy
              · simp only [List.mem_singleton] at hy; subst hy; exact HG.out, hBf⟩
            case measure => simp [intOf]; omega
      · have HF2 := Lib.hid (HN.out (fun h => hC ⟨h.1, h.2.1, h.2.2.1, h.2.2.2.1⟩))
        go_wp2
        all_goals go_ret
        all_goals exact ⟨ret_bool HF2.out.symm, hBnw⟩
    · obtain rfl : k = t.nodes.length := by omega
      have HF1 : Hid (∀ x ∈ t.nodes, fewTm x) := Lib.hid fun x hx => HF.out x (by rw [List.take_length]; exact hx)
      have hX2 := HX.out.below hB hzX
      have y0 := hX2.cell 0
      have y1 := hX2.cell 1
      have y2 := hX2.cell 2
      simp only [List.getElem?_toArray, List.getElem?_cons_zero, List.getElem?_cons_succ] at y0 y1 y2
      have HX2 := Lib.hid hX2
      have hzX2 := hX2.lt
      clear hX2 HF x0 x1 x2 hB
      obtain ⟨W2, rfl⟩ : ∃ W2, W2 = wr := ⟨wr, rfl⟩
      go_wp2
      go_loopw [8, 10, 57, 80] (fun _ _ i _ wr => ∃ k : Nat, k ≤ t.types.length ∧ i = .int .i64 k ∧ Hid (∀ x ∈ t.types.take k, fewTy x) ∧ Below W2.heap.size W2 wr) (fun _ _ i _ _ => t.types.length - (intOf i).toNat)
      case atStart => exact ⟨0, Nat.zero_le _, rfl, Lib.hid (by simp), Below.refl _ _⟩
      case round =>
        obtain ⟨k, hk, rfl, HF, hB⟩ := hrel
        have hzr2 := hB.size
        have hBw2 : Below w.heap.size w wr := hBw.trans (hB.mono (by omega))
        by_cases hlt : k < t.types.length
        · obtain ⟨b, off, rfl, hb, hcell⟩ := tT (by omega)
          obtain ⟨q, hq, hcq⟩ := hcell k t.types[k] (List.getElem?_eq_getElem hlt)
          have htk : t.types.take (k + 1) = t.types.take k ++ [t.types[k]] := List.take_succ_eq_append_getElem hlt
          have hno : ¬ fewTy t.types[k] → R = false := fun h => by
            rw [← HR.out]; unfold fewB; rw [decide_eq_false_iff_not]; exact fun h2 => h (h2.2.1 _ (List.getElem_mem hlt))
          obtain ⟨x, hx⟩ : ∃ x, t.types[k] = x := ⟨_, rfl⟩
          rw [hx] at hq hcq htk hno
          clear hx hcell
          have e0 := (hBw2.cell (p := ⟨b, off + k * 6, none⟩) hb).trans (hcq 0 _ rfl)
          have e1 := (hBw2.cell (p := ⟨b, off + k * 6 + 1, none⟩) hb).trans (hcq 1 _ rfl)
          have e2 := (hBw2.cell (p := ⟨b, off + k * 6 + 2, none⟩) hb).trans (hcq 2 _ rfl)
          have e3 := (hBw2.cell (p := ⟨b, off + k * 6 + 3, none⟩) hb).trans (hcq 3 _ rfl)
          have e4 := (hBw2.cell (p := ⟨b, off + k * 6 + 4, none⟩) hb).trans (hcq 4 _ rfl)
          have e5 := (hBw2.cell (p := ⟨b, off + k * 6 + 5, none⟩) hb).trans (hcq 5 _ rfl)
          clear hcq
          obtain ⟨Wn, hWn⟩ : ∃ Wn, wr.alloc (.cells #[.int .i64 x.kind, .int .i64 x.pos, .string x.name, .slice q.a3 x.names.length q.c3, .slice q.a4 x.kids.length q.c4, .bool x.opn] 47) = Wn := ⟨_, rfl⟩
          have hBn : Below wr.heap.size wr Wn := by rw [← hWn]; exact (Below.refl _ _).alloc (Nat.le_refl _) _
          have hXn : Blk Wn wr.heap.size 47 (typCells x q).toArray := by rw [← hWn]; exact Blk.new wr 47 _
          have p2 := hXn.cell 2
          have p3 := hXn.cell 3
          have p4 := hXn.cell 4
          unfold typCells at p2 p3 p4
          simp only [List.getElem?_toArray, List.getElem?_cons_zero, List.getElem?_cons_succ] at p2 p3 p4
          have hBf : Below W2.heap.size W2 Wn := hB.trans (hBn.mono (by omega))
          have hBnw : Below w.heap.size w Wn := hBw2.trans (hBn.mono (by omega))
          have HTK := Lib.hid htk
          have HN := Lib.hid hno
          have hqn := hq.1.keep (keep_below hBnw)
          clear htk hno hXn hq
          by_cases hC : x.names.length ≤ 20 ∧ x.kids.length ≤ 20 ∧ x.name.size ≤ 60
          · obtain ⟨h1, h2, h4⟩ := hC
            have d1 : decide ((20 : Int) < x.names.length) = false := by simp; omega
            have d2 : decide ((20 : Int) < x.kids.length) = false := by simp; omega
            have d4 : decide ((60 : Int) < x.name.size) = false := by simp; omega
            go_wp2
            go_loop [10, 80] (fun _ i => ∃ j : Nat, j ≤ x.names.length ∧ i = .int .i64 j ∧ Hid (∀ s ∈ x.names.take j, s.size ≤ 60)) (fun _ i => x.names.length - (intOf i).toNat)
            case atStart => exact ⟨0, Nat.zero_le _, rfl, Lib.hid (by simp)⟩
            case round =>
              obtain ⟨j, hj, rfl, HJ⟩ := hrel
              by_cases hjl : j < x.names.length
              · obtain ⟨b', off', hA', hb', hcell'⟩ := hqn.at_ hjl
                have hq' := hcell' j (.string x.names[j]) (by simp [hjl])
                have hjk : x.names.take (j + 1) = x.names.take j ++ [x.names[j]] := List.take_succ_eq_append_getElem hjl
                have hbad : ¬ x.names[j].size ≤ 60 → R = false := fun h => HN.out (fun h2 => h (h2.2.2.2 _ (List.getElem_mem hjl)))
                obtain ⟨s, hs⟩ : ∃ s, x.names[j] = s := ⟨_, rfl⟩
                rw [hs] at hq' hjk hbad
                have HJK := Lib.hid hjk
                have HBAD := Lib.hid hbad
                clear hs hcell' hjk hbad
                by_cases h60 : s.size ≤ 60
                · have d5 : decide ((60 : Int) < s.size) = false := by simp; omega
                  go_wp2
                  go_round
                  case rel => exact ⟨j + 1, by omega, by go_num, Lib.hid fun y hy => by
                    rw [HJK.out] at hy
                    rcases List.mem_append.1 hy with hy | hy
                    · exact HJ.out y hy
                    · simp only [List.mem_singleton] at hy; subst hy; exact h60⟩
                  case measure => simp [intOf]; omega
                · have HF2 := Lib.hid (HBAD.out h60)
                  have d5 : decide ((60 : Int) < s.size) = true := by simp; omega
                  go_wp2
                  go_ret
                  exact ⟨ret_bool HF2.out.symm, hBnw⟩
              · obtain rfl : j = x.names.length := by omega
                have HG : Hid (fewTy x) := Lib.hid ⟨h1, h2, h4, fun s hs => HJ.out s (by rw [List.take_length]; exact hs)⟩
                clear HJ
                go_wp2
                go_roundw
                case rel => exact ⟨k + 1, by omega, by go_num, Lib.hid fun y hy => by
                  rw [HTK.out] at hy
                  rcases List.mem_append.1 hy with hy | hy
                  · exact HF.out y hy
                  · simp only [List.mem_singleton] at hy; subst hy; exact HG.out, hBf⟩
                case measure => simp [intOf]; omega
          · have HF2 := Lib.hid (HN.out (fun h => hC ⟨h.1, h.2.1, h.2.2.1⟩))
            go_wp2
            all_goals go_ret
            all_goals exact ⟨ret_bool HF2.out.symm, hBnw⟩
        · obtain rfl : k = t.types.length := by omega
          have HFT : Hid (∀ x ∈ t.types, fewTy x) := Lib.hid fun x hx => HF.out x (by rw [List.take_length]; exact hx)
          have hX3 := HX2.out.below hB hzX2
          have z0 := hX3.cell 0
          have z1 := hX3.cell 1
          have z2 := hX3.cell 2
          simp only [List.getElem?_toArray, List.getElem?_cons_zero, List.getElem?_cons_succ] at z0 z1 z2
          have HX3 := Lib.hid hX3
          have hzX3 := hX3.lt
          clear hX3 HF y0 y1 y2 hB
          obtain ⟨W3, rfl⟩ : ∃ W3, W3 = wr := ⟨wr, rfl⟩
          go_wp2
          go_loopw [12, 92] (fun _ i wr => ∃ k : Nat, k ≤ t.aliases.length ∧ i = .int .i64 k ∧ Hid (∀ x ∈ t.aliases.take k, x.name.size ≤ 60) ∧ Below W3.heap.size W3 wr) (fun _ i _ => t.aliases.length - (intOf i).toNat)
          case atStart => exact ⟨0, Nat.zero_le _, rfl, Lib.hid (by simp), Below.refl _ _⟩
          case round =>
            obtain ⟨k, hk, rfl, HF, hB⟩ := hrel
            have hzr3 := hB.size
            have hBw3 : Below w.heap.size w wr := hBw2.trans (hB.mono (by omega))
            by_cases hlt : k < t.aliases.length
            · obtain ⟨b, off, rfl, hb, hcell⟩ := tA (by omega)
              have hcq := hcell k t.aliases[k] (List.getElem?_eq_getElem hlt)
              have htk : t.aliases.take (k + 1) = t.aliases.take k ++ [t.aliases[k]] := List.take_succ_eq_append_getElem hlt
              have hno : ¬ t.aliases[k].name.size ≤ 60 → R = false := fun h => by
                rw [← HR.out]; unfold fewB; rw [decide_eq_false_iff_not]; exact fun h2 => h (h2.2.2.1 _ (List.getElem_mem hlt))
              obtain ⟨x, hx⟩ : ∃ x, t.aliases[k] = x := ⟨_, rfl⟩
              rw [hx] at hcq htk hno
              clear hx hcell
              have e0 := (hBw3.cell (p := ⟨b, off + k * 3, none⟩) hb).trans (hcq 0 _ rfl)
              have e1 := (hBw3.cell (p := ⟨b, off + k * 3 + 1, none⟩) hb).trans (hcq 1 _ rfl)
              have e2 := (hBw3.cell (p := ⟨b, off + k * 3 + 2, none⟩) hb).trans (hcq 2 _ rfl)
              clear hcq
              have HTK := Lib.hid htk
              have HN := Lib.hid hno
              clear htk hno
              by_cases h60 : x.name.size ≤ 60
              · have d5 : decide ((60 : Int) < x.name.size) = false := by simp; omega
                go_wp2
                go_roundw
                case rel => exact ⟨k + 1, by omega, by go_num, Lib.hid (fun y hy => by
                  rw [HTK.out] at hy
                  rcases List.mem_append.1 hy with hy | hy
                  · exact HF.out y hy
                  · simp only [List.mem_singleton] at hy; subst hy; exact h60), hB.alloc hzr3 _⟩
                case measure => simp [intOf]; omega
              · have HF2 := Lib.hid (HN.out h60)
                have d5 : decide ((60 : Int) < x.name.size) = true := by simp; omega
                go_wp2
                go_ret
                exact ⟨ret_bool HF2.out.symm, hBw3.alloc (by omega) _⟩
            · obtain rfl : k = t.aliases.length := by omega
              have HFA : Hid (∀ x ∈ t.aliases, x.name.size ≤ 60) := Lib.hid fun x hx => HF.out x (by rw [List.take_length]; exact hx)
              have hX4 := HX3.out.below hB hzX3
              have u0 := hX4.cell 0
              have u1 := hX4.cell 1
              have u2 := hX4.cell 2
              simp only [List.getElem?_toArray, List.getElem?_cons_zero, List.getElem?_cons_succ] at u0 u1 u2
              have hfin : R = decide (t.nodes.length ≤ 60 ∧ t.types.length ≤ 60 ∧ t.aliases.length ≤ 10) := by
                rw [← HR.out]; unfold fewB
                rw [decide_eq_decide]
                exact ⟨fun h => h.2.2.2, fun h => ⟨HF1.out, HFT.out, HFA.out, h⟩⟩
              have HFIN := Lib.hid hfin
              clear hX4 HF z0 z1 z2 hfin
              go_wp2
              all_goals go_ret
              all_goals exact ⟨ret_bool (by rw [HFIN.out, Bool.eq_iff_iff]; simp; omega), hBw3⟩

end Go.Proofs.YtinajnkjfhbmkaaGreatDoor

namespace Go.Proofs.YtinajnkjfhbmkaaGreatDoor
open Go Go.Proofs Go.RowKit Go.Deep

theorem cells3 : Tryz.prog.cellsOf 3 = 1 := by kernel_rfl
theorem cells2 : Tryz.prog.cellsOf 2 = 1 := by kernel_rfl
theorem cells4 : Tryz.prog.cellsOf 4 = 1 := by kernel_rfl
theorem cells9 : Tryz.prog.cellsOf 9 = 1 := by kernel_rfl
theorem cells30 : Tryz.prog.cellsOf 42 = 1 := by kernel_rfl
theorem cells31 : Tryz.prog.cellsOf 43 = 1 := by kernel_rfl
theorem cells29 : Tryz.prog.cellsOf 32 = 1 := by kernel_rfl
theorem cells22 : Tryz.prog.cellsOf 22 = 1 := by kernel_rfl
theorem cells23 : Tryz.prog.cellsOf 23 = 1 := by kernel_rfl
theorem cells24 : Tryz.prog.cellsOf 24 = 1 := by kernel_rfl
theorem cells33 : Tryz.prog.cellsOf 45 = 8 := by kernel_rfl
theorem cells47 : Tryz.prog.cellsOf 47 = 6 := by kernel_rfl
theorem cells52 : Tryz.prog.cellsOf 55 = 3 := by kernel_rfl
theorem cells26 : Tryz.prog.cellsOf 26 = 3 := by kernel_rfl

theorem len_cons {α : Type} {l : List α} {n : Nat} (h : l.length = n + 1) : ∃ a l', l = a :: l' ∧ l'.length = n := by
  cases l with
  | nil => simp at h
  | cons a l => exact ⟨a, l, rfl, by simpa using h⟩

section
variable {H : Type} {enc : TypeId × Value → H} {W : World} {base : Nat} {spare : Nat → Bool} {held : Bool}

theorem spot_of_cell {w : World} {a : Addr} {v : Value} (h : w.cell? a = some v) : a = ⟨a.block, a.off, none⟩ := by
  obtain ⟨b, o, s⟩ := a
  cases s with
  | none => rfl
  | some s =>
    exfalso
    unfold World.cell? at h
    split at h
    · simp at h
    · cases h

/-- A slice of elements of one cell, each of one kind. -/
theorem open_row1 {α : Type} {t e : TypeId} (f : α → Value) (ht : Tryz.prog.underlying t = some (.slice e)) (hc : Tryz.prog.cellsOf e = 1) (hf : ∀ n v x, DataW.trod enc Tryz.prog W base spare held n e [v] = some x → ∃ a, v = f a)
    {fuel : Nat} {c : Value} {x : DataW H × List MemPlace} (h : DataW.trod enc Tryz.prog W base spare held fuel t [c] = some x) :
    ∃ A cap, ∃ l : List α, c = .slice A l.length cap ∧ l.length ≤ maxLen ∧ SlAt (Lt W.heap.size) W A l.length (l.map f) := by
  rcases open_slice1 ht hc h with ⟨h0, _⟩ | ⟨a, len, cap, m, n, V, D, Pl, h0, hb, hl, hm, hmm, _, hx⟩
  · injection h0 with h0 _
    subst h0
    exact ⟨none, 0, [], rfl, by simp, SlAt.nil⟩
  · injection h0 with h0 _
    subst h0
    have hle : len ≤ m := by rw [hmm]; split <;> omega
    have key : ∀ k, k ≤ len → ∃ l : List α, l.length = k ∧ ∀ j u, (l.map f)[j]? = some u → W.cell? (a.add j) = some u := by
      intro k
      induction k with
      | zero => exact fun _ => ⟨[], rfl, fun j u hu => by simp at hu⟩
      | succ k ih =>
        intro hk
        obtain ⟨l, hll, hlc⟩ := ih (by omega)
        obtain ⟨h1, h2⟩ := hx k (by omega)
        obtain ⟨y, hy⟩ := hf _ _ _ h2
        refine ⟨l ++ [y], by simp [hll], fun j u hu => ?_⟩
        rw [List.map_append] at hu
        by_cases hj : j < l.length
        · rw [List.getElem?_append_left (by simpa using hj)] at hu
          exact hlc j u hu
        · rw [List.getElem?_append_right (by simp; omega)] at hu
          simp only [List.length_map, List.map_cons, List.map_nil] at hu
          have hj0 : j = k := by
            have := (List.getElem?_eq_some_iff.1 hu).1
            simp at this
            omega
          subst hj0
          rw [hll, Nat.sub_self] at hu
          simp only [List.getElem?_cons_zero, Option.some.injEq] at hu
          rw [h1, hy, hu]
    obtain ⟨l, hll, hlc⟩ := key len (Nat.le_refl _)
    subst hll
    refine ⟨some a, cap, l, rfl, by omega, by simp, fun hn => ?_⟩
    have h0 := hlc 0 (f l[0]) (by simp [hn])
    have hsp := spot_of_cell (hx 0 (by omega)).1
    have e0 : a.add 0 = a := rfl
    rw [e0] at h0 hsp
    obtain ⟨b, off, s⟩ := a
    simp only [Addr.mk.injEq, true_and] at hsp
    subst hsp
    refine ⟨b, off, rfl, block_lt_of_cell h0, fun j u hu => ?_⟩
    have := hlc j u hu
    unfold Addr.add at this
    split at this
    · rename_i hj; subst hj; exact this
    · exact this

theorem open_ints29 {fuel : Nat} {c : Value} {x : DataW H × List MemPlace} (h : DataW.trod enc Tryz.prog W base spare held fuel 32 [c] = some x) :
    ∃ A cap, ∃ l : List Int, c = .slice A l.length cap ∧ l.length ≤ maxLen ∧ SlAt (Lt W.heap.size) W A l.length (l.map iv) :=
  open_row1 iv Tryz.underlying32 cells3 (fun n v x hx => by
    obtain ⟨k, hk, _⟩ := DataW.trod_int Tryz.underlying3 hx
    injection hk with hk _
    exact ⟨k, hk⟩) h
theorem open_strs31 {fuel : Nat} {c : Value} {x : DataW H × List MemPlace} (h : DataW.trod enc Tryz.prog W base spare held fuel 43 [c] = some x) :
    ∃ A cap, ∃ l : List ByteArray, c = .slice A l.length cap ∧ l.length ≤ maxLen ∧ SlAt (Lt W.heap.size) W A l.length (l.map .string) :=
  open_row1 .string Tryz.underlying43 cells9 (fun n v x hx => by
    obtain ⟨k, hk, _⟩ := DataW.trod_string Tryz.underlying9 hx
    injection hk with hk _
    exact ⟨k, hk⟩) h

theorem fld {fs : Array Field} {xs : List (DataW H × List MemPlace)} {n : Nat} {cs : List Value} (hf : ∀ (i : Nat) (f : Field), fs[i]? = some f → DataW.trod enc Tryz.prog W base spare held n f.type ((cs.drop f.offset).take (Tryz.prog.cellsOf f.type)) = xs[i]?)
    (i T o : Nat) {f : Field} (h1 : fs[i]? = some f) (h2 : f.type = T) (h3 : f.offset = o) (hc : Tryz.prog.cellsOf T = 1) {y : DataW H × List MemPlace} (hy : xs[i]? = some y) : DataW.trod enc Tryz.prog W base spare held n T ((cs.drop o).take 1) = some y := by
  have := hf i f h1
  rw [h2, h3, hc] at this
  exact this.trans hy

theorem open_term {fuel : Nat} {cs : List Value} {x : DataW H × List MemPlace} (h : DataW.trod enc Tryz.prog W base spare held fuel 45 cs = some x) : ∃ t p, TermOk (Lt W.heap.size) W t p ∧ t.int ≤ 9223372036854775807 ∧ cs = termCells t p := by
  obtain ⟨xs, n, _, _, hl, hxl, hf⟩ := DataW.trod_struct Tryz.underlying45 h
  rw [cells33] at hl
  obtain ⟨v0, cs0, rfl, hh0⟩ := len_cons hl
  obtain ⟨v1, cs1, rfl, hh1⟩ := len_cons hh0
  obtain ⟨v2, cs2, rfl, hh2⟩ := len_cons hh1
  obtain ⟨v3, cs3, rfl, hh3⟩ := len_cons hh2
  obtain ⟨v4, cs4, rfl, hh4⟩ := len_cons hh3
  obtain ⟨v5, cs5, rfl, hh5⟩ := len_cons hh4
  obtain ⟨v6, cs6, rfl, hh6⟩ := len_cons hh5
  obtain ⟨v7, cs7, rfl, hh7⟩ := len_cons hh6
  obtain rfl : cs7 = [] := List.length_eq_zero_iff.1 hh7
  have get : ∀ i, i < 8 → ∃ y, xs[i]? = some y := fun i hi => ⟨xs[i]'(by rw [hxl]; exact hi), List.getElem?_eq_getElem _⟩
  obtain ⟨y0, h0⟩ := get 0 (by omega)
  obtain ⟨y1, h1⟩ := get 1 (by omega)
  obtain ⟨y2, h2⟩ := get 2 (by omega)
  obtain ⟨y3, h3⟩ := get 3 (by omega)
  obtain ⟨y4, h4⟩ := get 4 (by omega)
  obtain ⟨y5, h5⟩ := get 5 (by omega)
  obtain ⟨y6, h6⟩ := get 6 (by omega)
  obtain ⟨y7, h7⟩ := get 7 (by omega)
  have g0 := fld hf 0 3 0 rfl rfl rfl cells3 h0
  have g1 := fld hf 1 3 1 rfl rfl rfl cells3 h1
  have g2 := fld hf 2 9 2 rfl rfl rfl cells9 h2
  have g3 := fld hf 3 2 3 rfl rfl rfl cells2 h3
  have g4 := fld hf 4 42 4 rfl rfl rfl cells30 h4
  have g5 := fld hf 5 43 5 rfl rfl rfl cells31 h5
  have g6 := fld hf 6 32 6 rfl rfl rfl cells29 h6
  have g7 := fld hf 7 32 7 rfl rfl rfl cells29 h7
  simp only [List.drop_zero, List.drop_succ_cons, List.take_succ_cons, List.take_zero] at g0 g1 g2 g3 g4 g5 g6 g7
  obtain ⟨k0, e0, _⟩ := DataW.trod_int Tryz.underlying3 g0
  obtain ⟨k1, e1, _⟩ := DataW.trod_int Tryz.underlying3 g1
  obtain ⟨k2, e2, _⟩ := DataW.trod_string Tryz.underlying9 g2
  obtain ⟨k3, e3, _, w3⟩ := DataW.trod_int Tryz.underlying2 g3
  obtain ⟨k4, e4, _, w4⟩ := DataW.trod_int Tryz.underlying42 g4
  obtain ⟨a5, c5, l5, e5, _, s5⟩ := open_strs31 g5
  obtain ⟨a6, c6, l6, e6, _, s6⟩ := open_ints29 g6
  obtain ⟨a7, c7, l7, e7, _, s7⟩ := open_ints29 g7
  have hk3 : k3 ≤ 9223372036854775807 := by
    have h := (Bool.and_eq_true _ _ ▸ w3 : _ ∧ _).2
    have h' := of_decide_eq_true h
    simpa [IntKind.max, IntKind.bits, IntKind.signed] using h'
  have hk4 : 0 ≤ k4 := by
    have h := (Bool.and_eq_true _ _ ▸ w4 : _ ∧ _).1
    have h' := of_decide_eq_true h
    simpa [IntKind.min, IntKind.signed] using h'
  obtain ⟨b4, rfl⟩ : ∃ b4 : Nat, k4 = (b4 : Int) := ⟨k4.toNat, by omega⟩
  refine ⟨⟨k0, k1, k2, k3, b4, l5, l6, l7⟩, ⟨a5, c5, a6, c6, a7, c7⟩, ⟨s5, s6, s7⟩, hk3, ?_⟩
  unfold termCells
  simp only [List.cons.injEq, and_true] at e0 e1 e2 e3 e4 ⊢
  exact ⟨e0, e1, e2, e3, e4, e5, e6, e7⟩

theorem open_typ {fuel : Nat} {cs : List Value} {x : DataW H × List MemPlace} (h : DataW.trod enc Tryz.prog W base spare held fuel 47 cs = some x) : ∃ t p, TypOk (Lt W.heap.size) W t p ∧ cs = typCells t p := by
  obtain ⟨xs, n, _, _, hl, hxl, hf⟩ := DataW.trod_struct Tryz.underlying47 h
  rw [cells47] at hl
  obtain ⟨v0, cs0, rfl, hh0⟩ := len_cons hl
  obtain ⟨v1, cs1, rfl, hh1⟩ := len_cons hh0
  obtain ⟨v2, cs2, rfl, hh2⟩ := len_cons hh1
  obtain ⟨v3, cs3, rfl, hh3⟩ := len_cons hh2
  obtain ⟨v4, cs4, rfl, hh4⟩ := len_cons hh3
  obtain ⟨v5, cs5, rfl, hh5⟩ := len_cons hh4
  obtain rfl : cs5 = [] := List.length_eq_zero_iff.1 hh5
  have get : ∀ i, i < 6 → ∃ y, xs[i]? = some y := fun i hi => ⟨xs[i]'(by rw [hxl]; exact hi), List.getElem?_eq_getElem _⟩
  obtain ⟨y0, h0⟩ := get 0 (by omega)
  obtain ⟨y1, h1⟩ := get 1 (by omega)
  obtain ⟨y2, h2⟩ := get 2 (by omega)
  obtain ⟨y3, h3⟩ := get 3 (by omega)
  obtain ⟨y4, h4⟩ := get 4 (by omega)
  obtain ⟨y5, h5⟩ := get 5 (by omega)
  have g0 := fld hf 0 3 0 rfl rfl rfl cells3 h0
  have g1 := fld hf 1 3 1 rfl rfl rfl cells3 h1
  have g2 := fld hf 2 9 2 rfl rfl rfl cells9 h2
  have g3 := fld hf 3 43 3 rfl rfl rfl cells31 h3
  have g4 := fld hf 4 32 4 rfl rfl rfl cells29 h4
  have g5 := fld hf 5 4 5 rfl rfl rfl cells4 h5
  simp only [List.drop_zero, List.drop_succ_cons, List.take_succ_cons, List.take_zero] at g0 g1 g2 g3 g4 g5
  obtain ⟨k0, e0, _⟩ := DataW.trod_int Tryz.underlying3 g0
  obtain ⟨k1, e1, _⟩ := DataW.trod_int Tryz.underlying3 g1
  obtain ⟨k2, e2, _⟩ := DataW.trod_string Tryz.underlying9 g2
  obtain ⟨a3, c3, l3, e3, _, s3⟩ := open_strs31 g3
  obtain ⟨a4, c4, l4, e4, _, s4⟩ := open_ints29 g4
  obtain ⟨k5, e5, _⟩ := DataW.trod_bool Tryz.underlying4 g5
  refine ⟨⟨k0, k1, k2, l3, l4, k5⟩, ⟨a3, c3, a4, c4⟩, ⟨s3, s4⟩, ?_⟩
  unfold typCells
  simp only [List.cons.injEq, and_true] at e0 e1 e2 e5 ⊢
  exact ⟨e0, e1, e2, e3, e4, e5⟩

theorem open_ali {fuel : Nat} {cs : List Value} {x : DataW H × List MemPlace} (h : DataW.trod enc Tryz.prog W base spare held fuel 55 cs = some x) : ∃ t, cs = aliCells t := by
  obtain ⟨xs, n, _, _, hl, hxl, hf⟩ := DataW.trod_struct Tryz.underlying55 h
  rw [cells52] at hl
  obtain ⟨v0, cs0, rfl, hh0⟩ := len_cons hl
  obtain ⟨v1, cs1, rfl, hh1⟩ := len_cons hh0
  obtain ⟨v2, cs2, rfl, hh2⟩ := len_cons hh1
  obtain rfl : cs2 = [] := List.length_eq_zero_iff.1 hh2
  have get : ∀ i, i < 3 → ∃ y, xs[i]? = some y := fun i hi => ⟨xs[i]'(by rw [hxl]; exact hi), List.getElem?_eq_getElem _⟩
  obtain ⟨y0, h0⟩ := get 0 (by omega)
  obtain ⟨y1, h1⟩ := get 1 (by omega)
  obtain ⟨y2, h2⟩ := get 2 (by omega)
  have g0 := fld hf 0 9 0 rfl rfl rfl cells9 h0
  have g1 := fld hf 1 3 1 rfl rfl rfl cells3 h1
  have g2 := fld hf 2 3 2 rfl rfl rfl cells3 h2
  simp only [List.drop_zero, List.drop_succ_cons, List.take_succ_cons, List.take_zero] at g0 g1 g2
  obtain ⟨k0, e0, _⟩ := DataW.trod_string Tryz.underlying9 g0
  obtain ⟨k1, e1, _⟩ := DataW.trod_int Tryz.underlying3 g1
  obtain ⟨k2, e2, _⟩ := DataW.trod_int Tryz.underlying3 g2
  refine ⟨⟨k0, k1, k2⟩, ?_⟩
  unfold aliCells
  simp only [List.cons.injEq, and_true] at e0 e1 e2 ⊢
  exact ⟨e0, e1, e2⟩

/-- A slice of structs, each of one kind. -/
theorem open_rows {α : Type} {t e : TypeId} (s : Nat) (hs : 0 < s) (Q : α → List Value → Prop) (hlen : ∀ a cs, Q a cs → cs.length = s) (ht : Tryz.prog.underlying t = some (.slice e)) (hc : Tryz.prog.cellsOf e = s)
    (hf : ∀ n cs x, DataW.trod enc Tryz.prog W base spare held n e cs = some x → ∃ a, Q a cs)
    {fuel : Nat} {c : Value} {x : DataW H × List MemPlace} (h : DataW.trod enc Tryz.prog W base spare held fuel t [c] = some x) :
    ∃ A cap, ∃ l : List α, c = .slice A l.length cap ∧ l.length ≤ maxLen ∧ (0 < l.length → ∃ b off, A = some ⟨b, off, none⟩ ∧ b < W.heap.size ∧ ∀ i a, l[i]? = some a → ∃ cs, Q a cs ∧ ∀ j u, cs[j]? = some u → W.cell? ⟨b, off + i * s + j, none⟩ = some u) := by
  rcases open_slice ht h with ⟨h0, _⟩ | ⟨a, len, cap, m, n, D, Pl, h0, hb, hl, hm, hmm, _, hx⟩
  · injection h0 with h0 _
    subst h0
    exact ⟨none, 0, [], rfl, by simp, fun h => absurd h (by simp)⟩
  · injection h0 with h0 _
    subst h0
    rw [hc] at hx
    have hle : len ≤ m := by rw [hmm]; split <;> omega
    have one : ∀ k, k < len → ∃ y cs, Q y cs ∧ ∀ j u, cs[j]? = some u → W.cell? ((a.add (k * s)).add j) = some u := fun k hk => by
      obtain ⟨cs, h1, h2⟩ := hx k (by omega)
      obtain ⟨y, hy⟩ := hf _ _ _ h2
      obtain ⟨_, hcl, hcc⟩ := World.cells?_some h1
      refine ⟨y, cs, hy, fun j u hu => ?_⟩
      have hj := (List.getElem?_eq_some_iff.1 hu).1
      rw [hcc j (by omega), hu]
    have key : ∀ k, k ≤ len → ∃ l : List α, l.length = k ∧ ∀ i y, l[i]? = some y → ∃ cs, Q y cs ∧ ∀ j u, cs[j]? = some u → W.cell? ((a.add (i * s)).add j) = some u := by
      intro k
      induction k with
      | zero => exact fun _ => ⟨[], rfl, fun j u hu => by simp at hu⟩
      | succ k ih =>
        intro hk
        obtain ⟨l, hll, hlc⟩ := ih (by omega)
        obtain ⟨y, cs, hy, hcs⟩ := one k (by omega)
        refine ⟨l ++ [y], by simp [hll], fun i z hz => ?_⟩
        by_cases hj : i < l.length
        · rw [List.getElem?_append_left hj] at hz
          exact hlc i z hz
        · rw [List.getElem?_append_right (by omega)] at hz
          have hj0 : i = k := by
            have := (List.getElem?_eq_some_iff.1 hz).1
            simp at this
            omega
          subst hj0
          rw [hll, Nat.sub_self] at hz
          simp only [List.getElem?_cons_zero, Option.some.injEq] at hz
          subst hz
          exact ⟨cs, hy, hcs⟩
    obtain ⟨l, hll, hlc⟩ := key len (Nat.le_refl _)
    subst hll
    refine ⟨some a, cap, l, rfl, by omega, fun hn => ?_⟩
    obtain ⟨cs, hQ, hcs⟩ := hlc 0 l[0] (by simp [hn])
    have hcl := hlen _ _ hQ
    have h0 := hcs 0 cs[0] (by simp [hcl, hs])
    have e0 : (a.add (0 * s)).add 0 = a := by rw [Nat.zero_mul]; rfl
    rw [e0] at h0
    have hsp := spot_of_cell h0
    obtain ⟨b, off, sp⟩ := a
    simp only [Addr.mk.injEq, true_and] at hsp
    subst hsp
    refine ⟨b, off, rfl, block_lt_of_cell h0, fun i y hy => ?_⟩
    obtain ⟨cs, hQ, hcs⟩ := hlc i y hy
    refine ⟨cs, hQ, fun j u hu => ?_⟩
    have := hcs j u hu
    rw [add_add] at this
    unfold Addr.add at this
    split at this
    · rename_i hj
      rw [show off + i * s + j = off by omega]
      exact this
    · rw [show off + i * s + j = off + (i * s + j) by omega]
      exact this

set_option maxRecDepth 100000 in
/-- A TREE THAT CAME IN. -/
theorem open_tree26 {r : Reach} {b0 : Nat} {v : Value} {d : DataW H} {ps : List MemPlace} (hval : Value.okWide Tryz.prog W r b0 26 v) (h : DataW.Trod enc Tryz.prog W base spare held 26 v d ps) :
    ∃ t p, v = treeV t p ∧ TreeAt (Lt W.heap.size) W t p ∧ t.nodes.length ≤ maxLen ∧ t.types.length ≤ maxLen ∧ t.aliases.length ≤ maxLen ∧ ∀ x ∈ t.nodes, x.int ≤ 9223372036854775807 := by
  unfold Value.okWide at hval
  rw [Tryz.underlying26] at hval
  obtain ⟨cs, rfl, hsz, _⟩ := hval
  obtain ⟨fuel, h⟩ := h
  obtain ⟨xs, n, _, _, hl, hxl, hf⟩ := DataW.trod_struct Tryz.underlying26 h
  rw [cells26] at hsz
  obtain ⟨l⟩ := cs
  have hsz' : l.length = 3 := hsz
  obtain ⟨v0, cs0, rfl, hh0⟩ := len_cons hsz'
  obtain ⟨v1, cs1, rfl, hh1⟩ := len_cons hh0
  obtain ⟨v2, cs2, rfl, hh2⟩ := len_cons hh1
  obtain rfl : cs2 = [] := List.length_eq_zero_iff.1 hh2
  have hcs : ((Value.agg (Array.mk [v0, v1, v2])).cells.toList) = [v0, v1, v2] := rfl
  rw [hcs] at hf
  have get : ∀ i, i < 3 → ∃ y, xs[i]? = some y := fun i hi => ⟨xs[i]'(by rw [hxl]; exact hi), List.getElem?_eq_getElem _⟩
  obtain ⟨y0, h0⟩ := get 0 (by omega)
  obtain ⟨y1, h1⟩ := get 1 (by omega)
  obtain ⟨y2, h2⟩ := get 2 (by omega)
  have g0 := fld hf 0 22 0 rfl rfl rfl cells22 h0
  have g1 := fld hf 1 23 1 rfl rfl rfl cells23 h1
  have g2 := fld hf 2 24 2 rfl rfl rfl cells24 h2
  simp only [List.drop_zero, List.drop_succ_cons, List.take_succ_cons, List.take_zero] at g0 g1 g2
  obtain ⟨A1, c1, l1, rfl, m1, t1⟩ := open_rows 8 (by omega) (fun (t : TermD) cs => ∃ p, TermOk (Lt W.heap.size) W t p ∧ t.int ≤ 9223372036854775807 ∧ cs = termCells t p) (fun a cs h => by obtain ⟨p, _, _, rfl⟩ := h; rfl) Tryz.underlying22 cells33 (fun n cs x hx => open_term hx) g0
  obtain ⟨A2, c2, l2, rfl, m2, t2⟩ := open_rows 6 (by omega) (fun (t : TypD) cs => ∃ p, TypOk (Lt W.heap.size) W t p ∧ cs = typCells t p) (fun a cs h => by obtain ⟨p, _, rfl⟩ := h; rfl) Tryz.underlying23 cells47 (fun n cs x hx => open_typ hx) g1
  obtain ⟨A3, c3, l3, rfl, m3, t3⟩ := open_rows 3 (by omega) (fun (t : AliD) cs => cs = aliCells t) (fun a cs h => by subst h; rfl) Tryz.underlying24 cells52 (fun n cs x hx => open_ali hx) g2
  refine ⟨⟨l1, l2, l3⟩, ⟨A1, c1, A2, c2, A3, c3⟩, rfl, ⟨fun hn => ?_, fun hn => ?_, fun hn => ?_⟩, m1, m2, m3, fun x hx => by
    obtain ⟨i, hi, rfl⟩ := List.getElem_of_mem hx
    obtain ⟨b, off, e, hb, hc⟩ := t1 (by dsimp only at hi; omega)
    obtain ⟨cs, ⟨p, hp, hk, rfl⟩, _⟩ := hc i _ (List.getElem?_eq_getElem hi)
    exact hk⟩
  · obtain ⟨b, off, e, hb, hc⟩ := t1 hn
    refine ⟨b, off, e, hb, fun i t ht => ?_⟩
    obtain ⟨cs, ⟨p, hp, _, rfl⟩, hcs⟩ := hc i t ht
    exact ⟨p, hp, hcs⟩
  · obtain ⟨b, off, e, hb, hc⟩ := t2 hn
    refine ⟨b, off, e, hb, fun i t ht => ?_⟩
    obtain ⟨cs, ⟨p, hp, rfl⟩, hcs⟩ := hc i t ht
    exact ⟨p, hp, hcs⟩
  · obtain ⟨b, off, e, hb, hc⟩ := t3 hn
    refine ⟨b, off, e, hb, fun i t ht j u hu => ?_⟩
    obtain ⟨cs, rfl, hcs⟩ := hc i t ht
    exact hcs j u hu
end
end Go.Proofs.YtinajnkjfhbmkaaGreatDoor
