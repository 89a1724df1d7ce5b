/- TreeChecks returns true at every tree and every number. -/
import Derived.Test.YtinajnkjfhbmkaaGreatDoorMayMath
import Derived.Test.YtinajnkjfhbmkaaGreatDoorDepth
import Derived.Test.YtinajnkjfhbmkaaGreatDoorBuilder
import Derived.Test.YtinajnkjfhbmkaaGreatDoorRefX
import Derived.Test.YtinajnkjfhbmkaaGreatDoorSameD
import Derived.Test.YtinajnkjfhbmkaaGreatDoorWalk
namespace Go.Proofs.YtinajnkjfhbmkaaGreatDoor
open Go Go.Proofs Go.RowKit

def fewTm (x : TermD) : Prop := x.names.length ≤ 20 ∧ x.kids.length ≤ 20 ∧ x.types.length ≤ 20 ∧ x.name.size ≤ 60 ∧ ∀ s ∈ x.names, s.size ≤ 60
def fewTy (x : TypD) : Prop := x.names.length ≤ 20 ∧ x.kids.length ≤ 20 ∧ x.name.size ≤ 60 ∧ ∀ s ∈ x.names, s.size ≤ 60
instance (x : TermD) : Decidable (fewTm x) := by unfold fewTm; infer_instance
instance (x : TypD) : Decidable (fewTy x) := by unfold fewTy; infer_instance
def fewB (t : TreeD) : Bool := decide ((∀ x ∈ t.nodes, fewTm x) ∧ (∀ x ∈ t.types, fewTy x) ∧ (∀ x ∈ t.aliases, x.name.size ≤ 60) ∧ t.nodes.length ≤ 60 ∧ t.types.length ≤ 60 ∧ t.aliases.length ≤ 10)
theorem few_of {t : TreeD} (h : fewB t = true) : TreeFew t := by
  unfold fewB at h
  rw [decide_eq_true_eq] at h
  obtain ⟨h1, h2, h3, h4, h5, h6⟩ := h
  refine ⟨fun x hx => ?_, fun x hx => ?_, fun x hx => by have := h3 x hx; omega, by omega, by omega, by omega⟩
  · obtain ⟨a, b, c, d, e⟩ := h1 x hx
    exact ⟨by omega, by omega, fun s hs => by have := e s hs; omega, by omega, by omega⟩
  · obtain ⟨a, b, d, e⟩ := h2 x hx
    exact ⟨by omega, by omega, fun s hs => by have := e s hs; omega, by omega⟩

set_option maxRecDepth 100000 in
set_option maxHeartbeats 8000000 in
theorem few_any (t : TreeD) (p : Ptr6) (w : World) (hT : TreeAt (Lt w.heap.size) w t p) (b1 : t.nodes.length ≤ 9223372036854775807) (b2 : t.types.length ≤ 9223372036854775807) (b3 : t.aliases.length ≤ 9223372036854775807) :
    Calls Tryz.prog 6 #[treeV t p] w fun e w' => e = .returned (.bool (fewB t)) ∧ Below w.heap.size w w' := by
  obtain ⟨a1, c1, a2, c2, a3, c3⟩ := p
  obtain ⟨tN, tT, tA⟩ := hT
  dsimp only at tN tT tA
  obtain ⟨W1, hW1⟩ : ∃ W1, w.alloc (.cells #[.slice a1 t.nodes.length c1, .slice a2 t.types.length c2, .slice a3 t.aliases.length c3] 26) = W1 := ⟨_, rfl⟩
  have hB1 : Below w.heap.size w W1 := by rw [← hW1]; exact (Below.refl _ _).alloc (Nat.le_refl _) _
  have hX : Blk W1 w.heap.size 26 #[.slice a1 t.nodes.length c1, .slice a2 t.types.length c2, .slice a3 t.aliases.length c3] := by rw [← hW1]; exact Blk.new w 26 _
  have x0 := hX.cell 0
  have x1 := hX.cell 1
  have x2 := hX.cell 2
  simp only [List.getElem?_toArray, List.getElem?_cons_zero, List.getElem?_cons_succ] at x0 x1 x2
  have hzX := hX.lt
  obtain ⟨R, hR⟩ : ∃ R, fewB t = R := ⟨_, rfl⟩
  rw [hR]
  have HR := Lib.hid hR
  have HX := Lib.hid hX
  clear hR hX
  go_enter Tryz.func6, Tryz.ntmps6
  go_wp2
  clear hW1
  go_loopw [4, 6, 16, 45] (fun _ _ i _ wr => ∃ k : Nat, k ≤ t.nodes.length ∧ i = .int .i64 k ∧ Hid (∀ x ∈ t.nodes.take k, fewTm x) ∧ Below W1.heap.size W1 wr) (fun _ _ i _ _ => t.nodes.length - (intOf i).toNat)
  case atStart => exact ⟨0, Nat.zero_le _, rfl, Lib.hid (by simp), Below.refl _ _⟩
  case round =>
    obtain ⟨k, hk, rfl, HF, hB⟩ := hrel
    have hzr := hB.size
    have hBw : Below w.heap.size w wr := hB1.trans (hB.mono (by omega))
    by_cases hlt : k < t.nodes.length
    · obtain ⟨b, off, rfl, hb, hcell⟩ := tN (by omega)
      obtain ⟨q, hq, hcq⟩ := hcell k t.nodes[k] (List.getElem?_eq_getElem hlt)
      have htk : t.nodes.take (k + 1) = t.nodes.take k ++ [t.nodes[k]] := List.take_succ_eq_append_getElem hlt
      have hno : ¬ fewTm t.nodes[k] → R = false := fun h => by
        rw [← HR.out]; unfold fewB; rw [decide_eq_false_iff_not]; exact fun h2 => h (h2.1 _ (List.getElem_mem hlt))
      obtain ⟨x, hx⟩ : ∃ x, t.nodes[k] = x := ⟨_, rfl⟩
      rw [hx] at hq hcq htk hno
      clear hx hcell
      have e0 := (hBw.cell (p := ⟨b, off + k * 8, none⟩) hb).trans (hcq 0 _ rfl)
      have e1 := (hBw.cell (p := ⟨b, off + k * 8 + 1, none⟩) hb).trans (hcq 1 _ rfl)
      have e2 := (hBw.cell (p := ⟨b, off + k * 8 + 2, none⟩) hb).trans (hcq 2 _ rfl)
      have e3 := (hBw.cell (p := ⟨b, off + k * 8 + 3, none⟩) hb).trans (hcq 3 _ rfl)
      have e4 := (hBw.cell (p := ⟨b, off + k * 8 + 4, none⟩) hb).trans (hcq 4 _ rfl)
      have e5 := (hBw.cell (p := ⟨b, off + k * 8 + 5, none⟩) hb).trans (hcq 5 _ rfl)
      have e6 := (hBw.cell (p := ⟨b, off + k * 8 + 6, none⟩) hb).trans (hcq 6 _ rfl)
      have e7 := (hBw.cell (p := ⟨b, off + k * 8 + 7, none⟩) hb).trans (hcq 7 _ rfl)
      clear hcq
      obtain ⟨Wn, hWn⟩ : ∃ Wn, wr.alloc (.cells #[.int .i64 x.kind, .int .i64 x.pos, .string x.name, .int .i64 x.int, .int .u64 (x.bits : Int), .slice q.a5 x.names.length q.c5, .slice q.a6 x.kids.length q.c6, .slice q.a7 x.types.length q.c7] 45) = Wn := ⟨_, rfl⟩
      have hBn : Below wr.heap.size wr Wn := by rw [← hWn]; exact (Below.refl _ _).alloc (Nat.le_refl _) _
      have hXn : Blk Wn wr.heap.size 45 (termCells x q).toArray := by rw [← hWn]; exact Blk.new wr 45 _
      have p2 := hXn.cell 2
      have p5 := hXn.cell 5
      have p6 := hXn.cell 6
      have p7 := hXn.cell 7
      unfold termCells at p2 p5 p6 p7
      simp only [List.getElem?_toArray, List.getElem?_cons_zero, List.getElem?_cons_succ] at p2 p5 p6 p7
      have hBf : Below W1.heap.size W1 Wn := hB.trans (hBn.mono (by omega))
      have hBnw : Below w.heap.size w Wn := hBw.trans (hBn.mono (by omega))
      have HTK := Lib.hid htk
      have HN := Lib.hid hno
      have hqn := hq.1.keep (keep_below hBnw)
      clear htk hno hXn hq
      by_cases hC : x.names.length ≤ 20 ∧ x.kids.length ≤ 20 ∧ x.types.length ≤ 20 ∧ x.name.size ≤ 60
      · obtain ⟨h1, h2, h3, h4⟩ := hC
        have d1 : decide ((20 : Int) < x.names.length) = false := by simp; omega
        have d2 : decide ((20 : Int) < x.kids.length) = false := by simp; omega
        have d3 : decide ((20 : Int) < x.types.length) = false := by simp; omega
        have d4 : decide ((60 : Int) < x.name.size) = false := by simp; omega
        go_wp2
        go_loop [6, 45] (fun _ i => ∃ j : Nat, j ≤ x.names.length ∧ i = .int .i64 j ∧ Hid (∀ s ∈ x.names.take j, s.size ≤ 60)) (fun _ i => x.names.length - (intOf i).toNat)
        case atStart => exact ⟨0, Nat.zero_le _, rfl, Lib.hid (by simp)⟩
        case round =>
          obtain ⟨j, hj, rfl, HJ⟩ := hrel
          by_cases hjl : j < x.names.length
          · obtain ⟨b', off', hA', hb', hcell'⟩ := hqn.at_ hjl
            have hq' := hcell' j (.string x.names[j]) (by simp [hjl])
            have hjk : x.names.take (j + 1) = x.names.take j ++ [x.names[j]] := List.take_succ_eq_append_getElem hjl
            have hbad : ¬ x.names[j].size ≤ 60 → R = false := fun h => HN.out (fun h2 => h (h2.2.2.2.2 _ (List.getElem_mem hjl)))
            obtain ⟨s, hs⟩ : ∃ s, x.names[j] = s := ⟨_, rfl⟩
            rw [hs] at hq' hjk hbad
            have HJK := Lib.hid hjk
            have HBAD := Lib.hid hbad
            clear hs hcell' hjk hbad
            by_cases h60 : s.size ≤ 60
            · have d5 : decide ((60 : Int) < s.size) = false := by simp; omega
              go_wp2
              go_round
              case rel => exact ⟨j + 1, by omega, by go_num, Lib.hid fun y hy => by
                rw [HJK.out] at hy
                rcases List.mem_append.1 hy with hy | hy
                · exact HJ.out y hy
                · simp only [List.mem_singleton] at hy; subst hy; exact h60⟩
              case measure => simp [intOf]; omega
            · have HF2 := Lib.hid (HBAD.out h60)
              have d5 : decide ((60 : Int) < s.size) = true := by simp; omega
              go_wp2
              go_ret
              exact ⟨ret_bool HF2.out.symm, hBnw⟩
          · obtain rfl : j = x.names.length := by omega
            have HG : Hid (fewTm x) := Lib.hid ⟨h1, h2, h3, h4, fun s hs => HJ.out s (by rw [List.take_length]; exact hs)⟩
            clear HJ
            go_wp2
            go_roundw
            case rel => exact ⟨k + 1, by omega, by go_num, Lib.hid fun y hy => by
              rw [HTK.out] at hy
              rcases List.mem_append.1 hy with hy | hy
              · exact HF.out y hy
              · simp only [List.mem_singleton] at hy; subst hy; exact HG.out, hBf⟩
            case measure => simp [intOf]; omega
      · have HF2 := Lib.hid (HN.out (fun h => hC ⟨h.1, h.2.1, h.2.2.1, h.2.2.2.1⟩))
        go_wp2
        all_goals go_ret
        all_goals exact ⟨ret_bool HF2.out.symm, hBnw⟩
    · obtain rfl : k = t.nodes.length := by omega
      have HF1 : Hid (∀ x ∈ t.nodes, fewTm x) := Lib.hid fun x hx => HF.out x (by rw [List.take_length]; exact hx)
      have hX2 := HX.out.below hB hzX
      have y0 := hX2.cell 0
      have y1 := hX2.cell 1
      have y2 := hX2.cell 2
      simp only [List.getElem?_toArray, List.getElem?_cons_zero, List.getElem?_cons_succ] at y0 y1 y2
      have HX2 := Lib.hid hX2
      have hzX2 := hX2.lt
      clear hX2 HF x0 x1 x2 hB
      obtain ⟨W2, rfl⟩ : ∃ W2, W2 = wr := ⟨wr, rfl⟩
      go_wp2
      go_loopw [8, 10, 57, 80] (fun _ _ i _ wr => ∃ k : Nat, k ≤ t.types.length ∧ i = .int .i64 k ∧ Hid (∀ x ∈ t.types.take k, fewTy x) ∧ Below W2.heap.size W2 wr) (fun _ _ i _ _ => t.types.length - (intOf i).toNat)
      case atStart => exact ⟨0, Nat.zero_le _, rfl, Lib.hid (by simp), Below.refl _ _⟩
      case round =>
        obtain ⟨k, hk, rfl, HF, hB⟩ := hrel
        have hzr2 := hB.size
        have hBw2 : Below w.heap.size w wr := hBw.trans (hB.mono (by omega))
        by_cases hlt : k < t.types.length
        · obtain ⟨b, off, rfl, hb, hcell⟩ := tT (by omega)
          obtain ⟨q, hq, hcq⟩ := hcell k t.types[k] (List.getElem?_eq_getElem hlt)
          have htk : t.types.take (k + 1) = t.types.take k ++ [t.types[k]] := List.take_succ_eq_append_getElem hlt
          have hno : ¬ fewTy t.types[k] → R = false := fun h => by
            rw [← HR.out]; unfold fewB; rw [decide_eq_false_iff_not]; exact fun h2 => h (h2.2.1 _ (List.getElem_mem hlt))
          obtain ⟨x, hx⟩ : ∃ x, t.types[k] = x := ⟨_, rfl⟩
          rw [hx] at hq hcq htk hno
          clear hx hcell
          have e0 := (hBw2.cell (p := ⟨b, off + k * 6, none⟩) hb).trans (hcq 0 _ rfl)
          have e1 := (hBw2.cell (p := ⟨b, off + k * 6 + 1, none⟩) hb).trans (hcq 1 _ rfl)
          have e2 := (hBw2.cell (p := ⟨b, off + k * 6 + 2, none⟩) hb).trans (hcq 2 _ rfl)
          have e3 := (hBw2.cell (p := ⟨b, off + k * 6 + 3, none⟩) hb).trans (hcq 3 _ rfl)
          have e4 := (hBw2.cell (p := ⟨b, off + k * 6 + 4, none⟩) hb).trans (hcq 4 _ rfl)
          have e5 := (hBw2.cell (p := ⟨b, off + k * 6 + 5, none⟩) hb).trans (hcq 5 _ rfl)
          clear hcq
          obtain ⟨Wn, hWn⟩ : ∃ Wn, wr.alloc (.cells #[.int .i64 x.kind, .int .i64 x.pos, .string x.name, .slice q.a3 x.names.length q.c3, .slice q.a4 x.kids.length q.c4, .bool x.opn] 47) = Wn := ⟨_, rfl⟩
          have hBn : Below wr.heap.size wr Wn := by rw [← hWn]; exact (Below.refl _ _).alloc (Nat.le_refl _) _
          have hXn : Blk Wn wr.heap.size 47 (typCells x q).toArray := by rw [← hWn]; exact Blk.new wr 47 _
          have p2 := hXn.cell 2
          have p3 := hXn.cell 3
          have p4 := hXn.cell 4
          unfold typCells at p2 p3 p4
          simp only [List.getElem?_toArray, List.getElem?_cons_zero, List.getElem?_cons_succ] at p2 p3 p4
          have hBf : Below W2.heap.size W2 Wn := hB.trans (hBn.mono (by omega))
          have hBnw : Below w.heap.size w Wn := hBw2.trans (hBn.mono (by omega))
          have HTK := Lib.hid htk
          have HN := Lib.hid hno
          have hqn := hq.1.keep (keep_below hBnw)
          clear htk hno hXn hq
          by_cases hC : x.names.length ≤ 20 ∧ x.kids.length ≤ 20 ∧ x.name.size ≤ 60
          · obtain ⟨h1, h2, h4⟩ := hC
            have d1 : decide ((20 : Int) < x.names.length) = false := by simp; omega
            have d2 : decide ((20 : Int) < x.kids.length) = false := by simp; omega
            have d4 : decide ((60 : Int) < x.name.size) = false := by simp; omega
            go_wp2
            go_loop [10, 80] (fun _ i => ∃ j : Nat, j ≤ x.names.length ∧ i = .int .i64 j ∧ Hid (∀ s ∈ x.names.take j, s.size ≤ 60)) (fun _ i => x.names.length - (intOf i).toNat)
            case atStart => exact ⟨0, Nat.zero_le _, rfl, Lib.hid (by simp)⟩
            case round =>
              obtain ⟨j, hj, rfl, HJ⟩ := hrel
              by_cases hjl : j < x.names.length
              · obtain ⟨b', off', hA', hb', hcell'⟩ := hqn.at_ hjl
                have hq' := hcell' j (.string x.names[j]) (by simp [hjl])
                have hjk : x.names.take (j + 1) = x.names.take j ++ [x.names[j]] := List.take_succ_eq_append_getElem hjl
                have hbad : ¬ x.names[j].size ≤ 60 → R = false := fun h => HN.out (fun h2 => h (h2.2.2.2 _ (List.getElem_mem hjl)))
                obtain ⟨s, hs⟩ : ∃ s, x.names[j] = s := ⟨_, rfl⟩
                rw [hs] at hq' hjk hbad
                have HJK := Lib.hid hjk
                have HBAD := Lib.hid hbad
                clear hs hcell' hjk hbad
                by_cases h60 : s.size ≤ 60
                · have d5 : decide ((60 : Int) < s.size) = false := by simp; omega
                  go_wp2
                  go_round
                  case rel => exact ⟨j + 1, by omega, by go_num, Lib.hid fun y hy => by
                    rw [HJK.out] at hy
                    rcases List.mem_append.1 hy with hy | hy
                    · exact HJ.out y hy
                    · simp only [List.mem_singleton] at hy; subst hy; exact h60⟩
                  case measure => simp [intOf]; omega
                · have HF2 := Lib.hid (HBAD.out h60)
                  have d5 : decide ((60 : Int) < s.size) = true := by simp; omega
                  go_wp2
                  go_ret
                  exact ⟨ret_bool HF2.out.symm, hBnw⟩
              · obtain rfl : j = x.names.length := by omega
                have HG : Hid (fewTy x) := Lib.hid ⟨h1, h2, h4, fun s hs => HJ.out s (by rw [List.take_length]; exact hs)⟩
                clear HJ
                go_wp2
                go_roundw
                case rel => exact ⟨k + 1, by omega, by go_num, Lib.hid fun y hy => by
                  rw [HTK.out] at hy
                  rcases List.mem_append.1 hy with hy | hy
                  · exact HF.out y hy
                  · simp only [List.mem_singleton] at hy; subst hy; exact HG.out, hBf⟩
                case measure => simp [intOf]; omega
          · have HF2 := Lib.hid (HN.out (fun h => hC ⟨h.1, h.2.1, h.2.2.1⟩))
            go_wp2
            all_goals go_ret
            all_goals exact ⟨ret_bool HF2.out.symm, hBnw⟩
        · obtain rfl : k = t.types.length := by omega
          have HFT : Hid (∀ x ∈ t.types, fewTy x) := Lib.hid fun x hx => HF.out x (by rw [List.take_length]; exact hx)
          have hX3 := HX2.out.below hB hzX2
          have z0 := hX3.cell 0
          have z1 := hX3.cell 1
          have z2 := hX3.cell 2
          simp only [List.getElem?_toArray, List.getElem?_cons_zero, List.getElem?_cons_succ] at z0 z1 z2
          have HX3 := Lib.hid hX3
          have hzX3 := hX3.lt
          clear hX3 HF y0 y1 y2 hB
          obtain ⟨W3, rfl⟩ : ∃ W3, W3 = wr := ⟨wr, rfl⟩
          go_wp2
          go_loopw [12, 92] (fun _ i wr => ∃ k : Nat, k ≤ t.aliases.length ∧ i = .int .i64 k ∧ Hid (∀ x ∈ t.aliases.take k, x.name.size ≤ 60) ∧ Below W3.heap.size W3 wr) (fun _ i _ => t.aliases.length - (intOf i).toNat)
          case atStart => exact ⟨0, Nat.zero_le _, rfl, Lib.hid (by simp), Below.refl _ _⟩
          case round =>
            obtain ⟨k, hk, rfl, HF, hB⟩ := hrel
            have hzr3 := hB.size
            have hBw3 : Below w.heap.size w wr := hBw2.trans (hB.mono (by omega))
            by_cases hlt : k < t.aliases.length
            · obtain ⟨b, off, rfl, hb, hcell⟩ := tA (by omega)
              have hcq := hcell k t.aliases[k] (List.getElem?_eq_getElem hlt)
              have htk : t.aliases.take (k + 1) = t.aliases.take k ++ [t.aliases[k]] := List.take_succ_eq_append_getElem hlt
              have hno : ¬ t.aliases[k].name.size ≤ 60 → R = false := fun h => by
                rw [← HR.out]; unfold fewB; rw [decide_eq_false_iff_not]; exact fun h2 => h (h2.2.2.1 _ (List.getElem_mem hlt))
              obtain ⟨x, hx⟩ : ∃ x, t.aliases[k] = x := ⟨_, rfl⟩
              rw [hx] at hcq htk hno
              clear hx hcell
              have e0 := (hBw3.cell (p := ⟨b, off + k * 3, none⟩) hb).trans (hcq 0 _ rfl)
              have e1 := (hBw3.cell (p := ⟨b, off + k * 3 + 1, none⟩) hb).trans (hcq 1 _ rfl)
              have e2 := (hBw3.cell (p := ⟨b, off + k * 3 + 2, none⟩) hb).trans (hcq 2 _ rfl)
              clear hcq
              have HTK := Lib.hid htk
              have HN := Lib.hid hno
              clear htk hno
              by_cases h60 : x.name.size ≤ 60
              · have d5 : decide ((60 : Int) < x.name.size) = false := by simp; omega
                go_wp2
                go_roundw
                case rel => exact ⟨k + 1, by omega, by go_num, Lib.hid (fun y hy => by
                  rw [HTK.out] at hy
                  rcases List.mem_append.1 hy with hy | hy
                  · exact HF.out y hy
                  · simp only [List.mem_singleton] at hy; subst hy; exact h60), hB.alloc hzr3 _⟩
                case measure => simp [intOf]; omega
              · have HF2 := Lib.hid (HN.out h60)
                have d5 : decide ((60 : Int) < x.name.size) = true := by simp; omega
                go_wp2
                go_ret
                exact ⟨ret_bool HF2.out.symm, hBw3.alloc (by omega) _⟩
            · obtain rfl : k = t.aliases.length := by omega
              have HFA : Hid (∀ x ∈ t.aliases, x.name.size ≤ 60) := Lib.hid fun x hx => HF.out x (by rw [List.take_length]; exact hx)
              have hX4 := HX3.out.below hB hzX3
              have u0 := hX4.cell 0
              have u1 := hX4.cell 1
              have u2 := hX4.cell 2
              simp only [List.getElem?_toArray, List.getElem?_cons_zero, List.getElem?_cons_succ] at u0 u1 u2
              have hfin : R = decide (t.nodes.length ≤ 60 ∧ t.types.length ≤ 60 ∧ t.aliases.length ≤ 10) := by
                rw [← HR.out]; unfold fewB
                rw [decide_eq_decide]
                exact ⟨fun h => h.2.2.2, fun h => ⟨HF1.out, HFT.out, HFA.out, h⟩⟩
              have HFIN := Lib.hid hfin
              clear hX4 HF z0 z1 z2 hfin
              go_wp2
              all_goals go_ret
              all_goals exact ⟨ret_bool (by rw [HFIN.out, Bool.eq_iff_iff]; simp; omega), hBw3⟩

end Go.Proofs.YtinajnkjfhbmkaaGreatDoor

namespace Go.Proofs.YtinajnkjfhbmkaaGreatDoor
open Go Go.Proofs Go.RowKit

def tm0 : TermD := ⟨0, 0, ⟨#[120]⟩, 0, 0, [], [], []⟩
def tm1 : TermD := ⟨5, 0, ⟨#[120]⟩, 0, 0, [], [0], []⟩
def tree2 : TreeD := ⟨[tm0, tm1], [], []⟩
theorem tree2_may : checkF tree2 = true := by decide +kernel
theorem tree2_depth : depthP tree2 = 2 := by decide +kernel
theorem tree2_few : TreeFew tree2 := by
  refine ⟨fun x hx => ?_, fun x hx => by simp [tree2] at hx, fun x hx => by simp [tree2] at hx, by decide, by decide, by decide⟩
  simp only [tree2, List.mem_cons, List.not_mem_nil, or_false] at hx
  rcases hx with rfl | rfl
  · exact ⟨by decide, by decide, fun s hs => by simp [tm0] at hs, by decide, by decide⟩
  · exact ⟨by decide, by decide, fun s hs => by simp [tm1] at hs, by decide, by decide⟩

set_option maxRecDepth 100000 in
set_option maxHeartbeats 4000000 in
theorem lives_any (w : World) (hE : Env w) : Calls Tryz.prog 5 #[] w fun e w' => e = .returned (.bool true) ∧ Below w.heap.size w w' := by
  have kN := new_any w
  go_enter Tryz.func5, Tryz.ntmps5
  go_wp2_with fail
  refine kN.mono ?_
  rintro e w1 ⟨rfl, hT1, hb1⟩
  clear kN
  obtain ⟨B, hB⟩ : ∃ B, w.heap.size = B := ⟨_, rfl⟩
  rw [hB] at hT1 hb1 ⊢
  have h3 : 3 ≤ B := by rw [← hB]; exact hE.2
  have HE := Lib.hid hE
  have HT1 := Lib.hid hT1
  have HBB := Lib.hid hB
  have hz1 := hT1.blk.lt
  have kA := term_any B B tm0 ⟨none, 0, none, 0, none, 0⟩ w1 hT1 (by decide) ⟨SlAt.nil, SlAt.nil, SlAt.nil⟩ (by decide) (by decide) (by decide)
  clear hE hT1 hB
  go_wp2_with fail
  refine kA.mono ?_
  rintro e w2 ⟨p0, v2, rfl, hT2, hk2⟩
  have hb2 := hk2 B (Nat.le_refl _) (by omega)
  have HT2 := Lib.hid hT2
  have hBw2 : Below B w w2 := hb1.trans hb2
  have hz2 := hb2.size
  clear kA hk2 hb2 hb1 hT2
  obtain ⟨w3, hw3⟩ : ∃ w3, w2.alloc (.cells #[.int .i64 0] 3) = w3 := ⟨_, rfl⟩
  have hb3 : Below w2.heap.size w2 w3 := by rw [← hw3]; exact (Below.refl _ _).alloc (Nat.le_refl _) _
  have hX3 : Blk w3 w2.heap.size 3 #[.int .i64 0] := by rw [← hw3]; exact Blk.new w2 3 _
  have hT3 := HT2.out.below hb3
  have kB := term_any B B tm1 ⟨none, 0, some ⟨w2.heap.size, 0, none⟩, 1, none, 0⟩ w3 hT3 (by simp) ⟨SlAt.nil, ⟨rfl, fun _ => ⟨_, _, rfl, hX3.lt, fun j u hu => by rw [hX3.cell, Nat.zero_add]; simpa [tm1] using hu⟩⟩, SlAt.nil⟩ (by decide) (by decide) (by decide)
  have hBw3 : Below B w w3 := hBw2.trans (hb3.mono (by omega))
  have hz3 := hb3.size
  clear hb3 hX3 hT3
  go_wp2_with fail
  refine kB.mono ?_
  rintro e w4 ⟨p1, v4, rfl, hT4, hk4⟩
  have hb4 := hk4 B (Nat.le_refl _) (by omega)
  have hBw4 : Below B w w4 := hBw3.trans hb4
  have hz4 := hb4.size
  have kT := tree_any B B w4 hT4 (by simp) (by simp) (by simp) (fun x hx => by
    simp only [List.nil_append, List.cons_append, List.mem_cons, List.not_mem_nil, or_false] at hx
    rcases hx with rfl | rfl <;> simp [tm0, tm1]) (fun x hx => by simp at hx)
  have kT2 : Calls Tryz.prog 20 #[.pointer (some ⟨B, 0, none⟩)] w4 (CloneTreePost w4 tree2) := kT
  obtain ⟨T, hT⟩ : ∃ T, tree2 = T := ⟨_, rfl⟩
  rw [hT] at kT2
  have HTT := Lib.hid hT
  clear kB kT hT4 hk4 hb4 hT hw3
  go_wp2_with fail
  refine kT2.mono ?_
  rintro e w5 ⟨p5, rfl, hat, hb5⟩
  obtain ⟨a1, c1, a2, c2, a3, c3⟩ := p5
  have hBw5 : Below B w w5 := hBw4.trans (hb5.mono (by omega))
  have hz5 := hb5.size
  obtain ⟨w6, hw6⟩ : ∃ w6, w5.alloc (.cells #[.slice a1 T.nodes.length c1, .slice a2 T.types.length c2, .slice a3 T.aliases.length c3] 26) = w6 := ⟨_, rfl⟩
  have hb6 : Below w5.heap.size w5 w6 := by rw [← hw6]; exact (Below.refl _ _).alloc (Nat.le_refl _) _
  have hX6 : Blk w6 w5.heap.size 26 #[.slice a1 T.nodes.length c1, .slice a2 T.types.length c2, .slice a3 T.aliases.length c3] := by rw [← hw6]; exact Blk.new w5 26 _
  have hBw6 : Below B w w6 := hBw5.trans (hb6.mono (by omega))
  have hat6 : TreeAt (Lt w6.heap.size) w6 T ⟨a1, c1, a2, c2, a3, c3⟩ := (hat.keep (fun b o hb => hb6.cell (p := ⟨b, o, none⟩) hb.2)).imp (fun b hb => Nat.lt_of_lt_of_le hb.2 hb6.size)
  have hE6 : Env w6 := HE.out.on (by rw [HBB.out]; exact hBw6)
  have kC := check_any T ⟨a1, c1, a2, c2, a3, c3⟩ w6 hE6 hat6 (HTT.out ▸ tree2_few)
  rw [← HTT.out, tree2_may] at kC
  rw [HTT.out] at kC
  have x0 := hX6.cell 0
  have x1 := hX6.cell 1
  have x2 := hX6.cell 2
  simp only [List.getElem?_toArray, List.getElem?_cons_zero, List.getElem?_cons_succ] at x0 x1 x2
  have HX6 := Lib.hid hX6
  have HAT := Lib.hid hat6
  have hlx := hX6.lt
  have hBs := hBw6.size
  clear kT2 hat hb5 hb6 hX6 hat6 hBw5 hBw4 hBw3 hBw2
  go_wp2_with fail
  refine kC.mono ?_
  rintro e w7 ⟨rfl, hb7⟩
  have hX7 := HX6.out.below hb7 hlx
  have kD := depth_any T ⟨a1, c1, a2, c2, a3, c3⟩ w7 (hE6.on hb7) ((HAT.out.keep (keep_below hb7)).imp (lt_mono hb7.size)) (HTT.out ▸ tree2_few)
  rw [← HTT.out, tree2_may, tree2_depth] at kD
  rw [HTT.out] at kD
  have y0 := hX7.cell 0
  have y1 := hX7.cell 1
  have y2 := hX7.cell 2
  simp only [List.getElem?_toArray, List.getElem?_cons_zero, List.getElem?_cons_succ] at y0 y1 y2
  have hBw7 : Below B w w7 := hBw6.trans (hb7.mono (by rw [← HBB.out]; exact hBs))
  clear kC hX7 x0 x1 x2 hb7 hw6
  go_wp2_with (go_at_call 9; refine kD.mono ?_; rintro e w8 ⟨rfl, hb8⟩)
  go_ret
  exact ⟨rfl, by rw [HBB.out]; exact hBw7.trans (hb8.mono (by have := hBw7.size; rw [HBB.out] at this; exact this))⟩
end Go.Proofs.YtinajnkjfhbmkaaGreatDoor

namespace Go.Proofs.YtinajnkjfhbmkaaGreatDoor
open Go Go.Proofs Go.RowKit

attribute [local irreducible] Blk

set_option maxRecDepth 100000 in
set_option maxHeartbeats 8000000 in
theorem checks_not (t : TreeD) (p : Ptr6) (root : Int) (w : World) (hE : Env w) (hT : TreeAt (Lt w.heap.size) w t p) (b1 : t.nodes.length ≤ 9223372036854775807) (b2 : t.types.length ≤ 9223372036854775807) (b3 : t.aliases.length ≤ 9223372036854775807) (hG : fewB t = false) :
    Calls Tryz.prog 3 #[treeV t p, .int .i64 root] w fun e w' => e = .returned (.bool true) ∧ Below w.heap.size w w' := by
  have HBB := Lib.hid (And.intro b1 (And.intro b2 b3))
  clear b1 b2 b3
  obtain ⟨a1, c1, a2, c2, a3, c3⟩ := p
  obtain ⟨W1, hW1⟩ : ∃ W1, w.alloc (.cells #[.slice a1 t.nodes.length c1, .slice a2 t.types.length c2, .slice a3 t.aliases.length c3] 26) = W1 := ⟨_, rfl⟩
  have hB1 : Below w.heap.size w W1 := by rw [← hW1]; exact (Below.refl _ _).alloc (Nat.le_refl _) _
  have hX : Blk W1 w.heap.size 26 #[.slice a1 t.nodes.length c1, .slice a2 t.types.length c2, .slice a3 t.aliases.length c3] := by rw [← hW1]; exact Blk.new w 26 _
  have hXl : w.heap.size < W1.heap.size := hX.lt
  have kL := lives_any W1 (hE.on hB1)
  have HX := Lib.hid hX
  have HE := Lib.hid hE
  have HT := Lib.hid hT
  have HG := Lib.hid hG
  clear hX hE hT hG
  go_enter Tryz.func3, Tryz.ntmps3
  go_wp2_with fail
  refine kL.mono ?_
  rintro e w2 ⟨rfl, hb2⟩
  have hB2 : Below w.heap.size w w2 := hB1.trans (hb2.mono (by omega))
  have hX2 := HX.out.below hb2 hXl
  have hs2 := hB2.size
  have y0 := hX2.cell 0
  have y1 := hX2.cell 1
  have y2 := hX2.cell 2
  simp only [List.getElem?_toArray, List.getElem?_cons_zero, List.getElem?_cons_succ] at y0 y1 y2
  have HX2 := Lib.hid hX2
  have hX2l := hX2.lt
  have kF := few_any t ⟨a1, c1, a2, c2, a3, c3⟩ w2 (tree_up HT.out hB2) (by have := HBB.out.1; omega) (by have := HBB.out.2.1; omega) (by have := HBB.out.2.2; omega)
  rw [HG.out] at kF
  clear hX2 kL hb2
  go_wp2_with fail
  refine kF.mono ?_
  rintro e w3 ⟨rfl, hb3⟩
  have hB3 : Below w.heap.size w w3 := hB2.trans (hb3.mono (by omega))
  have kL := lives_any w3 (HE.out.on hB3)
  clear kF hb3
  go_wp2_with (go_at_call 5; refine kL.mono ?_; rintro e w4 ⟨rfl, hb4⟩)
  go_ret
  exact ⟨rfl, hB3.trans (hb4.mono (by have := hB3.size; omega))⟩

set_option maxRecDepth 100000 in
set_option maxHeartbeats 40000000 in
theorem checks_yes (t : TreeD) (p : Ptr6) (root : Int) (w : World) (hE : Env w) (hT : TreeAt (Lt w.heap.size) w t p) (hI : ∀ x ∈ t.nodes, x.int ≤ 9223372036854775807) (hG : fewB t = true) :
    Calls Tryz.prog 3 #[treeV t p, .int .i64 root] w fun e w' => e = .returned (.bool true) ∧ Below w.heap.size w w' := by
  have hFew := few_of hG
  obtain ⟨F1, F2, F3, F4, F5, F6⟩ := few_of hG
  obtain ⟨a1, c1, a2, c2, a3, c3⟩ := p
  obtain ⟨W1, hW1⟩ : ∃ W1, w.alloc (.cells #[.slice a1 t.nodes.length c1, .slice a2 t.types.length c2, .slice a3 t.aliases.length c3] 26) = W1 := ⟨_, rfl⟩
  have hB1 : Below w.heap.size w W1 := by rw [← hW1]; exact (Below.refl _ _).alloc (Nat.le_refl _) _
  have hX : Blk W1 w.heap.size 26 #[.slice a1 t.nodes.length c1, .slice a2 t.types.length c2, .slice a3 t.aliases.length c3] := by rw [← hW1]; exact Blk.new w 26 _
  have hXl : w.heap.size < W1.heap.size := hX.lt
  have kL := lives_any W1 (hE.on hB1)
  have HX := Lib.hid hX
  have HE := Lib.hid hE
  have HT := Lib.hid hT
  have HG := Lib.hid hG
  have HFew := Lib.hid hFew
  have HI := Lib.hid hI
  clear hX hE hT hG hFew F1 F2 F3 hI
  go_enter Tryz.func3, Tryz.ntmps3
  go_wp2_with fail
  refine kL.mono ?_
  rintro e w2 ⟨rfl, hb2⟩
  have hB2 : Below w.heap.size w w2 := hB1.trans (hb2.mono (by omega))
  have hX2 := HX.out.below hb2 hXl
  have hs2 := hB2.size
  have y0 := hX2.cell 0
  have y1 := hX2.cell 1
  have y2 := hX2.cell 2
  simp only [List.getElem?_toArray, List.getElem?_cons_zero, List.getElem?_cons_succ] at y0 y1 y2
  have HX2 := Lib.hid hX2
  have hX2l := hX2.lt
  have kF := few_any t ⟨a1, c1, a2, c2, a3, c3⟩ w2 (tree_up HT.out hB2) (by omega) (by omega) (by omega)
  rw [HG.out] at kF
  clear hX2 kL hb2
  go_wp2_with fail
  refine kF.mono ?_
  rintro e w3 ⟨rfl, hb3⟩
  have hB3 : Below w.heap.size w w3 := hB2.trans (hb3.mono (by omega))
  have HX3 := Lib.hid (HX2.out.below hb3 hX2l)
  have hX3l := HX3.out.lt
  have kR := right_any t ⟨a1, c1, a2, c2, a3, c3⟩ w3 (tree_up HT.out hB3) HFew.out HI.out
  have hz3 := hB3.size
  clear kF hb3 HX2 y0 y1 y2 hX2l HX hXl hW1 hs2
  have y0 := HX3.out.cell 0
  have y1 := HX3.out.cell 1
  have y2 := HX3.out.cell 2
  simp only [List.getElem?_toArray, List.getElem?_cons_zero, List.getElem?_cons_succ] at y0 y1 y2
  obtain ⟨C, hC⟩ : ∃ C, checkF t = C := ⟨_, rfl⟩
  rw [hC] at kR
  unfold treeV at kR
  dsimp only at kR
  go_wp2_with fail
  refine kR.mono ?_
  rintro e w4 ⟨rfl, hb4⟩
  have hB4 : Below w.heap.size w w4 := hB3.trans (hb4.mono hz3)
  have hz4 := hB4.size
  have HX4 := Lib.hid (HX3.out.below hb4 hX3l)
  have hX4l := HX4.out.lt
  have kC := check_any t ⟨a1, c1, a2, c2, a3, c3⟩ w4 (HE.out.on hB4) (tree_up HT.out hB4) HFew.out
  rw [hC] at kC
  unfold treeV at kC
  dsimp only at kC
  clear kR hb4 HX3 hX3l y0 y1 y2
  have y0 := HX4.out.cell 0
  have y1 := HX4.out.cell 1
  have y2 := HX4.out.cell 2
  simp only [List.getElem?_toArray, List.getElem?_cons_zero, List.getElem?_cons_succ] at y0 y1 y2
  cases C
  case false =>
    rw [if_neg (by simp)] at kC
    have hsB : sameB t t = false := by unfold sameB; rw [hC]; rfl
    have hwl : walkL t root = [] := by unfold walkL; rw [if_neg (fun h => by rw [hC] at h; cases h.2.2)]
    have HC := Lib.hid hC
    have HSB := Lib.hid hsB
    have HWLn := Lib.hid hwl
    clear hC hsB hwl
    go_wp2_with fail
    refine kC.mono ?_
    rintro e w5 ⟨rfl, hb5⟩
    have hB5 : Below w.heap.size w w5 := hB4.trans (hb5.mono hz4)
    have hz5 := hB5.size
    have HX5 := Lib.hid (HX4.out.below hb5 hX4l)
    have hX5l := HX5.out.lt
    have kC := check_any t ⟨a1, c1, a2, c2, a3, c3⟩ w5 (HE.out.on hB5) (tree_up HT.out hB5) HFew.out
    rw [HC.out, if_neg (by simp)] at kC
    unfold treeV at kC
    dsimp only at kC
    clear hb5 y0 y1 y2 HX4 hX4l
    have y0 := HX5.out.cell 0
    have y1 := HX5.out.cell 1
    have y2 := HX5.out.cell 2
    simp only [List.getElem?_toArray, List.getElem?_cons_zero, List.getElem?_cons_succ] at y0 y1 y2
    go_wp2_with fail
    refine kC.mono ?_
    rintro e w6 ⟨rfl, hb6⟩
    have hB6 : Below w.heap.size w w6 := hB5.trans (hb6.mono hz5)
    have hz6 := hB6.size
    have HX6 := Lib.hid (HX5.out.below hb6 hX5l)
    have hX6l := HX6.out.lt
    have kD := depth_any t ⟨a1, c1, a2, c2, a3, c3⟩ w6 (HE.out.on hB6) (tree_up HT.out hB6) HFew.out
    rw [HC.out, if_neg (by simp)] at kD
    unfold treeV at kD
    dsimp only at kD
    clear kC hb6 y0 y1 y2 HX5 hX5l
    have y0 := HX6.out.cell 0
    have y1 := HX6.out.cell 1
    have y2 := HX6.out.cell 2
    simp only [List.getElem?_toArray, List.getElem?_cons_zero, List.getElem?_cons_succ] at y0 y1 y2
    go_wp2_with fail
    refine kD.mono ?_
    rintro e w7 ⟨rfl, hb7⟩
    have hB7 : Below w.heap.size w w7 := hB6.trans (hb7.mono hz6)
    have hz7 := hB7.size
    have HX7 := Lib.hid (HX6.out.below hb7 hX6l)
    have hX7l := HX7.out.lt
    have kW := walk_any t ⟨a1, c1, a2, c2, a3, c3⟩ root w7 (HE.out.on hB7) (tree_up HT.out hB7) HFew.out
    rw [HWLn.out] at kW
    unfold treeV at kW
    dsimp only at kW
    clear kD hb7 y0 y1 y2 HX6 hX6l
    have y0 := HX7.out.cell 0
    have y1 := HX7.out.cell 1
    have y2 := HX7.out.cell 2
    simp only [List.getElem?_toArray, List.getElem?_cons_zero, List.getElem?_cons_succ] at y0 y1 y2
    go_wp2_with fail
    refine kW.mono ?_
    rintro e w8 ⟨Bs, b, A, c, rfl, g1, g2, g3, g4, hb8⟩
    have hB8 : Below w.heap.size w w8 := hB7.trans (hb8.mono hz7)
    have hz8 := hB8.size
    have HX8 := Lib.hid (HX7.out.below hb8 hX7l)
    have hX8l := HX8.out.lt
    have kA := allSeq_any Bs b A c [] (by simp) w8 g1 g2 g3 g4
    clear kW hb8 y0 y1 y2 HX7 hX7l g1 g2 g3 g4
    go_wp2_with fail
    refine kA.mono ?_
    rintro e w9 ⟨A9, c9, rfl, _, hb9⟩
    have hB9 : Below w.heap.size w w9 := hB8.trans (hb9.mono hz8)
    have hz9 := hB9.size
    have HX9 := Lib.hid (HX8.out.below hb9 hX8l)
    have kS := same19_any t t ⟨a1, c1, a2, c2, a3, c3⟩ ⟨a1, c1, a2, c2, a3, c3⟩ w9 (HE.out.on hB9) (tree_up HT.out hB9) (tree_up HT.out hB9) HFew.out HFew.out
    rw [HSB.out] at kS
    unfold treeV at kS
    dsimp only at kS
    clear kA hb9 HX8 hX8l
    have y0 := HX9.out.cell 0
    have y1 := HX9.out.cell 1
    have y2 := HX9.out.cell 2
    simp only [List.getElem?_toArray, List.getElem?_cons_zero, List.getElem?_cons_succ] at y0 y1 y2
    simp only [List.length_nil]
    go_wp2_with (go_at_call 12; (with_reducible refine kS.mono ?_); rintro e w10 ⟨rfl, hb10⟩)
    go_ret
    exact ⟨rfl, hB9.trans (hb10.mono hz9)⟩
  case true =>
    rw [if_pos rfl] at kC
    have HC := Lib.hid hC
    have HWh := Lib.hid ((checkF_iff t).1 hC)
    obtain ⟨dp, hdp⟩ : ∃ dp, depthP t = dp := ⟨_, rfl⟩
    have HDP := Lib.hid hdp
    obtain ⟨WL, hWL⟩ : ∃ WL, walkL t root = WL := ⟨_, rfl⟩
    have hWLl : WL.length ≤ 65536 := by rw [← hWL]; exact walkL_len _ _
    have HWL := Lib.hid hWL
    clear hC hdp
    go_wp2_with fail
    refine kC.mono ?_
    rintro e w5 ⟨rfl, hb5⟩
    have hB5 : Below w.heap.size w w5 := hB4.trans (hb5.mono hz4)
    have HX5 := Lib.hid (HX4.out.below hb5 hX4l)
    have hX5l := HX5.out.lt
    clear kC y0 y1 y2 hb5 HX4 hX4l hz3 hB4 hz4 hB3 hB2
    have y0 := HX5.out.cell 0
    have y1 := HX5.out.cell 1
    have y2 := HX5.out.cell 2
    simp only [List.getElem?_toArray, List.getElem?_cons_zero, List.getElem?_cons_succ] at y0 y1 y2
    by_cases hr : 0 ≤ root ∧ root < (t.nodes.length : Int)
    · obtain ⟨hr0, hr1⟩ := hr
      obtain ⟨i, hi⟩ : ∃ i : Nat, root = (i : Int) := ⟨root.toNat, by omega⟩
      have hWLe : WL = nz (walk (tmK t) i) := by rw [← hWL]; unfold walkL; rw [if_pos ⟨hr0, hr1, HC.out⟩, hi, Int.toNat_natCast]
      have kV := rwalk_any t ⟨a1, c1, a2, c2, a3, c3⟩ HWh.out HFew.out (i + 1) i (by omega) (by omega) w5 (tree_up HT.out hB5)
      rw [← hi, ← hWLe] at kV
      have hll : (walk (tmK t) i).length = WL.length := by rw [hWLe, List.length_map]
      rw [hll] at kV
      unfold treeV at kV
      dsimp only at kV
      have d1 : decide ((0 : Int) ≤ root) = true := by simpa using hr0
      have d2 : decide (root < (t.nodes.length : Int)) = true := by simpa using hr1
      have hz5 := hB5.size
      clear hi hWLe hll hWL hr0 hr1
      go_wp2_with fail
      refine kV.mono ?_
      rintro e w6 ⟨A6, c6, rfl, hS6, hb6⟩
      have hR6 : ∀ W, Below w6.heap.size w6 W → RdAt W A6 (WL.map iv) := fun W hW => RdAt.of_sl (hS6.keep (fun b o hb => hW.cell (p := ⟨b, o, none⟩) hb.2))
      have HR6 := Lib.hid hR6
      have HX6 := Lib.hid (HX5.out.below hb6 hX5l)
      have hX6l := HX6.out.lt
      have hB6 : Below w.heap.size w w6 := hB5.trans (hb6.mono hz5)
      clear kV hS6 hR6 y0 y1 y2 hb6 HX5 hX5l hB5 hz5
      obtain ⟨w5, hw5⟩ : ∃ w5, w5 = w6 := ⟨w6, rfl⟩
      subst hw5
      have HX3 := HX6
      have hX3l := hX6l
      have hB3 := hB6
      have HXw := Lib.hid (HX3.out.below (Below.refl w5.heap.size w5) hX3l)
      have hXwl := HXw.out.lt
      have hBw5 : Below w.heap.size w w5 := hB3
      have hs5 := hBw5.size
      have HT5 := Lib.hid (tree_up HT.out hBw5)
      have HS : Hid (∀ W, Below w5.heap.size w5 W → (fun W : World => W.cell? ⟨w.heap.size, 0, none⟩ = some (.slice a1 t.nodes.length c1) ∧ W.cell? ⟨w.heap.size, 1, none⟩ = some (.slice a2 t.types.length c2) ∧ W.cell? ⟨w.heap.size, 2, none⟩ = some (.slice a3 t.aliases.length c3) ∧ Below w5.heap.size w5 W) W) := Lib.hid fun W hW => by
        have x0 := (HXw.out.below hW hXwl).cell 0
        have x1 := (HXw.out.below hW hXwl).cell 1
        have x2 := (HXw.out.below hW hXwl).cell 2
        simp only [List.getElem?_toArray, List.getElem?_cons_zero, List.getElem?_cons_succ] at x0 x1 x2
        exact ⟨x0, x1, x2, hW⟩
      have KD : Hid (∀ W, Below w5.heap.size w5 W → Calls Tryz.prog 9 #[.agg #[.slice a1 t.nodes.length c1, .slice a2 t.types.length c2, .slice a3 t.aliases.length c3]] W fun e w' => e = .returned (.int .i64 (dp : Nat)) ∧ Below w5.heap.size w5 w') := Lib.hid fun W hW => by
        have h := depth_any t ⟨a1, c1, a2, c2, a3, c3⟩ W (HE.out.on (hBw5.trans (hW.mono hs5))) (tree_up HT5.out hW) HFew.out
        rw [if_pos HC.out, HDP.out] at h
        exact h.mono fun e w' h => ⟨h.1, hW.trans (h.2.mono hW.size)⟩
      have KR : Hid (∀ W, Below w5.heap.size w5 W → Calls Tryz.prog 14 #[.agg #[.slice a1 t.nodes.length c1, .slice a2 t.types.length c2, .slice a3 t.aliases.length c3]] W fun e w' => e = .returned (.int .i64 (dp : Nat)) ∧ Below w5.heap.size w5 w') := Lib.hid fun W hW => by
        have h := rdepth_any t ⟨a1, c1, a2, c2, a3, c3⟩ HWh.out HFew.out W (tree_up HT5.out hW)
        rw [HDP.out] at h
        exact h.mono fun e w' h => ⟨h.1, hW.trans (h.2.mono hW.size)⟩
      have KW : Hid (∀ W, Below w5.heap.size w5 W → Calls Tryz.prog 11 #[.agg #[.slice a1 t.nodes.length c1, .slice a2 t.types.length c2, .slice a3 t.aliases.length c3], .int .i64 root] W fun e w' => ∃ Bs, e = .returned (.func (.func 64) #[] #[.pointer (some ⟨Bs, 0, none⟩)]) ∧ (∃ b A c, Bs < w'.heap.size ∧ b < w'.heap.size ∧ w'.cell? ⟨Bs, 0, none⟩ = some (.slice A WL.length c) ∧ SlAt (fun k => k = b) w' A WL.length (WL.map iv)) ∧ Below w5.heap.size w5 w') := Lib.hid fun W hW => by
        have h := walk_any t ⟨a1, c1, a2, c2, a3, c3⟩ root W (HE.out.on (hBw5.trans (hW.mono hs5))) (tree_up HT5.out hW) HFew.out
        rw [HWL.out] at h
        exact h.mono fun e w' ⟨Bs, b, A, c, h1, h2, h3, h4, h5, h6⟩ => ⟨Bs, h1, ⟨b, A, c, h2, h3, h4, h5⟩, hW.trans (h6.mono hW.size)⟩
      have KA : Hid (∀ Bs W, (∃ b A c, Bs < W.heap.size ∧ b < W.heap.size ∧ W.cell? ⟨Bs, 0, none⟩ = some (.slice A WL.length c) ∧ SlAt (fun k => k = b) W A WL.length (WL.map iv)) → Below w5.heap.size w5 W → Calls Tryz.prog 10 #[.func (.func 64) #[] #[.pointer (some ⟨Bs, 0, none⟩)]] W fun e w' => ∃ A c, e = .returned (.slice A WL.length c) ∧ RdAt w' A (WL.map iv) ∧ Below w5.heap.size w5 w') := Lib.hid fun Bs W hh hW => by
        obtain ⟨b, A, c, h1, h2, h3, h4⟩ := hh
        exact (allSeq_any Bs b A c WL hWLl W h1 h2 h3 h4).mono fun e w' ⟨A', c', g1, g2, g3⟩ => ⟨A', c', g1, RdAt.of_sl g2, hW.trans (g3.mono hW.size)⟩
      have KE : Hid (∀ A c W, RdAt W A (WL.map iv) → Below w5.heap.size w5 W → Calls Tryz.prog 15 #[.slice A WL.length c, .slice A6 WL.length c6] W fun e w' => e = .returned (.bool true) ∧ Below w5.heap.size w5 w') := Lib.hid fun A c W hA hW => by
        have h := same_any A A6 c c6 WL WL W hA (HR6.out W hW) (by omega) (by omega)
        rw [decide_eq_true rfl] at h
        exact h.mono fun e w' h => ⟨h.1, hW.trans (h.2.mono hW.size)⟩
      have KS : Hid (∀ W, Below w5.heap.size w5 W → Calls Tryz.prog 12 #[.agg #[.slice a1 t.nodes.length c1, .slice a2 t.types.length c2, .slice a3 t.aliases.length c3], .agg #[.slice a1 t.nodes.length c1, .slice a2 t.types.length c2, .slice a3 t.aliases.length c3]] W fun e w' => e = .returned (.bool true) ∧ Below w5.heap.size w5 w') := Lib.hid fun W hW => by
        have h := same19_any t t ⟨a1, c1, a2, c2, a3, c3⟩ ⟨a1, c1, a2, c2, a3, c3⟩ W (HE.out.on (hBw5.trans (hW.mono hs5))) (tree_up HT5.out hW) (tree_up HT5.out hW) HFew.out HFew.out
        rw [sameB_refl HC.out] at h
        exact h.mono fun e w' h => ⟨h.1, hW.trans (h.2.mono hW.size)⟩
      have hB0 := Below.refl w5.heap.size w5
      go_wp2_with fail
      refine wp_region_noPanic ?_
      refine wp_region_held_drew (S := fun W => W.cell? ⟨w.heap.size, 0, none⟩ = some (.slice a1 t.nodes.length c1) ∧ W.cell? ⟨w.heap.size, 1, none⟩ = some (.slice a2 t.types.length c2) ∧ W.cell? ⟨w.heap.size, 2, none⟩ = some (.slice a3 t.aliases.length c3) ∧ Below w5.heap.size w5 W) (by kernel_rfl) (HS.out _ (Below.drew hB0)) (fun hHeld => ?_)
      refine wpAnyH_take (i := 0) (v := ?vp1) (by simp only [List.getElem?_toArray, List.getElem?_cons_zero]; rfl) (by kernel_rfl) (by kernel_rfl) (by kernel_rfl) (fun _ _ _ h => h) (Or.inl ⟨by rfl, ?hyp1⟩) (by assumption) ?restp1
      case hyp1 => (intro w hSw; (try dsimp only at hSw); go_simp; try with_reducible rfl)
      try simp only [Act.put, List.setIfInBounds_toArray, List.set_cons_zero, List.set_cons_succ]
      refine wpAnyH_take (i := 2) (v := ?vp2) (by simp only [List.getElem?_toArray, List.getElem?_cons_zero, List.getElem?_cons_succ]; rfl) (by kernel_rfl) (by kernel_rfl) (by kernel_rfl) (fun _ _ _ h => h) (Or.inl ⟨by rfl, ?hyp2⟩) (by assumption) ?restp2
      case hyp2 => (intro w hSw; (try dsimp only at hSw); go_simp; try with_reducible rfl)
      try simp only [Act.put, List.setIfInBounds_toArray, List.set_cons_zero, List.set_cons_succ]
      refine wpAnyH_ready (rs := [1]) (by kernel_rfl) (by simp) ?_
      refine AllReadyH.cons (by simp only [List.getElem?_toArray, List.getElem?_cons_zero, List.getElem?_cons_succ]; rfl) (fun K hK => ?stepp3) AllReadyH.nil
      go_simp; go_at_call 9; (with_reducible refine (KD.out _ (Below.drew hB0)).mono ?_); rintro e w6 ⟨rfl, b6⟩
      go_wp2_with fail
      refine hK.out _ _ ?hSp3 (fun hHeld => ?_)
      case hSp3 => exact HS.out _ b6
      clear hK K
      try simp only [Act.put, List.setIfInBounds_toArray, List.set_cons_zero, List.set_cons_succ]
      refine wpAnyH_ready (rs := [3]) (by kernel_rfl) (by simp) ?_
      refine AllReadyH.cons (by simp only [List.getElem?_toArray, List.getElem?_cons_zero, List.getElem?_cons_succ]; rfl) (fun K hK => ?stepp4) AllReadyH.nil
      go_simp; go_at_call 14; (with_reducible refine (KR.out _ b6).mono ?_); rintro e w7 ⟨rfl, b7⟩
      go_wp2_with fail
      refine hK.out _ _ ?hSp4 (fun hHeld => ?_)
      case hSp4 => exact HS.out _ b7
      clear hK K
      try simp only [Act.put, List.setIfInBounds_toArray, List.set_cons_zero, List.set_cons_succ]
      refine wpAnyH_take (i := 4) (v := ?vp5) (by simp only [List.getElem?_toArray, List.getElem?_cons_zero, List.getElem?_cons_succ]; rfl) (by kernel_rfl) (by kernel_rfl) (by kernel_rfl) (fun _ _ _ h => h) (Or.inl ⟨by rfl, ?hyp5⟩) (by assumption) ?restp5
      case hyp5 => (intro w hSw; (try dsimp only at hSw); go_simp; try with_reducible rfl)
      try simp only [Act.put, List.setIfInBounds_toArray, List.set_cons_zero, List.set_cons_succ]
      refine wpAnyH_take (i := 5) (v := ?vp6) (by simp only [List.getElem?_toArray, List.getElem?_cons_zero, List.getElem?_cons_succ]; rfl) (by kernel_rfl) (by kernel_rfl) (by kernel_rfl) (fun _ _ _ h => h) (Or.inl ⟨by rfl, ?hyp6⟩) (by assumption) ?restp6
      case hyp6 => (intro w hSw; (try dsimp only at hSw); go_simp; try with_reducible rfl)
      try simp only [Act.put, List.setIfInBounds_toArray, List.set_cons_zero, List.set_cons_succ]
      refine wpAnyH_take (i := 6) (v := ?vp7) (by simp only [List.getElem?_toArray, List.getElem?_cons_zero, List.getElem?_cons_succ]; rfl) (by kernel_rfl) (by kernel_rfl) (by kernel_rfl) (fun _ _ _ h => h) (Or.inl ⟨by rfl, ?hyp7⟩) (by assumption) ?restp7
      case hyp7 => (intro w hSw; (try dsimp only at hSw); go_simp; try with_reducible rfl)
      try simp only [Act.put, List.setIfInBounds_toArray, List.set_cons_zero, List.set_cons_succ]
      refine wpAnyH_take (i := 7) (v := ?vp8) (by simp only [List.getElem?_toArray, List.getElem?_cons_zero, List.getElem?_cons_succ]; rfl) (by kernel_rfl) (by kernel_rfl) (by kernel_rfl) (fun _ _ _ h => h) (Or.inl ⟨by rfl, ?hyp8⟩) (by assumption) ?restp8
      case hyp8 => (intro w hSw; (try dsimp only at hSw); go_simp; try with_reducible rfl)
      try simp only [Act.put, List.setIfInBounds_toArray, List.set_cons_zero, List.set_cons_succ]
      refine wpAnyH_take (i := 10) (v := ?vp9) (by simp only [List.getElem?_toArray, List.getElem?_cons_zero, List.getElem?_cons_succ]; rfl) (by kernel_rfl) (by kernel_rfl) (by kernel_rfl) (fun _ _ _ h => h) (Or.inl ⟨by rfl, ?hyp9⟩) (by assumption) ?restp9
      case hyp9 => (intro w hSw; (try dsimp only at hSw); go_simp; try with_reducible rfl)
      try simp only [Act.put, List.setIfInBounds_toArray, List.set_cons_zero, List.set_cons_succ]
      refine wpAnyH_ready (rs := [8]) (by kernel_rfl) (by simp) ?_
      refine AllReadyH.cons (by simp only [List.getElem?_toArray, List.getElem?_cons_zero, List.getElem?_cons_succ]; rfl) (fun K hK => ?stepp10) AllReadyH.nil
      go_simp; go_at_call 11; (with_reducible refine (KW.out _ b7).mono ?_); rintro e w8 ⟨B8, rfl, s8, b8⟩
      go_wp2_with fail
      refine hK.out _ _ ?hSp10 (fun hHeld => ?_)
      case hSp10 => exact HS.out _ b8
      clear hK K
      try simp only [Act.put, List.setIfInBounds_toArray, List.set_cons_zero, List.set_cons_succ]
      refine wpAnyH_ready (rs := [9]) (by kernel_rfl) (by simp) ?_
      refine AllReadyH.cons (by simp only [List.getElem?_toArray, List.getElem?_cons_zero, List.getElem?_cons_succ]; rfl) (fun K hK => ?stepp11) AllReadyH.nil
      go_simp; go_at_call 10; (with_reducible refine (KA.out B8 _ s8 b8).mono ?_); rintro e w9 ⟨A9, c9, rfl, r9, b9⟩
      go_wp2_with fail
      refine hK.out _ _ ?hSp11 (fun hHeld => ?_)
      case hSp11 => exact HS.out _ b9
      clear hK K
      try simp only [Act.put, List.setIfInBounds_toArray, List.set_cons_zero, List.set_cons_succ]
      refine wpAnyH_ready (rs := [11]) (by kernel_rfl) (by simp) ?_
      refine AllReadyH.cons (by simp only [List.getElem?_toArray, List.getElem?_cons_zero, List.getElem?_cons_succ]; rfl) (fun K hK => ?stepp12) AllReadyH.nil
      go_simp; go_at_call 15; (with_reducible refine (KE.out A9 c9 _ r9 b9).mono ?_); rintro e w10 ⟨rfl, b10⟩
      go_wp2_with fail
      refine hK.out _ _ ?hSp12 (fun hHeld => ?_)
      case hSp12 => exact HS.out _ b10
      clear hK K
      try simp only [Act.put, List.setIfInBounds_toArray, List.set_cons_zero, List.set_cons_succ]
      refine wpAnyH_take (i := 12) (v := ?vp13) (by simp only [List.getElem?_toArray, List.getElem?_cons_zero, List.getElem?_cons_succ]; rfl) (by kernel_rfl) (by kernel_rfl) (by kernel_rfl) (fun _ _ _ h => h) (Or.inl ⟨by rfl, ?hyp13⟩) (by assumption) ?restp13
      case hyp13 => (intro w hSw; (try dsimp only at hSw); go_simp; try with_reducible rfl)
      try simp only [Act.put, List.setIfInBounds_toArray, List.set_cons_zero, List.set_cons_succ]
      refine wpAnyH_take (i := 13) (v := ?vp14) (by simp only [List.getElem?_toArray, List.getElem?_cons_zero, List.getElem?_cons_succ]; rfl) (by kernel_rfl) (by kernel_rfl) (by kernel_rfl) (fun _ _ _ h => h) (Or.inl ⟨by rfl, ?hyp14⟩) (by assumption) ?restp14
      case hyp14 => (intro w hSw; (try dsimp only at hSw); go_simp; try with_reducible rfl)
      try simp only [Act.put, List.setIfInBounds_toArray, List.set_cons_zero, List.set_cons_succ]
      refine wpAnyH_take (i := 14) (v := ?vp15) (by simp only [List.getElem?_toArray, List.getElem?_cons_zero, List.getElem?_cons_succ]; rfl) (by kernel_rfl) (by kernel_rfl) (by kernel_rfl) (fun _ _ _ h => h) (Or.inl ⟨by rfl, ?hyp15⟩) (by assumption) ?restp15
      case hyp15 => (intro w hSw; (try dsimp only at hSw); go_simp; try with_reducible rfl)
      try simp only [Act.put, List.setIfInBounds_toArray, List.set_cons_zero, List.set_cons_succ]
      refine wpAnyH_take (i := 15) (v := ?vp16) (by simp only [List.getElem?_toArray, List.getElem?_cons_zero, List.getElem?_cons_succ]; rfl) (by kernel_rfl) (by kernel_rfl) (by kernel_rfl) (fun _ _ _ h => h) (Or.inl ⟨by rfl, ?hyp16⟩) (by assumption) ?restp16
      case hyp16 => (intro w hSw; (try dsimp only at hSw); go_simp; try with_reducible rfl)
      try simp only [Act.put, List.setIfInBounds_toArray, List.set_cons_zero, List.set_cons_succ]
      refine wpAnyH_ready (rs := [16]) (by kernel_rfl) (by simp) ?_
      refine AllReadyH.cons (by simp only [List.getElem?_toArray, List.getElem?_cons_zero, List.getElem?_cons_succ]; rfl) (fun K hK => ?stepp17) AllReadyH.nil
      go_simp; go_at_call 12; (with_reducible refine (KS.out _ b10).mono ?_); rintro e w11 ⟨rfl, b11⟩
      go_wp2_with fail
      refine hK.out _ _ ?hSp17 (fun hHeld => ?_)
      case hSp17 => exact HS.out _ b11
      clear hK K
      try simp only [Act.put, List.setIfInBounds_toArray, List.set_cons_zero, List.set_cons_succ]
      refine wpAnyH_take (i := 17) (v := ?vp18) (by simp only [List.getElem?_toArray, List.getElem?_cons_zero, List.getElem?_cons_succ]; rfl) (by kernel_rfl) (by kernel_rfl) (by kernel_rfl) (fun _ _ _ h => h) (Or.inl ⟨by rfl, ?hyp18⟩) (by assumption) ?restp18
      case hyp18 => (intro w hSw; (try dsimp only at hSw); go_simp; try with_reducible rfl)
      try simp only [Act.put, List.setIfInBounds_toArray, List.set_cons_zero, List.set_cons_succ]
      refine wpAnyH_take (i := 18) (v := ?vp19) (by simp only [List.getElem?_toArray, List.getElem?_cons_zero, List.getElem?_cons_succ]; rfl) (by kernel_rfl) (by kernel_rfl) (by kernel_rfl) (fun _ _ _ h => h) (Or.inl ⟨by rfl, ?hyp19⟩) (by assumption) ?restp19
      case hyp19 => (intro w hSw; (try dsimp only at hSw); go_simp; try with_reducible rfl)
      try simp only [Act.put, List.setIfInBounds_toArray, List.set_cons_zero, List.set_cons_succ]
      refine wpAnyH_done (by kernel_rfl) ?_ _
      refine NoPanic.normal ?_
      go_wp2
      go_ret
      exact ⟨rfl, hBw5.trans (b11.mono hs5)⟩
    · have hWLe : WL = [] := by rw [← hWL]; unfold walkL; rw [if_neg (fun h => hr ⟨h.1, h.2.1⟩)]
      have HR6 : Hid (∀ W, Below w5.heap.size w5 W → RdAt W none (WL.map iv)) := Lib.hid fun W _ => .inl (by rw [hWLe]; rfl)
      have hl0 : WL.length = 0 := by rw [hWLe]; rfl
      have HX3 := HX5
      have hX3l := hX5l
      have hB3 := hB5
      obtain ⟨A6, hA6⟩ : ∃ A6 : Option Addr, A6 = none := ⟨_, rfl⟩
      obtain ⟨c6, hc6⟩ : ∃ c6 : Nat, c6 = 0 := ⟨_, rfl⟩
      rw [← hA6] at HR6
      have HXw := Lib.hid (HX3.out.below (Below.refl w5.heap.size w5) hX3l)
      have hXwl := HXw.out.lt
      have hBw5 : Below w.heap.size w w5 := hB3
      have hs5 := hBw5.size
      have HT5 := Lib.hid (tree_up HT.out hBw5)
      have HS : Hid (∀ W, Below w5.heap.size w5 W → (fun W : World => W.cell? ⟨w.heap.size, 0, none⟩ = some (.slice a1 t.nodes.length c1) ∧ W.cell? ⟨w.heap.size, 1, none⟩ = some (.slice a2 t.types.length c2) ∧ W.cell? ⟨w.heap.size, 2, none⟩ = some (.slice a3 t.aliases.length c3) ∧ Below w5.heap.size w5 W) W) := Lib.hid fun W hW => by
        have x0 := (HXw.out.below hW hXwl).cell 0
        have x1 := (HXw.out.below hW hXwl).cell 1
        have x2 := (HXw.out.below hW hXwl).cell 2
        simp only [List.getElem?_toArray, List.getElem?_cons_zero, List.getElem?_cons_succ] at x0 x1 x2
        exact ⟨x0, x1, x2, hW⟩
      have KD : Hid (∀ W, Below w5.heap.size w5 W → Calls Tryz.prog 9 #[.agg #[.slice a1 t.nodes.length c1, .slice a2 t.types.length c2, .slice a3 t.aliases.length c3]] W fun e w' => e = .returned (.int .i64 (dp : Nat)) ∧ Below w5.heap.size w5 w') := Lib.hid fun W hW => by
        have h := depth_any t ⟨a1, c1, a2, c2, a3, c3⟩ W (HE.out.on (hBw5.trans (hW.mono hs5))) (tree_up HT5.out hW) HFew.out
        rw [if_pos HC.out, HDP.out] at h
        exact h.mono fun e w' h => ⟨h.1, hW.trans (h.2.mono hW.size)⟩
      have KR : Hid (∀ W, Below w5.heap.size w5 W → Calls Tryz.prog 14 #[.agg #[.slice a1 t.nodes.length c1, .slice a2 t.types.length c2, .slice a3 t.aliases.length c3]] W fun e w' => e = .returned (.int .i64 (dp : Nat)) ∧ Below w5.heap.size w5 w') := Lib.hid fun W hW => by
        have h := rdepth_any t ⟨a1, c1, a2, c2, a3, c3⟩ HWh.out HFew.out W (tree_up HT5.out hW)
        rw [HDP.out] at h
        exact h.mono fun e w' h => ⟨h.1, hW.trans (h.2.mono hW.size)⟩
      have KW : Hid (∀ W, Below w5.heap.size w5 W → Calls Tryz.prog 11 #[.agg #[.slice a1 t.nodes.length c1, .slice a2 t.types.length c2, .slice a3 t.aliases.length c3], .int .i64 root] W fun e w' => ∃ Bs, e = .returned (.func (.func 64) #[] #[.pointer (some ⟨Bs, 0, none⟩)]) ∧ (∃ b A c, Bs < w'.heap.size ∧ b < w'.heap.size ∧ w'.cell? ⟨Bs, 0, none⟩ = some (.slice A WL.length c) ∧ SlAt (fun k => k = b) w' A WL.length (WL.map iv)) ∧ Below w5.heap.size w5 w') := Lib.hid fun W hW => by
        have h := walk_any t ⟨a1, c1, a2, c2, a3, c3⟩ root W (HE.out.on (hBw5.trans (hW.mono hs5))) (tree_up HT5.out hW) HFew.out
        rw [HWL.out] at h
        exact h.mono fun e w' ⟨Bs, b, A, c, h1, h2, h3, h4, h5, h6⟩ => ⟨Bs, h1, ⟨b, A, c, h2, h3, h4, h5⟩, hW.trans (h6.mono hW.size)⟩
      have KA : Hid (∀ Bs W, (∃ b A c, Bs < W.heap.size ∧ b < W.heap.size ∧ W.cell? ⟨Bs, 0, none⟩ = some (.slice A WL.length c) ∧ SlAt (fun k => k = b) W A WL.length (WL.map iv)) → Below w5.heap.size w5 W → Calls Tryz.prog 10 #[.func (.func 64) #[] #[.pointer (some ⟨Bs, 0, none⟩)]] W fun e w' => ∃ A c, e = .returned (.slice A WL.length c) ∧ RdAt w' A (WL.map iv) ∧ Below w5.heap.size w5 w') := Lib.hid fun Bs W hh hW => by
        obtain ⟨b, A, c, h1, h2, h3, h4⟩ := hh
        exact (allSeq_any Bs b A c WL hWLl W h1 h2 h3 h4).mono fun e w' ⟨A', c', g1, g2, g3⟩ => ⟨A', c', g1, RdAt.of_sl g2, hW.trans (g3.mono hW.size)⟩
      have KE : Hid (∀ A c W, RdAt W A (WL.map iv) → Below w5.heap.size w5 W → Calls Tryz.prog 15 #[.slice A WL.length c, .slice A6 WL.length c6] W fun e w' => e = .returned (.bool true) ∧ Below w5.heap.size w5 w') := Lib.hid fun A c W hA hW => by
        have h := same_any A A6 c c6 WL WL W hA (HR6.out W hW) (by omega) (by omega)
        rw [decide_eq_true rfl] at h
        exact h.mono fun e w' h => ⟨h.1, hW.trans (h.2.mono hW.size)⟩
      have KS : Hid (∀ W, Below w5.heap.size w5 W → Calls Tryz.prog 12 #[.agg #[.slice a1 t.nodes.length c1, .slice a2 t.types.length c2, .slice a3 t.aliases.length c3], .agg #[.slice a1 t.nodes.length c1, .slice a2 t.types.length c2, .slice a3 t.aliases.length c3]] W fun e w' => e = .returned (.bool true) ∧ Below w5.heap.size w5 w') := Lib.hid fun W hW => by
        have h := same19_any t t ⟨a1, c1, a2, c2, a3, c3⟩ ⟨a1, c1, a2, c2, a3, c3⟩ W (HE.out.on (hBw5.trans (hW.mono hs5))) (tree_up HT5.out hW) (tree_up HT5.out hW) HFew.out HFew.out
        rw [sameB_refl HC.out] at h
        exact h.mono fun e w' h => ⟨h.1, hW.trans (h.2.mono hW.size)⟩
      have hB0 := Below.refl w5.heap.size w5
      rw [hA6, hc6] at KE
      rw [hl0] at KW KA KE
      subst hWLe
      clear hl0 hA6 hc6 hWL hWLl
      by_cases hr0 : 0 ≤ root
      · have d1 : decide ((0 : Int) ≤ root) = true := by simpa using hr0
        have d2 : decide (root < (t.nodes.length : Int)) = false := by simp; omega
        clear hr hr0
        go_wp2_with fail
        refine wp_region_noPanic ?_
        refine wp_region_held_drew (S := fun W => W.cell? ⟨w.heap.size, 0, none⟩ = some (.slice a1 t.nodes.length c1) ∧ W.cell? ⟨w.heap.size, 1, none⟩ = some (.slice a2 t.types.length c2) ∧ W.cell? ⟨w.heap.size, 2, none⟩ = some (.slice a3 t.aliases.length c3) ∧ Below w5.heap.size w5 W) (by kernel_rfl) (HS.out _ (Below.drew hB0)) (fun hHeld => ?_)
        refine wpAnyH_take (i := 0) (v := ?vq1) (by simp only [List.getElem?_toArray, List.getElem?_cons_zero]; rfl) (by kernel_rfl) (by kernel_rfl) (by kernel_rfl) (fun _ _ _ h => h) (Or.inl ⟨by rfl, ?hyq1⟩) (by assumption) ?restq1
        case hyq1 => (intro w hSw; (try dsimp only at hSw); go_simp; try with_reducible rfl)
        try simp only [Act.put, List.setIfInBounds_toArray, List.set_cons_zero, List.set_cons_succ]
        refine wpAnyH_take (i := 2) (v := ?vq2) (by simp only [List.getElem?_toArray, List.getElem?_cons_zero, List.getElem?_cons_succ]; rfl) (by kernel_rfl) (by kernel_rfl) (by kernel_rfl) (fun _ _ _ h => h) (Or.inl ⟨by rfl, ?hyq2⟩) (by assumption) ?restq2
        case hyq2 => (intro w hSw; (try dsimp only at hSw); go_simp; try with_reducible rfl)
        try simp only [Act.put, List.setIfInBounds_toArray, List.set_cons_zero, List.set_cons_succ]
        refine wpAnyH_ready (rs := [1]) (by kernel_rfl) (by simp) ?_
        refine AllReadyH.cons (by simp only [List.getElem?_toArray, List.getElem?_cons_zero, List.getElem?_cons_succ]; rfl) (fun K hK => ?stepq3) AllReadyH.nil
        go_simp; go_at_call 9; (with_reducible refine (KD.out _ (Below.drew hB0)).mono ?_); rintro e w6 ⟨rfl, b6⟩
        go_wp2_with fail
        refine hK.out _ _ ?hSq3 (fun hHeld => ?_)
        case hSq3 => exact HS.out _ b6
        clear hK K
        try simp only [Act.put, List.setIfInBounds_toArray, List.set_cons_zero, List.set_cons_succ]
        refine wpAnyH_ready (rs := [3]) (by kernel_rfl) (by simp) ?_
        refine AllReadyH.cons (by simp only [List.getElem?_toArray, List.getElem?_cons_zero, List.getElem?_cons_succ]; rfl) (fun K hK => ?stepq4) AllReadyH.nil
        go_simp; go_at_call 14; (with_reducible refine (KR.out _ b6).mono ?_); rintro e w7 ⟨rfl, b7⟩
        go_wp2_with fail
        refine hK.out _ _ ?hSq4 (fun hHeld => ?_)
        case hSq4 => exact HS.out _ b7
        clear hK K
        try simp only [Act.put, List.setIfInBounds_toArray, List.set_cons_zero, List.set_cons_succ]
        refine wpAnyH_take (i := 4) (v := ?vq5) (by simp only [List.getElem?_toArray, List.getElem?_cons_zero, List.getElem?_cons_succ]; rfl) (by kernel_rfl) (by kernel_rfl) (by kernel_rfl) (fun _ _ _ h => h) (Or.inl ⟨by rfl, ?hyq5⟩) (by assumption) ?restq5
        case hyq5 => (intro w hSw; (try dsimp only at hSw); go_simp; try with_reducible rfl)
        try simp only [Act.put, List.setIfInBounds_toArray, List.set_cons_zero, List.set_cons_succ]
        refine wpAnyH_take (i := 5) (v := ?vq6) (by simp only [List.getElem?_toArray, List.getElem?_cons_zero, List.getElem?_cons_succ]; rfl) (by kernel_rfl) (by kernel_rfl) (by kernel_rfl) (fun _ _ _ h => h) (Or.inl ⟨by rfl, ?hyq6⟩) (by assumption) ?restq6
        case hyq6 => (intro w hSw; (try dsimp only at hSw); go_simp; try with_reducible rfl)
        try simp only [Act.put, List.setIfInBounds_toArray, List.set_cons_zero, List.set_cons_succ]
        refine wpAnyH_take (i := 6) (v := ?vq7) (by simp only [List.getElem?_toArray, List.getElem?_cons_zero, List.getElem?_cons_succ]; rfl) (by kernel_rfl) (by kernel_rfl) (by kernel_rfl) (fun _ _ _ h => h) (Or.inl ⟨by rfl, ?hyq7⟩) (by assumption) ?restq7
        case hyq7 => (intro w hSw; (try dsimp only at hSw); go_simp; try with_reducible rfl)
        try simp only [Act.put, List.setIfInBounds_toArray, List.set_cons_zero, List.set_cons_succ]
        refine wpAnyH_take (i := 7) (v := ?vq8) (by simp only [List.getElem?_toArray, List.getElem?_cons_zero, List.getElem?_cons_succ]; rfl) (by kernel_rfl) (by kernel_rfl) (by kernel_rfl) (fun _ _ _ h => h) (Or.inl ⟨by rfl, ?hyq8⟩) (by assumption) ?restq8
        case hyq8 => (intro w hSw; (try dsimp only at hSw); go_simp; try with_reducible rfl)
        try simp only [Act.put, List.setIfInBounds_toArray, List.set_cons_zero, List.set_cons_succ]
        refine wpAnyH_take (i := 10) (v := ?vq9) (by simp only [List.getElem?_toArray, List.getElem?_cons_zero, List.getElem?_cons_succ]; rfl) (by kernel_rfl) (by kernel_rfl) (by kernel_rfl) (fun _ _ _ h => h) (Or.inl ⟨by rfl, ?hyq9⟩) (by assumption) ?restq9
        case hyq9 => (intro w hSw; (try dsimp only at hSw); go_simp; try with_reducible rfl)
        try simp only [Act.put, List.setIfInBounds_toArray, List.set_cons_zero, List.set_cons_succ]
        refine wpAnyH_ready (rs := [8]) (by kernel_rfl) (by simp) ?_
        refine AllReadyH.cons (by simp only [List.getElem?_toArray, List.getElem?_cons_zero, List.getElem?_cons_succ]; rfl) (fun K hK => ?stepq10) AllReadyH.nil
        go_simp; go_at_call 11; (with_reducible refine (KW.out _ b7).mono ?_); rintro e w8 ⟨B8, rfl, s8, b8⟩
        go_wp2_with fail
        refine hK.out _ _ ?hSq10 (fun hHeld => ?_)
        case hSq10 => exact HS.out _ b8
        clear hK K
        try simp only [Act.put, List.setIfInBounds_toArray, List.set_cons_zero, List.set_cons_succ]
        refine wpAnyH_ready (rs := [9]) (by kernel_rfl) (by simp) ?_
        refine AllReadyH.cons (by simp only [List.getElem?_toArray, List.getElem?_cons_zero, List.getElem?_cons_succ]; rfl) (fun K hK => ?stepq11) AllReadyH.nil
        go_simp; go_at_call 10; (with_reducible refine (KA.out B8 _ s8 b8).mono ?_); rintro e w9 ⟨A9, c9, rfl, r9, b9⟩
        go_wp2_with fail
        refine hK.out _ _ ?hSq11 (fun hHeld => ?_)
        case hSq11 => exact HS.out _ b9
        clear hK K
        try simp only [Act.put, List.setIfInBounds_toArray, List.set_cons_zero, List.set_cons_succ]
        refine wpAnyH_ready (rs := [11]) (by kernel_rfl) (by simp) ?_
        refine AllReadyH.cons (by simp only [List.getElem?_toArray, List.getElem?_cons_zero, List.getElem?_cons_succ]; rfl) (fun K hK => ?stepq12) AllReadyH.nil
        go_simp; go_at_call 15; (with_reducible refine (KE.out A9 c9 _ r9 b9).mono ?_); rintro e w10 ⟨rfl, b10⟩
        go_wp2_with fail
        refine hK.out _ _ ?hSq12 (fun hHeld => ?_)
        case hSq12 => exact HS.out _ b10
        clear hK K
        try simp only [Act.put, List.setIfInBounds_toArray, List.set_cons_zero, List.set_cons_succ]
        refine wpAnyH_take (i := 12) (v := ?vq13) (by simp only [List.getElem?_toArray, List.getElem?_cons_zero, List.getElem?_cons_succ]; rfl) (by kernel_rfl) (by kernel_rfl) (by kernel_rfl) (fun _ _ _ h => h) (Or.inl ⟨by rfl, ?hyq13⟩) (by assumption) ?restq13
        case hyq13 => (intro w hSw; (try dsimp only at hSw); go_simp; try with_reducible rfl)
        try simp only [Act.put, List.setIfInBounds_toArray, List.set_cons_zero, List.set_cons_succ]
        refine wpAnyH_take (i := 13) (v := ?vq14) (by simp only [List.getElem?_toArray, List.getElem?_cons_zero, List.getElem?_cons_succ]; rfl) (by kernel_rfl) (by kernel_rfl) (by kernel_rfl) (fun _ _ _ h => h) (Or.inl ⟨by rfl, ?hyq14⟩) (by assumption) ?restq14
        case hyq14 => (intro w hSw; (try dsimp only at hSw); go_simp; try with_reducible rfl)
        try simp only [Act.put, List.setIfInBounds_toArray, List.set_cons_zero, List.set_cons_succ]
        refine wpAnyH_take (i := 14) (v := ?vq15) (by simp only [List.getElem?_toArray, List.getElem?_cons_zero, List.getElem?_cons_succ]; rfl) (by kernel_rfl) (by kernel_rfl) (by kernel_rfl) (fun _ _ _ h => h) (Or.inl ⟨by rfl, ?hyq15⟩) (by assumption) ?restq15
        case hyq15 => (intro w hSw; (try dsimp only at hSw); go_simp; try with_reducible rfl)
        try simp only [Act.put, List.setIfInBounds_toArray, List.set_cons_zero, List.set_cons_succ]
        refine wpAnyH_take (i := 15) (v := ?vq16) (by simp only [List.getElem?_toArray, List.getElem?_cons_zero, List.getElem?_cons_succ]; rfl) (by kernel_rfl) (by kernel_rfl) (by kernel_rfl) (fun _ _ _ h => h) (Or.inl ⟨by rfl, ?hyq16⟩) (by assumption) ?restq16
        case hyq16 => (intro w hSw; (try dsimp only at hSw); go_simp; try with_reducible rfl)
        try simp only [Act.put, List.setIfInBounds_toArray, List.set_cons_zero, List.set_cons_succ]
        refine wpAnyH_ready (rs := [16]) (by kernel_rfl) (by simp) ?_
        refine AllReadyH.cons (by simp only [List.getElem?_toArray, List.getElem?_cons_zero, List.getElem?_cons_succ]; rfl) (fun K hK => ?stepq17) AllReadyH.nil
        go_simp; go_at_call 12; (with_reducible refine (KS.out _ b10).mono ?_); rintro e w11 ⟨rfl, b11⟩
        go_wp2_with fail
        refine hK.out _ _ ?hSq17 (fun hHeld => ?_)
        case hSq17 => exact HS.out _ b11
        clear hK K
        try simp only [Act.put, List.setIfInBounds_toArray, List.set_cons_zero, List.set_cons_succ]
        refine wpAnyH_take (i := 17) (v := ?vq18) (by simp only [List.getElem?_toArray, List.getElem?_cons_zero, List.getElem?_cons_succ]; rfl) (by kernel_rfl) (by kernel_rfl) (by kernel_rfl) (fun _ _ _ h => h) (Or.inl ⟨by rfl, ?hyq18⟩) (by assumption) ?restq18
        case hyq18 => (intro w hSw; (try dsimp only at hSw); go_simp; try with_reducible rfl)
        try simp only [Act.put, List.setIfInBounds_toArray, List.set_cons_zero, List.set_cons_succ]
        refine wpAnyH_take (i := 18) (v := ?vq19) (by simp only [List.getElem?_toArray, List.getElem?_cons_zero, List.getElem?_cons_succ]; rfl) (by kernel_rfl) (by kernel_rfl) (by kernel_rfl) (fun _ _ _ h => h) (Or.inl ⟨by rfl, ?hyq19⟩) (by assumption) ?restq19
        case hyq19 => (intro w hSw; (try dsimp only at hSw); go_simp; try with_reducible rfl)
        try simp only [Act.put, List.setIfInBounds_toArray, List.set_cons_zero, List.set_cons_succ]
        refine wpAnyH_done (by kernel_rfl) ?_ _
        refine NoPanic.normal ?_
        go_wp2
        go_ret
        exact ⟨rfl, hBw5.trans (b11.mono hs5)⟩
      · have d1 : decide ((0 : Int) ≤ root) = false := by simpa using hr0
        clear hr hr0
        go_wp2_with fail
        refine wp_region_noPanic ?_
        refine wp_region_held_drew (S := fun W => W.cell? ⟨w.heap.size, 0, none⟩ = some (.slice a1 t.nodes.length c1) ∧ W.cell? ⟨w.heap.size, 1, none⟩ = some (.slice a2 t.types.length c2) ∧ W.cell? ⟨w.heap.size, 2, none⟩ = some (.slice a3 t.aliases.length c3) ∧ Below w5.heap.size w5 W) (by kernel_rfl) (HS.out _ (Below.drew hB0)) (fun hHeld => ?_)
        refine wpAnyH_take (i := 0) (v := ?vs1) (by simp only [List.getElem?_toArray, List.getElem?_cons_zero]; rfl) (by kernel_rfl) (by kernel_rfl) (by kernel_rfl) (fun _ _ _ h => h) (Or.inl ⟨by rfl, ?hys1⟩) (by assumption) ?rests1
        case hys1 => (intro w hSw; (try dsimp only at hSw); go_simp; try with_reducible rfl)
        try simp only [Act.put, List.setIfInBounds_toArray, List.set_cons_zero, List.set_cons_succ]
        refine wpAnyH_take (i := 2) (v := ?vs2) (by simp only [List.getElem?_toArray, List.getElem?_cons_zero, List.getElem?_cons_succ]; rfl) (by kernel_rfl) (by kernel_rfl) (by kernel_rfl) (fun _ _ _ h => h) (Or.inl ⟨by rfl, ?hys2⟩) (by assumption) ?rests2
        case hys2 => (intro w hSw; (try dsimp only at hSw); go_simp; try with_reducible rfl)
        try simp only [Act.put, List.setIfInBounds_toArray, List.set_cons_zero, List.set_cons_succ]
        refine wpAnyH_ready (rs := [1]) (by kernel_rfl) (by simp) ?_
        refine AllReadyH.cons (by simp only [List.getElem?_toArray, List.getElem?_cons_zero, List.getElem?_cons_succ]; rfl) (fun K hK => ?steps3) AllReadyH.nil
        go_simp; go_at_call 9; (with_reducible refine (KD.out _ (Below.drew hB0)).mono ?_); rintro e w6 ⟨rfl, b6⟩
        go_wp2_with fail
        refine hK.out _ _ ?hSs3 (fun hHeld => ?_)
        case hSs3 => exact HS.out _ b6
        clear hK K
        try simp only [Act.put, List.setIfInBounds_toArray, List.set_cons_zero, List.set_cons_succ]
        refine wpAnyH_ready (rs := [3]) (by kernel_rfl) (by simp) ?_
        refine AllReadyH.cons (by simp only [List.getElem?_toArray, List.getElem?_cons_zero, List.getElem?_cons_succ]; rfl) (fun K hK => ?steps4) AllReadyH.nil
        go_simp; go_at_call 14; (with_reducible refine (KR.out _ b6).mono ?_); rintro e w7 ⟨rfl, b7⟩
        go_wp2_with fail
        refine hK.out _ _ ?hSs4 (fun hHeld => ?_)
        case hSs4 => exact HS.out _ b7
        clear hK K
        try simp only [Act.put, List.setIfInBounds_toArray, List.set_cons_zero, List.set_cons_succ]
        refine wpAnyH_take (i := 4) (v := ?vs5) (by simp only [List.getElem?_toArray, List.getElem?_cons_zero, List.getElem?_cons_succ]; rfl) (by kernel_rfl) (by kernel_rfl) (by kernel_rfl) (fun _ _ _ h => h) (Or.inl ⟨by rfl, ?hys5⟩) (by assumption) ?rests5
        case hys5 => (intro w hSw; (try dsimp only at hSw); go_simp; try with_reducible rfl)
        try simp only [Act.put, List.setIfInBounds_toArray, List.set_cons_zero, List.set_cons_succ]
        refine wpAnyH_take (i := 5) (v := ?vs6) (by simp only [List.getElem?_toArray, List.getElem?_cons_zero, List.getElem?_cons_succ]; rfl) (by kernel_rfl) (by kernel_rfl) (by kernel_rfl) (fun _ _ _ h => h) (Or.inl ⟨by rfl, ?hys6⟩) (by assumption) ?rests6
        case hys6 => (intro w hSw; (try dsimp only at hSw); go_simp; try with_reducible rfl)
        try simp only [Act.put, List.setIfInBounds_toArray, List.set_cons_zero, List.set_cons_succ]
        refine wpAnyH_take (i := 6) (v := ?vs7) (by simp only [List.getElem?_toArray, List.getElem?_cons_zero, List.getElem?_cons_succ]; rfl) (by kernel_rfl) (by kernel_rfl) (by kernel_rfl) (fun _ _ _ h => h) (Or.inl ⟨by rfl, ?hys7⟩) (by assumption) ?rests7
        case hys7 => (intro w hSw; (try dsimp only at hSw); go_simp; try with_reducible rfl)
        try simp only [Act.put, List.setIfInBounds_toArray, List.set_cons_zero, List.set_cons_succ]
        refine wpAnyH_take (i := 7) (v := ?vs8) (by simp only [List.getElem?_toArray, List.getElem?_cons_zero, List.getElem?_cons_succ]; rfl) (by kernel_rfl) (by kernel_rfl) (by kernel_rfl) (fun _ _ _ h => h) (Or.inl ⟨by rfl, ?hys8⟩) (by assumption) ?rests8
        case hys8 => (intro w hSw; (try dsimp only at hSw); go_simp; try with_reducible rfl)
        try simp only [Act.put, List.setIfInBounds_toArray, List.set_cons_zero, List.set_cons_succ]
        refine wpAnyH_take (i := 10) (v := ?vs9) (by simp only [List.getElem?_toArray, List.getElem?_cons_zero, List.getElem?_cons_succ]; rfl) (by kernel_rfl) (by kernel_rfl) (by kernel_rfl) (fun _ _ _ h => h) (Or.inl ⟨by rfl, ?hys9⟩) (by assumption) ?rests9
        case hys9 => (intro w hSw; (try dsimp only at hSw); go_simp; try with_reducible rfl)
        try simp only [Act.put, List.setIfInBounds_toArray, List.set_cons_zero, List.set_cons_succ]
        refine wpAnyH_ready (rs := [8]) (by kernel_rfl) (by simp) ?_
        refine AllReadyH.cons (by simp only [List.getElem?_toArray, List.getElem?_cons_zero, List.getElem?_cons_succ]; rfl) (fun K hK => ?steps10) AllReadyH.nil
        go_simp; go_at_call 11; (with_reducible refine (KW.out _ b7).mono ?_); rintro e w8 ⟨B8, rfl, s8, b8⟩
        go_wp2_with fail
        refine hK.out _ _ ?hSs10 (fun hHeld => ?_)
        case hSs10 => exact HS.out _ b8
        clear hK K
        try simp only [Act.put, List.setIfInBounds_toArray, List.set_cons_zero, List.set_cons_succ]
        refine wpAnyH_ready (rs := [9]) (by kernel_rfl) (by simp) ?_
        refine AllReadyH.cons (by simp only [List.getElem?_toArray, List.getElem?_cons_zero, List.getElem?_cons_succ]; rfl) (fun K hK => ?steps11) AllReadyH.nil
        go_simp; go_at_call 10; (with_reducible refine (KA.out B8 _ s8 b8).mono ?_); rintro e w9 ⟨A9, c9, rfl, r9, b9⟩
        go_wp2_with fail
        refine hK.out _ _ ?hSs11 (fun hHeld => ?_)
        case hSs11 => exact HS.out _ b9
        clear hK K
        try simp only [Act.put, List.setIfInBounds_toArray, List.set_cons_zero, List.set_cons_succ]
        refine wpAnyH_ready (rs := [11]) (by kernel_rfl) (by simp) ?_
        refine AllReadyH.cons (by simp only [List.getElem?_toArray, List.getElem?_cons_zero, List.getElem?_cons_succ]; rfl) (fun K hK => ?steps12) AllReadyH.nil
        go_simp; go_at_call 15; (with_reducible refine (KE.out A9 c9 _ r9 b9).mono ?_); rintro e w10 ⟨rfl, b10⟩
        go_wp2_with fail
        refine hK.out _ _ ?hSs12 (fun hHeld => ?_)
        case hSs12 => exact HS.out _ b10
        clear hK K
        try simp only [Act.put, List.setIfInBounds_toArray, List.set_cons_zero, List.set_cons_succ]
        refine wpAnyH_take (i := 12) (v := ?vs13) (by simp only [List.getElem?_toArray, List.getElem?_cons_zero, List.getElem?_cons_succ]; rfl) (by kernel_rfl) (by kernel_rfl) (by kernel_rfl) (fun _ _ _ h => h) (Or.inl ⟨by rfl, ?hys13⟩) (by assumption) ?rests13
        case hys13 => (intro w hSw; (try dsimp only at hSw); go_simp; try with_reducible rfl)
        try simp only [Act.put, List.setIfInBounds_toArray, List.set_cons_zero, List.set_cons_succ]
        refine wpAnyH_take (i := 13) (v := ?vs14) (by simp only [List.getElem?_toArray, List.getElem?_cons_zero, List.getElem?_cons_succ]; rfl) (by kernel_rfl) (by kernel_rfl) (by kernel_rfl) (fun _ _ _ h => h) (Or.inl ⟨by rfl, ?hys14⟩) (by assumption) ?rests14
        case hys14 => (intro w hSw; (try dsimp only at hSw); go_simp; try with_reducible rfl)
        try simp only [Act.put, List.setIfInBounds_toArray, List.set_cons_zero, List.set_cons_succ]
        refine wpAnyH_take (i := 14) (v := ?vs15) (by simp only [List.getElem?_toArray, List.getElem?_cons_zero, List.getElem?_cons_succ]; rfl) (by kernel_rfl) (by kernel_rfl) (by kernel_rfl) (fun _ _ _ h => h) (Or.inl ⟨by rfl, ?hys15⟩) (by assumption) ?rests15
        case hys15 => (intro w hSw; (try dsimp only at hSw); go_simp; try with_reducible rfl)
        try simp only [Act.put, List.setIfInBounds_toArray, List.set_cons_zero, List.set_cons_succ]
        refine wpAnyH_take (i := 15) (v := ?vs16) (by simp only [List.getElem?_toArray, List.getElem?_cons_zero, List.getElem?_cons_succ]; rfl) (by kernel_rfl) (by kernel_rfl) (by kernel_rfl) (fun _ _ _ h => h) (Or.inl ⟨by rfl, ?hys16⟩) (by assumption) ?rests16
        case hys16 => (intro w hSw; (try dsimp only at hSw); go_simp; try with_reducible rfl)
        try simp only [Act.put, List.setIfInBounds_toArray, List.set_cons_zero, List.set_cons_succ]
        refine wpAnyH_ready (rs := [16]) (by kernel_rfl) (by simp) ?_
        refine AllReadyH.cons (by simp only [List.getElem?_toArray, List.getElem?_cons_zero, List.getElem?_cons_succ]; rfl) (fun K hK => ?steps17) AllReadyH.nil
        go_simp; go_at_call 12; (with_reducible refine (KS.out _ b10).mono ?_); rintro e w11 ⟨rfl, b11⟩
        go_wp2_with fail
        refine hK.out _ _ ?hSs17 (fun hHeld => ?_)
        case hSs17 => exact HS.out _ b11
        clear hK K
        try simp only [Act.put, List.setIfInBounds_toArray, List.set_cons_zero, List.set_cons_succ]
        refine wpAnyH_take (i := 17) (v := ?vs18) (by simp only [List.getElem?_toArray, List.getElem?_cons_zero, List.getElem?_cons_succ]; rfl) (by kernel_rfl) (by kernel_rfl) (by kernel_rfl) (fun _ _ _ h => h) (Or.inl ⟨by rfl, ?hys18⟩) (by assumption) ?rests18
        case hys18 => (intro w hSw; (try dsimp only at hSw); go_simp; try with_reducible rfl)
        try simp only [Act.put, List.setIfInBounds_toArray, List.set_cons_zero, List.set_cons_succ]
        refine wpAnyH_take (i := 18) (v := ?vs19) (by simp only [List.getElem?_toArray, List.getElem?_cons_zero, List.getElem?_cons_succ]; rfl) (by kernel_rfl) (by kernel_rfl) (by kernel_rfl) (fun _ _ _ h => h) (Or.inl ⟨by rfl, ?hys19⟩) (by assumption) ?rests19
        case hys19 => (intro w hSw; (try dsimp only at hSw); go_simp; try with_reducible rfl)
        try simp only [Act.put, List.setIfInBounds_toArray, List.set_cons_zero, List.set_cons_succ]
        refine wpAnyH_done (by kernel_rfl) ?_ _
        refine NoPanic.normal ?_
        go_wp2
        go_ret
        exact ⟨rfl, hBw5.trans (b11.mono hs5)⟩

theorem checks_any (t : TreeD) (p : Ptr6) (root : Int) (w : World) (hE : Env w) (hT : TreeAt (Lt w.heap.size) w t p) (hI : ∀ x ∈ t.nodes, x.int ≤ 9223372036854775807) (b1 : t.nodes.length ≤ maxLen) (b2 : t.types.length ≤ maxLen) (b3 : t.aliases.length ≤ maxLen) :
    Calls Tryz.prog 3 #[treeV t p, .int .i64 root] w fun e w' => e = .returned (.bool true) ∧ Below w.heap.size w w' := by
  unfold maxLen at b1 b2 b3
  by_cases hG : fewB t = true
  · exact checks_yes t p root w hE hT hI hG
  · exact checks_not t p root w hE hT (by omega) (by omega) (by omega) (by simpa using hG)
end Go.Proofs.YtinajnkjfhbmkaaGreatDoor
