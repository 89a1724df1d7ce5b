/- TreeAround, where the tree or the name is too great, or there is none. -/
import Derived.Test.YtinajnkjfhbmkaaDoorAroundM
import Derived.Test.YtinajnkjfhbmkaaDoorLives
import Derived.Test.YtinajnkjfhbmkaaDoorFew
namespace Go.Proofs.YtinajnkjfhbmkaaDoor
open Go Go.Proofs Go.RowKit

/-- What a world behind the call's beginning keeps of the tree. -/
theorem tree_on {w W : World} {t : TreeD} {p : Ptr6} (hT : TreeAt (Lt w.heap.size) w t p) (hb : Below w.heap.size w W) : TreeAt (Lt W.heap.size) W t p := (hT.keep (keep_below hb)).imp (lt_mono hb.size)

set_option maxRecDepth 100000 in
set_option maxHeartbeats 4000000 in
theorem around_not (t : TreeD) (p : Ptr6) (name : ByteArray) (w : World) (hE : Env w) (hT : TreeAt (Lt w.heap.size) w t p) (b1 : t.nodes.length ≤ 9223372036854775807) (b2 : t.types.length ≤ 9223372036854775807) (b3 : t.aliases.length ≤ 9223372036854775807)
    (hs : name.size ≤ 9223372036854775807) (hG : ¬ (fewB t = true ∧ t.nodes.length ≤ 50 ∧ t.nodes.length ≠ 0 ∧ name.size ≤ 50)) :
    Calls Tryd.prog 3 #[treeV t p, .string name] w fun e w' => e = .returned (.bool true) ∧ Below w.heap.size w w' := by
  obtain ⟨W1, hW1⟩ : ∃ W1, w.alloc (.cells #[.slice p.a1 t.nodes.length p.c1, .slice p.a2 t.types.length p.c2, .slice p.a3 t.aliases.length p.c3] 26) = W1 := ⟨_, rfl⟩
  have hB1 : Below w.heap.size w W1 := by rw [← hW1]; exact (Below.refl _ _).alloc (Nat.le_refl _) _
  have hX : Blk W1 w.heap.size 26 #[.slice p.a1 t.nodes.length p.c1, .slice p.a2 t.types.length p.c2, .slice p.a3 t.aliases.length p.c3] := by rw [← hW1]; exact Blk.new w 26 _
  have hXl := hX.lt
  have kL := lives_any W1 (hE.on hB1)
  have HX := Lib.hid hX
  have HE := Lib.hid hE
  have HT := Lib.hid hT
  obtain ⟨R, hR⟩ : ∃ R, fewB t = R := ⟨_, rfl⟩
  rw [hR] at hG
  have HR := Lib.hid hR
  clear hX hE hT hR
  have hcase : R = false ∨ (R = true ∧ 50 < t.nodes.length) ∨ (R = true ∧ t.nodes.length ≤ 50 ∧ t.nodes.length = 0) ∨ (R = true ∧ t.nodes.length ≤ 50 ∧ t.nodes.length ≠ 0 ∧ 50 < name.size) := by
    cases R
    · exact .inl rfl
    · refine .inr ?_
      by_cases h1 : 50 < t.nodes.length
      · exact .inl ⟨rfl, h1⟩
      · by_cases h2 : t.nodes.length = 0
        · exact .inr (.inl ⟨rfl, by omega, h2⟩)
        · refine .inr (.inr ⟨rfl, by omega, h2, ?_⟩)
          have : ¬ name.size ≤ 50 := fun h => hG ⟨rfl, by omega, h2, h⟩
          omega
  clear hG
  rcases hcase with rfl | ⟨rfl, h1⟩ | ⟨rfl, h1, h2⟩ | ⟨rfl, h1, h2, h3⟩
  case' inr.inr.inl =>
    have d1 : decide ((50 : Int) < t.nodes.length) = false := by simp; omega
    have d2 : ((t.nodes.length : Int) == 0) = true := by rw [h2]; rfl
    have h4 : t.nodes.length ≤ 0 := by omega
    clear h2
  case' inr.inr.inr =>
    have d1 : decide ((50 : Int) < t.nodes.length) = false := by simp; omega
    have d2 : ((t.nodes.length : Int) == 0) = false := by rw [beq_eq_false_iff_ne]; omega
    have d3 : decide ((50 : Int) < name.size) = true := by simp; omega
    clear h2
  case' inr.inl =>
    have d1 : decide ((50 : Int) < t.nodes.length) = true := by simp; omega
  all_goals
    go_enter Tryd.func3, Tryd.ntmps3
    go_wp2_with fail
    refine kL.mono ?_
    rintro e w2 ⟨rfl, hb2⟩
    have hB2 : Below w.heap.size w w2 := hB1.trans (hb2.mono (by omega))
    have hX2 := HX.out.below hb2 hXl
    have y0 := hX2.cell 0
    have y1 := hX2.cell 1
    have y2 := hX2.cell 2
    simp only [List.getElem?_toArray, List.getElem?_cons_zero, List.getElem?_cons_succ] at y0 y1 y2
    have HX2 := Lib.hid hX2
    have hX2l := hX2.lt
    have kF := few_any t p w2 (tree_on HT.out hB2) b1 b2 b3
    rw [HR.out] at kF
    clear hX2 kL hb2
    go_wp2_with fail
    refine kF.mono ?_
    rintro e w3 ⟨rfl, hb3⟩
    have hB3 : Below w.heap.size w w3 := hB2.trans (hb3.mono (by omega))
    have hX3 := HX2.out.below hb3 hX2l
    have z0 := hX3.cell 0
    simp only [List.getElem?_toArray, List.getElem?_cons_zero] at z0
    have kL3 := lives_any w3 (HE.out.on hB3)
    have hB3s := hB3.size
    clear hX3 kF hb3 y0 y1 y2
    go_wp2_with (go_at_call 6; refine kL3.mono ?_; rintro e w4 ⟨rfl, hb4⟩)
    go_ret
    exact ⟨rfl, hB3.trans (hb4.mono hB3s)⟩
end Go.Proofs.YtinajnkjfhbmkaaDoor
