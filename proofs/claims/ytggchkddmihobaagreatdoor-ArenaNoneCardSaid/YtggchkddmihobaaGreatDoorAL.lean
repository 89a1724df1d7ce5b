/- The chapter's example holds. -/
import Derived.Test.YtggchkddmihobaaGreatDoorAK
import Derived.Test.YtggchkddmihobaaGreatDoorAB
set_option linter.unusedVariables false
set_option linter.unusedSimpArgs false
namespace Go.Proofs.YtggchkddmihobaaGreatDoor
open Go Go.Proofs Go.RowKit
def exH : Hd := ⟨7, [], [0, 0], false⟩
theorem exH_may : mayHB 1 exH = true := by decide +kernel
theorem exH_few : HdFew exH := ⟨by decide, by decide, fun s h => absurd h (List.not_mem_nil)⟩
set_option maxRecDepth 100000 in
set_option maxHeartbeats 4000000 in
theorem lives_any (w : World) (hE : Env w) : Calls Tryz.prog 6 #[] w fun e w' => e = .returned (.bool true) ∧ Below w.heap.size w w' := by
  have cN := new_any 9 w w.heap.size (by omega) (by omega) (Nat.le_refl _)
  go_enter Tryz.func6, Tryz.ntmps6
  go_wp2_with fail
  refine cN.mono ?_
  rintro e w1 ⟨a, m, rfl, hA, hb1, ha, _, _⟩
  have cV := var_any hA (by omega) 2 (by omega) (by simp) hb1.size (by simp)
  simp only [List.length_nil, Int.natCast_zero, List.nil_append] at cV
  have HB1 := Lib.hid hb1
  have HE0 := Lib.hid hE
  clear hE hA hb1 cN
  go_wp2_with fail
  refine cV.mono ?_
  rintro e w2 ⟨rfl, v2, g, hA2, hF2, hg, hbg, hng, hv2⟩
  have hb2 : Below w.heap.size w w2 := HB1.out.trans (hF2.below HB1.out.size (fun x hx => by rcases hx with rfl | hx; exact ha; cases hx))
  obtain ⟨W3, hW3⟩ : ∃ W, w2.alloc (.cells #[.int .i64 0, .int .i64 0] 3) = W := ⟨_, rfl⟩
  have hb3 : Below w2.heap.size w2 W3 := by rw [← hW3]; exact (Below.refl _ _).alloc (Nat.le_refl _) _
  have hX : Blk W3 w2.heap.size 3 #[.int .i64 0, .int .i64 0] := by rw [← hW3]; exact Blk.new w2 3 _
  have hok : HdOk (Lt W3.heap.size) W3 exH ⟨none, 0, some ⟨w2.heap.size, 0, none⟩, 2⟩ := ⟨SlAt.nil, sl_blk hX hX.lt rfl (fun j u hu => by simpa [exH] using hu)⟩
  have hE3 : Env W3 := (HE0.out.on hb2).on hb3
  have hA3 := hA2.below hb3
  have cH := head_any hA3 (by omega) (by simp) (Nat.le_trans hb2.size hb3.size) (by simp) exH ⟨none, 0, some ⟨w2.heap.size, 0, none⟩, 2⟩ hE3 hok exH_few (fun _ => ⟨rfl, rfl⟩) (fun u => by cases u) exH_may
  have hlv : lvlF [(2, none, some ⟨g, 0, none⟩)] exH.ks = 2 := rfl
  rw [hlv] at cH
  dsimp only [hdV, hdCells, exH, List.length_cons, List.length_nil] at cH
  have HV2 := Lib.hid hv2
  have HB2 := Lib.hid hb2
  have HB3 := Lib.hid hb3
  clear hb2 hb3 hX hok hE3 hA3 hA2 hF2 hbg hng hv2 cV
  go_wp2_with fail
  refine cH.mono ?_
  rintro e w4 ⟨rfl, v4, g4, q, hA4, hF4, hg4, _, _, _, _⟩
  have cL := level_any hA4 1 (2, some ⟨g4, 0, none⟩, none) rfl
  have hb4 : Below w.heap.size w w4 := (HB2.out.trans (HB3.out.mono HB2.out.size)).trans (hF4.below (Nat.le_trans HB2.out.size HB3.out.size) (fun x hx => by
    rcases hx with rfl | hx
    · exact ha
    · rcases HV2.out with k | ⟨g', k, k2⟩
      · rw [k] at hx; cases hx
      · rw [k] at hx; injection hx with hx; have := HB1.out.size; omega))
  have HB4 := Lib.hid hb4
  simp only [Nat.zero_add] at cL
  clear hA4 hF4 hb4 cH
  go_wp2_with (go_at_call 14; refine cL.mono ?_; rintro e w' ⟨rfl, rfl⟩)
  go_ret
  exact ⟨rfl, HB4.out⟩
end Go.Proofs.YtggchkddmihobaaGreatDoor
