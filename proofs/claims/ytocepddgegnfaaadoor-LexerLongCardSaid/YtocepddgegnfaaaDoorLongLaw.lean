/- A text that is longer than may be is told so, ahead of all else: the law returns true at every byte. -/
import Derived.Test.YtocepddgegnfaaaDoorLives
namespace Go.Proofs.YtocepddgegnfaaaDoor
open Go Go.Proofs Go.RowKit

set_option maxRecDepth 100000 in
set_option maxHeartbeats 2000000 in
theorem long_any (c : UInt8) (w : World) (hE : Env w) : Calls Tryd.prog 7 #[.int .u8 (c.toNat : Int)] w fun e W' => e = .returned (.bool true) ∧ Below w.heap.size w W' := by
  have hsz := hE.size
  have cL := lives_any w hE
  obtain ⟨i5, hi5, hz0, hz1, hz2⟩ := info_parts info5
  obtain ⟨N, hN⟩ : ∃ N : Nat, N = 1048577 := ⟨_, rfl⟩
  have hNi : (1048577 : Int) = (N : Int) := by rw [hN]; rfl
  go_enter Tryd.func7, Tryd.ntmps7
  rw [hNi]
  go_wp2_with fail
  with_reducible refine cL.mono ?_
  rintro e w1 ⟨rfl, hb1⟩
  clear cL
  go_wp2_with (at_make; refine wpList_make_full _ rfl _ _ 22 rfl w1.heap.size 5 i5 (.int .u8 0) 1 Tryd.underlying22 hi5 hz0 hz1 _ _ _ _ N rfl rfl rfl rfl (by rw [hz2, hN]; decide) (by rw [hN]; decide) (Nat.le_refl _) ?_)
  intro W2 hown hg2
  have hW2 : Below w1.heap.size w1 W2 := (Below.refl _ _).grown hg2 (Nat.le_refl _) (by intro k hk; cases hk)
  have hmc : (madeCells (Value.int IntKind.u8 0).cells (N * 1)).toList = List.replicate N (.int .u8 0) := by
    rw [Nat.mul_one]; exact toList_madeCells_one _ _
  rw [hmc] at hown
  obtain ⟨g, cap, hv, _, hgl, _, hc⟩ := row_cells hown (by omega)
  have hge : w1.heap.size = g := by
    simp only [Value.slice.injEq, Option.some.injEq, Addr.mk.injEq] at hv
    exact hv.1.1
  have hfz : W2.frozen? ⟨w1.heap.size, 0, none⟩ = false := by
    rcases hown.2 with ⟨h, _⟩ | ⟨g', cap', cur, h, _, hg', _⟩
    · cases h
    · simp only [Value.slice.injEq, Option.some.injEq, Addr.mk.injEq] at h
      rw [h.1.1]
      simp only [World.frozen?, hg']
      first | done | rfl
  subst hge
  have hcell : ∀ j, j < N → W2.cell? ⟨w1.heap.size, j, none⟩ = some (.int .u8 0) := fun j hj => hc j _ (by rw [List.getElem?_replicate, if_pos hj])
  have h0 := hcell 0 (by omega)
  have hpos : 0 < N := by omega
  have HN : Hid (1048576 < N) := Lib.hid (by omega)
  clear hown hg2 hmc hc hv
  obtain ⟨W3, hW3⟩ : ∃ W3, W2.setCell ⟨w1.heap.size, 0, none⟩ (.int .u8 (c.toNat : Int)) = W3 := ⟨_, rfl⟩
  have hb3 : Below w1.heap.size w1 W3 := by rw [← hW3]; exact hW2.setCell (p := ⟨w1.heap.size, 0, none⟩) (Nat.le_refl _) _
  have hs3 : W3.heap.size = W2.heap.size := by rw [← hW3]; simp
  have hll : (c :: List.replicate (N - 1) 0).length = N := by simp; omega
  have hT : TextAt W3.heap.size W3 (.slice (some ⟨w1.heap.size, 0, none⟩) N N) (c :: List.replicate (N - 1) 0) := by
    refine .inr ⟨w1.heap.size, 0, N, by rw [hll], by omega, by omega, fun j hj => ?_⟩
    rw [hll] at hj
    rw [Nat.zero_add, ← hW3]
    by_cases hj0 : j = 0
    · subst hj0
      exact World.cell?_setCell_same W2 ⟨w1.heap.size, 0, none⟩ _ h0
    · rw [World.cell?_setCell_other W2 ⟨w1.heap.size, 0, none⟩ ⟨w1.heap.size, j, none⟩ _ (by intro e; simp only [Addr.mk.injEq] at e; omega), hcell j hj]
      obtain ⟨i, rfl⟩ : ∃ i, j = i + 1 := ⟨j - 1, by omega⟩
      have hi : i < N - 1 := by omega
      simp [hi]
  have hE3 := (hE.on hb1).on hb3
  have cX := lex_any (some ⟨w1.heap.size, 0, none⟩) N N _ W3 hE3 hll hT
  have cX' : Calls Tryd.prog 9 #[.slice (some ⟨w1.heap.size, 0, none⟩) N N] W3 fun e W' => e = .returned (.tuple #[.slice none 0 0, .agg #[.int .i64 6, .int .i64 0, .string ⟨#[]⟩]]) ∧ Below W3.heap.size W3 W' := by
    refine cX.mono fun e W' h => ?_
    unfold LexPost at h
    have hA : lexA (c :: List.replicate (N - 1) 0) = .error (6, 0) := by unfold lexA; rw [if_pos (by omega)]
    rw [hA] at h
    exact h
  have hbA := (hb1.trans (hb3.mono hb1.size))
  have hsA := hbA.size
  clear cX hT hll hE3 hcell hW2 hb3 hN hNi
  go_wp2_with fail
  with_reducible refine cX'.mono ?_
  rintro e w4 ⟨rfl, hb4⟩
  have hs4 := hb4.size
  go_wp2_with fail
  go_ret
  refine ⟨rfl, ?_⟩
  exact (hbA.trans (hb4.mono (by omega))).alloc (by omega) _
end Go.Proofs.YtocepddgegnfaaaDoor
