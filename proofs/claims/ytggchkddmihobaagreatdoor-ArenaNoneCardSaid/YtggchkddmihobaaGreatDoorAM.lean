/- ArenaNone's walk. -/
import Derived.Test.YtggchkddmihobaaGreatDoorAL
import Derived.Sort.QuietIn
set_option linter.unusedVariables false
set_option linter.unusedSimpArgs false
namespace Go.Proofs.YtggchkddmihobaaGreatDoor
open Go Go.Proofs Go.RowKit Go.Shelf
attribute [local go_sem] Oper.semAt_some
def NoPanic (Q : Exit → Act → World → Prop) : Exit → Act → World → Prop
  | .panic _, _, _ => False
  | e, a, w => Q e a w
theorem wpIn_noPanic {F : Fence} {n : Nat} {P : Program} {c : Code} {Q : Exit → Act → World → Prop} {a : Act} {w : World} (h : c.wpIn F n P (NoPanic Q) a w) : c.wpIn F n P Q a w :=
  wpIn_mono h (fun e _ _ h => by cases e <;> first | exact h | exact h.elim)
theorem symW {P : Program} {f : FuncId} {args : Array Value} {w : World} {v : Value} (h : Calls P f args w fun e w' => e = .returned v ∧ w = w') : Calls P f args w fun e w' => e = .returned v ∧ w' = w := h.mono fun _ _ ⟨a, b⟩ => ⟨a, b.symm⟩
set_option maxRecDepth 100000 in
set_option maxHeartbeats 4000000 in
theorem none_any (i j : Int) (b : Bool) (w : World) (hE : Env w) : Calls Tryz.prog 5 #[.int .i64 i, .int .i64 j, .bool b] w fun e w' => e = .returned (.bool true) ∧ Below w.heap.size w w' := by
  have cL := lives_any w hE
  clear hE
  refine (callsIn_wide (n := 9)).1 ?_
  refine callsIn_of_wp_marks Tryz.func5 rfl trivial ?_ rfl
  simp only [Tryz.ntmps5, List.size_toArray, List.length_cons, List.length_nil, Nat.reduceAdd, Nat.reduceSub, Array.replicate_succ, Array.replicate_zero, List.push_toArray, List.append_toArray, List.nil_append, List.cons_append]
  gi_wp2_with (refine ⟨trivial, ?_⟩; first
    | (gi_at_call 6; refine (callsIn_wide.2 cL).mono ?_; rintro e w1 ⟨rfl, hb1⟩; have HB1 := Lib.hid hb1; clear hb1)
    | (gi_at_call 10; refine (callsIn_wide.2 (varN_any _ _)).mono ?_; rintro e w' ⟨rfl, rfl⟩)
    | (gi_at_call 24; refine (callsIn_wide.2 (headN_any _)).mono ?_; rintro e w2 ⟨rfl, hb2⟩; have HB2 := Lib.hid hb2; clear hb2)
    | (gi_at_call 25; refine (callsIn_wide.2 (basic0_any _)).mono ?_; rintro e w3 ⟨A, rfl, hb3⟩; have HB3 := Lib.hid hb3; clear hb3)
    | (gi_at_call 12; refine (callsIn_wide.2 (graphN_any _ _ _ _ _)).mono ?_; rintro e w4 ⟨rfl, hb4⟩; have HB4 := Lib.hid hb4; clear hb4)
    | (gi_at_call 26; refine (callsIn_wide.2 (boundN_any _ _ _ _)).mono ?_; rintro e w' ⟨rfl, rfl⟩)
    | (gi_at_call 13; refine (callsIn_wide.2 (atN_any _ _)).mono ?_; rintro e w5 ⟨rfl, hb5⟩; have HB5 := Lib.hid hb5; clear hb5)
    | (gi_at_call 18; refine (mkParts_in _ _ _).mono ?_; rintro e w' ⟨rfl, rfl⟩))
  obtain ⟨U1, hU1⟩ : ∃ W, w5.alloc (.cells #[.int .i64 0, .slice none 0 0, .slice none 0 0, .bool false] 38) = W := ⟨_, rfl⟩
  obtain ⟨U2, hU2⟩ : ∃ W, U1.alloc (.cells #[.int .i64 0] 3) = W := ⟨_, rfl⟩
  obtain ⟨U3, hU3⟩ : ∃ W, U2.alloc (.cells #[.pointer none] 27) = W := ⟨_, rfl⟩
  rw [hU1, hU2, hU3]
  have s1 : U1.heap.size = w5.heap.size + 1 := by rw [← hU1]; simp
  have s2 : U2.heap.size = w5.heap.size + 2 := by rw [← hU2]; simp [s1]
  have s3 : U3.heap.size = w5.heap.size + 3 := by rw [← hU3]; simp [s2]
  have f1 : Below w5.heap.size w5 U1 := by rw [← hU1]; exact (Below.refl _ _).alloc (Nat.le_refl _) _
  have f2 : Below U1.heap.size U1 U2 := by rw [← hU2]; exact (Below.refl _ _).alloc (Nat.le_refl _) _
  have f3 : Below U2.heap.size U2 U3 := by rw [← hU3]; exact (Below.refl _ _).alloc (Nat.le_refl _) _
  have bN : Boxed U3 (w5.heap.size + 1) 3 (.int .i64 0) := by
    have : Boxed U2 (w5.heap.size + 1) 3 (.int .i64 0) := by rw [← hU2, ← s1]; exact Boxed.new U1 3 _
    rw [← hU3]; exact this.alloc _
  have bP : Boxed U3 (w5.heap.size + 2) 27 (.pointer none) := by rw [← hU3, ← s2]; exact Boxed.new U2 27 _
  have hB : Below w.heap.size w U3 := by
    have h1 := HB1.out
    have h2 := h1.trans (HB2.out.mono h1.size)
    have h3 := h2.trans (HB3.out.mono h2.size)
    have h4 := h3.trans (HB4.out.mono h3.size)
    have h5 := h4.trans (HB5.out.mono h4.size)
    have h6 := h5.trans (f1.mono h5.size)
    have h7 := h6.trans (f2.mono h6.size)
    exact h7.trans (f3.mono h7.size)
  have hw5 : w.heap.size ≤ w5.heap.size := by
    have h1 := HB1.out
    have h2 := h1.trans (HB2.out.mono h1.size)
    have h3 := h2.trans (HB3.out.mono h2.size)
    have h4 := h3.trans (HB4.out.mono h3.size)
    have h5 := h4.trans (HB5.out.mono h4.size)
    exact h5.size
  clear hU1 hU2 hU3 s1 s2 f1 f2 f3 HB1 HB2 HB3 HB4 HB5 cL
  refine wpIn_rangeFunc_ownG rfl (by omega) (gf := 37) (lb := #[.pointer (some ⟨w5.heap.size + 2, 0, none⟩)]) rfl trivial (enters_of Tryz.func37 (by kernel_rfl) rfl)
    (partsN_stops (9 - 1) (by omega) (w5.heap.size + 2) U3 (by omega) bP.cell) (fun _ _ => trivial) (fun _ _ _ _ _ _ _ _ => trivial) (Below.refl _ _) (fun x => nomatch x)
    (fun _ W' => (W'.cell? ⟨w5.heap.size + 1, 0, none⟩ = some (.int .i64 0) ∧ W'.frozen? ⟨w5.heap.size + 1, 0, none⟩ = false) ∧ Below w.heap.size w W') (fun _ _ _ => False)
    (OwnFrom.and (Own.from (fun s A B row hs hg hr => ⟨cell_kept hs.1 hg hr, (frozen_kept hs.1 hg hr).trans hs.2⟩) _) (ownFrom_below (Nat.le_refl _) (by omega)))
    (fun _ _ _ _ _ hs _ _ => hs) ⟨⟨bN.cell, bN.frozen⟩, hB⟩ (fun x => nomatch x) (fun _ _ x => nomatch x) (fun _ _ x => nomatch x) ?done ?stop
  case done =>
    rintro D ys W' hD hys ⟨⟨hc, _⟩, hBW⟩ hK
    have hBW' : Below w.heap.size w (W'.putObj D (.deferred none)) := hBW.trans (belowK_b (w := w) (Nat.le_refl _) W' D _ _ (by omega) hK rfl rfl)
    gi_wp2
    refine wpIn_noPanic ?_
    refine wpIn_wide.2 ?_
    go_quiet ((first
      | (go_at_call 20; exact Calls.quiet_of_same (symW (isVarN_any _ _)))
      | (go_at_call 14; exact Calls.quiet_of_same (symW (levelN_any _ _)))
      | (go_at_call 11; exact Calls.quiet_of_same (symW (lenN_any _)))
      | (go_at_call 22; exact Calls.quiet_of_same (symW (lowN_any _ _)))
      | (go_at_call 23; exact Calls.quiet_of_same (symW (highN_any _ _)))))
    dsimp only [NoPanic]
    gi_wp2
    have hK' : (W'.drewN nq).heap[D]? = some (.deferred (some [])) := hK
    have hBX : Below w.heap.size w ((W'.drewN nq).putObj D (.deferred none)) := (below_drewN hBW nq).trans (belowK_b (w := w) (Nat.le_refl _) (W'.drewN nq) D _ _ (by omega) hK' rfl rfl)
    refine ⟨by simp, .inl ⟨_, _, rfl, run_takeDeferred hK', ?_⟩⟩
    exact ⟨_, results_tmp rfl _ _ _, rfl, hBX⟩
  case stop =>
    rintro D c pre W' _ _ h _
    exact h.elim
end Go.Proofs.YtggchkddmihobaaGreatDoor
