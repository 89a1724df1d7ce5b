/- The line and the column of any place in any bytes are the document's: the law returns true at every input. -/
import Derived.Test.YtnopplgplfenaaaDoorRefWhere
namespace Go.Proofs.YtnopplgplfenaaaDoor
open Go Go.Proofs Go.RowKit Go.Shelf

set_option maxRecDepth 100000 in
set_option maxHeartbeats 2000000 in
theorem whereLaw_any (a0 : Option Addr) (len0 cap0 : Nat) (q : Int) (l : List UInt8) (w : World) (h2 : 2 ≤ w.heap.size) (hl : l.length = len0) (hI : TextAt w.heap.size w (.slice a0 len0 cap0) l) (hT : Lib.Utf8Tabs 0 1 w) :
    Calls Tryd.prog 6 #[.slice a0 len0 cap0, .int .i64 q] w fun e W' => e = .returned (.bool true) ∧ Below w.heap.size w W' := by
  have cL : ∀ W, Below w.heap.size w W → Calls Tryd.prog 8 #[] W fun e W' => e = .returned (.bool true) ∧ Below w.heap.size w W' := fun W hW =>
    (lives_any W (by have := hW.size; omega) (tabs_below h2 hW hT)).mono fun e W' ⟨he, hb⟩ => ⟨he, hW.trans (hb.mono hW.size)⟩
  have hB00 := Below.refl w.heap.size w
  by_cases q1 : 400 < len0
  · clear hI hT
    go_enter Tryd.func6, Tryd.ntmps6
    go_wp2_with (go_at_call 8; refine (cL _ (by assumption)).mono ?_; rintro e w1 ⟨rfl, hb1⟩)
    go_ret
    exact ⟨rfl, by assumption⟩
  have q1' : decide (400 < (len0 : Int)) = false := by simp; omega
  have cW : ∀ W, Below w.heap.size w W → Calls Tryd.prog 15 #[.slice a0 len0 cap0, .int .i64 q] W fun e W' => e = .returned (.tuple #[.int .i64 (whereOf l q).1, .int .i64 (whereOf l q).2]) ∧ Below w.heap.size w W' := fun W hW =>
    (where_any a0 len0 cap0 l q (by omega) W (by have := hW.size; omega) (TextAt.more hW.size (hI.below hW)) (tabs_below h2 hW hT)).mono fun e W' ⟨he, hb⟩ => ⟨he, hW.trans (hb.mono hW.size)⟩
  have cR : ∀ W, Below w.heap.size w W → Calls Tryd.prog 16 #[.slice a0 len0 cap0, .int .i64 q] W fun e W' => e = .returned (.tuple #[.int .i64 (whereOf l q).1, .int .i64 (whereOf l q).2]) ∧ Below w.heap.size w W' := fun W hW =>
    (refWhere_any a0 len0 cap0 q l (by omega) W (TextAt.more hW.size (hI.below hW))).mono fun e W' ⟨he, hb⟩ => ⟨he, hW.trans (hb.mono hW.size)⟩
  obtain ⟨L, hL⟩ : ∃ L, (whereOf l q).1 = L := ⟨_, rfl⟩
  obtain ⟨C, hC⟩ : ∃ C, (whereOf l q).2 = C := ⟨_, rfl⟩
  simp only [hL, hC] at cW cR
  clear hL hC hI hT
  go_enter Tryd.func6, Tryd.ntmps6
  go_wp2_with (first | (go_at_call 8; refine (cL _ (by assumption)).mono ?_; rintro e w1 ⟨rfl, hb1⟩) | (go_at_call 15; refine (cW _ (by assumption)).mono ?_; rintro e w1 ⟨rfl, hb1⟩) | (go_at_call 16; refine (cR _ (by assumption)).mono ?_; rintro e w1 ⟨rfl, hb1⟩))
  go_ret
  exact ⟨rfl, by assumption⟩

end Go.Proofs.YtnopplgplfenaaaDoor
