/- The chapter's example holds; what is appended to bytes of the call's own; All, at every text within the reach. -/
import Derived.Test.YtnopplgplfenaaaDoorWhere
import Derived.Laws.AppendOwnNone
import Derived.Lib.SlBytesConst
namespace Go.Proofs.YtnopplgplfenaaaDoor
open Go Go.Proofs Go.RowKit Go.Shelf

def cells8 (l : List UInt8) : List Value := l.map fun c => Value.int .u8 (c.toNat : Int)

theorem exSg : sg [97, 10, 98] 0 = [(0, 97), (1, 10), (2, 98)] := by
  rw [sg_cons _ _ (by decide) (by decide), show (D [97, 10, 98]) = (97, 1) by decide]
  dsimp only [List.drop]
  rw [sg_cons _ _ (by decide) (by decide), show (D [10, 98]) = (10, 1) by decide]
  dsimp only [List.drop]
  rw [sg_cons _ _ (by decide) (by decide), show (D [98]) = (98, 1) by decide]
  dsimp only [List.drop]
  rw [sg_nil _ _ rfl]
theorem exWhere : whereOf [97, 10, 98] 2 = (2, 1) := by
  rw [whereOf_stop [97, 10, 98] 2 [(0, 97), (1, 10)] (2, 98) [] exSg (by simp) (by simp)]
  decide

theorem exText (n₀ : Nat) (w : World) (h : w.heap.size < n₀) : TextAt n₀ (w.alloc (.cells #[.int .u8 97, .int .u8 10, .int .u8 98] 5 (3, 4))) (.slice (some ⟨w.heap.size, 0, none⟩) 3 3) [97, 10, 98] := by
  refine .inr ⟨w.heap.size, 0, 3, rfl, h, by simp, ?_⟩
  intro j hj
  have hn := World.alloc_heap_new w (.cells #[.int .u8 97, .int .u8 10, .int .u8 98] 5 (3, 4))
  have : j = 0 ∨ j = 1 ∨ j = 2 := by simp at hj; omega
  rcases this with rfl | rfl | rfl <;> (simp only [World.cell?, hn]; rfl)

set_option maxRecDepth 100000 in
set_option maxHeartbeats 1000000 in
theorem lives_any (w : World) (h2 : 2 ≤ w.heap.size) (hT : Lib.Utf8Tabs 0 1 w) :
    Calls Tryd.prog 8 #[] w fun e W' => e = .returned (.bool true) ∧ Below w.heap.size w W' := by
  have hB0 : Below w.heap.size w (w.alloc (.cells #[.int .u8 97, .int .u8 10, .int .u8 98] 5 (3, 4))) := (Below.refl _ w).alloc (Nat.le_refl _) _
  have c1 := where_any (some ⟨w.heap.size, 0, none⟩) 3 3 [97, 10, 98] 2 (by simp) (w.alloc (.cells #[.int .u8 97, .int .u8 10, .int .u8 98] 5 (3, 4))) (by simp; omega) (exText _ _ (by simp)) (tabs_below h2 hB0 hT)
  rw [exWhere] at c1
  have c2 : ∀ W : World, Below w.heap.size w W → Calls Tryd.prog 12 #[.slice (some ⟨W.heap.size, 0, none⟩) 3 3] (W.alloc (.cells #[.int .u8 97, .int .u8 10, .int .u8 98] 5 (3, 4))) fun e W' => e = .returned (.int .i64 (3 : Nat)) ∧ Below w.heap.size w W' := fun W hW => by
    have := count_any (some ⟨W.heap.size, 0, none⟩) 3 3 [97, 10, 98] (by simp) (W.alloc (.cells #[.int .u8 97, .int .u8 10, .int .u8 98] 5 (3, 4))) (by have := hW.size; simp; omega) (exText _ _ (by simp)) (tabs_below h2 (hW.alloc hW.size _) hT)
    rw [exSg] at this
    exact this.mono fun e W' ⟨he, hb⟩ => ⟨he, (hW.alloc hW.size _).trans (hb.mono (by have := hW.size; simp; omega))⟩
  have HB := Lib.hid hB0
  clear hB0 hT
  have kc := fun (w : World) (C : Array Value) (n c : Nat) => Lib.run_convert_bytes_const (P := Tryd.prog) w 22 5 C n c Tryd.underlying22 Tryd.underlying5
  go_enter Tryd.func8, Tryd.ntmps8
  go_wp2_with (first | (go_at_call 15; refine c1.mono ?_; rintro e w1 ⟨rfl, hb1⟩; have hbw := HB.out.trans (hb1.mono (by simp)); clear hb1) | (go_at_call 12; refine (c2 _ (by assumption)).mono ?_; rintro e w2 ⟨rfl, hb2⟩))
  go_ret
  exact ⟨rfl, by assumption⟩

end Go.Proofs.YtnopplgplfenaaaDoor
