/- The bytes of a sign, as the document's answer has them, at every number. -/
import Derived.Test.YtnopplgplfenaaaDoorAll
import Derived.Lib.RuneBytes
import Derived.Shelf.Utf8.AppendRunePlain
namespace Go.Proofs.YtnopplgplfenaaaDoor
open Go Go.Proofs Go.RowKit Go.Shelf

/-- The number is a sign's. -/
def isSign (r : Int) : Prop := 0 ≤ r ∧ r ≤ 1114111 ∧ ¬ (55296 ≤ r ∧ r ≤ 57343)
/-- Its bytes. -/
def encB (r : Int) : List UInt8 := (Lib.encodeRuneZ r).map fun x => UInt8.ofNat x.toNat

theorem cells_encB (r : Int) : cells8 (encB r) = Lib.runeCells r := by
  unfold cells8 encB Lib.runeCells
  rw [List.map_map]
  apply List.map_congr_left
  intro x hx
  have := Lib.encodeRuneZ_byte r x hx
  simp
  omega

theorem text_new (n₀ : Nat) (w : World) (l : List UInt8) (cs : Array Value) (hc : cs = (cells8 l).toArray) (h : w.heap.size < n₀) : TextAt n₀ (w.alloc (.cells cs 5)) (.slice (some ⟨w.heap.size, 0, none⟩) l.length l.length) l := by
  subst hc
  refine .inr ⟨w.heap.size, 0, l.length, rfl, h, Nat.le_refl _, ?_⟩
  intro j hj
  have hn := World.alloc_heap_new w (.cells (cells8 l).toArray 5)
  simp only [World.cell?, hn]
  simp [cells8, List.getD_eq_getElem?_getD, List.getElem?_eq_getElem hj]

/-- What the document's answer leaves for a sign. -/
def RefEnc (r : Int) (w : World) (e : Ending) (w' : World) : Prop :=
  e = .returned (.tuple #[.slice (some ⟨w.heap.size, 0, none⟩) (encB r).length (encB r).length, .bool true]) ∧ w' = w.alloc (.cells (cells8 (encB r)).toArray 5)

set_option maxHeartbeats 2000000 in
theorem refEnc_bad (r : Int) (h : ¬ isSign r) (w : World) :
    Calls Tryd.prog 14 #[.int .i64 r] w fun e w' => e = .returned (.tuple #[.slice none 0 0, .bool false]) ∧ w' = w := by
  unfold isSign at h
  by_cases c1 : r < 0
  · clear h
    go_enter Tryd.func14, Tryd.ntmps14
    go_wp2
    go_ret2
    exact ⟨rfl, rfl⟩
  · by_cases c2 : 1114111 < r
    · clear h
      go_enter Tryd.func14, Tryd.ntmps14
      go_wp2
      go_ret2
      exact ⟨rfl, rfl⟩
    · have c3 : 55296 ≤ r := by omega
      have c4 : r ≤ 57343 := by omega
      clear h
      go_enter Tryd.func14, Tryd.ntmps14
      go_wp2
      go_ret2
      exact ⟨rfl, rfl⟩

theorem refEnc_mk (r : Int) (w : World) (zs : List Int) (h : Lib.encodeRuneZ r = zs) : RefEnc r w (.returned (.tuple #[.slice (some ⟨w.heap.size, 0, none⟩) zs.length zs.length, .bool true])) (w.alloc (.cells (zs.map fun x => Value.int .u8 x).toArray 5)) := by
  unfold RefEnc
  rw [cells_encB]
  unfold Lib.runeCells encB
  rw [h]
  simp

set_option maxHeartbeats 2000000 in
theorem refEnc_ok (r : Int) (h : isSign r) (w : World) : Calls Tryd.prog 14 #[.int .i64 r] w (RefEnc r w) := by
  obtain ⟨h0, h1, h2⟩ := h
  by_cases c1 : r ≤ 127
  · have he := Lib.hid (Lib.encodeRuneZ_one h0 c1)
    clear h2
    go_enter Tryd.func14, Tryd.ntmps14
    go_wp2
    go_ret2
    exact refEnc_mk r w _ he.out
  by_cases c2 : r ≤ 2047
  · have he := Lib.hid (Lib.encodeRuneZ_two (r := r) (by omega) c2)
    clear h2
    go_enter Tryd.func14, Tryd.ntmps14
    go_wp2
    go_ret2
    exact refEnc_mk r w _ he.out
  by_cases c3 : r ≤ 65535
  · have he := Lib.hid (Lib.encodeRuneZ_three (r := r) (by omega))
    by_cases c4 : r < 55296
    · clear h2
      go_enter Tryd.func14, Tryd.ntmps14
      go_wp2
      go_ret2
      exact refEnc_mk r w _ he.out
    · have c5 : 57343 < r := by omega
      clear h2
      go_enter Tryd.func14, Tryd.ntmps14
      go_wp2
      go_ret2
      exact refEnc_mk r w _ he.out
  · have he := Lib.hid (Lib.encodeRuneZ_four (r := r) (by omega) h1)
    clear h2
    go_enter Tryd.func14, Tryd.ntmps14
    go_wp2
    go_ret2
    exact refEnc_mk r w _ he.out

/-! ### The program's own -/
theorem valid_any (r : Int) (w : World) : Calls Tryd.prog 22 #[.int .i32 r] w fun e w' => e = .returned (.bool (Lib.validRune r)) ∧ w = w' :=
  (Any.utf8_ValidRune Tryd.lays119 r w).mono fun _ _ ⟨h1, h2⟩ => ⟨h1, h2.symm⟩
theorem valid_is (r : Int) : Lib.validRune r = true ↔ isSign r := by
  unfold Lib.validRune isSign
  rw [decide_eq_true_iff]
  omega

theorem append_nil_any (r : Int) (h0 : -2147483648 ≤ r) (h1 : r ≤ 2147483647) (w : World) :
    Calls Tryd.prog 23 #[.slice none 0 0, .int .i32 r] w fun e w' => (∃ a n c, e = .returned (.slice a n c) ∧ TextAt w'.heap.size w' (.slice a n c) (encB r)) ∧ Below w.heap.size w w' := by
  have := Any.utf8_AppendRune_plain Tryd.lays242 info5 w.heap.size (.slice none 0 0) 0 [] r h0 h1 w (World.ownsRow_nil _ _ _ _) (by decide) (Nat.le_refl _)
  refine this.mono ?_
  rintro e w' ⟨v', rfl, hown, o, hg⟩
  rw [List.nil_append, ← cells_encB] at hown
  have ht := text_of_owns hown
  obtain ⟨a', len', cap', hv⟩ : ∃ a' len' cap', v' = .slice a' len' cap' := by
    rcases hown.2 with ⟨rfl, _⟩ | ⟨_, _, _, rfl, _⟩
    · exact ⟨_, _, _, rfl⟩
    · exact ⟨_, _, _, rfl⟩
  subst hv
  exact ⟨⟨_, _, _, rfl, ht⟩, ((Below.refl _ w).alloc (Nat.le_refl _) o).grown hg (by simp) (by intro k hk; cases hk)⟩

theorem encode_any (r : Int) (h0 : -2147483648 ≤ r) (h1 : r ≤ 2147483647) (h : isSign r) (w : World) :
    Calls Tryd.prog 13 #[.int .i32 r] w fun e w' => (∃ a n c, e = .returned (.tuple #[.slice a n c, .int .i64 0]) ∧ TextAt w'.heap.size w' (.slice a n c) (encB r)) ∧ Below w.heap.size w w' := by
  have hv := (valid_is r).2 h
  have hA := append_nil_any r h0 h1
  have hV := valid_any r
  rw [hv] at hV
  clear hv h
  go_enter Tryd.func13, Tryd.ntmps13
  go_wp2_with (first | (go_at_call 22; refine (hV _).mono ?_; rintro e w' ⟨rfl, rfl⟩) | (go_at_call 23; refine (hA _).mono ?_; rintro e w1 ⟨⟨a, n, c, rfl, ht⟩, hb⟩; have HT := Lib.hid ht; clear ht))
  go_ret2
  exact ⟨⟨_, _, _, rfl, HT.out⟩, hb⟩
theorem encode_bad (r : Int) (h : ¬ isSign r) (w : World) :
    Calls Tryd.prog 13 #[.int .i32 r] w fun e w' => e = .returned (.tuple #[.slice none 0 0, .int .i64 2]) ∧ w = w' := by
  have hv : Lib.validRune r = false := by
    cases hc : Lib.validRune r
    · rfl
    · exact absurd ((valid_is r).1 hc) h
  have hV := valid_any r
  rw [hv] at hV
  clear hv h
  go_enter Tryd.func13, Tryd.ntmps13
  go_wp2_with (go_at_call 22; refine (hV _).mono ?_; rintro e w' ⟨rfl, rfl⟩)
  go_ret2
  exact ⟨rfl, rfl⟩

end Go.Proofs.YtnopplgplfenaaaDoor
