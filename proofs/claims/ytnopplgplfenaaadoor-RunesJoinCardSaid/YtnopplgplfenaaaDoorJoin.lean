/- Of two texts of at most 400 bytes, one behind the other, the signs are those of the first and of the second: the law returns true at every input. -/
import Derived.Test.YtnopplgplfenaaaDoorAll
import Derived.Test.YtnopplgplfenaaaDoorMathJ
namespace Go.Proofs.YtnopplgplfenaaaDoor
open Go Go.Proofs Go.RowKit Go.Shelf

theorem bad_wf (l : List UInt8) (h : badOf l < 0) : bd l 0 = l.length := by
  unfold badOf at h
  split at h
  · assumption
  · omega
theorem join_bad (a b : List UInt8) (ha : badOf a < 0) (hb : badOf b < 0) : badOf (a ++ b) = -1 := by
  have h1 := bad_wf a ha
  have h2 := bad_wf b hb
  have h3 := (sg_append a.length a b 0 (Nat.le_refl _) (by rw [h1]; omega)).2
  have h4 := (sg_shift b.length b 0 a.length (Nat.le_refl _)).2
  unfold badOf
  rw [if_pos (by rw [h3, h4, h2]; simp; omega)]
theorem join_count (a b : List UInt8) (ha : badOf a < 0) : (sg (a ++ b) 0).length = (sg a 0).length + (sg b 0).length := by
  have h1 := bad_wf a ha
  have h3 := (sg_append a.length a b 0 (Nat.le_refl _) (by rw [h1]; omega)).1
  have h4 := (sg_shift b.length b 0 a.length (Nat.le_refl _)).1
  rw [h3, h4]
  simp

set_option maxRecDepth 100000 in
set_option maxHeartbeats 2000000 in
theorem join_any (a0 : Option Addr) (len0 cap0 : Nat) (a1 : Option Addr) (len1 cap1 : Nat) (la lb : List UInt8) (w : World) (h2 : 2 ≤ w.heap.size) (hla : la.length = len0) (hlb : lb.length = len1)
    (hIa : TextAt w.heap.size w (.slice a0 len0 cap0) la) (hIb : TextAt w.heap.size w (.slice a1 len1 cap1) lb) (hT : Lib.Utf8Tabs 0 1 w) :
    Calls Tryd.prog 7 #[.slice a0 len0 cap0, .slice a1 len1 cap1] w fun e W' => e = .returned (.bool true) ∧ Below w.heap.size w W' := by
  have cL : ∀ W, Below w.heap.size w W → Calls Tryd.prog 8 #[] W fun e W' => e = .returned (.bool true) ∧ Below w.heap.size w W' := fun W hW =>
    (lives_any W (by have := hW.size; omega) (tabs_below h2 hW hT)).mono fun e W' ⟨he, hb⟩ => ⟨he, hW.trans (hb.mono hW.size)⟩
  have hB00 := Below.refl w.heap.size w
  by_cases q1 : 400 < len0
  · clear hIa hIb hT
    go_enter Tryd.func7, Tryd.ntmps7
    go_wp2_with (go_at_call 8; refine (cL _ (by assumption)).mono ?_; rintro e w1 ⟨rfl, hb1⟩)
    go_ret
    exact ⟨rfl, by assumption⟩
  by_cases q2 : 400 < len1
  · clear hIa hIb hT
    go_enter Tryd.func7, Tryd.ntmps7
    go_wp2_with (go_at_call 8; refine (cL _ (by assumption)).mono ?_; rintro e w1 ⟨rfl, hb1⟩)
    go_ret
    exact ⟨rfl, by assumption⟩
  have q1' : decide (400 < (len0 : Int)) = false := by simp; omega
  have q2' : decide (400 < (len1 : Int)) = false := by simp; omega
  have bA : ∀ W, Below w.heap.size w W → Calls Tryd.prog 9 #[.slice a0 len0 cap0] W fun e W' => e = .returned (.int .i64 (badOf la)) ∧ Below w.heap.size w W' := fun W hW =>
    (bad_any a0 len0 cap0 la (by omega) W (by have := hW.size; omega) (TextAt.more hW.size (hIa.below hW)) (tabs_below h2 hW hT)).mono fun e W' ⟨he, hb⟩ => ⟨he, hW.trans (hb.mono hW.size)⟩
  have bB : ∀ W, Below w.heap.size w W → Calls Tryd.prog 9 #[.slice a1 len1 cap1] W fun e W' => e = .returned (.int .i64 (badOf lb)) ∧ Below w.heap.size w W' := fun W hW =>
    (bad_any a1 len1 cap1 lb (by omega) W (by have := hW.size; omega) (TextAt.more hW.size (hIb.below hW)) (tabs_below h2 hW hT)).mono fun e W' ⟨he, hb⟩ => ⟨he, hW.trans (hb.mono hW.size)⟩
  have cA : ∀ W, Below w.heap.size w W → Calls Tryd.prog 12 #[.slice a0 len0 cap0] W fun e W' => e = .returned (.int .i64 ((sg la 0).length : Nat)) ∧ Below w.heap.size w W' := fun W hW =>
    (count_any a0 len0 cap0 la (by omega) W (by have := hW.size; omega) (TextAt.more hW.size (hIa.below hW)) (tabs_below h2 hW hT)).mono fun e W' ⟨he, hb⟩ => ⟨he, hW.trans (hb.mono hW.size)⟩
  have cB : ∀ W, Below w.heap.size w W → Calls Tryd.prog 12 #[.slice a1 len1 cap1] W fun e W' => e = .returned (.int .i64 ((sg lb 0).length : Nat)) ∧ Below w.heap.size w W' := fun W hW =>
    (count_any a1 len1 cap1 lb (by omega) W (by have := hW.size; omega) (TextAt.more hW.size (hIb.below hW)) (tabs_below h2 hW hT)).mono fun e W' ⟨he, hb⟩ => ⟨he, hW.trans (hb.mono hW.size)⟩
  have HJ1 := Lib.hid (join_bad la lb)
  have HJ2 := Lib.hid (join_count la lb)
  have hsa := sg_length la.length la 0 (Nat.le_refl _)
  have hsb := sg_length lb.length lb 0 (Nat.le_refl _)
  obtain ⟨x, hx⟩ : ∃ x, badOf la = x := ⟨_, rfl⟩
  obtain ⟨y, hy⟩ : ∃ y, badOf lb = y := ⟨_, rfl⟩
  obtain ⟨m, hm⟩ : ∃ m, (sg la 0).length = m := ⟨_, rfl⟩
  obtain ⟨k, hk⟩ : ∃ k, (sg lb 0).length = k := ⟨_, rfl⟩
  rw [hx] at bA HJ1 HJ2
  rw [hy] at bB HJ1
  rw [hm] at cA HJ2 hsa
  rw [hk] at cB HJ2 hsb
  clear hx hy hm hk
  have HIa := Lib.hid hIa
  have HIb := Lib.hid hIb
  have HT := Lib.hid hT
  clear hIa hIb hT
  by_cases q3 : 0 ≤ x
  · clear cA cB
    go_enter Tryd.func7, Tryd.ntmps7
    go_wp2_with (first | (go_at_call 8; refine (cL _ (by assumption)).mono ?_; rintro e w1 ⟨rfl, hb1⟩) | (go_at_call 9; refine (bA _ (by assumption)).mono ?_; rintro e w1 ⟨rfl, hb1⟩))
    go_ret
    exact ⟨rfl, by assumption⟩
  by_cases q4 : 0 ≤ y
  · clear cA cB
    go_enter Tryd.func7, Tryd.ntmps7
    go_wp2_with (first | (go_at_call 8; refine (cL _ (by assumption)).mono ?_; rintro e w1 ⟨rfl, hb1⟩) | (go_at_call 9; (first | (with_reducible refine (bA _ (by assumption)).mono ?_) | (with_reducible refine (bB _ (by assumption)).mono ?_)); rintro e w1 ⟨rfl, hb1⟩))
    go_ret
    exact ⟨rfl, by assumption⟩
  have tA : ∀ W, Below w.heap.size w W → TextAt w.heap.size W (.slice a0 len0 cap0) la := fun W hW => HIa.out.below hW
  have tB : ∀ W, Below w.heap.size w W → TextAt w.heap.size W (.slice a1 len1 cap1) lb := fun W hW => HIb.out.below hW
  have TA := Lib.hid tA
  have TB := Lib.hid tB
  clear tA tB
  go_enter Tryd.func7, Tryd.ntmps7
  go_wp2_with (first | (go_at_call 8; refine (cL _ (by assumption)).mono ?_; rintro e w1 ⟨rfl, hb1⟩) | (go_at_call 9; (first | (with_reducible refine (bA _ (by assumption)).mono ?_) | (with_reducible refine (bB _ (by assumption)).mono ?_)); rintro e w1 ⟨rfl, hb1⟩) | (at_builtin; refine wpList_append_text rfl _ _ rfl w.heap.size _ 0 [] rfl (World.ownsRow_made _ #[] 0 ?qa1 (Nat.zero_le _) (by simp)) w.heap.size _ la rfl (TA.out _ ?qa2) ?qa3 ?qa4 ?_))
  case qa1 => exact hb1.size
  case qa2 => exact hb1.alloc hb1.size _
  case qa3 => omega
  case qa4 => have := hb1.size; simp; omega
  intro v1 W1 hown1 hg1
  have hbW1 : Below w.heap.size w W1 := (hb1.alloc hb1.size _).grown hg1 (by have := hb1.size; simp; omega) (by intro k hk; simp [Value.ownBlock] at hk; have := hb1.size; omega)
  have HO1 := Lib.hid hown1
  clear hown1 hg1
  go_wp2_with (at_builtin; refine wpList_append_text rfl _ _ rfl w.heap.size _ _ _ rfl HO1.out w.heap.size _ lb rfl (TB.out _ hbW1) ?qb1 hbW1.size ?_)
  case qb1 => omega
  intro v2 W2 hown2 hg2
  have hbW2 : Below w.heap.size w W2 := hbW1.grown hg2 hbW1.size (fun k hk => (HO1.out.lt k hk).1)
  obtain ⟨a', len', cap', hv⟩ : ∃ a' len' cap', v2 = .slice a' len' cap' := by
    rcases hown2.2 with ⟨rfl, _⟩ | ⟨_, _, _, rfl, _⟩
    · exact ⟨_, _, _, rfl⟩
    · exact ⟨_, _, _, rfl⟩
  have ht2 := text_of_owns hown2
  rw [hv] at ht2 ⊢
  have hsz2 := hbW2.size
  have bC : Calls Tryd.prog 9 #[.slice a' len' cap'] W2 fun e W' => e = .returned (.int .i64 (-1)) ∧ Below w.heap.size w W' ∧ Below W2.heap.size W2 W' := by
    rw [← HJ1.out (by omega) (by omega)]
    exact (bad_any a' len' cap' (la ++ lb) (by simp; omega) W2 (by omega) ht2 (tabs_below h2 hbW2 HT.out)).mono fun e W' ⟨he, hb⟩ => ⟨he, hbW2.trans (hb.mono hsz2), hb⟩
  have cC : ∀ W, Below W2.heap.size W2 W → Calls Tryd.prog 12 #[.slice a' len' cap'] W fun e W' => e = .returned (.int .i64 ((m + k : Nat) : Int)) ∧ Below w.heap.size w W' := fun W hW => by
    rw [← HJ2.out (by omega)]
    exact (count_any a' len' cap' (la ++ lb) (by simp; omega) W (by have := hW.size; omega) (TextAt.more hW.size (ht2.below hW)) (tabs_below h2 (hbW2.trans (hW.mono hsz2)) HT.out)).mono fun e W' ⟨he, hb⟩ => ⟨he, (hbW2.trans (hW.mono hsz2)).trans (hb.mono (Nat.le_trans hsz2 hW.size))⟩
  clear hown2 hg2 ht2 hv HO1
  go_wp2_with (first | (go_at_call 9; refine bC.mono ?_; rintro e w3 ⟨rfl, hb3, hb4⟩) | (go_at_call 12; (first | (with_reducible refine (cC _ (by assumption)).mono ?_) | (with_reducible refine (cA _ (by assumption)).mono ?_) | (with_reducible refine (cB _ (by assumption)).mono ?_)); rintro e w1 ⟨rfl, hb5⟩))
  go_ret
  exact ⟨rfl, by assumption⟩

end Go.Proofs.YtnopplgplfenaaaDoor
