/- A well-formed text of at most 400 bytes, cut at a sign's place, is two, each well-formed; cut within a sign neither is: the law returns true at every input. -/
import Derived.Test.YtnopplgplfenaaaDoorAll
import Derived.Test.YtnopplgplfenaaaDoorMathC
import Derived.Test.YtnopplgplfenaaaDoorMathJ
import Derived.IntWalk
import Derived.PlainAid
namespace Go.Proofs.YtnopplgplfenaaaDoor
open Go Go.Proofs Go.RowKit Go.Shelf

attribute [local go_sem] Oper.semAt_some

theorem cut_ok (l : List UInt8) (m : Nat) (hw : badOf l < 0) (hm : m ≤ l.length) (hp : isPlace l 0 m) : badOf (l.take m) = -1 ∧ badOf (l.drop m) = -1 := by
  have hbd : bd l 0 = l.length := by
    unfold badOf at hw
    split at hw
    · assumption
    · omega
  have h := (cuts l.length l 0 m (Nat.le_refl _) (by rw [hbd]; omega) hm).1 hp
  have h2 := (sg_shift (l.drop m).length (l.drop m) 0 m (Nat.le_refl _)).2
  unfold badOf
  rw [if_pos (by rw [h.1]; simp; omega), if_pos (by rw [h2] at h; simp only [List.length_drop]; omega)]
  exact ⟨rfl, rfl⟩
theorem cut_no (l : List UInt8) (m : Nat) (hw : badOf l < 0) (hm : m ≤ l.length) (hp : ¬ isPlace l 0 m) : 0 ≤ badOf (l.take m) ∧ badOf (l.drop m) = 0 := by
  have hbd : bd l 0 = l.length := by
    unfold badOf at hw
    split at hw
    · assumption
    · omega
  have h := (cuts l.length l 0 m (Nat.le_refl _) (by rw [hbd]; omega) hm).2 hp
  have hne : m ≠ l.length := fun e => hp (Or.inl e)
  unfold badOf
  rw [if_neg (by simp; omega), if_neg (by rw [bd_bad _ 0 h.2]; simp only [List.length_drop]; omega), bd_bad _ 0 h.2]
  exact ⟨by omega, rfl⟩

/-- The place m is the end, or one of the signs' that have come. -/
def placeB {N : Nat} (m n : Nat) (pre : List (Sg N)) : Bool := (m : Int) == (n : Int) || pre.any fun x => (x.1.1 : Int) == (m : Int)
theorem placeB_snoc {N : Nat} (m n : Nat) (pre : List (Sg N)) (x : Sg N) : placeB m n (pre ++ [x]) = (placeB m n pre || (x.1.1 : Int) == (m : Int)) := by
  simp [placeB, Bool.or_assoc]
theorem placeB_is {N : Nat} (m : Nat) (l : List UInt8) (ys : List (Sg N)) (h : ys.map Subtype.val = sg l 0) : placeB m l.length ys = true ↔ isPlace l 0 m := by
  unfold placeB isPlace
  rw [← h]
  simp only [Bool.or_eq_true, beq_iff_eq, List.any_eq_true, List.mem_map]
  constructor
  · rintro (e | ⟨x, hx, e⟩)
    · left; omega
    · right; exact ⟨x.1, ⟨x, hx, rfl⟩, by omega⟩
  · rintro (e | ⟨_, ⟨x, hx, rfl⟩, e⟩)
    · left; omega
    · right; exact ⟨x, hx, by omega⟩

theorem cut_place (q : Int) (n : Nat) (hn : n ≤ 400) : ∃ m : Nat, m ≤ n ∧ wrap64 ((IntKind.u64.wrap q).tmod ((n : Int) + 1)) = (m : Int) := by
  have hu : 0 ≤ IntKind.u64.wrap q := by simp [IntKind.wrap, IntKind.bits, IntKind.signed]; omega
  have h1 := Int.tmod_nonneg ((n : Int) + 1) hu
  have h2 := Int.tmod_lt_of_pos (IntKind.u64.wrap q) (show (0 : Int) < (n : Int) + 1 by omega)
  obtain ⟨t, ht⟩ : ∃ t, (IntKind.u64.wrap q).tmod ((n : Int) + 1) = t := ⟨_, rfl⟩
  rw [ht] at h1 h2 ⊢
  refine ⟨t.toNat, by omega, ?_⟩
  rw [← PlainAid.i64_is, IntWalk.i64_in _ (by omega)]
  omega

set_option maxRecDepth 100000 in
set_option maxHeartbeats 2000000 in
theorem cuts_any (a0 : Option Addr) (len0 cap0 : Nat) (q : Int) (l : List UInt8) (w : World) (h2 : 2 ≤ w.heap.size) (hl : l.length = len0) (_hq1 : -9223372036854775808 ≤ q) (_hq2 : q ≤ 9223372036854775807)
    (hI : TextAt w.heap.size w (.slice a0 len0 cap0) l) (hT : Lib.Utf8Tabs 0 1 w) :
    Calls Tryd.prog 3 #[.slice a0 len0 cap0, .int .i64 q] w fun e W' => e = .returned (.bool true) ∧ Below w.heap.size w W' := by
  have cL : ∀ W, Below w.heap.size w W → Calls Tryd.prog 8 #[] W fun e W' => e = .returned (.bool true) ∧ Below w.heap.size w W' := fun W hW =>
    (lives_any W (by have := hW.size; omega) (tabs_below h2 hW hT)).mono fun e W' ⟨he, hb⟩ => ⟨he, hW.trans (hb.mono hW.size)⟩
  have hB00 : Below w.heap.size w (w.alloc (.cells #[.int .i64 q] 3)) := (Below.refl _ w).alloc (Nat.le_refl _) _
  by_cases q1 : 400 < len0
  · clear hI hT
    go_enter Tryd.func3, Tryd.ntmps3
    go_wp2_with (go_at_call 8; refine (cL _ (by assumption)).mono ?_; rintro e w1 ⟨rfl, hb1⟩)
    go_ret
    exact ⟨rfl, by assumption⟩
  have q1' : decide (400 < (len0 : Int)) = false := by simp; omega
  have bA : ∀ W, Below w.heap.size w W → Calls Tryd.prog 9 #[.slice a0 len0 cap0] W fun e W' => e = .returned (.int .i64 (badOf l)) ∧ Below w.heap.size w W' := fun W hW =>
    (bad_any a0 len0 cap0 l (by omega) W (by have := hW.size; omega) (TextAt.more hW.size (hI.below hW)) (tabs_below h2 hW hT)).mono fun e W' ⟨he, hb⟩ => ⟨he, hW.trans (hb.mono hW.size)⟩
  have HI := Lib.hid hI
  have HT := Lib.hid hT
  clear hI hT
  by_cases q3 : 0 ≤ badOf l
  · obtain ⟨x, hx⟩ : ∃ x, badOf l = x := ⟨_, rfl⟩
    rw [hx] at bA q3
    clear hx
    go_enter Tryd.func3, Tryd.ntmps3
    go_wp2_with (first | (go_at_call 8; refine (cL _ (by assumption)).mono ?_; rintro e w1 ⟨rfl, hb1⟩) | (go_at_call 9; refine (bA _ (by assumption)).mono ?_; rintro e w1 ⟨rfl, hb1⟩))
    go_ret
    exact ⟨rfl, by assumption⟩
  obtain ⟨W0, hW0⟩ : ∃ W0, w.alloc (.cells #[.int .i64 q] 3) = W0 := ⟨_, rfl⟩
  have hs0 : W0.heap.size = w.heap.size + 1 := by rw [← hW0]; simp
  have bQ : Boxed W0 w.heap.size 3 (.int .i64 q) := by rw [← hW0]; exact Boxed.new _ _ _
  have hBW0 : Below w.heap.size w W0 := by rw [← hW0]; exact hB00
  have kL : ∀ W, Below W0.heap.size W0 W → Calls Tryd.prog 8 #[] W fun e W' => e = .returned (.bool true) ∧ Below W0.heap.size W0 W' ∧ W'.cell? ⟨w.heap.size, 0, none⟩ = some (.int .i64 q) ∧ W'.frozen? ⟨w.heap.size, 0, none⟩ = false := fun W hW =>
    (lives_any W (by have := hW.size; omega) (tabs_below h2 (hBW0.trans (hW.mono (by omega))) HT.out)).mono fun e W' ⟨he, hb⟩ => by
      have h := hW.trans (hb.mono hW.size)
      exact ⟨he, h, (h.cell (p := ⟨w.heap.size, 0, none⟩) (by simp; omega)).trans bQ.cell, (h.frozen (p := ⟨w.heap.size, 0, none⟩) (by simp; omega)).trans bQ.frozen⟩
  have kB : ∀ W, Below W0.heap.size W0 W → Calls Tryd.prog 9 #[.slice a0 len0 cap0] W fun e W' => e = .returned (.int .i64 (badOf l)) ∧ Below W0.heap.size W0 W' ∧ W'.cell? ⟨w.heap.size, 0, none⟩ = some (.int .i64 q) ∧ W'.frozen? ⟨w.heap.size, 0, none⟩ = false := fun W hW =>
    (bad_any a0 len0 cap0 l (by omega) W (by have := hW.size; omega) (TextAt.more (by have := hW.size; omega) (HI.out.below (hBW0.trans (hW.mono (by omega))))) (tabs_below h2 (hBW0.trans (hW.mono (by omega))) HT.out)).mono fun e W' ⟨he, hb⟩ => by
      have h := hW.trans (hb.mono hW.size)
      exact ⟨he, h, (h.cell (p := ⟨w.heap.size, 0, none⟩) (by simp; omega)).trans bQ.cell, (h.frozen (p := ⟨w.heap.size, 0, none⟩) (by simp; omega)).trans bQ.frozen⟩
  have hr0 := Below.refl W0.heap.size W0
  obtain ⟨x, hx⟩ : ∃ x, badOf l = x := ⟨_, rfl⟩
  rw [hx] at kB q3
  have HX := Lib.hid hx
  clear hx cL bA hB00 bQ
  refine (callsIn_wide (n := 9)).1 ?_
  refine callsIn_of_wp_marks Tryd.func3 rfl trivial ?_ rfl
  simp only [Tryd.ntmps3, List.size_toArray, List.length_cons, List.length_nil, Nat.reduceAdd, Nat.reduceSub, Array.replicate_succ, Array.replicate_zero, List.push_toArray, List.append_toArray, List.nil_append, List.cons_append]
  obtain ⟨m, hml, hm⟩ := cut_place q len0 (by omega)
  have HS0 := Lib.hid hs0
  clear hs0
  gi_wp2_with (first | (refine ⟨trivial, ?_⟩; gi_at_call 8; refine (callsIn_wide.2 (kL _ (by assumption))).mono ?_; rintro e w1 ⟨rfl, hb1, hc1, hf1⟩) | (refine ⟨trivial, ?_⟩; gi_at_call 9; refine (callsIn_wide.2 (kB _ (by assumption))).mono ?_; rintro e w1 ⟨rfl, hb1, hc1, hf1⟩))
  have hsb := hb1.size
  have hs0 := HS0.out
  obtain ⟨W1, hW1⟩ : ∃ W1, ((w1.setCell ⟨w.heap.size, 0, none⟩ (.int .i64 (m : Int))).alloc (.cells #[.bool ((m : Int) == (len0 : Int))] 4)) = W1 := ⟨_, rfl⟩
  have hBW1 : Below w.heap.size w W1 := by
    rw [← hW1]
    exact ((hBW0.trans (hb1.mono (by omega))).setCell (p := ⟨w.heap.size, 0, none⟩) (by simp) _).alloc (by simp; omega) _
  have hs1 : W1.heap.size = w1.heap.size + 1 := by rw [← hW1]; simp
  have c0 : W1.cell? ⟨w.heap.size, 0, none⟩ = some (.int .i64 (m : Int)) := by
    rw [← hW1]
    exact (((Below.refl _ _).alloc (Nat.le_refl _) _).cell (p := ⟨w.heap.size, 0, none⟩) (by simp; omega)).trans (cell_set_eq hc1 _)
  have bP : Boxed W1 w1.heap.size 4 (.bool ((m : Int) == (len0 : Int))) := by
    rw [← hW1]
    have := Boxed.new (w1.setCell ⟨w.heap.size, 0, none⟩ (.int .i64 (m : Int))) 4 (.bool ((m : Int) == (len0 : Int)))
    simpa using this
  rw [hW1]
  have hsz1 := hBW1.size
  have cAll := all_any a0 len0 cap0 l (by omega) W1 (by omega) (TextAt.more hBW1.size (HI.out.below hBW1))
  obtain ⟨P0, hP0⟩ : ∃ P0, w1.heap.size = P0 := ⟨_, rfl⟩
  rw [hP0] at bP hs1 hsb ⊢
  clear hW1 hf1 hc1 hb1 hP0 kL kB hr0
  refine ⟨trivial, (callsIn_wide.2 cAll).mono ?_⟩
  rintro e W2 ⟨Bs, b, sv, rfl, hsv, hti, hBs, hbl, hge, hgb, hB2⟩
  clear cAll
  gi_wp2
  have hT2 := tabs_below h2 (hBW1.trans (hB2.mono hBW1.size)) HT.out
  have hBW2 := hBW1.trans (hB2.mono hBW1.size)
  have hs2 := hB2.size
  have c2 : W2.cell? ⟨w.heap.size, 0, none⟩ = some (.int .i64 (m : Int)) := (hB2.cell (p := ⟨w.heap.size, 0, none⟩) (by simp; omega)).trans c0
  have bP2 : W2.cell? ⟨P0, 0, none⟩ = some (.bool (placeB m len0 (N := l.length) [])) := by
    have := (hB2.cell (p := ⟨P0, 0, none⟩) (by simp; omega)).trans bP.cell
    simpa [placeB] using this
  have bF2 : W2.frozen? ⟨P0, 0, none⟩ = false := (hB2.frozen (p := ⟨P0, 0, none⟩) (by simp; omega)).trans bP.frozen
  refine wpIn_rangeFunc_ownG rfl (by omega) (gf := 25) (lb := #[.pointer (some ⟨Bs, 0, none⟩)]) rfl trivial (enters_of Tryd.func25 (by kernel_rfl) rfl)
    (signs_stops 8 (by omega) Bs b sv l (by omega) W2 hBs (by omega) hbl hsv hti hT2) Kp.trans (Kp_put (by omega) hbl hBs) (Below.refl _ _) (fun _ => rfl)
    (fun pre W => (W.cell? ⟨w.heap.size, 0, none⟩ = some (.int .i64 (m : Int)) ∧ W.cell? ⟨P0, 0, none⟩ = some (.bool (placeB m len0 pre)) ∧ W.frozen? ⟨P0, 0, none⟩ = false) ∧ Below w.heap.size w W)
    (fun _ _ _ => False)
    (OwnFrom.and (Own.from (fun s A B row hs hg hr => ⟨cell_kept hs.1 hg hr, cell_kept hs.2.1 hg hr, (frozen_kept hs.2.1 hg hr).trans hs.2.2⟩) _) (ownFrom_below (Nat.le_refl _) (by omega)))
    (fun _ _ _ _ _ hs _ _ => hs)
    ⟨⟨c2, bP2, bF2⟩, hBW2⟩
    (fun y => { tmps := #[.slice a0 len0 cap0, .int .i64 q, undef, .pointer (some ⟨w.heap.size, 0, none⟩), .bool false, .pointer (some ⟨P0, 0, none⟩), .int .i64 (y.1.1 : Int), .bool true, .bool false, .bool false, .slice a0 len0 cap0, .int .i64 (len0 : Int), .bool false, .bool false, .bool false, .slice a0 len0 cap0, .int .i64 x, .bool (decide (0 ≤ x)), .bool (decide (0 ≤ x)), undef, .int .i64 q, .int .u64 (IntKind.u64.wrap q), .slice a0 len0 cap0, .int .i64 (len0 : Int), .int .i64 ((len0 : Int) + 1), .int .u64 ((len0 : Int) + 1), .int .u64 ((IntKind.u64.wrap q).tmod ((len0 : Int) + 1)), .int .i64 (m : Int), .int .i64 (m : Int), .slice a0 len0 cap0, .int .i64 (len0 : Int), .bool ((m : Int) == (len0 : Int)), .slice a0 len0 cap0, .func (.func 25) #[] #[.pointer (some ⟨Bs, 0, none⟩)], .int .i64 (y.1.1 : Int), .int .i32 (y.1.2 : Int), undef, undef, undef, undef, undef, undef, undef, undef, undef, undef, undef, undef, undef, undef, undef, undef, undef, undef, undef, undef, undef, undef, undef, undef, undef, undef, undef, undef, undef, undef, undef, undef], defers := [] }) ?assign ?body ?done ?stop
  case assign =>
    intro ll y W K hK
    unfold encSg
    gi_wp2
    exact hK
  case body =>
    rintro ll pre ⟨⟨p, r⟩, hp, hr⟩ W ⟨⟨hc, hp2, hf⟩, hB⟩ _
    dsimp only at hp hr ⊢
    have HS := Lib.hid (placeB_snoc m len0 pre ⟨(p, r), hp, hr⟩)
    obtain ⟨v, hv⟩ : ∃ v, placeB m len0 pre = v := ⟨_, rfl⟩
    rw [hv] at hp2 HS
    clear hv
    cases v
    · gi_wp2
      refine ⟨(KeepsOthers.setCell _ _ _).from _, Kp_set (by omega) (by omega) (by omega) _ _, ⟨⟨(cell_set_ne (by omega) _).trans hc, ?_, by rw [World.frozen?_setCell]; exact hf⟩, hB.setCell (p := ⟨P0, 0, none⟩) (by simp; omega) _⟩⟩
      rw [HS.out]
      exact cell_set_eq hp2 _
    · gi_wp2
      refine ⟨(KeepsOthers.setCell _ _ _).from _, Kp_set (by omega) (by omega) (by omega) _ _, ⟨⟨(cell_set_ne (by omega) _).trans hc, ?_, by rw [World.frozen?_setCell]; exact hf⟩, hB.setCell (p := ⟨P0, 0, none⟩) (by simp; omega) _⟩⟩
      rw [HS.out]
      exact cell_set_eq hp2 _
  case done =>
    rintro D ys W hD hys ⟨⟨hc, hp2, hf⟩, hB⟩ hK
    have hDl := (Array.getElem?_eq_some_iff.1 hK).1
    have gB : ∀ W', Below W.heap.size W W' → ∀ a n c (l' : List UInt8), l'.length ≤ 400 → TextAt w.heap.size W' (.slice a n c) l' → Calls Tryd.prog 9 #[.slice a n c] W' fun e W'' => e = .returned (.int .i64 (badOf l')) ∧ Below W.heap.size W W'' ∧ W''.cell? ⟨w.heap.size, 0, none⟩ = some (.int .i64 (m : Int)) ∧ W''.heap[D]? = some (.deferred (some [])) := fun W' hW' a n c l' hl' ht =>
      (bad_any a n c l' (by omega) W' (by have := hW'.size; omega) (TextAt.more (by have := hW'.size; omega) ht) (tabs_below h2 (hB.trans (hW'.mono hB.size)) HT.out)).mono fun e W'' ⟨he, hb⟩ => by
        have h := hW'.trans (hb.mono hW'.size)
        exact ⟨he, h, (h.cell (p := ⟨w.heap.size, 0, none⟩) (by simp; omega)).trans hc, (h.block D hDl).trans hK⟩
    have fin : ∀ X, Below W.heap.size W X → X.heap[D]? = some (.deferred (some [])) → Below w.heap.size w (X.putObj D (.deferred none)) := fun X hX hk =>
      (hB.trans (hX.mono hB.size)).trans (belowK_b (w := w) (Nat.le_refl _) X D _ _ (by omega) hk rfl rfl)
    have hrW := Below.refl W.heap.size W
    have hIW : TextAt w.heap.size W (.slice a0 len0 cap0) l := HI.out.below hB
    have hIW' : ∀ W', Below W.heap.size W W' → TextAt w.heap.size W' (.slice a0 len0 cap0) l := fun W' hW' => HI.out.below (hB.trans (hW'.mono hB.size))
    have hpl : placeB m len0 ys = true ↔ isPlace l 0 m := by rw [← hl]; exact placeB_is m l ys hys
    have hneg : badOf l < 0 := by rw [HX.out]; omega
    obtain ⟨vp, hvp⟩ : ∃ vp, placeB m len0 ys = vp := ⟨_, rfl⟩
    rw [hvp] at hp2 hpl
    obtain ⟨tk, htk⟩ : ∃ tk, badOf (l.take m) = tk := ⟨_, rfl⟩
    obtain ⟨dr, hdr⟩ : ∃ dr, badOf (l.drop m) = dr := ⟨_, rfl⟩
    have hans : (vp = true ∧ tk = -1 ∧ dr = -1) ∨ (vp = false ∧ 0 ≤ tk ∧ dr = 0 ∧ m ≠ l.length) := by
      rw [← htk, ← hdr]
      cases vp
      · right
        have hnp : ¬ isPlace l 0 m := fun h => by have := hpl.2 h; cases this
        have := cut_no l m hneg (by omega) hnp
        exact ⟨rfl, this.1, this.2, fun e => hnp (Or.inl e)⟩
      · left
        exact ⟨rfl, cut_ok l m hneg (by omega) (hpl.1 rfl)⟩
    clear hvp hpl hneg
    rcases hIW with ⟨A, c, hA, e, rfl⟩ | ⟨tb, off, c, e, htb, hcap, hh⟩
    · cases e
      obtain rfl : m = 0 := by simp at hml; omega
      have gA : ∀ W', Below W.heap.size W W' → ∀ a c, (a = none → c = 0) → Calls Tryd.prog 9 #[.slice a 0 c] W' fun e W'' => e = .returned (.int .i64 (-1)) ∧ Below W.heap.size W W'' ∧ W''.cell? ⟨w.heap.size, 0, none⟩ = some (.int .i64 0) ∧ W''.heap[D]? = some (.deferred (some [])) := fun W' hW' a c ha => by
        have hz : badOf [] = -1 := by unfold badOf; rw [bd_nil _ _ rfl]; rfl
        have := gB W' hW' a 0 c [] (by simp) (.inl ⟨_, _, ha, rfl, rfl⟩)
        rwa [hz] at this
      have hvt : vp = true := by
        rcases hans with h | h
        · exact h.1
        · exact absurd rfl h.2.2.2
      subst hvt
      clear gB hIW' htk hdr HI hans
      rcases a0 with _ | ad
      · obtain rfl := hA rfl
        gi_wp2_with (refine ⟨trivial, ?_⟩; gi_at_call 9; refine (callsIn_wide.2 (gA _ (by assumption) _ _ (fun _ => rfl))).mono ?_; rintro e w3 ⟨rfl, hb1, hc1, hk1⟩)
        refine ⟨by simp, .inl ⟨_, _, rfl, run_takeDeferred hk1, ?_⟩⟩
        exact ⟨_, results_tmp rfl _ _ _, rfl, fin _ (by assumption) hk1⟩
      · clear hA
        by_cases hc0 : cap0 = 0
        · subst hc0
          gi_wp2_with (refine ⟨trivial, ?_⟩; gi_at_call 9; refine (callsIn_wide.2 (gA _ (by assumption) _ _ (fun h => by cases h))).mono ?_; rintro e w3 ⟨rfl, hb1, hc1, hk1⟩)
          refine ⟨by simp, .inl ⟨_, _, rfl, run_takeDeferred hk1, ?_⟩⟩
          exact ⟨_, results_tmp rfl _ _ _, rfl, fin _ (by assumption) hk1⟩
        · have hc1 : 0 < cap0 := by omega
          gi_wp2_with (refine ⟨trivial, ?_⟩; gi_at_call 9; refine (callsIn_wide.2 (gA _ (by assumption) _ _ (fun h => by cases h))).mono ?_; rintro e w3 ⟨rfl, hb1, hc1, hk1⟩)
          refine ⟨by simp, .inl ⟨_, _, rfl, run_takeDeferred hk1, ?_⟩⟩
          exact ⟨_, results_tmp rfl _ _ _, rfl, fin _ (by assumption) hk1⟩
    · cases e
      clear hh htb
      have gT : ∀ W', Below W.heap.size W W' → Calls Tryd.prog 9 #[.slice (some ⟨tb, off, none⟩) m cap0] W' fun e W'' => e = .returned (.int .i64 tk) ∧ Below W.heap.size W W'' ∧ W''.cell? ⟨w.heap.size, 0, none⟩ = some (.int .i64 (m : Int)) ∧ W''.heap[D]? = some (.deferred (some [])) := fun W' hW' => by
        rw [← htk]
        refine gB W' hW' _ _ _ (l.take m) (by simp; omega) ?_
        have htl : (l.take m).length = m := by simp; omega
        rcases hIW' W' hW' with ⟨_, _, _, e, rfl⟩ | ⟨_, _, _, e, htb, hcap, hh⟩
        · simp at hml
          subst hml
          exact .inl ⟨_, _, (fun h => by cases h), rfl, rfl⟩
        · cases e
          refine .inr ⟨tb, off, cap0, by rw [htl], htb, by omega, fun j hj => ?_⟩
          rw [htl] at hj
          rw [hh j (by omega)]
          simp [List.getD_eq_getElem?_getD, hj]
      have gD : ∀ W', Below W.heap.size W W' → Calls Tryd.prog 9 #[.slice (some ⟨tb, off + m, none⟩) (l.length - m) (cap0 - m)] W' fun e W'' => e = .returned (.int .i64 dr) ∧ Below W.heap.size W W'' ∧ W''.cell? ⟨w.heap.size, 0, none⟩ = some (.int .i64 (m : Int)) ∧ W''.heap[D]? = some (.deferred (some [])) := fun W' hW' => by
        rw [← hdr]
        refine gB W' hW' _ _ _ (l.drop m) (by simp; omega) ?_
        have htl : (l.drop m).length = l.length - m := by simp
        rcases hIW' W' hW' with ⟨_, _, _, e, rfl⟩ | ⟨_, _, _, e, htb, hcap, hh⟩
        · simp at hml
          subst hml
          exact .inl ⟨_, _, (fun h => by cases h), rfl, rfl⟩
        · cases e
          exact .inr ⟨tb, off + m, cap0 - m, by rw [htl], htb, by omega, hh.drop m⟩
      have gE : m = l.length → ∀ W', Below W.heap.size W W' → Calls Tryd.prog 9 #[.slice (some ⟨tb, off, none⟩) 0 0] W' fun e W'' => e = .returned (.int .i64 dr) ∧ Below W.heap.size W W'' ∧ W''.cell? ⟨w.heap.size, 0, none⟩ = some (.int .i64 (m : Int)) ∧ W''.heap[D]? = some (.deferred (some [])) := fun he W' hW' => by
        rw [← hdr, List.drop_eq_nil_of_le (by omega)]
        exact gB W' hW' _ _ _ [] (by simp) (.inl ⟨_, _, (fun h => by cases h), rfl, rfl⟩)
      have GE := Lib.hid gE
      clear gE gB hIW' htk hdr HI
      by_cases hmc : m < cap0
      · rcases hans with ⟨rfl, rfl, rfl⟩ | ⟨rfl, h5, rfl, h6⟩
        · gi_wp2_with (refine ⟨trivial, ?_⟩; gi_at_call 9; (first | (with_reducible refine (callsIn_wide.2 (gT _ (by assumption))).mono ?_) | (with_reducible refine (callsIn_wide.2 (gD _ (by assumption))).mono ?_)); rintro e w3 ⟨rfl, hb1, hc1, hk1⟩)
          refine ⟨by simp, .inl ⟨_, _, rfl, run_takeDeferred hk1, ?_⟩⟩
          exact ⟨_, results_tmp rfl _ _ _, rfl, fin _ (by assumption) hk1⟩
        · gi_wp2_with (refine ⟨trivial, ?_⟩; gi_at_call 9; (first | (with_reducible refine (callsIn_wide.2 (gT _ (by assumption))).mono ?_) | (with_reducible refine (callsIn_wide.2 (gD _ (by assumption))).mono ?_)); rintro e w3 ⟨rfl, hb1, hc1, hk1⟩)
          refine ⟨by simp, .inl ⟨_, _, rfl, run_takeDeferred hk1, ?_⟩⟩
          exact ⟨_, results_tmp rfl _ _ _, rfl, fin _ (by assumption) hk1⟩
      · obtain rfl : m = cap0 := by omega
        have hlm : l.length = m := by omega
        rcases hans with ⟨rfl, rfl, rfl⟩ | ⟨rfl, h5, rfl, h6⟩
        · have gD2 := GE.out hlm.symm
          gi_wp2_with (refine ⟨trivial, ?_⟩; gi_at_call 9; (first | (with_reducible refine (callsIn_wide.2 (gT _ (by assumption))).mono ?_) | (with_reducible refine (callsIn_wide.2 (gD2 _ (by assumption))).mono ?_)); rintro e w3 ⟨rfl, hb1, hc1, hk1⟩)
          refine ⟨by simp, .inl ⟨_, _, rfl, run_takeDeferred hk1, ?_⟩⟩
          exact ⟨_, results_tmp rfl _ _ _, rfl, fin _ (by assumption) hk1⟩
        · exact absurd hlm.symm h6
  case stop =>
    rintro D c pre W _ _ h _
    exact h.elim

end Go.Proofs.YtnopplgplfenaaaDoor
