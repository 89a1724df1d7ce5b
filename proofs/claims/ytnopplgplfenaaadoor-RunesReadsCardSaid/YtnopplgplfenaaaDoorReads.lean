/- Of any bytes each sign, its place, how many there are, and where the first is that is none, is the document's: the law returns true at every input. -/
import Derived.Test.YtnopplgplfenaaaDoorSigns
namespace Go.Proofs.YtnopplgplfenaaaDoor
open Go Go.Proofs Go.RowKit Go.Shelf

attribute [local go_sem] Oper.semAt_some

theorem row_base {W : World} {B B' : Nat} {v : Value} {n : Nat} {xs : List Value} (hb : B' ≤ B) (h : W.ownsRow B 3 1 v n xs) : W.ownsRow B' 3 1 v n xs := by
  refine ⟨h.1, ?_⟩
  rcases h.2 with e | ⟨g, cap, cur, e, hg, rest⟩
  · exact .inl e
  · exact .inr ⟨g, cap, cur, e, Nat.le_trans hb hg, rest⟩

/-- The address holds the numbers, in a block below N; or there are none. -/
def RowAt (N : Nat) (W : World) (A : Option Addr) (xs : List Nat) : Prop := ∀ i (hi : i < xs.length), ∃ g, A = some ⟨g, 0, none⟩ ∧ g < N ∧ W.cell? ⟨g, i, none⟩ = some (.int .i64 ((xs[i]'hi : Nat) : Int))
theorem RowAt.below {N : Nat} {W W' : World} {A : Option Addr} {xs : List Nat} (hb : Below N W W') (h : RowAt N W A xs) : RowAt N W' A xs := fun i hi => by
  obtain ⟨g, e, hg, hc⟩ := h i hi
  exact ⟨g, e, hg, (hb.cell (p := ⟨g, i, none⟩) hg).trans hc⟩
theorem RowAt.own {N : Nat} {A B : World} {row : Option Nat} {a : Option Addr} {xs : List Nat} (h : RowAt N A a xs) (hg : A.grownBy B row) (hr : ∀ r, row = some r → ∃ o : Obj, A.heap[r]? = some o ∧ o.isCells = false) : RowAt N B a xs := fun i hi => by
  obtain ⟨g, e, hgl, hc⟩ := h i hi
  exact ⟨g, e, hgl, cell_kept hc hg hr⟩
theorem rowAt_of {W : World} {B : Nat} {v : Value} {n : Nat} {xs : List Nat} (h : W.ownsRow B 3 1 v n (xs.map fun x : Nat => Value.int .i64 (x : Int))) : ∃ A cp, v = .slice A xs.length cp ∧ RowAt W.heap.size W A xs := by
  have hl : xs.length = n := by have := h.1; simpa using this
  rcases h.2 with ⟨e, h0⟩ | ⟨g, cp, cur, e, _, hg, _⟩
  · exact ⟨none, 0, by rw [hl, h0]; exact e, fun i hi => absurd hi (by omega)⟩
  · refine ⟨some ⟨g, 0, none⟩, cp, by rw [hl]; exact e, fun i hi => ⟨g, rfl, (Array.getElem?_eq_some_iff.1 hg).1, ?_⟩⟩
    have := h.cells (g := g) (by rw [e]; rfl) i (.int .i64 ((xs[i] : Nat) : Int)) (by simp [List.getElem?_eq_getElem hi])
    rwa [add_none, Nat.zero_add] at this

def plN (l : List UInt8) : List Nat := (sg l 0).map Prod.fst
def rnN (l : List UInt8) : List Nat := (sg l 0).map Prod.snd

/-- Between two rounds: the boxes and the two rows. -/
def RI (N S P k : Nat) (w : World) (A1 A2 : Option Addr) (c1 c2 : Nat) (l : List UInt8) (pre : List (Sg N)) (W : World) : Prop :=
  (W.cell? ⟨S, 0, none⟩ = some (.bool false) ∧ W.frozen? ⟨S, 0, none⟩ = false ∧ W.cell? ⟨P, 0, none⟩ = some (.slice A1 k c1) ∧ W.cell? ⟨P + 1, 0, none⟩ = some (.slice A2 k c2) ∧ W.cell? ⟨P + 1 + 1, 0, none⟩ = some (.int .i64 (pre.length : Nat)) ∧ W.frozen? ⟨P + 1 + 1, 0, none⟩ = false ∧ RowAt P W A1 (plN l) ∧ RowAt P W A2 (rnN l)) ∧ Below S w W
theorem RI_own (N S P k : Nat) (w : World) (A1 A2 : Option Addr) (c1 c2 : Nat) (l : List UInt8) (B : Nat) (h1 : S ≤ w.heap.size) (h2 : S ≤ B) : OwnFrom B (RI N S P k w A1 A2 c1 c2 l) :=
  OwnFrom.and (Own.from (fun _ _ _ _ hs hg hr => ⟨cell_kept hs.1 hg hr, (frozen_kept hs.1 hg hr).trans hs.2.1, cell_kept hs.2.2.1 hg hr, cell_kept hs.2.2.2.1 hg hr, cell_kept hs.2.2.2.2.1 hg hr, (frozen_kept hs.2.2.2.2.1 hg hr).trans hs.2.2.2.2.2.1, hs.2.2.2.2.2.2.1.own hg hr, hs.2.2.2.2.2.2.2.own hg hr⟩) _) (ownFrom_below h1 h2)

theorem fin_cell {D : Nat} {w W X : World} (hD : w.heap.size < D) (hB : Below w.heap.size w W) (hX : Below W.heap.size W X) (hk : X.heap[D]? = some (.deferred (some []))) (hc : X.cell? ⟨w.heap.size, 0, none⟩ = some (.bool false)) :
    (X.setCell ⟨w.heap.size, 0, none⟩ (.bool true)).heap[D]? = some (.deferred (some [])) ∧
    ((X.setCell ⟨w.heap.size, 0, none⟩ (.bool true)).putObj D (.deferred none)).cell? ⟨w.heap.size, 0, none⟩ = some (.bool true) ∧
    Below w.heap.size w ((X.setCell ⟨w.heap.size, 0, none⟩ (.bool true)).putObj D (.deferred none)) := by
  have hkX : (X.setCell ⟨w.heap.size, 0, none⟩ (.bool true)).heap[D]? = some (.deferred (some [])) := (Below.heap_setCell _ ⟨w.heap.size, 0, none⟩ _ D (by dsimp only; omega)).trans hk
  refine ⟨hkX, cell_kept (cell_set_eq hc (.bool true)) (grownBy_putObj' _ D _) (fun r e => by cases e; exact ⟨_, hkX, rfl⟩), ?_⟩
  exact ((hB.trans (hX.mono hB.size)).setCell (p := ⟨w.heap.size, 0, none⟩) (by simp) _).trans (belowK_b (w := w) (Nat.le_refl _) _ D _ _ (by omega) hkX rfl rfl)

set_option maxRecDepth 100000 in
set_option maxHeartbeats 16000000 in
theorem reads_any (a0 : Option Addr) (len0 cap0 : Nat) (l : List UInt8) (w : World) (h2 : 2 ≤ w.heap.size) (hl : l.length = len0) (hI : TextAt w.heap.size w (.slice a0 len0 cap0) l) (hT : Lib.Utf8Tabs 0 1 w) :
    Calls Tryd.prog 4 #[.slice a0 len0 cap0] w fun e W' => e = .returned (.bool true) ∧ Below w.heap.size w W' := by
  obtain ⟨W0, hW0⟩ : ∃ W0, w.alloc (.cells #[.bool false] 4) = W0 := ⟨_, rfl⟩
  have hs0 : W0.heap.size = w.heap.size + 1 := by rw [← hW0]; simp
  have bO : Boxed W0 w.heap.size 4 (.bool false) := by rw [← hW0]; exact Boxed.new _ _ _
  have hBW0 : Below w.heap.size w W0 := by rw [← hW0]; exact (Below.refl _ w).alloc (Nat.le_refl _) _
  have kL : ∀ W, Below W0.heap.size W0 W → Calls Tryd.prog 8 #[] W fun e W' => e = .returned (.bool true) ∧ Below W0.heap.size W0 W' ∧ W'.cell? ⟨w.heap.size, 0, none⟩ = some (.bool false) ∧ W'.frozen? ⟨w.heap.size, 0, none⟩ = false := fun W hW =>
    (lives_any W (by have := hW.size; omega) (tabs_below h2 (hBW0.trans (hW.mono (by omega))) hT)).mono fun e W' ⟨he, hb⟩ => by
      have h := hW.trans (hb.mono hW.size)
      exact ⟨he, h, (h.cell (p := ⟨w.heap.size, 0, none⟩) (by simp; omega)).trans bO.cell, (h.frozen (p := ⟨w.heap.size, 0, none⟩) (by simp; omega)).trans bO.frozen⟩
  have hr0 := Below.refl W0.heap.size W0
  have HT := Lib.hid hT
  have HS0 := Lib.hid hs0
  have HI := Lib.hid hI
  clear hT hI
  by_cases q1 : 400 < len0
  · clear hs0 bO
    go_enter Tryd.func4, Tryd.ntmps4
    go_wp2_with (go_at_call 8; refine (kL _ (by assumption)).mono ?_; rintro e w1 ⟨rfl, hb1, hc1, hf1⟩)
    have hx := cell_set_eq hc1 (.bool true)
    have hs0 := HS0.out
    refine bodyPost_ret (v := .bool true) (by simp [results, Tryd.results4, go_sem, hx]) rfl ⟨rfl, ?_⟩
    exact (hBW0.trans (hb1.mono (by omega))).setCell (p := ⟨w.heap.size, 0, none⟩) (by simp) _
  have q1' : decide (400 < (len0 : Int)) = false := by simp; omega
  have kS : ∀ W, Below W0.heap.size W0 W → Calls Tryd.prog 11 #[.slice a0 len0 cap0] W fun e W' => (∃ A1 c1 A2 c2, e = .returned (.tuple #[.slice A1 (sg l 0).length c1, .slice A2 (sg l 0).length c2, .int .i64 (bd l 0 : Nat)]) ∧ RowAt W'.heap.size W' A1 (plN l) ∧ RowAt W'.heap.size W' A2 (rnN l)) ∧ Below W0.heap.size W0 W' := fun W hW =>
    (signs_any a0 len0 cap0 l (by omega) W (TextAt.more (by have := hW.size; omega) (HI.out.below (hBW0.trans (hW.mono (by omega)))))).mono fun e W' ⟨v1, v2, he, hR, hb⟩ => by
      refine ⟨?_, hW.trans (hb.mono hW.size)⟩
      have hp : placesV (sg l 0) = (plN l).map fun x : Nat => Value.int .i64 (x : Int) := by simp [placesV, plN]
      have hr : runesV (sg l 0) = (rnN l).map fun x : Nat => Value.int .i64 (x : Int) := by simp [runesV, rnN]
      have h1 := hR.1
      have h2 := hR.2.1
      rw [hp] at h1
      rw [hr] at h2
      obtain ⟨A1, c1, e1, r1⟩ := rowAt_of h1
      obtain ⟨A2, c2, e2, r2⟩ := rowAt_of h2
      have l1 : (plN l).length = (sg l 0).length := by simp [plN]
      have l2 : (rnN l).length = (sg l 0).length := by simp [rnN]
      rw [l1] at e1
      rw [l2] at e2
      exact ⟨A1, c1, A2, c2, by rw [he, e1, e2], r1, r2⟩
  have hk := sg_length l.length l 0 (Nat.le_refl _)
  obtain ⟨k, hkd⟩ : ∃ k, (sg l 0).length = k := ⟨_, rfl⟩
  rw [hkd] at kS hk
  have HK := Lib.hid hkd
  clear hkd
  have hbdl := bd_le l.length l 0 (Nat.le_refl _)
  obtain ⟨bn, hbn⟩ : ∃ bn, bd l 0 = bn := ⟨_, rfl⟩
  rw [hbn] at kS hbdl
  have HBN := Lib.hid hbn
  clear hbn
  have BO := Lib.hid bO
  clear bO
  refine (callsIn_wide (n := 9)).1 ?_
  refine callsIn_of_wp_marks Tryd.func4 rfl trivial ?_ rfl
  simp only [Tryd.ntmps4, List.size_toArray, List.length_cons, List.length_nil, Nat.reduceAdd, Nat.reduceSub, Array.replicate_succ, Array.replicate_zero, List.push_toArray, List.append_toArray, List.nil_append, List.cons_append]
  clear hs0
  gi_wp2_with (first | (refine ⟨trivial, ?_⟩; gi_at_call 8; refine (callsIn_wide.2 (kL _ (by assumption))).mono ?_; rintro e w1 ⟨rfl, hb1, hc1, hf1⟩) | (refine ⟨trivial, ?_⟩; gi_at_call 11; refine (callsIn_wide.2 (kS _ (by assumption))).mono ?_; rintro e w2 ⟨⟨A1, c1, A2, c2, rfl, hR1, hR2⟩, hb2⟩; have HR1 := Lib.hid hR1; have HR2 := Lib.hid hR2; clear hR1 hR2))
  have hs0 := HS0.out
  have hP := hb2.size
  obtain ⟨P, hPd⟩ : ∃ P, w2.heap.size = P := ⟨_, rfl⟩
  have hR1 := HR1.out
  have hR2 := HR2.out
  rw [hPd] at hP hR1 hR2 ⊢
  obtain ⟨W3, hW3⟩ : ∃ W3, (((w2.alloc (.cells #[.slice A1 k c1] 30)).alloc (.cells #[.slice A2 k c2] 30)).alloc (.cells #[.int .i64 0] 3)) = W3 := ⟨_, rfl⟩
  have hw23 : Below P w2 W3 := by rw [← hW3, ← hPd]; exact (((Below.refl _ w2).alloc (Nat.le_refl _) _).alloc (by simp) _).alloc (by simp; omega) _
  have hBW3 : Below W0.heap.size W0 W3 := hb2.trans (hw23.mono hP)
  have hs3 : W3.heap.size = P + 3 := by rw [← hW3]; simp; omega
  have bx1 : Boxed W3 P 30 (.slice A1 k c1) := by rw [← hW3, ← hPd]; exact ((Boxed.new _ _ _).alloc _).alloc _
  have bx2 : Boxed W3 (P + 1) 30 (.slice A2 k c2) := by
    rw [← hW3, ← hPd]
    have := (Boxed.new (w2.alloc (.cells #[.slice A1 k c1] 30)) 30 (.slice A2 k c2)).alloc (.cells #[.int .i64 0] 3)
    simpa using this
  have bx3 : Boxed W3 (P + 1 + 1) 3 (.int .i64 0) := by
    rw [← hW3, ← hPd]
    have := Boxed.new ((w2.alloc (.cells #[.slice A1 k c1] 30)).alloc (.cells #[.slice A2 k c2] 30)) 3 (.int .i64 0)
    simpa using this
  have r1 := hR1.below hw23
  have r2 := hR2.below hw23
  have o1 : W3.cell? ⟨w.heap.size, 0, none⟩ = some (.bool false) := (hBW3.cell (p := ⟨w.heap.size, 0, none⟩) (by simp; omega)).trans BO.out.cell
  have o2 : W3.frozen? ⟨w.heap.size, 0, none⟩ = false := (hBW3.frozen (p := ⟨w.heap.size, 0, none⟩) (by simp; omega)).trans BO.out.frozen
  have hBS3 : Below w.heap.size w W3 := hBW0.trans (hBW3.mono (by omega))
  have cAll := all_any a0 len0 cap0 l (by omega) W3 (by omega) (TextAt.more hBS3.size (HI.out.below hBS3))
  rw [hW3]
  clear hW3 hPd hb1 hc1 hf1 hb2 HR1 HR2 hR1 hR2 hw23 kL kS hr0 hBW3 BO
  refine ⟨trivial, (callsIn_wide.2 cAll).mono ?_⟩
  rintro e W4 ⟨Bs, b, sv, rfl, hsv, hti, hBs, hbl, hge, hgb, hB4⟩
  clear cAll
  gi_wp2
  have hBW4 : Below w.heap.size w W4 := hBS3.trans (hB4.mono hBS3.size)
  have hT4 := tabs_below h2 hBW4 HT.out
  have hs4 := hB4.size
  have hws3 := hBS3.size
  refine wpIn_rangeFunc_ownG rfl (by omega) (gf := 25) (lb := #[.pointer (some ⟨Bs, 0, none⟩)]) rfl trivial (enters_of Tryd.func25 (by kernel_rfl) rfl)
    (signs_stops 8 (by omega) Bs b sv l (by omega) W4 hBs (by omega) hbl hsv hti hT4) Kp.trans (Kp_put (by omega) hbl hBs) (Below.refl _ _) (fun _ => rfl)
    (RI l.length w.heap.size P k w A1 A2 c1 c2 l)
    (fun c pre W => (c = .ret ∧ ∃ p x, pre = p ++ [x] ∧ ¬ ∃ h : p.length < (sg l 0).length, (sg l 0)[p.length] = x.1) ∧ Below w.heap.size w W)
    (RI_own _ _ _ _ _ _ _ _ _ _ _ (Nat.le_refl _) (by omega))
    (fun c => OwnFrom.and (Own.from (fun s A B row hs hg hr => hs) _) (ownFrom_below (Nat.le_refl _) (by omega)))
    ⟨⟨(hB4.cell (p := ⟨w.heap.size, 0, none⟩) (by simp; omega)).trans o1, (hB4.frozen (p := ⟨w.heap.size, 0, none⟩) (by simp; omega)).trans o2, (hB4.cell (p := ⟨P, 0, none⟩) (by simp; omega)).trans bx1.cell, (hB4.cell (p := ⟨P + 1, 0, none⟩) (by simp; omega)).trans bx2.cell,
      (hB4.cell (p := ⟨P + 1 + 1, 0, none⟩) (by simp; omega)).trans bx3.cell, (hB4.frozen (p := ⟨P + 1 + 1, 0, none⟩) (by simp; omega)).trans bx3.frozen, r1.below (hB4.mono (by omega)), r2.below (hB4.mono (by omega))⟩, hBW4⟩
    (fun y => { tmps := #[.slice a0 len0 cap0, undef, .pointer (some ⟨w.heap.size, 0, none⟩), .pointer (some ⟨P, 0, none⟩), .pointer (some ⟨P + 1, 0, none⟩), .int .i64 (bn : Int), .pointer (some ⟨P + 1 + 1, 0, none⟩), .int .i64 (y.1.1 : Int), .int .i32 (y.1.2 : Int), undef, .bool true, .bool false, .bool false, .slice a0 len0 cap0, .int .i64 (len0 : Int), .bool false, .bool false, undef, .tuple #[.slice A1 k c1, .slice A2 k c2, .int .i64 (bn : Int)], .slice a0 len0 cap0, .tuple #[.slice A1 k c1, .slice A2 k c2, .int .i64 (bn : Int)], .slice A1 k c1, .slice A2 k c2, .int .i64 (bn : Int), .slice a0 len0 cap0, .func (.func 25) #[] #[.pointer (some ⟨Bs, 0, none⟩)], .int .i64 (y.1.1 : Int), .int .i32 (y.1.2 : Int), undef, undef, undef, undef, undef, undef, undef, undef, undef, undef, undef, undef, undef, undef, undef, undef, undef, undef, undef, undef, undef, undef, undef, undef, undef, undef, undef, undef, undef, undef, undef, undef, undef, undef, undef, undef, undef, undef, undef, undef, undef, undef, undef, undef], defers := [] }) ?assign ?body ?done ?stop
  case assign =>
    intro ll y W K hK
    unfold encSg
    gi_wp2
    exact hK
  case body =>
    rintro ll pre ⟨⟨p, r⟩, hp, hr⟩ W ⟨⟨z1, z2, z3, z4, z5, z6, r1, r2⟩, hB⟩ hpl
    dsimp only at hp hr ⊢
    have HX1 := Lib.hid r1
    have HX2 := Lib.hid r2
    clear r1 r2
    by_cases h1 : pre.length < k
    · have hk1 : pre.length < (sg l 0).length := by rw [HK.out]; exact h1
      obtain ⟨g1, rfl, hg1, q1⟩ := HX1.out pre.length (by simp [plN]; exact hk1)
      obtain ⟨g2, rfl, hg2, q2⟩ := HX2.out pre.length (by simp [rnN]; exact hk1)
      have e1 : (plN l)[pre.length]'(by simp [plN]; exact hk1) = ((sg l 0)[pre.length]).1 := by simp [plN]
      have e2 : (rnN l)[pre.length]'(by simp [rnN]; exact hk1) = ((sg l 0)[pre.length]).2 := by simp [rnN]
      rw [e1] at q1
      rw [e2] at q2
      obtain ⟨x, hx⟩ : ∃ x, (sg l 0)[pre.length] = x := ⟨_, rfl⟩
      rw [hx] at q1 q2
      have HXX : Hid (∃ h : pre.length < (sg l 0).length, (sg l 0)[pre.length] = x) := Lib.hid ⟨hk1, hx⟩
      clear hx e1 e2 hk1
      obtain ⟨xp, xr⟩ := x
      dsimp only at q1 q2
      by_cases m1 : p = xp
      · by_cases m2 : r = xr
        · have t1 : ((p : Int) != (xp : Int)) = false := by simp; omega
          have t2 : ((r : Int) != (xr : Int)) = false := by simp; omega
          clear m1 m2
          gi_wp2
          refine ⟨(KeepsOthers.setCell _ _ _).from _, Kp_set (by omega) (by omega) (by omega) _ _, ⟨⟨(cell_set_ne (by omega) _).trans z1, by rw [World.frozen?_setCell]; exact z2, (cell_set_ne (by omega) _).trans z3, (cell_set_ne (by omega) _).trans z4, ?_, by rw [World.frozen?_setCell]; exact z6, ?_, ?_⟩, hB.setCell (p := ⟨P + 1 + 1, 0, none⟩) (by simp; omega) _⟩⟩
          · have := cell_set_eq z5 (.int .i64 ((pre.length + 1 : Nat) : Int))
            simpa using this
          · exact HX1.out.below ((Below.refl P W).setCell (p := ⟨P + 1 + 1, 0, none⟩) (by simp; omega) _)
          · exact HX2.out.below ((Below.refl P W).setCell (p := ⟨P + 1 + 1, 0, none⟩) (by simp; omega) _)
        · have t1 : ((p : Int) != (xp : Int)) = false := by simp; omega
          have t2 : ((r : Int) != (xr : Int)) = true := by simp; omega
          have M2 := Lib.hid m2
          clear m1 m2
          gi_wp2
          refine ⟨(KeepsOthers.setCell _ _ _).from _, ⟨rfl, pre, _, rfl, fun ⟨_, e⟩ => ?_⟩, hB.setCell (p := ⟨w.heap.size, 0, none⟩) (by simp) _⟩
          obtain ⟨_, e'⟩ := HXX.out
          rw [e'] at e
          simp only [Prod.mk.injEq] at e
          exact M2.out e.2.symm
      · have t1 : ((p : Int) != (xp : Int)) = true := by simp; omega
        have M1 := Lib.hid m1
        clear m1
        gi_wp2
        refine ⟨(KeepsOthers.setCell _ _ _).from _, ⟨rfl, pre, _, rfl, fun ⟨_, e⟩ => ?_⟩, hB.setCell (p := ⟨w.heap.size, 0, none⟩) (by simp) _⟩
        obtain ⟨_, e'⟩ := HXX.out
        rw [e'] at e
        simp only [Prod.mk.injEq] at e
        exact M1.out e.1.symm
    · have H1 := Lib.hid h1
      have h1' : k ≤ pre.length := by omega
      clear h1
      gi_wp2
      refine ⟨(KeepsOthers.setCell _ _ _).from _, ⟨rfl, pre, _, rfl, fun ⟨h, _⟩ => ?_⟩, hB.setCell (p := ⟨w.heap.size, 0, none⟩) (by simp) _⟩
      rw [HK.out] at h
      exact H1.out h
  case done =>
    rintro D ys W hD hys ⟨⟨z1, z2, z3, z4, z5, z6, r1, r2⟩, hB⟩ hK
    clear r1 r2
    have hyl : ys.length = k := by
      have := congrArg List.length hys
      rw [HK.out] at this
      simpa using this
    rw [hyl] at z5
    clear hys hyl
    have hDl := (Array.getElem?_eq_some_iff.1 hK).1
    have hWs := hB.size
    have keep : ∀ X, Below W.heap.size W X → X.cell? ⟨w.heap.size, 0, none⟩ = some (.bool false) ∧ X.frozen? ⟨w.heap.size, 0, none⟩ = false ∧ X.cell? ⟨P, 0, none⟩ = some (.slice A1 k c1) ∧ X.cell? ⟨P + 1 + 1, 0, none⟩ = some (.int .i64 (k : Int)) ∧ X.heap[D]? = some (.deferred (some [])) := fun X h =>
      ⟨(h.cell (p := ⟨w.heap.size, 0, none⟩) (by simp; omega)).trans z1, (h.frozen (p := ⟨w.heap.size, 0, none⟩) (by simp; omega)).trans z2, (h.cell (p := ⟨P, 0, none⟩) (by simp; omega)).trans z3, (h.cell (p := ⟨P + 1 + 1, 0, none⟩) (by simp; omega)).trans z5, (h.block D hDl).trans hK⟩
    have kC : ∀ X, Below W.heap.size W X → Calls Tryd.prog 12 #[.slice a0 len0 cap0] X fun e X' => e = .returned (.int .i64 (k : Int)) ∧ Below W.heap.size W X' ∧ X'.cell? ⟨w.heap.size, 0, none⟩ = some (.bool false) ∧ X'.frozen? ⟨w.heap.size, 0, none⟩ = false ∧ X'.cell? ⟨P, 0, none⟩ = some (.slice A1 k c1) ∧ X'.cell? ⟨P + 1 + 1, 0, none⟩ = some (.int .i64 (k : Int)) ∧ X'.heap[D]? = some (.deferred (some [])) := fun X hX => by
      rw [← HK.out]
      refine (count_any a0 len0 cap0 l (by omega) X (by have := hX.size; omega) (TextAt.more (by have := hX.size; omega) (HI.out.below (hB.trans (hX.mono hWs)))) (tabs_below h2 (hB.trans (hX.mono hWs)) HT.out)).mono fun e X' ⟨he, hb⟩ => ?_
      have h := hX.trans (hb.mono hX.size)
      rw [HK.out] at he ⊢
      exact ⟨he, h, keep X' h⟩
    have kB : ∀ X, Below W.heap.size W X → Calls Tryd.prog 9 #[.slice a0 len0 cap0] X fun e X' => e = .returned (.int .i64 (badOf l)) ∧ Below W.heap.size W X' ∧ X'.cell? ⟨w.heap.size, 0, none⟩ = some (.bool false) ∧ X'.frozen? ⟨w.heap.size, 0, none⟩ = false ∧ X'.cell? ⟨P, 0, none⟩ = some (.slice A1 k c1) ∧ X'.cell? ⟨P + 1 + 1, 0, none⟩ = some (.int .i64 (k : Int)) ∧ X'.heap[D]? = some (.deferred (some [])) := fun X hX =>
      (bad_any a0 len0 cap0 l (by omega) X (by have := hX.size; omega) (TextAt.more (by have := hX.size; omega) (HI.out.below (hB.trans (hX.mono hWs)))) (tabs_below h2 (hB.trans (hX.mono hWs)) HT.out)).mono fun e X' ⟨he, hb⟩ => by
        have h := hX.trans (hb.mono hX.size)
        exact ⟨he, h, keep X' h⟩
    have hr1 : Below W.heap.size W W.drew := (Below.refl _ W).drew
    have mixed : Tryd.prog.follows .mixedOrders = true := by kernel_rfl
    have KEEP := Lib.hid keep
    clear keep
    by_cases hlt : bn < len0
    · have hbo : badOf l = (bn : Int) := by unfold badOf; rw [HBN.out, if_neg (by omega)]
      rw [hbo] at kB
      clear hbo
      gi_wp2
      refine wpIn_noPanic ?_
      gi_region_with_o (first | (refine ⟨trivial, ?_⟩; gi_at_call 12; refine (callsIn_wide.2 (kC _ (by assumption))).mono ?_; rintro e w5 ⟨rfl, hb5, y1, y2, y3, y4, y5⟩) | (refine ⟨trivial, ?_⟩; gi_at_call 9; refine (callsIn_wide.2 (kB _ (by assumption))).mono ?_; rintro e w6 ⟨rfl, hb6, x1, x2, x3, x4, x5⟩))
      all_goals dsimp only [NoPanic]
      all_goals gi_wp2
      all_goals
        obtain ⟨f1, f2, f3⟩ := fin_cell (show w.heap.size < D by omega) hB hb6 x5 x1
        refine ⟨by simp, .inl ⟨_, _, rfl, run_takeDeferred f1, ?_⟩⟩
        exact ⟨.bool true, by simp [results, Tryd.results4, go_sem, f2], rfl, f3⟩
    · have hbo : badOf l = -1 := by unfold badOf; rw [HBN.out, if_pos (by omega)]
      rw [hbo] at kB
      clear hbo
      gi_wp2
      refine wpIn_noPanic ?_
      gi_region_with_o (first | (refine ⟨trivial, ?_⟩; gi_at_call 12; refine (callsIn_wide.2 (kC _ (by assumption))).mono ?_; rintro e w5 ⟨rfl, hb5, y1, y2, y3, y4, y5⟩) | (refine ⟨trivial, ?_⟩; gi_at_call 9; refine (callsIn_wide.2 (kB _ (by assumption))).mono ?_; rintro e w6 ⟨rfl, hb6, x1, x2, x3, x4, x5⟩))
      all_goals dsimp only [NoPanic]
      all_goals gi_wp2
      all_goals
        obtain ⟨f1, f2, f3⟩ := fin_cell (show w.heap.size < D by omega) hB hb6 x5 x1
        refine ⟨by simp, .inl ⟨_, _, rfl, run_takeDeferred f1, ?_⟩⟩
        exact ⟨.bool true, by simp [results, Tryd.results4, go_sem, f2], rfl, f3⟩
  case stop =>
    rintro D c pre W _ ⟨rest, hpre⟩ ⟨⟨_, p, x, rfl, hne⟩, _⟩ _
    exfalso
    apply hne
    rw [hpre]
    exact ⟨by simp, by simp⟩

end Go.Proofs.YtnopplgplfenaaaDoor
