/- The line and the column of a place, at every text within the reach, at every place. -/
import Derived.Test.YtnopplgplfenaaaDoorCount
import Derived.Test.YtnopplgplfenaaaDoorMathB
import Derived.RegionTactic
import Derived.Deep.QuietTactic
import Derived.BigQuiet
namespace Go.Proofs.YtnopplgplfenaaaDoor
open Go Go.Proofs Go.RowKit Go.Shelf

attribute [local go_sem] Oper.semAt_some

theorem bd_le : ∀ (n : Nat) (l : List UInt8) (k : Nat), l.length ≤ n → k ≤ bd l k ∧ bd l k ≤ k + l.length
  | 0, l, k, h => by rw [bd_nil l k (by omega)]; omega
  | n + 1, l, k, h => by
    by_cases h0 : 0 < l.length
    · by_cases hb : isBad l
      · rw [bd_bad l k hb]; omega
      · have hd := D_bounds l h0
        have ih := bd_le n (l.drop (D l).2) (k + (D l).2) (by simp only [List.length_drop]; omega)
        rw [bd_cons l k h0 hb]
        simp only [List.length_drop] at ih
        omega
    · rw [bd_nil l k (by omega)]; omega

theorem behind_any (L C : Int) (nl : Bool) (hL : 0 ≤ L) (hL' : L ≤ 1000000000000000) (hC : 0 ≤ C) (hC' : C ≤ 1000000000000000) (w : World) :
    Calls Tryd.prog 24 #[.int .i64 L, .int .i64 C, .bool nl] w fun e w' => e = .returned (.tuple #[.int .i64 (step (L, C) nl).1, .int .i64 (step (L, C) nl).2]) ∧ w = w' := by
  cases nl
  · go_enter Tryd.func24, Tryd.ntmps24
    go_wp2
    go_ret2
    exact ⟨rfl, rfl⟩
  · go_enter Tryd.func24, Tryd.ntmps24
    go_wp2
    go_ret2
    exact ⟨rfl, rfl⟩

/-- The same where nothing panics. -/
def NoPanic (Q : Exit → Act → World → Prop) : Exit → Act → World → Prop
  | .panic _, _, _ => False
  | e, a, w => Q e a w
theorem wpIn_noPanic {F : Fence} {n : Nat} {P : Program} {c : Code} {Q : Exit → Act → World → Prop} {a : Act} {w : World} (h : c.wpIn F n P (NoPanic Q) a w) : c.wpIn F n P Q a w :=
  wpIn_mono h (fun e _ _ h => by cases e <;> first | exact h | exact h.elim)

/-- Of signs that have come: which are line feeds. -/
def feeds {N : Nat} (pre : List (Sg N)) : List Bool := (signMarks (pre.map Subtype.val)).map Prod.snd
theorem feeds_snoc {N : Nat} (pre : List (Sg N)) (x : Sg N) : feeds (pre ++ [x]) = feeds pre ++ [decide (x.1.2 = 10)] := by simp [feeds, signMarks]
theorem feeds_length {N : Nat} (pre : List (Sg N)) : (feeds pre).length = pre.length := by simp [feeds, signMarks]

/-- What the four boxes hold: the place that is asked, the line, the column, the place behind. -/
def Boxes4 (S : Nat) (q L C E : Int) (W : World) : Prop :=
  W.cell? ⟨S, 0, none⟩ = some (.int .i64 q) ∧ W.cell? ⟨S + 1, 0, none⟩ = some (.int .i64 L) ∧ W.cell? ⟨S + 1 + 1, 0, none⟩ = some (.int .i64 C) ∧ W.cell? ⟨S + 1 + 1 + 1, 0, none⟩ = some (.int .i64 E) ∧
  W.frozen? ⟨S + 1, 0, none⟩ = false ∧ W.frozen? ⟨S + 1 + 1, 0, none⟩ = false ∧ W.frozen? ⟨S + 1 + 1 + 1, 0, none⟩ = false

theorem Boxes4.kept {S : Nat} {q L C E : Int} {A B : World} {row : Option Nat} (hs : Boxes4 S q L C E A) (hg : A.grownBy B row) (hr : ∀ r, row = some r → ∃ o : Obj, A.heap[r]? = some o ∧ o.isCells = false) : Boxes4 S q L C E B := by
  obtain ⟨h0, h1, h2, h3, f1, f2, f3⟩ := hs
  exact ⟨cell_kept h0 hg hr, cell_kept h1 hg hr, cell_kept h2 hg hr, cell_kept h3 hg hr, (frozen_kept h1 hg hr).trans f1, (frozen_kept h2 hg hr).trans f2, (frozen_kept h3 hg hr).trans f3⟩

theorem cell_set_ne {W : World} {b b' : Nat} (h : b ≠ b') (v : Value) : (W.setCell ⟨b, 0, none⟩ v).cell? ⟨b', 0, none⟩ = W.cell? ⟨b', 0, none⟩ := World.cell?_setCell_other W ⟨b, 0, none⟩ ⟨b', 0, none⟩ v (fun e => h (congrArg Addr.block e))

theorem cell_set_eq {W : World} {b : Nat} {u : Value} (h : W.cell? ⟨b, 0, none⟩ = some u) (v : Value) : (W.setCell ⟨b, 0, none⟩ v).cell? ⟨b, 0, none⟩ = some v := World.cell?_setCell_same W ⟨b, 0, none⟩ v h

theorem Boxes4.set {S : Nat} {q L C E : Int} {W : World} (h : Boxes4 S q L C E W) (L' C' E' : Int) :
    Boxes4 S q L' C' E' (((W.setCell ⟨S + 1, 0, none⟩ (.int .i64 L')).setCell ⟨S + 1 + 1, 0, none⟩ (.int .i64 C')).setCell ⟨S + 1 + 1 + 1, 0, none⟩ (.int .i64 E')) := by
  obtain ⟨h0, h1, h2, h3, f1, f2, f3⟩ := h
  refine ⟨?_, ?_, ?_, ?_, ?_, ?_, ?_⟩
  · exact (cell_set_ne (by omega) _).trans ((cell_set_ne (by omega) _).trans ((cell_set_ne (by omega) _).trans h0))
  · exact (cell_set_ne (by omega) _).trans ((cell_set_ne (by omega) _).trans (cell_set_eq h1 _))
  · exact (cell_set_ne (by omega) _).trans (cell_set_eq ((cell_set_ne (by omega) _).trans h2) _)
  · exact cell_set_eq ((cell_set_ne (by omega) _).trans ((cell_set_ne (by omega) _).trans h3)) _
  · simpa [World.frozen?_setCell] using f1
  · simpa [World.frozen?_setCell] using f2
  · simpa [World.frozen?_setCell] using f3

theorem Boxes4.set2 {S : Nat} {q L C E : Int} {W : World} (h : Boxes4 S q L C E W) (L' C' : Int) :
    Boxes4 S q L' C' E ((W.setCell ⟨S + 1, 0, none⟩ (.int .i64 L')).setCell ⟨S + 1 + 1, 0, none⟩ (.int .i64 C')) := by
  obtain ⟨h0, h1, h2, h3, f1, f2, f3⟩ := h
  refine ⟨?_, ?_, ?_, ?_, ?_, ?_, ?_⟩
  · exact (cell_set_ne (by omega) _).trans ((cell_set_ne (by omega) _).trans h0)
  · exact (cell_set_ne (by omega) _).trans (cell_set_eq h1 _)
  · exact cell_set_eq ((cell_set_ne (by omega) _).trans h2) _
  · exact (cell_set_ne (by omega) _).trans ((cell_set_ne (by omega) _).trans h3)
  · simpa [World.frozen?_setCell] using f1
  · simpa [World.frozen?_setCell] using f2
  · simpa [World.frozen?_setCell] using f3

theorem fin_where {S D : Nat} {q L C E : Int} {w wr : World} (hS : S ≤ w.heap.size) (hb : Boxes4 S q L C E wr) (hB : Below S w wr) (hK : wr.heap[D]? = some (.deferred (some []))) (hD : S + 2 < D) (hD2 : w.heap.size ≤ D) :
    ((wr.setCell ⟨S + 1, 0, none⟩ (.int .i64 L)).setCell ⟨S + 1 + 1, 0, none⟩ (.int .i64 C)).drew.heap[D]? = some (.deferred (some [])) ∧
    Boxes4 S q L C E (((wr.setCell ⟨S + 1, 0, none⟩ (.int .i64 L)).setCell ⟨S + 1 + 1, 0, none⟩ (.int .i64 C)).drew.putObj D (.deferred none)) ∧
    Below S w (((wr.setCell ⟨S + 1, 0, none⟩ (.int .i64 L)).setCell ⟨S + 1 + 1, 0, none⟩ (.int .i64 C)).drew.putObj D (.deferred none)) := by
  have hKX : ((wr.setCell ⟨S + 1, 0, none⟩ (.int .i64 L)).setCell ⟨S + 1 + 1, 0, none⟩ (.int .i64 C)).drew.heap[D]? = some (.deferred (some [])) :=
    (Below.heap_setCell _ ⟨S + 1 + 1, 0, none⟩ _ D (by simp; omega)).trans ((Below.heap_setCell _ ⟨S + 1, 0, none⟩ _ D (by simp; omega)).trans hK)
  have hX : Boxes4 S q L C E ((wr.setCell ⟨S + 1, 0, none⟩ (.int .i64 L)).setCell ⟨S + 1 + 1, 0, none⟩ (.int .i64 C)).drew := hb.set2 L C
  have hBX : Below S w ((wr.setCell ⟨S + 1, 0, none⟩ (.int .i64 L)).setCell ⟨S + 1 + 1, 0, none⟩ (.int .i64 C)).drew := ((hB.setCell (p := ⟨S + 1, 0, none⟩) (by simp) _).setCell (p := ⟨S + 1 + 1, 0, none⟩) (by simp; omega) _).drew
  exact ⟨hKX, hX.kept (grownBy_putObj' _ D _) (fun r e => by cases e; exact ⟨_, hKX, rfl⟩), hBX.trans (belowK_b (w := w) hS _ D _ _ hD2 hKX rfl rfl)⟩

def WI (N S : Nat) (q : Int) (w : World) (pre : List (Sg N)) (W : World) : Prop :=
  (Boxes4 S q (lc (feeds pre)).1 (lc (feeds pre)).2 (endZ (pre.map Subtype.val)) W ∧ (∀ y ∈ pre, (y.1.1 : Int) < q)) ∧ Below S w W
def WX (N S : Nat) (q : Int) (w : World) (c : Code) (pre : List (Sg N)) (W : World) : Prop :=
  (∃ p x, pre = p ++ [x] ∧ c = .ret ∧ (∀ y ∈ p, (y.1.1 : Int) < q) ∧ ¬ (x.1.1 : Int) < q ∧ ∃ E, Boxes4 S q (lc (feeds p)).1 (lc (feeds p)).2 E W) ∧ Below S w W

theorem WI_own (N S : Nat) (q : Int) (w : World) (B : Nat) (h1 : S ≤ w.heap.size) (h2 : S ≤ B) : OwnFrom B (WI N S q w) :=
  OwnFrom.and (Own.from (fun _ _ _ _ hs hg hr => ⟨hs.1.kept hg hr, hs.2⟩) _) (ownFrom_below h1 h2)
theorem WX_own (N S : Nat) (q : Int) (w : World) (c : Code) (B : Nat) (h1 : S ≤ w.heap.size) (h2 : S ≤ B) : OwnFrom B (WX N S q w c) :=
  OwnFrom.and (Own.from (fun _ _ _ _ ⟨p, x, e, hc, h1, h2, E, hs⟩ hg hr => ⟨p, x, e, hc, h1, h2, E, hs.kept hg hr⟩) _) (ownFrom_below h1 h2)

set_option maxRecDepth 100000 in
set_option maxHeartbeats 2000000 in
theorem where_any (a : Option Addr) (len cap : Nat) (l : List UInt8) (q : Int) (hlen : l.length ≤ 140737488351232) (w : World) (h2 : 2 ≤ w.heap.size) (hI : TextAt w.heap.size w (.slice a len cap) l) (hT : Lib.Utf8Tabs 0 1 w) :
    Calls Tryd.prog 15 #[.slice a len cap, .int .i64 q] w fun e W' => e = .returned (.tuple #[.int .i64 (whereOf l q).1, .int .i64 (whereOf l q).2]) ∧ Below w.heap.size w W' := by
  have mixed : Tryd.prog.follows .mixedOrders = true := by kernel_rfl
  refine (callsIn_wide (n := 9)).1 ?_
  refine callsIn_of_wp_marks Tryd.func15 rfl trivial ?_ rfl
  simp only [Tryd.ntmps15, List.size_toArray, List.length_cons, List.length_nil, Nat.reduceAdd, Nat.reduceSub, Array.replicate_succ, Array.replicate_zero, List.push_toArray, List.append_toArray, List.nil_append, List.cons_append]
  gi_wp2_with (refine ⟨trivial, ?_⟩; gi_at_call 17; refine (mkSigns_in _ _ _ _ _).mono ?_; rintro e w' ⟨rfl, rfl⟩)
  obtain ⟨W0, hW0⟩ : ∃ W0, (((((w.alloc (.cells #[.int .i64 q] 3)).alloc (.cells #[.int .i64 1] 3)).alloc (.cells #[.int .i64 1] 3)).alloc (.cells #[.int .i64 0] 3)).alloc (.cells #[.slice a len cap] 22)) = W0 := ⟨_, rfl⟩
  have hB0 : Below w.heap.size w W0 := by rw [← hW0]; exact (((((Below.refl _ w).alloc (Nat.le_refl _) _).alloc (by simp) _).alloc (by simp; omega) _).alloc (by simp; omega) _).alloc (by simp; omega) _
  have hsz0 : W0.heap.size = w.heap.size + 5 := by rw [← hW0]; simp
  have bS : Boxed W0 (w.heap.size + 1 + 1 + 1 + 1) 22 (.slice a len cap) := by
    rw [← hW0]; have := Boxed.new ((((w.alloc (.cells #[.int .i64 q] 3)).alloc (.cells #[.int .i64 1] 3)).alloc (.cells #[.int .i64 1] 3)).alloc (.cells #[.int .i64 0] 3)) 22 (.slice a len cap)
    simpa using this
  have hI0 : Boxes4 w.heap.size q 1 1 0 W0 := by
    have b0 := Boxed.new w 3 (.int .i64 q)
    have b1 := Boxed.new (w.alloc (.cells #[.int .i64 q] 3)) 3 (.int .i64 1)
    have b2 := Boxed.new ((w.alloc (.cells #[.int .i64 q] 3)).alloc (.cells #[.int .i64 1] 3)) 3 (.int .i64 1)
    have b3 := Boxed.new (((w.alloc (.cells #[.int .i64 q] 3)).alloc (.cells #[.int .i64 1] 3)).alloc (.cells #[.int .i64 1] 3)) 3 (.int .i64 0)
    simp only [World.size_alloc] at b0 b1 b2 b3
    rw [← hW0]
    exact ⟨((((b0.alloc _).alloc _).alloc _).alloc _).cell, (((b1.alloc _).alloc _).alloc _).cell, ((b2.alloc _).alloc _).cell, (b3.alloc _).cell, (((b1.alloc _).alloc _).alloc _).frozen, ((b2.alloc _).alloc _).frozen, (b3.alloc _).frozen⟩
  rw [hW0]
  clear hW0
  obtain ⟨tb, htb, hTI⟩ := hI.named (by omega)
  refine wpIn_rangeFunc_ownG rfl (by omega) (gf := 25) (lb := #[.pointer (some ⟨w.heap.size + 1 + 1 + 1 + 1, 0, none⟩)]) rfl trivial (enters_of Tryd.func25 (by kernel_rfl) rfl)
    (signs_stops 8 (by omega) (w.heap.size + 1 + 1 + 1 + 1) tb _ l hlen _ (by omega) (by omega) (by omega) bS.cell (hTI.kept (hB0.block tb htb)) (tabs_below h2 hB0 hT)) Kp.trans (Kp_put (by omega) (by omega) (by omega)) (Below.refl _ _) (fun _ => rfl)
    (WI l.length w.heap.size q w) (WX l.length w.heap.size q w) (WI_own _ _ _ _ _ (Nat.le_refl _) (by omega)) (fun c => WX_own _ _ _ _ _ _ (Nat.le_refl _) (by omega))
    ⟨⟨hI0, fun y hy => by cases hy⟩, hB0⟩
    (fun x => { tmps := #[.slice a len cap, .int .i64 q, undef, .pointer (some ⟨w.heap.size, 0, none⟩), .pointer (some ⟨w.heap.size + 1, 0, none⟩), .pointer (some ⟨w.heap.size + 1 + 1, 0, none⟩), .pointer (some ⟨w.heap.size + 1 + 1 + 1, 0, none⟩), .int .i64 (x.1.1 : Int), .int .i32 (x.1.2 : Int), undef, .slice a len cap,
      .func (.func 25) #[] #[.pointer (some ⟨w.heap.size + 1 + 1 + 1 + 1, 0, none⟩)], .int .i64 (x.1.1 : Int), .int .i32 (x.1.2 : Int), undef, undef, undef, undef, undef, undef, undef, undef, undef, undef, undef, undef, undef, undef,
      undef, undef, undef, undef, undef, undef, undef, undef, undef, undef, undef, undef, undef, undef, undef, undef, undef, undef, undef, undef, undef, undef, undef, undef, undef, undef, undef, undef], defers := [] }) ?assign ?body ?done ?stop
  case assign =>
    intro ll x W K hK
    unfold encSg
    gi_wp2
    exact hK
  case body =>
    rintro ll pre ⟨⟨p, r⟩, hp, hr⟩ W ⟨⟨⟨h0, h1, h3, h4, f1, f2, f3⟩, hq⟩, hB⟩ hpl
    dsimp only at hp hr ⊢
    have hrl := runeLen_bounds (r : Int)
    have hlb := lc_bounds (feeds pre)
    rw [feeds_length] at hlb
    obtain ⟨L, hL⟩ : ∃ L, (lc (feeds pre)).1 = L := ⟨_, rfl⟩
    obtain ⟨C, hC⟩ : ∃ C, (lc (feeds pre)).2 = C := ⟨_, rfl⟩
    rw [hL] at h1 hlb
    rw [hC] at h3 hlb
    have HQ := Lib.hid hq
    have HL := Lib.hid hL
    have HC := Lib.hid hC
    clear hq hL hC
    obtain ⟨hl1, hl2, hl3, hl4⟩ := hlb
    by_cases hpq : (p : Int) < q
    · gi_wp2_with (first | (refine ⟨trivial, ?_⟩; gi_at_call 18; refine (CallsIn.inRound ll (callsIn_wide.2 (runeLen_any _ _))).mono ?_; rintro e w' ⟨rfl, rfl⟩) | (refine ⟨trivial, ?_⟩; gi_at_call 24; refine (CallsIn.inRound ll (callsIn_wide.2 (behind_any _ _ _ (by omega) (by omega) (by omega) (by omega) _))).mono ?_; rintro e w' ⟨rfl, rfl⟩))
      refine ⟨((KeepsOthers.setCell _ _ _).trans ((KeepsOthers.setCell _ _ _).trans (KeepsOthers.setCell _ _ _))).from _, ((Kp_set (by omega) (by omega) (by omega) _ _).trans (Kp_set (by omega) (by omega) (by omega) _ _)).trans (Kp_set (by omega) (by omega) (by omega) _ _),
        ⟨⟨?_, ?_⟩, ((hB.setCell (p := ⟨w.heap.size + 1, 0, none⟩) (by simp) _).setCell (p := ⟨w.heap.size + 1 + 1, 0, none⟩) (by simp; omega) _).setCell (p := ⟨w.heap.size + 1 + 1 + 1, 0, none⟩) (by simp; omega) _⟩⟩
      · rw [feeds_snoc, lc_snoc, List.map_append, List.map_singleton, endZ_snoc]
        have hd : decide (r = 10) = ((r : Int) == 10) := by rw [Bool.eq_iff_iff]; simp; omega
        dsimp only
        rw [hd, show lc (feeds pre) = (L, C) from Prod.ext HL.out HC.out]
        exact Boxes4.set ⟨h0, h1, h3, h4, f1, f2, f3⟩ _ _ _
      · intro y hy
        rcases List.mem_append.1 hy with hy | hy
        · exact HQ.out y hy
        · obtain rfl := List.mem_singleton.1 hy; exact hpq
    · gi_wp2
      gi_region_with_o (fail)
      all_goals gi_wp2
      all_goals
        refine ⟨((KeepsOthers.setCell _ _ _).trans ((KeepsOthers.setCell _ _ _).trans (KeepsOthers.drew _))).from _, ⟨⟨pre, _, rfl, rfl, HQ.out, Int.not_lt.2 hpq, endZ (pre.map Subtype.val), ?_⟩, ((hB.setCell (p := ⟨w.heap.size + 1, 0, none⟩) (by simp) _).setCell (p := ⟨w.heap.size + 1 + 1, 0, none⟩) (by simp; omega) _).drew⟩⟩
        rw [show lc (feeds pre) = (L, C) from Prod.ext HL.out HC.out]
        exact Boxes4.set2 ⟨h0, h1, h3, h4, f1, f2, f3⟩ _ _
  case done =>
    rintro D ys W hD hys ⟨⟨hb, hq⟩, hB⟩ hK
    have hbdl := bd_le l.length l 0 (Nat.le_refl _)
    rw [hys, endZ_sg] at hb
    have hfe : feeds ys = (signMarks (sg l 0)).map Prod.snd := by unfold feeds; rw [hys]
    have hqs : ∀ y ∈ sg l 0, (y.1 : Int) < q := fun y hy => by
      rw [← hys] at hy
      obtain ⟨z, hz, rfl⟩ := List.mem_map.1 hy
      exact hq z hz
    rw [hfe] at hb
    rw [← upTo_bd] at hb
    have HT : Hid (∀ p, bd l 0 ≤ p → p ≤ l.length → (∀ i, bd l 0 ≤ i → i < p → (i : Int) < q) → (p = l.length ∨ q ≤ (p : Int)) → whereOf l q = lc (upTo l p)) := Lib.hid (fun p h0 h1 h2 h3 => whereOf_upTo l q p hqs h0 h1 h2 (h3.imp id Int.not_lt.2))
    clear hys hq hfe hqs
    have hll : len = l.length := by
      rcases hI with ⟨_, _, _, e, rfl⟩ | ⟨_, _, _, e, _⟩
      · cases e; rfl
      · cases e; rfl
    subst hll
    have hb' := hb
    obtain ⟨g0, g1, g3, g4, f1, f2, f3⟩ := hb'
    gi_wp2
    clear g0 g1 g3 g4 f1 f2 f3
    gi_loopw [9] (fun i wr => ∃ p : Nat, bd l 0 ≤ p ∧ p ≤ l.length ∧ i = .int .i64 p ∧ Hid (∀ i, bd l 0 ≤ i → i < p → (i : Int) < q) ∧ Boxes4 w.heap.size q (lc (upTo l p)).1 (lc (upTo l p)).2 (bd l 0 : Nat) wr ∧ Below w.heap.size w wr ∧ wr.heap[D]? = some (.deferred (some [])))
      (fun i _ => l.length - (intOf i).toNat)
    case atStart => exact ⟨bd l 0, Nat.le_refl _, by omega, rfl, Lib.hid (fun i h1 h2 => absurd h2 (by omega)), hb, hB, hK⟩
    case round =>
      obtain ⟨p, hp0, hp1, rfl, HP, hbr, hBr, hKr⟩ := hrel
      have hlb := lc_bounds (upTo l p)
      have hul := upTo_length l p
      have HS := Lib.hid (upTo_succ l p hp0)
      obtain ⟨L, hL⟩ : ∃ L, (lc (upTo l p)).1 = L := ⟨_, rfl⟩
      obtain ⟨C, hC⟩ : ∃ C, (lc (upTo l p)).2 = C := ⟨_, rfl⟩
      rw [hL, hC] at hbr hlb
      have HL := Lib.hid hL
      have HC := Lib.hid hC
      have HB := Lib.hid hbr
      clear hL hC hb hB hK
      obtain ⟨hl1, hl2, hl3, hl4⟩ := hlb
      obtain ⟨g0, g1, g3, g4, f1, f2, f3⟩ := hbr
      by_cases hpq : (p : Int) < q
      · by_cases hpl : p < l.length
        · rcases hI.below hBr with ⟨_, _, _, e, rfl⟩ | ⟨b, off, cap', e, hbb, hcap, hh⟩
          · simp at hpl
          · cases e
            have hcx := hh p hpl
            have hb256 := (l.getD p 0).toNat_lt
            obtain ⟨c, hc⟩ : ∃ c, (l.getD p 0).toNat = c := ⟨_, rfl⟩
            rw [hc] at hcx hb256
            have HCC := Lib.hid hc
            clear hc
            gi_wp2
            refine wpIn_noPanic ?_
            gi_region_with_o (refine ⟨trivial, ?_⟩; gi_at_call 24; refine (callsIn_wide.2 (behind_any _ _ _ (by omega) (by omega) (by omega) (by omega) _)).mono ?_; rintro e w' ⟨rfl, rfl⟩)
            all_goals dsimp only [NoPanic]
            all_goals gi_wp2
            all_goals
              go_roundw
              case rel =>
                refine ⟨p + 1, by omega, by omega, by go_num, Lib.hid (fun i h1 h2 => ?_), ?_, ((hBr.setCell (p := ⟨w.heap.size + 1, 0, none⟩) (by simp) _).setCell (p := ⟨w.heap.size + 1 + 1, 0, none⟩) (by simp; omega) _).drew, ?_⟩
                · by_cases hip : i < p
                  · exact HP.out i h1 hip
                  · obtain rfl : i = p := by omega
                    exact hpq
                · have hd : decide ((l.getD p 0).toNat = 10) = ((c : Int) == 10) := by rw [HCC.out, Bool.eq_iff_iff]; simp; omega
                  rw [HS.out, lc_snoc, hd, show lc (upTo l p) = (L, C) from Prod.ext HL.out HC.out]
                  exact Boxes4.set2 HB.out _ _
                · exact (Below.heap_setCell _ ⟨w.heap.size + 1 + 1, 0, none⟩ _ D (by simp; omega)).trans ((Below.heap_setCell _ ⟨w.heap.size + 1, 0, none⟩ _ D (by simp; omega)).trans hKr)
              case measure => simp [intOf]; omega
        · obtain rfl : p = l.length := by omega
          have hwh : whereOf l q = (L, C) := (HT.out _ hp0 (Nat.le_refl _) HP.out (Or.inl rfl)).trans (Prod.ext HL.out HC.out)
          have HW := Lib.hid hwh
          clear hwh
          gi_wp2
          refine wpIn_noPanic ?_
          gi_region_with_o (fail)
          all_goals dsimp only [NoPanic]
          all_goals gi_wp2
          all_goals
            obtain ⟨hKX, ⟨x0, x1, x3, x4, y1, y2, y3⟩, hBX⟩ := fin_where (Nat.le_refl _) HB.out hBr hKr (show w.heap.size + 2 < D by omega) (show w.heap.size ≤ D by omega)
            refine ⟨by simp, .inl ⟨_, _, rfl, run_takeDeferred hKX, ?_⟩⟩
            refine ⟨.tuple #[.int .i64 L, .int .i64 C], by simp [results, Tryd.results15, go_sem, x1, x3], ?_, hBX⟩
            rw [HW.out]
      · have hwh : whereOf l q = (L, C) := (HT.out p hp0 hp1 HP.out (Or.inr (Int.not_lt.1 hpq))).trans (Prod.ext HL.out HC.out)
        have HW := Lib.hid hwh
        clear hwh
        gi_wp2
        refine wpIn_noPanic ?_
        gi_region_with_o (fail)
        all_goals dsimp only [NoPanic]
        all_goals gi_wp2
        all_goals
          obtain ⟨hKX, ⟨x0, x1, x3, x4, y1, y2, y3⟩, hBX⟩ := fin_where (Nat.le_refl _) HB.out hBr hKr (show w.heap.size + 2 < D by omega) (show w.heap.size ≤ D by omega)
          refine ⟨by simp, .inl ⟨_, _, rfl, run_takeDeferred hKX, ?_⟩⟩
          refine ⟨.tuple #[.int .i64 L, .int .i64 C], by simp [results, Tryd.results15, go_sem, x1, x3], ?_, hBX⟩
          rw [HW.out]
  case stop =>
    rintro D c pre W hD ⟨rest, hpre⟩ ⟨⟨p, x, rfl, rfl, hp, hx, E, hb⟩, hB⟩ hK
    have hBW : Below w.heap.size w (W.putObj D (.deferred none)) := hB.trans (belowK_b (w := w) (Nat.le_refl _) W D _ _ (by omega) hK rfl rfl)
    have hbW : Boxes4 w.heap.size q (lc (feeds p)).1 (lc (feeds p)).2 E (W.putObj D (.deferred none)) := hb.kept (grownBy_putObj' W D _) (fun r e => by cases e; exact ⟨_, hK, rfl⟩)
    have hwh : whereOf l q = lc (feeds p) := whereOf_stop l q (p.map Subtype.val) x.1 rest (by rw [hpre]; simp) (fun y hy => by
      obtain ⟨z, hz, rfl⟩ := List.mem_map.1 hy
      exact hp z hz) hx
    have HW := Lib.hid hwh
    have HP := Lib.hid hpre
    clear hwh hpre hp hx
    obtain ⟨L, hL⟩ : ∃ L, (lc (feeds p)).1 = L := ⟨_, rfl⟩
    obtain ⟨C, hC⟩ : ∃ C, (lc (feeds p)).2 = C := ⟨_, rfl⟩
    rw [hL, hC] at hbW
    obtain ⟨h0, h1, h3, h4, f1, f2, f3⟩ := hbW
    have HL := Lib.hid hL
    have HC := Lib.hid hC
    clear hL hC hb
    gi_wp2
    refine ⟨by simp, .inl ⟨_, _, rfl, run_takeDeferred hK, ?_⟩⟩
    refine ⟨.tuple #[.int .i64 L, .int .i64 C], by simp [results, Tryd.results15, go_sem, h1, h3], ?_, hBW⟩
    rw [HW.out, ← HL.out, ← HC.out]

end Go.Proofs.YtnopplgplfenaaaDoor
