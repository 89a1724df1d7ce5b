/- The document's answer for one token, at every text of at most 2^20 bytes. -/
import Derived.Test.YtocepddgegnfaaaDoorRefN
import Derived.Test.YtocepddgegnfaaaDoorRefS
import Derived.Test.YtocepddgegnfaaaDoorLexer
namespace Go.Proofs.YtocepddgegnfaaaDoor
open Go Go.Proofs Go.RowKit

/-- Three cells that may be written. -/
def At3 (B : Nat) (W : World) (x y z : Value) : Prop :=
  W.cell? ⟨B, 0, none⟩ = some x ∧ W.cell? ⟨B, 1, none⟩ = some y ∧ W.cell? ⟨B, 2, none⟩ = some z ∧ W.frozen? ⟨B, 0, none⟩ = false ∧ W.frozen? ⟨B, 1, none⟩ = false ∧ W.frozen? ⟨B, 2, none⟩ = false
theorem at3_of {B : Nat} {W : World} {x y z : Value} {t : TypeId} (h : W.heap[B]? = some (.cells #[x, y, z] t)) : At3 B W x y z := by
  unfold At3 World.cell? World.frozen?
  simp only [h]
  exact ⟨rfl, rfl, rfl, rfl, rfl, rfl⟩
theorem At3.below {B n : Nat} {W X : World} {x y z : Value} (h : At3 B W x y z) (hb : Below n W X) (hn : B < n) : At3 B X x y z := by
  obtain ⟨h0, h1, h2, h3, h4, h5⟩ := h
  exact ⟨(hb.cell (p := ⟨B, 0, none⟩) hn).trans h0, (hb.cell (p := ⟨B, 1, none⟩) hn).trans h1, (hb.cell (p := ⟨B, 2, none⟩) hn).trans h2, (hb.frozen (p := ⟨B, 0, none⟩) hn).trans h3, (hb.frozen (p := ⟨B, 1, none⟩) hn).trans h4, (hb.frozen (p := ⟨B, 2, none⟩) hn).trans h5⟩
theorem put3_cells {B : Nat} {W : World} {u v s : Value} (h : At3 B W u v s) (x y z : Value) : (resPut B W x y z).cell? ⟨B, 0, none⟩ = some x ∧ (resPut B W x y z).cell? ⟨B, 1, none⟩ = some y ∧ (resPut B W x y z).cell? ⟨B, 2, none⟩ = some z := by
  obtain ⟨h0, h1, h2, _⟩ := h
  have n01 : ∀ (X : World) (u : Value), (X.setCell ⟨B, 1, none⟩ u).cell? ⟨B, 0, none⟩ = X.cell? ⟨B, 0, none⟩ := fun X u => World.cell?_setCell_other X ⟨B, 1, none⟩ ⟨B, 0, none⟩ u (by simp)
  have n02 : ∀ (X : World) (u : Value), (X.setCell ⟨B, 2, none⟩ u).cell? ⟨B, 0, none⟩ = X.cell? ⟨B, 0, none⟩ := fun X u => World.cell?_setCell_other X ⟨B, 2, none⟩ ⟨B, 0, none⟩ u (by simp)
  have n12 : ∀ (X : World) (u : Value), (X.setCell ⟨B, 2, none⟩ u).cell? ⟨B, 1, none⟩ = X.cell? ⟨B, 1, none⟩ := fun X u => World.cell?_setCell_other X ⟨B, 2, none⟩ ⟨B, 1, none⟩ u (by simp)
  have n10 : ∀ (X : World) (u : Value), (X.setCell ⟨B, 0, none⟩ u).cell? ⟨B, 1, none⟩ = X.cell? ⟨B, 1, none⟩ := fun X u => World.cell?_setCell_other X ⟨B, 0, none⟩ ⟨B, 1, none⟩ u (by simp)
  have n20 : ∀ (X : World) (u : Value), (X.setCell ⟨B, 0, none⟩ u).cell? ⟨B, 2, none⟩ = X.cell? ⟨B, 2, none⟩ := fun X u => World.cell?_setCell_other X ⟨B, 0, none⟩ ⟨B, 2, none⟩ u (by simp)
  have n21 : ∀ (X : World) (u : Value), (X.setCell ⟨B, 1, none⟩ u).cell? ⟨B, 2, none⟩ = X.cell? ⟨B, 2, none⟩ := fun X u => World.cell?_setCell_other X ⟨B, 1, none⟩ ⟨B, 2, none⟩ u (by simp)
  unfold resPut
  refine ⟨?_, ?_, ?_⟩
  · rw [n02, n01]; exact World.cell?_setCell_same W ⟨B, 0, none⟩ x h0
  · rw [n12]; exact World.cell?_setCell_same _ ⟨B, 1, none⟩ y ((n10 _ _).trans h1)
  · exact World.cell?_setCell_same _ ⟨B, 2, none⟩ z ((n21 _ _).trans ((n20 _ _).trans h2))

/-- What is told of one token. -/
def OnePost (m : List UInt8) (w : World) (e : Ending) (w' : World) : Prop :=
  (match tok m with
  | some ((k, t), n) => e = .returned (.tuple #[.agg #[.int .i64 (k : Nat), .string ⟨t.toArray⟩, .int .i64 0], .int .i64 (n : Nat)])
  | none => e = .returned (.tuple #[.agg #[.int .i64 0, .string ⟨#[]⟩, .int .i64 0], .int .i64 0])) ∧ Below w.heap.size w w'

theorem onePost_some {m : List UInt8} {w W : World} {k n : Nat} {t : List UInt8} {S : ByteArray} {K N : Int} (h : tok m = some ((k, t), n)) (hS : (⟨t.toArray⟩ : ByteArray) = S) (hK : K = (k : Int)) (hN : N = (n : Int)) (hb : Below w.heap.size w W) :
    OnePost m w (.returned (.tuple #[.agg #[.int .i64 K, .string S, .int .i64 0], .int .i64 N])) W := by
  unfold OnePost
  rw [h, ← hS, hK, hN]
  exact ⟨rfl, hb⟩
theorem onePost_none {m : List UInt8} {w W : World} (h : tok m = none) (hb : Below w.heap.size w W) :
    OnePost m w (.returned (.tuple #[.agg #[.int .i64 0, .string ⟨#[]⟩, .int .i64 0], .int .i64 0])) W := by
  unfold OnePost
  rw [h]
  exact ⟨rfl, hb⟩
theorem tok_at (l : List UInt8) (a : Nat) (ha : a < l.length) : tok (l.drop a) = if leadB (l.drop a) then (if fltB (l.drop a) then some ((5, (l.drop a).take 18), 18) else none)
    else if (l[a]'ha).toNat = 34 then (strV (l.drop (a + 1))).map fun x => ((6, x.1), x.2 + 1)
    else if (l[a]'ha).toNat = 35 then (if nameN (l.drop (a + 1)) = 0 then none else some ((3, (l.drop (a + 1)).take (nameN (l.drop (a + 1)))), nameN (l.drop (a + 1)) + 1))
    else if digB (l[a]'ha) then (if intN (l.drop a) = 0 then none else some ((4, (l.drop a).take (intN (l.drop a))), intN (l.drop a)))
    else if lowB (l[a]'ha) then some ((if isW ((l.drop a).take (nameN (l.drop a))) then 7 else 1, (l.drop a).take (nameN (l.drop a))), nameN (l.drop a))
    else if highB (l[a]'ha) then some ((2, (l.drop a).take (aliasN (l.drop a))), aliasN (l.drop a))
    else if signN (l.drop a) = 0 then none
    else some ((8, (l.drop a).take (signN (l.drop a))), signN (l.drop a)) := by
  conv => lhs; rw [drop_at l a ha]
  rw [tok, ← drop_at l a ha]
theorem lead_at (l : List UInt8) (a : Nat) (ha : a < l.length) : leadB (l.drop a) = (decide ((l[a]'ha).toNat = 102) && (if h : a + 1 < l.length then decide ((l[a + 1]'h).toNat = 39) else false)) := by
  unfold leadB
  rw [drop_at l a ha]
  have h1 : ∀ x : UInt8, (x = 102) ↔ x.toNat = 102 := fun x => UInt8.toNat_inj.symm
  have h2 : ∀ x : UInt8, (x = 39) ↔ x.toNat = 39 := fun x => UInt8.toNat_inj.symm
  by_cases h : a + 1 < l.length
  · rw [dif_pos h, drop_at l (a + 1) h, List.take_succ_cons, List.take_succ_cons, List.take_zero, Bool.eq_iff_iff]
    simp only [List.cons.injEq, and_true, h1, h2, decide_eq_true_eq, Bool.and_eq_true]
  · rw [dif_neg h, List.drop_eq_nil_of_le (show l.length ≤ a + 1 by omega)]
    simp

set_option maxRecDepth 100000 in
set_option maxHeartbeats 4000000 in
theorem rone_low (b off cap : Nat) (l : List UInt8) (hlen : l.length ≤ 1048576) (hcap : l.length ≤ cap) (a : Nat) (ha : a < l.length) (w : World) (hb : b < w.heap.size) (hh : Holds w b off l) (hl : leadB (l.drop a) = false) (hlo : lowB (l[a]'ha) = true) :
    Calls Tryd.prog 21 #[.slice (some ⟨b, off, none⟩) l.length cap, .int .i64 a] w (OnePost (l.drop a) w) := by
  obtain ⟨w0, hw0⟩ : ∃ w0, w.alloc (.cells #[.int .i64 0, .string ⟨#[]⟩, .int .i64 0] 31) = w0 := ⟨_, rfl⟩
  have hb0 : Below w.heap.size w w0 := by rw [← hw0]; exact (Below.refl _ w).alloc (Nat.le_refl _) _
  have hs0 : w0.heap.size = w.heap.size + 1 := by rw [← hw0]; simp
  have hA0 := at3_of (show w0.heap[w.heap.size]? = some (.cells #[.int .i64 0, .string ⟨#[]⟩, .int .i64 0] 31) by rw [← hw0]; exact World.alloc_heap_new w _)
  have hh0 : Holds w0 b off l := hh.below hb hb0
  have ht := tok_at l a ha
  have hck := hh0.at a ha
  have hc256 := (l[a]'ha).toNat_lt
  have hlo' : (97 ≤ (l[a]'ha).toNat ∧ (l[a]'ha).toNat ≤ 122) ∨ (l[a]'ha).toNat = 95 := by simpa [lowB] using hlo
  have hdi : digB (l[a]'ha) = false := by simp [digB]; omega
  rw [hl, if_neg (by decide), if_neg (by omega), if_neg (by omega), hdi, if_neg (by decide), hlo, if_pos rfl] at ht
  rw [lead_at l a ha] at hl
  have cN := rname_any b off cap l hlen a (by omega) w0 hh0
  have hn1 : 1 ≤ nameN (l.drop a) := by rw [drop_at l a ha]; unfold nameN; rw [spanN_cons _ _ _ _ hlo]; omega
  have hn2 := spanN_le lowB wordB' (l.drop a)
  rw [List.length_drop] at hn2
  have hn3 : nameN (l.drop a) ≤ l.length - a := hn2
  obtain ⟨n, hn⟩ : ∃ n, nameN (l.drop a) = n := ⟨_, rfl⟩
  rw [hn] at cN hn1 hn3 ht
  obtain ⟨S, hS⟩ : ∃ S : ByteArray, ⟨((l.drop a).take n).toArray⟩ = S := ⟨_, rfl⟩
  have hcv := conv_part hh0 a n (cap - a) (by omega)
  have htl : tl S = (l.drop a).take n := by rw [← hS]; simp [tl]
  have hSz : S.size = n := by rw [← tl_length, htl, List.length_take, List.length_drop]; omega
  have cW := rword_any S (by omega)
  have cL := rlow_any (l[a]'ha)
  rw [hlo] at cL
  rw [htl] at cW
  have hT : (l.drop a).take n = (l.drop a).take n := rfl
  rw [hS] at hcv
  obtain ⟨x0, x1, x2, f0, f1, f2⟩ := hA0
  have hnle : ¬ l.length ≤ a := by omega
  clear hn hn2 hlo hlo' hdi
  have HL := Lib.hid hl
  clear hl
  have cL2 : (l[a]'ha).toNat = 102 → ∀ w, Calls Tryd.prog 39 #[.int .u8 102] w fun e w' => e = .returned (.bool true) ∧ w = w' := fun h w => by
    have := cL w
    rw [h] at this
    exact this
  cases hw : isW ((l.drop a).take n)
  · rw [hw] at cW ht
    have HT := Lib.hid ht
    clear ht hw
    by_cases c102 : (l[a]'ha).toNat = 102
    · have cL := cL2 c102
      by_cases hl1 : a + 1 < l.length
      · have hck1 := hh0.at (a + 1) hl1
        have c39 : ¬ (l[a + 1]'hl1).toNat = 39 := by
          intro h
          have := HL.out
          rw [dif_pos hl1] at this
          simp [c102, h] at this
        have c39' : (((l[a + 1]'hl1).toNat : Int) == 39) = false := by simp; omega
        clear c39
        go_enter Tryd.func21, Tryd.ntmps21
        go_wp2_with (first | (go_at_call 39; with_reducible refine (cL _).mono ?_; rintro e w' ⟨rfl, rfl⟩) | (go_at_call 40; with_reducible refine cN.mono ?_; rintro e w' ⟨rfl, rfl⟩) | (go_at_call 14; with_reducible refine (cW _).mono ?_; rintro e w' ⟨rfl, rfl⟩))
        obtain ⟨r0, r1, r2⟩ := put3_cells ⟨x0, x1, x2, f0, f1, f2⟩ (.int .i64 1) (.string S) (.int .i64 0)
        have hbX := resPut_below (hb0) (Nat.le_refl _) (.int .i64 1) (.string S) (.int .i64 0)
        unfold resPut at r0 r1 r2 hbX
        refine bodyPost_ret (v := .tuple #[.agg #[.int .i64 1, .string S, .int .i64 0], .int .i64 (n : Int)]) (by simp [results, Tryd.results21, go_sem, r0, r1, r2]) rfl ?_
        exact onePost_some HT.out hS rfl rfl hbX
      · go_enter Tryd.func21, Tryd.ntmps21
        go_wp2_with (first | (go_at_call 39; with_reducible refine (cL _).mono ?_; rintro e w' ⟨rfl, rfl⟩) | (go_at_call 40; with_reducible refine cN.mono ?_; rintro e w' ⟨rfl, rfl⟩) | (go_at_call 14; with_reducible refine (cW _).mono ?_; rintro e w' ⟨rfl, rfl⟩))
        obtain ⟨r0, r1, r2⟩ := put3_cells ⟨x0, x1, x2, f0, f1, f2⟩ (.int .i64 1) (.string S) (.int .i64 0)
        have hbX := resPut_below (hb0) (Nat.le_refl _) (.int .i64 1) (.string S) (.int .i64 0)
        unfold resPut at r0 r1 r2 hbX
        refine bodyPost_ret (v := .tuple #[.agg #[.int .i64 1, .string S, .int .i64 0], .int .i64 (n : Int)]) (by simp [results, Tryd.results21, go_sem, r0, r1, r2]) rfl ?_
        exact onePost_some HT.out hS rfl rfl hbX
    · go_enter Tryd.func21, Tryd.ntmps21
      go_wp2_with (first | (go_at_call 39; with_reducible refine (cL _).mono ?_; rintro e w' ⟨rfl, rfl⟩) | (go_at_call 40; with_reducible refine cN.mono ?_; rintro e w' ⟨rfl, rfl⟩) | (go_at_call 14; with_reducible refine (cW _).mono ?_; rintro e w' ⟨rfl, rfl⟩))
      obtain ⟨r0, r1, r2⟩ := put3_cells ⟨x0, x1, x2, f0, f1, f2⟩ (.int .i64 1) (.string S) (.int .i64 0)
      have hbX := resPut_below (hb0) (Nat.le_refl _) (.int .i64 1) (.string S) (.int .i64 0)
      unfold resPut at r0 r1 r2 hbX
      refine bodyPost_ret (v := .tuple #[.agg #[.int .i64 1, .string S, .int .i64 0], .int .i64 (n : Int)]) (by simp [results, Tryd.results21, go_sem, r0, r1, r2]) rfl ?_
      exact onePost_some HT.out hS rfl rfl hbX
  · rw [hw] at cW ht
    have HT := Lib.hid ht
    clear ht hw
    by_cases c102 : (l[a]'ha).toNat = 102
    · have cL := cL2 c102
      by_cases hl1 : a + 1 < l.length
      · have hck1 := hh0.at (a + 1) hl1
        have c39 : ¬ (l[a + 1]'hl1).toNat = 39 := by
          intro h
          have := HL.out
          rw [dif_pos hl1] at this
          simp [c102, h] at this
        have c39' : (((l[a + 1]'hl1).toNat : Int) == 39) = false := by simp; omega
        clear c39
        go_enter Tryd.func21, Tryd.ntmps21
        go_wp2_with (first | (go_at_call 39; with_reducible refine (cL _).mono ?_; rintro e w' ⟨rfl, rfl⟩) | (go_at_call 40; with_reducible refine cN.mono ?_; rintro e w' ⟨rfl, rfl⟩) | (go_at_call 14; with_reducible refine (cW _).mono ?_; rintro e w' ⟨rfl, rfl⟩))
        obtain ⟨r0, r1, r2⟩ := put3_cells ⟨x0, x1, x2, f0, f1, f2⟩ (.int .i64 7) (.string S) (.int .i64 0)
        have hbX := resPut_below (hb0) (Nat.le_refl _) (.int .i64 7) (.string S) (.int .i64 0)
        unfold resPut at r0 r1 r2 hbX
        refine bodyPost_ret (v := .tuple #[.agg #[.int .i64 7, .string S, .int .i64 0], .int .i64 (n : Int)]) (by simp [results, Tryd.results21, go_sem, r0, r1, r2]) rfl ?_
        exact onePost_some HT.out hS rfl rfl hbX
      · go_enter Tryd.func21, Tryd.ntmps21
        go_wp2_with (first | (go_at_call 39; with_reducible refine (cL _).mono ?_; rintro e w' ⟨rfl, rfl⟩) | (go_at_call 40; with_reducible refine cN.mono ?_; rintro e w' ⟨rfl, rfl⟩) | (go_at_call 14; with_reducible refine (cW _).mono ?_; rintro e w' ⟨rfl, rfl⟩))
        obtain ⟨r0, r1, r2⟩ := put3_cells ⟨x0, x1, x2, f0, f1, f2⟩ (.int .i64 7) (.string S) (.int .i64 0)
        have hbX := resPut_below (hb0) (Nat.le_refl _) (.int .i64 7) (.string S) (.int .i64 0)
        unfold resPut at r0 r1 r2 hbX
        refine bodyPost_ret (v := .tuple #[.agg #[.int .i64 7, .string S, .int .i64 0], .int .i64 (n : Int)]) (by simp [results, Tryd.results21, go_sem, r0, r1, r2]) rfl ?_
        exact onePost_some HT.out hS rfl rfl hbX
    · go_enter Tryd.func21, Tryd.ntmps21
      go_wp2_with (first | (go_at_call 39; with_reducible refine (cL _).mono ?_; rintro e w' ⟨rfl, rfl⟩) | (go_at_call 40; with_reducible refine cN.mono ?_; rintro e w' ⟨rfl, rfl⟩) | (go_at_call 14; with_reducible refine (cW _).mono ?_; rintro e w' ⟨rfl, rfl⟩))
      obtain ⟨r0, r1, r2⟩ := put3_cells ⟨x0, x1, x2, f0, f1, f2⟩ (.int .i64 7) (.string S) (.int .i64 0)
      have hbX := resPut_below (hb0) (Nat.le_refl _) (.int .i64 7) (.string S) (.int .i64 0)
      unfold resPut at r0 r1 r2 hbX
      refine bodyPost_ret (v := .tuple #[.agg #[.int .i64 7, .string S, .int .i64 0], .int .i64 (n : Int)]) (by simp [results, Tryd.results21, go_sem, r0, r1, r2]) rfl ?_
      exact onePost_some HT.out hS rfl rfl hbX
end Go.Proofs.YtocepddgegnfaaaDoor
