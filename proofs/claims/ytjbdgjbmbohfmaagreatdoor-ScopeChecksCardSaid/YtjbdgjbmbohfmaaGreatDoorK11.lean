/- The tokens of a text: the program's own function, at every slice of bytes. The parser as a function of its tokens and of what it has built: terms without -/
import Derived.Test.YtjbdgjbmbohfmaaGreatDoorK10
import Derived.Test.YtjbdgjbmbohfmaaGreatDoorK08
namespace Go.Proofs.YtjbdgjbmbohfmaaGreatDoor
open Go Go.Proofs Go.RowKit
theorem conv_text' {n₀ : Nat} {W : World} {v : Value} {l : List UInt8} (h : TextAt n₀ W v l) : (convert 22 9 v).run Tryz.prog W = .ok (.string ⟨l.toArray⟩) W := by
 rcases h with ⟨a, cap, ha, rfl, rfl⟩ | ⟨b, off, cap, rfl, _, _, hh⟩
 ·rw [Go.run_convert_bytes_string (P := Tryz.prog) W 22 9 5 a 0 cap Tryz.underlying22 Tryz.underlying5 Tryz.underlying9]
  rcases a with _ | ad
  ·unfold Conv.bytesToString
   simp [go_sem]
   rfl
  ·rw [run_bytesToString W ad 0 cap [] (by simp [go_sem])]
   rfl
 ·refine run_convert_bytes_back W 22 9 5 ⟨b, off, none⟩ _ l Tryz.underlying22 Tryz.underlying5 Tryz.underlying9 (fun j hj => ?_)
  rw [add_none, hh j hj]
  simp [List.getD_eq_getElem?_getD, List.getElem?_eq_getElem hj]

theorem row_base {W : World} {B B' : Nat} {e : TypeId} {k : Nat} {v : Value} {n : Nat} {xs : List Value} (hb : B' ≤ B) (h : W.ownsRow B e k v n xs) : W.ownsRow B' e k v n xs := by
 refine ⟨h.1, ?_⟩
 rcases h.2 with e | ⟨g, cap, cur, e, hg, rest⟩
 ·exact .inl e
 ·exact .inr ⟨g, cap, cur, e, Nat.le_trans hb hg, rest⟩

theorem row_keep' {W W' : World} {B : Nat} {e : TypeId} {k : Nat} {v : Value} {n : Nat} {xs : List Value} {row : Option Nat} (h : W.ownsRow B e k v n xs) (hg : W.grownBy W' row) (hne : v.ownBlock ≠ row ∨ v.ownBlock = none) : W'.ownsRow B e k v n xs := by
 refine ⟨h.1, ?_⟩
 rcases h.2 with e | ⟨g, cap, cur, e, hb, hg2, rest⟩
 ·exact .inl e
 ·refine .inr ⟨g, cap, cur, e, hb, ?_, rest⟩
  rw [hg.block g (Array.getElem?_eq_some_iff.1 hg2).1 (by subst e; rcases hne with h | h; exact h; cases h)]
  exact hg2
theorem row_below {W W' : World} {B : Nat} {e : TypeId} {k : Nat} {v : Value} {n : Nat} {xs : List Value} (h : W.ownsRow B e k v n xs) (hb : Below W.heap.size W W') : W'.ownsRow B e k v n xs :=
 row_keep' h (grown_of_below hb) (by
  rcases hv : v.ownBlock with _ | g
  ·exact Or.inr rfl
  ·exact Or.inl (by simp))

theorem cell_three_new (w : World) (x y z : Value) (t : TypeId) : ∀ j u, [x, y, z][j]? = some u → (w.alloc (.cells #[x, y, z] t)).cell? ((⟨w.heap.size, 0, none⟩ : Addr).add j) = some u := by
 intro j u hj
 have hn := World.alloc_heap_new w (.cells #[x, y, z] t)
 rw [add_none]
 match j, hj with
 | 0, hj => simp at hj; subst hj; simp only [World.cell?, hn]; rfl
 | 1, hj => simp at hj; subst hj; simp only [World.cell?, hn]; rfl
 | 2, hj => simp at hj; subst hj; simp only [World.cell?, hn]; rfl

theorem skip_zero (l : List UInt8) : skipN (l.drop (skipN l)) = 0 := by
 rcases skipN_stop l.length l (Nat.le_refl _) with h | ⟨c, r, h, h1, h2⟩
 ·rw [h, skipN_nil]
 ·rw [h, skipN_none c r h1 h2]
theorem lexR_skip (l : List UInt8) (k : Nat) : lexR l k = lexR (l.drop (skipN l)) (k + skipN l) := by
 have hz := skip_zero l
 by_cases h0 : l.drop (skipN l) = []
 ·rw [lexR_end l k h0, lexR_end _ _ (by rw [hz]; exact h0), hz]; rfl
 ·cases ht : tok (l.drop (skipN l)) with
  | none => rw [lexR_none l k h0 ht, lexR_none _ _ (by rw [hz]; exact h0) (by rw [hz]; exact ht), hz]; rfl
  | some x =>
   have e2 := lexR_some (l.drop (skipN l)) (k + skipN l) x.1 x.2 (by rw [hz]; exact ht)
   rw [hz, List.drop_drop] at e2
   rw [lexR_some l k x.1 x.2 ht, e2]
   simp only [Nat.zero_add, Nat.add_zero]

/-- The block of a result that nothing is wrong. -/
def ResAt (B : Nat) (W : World) : Prop :=
 W.cell? ⟨B, 0, none⟩ = some (.int .i64 0) ∧ W.cell? ⟨B, 1, none⟩ = some (.int .i64 0) ∧ W.cell? ⟨B, 2, none⟩ = some (.string ⟨#[]⟩) ∧ W.frozen? ⟨B, 0, none⟩ = false ∧ W.frozen? ⟨B, 1, none⟩ = false ∧ W.frozen? ⟨B, 2, none⟩ = false
theorem resAt_of {B : Nat} {W : World} (h : W.heap[B]? = some (.cells #[.int .i64 0, .int .i64 0, .string ⟨#[]⟩] 31)) : ResAt B W := by
 unfold ResAt World.cell? World.frozen?
 simp only [h]
 exact ⟨rfl, rfl, rfl, rfl, rfl, rfl⟩

/-- What is put there. -/
def resPut (B : Nat) (W : World) (x y z : Value) : World := ((W.setCell ⟨B, 0, none⟩ x).setCell ⟨B, 1, none⟩ y).setCell ⟨B, 2, none⟩ z
theorem resPut_cells {B : Nat} {W : World} (h : ResAt B W) (x y z : Value) : (resPut B W x y z).cell? ⟨B, 0, none⟩ = some x ∧ (resPut B W x y z).cell? ⟨B, 1, none⟩ = some y ∧ (resPut B W x y z).cell? ⟨B, 2, none⟩ = some z := by
 obtain ⟨h0, h1, h2, _⟩ := h
 have n01 : ∀ (X : World) (u : Value), (X.setCell ⟨B, 1, none⟩ u).cell? ⟨B, 0, none⟩ = X.cell? ⟨B, 0, none⟩ := fun X u => World.cell?_setCell_other X ⟨B, 1, none⟩ ⟨B, 0, none⟩ u (by simp)
 have n02 : ∀ (X : World) (u : Value), (X.setCell ⟨B, 2, none⟩ u).cell? ⟨B, 0, none⟩ = X.cell? ⟨B, 0, none⟩ := fun X u => World.cell?_setCell_other X ⟨B, 2, none⟩ ⟨B, 0, none⟩ u (by simp)
 have n12 : ∀ (X : World) (u : Value), (X.setCell ⟨B, 2, none⟩ u).cell? ⟨B, 1, none⟩ = X.cell? ⟨B, 1, none⟩ := fun X u => World.cell?_setCell_other X ⟨B, 2, none⟩ ⟨B, 1, none⟩ u (by simp)
 have n10 : ∀ (X : World) (u : Value), (X.setCell ⟨B, 0, none⟩ u).cell? ⟨B, 1, none⟩ = X.cell? ⟨B, 1, none⟩ := fun X u => World.cell?_setCell_other X ⟨B, 0, none⟩ ⟨B, 1, none⟩ u (by simp)
 have n20 : ∀ (X : World) (u : Value), (X.setCell ⟨B, 0, none⟩ u).cell? ⟨B, 2, none⟩ = X.cell? ⟨B, 2, none⟩ := fun X u => World.cell?_setCell_other X ⟨B, 0, none⟩ ⟨B, 2, none⟩ u (by simp)
 have n21 : ∀ (X : World) (u : Value), (X.setCell ⟨B, 1, none⟩ u).cell? ⟨B, 2, none⟩ = X.cell? ⟨B, 2, none⟩ := fun X u => World.cell?_setCell_other X ⟨B, 1, none⟩ ⟨B, 2, none⟩ u (by simp)
 unfold resPut
 refine ⟨?_, ?_, ?_⟩
 ·rw [n02, n01]; exact World.cell?_setCell_same W ⟨B, 0, none⟩ x h0
 ·rw [n12]; exact World.cell?_setCell_same _ ⟨B, 1, none⟩ y ((n10 _ _).trans h1)
 ·exact World.cell?_setCell_same _ ⟨B, 2, none⟩ z ((n21 _ _).trans ((n20 _ _).trans h2))
theorem resPut_below {B n : Nat} {w W : World} (h : Below n w W) (hn : n ≤ B) (x y z : Value) : Below n w (resPut B W x y z) :=
 ((h.setCell (p := ⟨B, 0, none⟩) hn x).setCell (p := ⟨B, 1, none⟩) hn y).setCell (p := ⟨B, 2, none⟩) hn z
theorem resPut_row {B b : Nat} {W : World} {e : TypeId} {k : Nat} {v : Value} {n : Nat} {xs : List Value} (hb : B < b) (h : W.ownsRow b e k v n xs) (x y z : Value) : (resPut B W x y z).ownsRow b e k v n xs := by
 refine ⟨h.1, ?_⟩
 rcases h.2 with e | ⟨g, cap, cur, e, hg, hg2, rest⟩
 ·exact .inl e
 ·refine .inr ⟨g, cap, cur, e, hg, ?_, rest⟩
  unfold resPut
  rw [Below.heap_setCell _ ⟨B, 2, none⟩ _ g (by dsimp only; omega), Below.heap_setCell _ ⟨B, 1, none⟩ _ g (by dsimp only; omega), Below.heap_setCell _ ⟨B, 0, none⟩ _ g (by dsimp only; omega)]
  exact hg2

/-- What a lexer tells. -/
def LexPost (l : List UInt8) (w : World) (e : Ending) (w' : World) : Prop :=
 (match lexA l with
 | .ok ts => ∃ v, e = .returned (.tuple #[v, .agg #[.int .i64 0, .int .i64 0, .string ⟨#[]⟩]]) ∧ w'.ownsRow w.heap.size 94 3 v ts.length (tkV ts)
 | .error (c, p) => e = .returned (.tuple #[.slice none 0 0, .agg #[.int .i64 (c : Nat), .int .i64 (p : Nat), .string ⟨#[]⟩]])) ∧ Below w.heap.size w w'

set_option maxRecDepth 100000 in
set_option maxHeartbeats 4000000 in
theorem lex_any (a : Option Addr) (len cap : Nat) (l : List UInt8) (w : World) (hE : Env w) (hl : l.length = len) (hI : TextAt w.heap.size w (.slice a len cap) l) :
 Calls Tryz.prog 87 #[.slice a len cap] w (LexPost l w) := by
 subst hl
 by_cases hlong : 1048576 < l.length
 ·go_enter Tryz.func87, Tryz.ntmps87
  go_wp2_with fail
  refine bodyPost_ret (v := .tuple #[.slice none 0 0, .agg #[.int .i64 6, .int .i64 0, .string ⟨#[]⟩]]) (by simp [results, Tryz.results87, go_sem]) rfl ?_
  have hA : lexA l = .error (6, 0) := by unfold lexA; rw [if_pos hlong]
  unfold LexPost
  rw [hA]
  exact ⟨rfl, (Below.refl _ w).alloc (Nat.le_refl _) _⟩
 ·have hsz := hE.size
  obtain ⟨w0, hw0⟩ : ∃ w0, w.alloc (.cells #[.int .i64 0, .int .i64 0, .string ⟨#[]⟩] 31) = w0 := ⟨_, rfl⟩
  have hb0 : Below w.heap.size w w0 := by rw [← hw0]; exact (Below.refl _ w).alloc (Nat.le_refl _) _
  have hs0 : w0.heap.size = w.heap.size + 1 := by rw [← hw0]; simp
  have hc0 : w0.heap[w.heap.size]? = some (.cells #[.int .i64 0, .int .i64 0, .string ⟨#[]⟩] 31) := by rw [← hw0]; exact World.alloc_heap_new w _
  have hE0 := hE.on hb0
  have hI0 : TextAt w0.heap.size w0 (.slice a l.length cap) l := TextAt.more (by omega) (hI.below hb0)
  have cB := bad_any a l.length cap l (by omega) w0 (by omega) hI0 hE0.tabs
  by_cases hbd : bd l 0 = l.length
  ·have hbo : badOf l = -1 := by unfold badOf; rw [if_pos hbd]
   rw [hbo] at cB
   have HOK : Hid (∀ ts, lexR l 0 = .ok ts → lexA l = .ok ts) := Lib.hid (fun ts h => by unfold lexA; rw [if_neg hlong, if_neg (by omega), h])
   have HER : Hid (∀ p, lexR l 0 = .error p → lexA l = .error (3, p)) := Lib.hid (fun p h => by unfold lexA; rw [if_neg hlong, if_neg (by omega), h])
   clear hbo hbd
   obtain ⟨s, hs⟩ : ∃ s : ByteArray, ⟨l.toArray⟩ = s := ⟨_, rfl⟩
   have htl : tl s = l := by rw [← hs]; simp [tl]
   have hss : s.size = l.length := by rw [← tl_length, htl]
   go_enter Tryz.func87, Tryz.ntmps87
   go_wp2_with (go_at_call 145; refine cB.mono ?_; rintro e w1 ⟨rfl, hb1⟩)
   have hs1 := hb1.size
   have hI1 := hI0.below hb1
   have hcv := conv_text' hI1
   rw [hs] at hcv
   have cK := blanks_any s (by omega) 0 (by omega)
   rw [Nat.zero_add, List.drop_zero, htl] at cK
   rw [hcv]
   go_wp2_with (go_at_call 146; refine (cK _).mono ?_; rintro e w' ⟨rfl, rfl⟩)
   have hsk := skipN_le l.length l (Nat.le_refl _)
   obtain ⟨i31, hi31, hz0, hz1, hz2⟩ := info_parts info31
   have HST : Hid (lexR l 0 = prep [] (lexR (l.drop (skipN l)) (skipN l)) ∧ skipN (l.drop (skipN l)) = 0) := Lib.hid ⟨by rw [prep_nil, lexR_skip l 0, Nat.zero_add], skip_zero l⟩
   obtain ⟨k0, hk0⟩ : ∃ k0, skipN l = k0 := ⟨_, rfl⟩
   rw [hk0] at HST hsk ⊢
   clear hk0 cB cK hcv hI1
   go_loopw [6, 7, 8, 9] (fun ts i _ _ wr => ∃ (k : Nat) (pre : List Tk), k ≤ l.length ∧ pre.length ≤ k ∧ i = .int .i64 k ∧ Hid (lexR l 0 = prep pre (lexR (l.drop k) k) ∧ skipN (l.drop k) = 0) ∧ Hid (wr.ownsRow w0.heap.size 94 3 ts pre.length (tkV pre)) ∧ Below w0.heap.size w0 wr)
    (fun _ i _ _ _ => l.length - (intOf i).toNat)
   case atStart => exact ⟨k0, [], hsk, Nat.zero_le _, rfl, HST, Lib.hid (World.ownsRow_nil _ _ _ _), hb1⟩
   case round =>
    obtain ⟨k, pre, hk, hpk, rfl, HS, HR, hB⟩ := hrel
    have hBs := hB.size
    have hblk : wr.heap[w.heap.size]? = some (.cells #[.int .i64 0, .int .i64 0, .string ⟨#[]⟩] 31) := (hB.block w.heap.size (by omega)).trans hc0
    by_cases hlt : k < l.length
    ·have hEr : Env wr := hE0.below hE0.size hB (by omega)
     have hez : (s.extract k l.length).size = l.length - k := by simp [ByteArray.size_extract]; omega
     have hfr := tl_from s k
     rw [htl, hss] at hfr
     have cF := first_any (s.extract k l.length) (by omega) (by omega) wr hEr
     rw [hfr] at cF
     have hne : l.drop k ≠ [] := by
      intro h
      have := congrArg List.length h
      simp at this
      omega
     cases ht : tok (l.drop k) with
     | none =>
      have cF' : Calls Tryz.prog 147 #[.string (s.extract k l.length)] wr fun e w' => (∃ kind : Nat, e = .returned (.tuple #[.int .i64 kind, .int .i64 0])) ∧ Below wr.heap.size wr w' ∧ ResAt w.heap.size w' := by
       refine cF.mono fun e w' h => ?_
       obtain ⟨kind, size, he, hc, hb⟩ := h
       rcases hc with ⟨rfl, _⟩ | ⟨t, h⟩
       ·exact ⟨⟨kind, he⟩, hb, resAt_of ((hb.block w.heap.size (by omega)).trans hblk)⟩
       ·rw [ht] at h; cases h
      have hA : lexA l = .error (3, k) := HER.out k (by rw [HS.out.1, lexR_none _ _ (by rw [HS.out.2]; exact hne) (by rw [HS.out.2]; exact ht), HS.out.2]; rfl)
      have HA := Lib.hid hA
      clear hA cF ht hne hfr
      go_wp2_with fail
      with_reducible refine cF'.mono ?_
      rintro e w2 ⟨⟨kind, rfl⟩, hb2, x0, x1, x2, f0, f1, f2⟩
      clear cF'
      go_wp2_with fail
      obtain ⟨r0, r1, r2⟩ := resPut_cells ⟨x0, x1, x2, f0, f1, f2⟩ (.int .i64 3) (.int .i64 (k : Int)) (.string ⟨#[]⟩)
      have hbX := resPut_below (hb0.trans ((hB.mono (by omega)).trans (hb2.mono (by omega)))) (Nat.le_refl _) (.int .i64 3) (.int .i64 (k : Int)) (.string ⟨#[]⟩)
      unfold resPut at r0 r1 r2 hbX
      refine bodyPost_ret (v := .tuple #[.slice none 0 0, .agg #[.int .i64 3, .int .i64 (k : Int), .string ⟨#[]⟩]]) (by simp [results, Tryz.results87, go_sem, r0, r1, r2]) rfl ?_
      unfold LexPost
      rw [HA.out]
      exact ⟨rfl, hbX⟩
     | some x =>
      obtain ⟨⟨kind, tx⟩, n⟩ := x
      have hle := tok_le ht
      rw [List.length_drop] at hle
      have cF' : Calls Tryz.prog 147 #[.string (s.extract k l.length)] wr fun e w' => e = .returned (.tuple #[.int .i64 (kind : Nat), .int .i64 (n : Nat)]) ∧ Below wr.heap.size wr w' := by
       refine cF.mono fun e w' h => ?_
       obtain ⟨kind', size, he, hc, hb⟩ := h
       rcases hc with ⟨_, h⟩ | ⟨t, h⟩
       ·rw [ht] at h; cases h
       ·rw [ht] at h
        simp only [Option.some.injEq, Prod.mk.injEq] at h
        obtain ⟨⟨rfl, _⟩, rfl⟩ := h
        exact ⟨he, hb⟩
      obtain ⟨sub, hsub⟩ : ∃ sub, s.extract k (k + n) = sub := ⟨_, rfl⟩
      have hsubt : tl sub = (l.drop k).take n := by rw [← hsub, tl_extract, htl, List.drop_take]; congr 1; omega
      have hsubz : sub.size = n := by rw [← hsub]; simp [ByteArray.size_extract]; omega
      have cT := textOf_any (l.drop k) kind tx n ht sub (by omega) hsubt
      have hsl : ∀ w, (Instr.slice 9 (.string s) (some (.int .i64 (k : Int))) (some (.int .i64 ((k : Int) + (n : Int)))) none).run Tryz.prog w = .ok (.string sub) w := fun w => by
       rw [run_slice_string w 9 s .i64 .i64 k ((k : Int) + (n : Int)) Tryz.underlying9 (by omega) (by omega) (by omega), ← hsub]
       congr 3
      have cK := blanks_any s (by omega) (k + n) (by omega)
      rw [htl] at cK
      have hsk2 := skipN_le (l.drop (k + n)).length (l.drop (k + n)) (Nat.le_refl _)
      rw [List.length_drop] at hsk2
      have HS2 : Hid (lexR l 0 = prep (pre ++ [(kind, tx, k)]) (lexR (l.drop (k + n + skipN (l.drop (k + n)))) (k + n + skipN (l.drop (k + n)))) ∧ skipN (l.drop (k + n + skipN (l.drop (k + n)))) = 0) := Lib.hid (by
       have e1 := lexR_some (l.drop k) k (kind, tx) n (by rw [HS.out.2]; exact ht)
       rw [HS.out.2, List.drop_drop, Nat.add_zero, Nat.zero_add] at e1
       have e2 := lexR_skip (l.drop (k + n)) (k + n)
       rw [List.drop_drop] at e2
       have e3 := skip_zero (l.drop (k + n))
       rw [List.drop_drop] at e3
       refine ⟨?_, e3⟩
       rw [HS.out.1, e1, e2, prep_prep])
      obtain ⟨k', hk'⟩ : ∃ k', k + n + skipN (l.drop (k + n)) = k' := ⟨_, rfl⟩
      rw [hk'] at HS2 cK
      have hk'1 : k + n ≤ k' := by omega
      have hk'2 : k' ≤ l.length := by omega
      have cK' : ∀ w, Calls Tryz.prog 146 #[.string s, .int .i64 ((k : Int) + (n : Int))] w fun e w' => e = .returned (.int .i64 (k' : Nat)) ∧ w = w' := cK
      have hn0 : ((n : Int) == 0) = false := by simp; omega
      have hn1 : 1 ≤ n := hle.1
      clear cF cK ht hne hfr hez hsubt hsubz hsub hle hk' hsk2 HS hblk
      go_wp2_with fail
      with_reducible refine cF'.mono ?_
      rintro e w2 ⟨rfl, hb2⟩
      clear cF'
      go_wp2_with (first | (go_at_call 148; with_reducible refine (cT _).mono ?_; rintro e w3 ⟨rfl, hb3⟩) | (at_builtin; refine wpList_append_own_at _ rfl _ _ 69 rfl w0.heap.size 94 i31 (.agg #[.int .i64 0, .string ⟨#[]⟩, .int .i64 0]) 3 32 Tryz.underlying69 hi31 hz0 hz1 hz2 rfl (by decide) _ pre.length (tkV pre) rfl ?ra0 ⟨w3.heap.size, 0, none⟩ 1 1 [.int .i64 (kind : Int), .string ⟨tx.toArray⟩, .int .i64 (k : Int)] rfl rfl (cell_three_new _ _ _ _ _) (by simp [Value.oneCell']) ?ra1 ?ra2 ?ra3 ?_))
      case ra0 => exact (row_below (row_below HR.out hb2) hb3).alloc _
      case ra1 => unfold maxLen; omega
      case ra2 => omega
      case ra3 => have := hb2.size; have := hb3.size; simp; omega
      intro v1 W1 hown hg _ _
      have hbX : Below w0.heap.size w0 (w3.alloc (.cells #[.int .i64 (kind : Int), .string ⟨tx.toArray⟩, .int .i64 (k : Int)] 94)) := ((hB.trans (hb2.mono hBs)).trans (hb3.mono (by have := hb2.size; omega))).alloc (by have := hb2.size; have := hb3.size; omega) _
      have hbW1 : Below w0.heap.size w0 W1 := hbX.grown hg hbX.size (fun g hg => ((row_below (row_below HR.out hb2) hb3).lt g hg).1)
      have HO : Hid (W1.ownsRow w0.heap.size 94 3 v1 (pre ++ [(kind, tx, k)]).length (tkV (pre ++ [(kind, tx, k)]))) := Lib.hid (by rw [hs0, tkV_append, List.length_append]; exact hown)
      clear hown hg hbX cT
      go_wp2_with (first | (go_at_call 146; with_reducible refine (cK' _).mono ?_; rintro e w' ⟨rfl, rfl⟩))
      go_roundw
      case rel => exact ⟨k', pre ++ [(kind, tx, k)], hk'2, by simp; omega, rfl, HS2, HO, hbW1⟩
      case measure => simp [intOf]; omega
    ·obtain rfl : k = l.length := by omega
     have hnil : l.drop l.length = [] := List.drop_eq_nil_of_le (Nat.le_refl _)
     have hA : lexA l = .ok (pre ++ [(0, [], l.length)]) := HOK.out _ (by rw [HS.out.1, hnil, lexR_end [] _ (by rw [skipN_nil]; rfl), skipN_nil]; rfl)
     have HA := Lib.hid hA
     clear hA hnil HS
     go_wp2_with (at_builtin; refine wpList_append_own_at _ rfl _ _ 69 rfl w0.heap.size 94 i31 (.agg #[.int .i64 0, .string ⟨#[]⟩, .int .i64 0]) 3 32 Tryz.underlying69 hi31 hz0 hz1 hz2 rfl (by decide) _ pre.length (tkV pre) rfl ?rb0 ⟨wr.heap.size, 0, none⟩ 1 1 [.int .i64 0, .string ⟨#[]⟩, .int .i64 (l.length : Int)] rfl rfl (cell_three_new _ _ _ _ _) (by simp [Value.oneCell']) ?rb1 ?rb2 ?rb3 ?_)
     case rb0 => exact HR.out.alloc _
     case rb1 => unfold maxLen; omega
     case rb2 => omega
     case rb3 => simp; omega
     intro v1 W1 hown hg _ _
     have hbX : Below w0.heap.size w0 (wr.alloc (.cells #[.int .i64 0, .string ⟨#[]⟩, .int .i64 (l.length : Int)] 94)) := hB.alloc hBs _
     have hbW1 : Below w0.heap.size w0 W1 := hbX.grown hg hbX.size (fun g hg => (HR.out.lt g hg).1)
     have hR1 : ResAt w.heap.size W1 := resAt_of ((hbW1.block w.heap.size (by omega)).trans hc0)
     have HO : Hid (W1.ownsRow (w.heap.size + 1) 94 3 v1 (pre ++ [(0, [], l.length)]).length (tkV (pre ++ [(0, [], l.length)]))) := Lib.hid (by rw [tkV_append, List.length_append, ← hs0]; exact hs0 ▸ hown)
     obtain ⟨x0, x1, x2, f0, f1, f2⟩ := hR1
     clear hown hg hbX
     go_wp2_with fail
     obtain ⟨r0, r1, r2⟩ := resPut_cells ⟨x0, x1, x2, f0, f1, f2⟩ (.int .i64 0) (.int .i64 0) (.string ⟨#[]⟩)
     have hbY := resPut_below (hb0.trans (hbW1.mono (by omega))) (Nat.le_refl _) (.int .i64 0) (.int .i64 0) (.string ⟨#[]⟩)
     have hrow := resPut_row (Nat.lt_succ_self _) HO.out (.int .i64 0) (.int .i64 0) (.string ⟨#[]⟩)
     unfold resPut at r0 r1 r2 hbY hrow
     refine bodyPost_ret (v := .tuple #[v1, .agg #[.int .i64 0, .int .i64 0, .string ⟨#[]⟩]]) (by simp [results, Tryz.results87, go_sem, r0, r1, r2]) rfl ?_
     unfold LexPost
     rw [HA.out]
     exact ⟨⟨v1, rfl, row_base (by omega) hrow⟩, hbY⟩
  ·have hle : bd l 0 < l.length := by
    have := bd_le l.length l 0 (Nat.le_refl _)
    omega
   have hbo : badOf l = (bd l 0 : Nat) := by unfold badOf; rw [if_neg hbd]
   rw [hbo] at cB
   have HA : Hid (lexA l = .error (2, bd l 0)) := Lib.hid (by unfold lexA; rw [if_neg hlong, if_pos hle])
   obtain ⟨q, hq⟩ : ∃ q, bd l 0 = q := ⟨_, rfl⟩
   rw [hq] at cB HA
   have cB' : Calls Tryz.prog 145 #[.slice a l.length cap] w0 fun e W' => e = .returned (.int .i64 (q : Int)) ∧ Below w0.heap.size w0 W' ∧ ResAt w.heap.size W' :=
    cB.mono fun e W' ⟨h1, h2⟩ => ⟨h1, h2, resAt_of ((h2.block w.heap.size (by omega)).trans hc0)⟩
   clear hbo hbd hle hq cB
   go_enter Tryz.func87, Tryz.ntmps87
   go_wp2_with fail
   with_reducible refine cB'.mono ?_
   rintro e w1 ⟨rfl, hb1, x0, x1, x2, f0, f1, f2⟩
   have hs1 := hb1.size
   go_wp2_with fail
   obtain ⟨r0, r1, r2⟩ := resPut_cells ⟨x0, x1, x2, f0, f1, f2⟩ (.int .i64 2) (.int .i64 (q : Int)) (.string ⟨#[]⟩)
   have hbX := resPut_below (hb0.trans (hb1.mono (by omega))) (Nat.le_refl _) (.int .i64 2) (.int .i64 (q : Int)) (.string ⟨#[]⟩)
   unfold resPut at r0 r1 r2 hbX
   refine bodyPost_ret (v := .tuple #[.slice none 0 0, .agg #[.int .i64 2, .int .i64 (q : Int), .string ⟨#[]⟩]]) (by simp [results, Tryz.results87, go_sem, r0, r1, r2]) rfl ?_
   unfold LexPost
   rw [HA.out]
   exact ⟨rfl, hbX⟩
/-- Where a parser stands, how many rules are open, and what is built. -/
structure St where
 k : Nat
 op : Nat
 t1 : List TermD
 t2 : List TypD

/-- What a rule gives: a number and the new state; 'un': nothing is said here. -/
inductive PR where
 | ok (i : Nat) (s : St)
 | un

def PR.bind : PR → (Nat → St → PR) → PR
 | .ok i s, f => f i s
 | .un, _ => .un

theorem PR.bind_ok {p : PR} {f : Nat → St → PR} {i : Nat} {s : St} (h : p.bind f = .ok i s) : ∃ i1 s1, p = .ok i1 s1 ∧ f i1 s1 = .ok i s := by
 cases p with
 | ok i1 s1 => exact ⟨i1, s1, rfl, h⟩
 | un => cases h

def bs (l : List UInt8) : ByteArray := ⟨l.toArray⟩
def tkA (ts : List Tk) (k : Nat) : Tk := ts.getD k (0, [], 0)
/-- Is it one of these words and signs? -/
def standsB (t : Tk) (l : List (List UInt8)) : Bool := (t.1 == 7 || t.1 == 8) && l.any (fun x => x == t.2.1)

def newT (s : St) (x : TermD) : PR := if s.t1.length < 65536 then .ok s.t1.length ⟨s.k, s.op, s.t1 ++ [x], s.t2⟩ else .un
def St.on (s : St) (n : Nat) : St := ⟨s.k + n, s.op, s.t1, s.t2⟩
def St.up (s : St) : St := ⟨s.k, s.op + 1, s.t1, s.t2⟩
def St.down (s : St) : St := ⟨s.k, s.op - 1, s.t1, s.t2⟩

def leafM (t : Tk) : Option TermD :=
 if t.1 = 1 then some ⟨0, (t.2.2 : Nat), bs t.2.1, 0, 0, [], [], []⟩
 else if t.1 = 6 then some ⟨3, (t.2.2 : Nat), bs t.2.1, 0, 0, [], [], []⟩
 else if t.1 = 4 then (match Lib.parseIntB 64 t.2.1 with
  | .ok v => some ⟨1, (t.2.2 : Nat), bs [], v, 0, [], [], []⟩
  | _ => none)
 else none

section
variable (ts : List Tk)
def atomM (s : St) : PR :=
 if (tkA ts s.k).1 = 7 ∨ (tkA ts s.k).1 = 8 then .un else
 match leafM (tkA ts s.k) with
 | none => .un
 | some x => newT (s.on 1) x

def postL : Nat → Nat → St → PR
 | 0, _, _ => .un
 | f + 1, left, s =>
  if standsB (tkA ts s.k) [[46]] = true then
   if (tkA ts (s.k + 1)).1 = 1 then
    (newT (s.on 2) ⟨13, ((tkA ts s.k).2.2 : Nat), bs (tkA ts (s.k + 1)).2.1, 0, 0, [], [(left : Int)], []⟩).bind (postL f)
   else .un
  else .ok left s
def postM (s : St) : PR := (atomM ts s).bind (postL ts ts.length)

def unitM (s : St) : PR := if (tkA ts s.k).1 = 3 then .un else postM ts s
def unitB (t : Tk) : Bool := t.1 == 3 || t.1 == 1 || t.1 == 4 || t.1 == 5 || t.1 == 6 || standsB t [[116, 114, 117, 101], [102, 97, 108, 115, 101], [40], [123]]

def applyL : Nat → Nat → St → PR
 | 0, _, _ => .un
 | f + 1, left, s =>
  if unitB (tkA ts s.k) = true then
   (unitM ts s).bind fun i s' => (newT s' ⟨6, ((tkA ts s.k).2.2 : Nat), bs [], 0, 0, [], [(left : Int), (i : Int)], []⟩).bind (applyL f)
  else .ok left s
def applyM (s : St) : PR := (unitM ts s).bind (applyL ts ts.length)

def opM (P : St → PR) (left : Nat) (s : St) : PR :=
 (P (s.on 1)).bind fun i s' => newT s' ⟨14, ((tkA ts s.k).2.2 : Nat), bs (tkA ts s.k).2.1, 0, 0, [], [(left : Int), (i : Int)], []⟩
def rowL (P : St → PR) (sg : List (List UInt8)) : Nat → Nat → St → PR
 | 0, _, _ => .un
 | f + 1, left, s => if standsB (tkA ts s.k) sg = true then (opM ts P left s).bind (rowL P sg f) else .ok left s
def rowM (P : St → PR) (sg : List (List UInt8)) (s : St) : PR := (P s).bind (rowL ts P sg ts.length)

def productM (s : St) : PR := rowM ts (applyM ts) [[42], [47], [42, 46], [47, 46]] s
def sumM (s : St) : PR := rowM ts (productM ts) [[43], [45], [43, 46], [45, 46]] s
def joinM (s : St) : PR := rowM ts (sumM ts) [[94]] s
def compareM (s : St) : PR := (joinM ts s).bind fun i s' => if standsB (tkA ts s'.k) [[61, 61], [60], [60, 46]] = true then .un else .ok i s'
def termM (s : St) : PR :=
 if s.op = 256 then .un else
 if (tkA ts s.k).1 = 7 ∨ (tkA ts s.k).1 = 8 then .un else
 (compareM ts s.up).bind fun i s' => .ok i s'.down

end
end Go.Proofs.YtjbdgjbmbohfmaaGreatDoor
