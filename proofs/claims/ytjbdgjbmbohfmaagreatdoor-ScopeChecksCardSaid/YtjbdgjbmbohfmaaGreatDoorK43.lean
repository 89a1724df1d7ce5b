/- The document's answer for the first sign, and for all signs, at every list of bytes. The document's answer for all signs of a text, with their places, at every -/
import Derived.Test.YtjbdgjbmbohfmaaGreatDoorK42
namespace Go.Proofs.YtjbdgjbmbohfmaaGreatDoor
open Go Go.Proofs Go.RowKit Go.Shelf
/-- The first sign and its width; (0, 0): there is none. -/
def firstR (l : List UInt8) : Int × Int := if isBad l then (0, 0) else ((D l).1, (D l).2)

theorem ret_pair {k : IntKind} {a b c d : Int} (h : a = c) (h' : b = d) : Ending.returned (.tuple #[.int k a, .int k b]) = .returned (.tuple #[.int k c, .int k d]) := by rw [h, h']

theorem conv_at {W X : World} {b off n cap : Nat} {l : List UInt8} (hn : n ≤ l.length) (hh : Holds W b off l) (hX : X.heap = W.heap) :
 (convert 22 9 (.slice (some ⟨b, off, none⟩) n cap)).run Tryz.prog X = .ok (.string ⟨(l.take n).toArray⟩) X := by
 have hl : (l.take n).length = n := by simp; omega
 have := run_convert_bytes_back (P := Tryz.prog) X 22 9 5 ⟨b, off, none⟩ cap (l.take n) Tryz.underlying22 Tryz.underlying5 Tryz.underlying9 (fun j hj => by
  rw [hl] at hj
  rw [add_none]
  have h1 := hh j (by omega)
  have h2 : X.cell? ⟨b, off + j, none⟩ = W.cell? ⟨b, off + j, none⟩ := by simp only [World.cell?, hX]
  rw [h2, h1]
  simp [List.getD_eq_getElem?_getD, List.getElem?_eq_getElem (show j < l.length by omega)])
 rwa [hl] at this

set_option maxRecDepth 100000 in
set_option maxHeartbeats 4000000 in
theorem rfirst_any (b off cap : Nat) (l : List UInt8) (h0 : 0 < l.length) (hlen : l.length ≤ 140737488351232) (hcap : l.length ≤ cap) (w : World) (hb : b < w.heap.size) (hh : Holds w b off l) :
 Calls Tryz.prog 157 #[.slice (some ⟨b, off, none⟩) l.length cap] w fun e w' => e = .returned (.tuple #[.int .i64 (firstR l).1, .int .i64 (firstR l).2]) ∧ Below w.heap.size w w' := by
 have mixed : Tryz.prog.follows .mixedOrders = true := by kernel_rfl
 have HF := Lib.hid (fun n hn h => fit_good l n hn h)
 have HG := Lib.hid (good_fit l h0)
 have HD := Lib.hid (D_bounds l h0)
 have HH := Lib.hid hh
 clear hh
 go_enter Tryz.func157, Tryz.ntmps157
 go_wp2
 go_loopw [4] (fun i wr => ∃ n : Nat, 1 ≤ n ∧ n ≤ 5 ∧ n ≤ l.length + 1 ∧ i = .int .i64 n ∧ Hid (∀ k, 1 ≤ k → k < n → ¬ fit l k) ∧ Below w.heap.size w wr)
  (fun i _ => 5 - (intOf i).toNat)
 case atStart => exact ⟨1, Nat.le_refl _, by omega, by omega, rfl, Lib.hid (fun k h1 h2 => absurd h1 (by omega)), Below.refl _ _⟩
 case round =>
  obtain ⟨n, hn1, hn5, hnl, rfl, HN, hB⟩ := hrel
  by_cases c4 : n ≤ 4
  ·by_cases cl : n ≤ l.length
   ·have hhr : Holds wr b off l := HH.out.below hb hB
    have cV := value_any l b off cap n hn1 c4 cl wr hhr
    have HHR := Lib.hid hhr
    clear hhr
    have hcn : n ≤ cap := by omega
    obtain ⟨r, hr⟩ : ∃ r, valL l n = r := ⟨_, rfl⟩
    rw [hr] at cV
    have HR := Lib.hid hr
    clear hr
    by_cases hs : isSign r
    ·have cE := refEnc_ok r hs
     unfold RefEnc at cE
     go_wp2_with (first | (go_at_call 214; refine cV.mono ?_; rintro e w1 ⟨rfl, hb1⟩) | (go_at_call 215; refine (cE _).mono ?_; rintro e w2 ⟨rfl, rfl⟩))
     have hbX : Below w.heap.size w (w1.alloc (.cells (cells8 (encB r)).toArray 5)) := (hB.trans (hb1.mono hB.size)).alloc (by have := hB.size; have := hb1.size; omega) _
     have hhX : Holds (w1.alloc (.cells (cells8 (encB r)).toArray 5)) b off l := HH.out.below hb hbX
     have hhE : Holds (w1.alloc (.cells (cells8 (encB r)).toArray 5)) w1.heap.size 0 (encB r) := by
      intro j hj
      have hnw := World.alloc_heap_new w1 (.cells (cells8 (encB r)).toArray 5)
      simp only [World.cell?, hnw]
      simp [cells8, List.getD_eq_getElem?_getD, List.getElem?_eq_getElem hj]
     obtain ⟨X, hX⟩ : ∃ X, w1.alloc (.cells (cells8 (encB r)).toArray 5) = X := ⟨_, rfl⟩
     rw [hX] at hbX hhX hhE ⊢
     have k1 := fun N => conv_at (X := X.drewN N) (cap := (encB r).length) (Nat.le_refl _) hhE rfl
     have k2 := fun N => conv_at (X := X.drewN N) (cap := cap) cl hhX rfl
     rw [List.take_length] at k1
     obtain ⟨s1, hs1⟩ : ∃ s1, (⟨(encB r).toArray⟩ : ByteArray) = s1 := ⟨_, rfl⟩
     obtain ⟨s2, hs2⟩ : ∃ s2, (⟨(l.take n).toArray⟩ : ByteArray) = s2 := ⟨_, rfl⟩
     have hiff : s1 = s2 ↔ fit l n := by
      rw [← hs1, ← hs2]
      unfold fit
      rw [HR.out]
      constructor
      ·intro e
       have e2 : (encB r).toArray = (l.take n).toArray := congrArg ByteArray.data e
       exact ⟨hs, by simpa using congrArg Array.toList e2⟩
      ·intro e
       rw [e.2]
     have HI := Lib.hid hiff
     simp only [hs1] at k1
     simp only [hs2] at k2
     have HBX := Lib.hid hbX
     clear hs1 hs2 hhX hhE hX hiff cV cE hbX hs
     by_cases heq : s1 = s2
     ·subst heq
      have hfit := HI.out.1 rfl
      have HA := Lib.hid (HF.out n cl hfit)
      clear hfit
      go_quiet (fail)
      go_wp2
      go_ret2
      refine ⟨ret_pair ?_ ?_, HBX.out.trans ((drewN_below X _).mono HBX.out.size)⟩
      ·unfold firstR
       rw [if_neg HA.out.1]
       rw [← HR.out, ← HA.out.2.2]
      ·unfold firstR
       rw [if_neg HA.out.1, HA.out.2.1]
     ·have hne : (s1.toList == s2.toList) = false := by
       rw [beq_eq_false_iff_ne]
       intro e
       rw [ByteArray.toList_eq, ByteArray.toList_eq] at e
       exact heq (ByteArray.ext (Array.toList_inj.mp e))
      have HE := Lib.hid heq
      clear heq
      go_quiet (fail)
      go_wp2
      go_roundw
      case rel =>
       refine ⟨n + 1, by omega, by omega, by omega, by go_num, Lib.hid (fun k h1 h2 hf => ?_), HBX.out.trans ((drewN_below X _).mono HBX.out.size)⟩
       by_cases hk : k < n
       ·exact HN.out k h1 hk hf
       ·obtain rfl : k = n := by omega
        exact HE.out (HI.out.2 hf)
      case measure => simp [intOf]; omega
    ·have cE := refEnc_bad r hs
     have HS := Lib.hid hs
     clear hs
     go_wp2_with (first | (go_at_call 214; refine cV.mono ?_; rintro e w1 ⟨rfl, hb1⟩) | (go_at_call 215; refine (cE _).mono ?_; rintro e w2 ⟨rfl, rfl⟩))
     have hbX := hB.trans (hb1.mono hB.size)
     have HBX := Lib.hid hbX
     clear hbX cV cE
     go_quiet (fail)
     go_wp2
     go_roundw
     case rel =>
      refine ⟨n + 1, by omega, by omega, by omega, by go_num, Lib.hid (fun k h1 h2 hf => ?_), HBX.out.trans ((drewN_below _ _).mono HBX.out.size)⟩
      by_cases hk : k < n
      ·exact HN.out k h1 hk hf
      ·obtain rfl : k = n := by omega
       exact HS.out (by rw [← HR.out]; exact hf.1)
     case measure => simp [intOf]; omega
   ·have hfr : isBad l := by
     rcases Classical.em (isBad l) with h | h
     ·exact h
     ·exact absurd (HG.out h) (HN.out _ HD.out.1 (by have := HD.out.2.2.1; omega))
    have HFR := Lib.hid hfr
    clear hfr
    go_wp2
    go_ret2
    refine ⟨ret_pair ?_ ?_, hB⟩
    ·unfold firstR
     rw [if_pos HFR.out]
    ·unfold firstR
     rw [if_pos HFR.out]
  ·have hfr : isBad l := by
    rcases Classical.em (isBad l) with h | h
    ·exact h
    ·exact absurd (HG.out h) (HN.out _ HD.out.1 (by have := HD.out.2.1; omega))
   have HFR := Lib.hid hfr
   clear hfr
   go_wp2
   go_ret2
   refine ⟨ret_pair ?_ ?_, hB⟩
   ·unfold firstR
    rw [if_pos HFR.out]
   ·unfold firstR
    rw [if_pos HFR.out]
def placesV (xs : List (Nat × Nat)) : List Value := xs.map fun x => Value.int .i64 (x.1 : Int)
def runesV (xs : List (Nat × Nat)) : List Value := xs.map fun x => Value.int .i64 (x.2 : Int)

/-- Two rows of numbers of the call's own, in two blocks. -/
def TwoRows (B : Nat) (W : World) (v1 v2 : Value) (xs : List (Nat × Nat)) : Prop :=
 W.ownsRow B 3 1 v1 xs.length (placesV xs) ∧ W.ownsRow B 3 1 v2 xs.length (runesV xs) ∧ v1.ownBlock ≠ v2.ownBlock

def SignsPost (l : List UInt8) (w : World) (e : Ending) (w' : World) : Prop :=
 ∃ v1 v2, e = .returned (.tuple #[v1, v2, .int .i64 (bd l 0 : Nat)]) ∧ TwoRows w.heap.size w' v1 v2 (sg l 0) ∧ Below w.heap.size w w'

theorem row_keep {W W' : World} {B : Nat} {v : Value} {n : Nat} {xs : List Value} {row : Option Nat} (h : W.ownsRow B 3 1 v n xs) (hg : W.grownBy W' row) (hne : v.ownBlock ≠ row ∨ v.ownBlock = none) : W'.ownsRow B 3 1 v n xs := by
 refine ⟨h.1, ?_⟩
 rcases h.2 with e | ⟨g, cap, cur, e, hb, hg2, rest⟩
 ·exact .inl e
 ·refine .inr ⟨g, cap, cur, e, hb, ?_, rest⟩
  rw [hg.block g (Array.getElem?_eq_some_iff.1 hg2).1 (by subst e; rcases hne with h | h; exact h; cases h)]
  exact hg2

theorem row_alloc {W : World} {B : Nat} {v : Value} {n : Nat} {xs : List Value} (h : W.ownsRow B 3 1 v n xs) (o : Obj) : (W.alloc o).ownsRow B 3 1 v n xs := by
 refine row_keep h (World.grownBy_alloc _ _ none) ?_
 rcases hv : v.ownBlock with _ | g
 ·exact Or.inr rfl
 ·exact Or.inl (by simp)

theorem TwoRows.below {W W' : World} {B : Nat} {v1 v2 : Value} {xs : List (Nat × Nat)} (h : TwoRows B W v1 v2 xs) (hb : Below W.heap.size W W') : TwoRows B W' v1 v2 xs := by
 have hg := grown_of_below hb
 refine ⟨row_keep h.1 hg ?_, row_keep h.2.1 hg ?_, h.2.2⟩
 ·rcases hv : v1.ownBlock with _ | g
  ·exact Or.inr rfl
  ·exact Or.inl (by simp)
 ·rcases hv : v2.ownBlock with _ | g
  ·exact Or.inr rfl
  ·exact Or.inl (by simp)

set_option maxRecDepth 100000 in
set_option maxHeartbeats 4000000 in
theorem signs_any (a : Option Addr) (len cap : Nat) (l : List UInt8) (hlen : l.length ≤ 1048576) (w : World) (hI : TextAt w.heap.size w (.slice a len cap) l) :
 Calls Tryz.prog 98 #[.slice a len cap] w (SignsPost l w) := by
 have hll : len = l.length := by
  rcases hI with ⟨_, _, _, e, rfl⟩ | ⟨_, _, _, e, _⟩
  ·cases e; rfl
  ·cases e; rfl
 subst hll
 have HI := Lib.hid hI
 clear hI
 go_enter Tryz.func98, Tryz.ntmps98
 go_wp2
 go_loopw [5, 6, 7] (fun s5 s6 i wr => ∃ (k : Nat) (pre : List (Nat × Nat)), k ≤ l.length ∧ i = .int .i64 k ∧ pre.length ≤ k ∧ Hid (sg l 0 = pre ++ sg (l.drop k) k ∧ bd l 0 = bd (l.drop k) k) ∧ Hid (TwoRows w.heap.size wr s5 s6 pre) ∧ Below w.heap.size w wr)
  (fun _ _ i _ => l.length - (intOf i).toNat)
 case atStart =>
  refine ⟨0, [], Nat.zero_le _, rfl, Nat.le_refl _, Lib.hid ⟨by simp, by simp⟩, Lib.hid ⟨?_, ?_, ?_⟩, ((Below.refl _ w).alloc (Nat.le_refl _) _).alloc (by simp) _⟩
  ·exact row_keep (World.ownsRow_made w #[] 0 (Nat.le_refl _) (Nat.zero_le _) (by simp)) (World.grownBy_alloc _ _ none) (Or.inl (by simp [Value.ownBlock]))
  ·have := World.ownsRow_made (base := w.heap.size) (e := 3) (size := 1) (w.alloc (.cells #[] 3)) #[] 0 (by simp) (Nat.zero_le _) (by simp)
   simpa [placesV, runesV] using this
  ·simp [Value.ownBlock]
 case round =>
  obtain ⟨k, pre, hk, rfl, hpk, HS, HR, hB⟩ := hrel
  by_cases hlt : k < l.length
  ·have hI2 := HI.out.below hB
   rcases hI2 with ⟨_, _, _, e, rfl⟩ | ⟨b, off, cap', e, hb, hcap, hh⟩
   ·simp at hlt
   ·cases e
    have hbW : b < w.heap.size := hb
    have cF := rfirst_any b (off + k) (cap - k) (l.drop k) (by simp; omega) (by simp; omega) (by simp; omega) wr (by have := hB.size; omega) (hh.drop k)
    rw [List.length_drop] at cF
    have hD := D_bounds (l.drop k) (by simp; omega)
    rw [List.length_drop] at hD
    have hkc : k < cap := by omega
    by_cases hbad : isBad (l.drop k)
    ·have hf : firstR (l.drop k) = (0, 0) := by unfold firstR; rw [if_pos hbad]
     rw [hf] at cF
     have HE := Lib.hid (sg_bad (l.drop k) k hbad)
     have HE2 := Lib.hid (bd_bad (l.drop k) k hbad)
     clear hf hbad hh hb
     go_wp2_with (go_at_call 157; refine cF.mono ?_; rintro e w1 ⟨rfl, hb1⟩)
     go_ret3
     have hpre : sg l 0 = pre := by rw [HS.out.1, HE.out, List.append_nil]
     have hbd : bd l 0 = k := by rw [HS.out.2, HE2.out]
     refine ⟨u5, u6, by rw [hbd]; rfl, by rw [hpre]; exact HR.out.below hb1, hB.trans (hb1.mono hB.size)⟩
    ·have hf : firstR (l.drop k) = (((D (l.drop k)).1 : Int), ((D (l.drop k)).2 : Int)) := by unfold firstR; rw [if_neg hbad]
     rw [hf] at cF
     have HE := Lib.hid (sg_cons (l.drop k) k (by simp; omega) hbad)
     have HE2 := Lib.hid (bd_cons (l.drop k) k (by simp; omega) hbad)
     obtain ⟨r, hr⟩ : ∃ r, (D (l.drop k)).1 = r := ⟨_, rfl⟩
     obtain ⟨m, hm⟩ : ∃ m, (D (l.drop k)).2 = m := ⟨_, rfl⟩
     rw [hr, hm] at hD HE
     rw [hm] at HE2
     dsimp only at cF
     rw [hr, hm] at cF
     clear hf hbad hh hb hr hm
     have hm0 : ((m : Int) == 0) = false := by simp; omega
     obtain ⟨i3, hi, hz0, hz1, hz2⟩ := info_parts info3
     have hB' := hB.size
     go_wp2_with (first | (go_at_call 157; refine cF.mono ?_; rintro e w1 ⟨rfl, hb1⟩) | (at_builtin; refine wpList_append_own_at _ rfl _ _ 49 rfl w.heap.size 3 i3 (.int .i64 0) 1 8 Tryz.underlying49 hi hz0 hz1 hz2 rfl (by decide) _ pre.length (placesV pre) rfl ?qa0 ⟨w1.heap.size, 0, none⟩ 1 1 [.int .i64 (k : Int)] rfl rfl (cell_one_new _ _ _) (by simp [Value.oneCell']) ?qa1 ?qa2 ?qa3 ?_))
     case qa0 => exact row_alloc (HR.out.below hb1).1 _
     case qa1 => unfold maxLen; omega
     case qa2 => omega
     case qa3 => have := hb1.size; simp; omega
     have hR1 := HR.out.below hb1
     intro v1 W1 hown1 hg1 _ hat1
     have hsz1 := hb1.size
     have hbX : Below w.heap.size w (w1.alloc (.cells #[.int .i64 (k : Int)] 3)) := (hB.trans (hb1.mono hB.size)).alloc (by omega) _
     have hbW1 : Below w.heap.size w W1 := hbX.grown hg1 hbX.size (fun g hg => (hR1.1.lt g hg).1)
     have r2 : W1.ownsRow w.heap.size 3 1 u6 pre.length (runesV pre) := row_keep (row_alloc hR1.2.1 _) hg1 (Or.inl (fun e => hR1.2.2 e.symm))
     have hne1 : v1.ownBlock ≠ u6.ownBlock ∨ u6.ownBlock = none := by
      rcases hu : u6.ownBlock with _ | g
      ·exact Or.inr rfl
      ·left
       have hlt6 := (hR1.2.1.lt g hu).2
       rcases hat1 with h | h
       ·rw [h, ← hu]; exact hR1.2.2
       ·rw [h]
        intro e
        simp only [Option.some.injEq] at e
        omega
     have HR1 := Lib.hid hR1
     have HO1 := Lib.hid hown1
     have HO2 := Lib.hid r2
     have HN1 := Lib.hid hne1
     have hsW1 := hbW1.size
     clear hR1 hown1 r2 hne1 hg1 hat1 hbX
     go_wp2_with (at_builtin; refine wpList_append_own_at _ rfl _ _ 49 rfl w.heap.size 3 i3 (.int .i64 0) 1 8 Tryz.underlying49 hi hz0 hz1 hz2 rfl (by decide) _ pre.length (runesV pre) rfl ?qb0 ⟨W1.heap.size, 0, none⟩ 1 1 [.int .i64 (r : Int)] rfl rfl (cell_one_new _ _ _) (by simp [Value.oneCell']) ?qb1 ?qb2 ?qb3 ?_)
     case qb0 => exact row_alloc HO2.out _
     case qb1 => unfold maxLen; omega
     case qb2 => omega
     case qb3 => simp; omega
     intro v2 W2 hown2 hg2 _ hat2
     have HN2 : v1.ownBlock ≠ v2.ownBlock := by
      obtain ⟨g, c1, hv1⟩ := ownsRow_succ HO1.out
      have hg1 : v1.ownBlock = some g := by rw [hv1]; rfl
      have hglt := (HO1.out.lt g hg1).2
      rcases hat2 with h | h
      ·rw [h]
       rcases HN1.out with hn | hn
       ·exact hn
       ·rw [hn, hg1]; simp
      ·rw [h, hg1]
       intro e
       simp only [Option.some.injEq] at e
       omega
     have r1 : W2.ownsRow w.heap.size 3 1 v1 (pre.length + 1) (placesV pre ++ [.int .i64 (k : Int)]) := row_keep (row_alloc HO1.out _) hg2 (by
      rcases HN1.out with hn | hn
      ·exact Or.inl hn
      ·rw [hn]
       rcases hv : v1.ownBlock with _ | g
       ·exact Or.inr rfl
       ·exact Or.inl (by simp))
     have hbW2 : Below w.heap.size w W2 := (hbW1.alloc hbW1.size _).grown hg2 (by simp; omega) (fun g hg => (HO2.out.lt g hg).1)
     have HT2 : Hid (TwoRows w.heap.size W2 v1 v2 (pre ++ [(k, r)])) := Lib.hid ⟨by simpa [placesV] using r1, by simpa [runesV] using hown2, HN2⟩
     clear HN2 r1 hown2 hg2 hat2 HO1 HO2 HN1 HR1 cF
     go_wp2
     go_roundw
     case rel =>
      refine ⟨k + m, pre ++ [(k, r)], by omega, by go_num, by simp; omega, Lib.hid ⟨?_, ?_⟩, HT2, hbW2⟩
      ·rw [HS.out.1, HE.out, List.drop_drop]; simp
      ·rw [HS.out.2, HE2.out, List.drop_drop]
     case measure => simp [intOf]; omega
  ·obtain rfl : k = l.length := by omega
   go_wp2
   go_ret3
   have hpre : sg l 0 = pre := by rw [HS.out.1, sg_nil _ _ (by simp), List.append_nil]
   have hbd : bd l 0 = l.length := by rw [HS.out.2, bd_nil _ _ (by simp)]
   exact ⟨u5, u6, by rw [hbd]; rfl, by rw [hpre]; exact HR.out, hB⟩
end Go.Proofs.YtjbdgjbmbohfmaaGreatDoor
