/- The document's answer for all signs of a text, with their places, at every text within the reach. -/
import Derived.Test.YtidmeodmkcomlaaGreatDoorOwn
import Derived.Test.YtidmeodmkcomlaaGreatDoorRefF
import Derived.Maps.AppendAt
namespace Go.Proofs.YtidmeodmkcomlaaGreatDoor
open Go Go.Proofs Go.RowKit Go.Shelf

def placesV (xs : List (Nat × Nat)) : List Value := xs.map fun x => Value.int .i64 (x.1 : Int)
def runesV (xs : List (Nat × Nat)) : List Value := xs.map fun x => Value.int .i64 (x.2 : Int)

/-- Two rows of numbers of the call's own, in two blocks. -/
def TwoRows (B : Nat) (W : World) (v1 v2 : Value) (xs : List (Nat × Nat)) : Prop :=
  W.ownsRow B 3 1 v1 xs.length (placesV xs) ∧ W.ownsRow B 3 1 v2 xs.length (runesV xs) ∧ v1.ownBlock ≠ v2.ownBlock

def SignsPost (l : List UInt8) (w : World) (e : Ending) (w' : World) : Prop :=
  ∃ v1 v2, e = .returned (.tuple #[v1, v2, .int .i64 (bd l 0 : Nat)]) ∧ TwoRows w.heap.size w' v1 v2 (sg l 0) ∧ Below w.heap.size w w'

theorem row_keep {W W' : World} {B : Nat} {v : Value} {n : Nat} {xs : List Value} {row : Option Nat} (h : W.ownsRow B 3 1 v n xs) (hg : W.grownBy W' row) (hne : v.ownBlock ≠ row ∨ v.ownBlock = none) : W'.ownsRow B 3 1 v n xs := by
  refine ⟨h.1, ?_⟩
  rcases h.2 with e | ⟨g, cap, cur, e, hb, hg2, rest⟩
  · exact .inl e
  · refine .inr ⟨g, cap, cur, e, hb, ?_, rest⟩
    rw [hg.block g (Array.getElem?_eq_some_iff.1 hg2).1 (by subst e; rcases hne with h | h; exact h; cases h)]
    exact hg2

theorem row_alloc {W : World} {B : Nat} {v : Value} {n : Nat} {xs : List Value} (h : W.ownsRow B 3 1 v n xs) (o : Obj) : (W.alloc o).ownsRow B 3 1 v n xs := by
  refine row_keep h (World.grownBy_alloc _ _ none) ?_
  rcases hv : v.ownBlock with _ | g
  · exact Or.inr rfl
  · exact Or.inl (by simp)

theorem TwoRows.below {W W' : World} {B : Nat} {v1 v2 : Value} {xs : List (Nat × Nat)} (h : TwoRows B W v1 v2 xs) (hb : Below W.heap.size W W') : TwoRows B W' v1 v2 xs := by
  have hg := grown_of_below hb
  refine ⟨row_keep h.1 hg ?_, row_keep h.2.1 hg ?_, h.2.2⟩
  · rcases hv : v1.ownBlock with _ | g
    · exact Or.inr rfl
    · exact Or.inl (by simp)
  · rcases hv : v2.ownBlock with _ | g
    · exact Or.inr rfl
    · exact Or.inl (by simp)

set_option maxRecDepth 100000 in
set_option maxHeartbeats 4000000 in
theorem signs_any (a : Option Addr) (len cap : Nat) (l : List UInt8) (hlen : l.length ≤ 1048576) (w : World) (hI : TextAt w.heap.size w (.slice a len cap) l) :
    Calls Tryz.prog 50 #[.slice a len cap] w (SignsPost l w) := by
  have hll : len = l.length := by
    rcases hI with ⟨_, _, _, e, rfl⟩ | ⟨_, _, _, e, _⟩
    · cases e; rfl
    · cases e; rfl
  subst hll
  have HI := Lib.hid hI
  clear hI
  go_enter Tryz.func50, Tryz.ntmps50
  go_wp2
  go_loopw [5, 6, 7] (fun s5 s6 i wr => ∃ (k : Nat) (pre : List (Nat × Nat)), k ≤ l.length ∧ i = .int .i64 k ∧ pre.length ≤ k ∧ Hid (sg l 0 = pre ++ sg (l.drop k) k ∧ bd l 0 = bd (l.drop k) k) ∧ Hid (TwoRows w.heap.size wr s5 s6 pre) ∧ Below w.heap.size w wr)
    (fun _ _ i _ => l.length - (intOf i).toNat)
  case atStart =>
    refine ⟨0, [], Nat.zero_le _, rfl, Nat.le_refl _, Lib.hid ⟨by simp, by simp⟩, Lib.hid ⟨?_, ?_, ?_⟩, ((Below.refl _ w).alloc (Nat.le_refl _) _).alloc (by simp) _⟩
    · exact row_keep (World.ownsRow_made w #[] 0 (Nat.le_refl _) (Nat.zero_le _) (by simp)) (World.grownBy_alloc _ _ none) (Or.inl (by simp [Value.ownBlock]))
    · have := World.ownsRow_made (base := w.heap.size) (e := 3) (size := 1) (w.alloc (.cells #[] 3)) #[] 0 (by simp) (Nat.zero_le _) (by simp)
      simpa [placesV, runesV] using this
    · simp [Value.ownBlock]
  case round =>
    obtain ⟨k, pre, hk, rfl, hpk, HS, HR, hB⟩ := hrel
    by_cases hlt : k < l.length
    · have hI2 := HI.out.below hB
      rcases hI2 with ⟨_, _, _, e, rfl⟩ | ⟨b, off, cap', e, hb, hcap, hh⟩
      · simp at hlt
      · cases e
        have hbW : b < w.heap.size := hb
        have cF := rfirst_any b (off + k) (cap - k) (l.drop k) (by simp; omega) (by simp; omega) (by simp; omega) wr (by have := hB.size; omega) (hh.drop k)
        rw [List.length_drop] at cF
        have hD := D_bounds (l.drop k) (by simp; omega)
        rw [List.length_drop] at hD
        have hkc : k < cap := by omega
        by_cases hbad : isBad (l.drop k)
        · have hf : firstR (l.drop k) = (0, 0) := by unfold firstR; rw [if_pos hbad]
          rw [hf] at cF
          have HE := Lib.hid (sg_bad (l.drop k) k hbad)
          have HE2 := Lib.hid (bd_bad (l.drop k) k hbad)
          clear hf hbad hh hb
          go_wp2_with (go_at_call 83; refine cF.mono ?_; rintro e w1 ⟨rfl, hb1⟩)
          go_ret3
          have hpre : sg l 0 = pre := by rw [HS.out.1, HE.out, List.append_nil]
          have hbd : bd l 0 = k := by rw [HS.out.2, HE2.out]
          refine ⟨u5, u6, by rw [hbd]; rfl, by rw [hpre]; exact HR.out.below hb1, hB.trans (hb1.mono hB.size)⟩
        · have hf : firstR (l.drop k) = (((D (l.drop k)).1 : Int), ((D (l.drop k)).2 : Int)) := by unfold firstR; rw [if_neg hbad]
          rw [hf] at cF
          have HE := Lib.hid (sg_cons (l.drop k) k (by simp; omega) hbad)
          have HE2 := Lib.hid (bd_cons (l.drop k) k (by simp; omega) hbad)
          obtain ⟨r, hr⟩ : ∃ r, (D (l.drop k)).1 = r := ⟨_, rfl⟩
          obtain ⟨m, hm⟩ : ∃ m, (D (l.drop k)).2 = m := ⟨_, rfl⟩
          rw [hr, hm] at hD HE
          rw [hm] at HE2
          dsimp only at cF
          rw [hr, hm] at cF
          clear hf hbad hh hb hr hm
          have hm0 : ((m : Int) == 0) = false := by simp; omega
          obtain ⟨i3, hi, hz0, hz1, hz2⟩ := info_parts info3
          have hB' := hB.size
          go_wp2_with (first | (go_at_call 83; refine cF.mono ?_; rintro e w1 ⟨rfl, hb1⟩) | (at_builtin; refine wpList_append_own_at _ rfl _ _ 36 rfl w.heap.size 3 i3 (.int .i64 0) 1 8 Tryz.underlying36 hi hz0 hz1 hz2 rfl (by decide) _ pre.length (placesV pre) rfl ?qa0 ⟨w1.heap.size, 0, none⟩ 1 1 [.int .i64 (k : Int)] rfl rfl (cell_one_new _ _ _) (by simp [Value.oneCell']) ?qa1 ?qa2 ?qa3 ?_))
          case qa0 => exact row_alloc (HR.out.below hb1).1 _
          case qa1 => unfold maxLen; omega
          case qa2 => omega
          case qa3 => have := hb1.size; simp; omega
          have hR1 := HR.out.below hb1
          intro v1 W1 hown1 hg1 _ hat1
          have hsz1 := hb1.size
          have hbX : Below w.heap.size w (w1.alloc (.cells #[.int .i64 (k : Int)] 3)) := (hB.trans (hb1.mono hB.size)).alloc (by omega) _
          have hbW1 : Below w.heap.size w W1 := hbX.grown hg1 hbX.size (fun g hg => (hR1.1.lt g hg).1)
          have r2 : W1.ownsRow w.heap.size 3 1 u6 pre.length (runesV pre) := row_keep (row_alloc hR1.2.1 _) hg1 (Or.inl (fun e => hR1.2.2 e.symm))
          have hne1 : v1.ownBlock ≠ u6.ownBlock ∨ u6.ownBlock = none := by
            rcases hu : u6.ownBlock with _ | g
            · exact Or.inr rfl
            · left
              have hlt6 := (hR1.2.1.lt g hu).2
              rcases hat1 with h | h
              · rw [h, ← hu]; exact hR1.2.2
              · rw [h]
                intro e
                simp only [Option.some.injEq] at e
                omega
          have HR1 := Lib.hid hR1
          have HO1 := Lib.hid hown1
          have HO2 := Lib.hid r2
          have HN1 := Lib.hid hne1
          have hsW1 := hbW1.size
          clear hR1 hown1 r2 hne1 hg1 hat1 hbX
          go_wp2_with (at_builtin; refine wpList_append_own_at _ rfl _ _ 36 rfl w.heap.size 3 i3 (.int .i64 0) 1 8 Tryz.underlying36 hi hz0 hz1 hz2 rfl (by decide) _ pre.length (runesV pre) rfl ?qb0 ⟨W1.heap.size, 0, none⟩ 1 1 [.int .i64 (r : Int)] rfl rfl (cell_one_new _ _ _) (by simp [Value.oneCell']) ?qb1 ?qb2 ?qb3 ?_)
          case qb0 => exact row_alloc HO2.out _
          case qb1 => unfold maxLen; omega
          case qb2 => omega
          case qb3 => simp; omega
          intro v2 W2 hown2 hg2 _ hat2
          have HN2 : v1.ownBlock ≠ v2.ownBlock := by
            obtain ⟨g, c1, hv1⟩ := ownsRow_succ HO1.out
            have hg1 : v1.ownBlock = some g := by rw [hv1]; rfl
            have hglt := (HO1.out.lt g hg1).2
            rcases hat2 with h | h
            · rw [h]
              rcases HN1.out with hn | hn
              · exact hn
              · rw [hn, hg1]; simp
            · rw [h, hg1]
              intro e
              simp only [Option.some.injEq] at e
              omega
          have r1 : W2.ownsRow w.heap.size 3 1 v1 (pre.length + 1) (placesV pre ++ [.int .i64 (k : Int)]) := row_keep (row_alloc HO1.out _) hg2 (by
            rcases HN1.out with hn | hn
            · exact Or.inl hn
            · rw [hn]
              rcases hv : v1.ownBlock with _ | g
              · exact Or.inr rfl
              · exact Or.inl (by simp))
          have hbW2 : Below w.heap.size w W2 := (hbW1.alloc hbW1.size _).grown hg2 (by simp; omega) (fun g hg => (HO2.out.lt g hg).1)
          have HT2 : Hid (TwoRows w.heap.size W2 v1 v2 (pre ++ [(k, r)])) := Lib.hid ⟨by simpa [placesV] using r1, by simpa [runesV] using hown2, HN2⟩
          clear HN2 r1 hown2 hg2 hat2 HO1 HO2 HN1 HR1 cF
          go_wp2
          go_roundw
          case rel =>
            refine ⟨k + m, pre ++ [(k, r)], by omega, by go_num, by simp; omega, Lib.hid ⟨?_, ?_⟩, HT2, hbW2⟩
            · rw [HS.out.1, HE.out, List.drop_drop]; simp
            · rw [HS.out.2, HE2.out, List.drop_drop]
          case measure => simp [intOf]; omega
    · obtain rfl : k = l.length := by omega
      go_wp2
      go_ret3
      have hpre : sg l 0 = pre := by rw [HS.out.1, sg_nil _ _ (by simp), List.append_nil]
      have hbd : bd l 0 = l.length := by rw [HS.out.2, bd_nil _ _ (by simp)]
      exact ⟨u5, u6, by rw [hbd]; rfl, by rw [hpre]; exact HR.out, hB⟩

end Go.Proofs.YtidmeodmkcomlaaGreatDoor
