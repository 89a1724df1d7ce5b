/- The iterator over the signs of a text, at every text within the reach, for every loop body. -/
import Derived.RangeFuncNested
import Derived.RangeFuncBound
import Derived.RangeFuncCalls
import Derived.RangeFuncLeaves
import Derived.Shelf.Abstract
import Derived.Shelf.RegionOpen
import Derived.WalkKit
import Derived.OwnWalkIn
import Derived.TacticsInMore
import Derived.LoopNIn
import Derived.LoopIn
import Derived.Outline
import Derived.Lib.Hide
import Derived.Shelf.Spec.DecodeRune
import Derived.Shelf.Small.Utf8
import Derived.Test.YtggchkddmihobaaGreatDoorShelf
import Derived.Test.YtggchkddmihobaaGreatDoorMath
namespace Go.Proofs.YtggchkddmihobaaGreatDoor
open Go Go.Proofs Go.RowKit Go.Shelf

attribute [local go_sem] Oper.semAt_some

/-- The bytes l stand at the place off of the block b. -/
def Holds (W : World) (b off : Nat) (l : List UInt8) : Prop := ∀ j, j < l.length → W.cell? ⟨b, off + j, none⟩ = some (.int .u8 (l.getD j 0).toNat)

theorem Holds.drop {W : World} {b off : Nat} {l : List UInt8} (h : Holds W b off l) (k : Nat) : Holds W b (off + k) (l.drop k) := by
  intro j hj
  simp only [List.length_drop] at hj
  have := h (k + j) (by omega)
  rw [show off + k + j = off + (k + j) by omega, this]
  simp [List.getD_eq_getElem?_getD, List.getElem?_drop]

theorem Holds.below {n₀ : Nat} {A B : World} {b off : Nat} {l : List UInt8} (hb : b < n₀) (h : Below n₀ A B) (hh : Holds A b off l) : Holds B b off l :=
  fun j hj => (h.cell (p := ⟨b, off + j, none⟩) hb).trans (hh j hj)

theorem tabs_below {n₀ : Nat} {A B : World} (hn : 4 ≤ n₀) (h : Below n₀ A B) (hT : Lib.Utf8Tabs 2 3 A) : Lib.Utf8Tabs 2 3 B :=
  ⟨fun c hc => (h.cell (p := ⟨2, c, none⟩) (by simp; omega)).trans (hT.1 c hc), fun i hi => ⟨(h.cell (p := ⟨3, 2 * i, none⟩) (by simp; omega)).trans (hT.2 i hi).1, (h.cell (p := ⟨3, 2 * i + 1, none⟩) (by simp; omega)).trans (hT.2 i hi).2⟩⟩

theorem decode_any (l : List UInt8) (hl : 0 < l.length) (b off cap : Nat) (w : World) (hT : Lib.Utf8Tabs 2 3 w) (hh : Holds w b off l) :
    Calls Tryz.prog 137 #[.slice (some ⟨b, off, none⟩) l.length cap] w fun e w' => e = .returned (.tuple #[.int .i32 (D l).1, .int .i64 (D l).2]) ∧ Below w.heap.size w w' := by
  have hs : (ByteArray.mk l.toArray).size = l.length := by simp [ByteArray.size]
  have hd : Lib.decodeGo (ByteArray.mk l.toArray) = D l := by
    unfold Lib.decodeGo
    rw [hs, if_neg (by omega), decode_mk]
  have := Any7.utf8_DecodeRune Tryz.lays32 (ByteArray.mk l.toArray) b off cap w hT (fun j hj => by rw [get_mk]; exact hh j (by rwa [hs] at hj))
  rwa [hd, hs] at this

theorem runeLen_any (r : Int) (w : World) : Calls Tryz.prog 132 #[.int .i32 r] w fun e w' => e = .returned (.int .i64 (Lib.runeLen r)) ∧ w = w' :=
  (Any.utf8_RuneLen Tryz.lays118 r w).mono fun _ _ ⟨h1, h2⟩ => ⟨h1, h2.symm⟩

/-- What a round of the loop keeps: the tables, the text's block, and the iterator's own box. -/
def Kp (b Bs : Nat) (W W' : World) : Prop := W.heap.size ≤ W'.heap.size ∧ ∀ k, k = 2 ∨ k = 3 ∨ k = b ∨ k = Bs → W'.heap[k]? = W.heap[k]?
theorem Kp.refl (b Bs : Nat) (W : World) : Kp b Bs W W := ⟨Nat.le_refl _, fun _ _ => rfl⟩
theorem Kp.trans {b Bs : Nat} {A B C : World} (h : Kp b Bs A B) (k : Kp b Bs B C) : Kp b Bs A C := ⟨Nat.le_trans h.1 k.1, fun i hi => (k.2 i hi).trans (h.2 i hi)⟩
theorem Kp.of_below {b Bs n₀ : Nat} {A B : World} (h : Below n₀ A B) (h2 : 4 ≤ n₀) (hb : b < n₀) (hB : Bs < n₀) : Kp b Bs A B := ⟨h.size, fun k hk => h.block k (by omega)⟩
theorem Kp.holds {b Bs off : Nat} {A B : World} {l : List UInt8} (h : Kp b Bs A B) (hh : Holds A b off l) : Holds B b off l := fun j hj => (World.cell?_of_block (a := ⟨b, off + j, none⟩) (h.2 b (by simp))).trans (hh j hj)
theorem Kp.box {b Bs : Nat} {A B : World} (h : Kp b Bs A B) : B.cell? ⟨Bs, 0, none⟩ = A.cell? ⟨Bs, 0, none⟩ := World.cell?_of_block (a := ⟨Bs, 0, none⟩) (h.2 Bs (by simp))
theorem Kp.tabs {b Bs : Nat} {A B : World} (h : Kp b Bs A B) (hT : Lib.Utf8Tabs 2 3 A) : Lib.Utf8Tabs 2 3 B :=
  ⟨fun c hc => (World.cell?_of_block (a := ⟨2, c, none⟩) (h.2 2 (by simp))).trans (hT.1 c hc), fun i hi => ⟨(World.cell?_of_block (a := ⟨3, 2 * i, none⟩) (h.2 3 (by simp))).trans (hT.2 i hi).1, (World.cell?_of_block (a := ⟨3, 2 * i + 1, none⟩) (h.2 3 (by simp))).trans (hT.2 i hi).2⟩⟩
theorem Kp_put {b Bs : Nat} {w : World} (h2 : 4 ≤ w.heap.size) (hb : b < w.heap.size) (hB : Bs < w.heap.size) (W : World) (l : Nat) (o o' : Obj) (hl : w.heap.size ≤ l) (h : W.heap[l]? = some o) (h1 : o.isCells = false) (h3 : o.isWalk = false) : Kp b Bs W (W.putObj l o') :=
  ⟨(belowK_b (n₀ := 0) (Nat.zero_le _) W l o o' hl h h1 h3).size, fun k hk => World.putObj_heap_other (by omega)⟩
theorem Kp_set {b Bs c : Nat} (h2 : 4 ≤ c) (hb : b ≠ c) (hB : Bs ≠ c) (W : World) (v : Value) : Kp b Bs W (W.setCell ⟨c, 0, none⟩ v) :=
  ⟨by simp, fun k hk => Below.heap_setCell W ⟨c, 0, none⟩ v k (by dsimp only; omega)⟩

theorem grown_of_below {W W' : World} (h : Below W.heap.size W W') : W.grownBy W' none := ⟨h.os, h.tape, h.output, h.size, fun k hk _ => h.block k hk⟩

/-- A sign and its place, within a text of N bytes. -/
abbrev Sg (N : Nat) := { x : Nat × Nat // x.1 < N ∧ x.2 ≤ 1114111 }

/-- What the iterator tells: all signs have come, or some, and a round has left. -/
def IterPost (l : List UInt8) (J Jx : List (Sg l.length) → World → Prop) (e : Ending) (W' : World) : Prop :=
  (∃ v, e = .returned v) ∧ ((∃ ys, ys.map Subtype.val = sg l 0 ∧ J ys W') ∨ (∃ pre, (∃ rest, sg l 0 = pre.map Subtype.val ++ rest) ∧ Jx pre W'))

set_option maxRecDepth 100000 in
set_option maxHeartbeats 2000000 in
theorem signs1_in (n : Nat) (hn : 1 ≤ n) (ll Bs b off cap : Nat) (l : List UInt8) (hlen : l.length ≤ 140737488351232) (hcap : l.length ≤ cap) (J Jx : List (Sg l.length) → World → Prop)
    (W : World) (h2 : 4 ≤ W.heap.size) (hb : b < W.heap.size) (hBs' : Bs < W.heap.size)
    (hJ : AbidesFrom W.heap.size J)
    (hY : ∀ pre (x : Sg l.length) W, J pre W → pre.length < l.length → YieldAt Fence.wide (n - 1) Tryz.prog ll #[.int .i64 (x.1.1 : Int), .int .i32 (x.1.2 : Int)] W fun e W' =>
      (e = .returned (.bool true) ∧ J (pre ++ [x]) W' ∧ Kp b Bs W W') ∨ (e = .returned (.bool false) ∧ Jx (pre ++ [x]) W'))
    (hBs : W.cell? ⟨Bs, 0, none⟩ = some (.slice (some ⟨b, off, none⟩) l.length cap)) (hh : Holds W b off l) (hT : Lib.Utf8Tabs 2 3 W) (h0 : J [] W) :
    CallsIn Fence.wide n Tryz.prog 136 #[.func (.yield ll) #[] #[], .pointer (some ⟨Bs, 0, none⟩)] W (IterPost l J Jx) := by
  refine callsIn_of_wp Tryz.func136 rfl trivial ?_ rfl
  simp only [Tryz.ntmps136, List.size_toArray, List.length_cons, List.length_nil, Nat.reduceAdd, Nat.reduceSub, Array.replicate_succ, Array.replicate_zero, List.push_toArray, List.append_toArray, List.nil_append, List.cons_append]
  gi_wp2
  gi_loopw [3] (fun i wr => ∃ (k : Nat) (pre : List (Sg l.length)), k ≤ l.length ∧ i = .int .i64 k ∧ pre.length ≤ k ∧ sg l 0 = pre.map Subtype.val ++ sg (l.drop k) k ∧ J pre wr ∧ Kp b Bs W wr ∧ W.heap.size ≤ wr.heap.size)
    (fun i _ => l.length - (intOf i).toNat)
  case atStart => exact ⟨0, [], Nat.zero_le _, rfl, Nat.le_refl _, rfl, h0, Kp.refl _ _ _, Nat.le_refl _⟩
  case round =>
    obtain ⟨k, pre, hk, rfl, hpk, hsg, hJs, hK, hsz⟩ := hrel
    have hSg := Lib.hid hsg
    clear hsg
    have hB1 : wr.cell? ⟨Bs, 0, none⟩ = some (.slice (some ⟨b, off, none⟩) l.length cap) := hK.box.trans hBs
    have hh1 : Holds wr b off l := hK.holds hh
    have hT1 : Lib.Utf8Tabs 2 3 wr := hK.tabs hT
    by_cases hlt : k < l.length
    · have hdec := decode_any (l.drop k) (by simp; omega) b (off + k) (cap - k) wr hT1 (hh1.drop k)
      have hbd := D_bounds (l.drop k) (by simp; omega)
      have hw := D_width (l.drop k)
      have hsc := sg_cons (l.drop k) k (by simp; omega)
      have hsb := sg_bad (l.drop k) k
      rw [List.length_drop] at hdec hbd
      have HC := Lib.hid hsc
      have HB := Lib.hid hsb
      clear hsc hsb
      unfold isBad at HC HB
      obtain ⟨r, hr⟩ : ∃ r, (D (l.drop k)).1 = r := ⟨_, rfl⟩
      obtain ⟨m, hm⟩ : ∃ m, (D (l.drop k)).2 = m := ⟨_, rfl⟩
      rw [hr, hm] at hdec hbd hw HC HB
      clear hr hm
      obtain ⟨hm1, hm4, hml, hr1⟩ := hbd
      gi_wp2_with fail
      refine ⟨trivial, (callsIn_wide.2 hdec).mono ?_⟩
      rintro e w1 ⟨rfl, hbw⟩
      have hJ1 : J pre w1 := hJ pre wr w1 none hJs (grown_of_below hbw) (fun r e => by cases e)
      have hK1 : Kp b Bs wr w1 := Kp.of_below hbw (by omega) (by omega) (by omega)
      obtain ⟨x, hx⟩ : ∃ x : Sg l.length, x.1 = (k, r) := ⟨⟨(k, r), hlt, hr1⟩, rfl⟩
      have hYx := hY pre x w1 hJ1 (by omega)
      rw [hx] at hYx
      obtain ⟨fn, tmps, assign, body, hy, hR⟩ := hYx
      dsimp only at hy
      have hsz1 := hbw.size
      clear hdec
      by_cases hbad : r = 65533 ∧ m = 1
      · have HN := Lib.hid (HB.out hbad)
        clear HB HC hw
        obtain ⟨rfl, rfl⟩ := hbad
        have HX := Lib.hid hx
        clear hx
        gi_wp2
        refine bodyPost_ret (results_none rfl _ _ _) rfl ?_
        refine ⟨⟨_, rfl⟩, .inl ⟨pre, ?_, hJ1⟩⟩
        rw [hSg.out, HN.out, List.append_nil]
      · have hsc := HC.out hbad
        have hs0 : sg l 0 = (pre ++ [x]).map Subtype.val ++ sg ((l.drop k).drop m) (k + m) := by
          rw [hSg.out, hsc]; simp [hx]
        have HS := Lib.hid hs0
        clear hs0
        have HX := Lib.hid hx
        clear hsc HC HB hSg hx
        have H5 : ((r : Int) == 65533) = false ∨ (((r : Int) == 65533) = true ∧ ((m : Int) == 1) = false) := by
          by_cases h : r = 65533
          · right; refine ⟨by simp [h], ?_⟩
            have : m ≠ 1 := fun e => hbad ⟨h, e⟩
            simp; omega
          · left; simp; omega
        clear hbad
        rcases H5 with h5 | ⟨h5, h6⟩
        all_goals
          gi_wp2
          refine hR.mono ?_
          rintro e W3 (⟨rfl, hJ3, hk3⟩ | ⟨rfl, hJx3⟩)
          · gi_wp2
            go_roundw
            case rel => exact ⟨k + m, pre ++ [x], by omega, by go_num, by simp; omega, by rw [HS.out, List.drop_drop], hJ3, (hK.trans hK1).trans hk3, by have := hk3.1; omega⟩
            case measure => simp [intOf]; omega
          · gi_wp2
            refine bodyPost_ret (results_none rfl _ _ _) rfl ?_
            exact ⟨⟨_, rfl⟩, .inr ⟨pre ++ [x], ⟨_, HS.out⟩, hJx3⟩⟩
    · obtain rfl : k = l.length := by omega
      gi_wp2
      go_end0
      refine ⟨⟨_, rfl⟩, .inl ⟨pre, ?_, hJs⟩⟩
      rw [hSg.out, sg_nil _ _ (by simp), List.append_nil]

end Go.Proofs.YtggchkddmihobaaGreatDoor
