/- A builder: what is put in, one by one; at every state of one. The parser's smallest functions: the token that is to be read, the next one, and whether it is -/
import Derived.Test.YtjbdgjbmbohfmaaGreatDoorK14
import Derived.Test.YtjbdgjbmbohfmaaGreatDoorK12
import Derived.BigQuiet
import Derived.RegionCalls
import Derived.Defers
import Derived.Deep.QuietTactic
namespace Go.Proofs.YtjbdgjbmbohfmaaGreatDoor
open Go Go.Proofs Go.RowKit
theorem push_keep {w w1 w2 w3 : World} {row : Option Nat} {cb g : Nat} (hb : Below w.heap.size w w1) (hb2 : Below w1.heap.size w1 w2) (hg : w2.grownBy w3 row) (h1 : g < w.heap.size) (h2 : g ≠ cb) (h3 : row ≠ some g) (v' : Value) (k : Nat) :
 (w3.setCell ⟨cb, k, none⟩ v').heap[g]? = w.heap[g]? := by
 have hs1 := hb.size
 have hs2 := hb2.size
 rw [Below.heap_setCell _ _ _ _ h2, hg.block g (by omega) (fun e => h3 e.symm), hb2.block g (by omega), hb.block g h1]
theorem push_cell {w w1 w2 w3 : World} {row : Option Nat} {cb : Nat} (_hb : Below w.heap.size w w1) (hb2 : Below w1.heap.size w1 w2) (hg : w2.grownBy w3 row) (hr : ∀ g, row = some g → g < w.heap.size) (hcb : cb < w.heap.size) (v' : Value) (k b o : Nat) (h1 : w.heap.size ≤ b ∧ b < w1.heap.size) :
 (w3.setCell ⟨cb, k, none⟩ v').cell? ⟨b, o, none⟩ = w1.cell? ⟨b, o, none⟩ := by
 have hs2 := hb2.size
 rw [World.cell?_setCell_other _ _ _ _ (by intro e; injection e; omega), World.cell?_of_block (a := ⟨b, o, none⟩) (hg.block b (by omega) (fun e => by have := hr b e.symm; omega)), hb2.cell (p := ⟨b, o, none⟩) h1.2]
def PutTermPost (base cb : Nat) (v1 v2 v3 : Value) (r1 : List (TermD × Ptr3)) (r2 : List (TypD × Ptr2)) (r3 : List AliD) (x : TermD) (w : World) (e : Ending) (w' : World) : Prop :=
 ∃ p' v', e = .returned (.tuple #[.int .i64 (r1.length : Nat), .int .i64 0]) ∧ TreeOwn w' base cb 168 v' v2 v3 (r1 ++ [(x, p')]) r2 r3 ∧ (∀ B, B ≤ base → B ≤ w.heap.size → Below B w w') ∧ (∀ g, g < w.heap.size → (g ≠ cb → v1.ownBlock ≠ some g → w'.heap[g]? = w.heap[g]?)) ∧ TermOk (fun b => w.heap.size ≤ b) w' x p' ∧ ∀ g, v'.ownBlock = some g → g < w.heap.size → v1.ownBlock = some g

set_option maxRecDepth 100000 in
set_option maxHeartbeats 8000000 in
theorem term_any (base cb : Nat) {v1 v2 v3 : Value} {r1 : List (TermD × Ptr3)} {r2 : List (TypD × Ptr2)} {r3 : List AliD} (x : TermD) (q : Ptr3) (w : World) (hT : TreeOwn w base cb 168 v1 v2 v3 r1 r2 r3) (hl : r1.length < 65536) (hq : TermOk (Lt w.heap.size) w x q) (f1 : x.names.length ≤ 65536) (f2 : x.kids.length ≤ 65536) (f3 : x.types.length ≤ 65536) :
 Calls Tryz.prog 263 #[.pointer (some ⟨cb, 0, none⟩), .agg (termCells x q).toArray] w (PutTermPost base cb v1 v2 v3 r1 r2 r3 x w) := by
 obtain ⟨i0, hi, hz0, hz1, hz2⟩ := info_parts info33
 obtain ⟨A, c, hv⟩ := own_form hT.o1
 have hbs := hT.bas
 have h65 : ((r1.length : Int) == 65536) = false := by rw [beq_eq_false_iff_ne]; omega
 obtain ⟨Wn, hWn⟩ : ∃ Wn, w.alloc (.cells (termCells x q).toArray 60) = Wn := ⟨_, rfl⟩
 have hBn : Below w.heap.size w Wn := by rw [← hWn]; exact (Below.refl _ _).alloc (Nat.le_refl _) _
 have hXn : Blk Wn w.heap.size 60 (termCells x q).toArray := by rw [← hWn]; exact Blk.new w 60 _
 have hTn := hT.below hBn
 have c0 := hTn.blk.cell 0
 have hcb := hTn.blk.lt
 simp only [List.getElem?_toArray, List.getElem?_cons_zero] at c0
 rw [hv] at c0
 unfold termCells at *
 have HT := Lib.hid hT
 have HV := Lib.hid hv
 have HBN := Lib.hid hBn
 have HXN := Lib.hid hXn
 have HTN := Lib.hid hTn
 have HQ := Lib.hid hq
 clear hT hv hBn hXn hTn hq
 go_enter Tryz.func263, Tryz.ntmps263
 go_wp2_with fail
 have hBn := HBN.out
 have hXn := HXN.out
 have hTn := HTN.out
 clear hWn
 have hzn := hXn.lt
 have k32 := fun W (hW : TermOk (Lt W.heap.size) W x q) => cloneTerm_any x q W hW f1 f2 f3
 have g0 := hTn.blk.frozen 0
 have p0 := hXn.cell 0
 have p1 := hXn.cell 1
 have p2 := hXn.cell 2
 have p3 := hXn.cell 3
 have p4 := hXn.cell 4
 have p5 := hXn.cell 5
 have p6 := hXn.cell 6
 have p7 := hXn.cell 7
 simp only [List.getElem?_toArray, List.getElem?_cons_zero, List.getElem?_cons_succ] at p0 p1 p2 p3 p4 p5 p6 p7
 have hqn : TermOk (Lt Wn.heap.size) Wn x q := (HQ.out.keep (keep_below hBn)).imp (lt_mono hBn.size)
 unfold termCells at k32
 have hczn : cb < Wn.heap.size := hTn.blk.lt
 clear hTn hXn
 have hne1 : v1.ownBlock ≠ some cb := own_blk_ne HT.out.o1 HT.out.blk (by decide)
 rw [HV.out] at hne1
 go_region_law (first
  | (refine step_app _ rfl _ _ 24 rfl base 60 i0 _ 8 120 Tryz.underlying24 hi hz0 hz1 hz2 rfl (by decide) (.slice A r1.length c) r1.length (tmCells r1) (by simp [Act.eval]) (HV.out ▸ ((HTN.out.below hb5).o1.alloc _)) (some ⟨w4.heap.size, 0, none⟩) 1 1 (termCells x p') (by simp [Act.eval]) rfl (rd_new w4 (termCells x p') 60) (by intro u hu; simp [termCells] at hu; rcases hu with rfl | rfl | rfl | rfl | rfl | rfl | rfl | rfl <;> rfl) (by unfold maxLen; omega) (by omega) (by simp only [World.size_alloc]; have := hb5.size; have := hBn.size; omega) ?_; intro v' w5 hown5 hgrow5 hloc5; have c5 := (app_cell (off := 0) hgrow5 l4 hne1).trans c4; have g5 := (app_frozen (off := 0) hgrow5 l4 hne1).trans g4; obtain ⟨A5, d5, rfl⟩ := own_form hown5)
  | (rw [if_pos (by simp [Region.wanted])]; go_simp; go_at_call 208; refine (k32 _ (by exact hqn)).mono ?_; rintro e w4 ⟨p', rfl, hok, hb4⟩; simp only [termCells]; have hb5 : Below Wn.heap.size Wn w4 := ((Below.refl _ Wn).drew).trans hb4; have l4 : cb < w4.heap.size := Nat.lt_of_lt_of_le hczn hb5.size; have c4 := (hb4.cell (p := ⟨cb, 0, none⟩) hczn).trans c0; have g4 := (hb4.frozen (p := ⟨cb, 0, none⟩) hczn).trans g0; go_simp))
 all_goals
  have hpush := TreeOwn.pushTerm HTN.out x p' hb5 hok ((Below.refl w4.heap.size w4).alloc (Nat.le_refl _) (.cells (termCells x p').toArray 60)) (by simpa using hown5) (by rw [HV.out]; exact hgrow5) (by rw [HV.out]; exact hloc5)
  have HK : Hid (∀ g, g < w.heap.size → g ≠ cb → v1.ownBlock ≠ some g → ∀ v, (w5.setCell ⟨cb, 0, none⟩ v).heap[g]? = w.heap[g]?) := Lib.hid (fun g h1 h2 h3 v => (push_keep hb5 ((Below.refl w4.heap.size w4).alloc (Nat.le_refl _) (.cells (termCells x p').toArray 60)) hgrow5 (Nat.lt_of_lt_of_le h1 hBn.size) h2 (by rw [← HV.out]; exact h3) v 0).trans (hBn.block g h1))
  have HL : Hid (∀ g, (Value.slice A5 (r1.length + 1) d5).ownBlock = some g → g < w.heap.size → v1.ownBlock = some g) := Lib.hid (fun g e hg => by
   have hs1 := hb5.size
   have hs2 := hBn.size
   rcases hloc5 with h | h
   ·rw [HV.out]; exact h.symm.trans e
   ·rw [h] at e; injection e with e; simp only [World.size_alloc] at e; omega)
  have HN : Hid (∀ v, TermOk (fun b => w.heap.size ≤ b) (w5.setCell ⟨cb, 0, none⟩ v) x p') := Lib.hid (fun v => (hok.keep (fun b o hq => push_cell hb5 ((Below.refl w4.heap.size w4).alloc (Nat.le_refl _) (.cells (termCells x p').toArray 60)) hgrow5 (fun g e => by rw [← HV.out] at e; exact row_lt HTN.out.o1 g e) hczn v 0 b o hq)).imp (fun b hq => Nat.le_trans hBn.size hq.1))
  have HP := Lib.hid hpush.1
  have HB := Lib.hid hpush.2
  clear hpush hok hown5 hgrow5 hloc5 hb4 hb5 c5 g5 c4 g4 k32 c0 g0 p0 p1 p2 p3 p4 p5 p6 p7
  go_wp2
  go_ret2
  exact ⟨p', _, rfl, HP.out, fun B h1 h2 => (hBn.mono h2).trans (HB.out B h1 (Nat.le_trans h2 hBn.size)), fun g h1 h2 h3 => HK.out g h1 h2 h3 _, HN.out _, HL.out⟩

theorem new_any (w : World) : Calls Tryz.prog 89 #[] w fun e w' => e = .returned (.pointer (some ⟨w.heap.size, 0, none⟩)) ∧ TreeOwn w' w.heap.size w.heap.size 168 (.slice none 0 0) (.slice none 0 0) (.slice none 0 0) [] [] [] ∧ Below w.heap.size w w' := by
 go_enter Tryz.func89, Tryz.ntmps89
 go_wp2
 go_ret
 exact ⟨rfl, ⟨Blk.new w 168 _, .inr rfl, Nat.le_refl _, World.ownsRow_nil _ _ _ _, World.ownsRow_nil _ _ _ _, World.ownsRow_nil _ _ _ _, fun _ h => by simp at h, fun _ h => by simp at h⟩, (Below.refl _ _).alloc (Nat.le_refl _) _⟩

set_option maxHeartbeats 1000000 in
theorem tree_any (base cb : Nat) {v1 v2 v3 : Value} {r1 : List (TermD × Ptr3)} {r2 : List (TypD × Ptr2)} {r3 : List AliD} (w : World) (hT : TreeOwn w base cb 168 v1 v2 v3 r1 r2 r3) (n1 : r1.length ≤ 65536) (n2 : r2.length ≤ 65536) (n3 : r3.length ≤ 65536)
 (hF1 : ∀ x ∈ r1, x.1.names.length ≤ 65536 ∧ x.1.kids.length ≤ 65536 ∧ x.1.types.length ≤ 65536) (hF2 : ∀ x ∈ r2, x.1.names.length ≤ 65536 ∧ x.1.kids.length ≤ 65536) :
 Calls Tryz.prog 91 #[.pointer (some ⟨cb, 0, none⟩)] w (CloneTreePost w ⟨r1.map (·.1), r2.map (·.1), r3⟩) := by
 obtain ⟨P', hP1, hP2, hP3, hPT⟩ := hT.at_
 obtain ⟨Wn, hWn⟩ : ∃ Wn, w.alloc (.cells #[.slice none 0 0, .slice none 0 0, .slice none 0 0] 28) = Wn := ⟨_, rfl⟩
 have hBn : Below w.heap.size w Wn := by rw [← hWn]; exact (Below.refl _ _).alloc (Nat.le_refl _) _
 have hXn : Blk Wn w.heap.size 28 #[.slice none 0 0, .slice none 0 0, .slice none 0 0] := by rw [← hWn]; exact Blk.new w 28 _
 have hzW : Wn.heap.size = w.heap.size + 1 := by rw [← hWn]; simp only [World.size_alloc]
 have hTn := hT.below hBn
 have c0 := hTn.blk.cell 0
 have c1 := hTn.blk.cell 1
 have c2 := hTn.blk.cell 2
 simp only [List.getElem?_toArray, List.getElem?_cons_zero, List.getElem?_cons_succ] at c0 c1 c2
 rw [hP1] at c0
 rw [hP2] at c1
 rw [hP3] at c2
 have k33 := clone_any ⟨r1.map (·.1), r2.map (·.1), r3⟩ P' Wn ((hPT.keep (fun b o hb => hBn.cell (p := ⟨b, o, none⟩) hb.2)).imp (fun b hb => Nat.lt_of_lt_of_le hb.2 hBn.size)) (by simpa using n1) (by simpa using n2) n3
  (fun x hx => by obtain ⟨y, hy, rfl⟩ := List.mem_map.1 hx; exact hF1 y hy) (fun x hx => by obtain ⟨y, hy, rfl⟩ := List.mem_map.1 hx; exact hF2 y hy)
 have hm1 : (r1.map (·.1)).length = r1.length := List.length_map _
 have hm2 : (r2.map (·.1)).length = r2.length := List.length_map _
 unfold treeV at k33
 dsimp only at k33
 rw [hm1, hm2] at k33
 have HBN := Lib.hid hBn
 have HXN := Lib.hid hXn
 have HZW := Lib.hid hzW
 clear hPT hP1 hP2 hP3 hT hTn hF1 hF2 hBn hXn hzW hm1 hm2
 go_enter Tryz.func91, Tryz.ntmps91
 go_wp2_with fail
 refine k33.mono ?_
 rintro e w2 ⟨p', rfl, hat, hb⟩
 unfold treeV
 dsimp only
 have hm1 : (r1.map (·.1)).length = r1.length := List.length_map _
 have hm2 : (r2.map (·.1)).length = r2.length := List.length_map _
 have hX2 := HXN.out.below hb (by have := HXN.out.lt; omega)
 have x0 := hX2.cell 0
 have x1 := hX2.cell 1
 have x2 := hX2.cell 2
 have y0 := hX2.frozen 0
 have y1 := hX2.frozen 1
 have y2 := hX2.frozen 2
 simp only [List.getElem?_toArray, List.getElem?_cons_zero, List.getElem?_cons_succ] at x0 x1 x2
 rw [hm1, hm2]
 have HX2 := Lib.hid hX2
 have HAT := Lib.hid hat
 have HM := Lib.hid (And.intro hm1 hm2)
 have HB := Lib.hid hb
 clear hX2 hat hm1 hm2 k33 hb hWn
 go_wp2
 obtain ⟨WZ, hWZ⟩ : ∃ WZ, ((w2.setCell ⟨w.heap.size, 0, none⟩ (.slice p'.a1 r1.length p'.c1)).setCell ⟨w.heap.size, 1, none⟩ (.slice p'.a2 r2.length p'.c2)).setCell ⟨w.heap.size, 2, none⟩ (.slice p'.a3 r3.length p'.c3) = WZ := ⟨_, rfl⟩
 have hRZ : Blk WZ w.heap.size 28 #[.slice p'.a1 r1.length p'.c1, .slice p'.a2 r2.length p'.c2, .slice p'.a3 r3.length p'.c3] := by
  rw [← hWZ]
  have := ((HX2.out.set_ 0 (.slice p'.a1 r1.length p'.c1)).set_ 1 (.slice p'.a2 r2.length p'.c2)).set_ 2 (.slice p'.a3 r3.length p'.c3)
  simpa using this
 have hBZ : Below w.heap.size w WZ := by
  rw [← hWZ]
  exact (((HBN.out.trans (HB.out.mono HBN.out.size)).setCell (p := ⟨w.heap.size, 0, none⟩) (Nat.le_refl _) _).setCell (p := ⟨w.heap.size, 1, none⟩) (Nat.le_refl _) _).setCell (p := ⟨w.heap.size, 2, none⟩) (Nat.le_refl _) _
 have hzZ : WZ.heap.size = w2.heap.size := by rw [← hWZ]; simp
 have hkZ : ∀ b o, w.heap.size + 1 ≤ b → WZ.cell? ⟨b, o, none⟩ = w2.cell? ⟨b, o, none⟩ := fun b o hb => by
  rw [← hWZ, World.cell?_setCell_other _ _ _ _ (by intro e; injection e; omega), World.cell?_setCell_other _ _ _ _ (by intro e; injection e; omega), World.cell?_setCell_other _ _ _ _ (by intro e; injection e; omega)]
 rw [hWZ]
 clear hWZ x0 x1 x2 y0 y1 y2
 have q0 := hRZ.cell 0
 have q1 := hRZ.cell 1
 have q2 := hRZ.cell 2
 simp only [List.getElem?_toArray, List.getElem?_cons_zero, List.getElem?_cons_succ] at q0 q1 q2
 refine bodyPost_ret (v := .agg #[.slice p'.a1 r1.length p'.c1, .slice p'.a2 r2.length p'.c2, .slice p'.a3 r3.length p'.c3]) (by simp [results, Tryz.results91, go_sem, q0, q1, q2]) rfl ⟨p', by unfold treeV; dsimp only; rw [HM.out.1, HM.out.2], ?_, hBZ⟩
 have := (HAT.out.keep (fun b o hb => hkZ b o (by have := hb.1; have := HZW.out; omega))).imp (Qb := New w WZ) (fun b hb => ⟨by have := hb.1; have := HZW.out; omega, by rw [hzZ]; exact hb.2⟩)
 exact this
abbrev tokV (t : Tk) : Value := .agg #[.int .i64 (t.1 : Int), .string (bs t.2.1), .int .i64 (t.2.2 : Int)]
abbrev PE.ptr (B : PE) : Value := .pointer (some ⟨B.pb, 0, none⟩)

set_option maxHeartbeats 2000000 in
theorem now_any {B : PE} {w : World} {s : St} (h : PS B w s) (hk : s.k < B.ts.length) : Calls Tryz.prog 149 #[B.ptr] w fun e w' => e = .returned (tokV (tkA B.ts s.k)) ∧ Below w.heap.size w w' := by
 obtain ⟨f0, f1, f2⟩ := h.now hk
 have c0 := h.blk.cell 0
 have c1 := h.blk.cell 1
 simp only [PE.cells, List.getElem?_toArray, List.getElem?_cons_zero, List.getElem?_cons_succ] at c0 c1
 have hp := h.blk.lt
 have hg : B.g < w.heap.size := Nat.lt_of_lt_of_le h.gb h.bw
 have hl := h.lb
 have hcap := h.cap
 generalize tkA B.ts s.k = t at f0 f1 f2 ⊢
 go_enter Tryz.func149, Tryz.ntmps149
 go_wp2
 go_region
 go_wp2
 exact bodyPost_ret (v := tokV t) (by simp [results, Tryz.results149, go_sem]) rfl ⟨rfl, ((Below.refl _ _).alloc (Nat.le_refl _) _).drew⟩

theorem bs_toList (l : List UInt8) : (bs l).toList = l := by
 unfold bs
 rw [ByteArray.toList_eq]
/-- Where a text stands first among some; -1: nowhere. -/
def ixS (xs : List (List UInt8)) (v : List UInt8) : Int := if xs.any (fun x => x == v) = true then (xs.findIdx (fun x => x == v) : Nat) else -1

set_option maxHeartbeats 2000000 in
theorem ix_any (b n cap : Nat) (xs : List (List UInt8)) (v : List UInt8) (w : World) (hn : xs.length = n) (hb : n ≤ 70000) (hc : ∀ j x, xs[j]? = some x → w.cell? ⟨b, j, none⟩ = some (.string (bs x))) :
 Calls Tryz.prog 213 #[.slice (some ⟨b, 0, none⟩) n cap, .string (bs v)] w fun e w' => e = .returned (.int .i64 (ixS xs v)) ∧ w' = w := by
 go_enter Tryz.func213, Tryz.ntmps213
 go_wp2
 go_loopw [8] (fun i wr => ∃ k : Nat, k ≤ n ∧ i = .int .i64 k ∧ wr = w ∧ Hid (∀ x ∈ xs.take k, (x == v) = false)) (fun i _ => n - (intOf i).toNat)
 case atStart => exact ⟨0, Nat.zero_le _, rfl, rfl, Lib.hid (by simp)⟩
 case round =>
  obtain ⟨k, hk, rfl, rfl, HT⟩ := hrel
  by_cases hlt : k < n
  ·have hx := hc k xs[k] (List.getElem?_eq_getElem (by omega))
   go_wp2
   case roundEnd =>
    rename_i he
    rw [bs_toList, bs_toList] at he
    go_roundw
    case rel =>
     refine ⟨k + 1, by omega, rfl, trivial, Lib.hid fun x hx => ?_⟩
     rw [List.take_succ_eq_append_getElem (by omega)] at hx
     rcases List.mem_append.1 hx with hx | hx
     ·exact HT.out x hx
     ·simp only [List.mem_singleton] at hx
      subst hx
      rw [beq_eq_false_iff_ne] at he ⊢
      exact fun e => he e.symm
    case measure => simp [intOf]; omega
   ·rename_i he
    rw [bs_toList, bs_toList] at he
    go_ret
    refine ⟨?_, rfl⟩
    have he2 : v = xs[k] := by simpa using he
    have hf : xs.findIdx (fun x => x == v) = k := by
     rw [List.findIdx_eq (by omega)]
     refine ⟨by simp [he2], fun j hj => HT.out _ ?_⟩
     rw [List.mem_take_iff_getElem]
     exact ⟨j, by omega, rfl⟩
    unfold ixS
    rw [if_pos (by rw [List.any_eq_true]; exact ⟨xs[k], List.getElem_mem _, by simp [he2]⟩), hf]
    rfl
  ·obtain rfl : k = n := by omega
   go_wp2
   go_ret
   refine ⟨?_, rfl⟩
   unfold ixS
   rw [if_neg (fun hh => by
    obtain ⟨x, hx, he⟩ := List.any_eq_true.1 hh
    have := HT.out x (by rw [← hn, List.take_length]; exact hx)
    rw [this] at he
    cases he)]
   rfl

theorem ix_ge (xs : List (List UInt8)) (v : List UInt8) : decide (0 ≤ ixS xs v) = xs.any (fun x => x == v) := by
 unfold ixS
 by_cases h : xs.any (fun x => x == v) = true
 ·rw [if_pos h, h]; simp
 ·rw [if_neg h]
  cases hx : xs.any (fun x => x == v)
  ·rfl
  ·exact absurd hx h
theorem contains_any (b n cap : Nat) (xs : List (List UInt8)) (v : List UInt8) (w : World) (hn : xs.length = n) (hb : n ≤ 70000) (hc : ∀ j x, xs[j]? = some x → w.cell? ⟨b, j, none⟩ = some (.string (bs x))) :
 Calls Tryz.prog 155 #[.slice (some ⟨b, 0, none⟩) n cap, .string (bs v)] w fun e w' => e = .returned (.bool (xs.any (fun x => x == v))) ∧ w' = w := by
 rw [← ix_ge]
 have c := ix_any b n cap xs v w hn hb hc
 go_enter Tryz.func155, Tryz.ntmps155
 go_wp2_with fail
 with_reducible refine c.mono ?_
 rintro e w1 ⟨rfl, rfl⟩
 go_wp2
 go_ret
 exact ⟨rfl, rfl⟩

set_option maxHeartbeats 4000000 in
theorem stands_any {B : PE} {w : World} {s : St} (h : PS B w s) (hk : s.k < B.ts.length) (b n cap : Nat) (xs : List (List UInt8)) (hn : xs.length = n) (hb : n ≤ 70000) (hbl : b < w.heap.size) (hc : ∀ j x, xs[j]? = some x → w.cell? ⟨b, j, none⟩ = some (.string (bs x))) :
 Calls Tryz.prog 95 #[B.ptr, .slice (some ⟨b, 0, none⟩) n cap] w fun e w' => e = .returned (.bool (standsB (tkA B.ts s.k) xs)) ∧ Below w.heap.size w w' := by
 have cN := now_any h hk
 have cC := fun (W : World) (hW : Below w.heap.size w W) => contains_any b n cap xs (tkA B.ts s.k).2.1 W hn hb (fun j x hx => (hW.cell (p := ⟨b, j, none⟩) hbl).trans (hc j x hx))
 generalize tkA B.ts s.k = t at cN cC ⊢
 unfold standsB
 have e7 : ((t.1 : Int) == 7) = (t.1 == 7) := by rw [Bool.eq_iff_iff]; simp; omega
 have e8 : ((t.1 : Int) == 8) = (t.1 == 8) := by rw [Bool.eq_iff_iff]; simp; omega
 clear hc
 rcases h7 : (t.1 == 7) with _ | _
 ·rw [h7] at e7
  rcases h8 : (t.1 == 8) with _ | _
  ·rw [h8] at e8
   go_enter Tryz.func95, Tryz.ntmps95
   go_wp2_with fail
   with_reducible refine cN.mono ?_
   rintro e w1 ⟨rfl, hb1⟩
   go_wp2_with fail
   go_ret
   exact ⟨rfl, hb1.alloc hb1.size _⟩
  ·rw [h8] at e8
   go_enter Tryz.func95, Tryz.ntmps95
   go_wp2_with fail
   with_reducible refine cN.mono ?_
   rintro e w1 ⟨rfl, hb1⟩
   go_wp2_with fail
   with_reducible refine (cC _ (hb1.alloc hb1.size _)).mono ?_
   rintro e w2 ⟨rfl, rfl⟩
   go_wp2_with fail
   go_ret
   exact ⟨rfl, hb1.alloc hb1.size _⟩
 ·rw [h7] at e7
  go_enter Tryz.func95, Tryz.ntmps95
  go_wp2_with fail
  with_reducible refine cN.mono ?_
  rintro e w1 ⟨rfl, hb1⟩
  go_wp2_with fail
  with_reducible refine (cC _ (hb1.alloc hb1.size _)).mono ?_
  rintro e w2 ⟨rfl, rfl⟩
  go_wp2_with fail
  go_ret
  exact ⟨rfl, hb1.alloc hb1.size _⟩

theorem PS.on1 {B : PE} {w : World} {s : St} (h : PS B w s) (hk : s.k < B.ts.length) : Aft B w (s.on 1) (w.setCell ⟨B.pb, 1, none⟩ (.int .i64 ((s.k : Int) + 1))) := by
 have := h.setK 1 (by have := h.lb; omega)
 rwa [show ((s.k + 1 : Nat) : Int) = (s.k : Int) + 1 by omega] at this

abbrev zTok : List Value := [.int .i64 0, .string ⟨#[]⟩, .int .i64 0]
abbrev tokL (t : Tk) : List Value := [.int .i64 (t.1 : Int), .string (bs t.2.1), .int .i64 (t.2.2 : Int)]

set_option maxHeartbeats 4000000 in
theorem next_any {B : PE} {w : World} {s : St} (h : PS B w s) (hk : s.k < B.ts.length) : Calls Tryz.prog 96 #[B.ptr] w fun e w' => e = .returned (tokV (tkA B.ts s.k)) ∧ Aft B w (s.on 1) w' := by
 have hl := h.lb
 have hp := h.blk.lt
 obtain ⟨W0, hW0⟩ : ∃ W0, w.alloc (.cells zTok.toArray 94) = W0 := ⟨_, rfl⟩
 have hB0 : Below w.heap.size w W0 := by rw [← hW0]; exact (Below.refl _ _).alloc (Nat.le_refl _) _
 have hX0 : Blk W0 w.heap.size 94 zTok.toArray := by rw [← hW0]; exact Blk.new w 94 _
 have cN := now_any (h.below hB0) hk
 generalize ht : tkA B.ts s.k = t at cN ⊢
 have H := Lib.hid h
 clear ht h
 go_enter Tryz.func96, Tryz.ntmps96
 go_wp2_with fail
 with_reducible refine cN.mono ?_
 rintro e w1 ⟨rfl, hb1⟩
 obtain ⟨W2, hW2⟩ : ∃ W2, w1.alloc (.cells (tokL t).toArray 94) = W2 := ⟨_, rfl⟩
 have hB2 : Below W0.heap.size W0 W2 := by rw [← hW2]; exact hb1.alloc hb1.size _
 have hB02 : Below w.heap.size w W2 := hB0.trans (hB2.mono hB0.size)
 have hX2 : Blk W2 w1.heap.size 94 (tokL t).toArray := by rw [← hW2]; exact Blk.new w1 94 _
 have p2 := H.out.below hB02
 have a3 := p2.on1 hk
 have c1 := p2.blk.cell 1
 have g1 := p2.blk.frozen 1
 simp only [PE.cells, List.getElem?_toArray, List.getElem?_cons_zero, List.getElem?_cons_succ] at c1
 have s0 := hB0.size
 have s1 := hb1.size
 have l0 := hX0.lt
 obtain ⟨W3, hW3⟩ : ∃ W3, W2.setCell ⟨B.pb, 1, none⟩ (.int .i64 ((s.k : Int) + 1)) = W3 := ⟨_, rfl⟩
 have hX3 : Blk W3 w1.heap.size 94 (tokL t).toArray := by rw [← hW3]; exact hX2.far (by dsimp only; omega) _
 have hY3 : Blk W3 w.heap.size 94 zTok.toArray := by rw [← hW3]; exact (hX0.below hB2 l0).far (by dsimp only; omega) _
 rw [hW3] at a3
 have d0 := hX3.cell 0
 have d1 := hX3.cell 1
 have d2 := hX3.cell 2
 have x0 := hY3.cell 0
 have x1 := hY3.cell 1
 have x2 := hY3.cell 2
 have y0 := hY3.frozen 0
 have y1 := hY3.frozen 1
 have y2 := hY3.frozen 2
 simp only [List.getElem?_toArray, List.getElem?_cons_zero, List.getElem?_cons_succ] at d0 d1 d2 x0 x1 x2
 have A3 := Lib.hid a3
 have Y3 := Lib.hid hY3
 have B02 := Lib.hid hB02
 clear a3 hX3 hY3 hX2 hB2 hB02 hX0 p2 cN hb1 hB0
 go_wp2_with fail
 have hZ := ((Y3.out.set_ 0 (.int .i64 (t.1 : Int))).set_ 1 (.string (bs t.2.1))).set_ 2 (.int .i64 (t.2.2 : Int))
 have q0 := hZ.cell 0
 have q1 := hZ.cell 1
 have q2 := hZ.cell 2
 simp only [List.setIfInBounds_toArray, List.set_cons_zero, List.set_cons_succ, List.getElem?_toArray, List.getElem?_cons_zero, List.getElem?_cons_succ] at q0 q1 q2
 refine bodyPost_ret (v := tokV t) (by simp [results, Tryz.results96, go_sem, q0, q1, q2]) rfl ⟨rfl, ?_⟩
 have e3 : ∀ b, b ≠ B.pb → W3.heap[b]? = W2.heap[b]? := fun b hb => by rw [← hW3]; exact Below.heap_setCell _ _ _ _ hb
 have hb3 : Below B.base w W3 := (B02.out.mono H.out.bw).trans A3.out.bel
 have hbb := H.out.bw
 refine H.out.moved (s.k + 1) s.op (by omega) H.out.ob (((hb3.setCell (p := ⟨w.heap.size, 0, none⟩) hbb _).setCell (p := ⟨w.heap.size, 1, none⟩) hbb _).setCell (p := ⟨w.heap.size, 2, none⟩) hbb _) (((A3.out.ps.blk.far (by dsimp only; omega) _).far (by dsimp only; omega) _).far (by dsimp only; omega) _) (fun b hb1 hb2 => ?_)
 rw [Below.heap_setCell _ _ _ _ (by dsimp only; omega), Below.heap_setCell _ _ _ _ (by dsimp only; omega), Below.heap_setCell _ _ _ _ (by dsimp only; omega), e3 b hb2]
 exact B02.out.block b hb1

theorem begin_any {B : PE} {w : World} {s : St} (h : PS B w s) (hk : s.op ≠ 256) : Calls Tryz.prog 92 #[B.ptr] w fun e w' => e = .returned (.tuple #[]) ∧ Aft B w s.up w' := by
 have hp := h.blk.lt
 have hob := h.ob
 have c2 := h.blk.cell 2
 have g2 := h.blk.frozen 2
 simp only [PE.cells, List.getElem?_toArray, List.getElem?_cons_zero, List.getElem?_cons_succ] at c2
 have h5 : ((s.op : Int) == 256) = false := by rw [beq_eq_false_iff_ne]; omega
 have a := h.up (by omega)
 rw [show ((s.op + 1 : Nat) : Int) = (s.op : Int) + 1 by omega] at a
 have A := Lib.hid a
 clear a h
 go_enter Tryz.func92, Tryz.ntmps92
 go_wp2
 go_end0
 exact ⟨rfl, A.out⟩

theorem newTerm_any {B : PE} {w : World} {s : St} (h : PS B w s) (hn : s.t1.length < 65536) (x : TermD) (q : Ptr3) (hq : TermOk (Lt w.heap.size) w x q) (hf : shortT x) :
 Calls Tryz.prog 224 #[B.ptr, .agg (termCells x q).toArray] w fun e w' => e = .returned (.int .i64 (s.t1.length : Nat)) ∧ Aft B w ⟨s.k, s.op, s.t1 ++ [x], s.t2⟩ w' := by
 obtain ⟨W0, hW0⟩ : ∃ W0, w.alloc (.cells (termCells x q).toArray 60) = W0 := ⟨_, rfl⟩
 have hB0 : Below w.heap.size w W0 := by rw [← hW0]; exact (Below.refl _ _).alloc (Nat.le_refl _) _
 have hX0 : Blk W0 w.heap.size 60 (termCells x q).toArray := by rw [← hW0]; exact Blk.new w 60 _
 have p0 := h.below hB0
 obtain ⟨v1, v2, r1, r2, hB, e1, e2⟩ := p0.built
 have hl : r1.length = s.t1.length := by rw [← e1]; simp
 have hq0 : TermOk (Lt W0.heap.size) W0 x q := (hq.keep (keep_below hB0)).imp (lt_mono hB0.size)
 have cT := fun (W : World) (hW : Below W0.heap.size W0 W) => term_any B.base B.cb x q W (hB.tr.below hW) (by omega) ((hq0.keep (keep_below hW)).imp (lt_mono hW.size)) hf.1 hf.2.1 hf.2.2
 have c4 := p0.blk.cell 4
 simp only [PE.cells, List.getElem?_toArray, List.getElem?_cons_zero, List.getElem?_cons_succ] at c4
 have hp := p0.blk.lt
 have d0 := hX0.cell 0
 have d1 := hX0.cell 1
 have d2 := hX0.cell 2
 have d3 := hX0.cell 3
 have d4 := hX0.cell 4
 have d5 := hX0.cell 5
 have d6 := hX0.cell 6
 have d7 := hX0.cell 7
 simp only [termCells, List.getElem?_toArray, List.getElem?_cons_zero, List.getElem?_cons_succ] at d0 d1 d2 d3 d4 d5 d6 d7
 unfold termCells at hW0 cT ⊢
 have P0 := Lib.hid p0
 have HB := Lib.hid hB
 have HL := Lib.hid hl
 have H := Lib.hid h
 have B0 := Lib.hid hB0
 have E1 := Lib.hid e1
 have E2 := Lib.hid e2
 clear p0 hB hl h hB0 hq0 hX0 e1 e2 hq
 go_enter Tryz.func224, Tryz.ntmps224
 go_wp2
 go_region_with (go_at_call 263; refine (cT _ (by exact (Below.refl _ W0).drew)).mono ?_; rintro e w2 ⟨p', v', rfl, hT, hbel, hk, hnew, hv⟩)
 all_goals
  have hD : Below W0.heap.size W0 W0.drew := (Below.refl _ W0).drew
  have a := (P0.out.below hD).pushT (HB.out.below hD) E1.out E2.out hf hn hT hbel hk hnew hv
  have A := Lib.hid ((H.out.aft (B0.out.trans (hD.mono B0.out.size))).trans a)
  have hl := HL.out
  clear hT hbel hk hnew hv a
  go_wp2
  go_ret
  exact ⟨rfl, A.out⟩

/-- The deferred call that closes a rule. -/
theorem end_d {B : PE} {w : World} {s : St} (h : PS B w s) (hk : 1 ≤ s.op) (u : FrameMode) : CallsD Tryz.prog 93 #[B.ptr] u w fun e u' w' => u' = u ∧ e = .returned (.tuple #[]) ∧ Aft B w s.down w' := by
 have hp := h.blk.lt
 have hob := h.ob
 have c2 := h.blk.cell 2
 have g2 := h.blk.frozen 2
 simp only [PE.cells, List.getElem?_toArray, List.getElem?_cons_zero, List.getElem?_cons_succ] at c2
 have a := h.down
 rw [show ((s.op - 1 : Nat) : Int) = (s.op : Int) - 1 by omega] at a
 have A := Lib.hid a
 clear a h
 go_enter_d Tryz.func93, Tryz.ntmps93
 go_wp2
 go_end0
 exact ⟨rfl, A.out⟩

theorem tokF0 (a c : Int) (s : ByteArray) (w : World) : (Instr.field 94 (.agg #[.int .i64 a, .string s, .int .i64 c]) 0).run Tryz.prog w = .ok (.int .i64 a) w := by kernel_rfl
theorem tokF1 (a c : Int) (s : ByteArray) (w : World) : (Instr.field 94 (.agg #[.int .i64 a, .string s, .int .i64 c]) 1).run Tryz.prog w = .ok (.string s) w := by kernel_rfl
theorem tokF2 (a c : Int) (s : ByteArray) (w : World) : (Instr.field 94 (.agg #[.int .i64 a, .string s, .int .i64 c]) 2).run Tryz.prog w = .ok (.int .i64 c) w := by kernel_rfl

set_option maxHeartbeats 4000000 in
theorem token_any {B : PE} {w : World} {s : St} (h : PS B w s) (hk : s.k < B.ts.length) (kind : Nat) (he : (tkA B.ts s.k).1 = kind) : Calls Tryz.prog 90 #[B.ptr, .int .i64 (kind : Int)] w fun e w' => e = .returned (tokV (tkA B.ts s.k)) ∧ Aft B w (s.on 1) w' := by
 obtain ⟨W0, hW0⟩ : ∃ W0, w.alloc (.cells zTok.toArray 94) = W0 := ⟨_, rfl⟩
 have hB0 : Below w.heap.size w W0 := by rw [← hW0]; exact (Below.refl _ _).alloc (Nat.le_refl _) _
 have hX0 : Blk W0 w.heap.size 94 zTok.toArray := by rw [← hW0]; exact Blk.new w 94 _
 have l0 := hX0.lt
 have o0 := AftO.start h hB0 (fun b => b = w.heap.size) (fun b hb => by subst hb; exact ⟨Nat.le_refl _, l0⟩)
 have cN : Calls Tryz.prog 149 #[B.ptr] W0 fun e w' => e = .returned (tokV (tkA B.ts s.k)) ∧ Below W0.heap.size W0 w' := now_any (B := B.with (fun b => b = w.heap.size)) o0.ps hk
 have cX : ∀ (W : World), Below W0.heap.size W0 W → Calls Tryz.prog 96 #[B.ptr] W fun e w' => e = .returned (tokV (tkA B.ts s.k)) ∧ Aft (B.with (fun b => b = w.heap.size)) W (s.on 1) w' := fun W hW => next_any (B := B.with (fun b => b = w.heap.size)) (o0.ps.below hW) hk
 generalize ht : tkA B.ts s.k = t at cN cX he ⊢
 have hne : ((t.1 : Int) != (kind : Int)) = false := by rw [he]; simp
 have hfd := tokF0
 clear he
 have HB := h.bw
 have O0 := Lib.hid o0
 have X0 := Lib.hid hX0
 clear ht h o0 hX0 hB0
 go_enter Tryz.func90, Tryz.ntmps90
 go_wp2_with fail
 with_reducible refine cN.mono ?_
 rintro e w1 ⟨rfl, hb1⟩
 clear hW0
 go_wp2_with fail
 with_reducible refine (cX w1 hb1).mono ?_
 rintro e w2 ⟨rfl, a2⟩
 have o1 := O0.out.below hb1
 have hX2 : Blk w2 w.heap.size 94 zTok.toArray := (o1.same a2 rfl).trans (X0.out.below hb1 l0)
 have o2 := o1.call a2
 have x0 := hX2.cell 0
 have x1 := hX2.cell 1
 have x2 := hX2.cell 2
 have y0 := hX2.frozen 0
 have y1 := hX2.frozen 1
 have y2 := hX2.frozen 2
 simp only [List.getElem?_toArray, List.getElem?_cons_zero, List.getElem?_cons_succ] at x0 x1 x2
 have O2 := Lib.hid o2
 have Y2 := Lib.hid hX2
 clear a2 hX2 cN cX hb1 o1 o2
 go_wp2_with fail
 have hZ := ((Y2.out.set_ 0 (.int .i64 (t.1 : Int))).set_ 1 (.string (bs t.2.1))).set_ 2 (.int .i64 (t.2.2 : Int))
 have q0 := hZ.cell 0
 have q1 := hZ.cell 1
 have q2 := hZ.cell 2
 simp only [List.setIfInBounds_toArray, List.set_cons_zero, List.set_cons_succ, List.getElem?_toArray, List.getElem?_cons_zero, List.getElem?_cons_succ] at q0 q1 q2
 exact bodyPost_ret (v := tokV t) (by simp [results, Tryz.results90, go_sem, q0, q1, q2]) rfl ⟨rfl, (((O2.out.set rfl 0 _ HB).set rfl 1 _ HB).set rfl 2 _ HB).out⟩
end Go.Proofs.YtjbdgjbmbohfmaaGreatDoor
