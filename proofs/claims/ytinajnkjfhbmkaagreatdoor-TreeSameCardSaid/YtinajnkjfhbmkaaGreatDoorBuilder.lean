/- A builder: what is put in, one by one; at every state of one. -/
import Derived.Test.YtinajnkjfhbmkaaGreatDoorClone
namespace Go.Proofs.YtinajnkjfhbmkaaGreatDoor
open Go Go.Proofs Go.RowKit

def PutTermPost (base cb : Nat) (_v1 v2 v3 : Value) (r1 : List (TermD × Ptr3)) (r2 : List (TypD × Ptr2)) (r3 : List AliD) (x : TermD) (w : World) (e : Ending) (w' : World) : Prop :=
  ∃ p' v', e = .returned (.tuple #[.int .i64 (r1.length : Nat), .int .i64 0]) ∧ TreeOwn w' base cb 83 v' v2 v3 (r1 ++ [(x, p')]) r2 r3 ∧ ∀ B, B ≤ base → B ≤ w.heap.size → Below B w w'

theorem term_nil (x : TermD) (q : Ptr3) (w : World) : Calls Tryz.prog 19 #[.pointer none, .agg (termCells x q).toArray] w fun e w' => e = .returned (.tuple #[.int .i64 0, .int .i64 1]) ∧ Below w.heap.size w w' := by
  unfold termCells
  go_enter Tryz.func19, Tryz.ntmps19
  go_wp2
  go_ret2
  exact ⟨rfl, (Below.refl _ _).alloc (Nat.le_refl _) _⟩

theorem term_full (base cb : Nat) {v1 v2 v3 : Value} {r1 : List (TermD × Ptr3)} {r2 : List (TypD × Ptr2)} {r3 : List AliD} (x : TermD) (q : Ptr3) (w : World) (hT : TreeOwn w base cb 83 v1 v2 v3 r1 r2 r3) (hl : r1.length = 65536) :
    Calls Tryz.prog 19 #[.pointer (some ⟨cb, 0, none⟩), .agg (termCells x q).toArray] w fun e w' => e = .returned (.tuple #[.int .i64 0, .int .i64 6]) ∧ Below w.heap.size w w' := by
  obtain ⟨A, c, hv⟩ := own_form hT.o1
  have c0 := hT.blk.cell 0
  have hcb := hT.blk.lt
  simp only [List.getElem?_toArray, List.getElem?_cons_zero] at c0
  rw [hv, hl] at c0
  clear hv hT hl
  unfold termCells
  go_enter Tryz.func19, Tryz.ntmps19
  go_wp2
  go_ret2
  exact ⟨rfl, (Below.refl _ _).alloc (Nat.le_refl _) _⟩

set_option maxRecDepth 100000 in
set_option maxHeartbeats 8000000 in
theorem term_any (base cb : Nat) {v1 v2 v3 : Value} {r1 : List (TermD × Ptr3)} {r2 : List (TypD × Ptr2)} {r3 : List AliD} (x : TermD) (q : Ptr3) (w : World) (hT : TreeOwn w base cb 83 v1 v2 v3 r1 r2 r3) (hl : r1.length < 65536) (hq : TermOk (Lt w.heap.size) w x q) (f1 : x.names.length ≤ 65536) (f2 : x.kids.length ≤ 65536) (f3 : x.types.length ≤ 65536) :
    Calls Tryz.prog 19 #[.pointer (some ⟨cb, 0, none⟩), .agg (termCells x q).toArray] w (PutTermPost base cb v1 v2 v3 r1 r2 r3 x w) := by
  obtain ⟨i0, hi, hz0, hz1, hz2⟩ := info_parts info33
  obtain ⟨A, c, hv⟩ := own_form hT.o1
  have hbs := hT.bas
  have h65 : ((r1.length : Int) == 65536) = false := by rw [beq_eq_false_iff_ne]; omega
  obtain ⟨Wn, hWn⟩ : ∃ Wn, w.alloc (.cells (termCells x q).toArray 45) = Wn := ⟨_, rfl⟩
  have hBn : Below w.heap.size w Wn := by rw [← hWn]; exact (Below.refl _ _).alloc (Nat.le_refl _) _
  have hXn : Blk Wn w.heap.size 45 (termCells x q).toArray := by rw [← hWn]; exact Blk.new w 45 _
  have hTn := hT.below hBn
  have c0 := hTn.blk.cell 0
  have hcb := hTn.blk.lt
  simp only [List.getElem?_toArray, List.getElem?_cons_zero] at c0
  rw [hv] at c0
  unfold termCells at *
  have HT := Lib.hid hT
  have HV := Lib.hid hv
  have HBN := Lib.hid hBn
  have HXN := Lib.hid hXn
  have HTN := Lib.hid hTn
  have HQ := Lib.hid hq
  clear hT hv hBn hXn hTn hq
  go_enter Tryz.func19, Tryz.ntmps19
  go_wp2_with fail
  have hBn := HBN.out
  have hXn := HXN.out
  have hTn := HTN.out
  clear hWn
  have hzn := hXn.lt
  have k32 := fun W (hW : TermOk (Lt W.heap.size) W x q) => cloneTerm_any x q W hW f1 f2 f3
  have g0 := hTn.blk.frozen 0
  have p0 := hXn.cell 0
  have p1 := hXn.cell 1
  have p2 := hXn.cell 2
  have p3 := hXn.cell 3
  have p4 := hXn.cell 4
  have p5 := hXn.cell 5
  have p6 := hXn.cell 6
  have p7 := hXn.cell 7
  simp only [List.getElem?_toArray, List.getElem?_cons_zero, List.getElem?_cons_succ] at p0 p1 p2 p3 p4 p5 p6 p7
  have hqn : TermOk (Lt Wn.heap.size) Wn x q := (HQ.out.keep (keep_below hBn)).imp (lt_mono hBn.size)
  unfold termCells at k32
  have hczn : cb < Wn.heap.size := hTn.blk.lt
  clear hTn hXn
  have hne1 : v1.ownBlock ≠ some cb := own_blk_ne HT.out.o1 HT.out.blk (by decide)
  rw [HV.out] at hne1
  go_region_law (first
    | (refine step_app _ rfl _ _ 22 rfl base 45 i0 _ 8 120 Tryz.underlying22 hi hz0 hz1 hz2 rfl (by decide) (.slice A r1.length c) r1.length (tmCells r1) (by simp [Act.eval]) (HV.out ▸ ((HTN.out.below hb5).o1.alloc _)) (some ⟨w4.heap.size, 0, none⟩) 1 1 (termCells x p') (by simp [Act.eval]) rfl (rd_new w4 (termCells x p') 45) (by intro u hu; simp [termCells] at hu; rcases hu with rfl | rfl | rfl | rfl | rfl | rfl | rfl | rfl <;> rfl) (by unfold maxLen; omega) (by omega) (by simp only [World.size_alloc]; have := hb5.size; have := hBn.size; omega) ?_; intro v' w5 hown5 hgrow5 hloc5; have c5 := (app_cell (off := 0) hgrow5 l4 hne1).trans c4; have g5 := (app_frozen (off := 0) hgrow5 l4 hne1).trans g4; obtain ⟨A5, d5, rfl⟩ := own_form hown5)
    | (rw [if_pos (by simp [Region.wanted])]; go_simp; go_at_call 48; refine (k32 _ (by exact hqn)).mono ?_; rintro e w4 ⟨p', rfl, hok, hb4⟩; simp only [termCells]; have hb5 : Below Wn.heap.size Wn w4 := ((Below.refl _ Wn).drew).trans hb4; have l4 : cb < w4.heap.size := Nat.lt_of_lt_of_le hczn hb5.size; have c4 := (hb4.cell (p := ⟨cb, 0, none⟩) hczn).trans c0; have g4 := (hb4.frozen (p := ⟨cb, 0, none⟩) hczn).trans g0; go_simp))
  all_goals
    have hpush := TreeOwn.pushTerm HTN.out x p' hb5 hok ((Below.refl w4.heap.size w4).alloc (Nat.le_refl _) (.cells (termCells x p').toArray 45)) (by simpa using hown5) (by rw [HV.out]; exact hgrow5) (by rw [HV.out]; exact hloc5)
    have HP := Lib.hid hpush.1
    have HB := Lib.hid hpush.2
    clear hpush hok hown5 hgrow5 hloc5 hb4 hb5 c5 g5 c4 g4 k32 c0 g0 p0 p1 p2 p3 p4 p5 p6 p7
    go_wp2
    go_ret2
    exact ⟨p', _, rfl, HP.out, fun B h1 h2 => (hBn.mono h2).trans (HB.out B h1 (Nat.le_trans h2 hBn.size))⟩

def AliasPost (base cb : Nat) (v1 v2 _v3 : Value) (r1 : List (TermD × Ptr3)) (r2 : List (TypD × Ptr2)) (r3 : List AliD) (x : AliD) (w : World) (e : Ending) (w' : World) : Prop :=
  (∃ u, e = .returned u) ∧ ∃ v', TreeOwn w' base cb 83 v1 v2 v' r1 r2 (r3 ++ [x]) ∧ ∀ B, B ≤ base → B ≤ w.heap.size → Below B w w'
theorem new_any (w : World) : Calls Tryz.prog 18 #[] w fun e w' => e = .returned (.pointer (some ⟨w.heap.size, 0, none⟩)) ∧ TreeOwn w' w.heap.size w.heap.size 83 (.slice none 0 0) (.slice none 0 0) (.slice none 0 0) [] [] [] ∧ Below w.heap.size w w' := by
  go_enter Tryz.func18, Tryz.ntmps18
  go_wp2
  go_ret
  exact ⟨rfl, ⟨Blk.new w 83 _, .inr rfl, Nat.le_refl _, World.ownsRow_nil _ _ _ _, World.ownsRow_nil _ _ _ _, World.ownsRow_nil _ _ _ _, fun _ h => by simp at h, fun _ h => by simp at h⟩, (Below.refl _ _).alloc (Nat.le_refl _) _⟩

set_option maxHeartbeats 1000000 in
theorem tree_any (base cb : Nat) {v1 v2 v3 : Value} {r1 : List (TermD × Ptr3)} {r2 : List (TypD × Ptr2)} {r3 : List AliD} (w : World) (hT : TreeOwn w base cb 83 v1 v2 v3 r1 r2 r3) (n1 : r1.length ≤ 65536) (n2 : r2.length ≤ 65536) (n3 : r3.length ≤ 65536)
    (hF1 : ∀ x ∈ r1, x.1.names.length ≤ 65536 ∧ x.1.kids.length ≤ 65536 ∧ x.1.types.length ≤ 65536) (hF2 : ∀ x ∈ r2, x.1.names.length ≤ 65536 ∧ x.1.kids.length ≤ 65536) :
    Calls Tryz.prog 20 #[.pointer (some ⟨cb, 0, none⟩)] w (CloneTreePost w ⟨r1.map (·.1), r2.map (·.1), r3⟩) := by
  obtain ⟨P', hP1, hP2, hP3, hPT⟩ := hT.at_
  obtain ⟨Wn, hWn⟩ : ∃ Wn, w.alloc (.cells #[.slice none 0 0, .slice none 0 0, .slice none 0 0] 26) = Wn := ⟨_, rfl⟩
  have hBn : Below w.heap.size w Wn := by rw [← hWn]; exact (Below.refl _ _).alloc (Nat.le_refl _) _
  have hXn : Blk Wn w.heap.size 26 #[.slice none 0 0, .slice none 0 0, .slice none 0 0] := by rw [← hWn]; exact Blk.new w 26 _
  have hzW : Wn.heap.size = w.heap.size + 1 := by rw [← hWn]; simp only [World.size_alloc]
  have hTn := hT.below hBn
  have c0 := hTn.blk.cell 0
  have c1 := hTn.blk.cell 1
  have c2 := hTn.blk.cell 2
  simp only [List.getElem?_toArray, List.getElem?_cons_zero, List.getElem?_cons_succ] at c0 c1 c2
  rw [hP1] at c0
  rw [hP2] at c1
  rw [hP3] at c2
  have k33 := clone_any ⟨r1.map (·.1), r2.map (·.1), r3⟩ P' Wn ((hPT.keep (fun b o hb => hBn.cell (p := ⟨b, o, none⟩) hb.2)).imp (fun b hb => Nat.lt_of_lt_of_le hb.2 hBn.size)) (by simpa using n1) (by simpa using n2) n3
    (fun x hx => by obtain ⟨y, hy, rfl⟩ := List.mem_map.1 hx; exact hF1 y hy) (fun x hx => by obtain ⟨y, hy, rfl⟩ := List.mem_map.1 hx; exact hF2 y hy)
  have hm1 : (r1.map (·.1)).length = r1.length := List.length_map _
  have hm2 : (r2.map (·.1)).length = r2.length := List.length_map _
  unfold treeV at k33
  dsimp only at k33
  rw [hm1, hm2] at k33
  have HBN := Lib.hid hBn
  have HXN := Lib.hid hXn
  have HZW := Lib.hid hzW
  clear hPT hP1 hP2 hP3 hT hTn hF1 hF2 hBn hXn hzW hm1 hm2
  go_enter Tryz.func20, Tryz.ntmps20
  go_wp2_with fail
  refine k33.mono ?_
  rintro e w2 ⟨p', rfl, hat, hb⟩
  unfold treeV
  dsimp only
  have hm1 : (r1.map (·.1)).length = r1.length := List.length_map _
  have hm2 : (r2.map (·.1)).length = r2.length := List.length_map _
  have hX2 := HXN.out.below hb (by have := HXN.out.lt; omega)
  have x0 := hX2.cell 0
  have x1 := hX2.cell 1
  have x2 := hX2.cell 2
  have y0 := hX2.frozen 0
  have y1 := hX2.frozen 1
  have y2 := hX2.frozen 2
  simp only [List.getElem?_toArray, List.getElem?_cons_zero, List.getElem?_cons_succ] at x0 x1 x2
  rw [hm1, hm2]
  have HX2 := Lib.hid hX2
  have HAT := Lib.hid hat
  have HM := Lib.hid (And.intro hm1 hm2)
  have HB := Lib.hid hb
  clear hX2 hat hm1 hm2 k33 hb hWn
  go_wp2
  obtain ⟨WZ, hWZ⟩ : ∃ WZ, ((w2.setCell ⟨w.heap.size, 0, none⟩ (.slice p'.a1 r1.length p'.c1)).setCell ⟨w.heap.size, 1, none⟩ (.slice p'.a2 r2.length p'.c2)).setCell ⟨w.heap.size, 2, none⟩ (.slice p'.a3 r3.length p'.c3) = WZ := ⟨_, rfl⟩
  have hRZ : Blk WZ w.heap.size 26 #[.slice p'.a1 r1.length p'.c1, .slice p'.a2 r2.length p'.c2, .slice p'.a3 r3.length p'.c3] := by
    rw [← hWZ]
    have := ((HX2.out.set_ 0 (.slice p'.a1 r1.length p'.c1)).set_ 1 (.slice p'.a2 r2.length p'.c2)).set_ 2 (.slice p'.a3 r3.length p'.c3)
    simpa using this
  have hBZ : Below w.heap.size w WZ := by
    rw [← hWZ]
    exact (((HBN.out.trans (HB.out.mono HBN.out.size)).setCell (p := ⟨w.heap.size, 0, none⟩) (Nat.le_refl _) _).setCell (p := ⟨w.heap.size, 1, none⟩) (Nat.le_refl _) _).setCell (p := ⟨w.heap.size, 2, none⟩) (Nat.le_refl _) _
  have hzZ : WZ.heap.size = w2.heap.size := by rw [← hWZ]; simp
  have hkZ : ∀ b o, w.heap.size + 1 ≤ b → WZ.cell? ⟨b, o, none⟩ = w2.cell? ⟨b, o, none⟩ := fun b o hb => by
    rw [← hWZ, World.cell?_setCell_other _ _ _ _ (by intro e; injection e; omega), World.cell?_setCell_other _ _ _ _ (by intro e; injection e; omega), World.cell?_setCell_other _ _ _ _ (by intro e; injection e; omega)]
  rw [hWZ]
  clear hWZ x0 x1 x2 y0 y1 y2
  have q0 := hRZ.cell 0
  have q1 := hRZ.cell 1
  have q2 := hRZ.cell 2
  simp only [List.getElem?_toArray, List.getElem?_cons_zero, List.getElem?_cons_succ] at q0 q1 q2
  refine bodyPost_ret (v := .agg #[.slice p'.a1 r1.length p'.c1, .slice p'.a2 r2.length p'.c2, .slice p'.a3 r3.length p'.c3]) (by simp [results, Tryz.results20, go_sem, q0, q1, q2]) rfl ⟨p', by unfold treeV; dsimp only; rw [HM.out.1, HM.out.2], ?_, hBZ⟩
  have := (HAT.out.keep (fun b o hb => hkZ b o (by have := hb.1; have := HZW.out; omega))).imp (Qb := New w WZ) (fun b hb => ⟨by have := hb.1; have := HZW.out; omega, by rw [hzZ]; exact hb.2⟩)
  exact this

end Go.Proofs.YtinajnkjfhbmkaaGreatDoor
