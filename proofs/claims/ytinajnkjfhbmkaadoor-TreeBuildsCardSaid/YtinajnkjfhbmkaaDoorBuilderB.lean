/- What is put into a builder leaves all else: terms, types, aliases. -/
import Derived.Test.YtinajnkjfhbmkaaDoorBuilderA
namespace Go.Proofs.YtinajnkjfhbmkaaDoor
open Go Go.Proofs Go.RowKit

/-- Every block but the builder's own, and that of a row, is as it was. -/
def Spared (cb : Nat) (v : Value) (w w' : World) : Prop := ∀ g, g < w.heap.size → g ≠ cb → v.ownBlock ≠ some g → w'.heap[g]? = w.heap[g]?
theorem spared_of {w Wn w4 w5 : World} {o : Obj} {cb off : Nat} {v u : Value} (h1 : Below w.heap.size w Wn) (h2 : Below Wn.heap.size Wn w4) (hg : (w4.alloc o).grownBy w5 v.ownBlock) : Spared cb v w (w5.setCell ⟨cb, off, none⟩ u) := fun g hl hc hv => by
  have hn := h1.size
  have h4 := h2.size
  rw [Below.heap_setCell _ _ _ _ hc]
  rw [hg.block g (by rw [World.size_alloc]; omega) (fun e => hv e.symm), Below.heap_alloc w4 o g (by omega), h2.block g (by omega), h1.block g hl]

set_option maxRecDepth 100000 in
set_option maxHeartbeats 8000000 in
theorem term_any2 (base cb : Nat) {v1 v2 v3 : Value} {r1 : List (TermD × Ptr3)} {r2 : List (TypD × Ptr2)} {r3 : List AliD} (x : TermD) (q : Ptr3) (w : World) (hT : TreeOwn w base cb 66 v1 v2 v3 r1 r2 r3) (hl : r1.length < 65536) (hq : TermOk (Lt w.heap.size) w x q) (f1 : x.names.length ≤ 65536) (f2 : x.kids.length ≤ 65536) (f3 : x.types.length ≤ 65536) :
    Calls Tryd.prog 16 #[.pointer (some ⟨cb, 0, none⟩), .agg (termCells x q).toArray] w (fun e w' => PutTermPost base cb v1 v2 v3 r1 r2 r3 x w e w' ∧ Spared cb v1 w w') := by
  obtain ⟨i0, hi, hz0, hz1, hz2⟩ := info_parts info33
  obtain ⟨A, c, hv⟩ := own_form hT.o1
  have hbs := hT.bas
  have h65 : ((r1.length : Int) == 65536) = false := by rw [beq_eq_false_iff_ne]; omega
  obtain ⟨Wn, hWn⟩ : ∃ Wn, w.alloc (.cells (termCells x q).toArray 33) = Wn := ⟨_, rfl⟩
  have hBn : Below w.heap.size w Wn := by rw [← hWn]; exact (Below.refl _ _).alloc (Nat.le_refl _) _
  have hXn : Blk Wn w.heap.size 33 (termCells x q).toArray := by rw [← hWn]; exact Blk.new w 33 _
  have hTn := hT.below hBn
  have c0 := hTn.blk.cell 0
  have hcb := hTn.blk.lt
  simp only [List.getElem?_toArray, List.getElem?_cons_zero] at c0
  rw [hv] at c0
  unfold termCells at *
  have HT := Lib.hid hT
  have HV := Lib.hid hv
  have HBN := Lib.hid hBn
  have HXN := Lib.hid hXn
  have HTN := Lib.hid hTn
  have HQ := Lib.hid hq
  clear hT hv hBn hXn hTn hq
  go_enter Tryd.func16, Tryd.ntmps16
  go_wp2_with fail
  have hBn := HBN.out
  have hXn := HXN.out
  have hTn := HTN.out
  clear hWn
  have hzn := hXn.lt
  have k32 := fun W (hW : TermOk (Lt W.heap.size) W x q) => cloneTerm_any x q W hW f1 f2 f3
  have g0 := hTn.blk.frozen 0
  have p0 := hXn.cell 0
  have p1 := hXn.cell 1
  have p2 := hXn.cell 2
  have p3 := hXn.cell 3
  have p4 := hXn.cell 4
  have p5 := hXn.cell 5
  have p6 := hXn.cell 6
  have p7 := hXn.cell 7
  simp only [List.getElem?_toArray, List.getElem?_cons_zero, List.getElem?_cons_succ] at p0 p1 p2 p3 p4 p5 p6 p7
  have hqn : TermOk (Lt Wn.heap.size) Wn x q := (HQ.out.keep (keep_below hBn)).imp (lt_mono hBn.size)
  unfold termCells at k32
  have hczn : cb < Wn.heap.size := hTn.blk.lt
  clear hTn hXn
  have hne1 : v1.ownBlock ≠ some cb := own_blk_ne HT.out.o1 HT.out.blk (by decide)
  rw [HV.out] at hne1
  go_region_law (first
    | (refine step_app _ rfl _ _ 22 rfl base 33 i0 _ 8 120 Tryd.underlying22 hi hz0 hz1 hz2 rfl (by decide) (.slice A r1.length c) r1.length (tmCells r1) (by simp [Act.eval]) (HV.out ▸ ((HTN.out.below hb5).o1.alloc _)) (some ⟨w4.heap.size, 0, none⟩) 1 1 (termCells x p') (by simp [Act.eval]) rfl (rd_new w4 (termCells x p') 33) (by intro u hu; simp [termCells] at hu; rcases hu with rfl | rfl | rfl | rfl | rfl | rfl | rfl | rfl <;> rfl) (by unfold maxLen; omega) (by omega) (by simp only [World.size_alloc]; have := hb5.size; have := hBn.size; omega) ?_; intro v' w5 hown5 hgrow5 hloc5; have c5 := (app_cell (off := 0) hgrow5 l4 hne1).trans c4; have g5 := (app_frozen (off := 0) hgrow5 l4 hne1).trans g4; obtain ⟨A5, d5, rfl⟩ := own_form hown5)
    | (rw [if_pos (by simp [Region.wanted])]; go_simp; go_at_call 32; refine (k32 _ (by exact hqn)).mono ?_; rintro e w4 ⟨p', rfl, hok, hb4⟩; simp only [termCells]; have hb5 : Below Wn.heap.size Wn w4 := ((Below.refl _ Wn).drew).trans hb4; have l4 : cb < w4.heap.size := Nat.lt_of_lt_of_le hczn hb5.size; have c4 := (hb4.cell (p := ⟨cb, 0, none⟩) hczn).trans c0; have g4 := (hb4.frozen (p := ⟨cb, 0, none⟩) hczn).trans g0; go_simp))
  all_goals
    have hpush := TreeOwn.pushTerm HTN.out x p' hb5 hok ((Below.refl w4.heap.size w4).alloc (Nat.le_refl _) (.cells (termCells x p').toArray 33)) (by simpa using hown5) (by rw [HV.out]; exact hgrow5) (by rw [HV.out]; exact hloc5)
    have HSP : Hid (Spared cb v1 w _) := Lib.hid (HV.out ▸ spared_of (cb := cb) (off := 0) (u := .slice A5 (r1.length + 1) d5) hBn hb5 hgrow5)
    have HP := Lib.hid hpush.1
    have HB := Lib.hid hpush.2
    clear hpush hok hown5 hgrow5 hloc5 hb4 hb5 c5 g5 c4 g4 k32 c0 g0 p0 p1 p2 p3 p4 p5 p6 p7
    go_wp2
    go_ret2
    exact ⟨⟨p', _, rfl, HP.out, fun B h1 h2 => (hBn.mono h2).trans (HB.out B h1 (Nat.le_trans h2 hBn.size))⟩, HSP.out⟩

set_option maxRecDepth 100000 in
set_option maxHeartbeats 8000000 in
theorem type_any2 (base cb : Nat) {v1 v2 v3 : Value} {r1 : List (TermD × Ptr3)} {r2 : List (TypD × Ptr2)} {r3 : List AliD} (x : TypD) (q : Ptr2) (w : World) (hT : TreeOwn w base cb 66 v1 v2 v3 r1 r2 r3) (hl : r2.length < 65536) (hq : TypOk (Lt w.heap.size) w x q) (f1 : x.names.length ≤ 65536) (f2 : x.kids.length ≤ 65536) :
    Calls Tryd.prog 15 #[.pointer (some ⟨cb, 0, none⟩), .agg (typCells x q).toArray] w (fun e w' => PutTypePost base cb v1 v2 v3 r1 r2 r3 x w e w' ∧ Spared cb v2 w w') := by
  obtain ⟨i0, hi, hz0, hz1, hz2⟩ := info_parts info47
  obtain ⟨A, c, hv⟩ := own_form hT.o2
  have hbs := hT.bas
  have h65 : ((r2.length : Int) == 65536) = false := by rw [beq_eq_false_iff_ne]; omega
  obtain ⟨Wn, hWn⟩ : ∃ Wn, w.alloc (.cells (typCells x q).toArray 47) = Wn := ⟨_, rfl⟩
  have hBn : Below w.heap.size w Wn := by rw [← hWn]; exact (Below.refl _ _).alloc (Nat.le_refl _) _
  have hXn : Blk Wn w.heap.size 47 (typCells x q).toArray := by rw [← hWn]; exact Blk.new w 47 _
  have hTn := hT.below hBn
  have c0 := hTn.blk.cell 1
  have hcb := hTn.blk.lt
  simp only [List.getElem?_toArray, List.getElem?_cons_succ, List.getElem?_cons_zero] at c0
  rw [hv] at c0
  unfold typCells at *
  have HT := Lib.hid hT
  have HV := Lib.hid hv
  have HBN := Lib.hid hBn
  have HXN := Lib.hid hXn
  have HTN := Lib.hid hTn
  have HQ := Lib.hid hq
  clear hT hv hBn hXn hTn hq
  go_enter Tryd.func15, Tryd.ntmps15
  go_wp2_with fail
  have hBn := HBN.out
  have hXn := HXN.out
  have hTn := HTN.out
  clear hWn
  have hzn := hXn.lt
  have k32 := fun W (hW : TypOk (Lt W.heap.size) W x q) => cloneType_any x q W hW f1 f2
  have g0 := hTn.blk.frozen 1
  have p0 := hXn.cell 0
  have p1 := hXn.cell 1
  have p2 := hXn.cell 2
  have p3 := hXn.cell 3
  have p4 := hXn.cell 4
  have p5 := hXn.cell 5
  simp only [List.getElem?_toArray, List.getElem?_cons_zero, List.getElem?_cons_succ] at p0 p1 p2 p3 p4 p5
  have hqn : TypOk (Lt Wn.heap.size) Wn x q := (HQ.out.keep (keep_below hBn)).imp (lt_mono hBn.size)
  unfold typCells at k32
  have hczn : cb < Wn.heap.size := hTn.blk.lt
  clear hTn hXn
  have hne1 : v2.ownBlock ≠ some cb := own_blk_ne HT.out.o2 HT.out.blk (by decide)
  rw [HV.out] at hne1
  go_region_law (first
    | (refine step_app _ rfl _ _ 23 rfl base 47 i0 _ 6 88 Tryd.underlying23 hi hz0 hz1 hz2 rfl (by decide) (.slice A r2.length c) r2.length (tyCells r2) (by simp [Act.eval]) (HV.out ▸ ((HTN.out.below hb5).o2.alloc _)) (some ⟨w4.heap.size, 0, none⟩) 1 1 (typCells x p') (by simp [Act.eval]) rfl (rd_new w4 (typCells x p') 47) (by intro u hu; simp [typCells] at hu; rcases hu with rfl | rfl | rfl | rfl | rfl | rfl <;> rfl) (by unfold maxLen; omega) (by omega) (by simp only [World.size_alloc]; have := hb5.size; have := hBn.size; omega) ?_; intro v' w5 hown5 hgrow5 hloc5; have c5 := (app_cell (off := 1) hgrow5 l4 hne1).trans c4; have g5 := (app_frozen (off := 1) hgrow5 l4 hne1).trans g4; obtain ⟨A5, d5, rfl⟩ := own_form hown5)
    | (rw [if_pos (by simp [Region.wanted])]; go_simp; go_at_call 31; refine (k32 _ (by exact hqn)).mono ?_; rintro e w4 ⟨p', rfl, hok, hb4⟩; simp only [typCells]; have hb5 : Below Wn.heap.size Wn w4 := ((Below.refl _ Wn).drew).trans hb4; have l4 : cb < w4.heap.size := Nat.lt_of_lt_of_le hczn hb5.size; have c4 := (hb4.cell (p := ⟨cb, 1, none⟩) hczn).trans c0; have g4 := (hb4.frozen (p := ⟨cb, 1, none⟩) hczn).trans g0; go_simp))
  all_goals
    have hpush := TreeOwn.pushType HTN.out x p' hb5 hok ((Below.refl w4.heap.size w4).alloc (Nat.le_refl _) (.cells (typCells x p').toArray 47)) (by simpa using hown5) (by rw [HV.out]; exact hgrow5) (by rw [HV.out]; exact hloc5)
    have HSP : Hid (Spared cb v2 w _) := Lib.hid (HV.out ▸ spared_of (cb := cb) (off := 1) (u := .slice A5 (r2.length + 1) d5) hBn hb5 hgrow5)
    have HP := Lib.hid hpush.1
    have HB := Lib.hid hpush.2
    clear hpush hok hown5 hgrow5 hloc5 hb4 hb5 c5 g5 c4 g4 k32 c0 g0 p0 p1 p2 p3 p4 p5
    go_wp2
    go_ret2
    exact ⟨⟨p', _, rfl, HP.out, fun B h1 h2 => (hBn.mono h2).trans (HB.out B h1 (Nat.le_trans h2 hBn.size))⟩, HSP.out⟩

set_option maxRecDepth 100000 in
set_option maxHeartbeats 4000000 in
theorem alias_any2 (base cb : Nat) {v1 v2 v3 : Value} {r1 : List (TermD × Ptr3)} {r2 : List (TypD × Ptr2)} {r3 : List AliD} (x : AliD) (w : World) (hT : TreeOwn w base cb 66 v1 v2 v3 r1 r2 r3) (hl : r3.length < 65536) (hbz : base ≤ w.heap.size) :
    Calls Tryd.prog 17 #[.pointer (some ⟨cb, 0, none⟩), .agg (aliCells x).toArray] w (fun e w' => AliasPost base cb v1 v2 v3 r1 r2 r3 x w e w' ∧ Spared cb v3 w w') := by
  obtain ⟨i0, hi, hz0, hz1, hz2⟩ := info_parts info52
  obtain ⟨A, c, hv⟩ := own_form hT.o3
  have hbs := hT.bas
  obtain ⟨Wn, hWn⟩ : ∃ Wn, w.alloc (.cells (aliCells x).toArray 52) = Wn := ⟨_, rfl⟩
  have hBn : Below w.heap.size w Wn := by rw [← hWn]; exact (Below.refl _ _).alloc (Nat.le_refl _) _
  have hXn : Blk Wn w.heap.size 52 (aliCells x).toArray := by rw [← hWn]; exact Blk.new w 52 _
  have hTn := hT.below hBn
  have c0 := hTn.blk.cell 2
  have g0 := hTn.blk.frozen 2
  have hcb := hTn.blk.lt
  have p0 := hXn.cell 0
  have p1 := hXn.cell 1
  have p2 := hXn.cell 2
  unfold aliCells at p0 p1 p2
  simp only [List.getElem?_toArray, List.getElem?_cons_succ, List.getElem?_cons_zero] at c0 p0 p1 p2
  rw [hv] at c0
  have hzn := hXn.lt
  have hne1 : v3.ownBlock ≠ some cb := own_blk_ne hT.o3 hT.blk (by decide)
  rw [hv] at hne1
  have HT := Lib.hid hT
  have HV := Lib.hid hv
  have HBN := Lib.hid hBn
  have HTN := Lib.hid hTn
  have hzz : Wn.heap.size = w.heap.size + 1 := by rw [← hWn]; simp
  have HZ := Lib.hid hzz
  have HO : Hid (∀ o, (Wn.alloc o).drew.ownsRow base 52 3 (.slice A r3.length c) r3.length (alCells r3)) := Lib.hid fun o => own_drew (by rw [← hv]; exact hTn.o3.alloc o)
  unfold aliCells at hWn ⊢
  clear hT hv hBn hXn hTn hzz
  go_enter Tryd.func17, Tryd.ntmps17
  go_wp2_with fail
  clear hWn
  go_region_law ((refine step_app _ rfl _ _ 24 rfl base 52 i0 _ 3 32 Tryd.underlying24 hi hz0 hz1 hz2 rfl (by decide) (.slice A r3.length c) r3.length (alCells r3) (by simp [Act.eval]) (HO.out _) (some ⟨Wn.heap.size, 0, none⟩) 1 1 (aliCells x) (by simp [Act.eval]) rfl (rd_drew (rd_new Wn (aliCells x) 52)) (by intro u hu; simp [aliCells] at hu; rcases hu with rfl | rfl | rfl <;> rfl) (by unfold maxLen; omega) (by omega) (by first | (simp; done) | (simp; omega)) ?_; intro v' w5 hown5 hgrow0 hloc5; have hgrow5 := grown_undrew hgrow0; clear hgrow0; have c5 := (app_cell (off := 2) hgrow5 hcb hne1).trans c0; have g5 := (app_frozen (off := 2) hgrow5 hcb hne1).trans g0; obtain ⟨A5, d5, rfl⟩ := own_form hown5))
  all_goals
    have hpush := TreeOwn.pushAlias HTN.out x (Below.refl Wn.heap.size Wn) ((Below.refl Wn.heap.size Wn).alloc (Nat.le_refl _) (.cells (aliCells x).toArray 52)) (by simpa [alCells] using hown5) (by rw [HV.out]; exact hgrow5) (by rw [HV.out]; exact hloc5)
    have HSP : Hid (Spared cb v3 w _) := Lib.hid (HV.out ▸ spared_of (cb := cb) (off := 2) (u := .slice A5 (r3.length + 1) d5) HBN.out (Below.refl _ Wn) hgrow5)
    have HP := Lib.hid hpush.1
    have HB := Lib.hid hpush.2
    clear hpush hown5 hgrow5 hloc5 c5 g5 c0 g0 p0 p1 p2
    go_wp2
    go_end0
    exact ⟨⟨⟨_, rfl⟩, _, HP.out, fun B h1 h2 => (HBN.out.mono h2).trans (HB.out B h1 (by have := HZ.out; omega))⟩, HSP.out⟩
end Go.Proofs.YtinajnkjfhbmkaaDoor
