/- A Builder's aliases; a Builder that isn't there. -/
import Derived.Test.YtinajnkjfhbmkaaDoorBuilder
namespace Go.Proofs.YtinajnkjfhbmkaaDoor
open Go Go.Proofs Go.RowKit

theorem rd_drew {w : World} {A : Option Addr} {xs : List Value} (h : RdAt w A xs) : RdAt w.drew A xs := h
theorem own_drew {w : World} {base : Nat} {e : TypeId} {size : Nat} {v : Value} {n : Nat} {xs : List Value} (h : w.ownsRow base e size v n xs) : w.drew.ownsRow base e size v n xs := h

theorem grown_undrew {w w' : World} {row : Option Nat} (h : w.drew.grownBy w' row) : w.grownBy w' row := ⟨h.os, h.tape, h.output, h.size, h.block⟩

theorem tree_nil (w : World) : Calls Tryd.prog 18 #[.pointer none] w fun e w' => e = .returned (.agg #[.slice none 0 0, .slice none 0 0, .slice none 0 0]) ∧ Below w.heap.size w w' := by
  go_enter Tryd.func18, Tryd.ntmps18
  go_wp2
  exact bodyPost_ret (v := .agg #[.slice none 0 0, .slice none 0 0, .slice none 0 0]) (by simp [results, Tryd.results18, go_sem]) rfl ⟨rfl, (Below.refl _ _).alloc (Nat.le_refl _) _⟩

theorem alias_nil (x : AliD) (w : World) : Calls Tryd.prog 17 #[.pointer none, .agg (aliCells x).toArray] w fun e w' => (∃ u, e = .returned u) ∧ Below w.heap.size w w' := by
  unfold aliCells
  go_enter Tryd.func17, Tryd.ntmps17
  go_wp2
  go_end0
  exact ⟨⟨_, rfl⟩, (Below.refl _ _).alloc (Nat.le_refl _) _⟩

set_option maxRecDepth 100000 in
set_option maxHeartbeats 4000000 in
theorem alias_any (base cb : Nat) {v1 v2 v3 : Value} {r1 : List (TermD × Ptr3)} {r2 : List (TypD × Ptr2)} {r3 : List AliD} (x : AliD) (w : World) (hT : TreeOwn w base cb 66 v1 v2 v3 r1 r2 r3) (hl : r3.length < 65536) (hbz : base ≤ w.heap.size) :
    Calls Tryd.prog 17 #[.pointer (some ⟨cb, 0, none⟩), .agg (aliCells x).toArray] w (AliasPost base cb v1 v2 v3 r1 r2 r3 x w) := by
  obtain ⟨i0, hi, hz0, hz1, hz2⟩ := info_parts info52
  obtain ⟨A, c, hv⟩ := own_form hT.o3
  have hbs := hT.bas
  obtain ⟨Wn, hWn⟩ : ∃ Wn, w.alloc (.cells (aliCells x).toArray 52) = Wn := ⟨_, rfl⟩
  have hBn : Below w.heap.size w Wn := by rw [← hWn]; exact (Below.refl _ _).alloc (Nat.le_refl _) _
  have hXn : Blk Wn w.heap.size 52 (aliCells x).toArray := by rw [← hWn]; exact Blk.new w 52 _
  have hTn := hT.below hBn
  have c0 := hTn.blk.cell 2
  have g0 := hTn.blk.frozen 2
  have hcb := hTn.blk.lt
  have p0 := hXn.cell 0
  have p1 := hXn.cell 1
  have p2 := hXn.cell 2
  unfold aliCells at p0 p1 p2
  simp only [List.getElem?_toArray, List.getElem?_cons_succ, List.getElem?_cons_zero] at c0 p0 p1 p2
  rw [hv] at c0
  have hzn := hXn.lt
  have hne1 : v3.ownBlock ≠ some cb := own_blk_ne hT.o3 hT.blk (by decide)
  rw [hv] at hne1
  have HT := Lib.hid hT
  have HV := Lib.hid hv
  have HBN := Lib.hid hBn
  have HTN := Lib.hid hTn
  have hzz : Wn.heap.size = w.heap.size + 1 := by rw [← hWn]; simp
  have HZ := Lib.hid hzz
  have HO : Hid (∀ o, (Wn.alloc o).drew.ownsRow base 52 3 (.slice A r3.length c) r3.length (alCells r3)) := Lib.hid fun o => own_drew (by rw [← hv]; exact hTn.o3.alloc o)
  unfold aliCells at hWn ⊢
  clear hT hv hBn hXn hTn hzz
  go_enter Tryd.func17, Tryd.ntmps17
  go_wp2_with fail
  clear hWn
  go_region_law ((refine step_app _ rfl _ _ 24 rfl base 52 i0 _ 3 32 Tryd.underlying24 hi hz0 hz1 hz2 rfl (by decide) (.slice A r3.length c) r3.length (alCells r3) (by simp [Act.eval]) (HO.out _) (some ⟨Wn.heap.size, 0, none⟩) 1 1 (aliCells x) (by simp [Act.eval]) rfl (rd_drew (rd_new Wn (aliCells x) 52)) (by intro u hu; simp [aliCells] at hu; rcases hu with rfl | rfl | rfl <;> rfl) (by unfold maxLen; omega) (by omega) (by first | (simp; done) | (simp; omega)) ?_; intro v' w5 hown5 hgrow0 hloc5; have hgrow5 := grown_undrew hgrow0; clear hgrow0; have c5 := (app_cell (off := 2) hgrow5 hcb hne1).trans c0; have g5 := (app_frozen (off := 2) hgrow5 hcb hne1).trans g0; obtain ⟨A5, d5, rfl⟩ := own_form hown5))
  all_goals
    have hpush := TreeOwn.pushAlias HTN.out x (Below.refl Wn.heap.size Wn) ((Below.refl Wn.heap.size Wn).alloc (Nat.le_refl _) (.cells (aliCells x).toArray 52)) (by simpa [alCells] using hown5) (by rw [HV.out]; exact hgrow5) (by rw [HV.out]; exact hloc5)
    have HP := Lib.hid hpush.1
    have HB := Lib.hid hpush.2
    clear hpush hown5 hgrow5 hloc5 c5 g5 c0 g0 p0 p1 p2
    go_wp2
    go_end0
    exact ⟨⟨_, rfl⟩, _, HP.out, fun B h1 h2 => (HBN.out.mono h2).trans (HB.out B h1 (by have := HZ.out; omega))⟩
end Go.Proofs.YtinajnkjfhbmkaaDoor
