/- Rules that read applications, and rows of signs. -/
import Derived.Test.YtjbdgjbmbohfmaaGreatDoorK17
namespace Go.Proofs.YtjbdgjbmbohfmaaGreatDoor
open Go Go.Proofs Go.RowKit
set_option maxRecDepth 100000 in
set_option maxHeartbeats 8000000 in
theorem apply_any {ts : List Tk} (hT : TsOk ts) : Rule ts 306 (applyM ts) := by
 intro B w s i s' hBts h hk hM
 refine ⟨(apply_prog hT _ _ _ hk hM).2, ?_⟩
 unfold applyM at hM
 obtain ⟨i0, s0, hA, hL⟩ := PR.bind_ok hM
 obtain ⟨hk0, cA⟩ := unit_any hT B w s i0 s0 hBts h hk hA
 have HL := Lib.hid hL
 have HB := Lib.hid hBts
 clear hL hM hA h
 go_enter Tryz.func306, Tryz.ntmps306
 go_wp2_with fail
 with_reducible refine cA.mono ?_
 rintro e w1 ⟨rfl, a1⟩
 have A1 := Lib.hid a1
 clear a1 cA
 go_wp2_with fail
 go_loopw [3] (fun l wr => ∃ (i1 : Nat) (s1 : St) (f : Nat), l = .int .i64 (i1 : Int) ∧ Hid (Aft B w s1 wr) ∧ Hid (s1.k < ts.length) ∧ Hid (applyL ts f i1 s1 = .ok i s')) (fun _ wr => ts.length - kAt B wr)
 case atStart => exact ⟨i0, s0, _, rfl, A1, Lib.hid hk0, HL⟩
 case round =>
  obtain ⟨i1, s1, f, rfl, HA, HK, HP⟩ := hrel
  have hK := HK.out
  have hP := HP.out
  have hkA := HA.out.ps.kAt
  cases f with
  | zero => cases hP
  | succ f =>
   unfold applyL at hP
   have cS : ∀ W, PS B W s1 → Calls Tryz.prog 316 #[B.ptr] W fun e w' => e = .returned (.bool (unitB (tkA ts s1.k))) ∧ Below W.heap.size W w' := fun W p => by
    have := unitStands_any p (by rw [HB.out]; exact hK)
    rwa [HB.out] at this
   by_cases hs : unitB (tkA ts s1.k) = true
   ·rw [if_pos hs] at hP
    rw [hs] at cS
    obtain ⟨i2, s2, e1, e2⟩ := PR.bind_ok hP
    obtain ⟨i3, s3, e3, e4⟩ := PR.bind_ok e2
    obtain ⟨hl, rfl, rfl⟩ := newT_ok e3
    have hpr := unit_prog hT _ _ _ hK e1
    have cN0 : ∀ W, PS B W s1 → Calls Tryz.prog 149 #[B.ptr] W fun e w' => e = .returned (tokV (tkA ts s1.k)) ∧ Below W.heap.size W w' := fun W p => by
     have := now_any p (by rw [HB.out]; exact hK)
     rwa [HB.out] at this
    have cU := fun (W : World) (p : PS B W s1) => (unit_any hT B W s1 i2 s2 HB.out p hK e1).2
    have cN := fun W (p : PS B W s2) => newK2 p hl 6 ((tkA ts s1.k).2.2 : Nat) (i1 : Int) (i2 : Int) (bs [])
    have hfd := tokF2
    have E2 := Lib.hid e4
    have K2 := Lib.hid hpr
    clear hP e1 e2 e3 e4 hs hK hpr
    unfold bs at cN
    generalize tkA ts s1.k = t at *
    go_wp2_with fail
    with_reducible refine (cS wr HA.out.ps).mono ?_
    rintro e w2 ⟨rfl, hb2⟩
    have a2 := HA.out.below hb2
    go_wp2_with fail
    with_reducible refine (cN0 w2 a2.ps).mono ?_
    rintro e w3 ⟨rfl, hb3⟩
    have a3 := a2.below hb3
    go_wp2_with fail
    with_reducible refine (cU w3 a3.ps).mono ?_
    rintro e w4 ⟨rfl, a4⟩
    go_wp2_with fail
    with_reducible refine (cN w4 a4.ps).mono ?_
    rintro e w5 ⟨rfl, a5⟩
    have A5 := Lib.hid ((a3.trans a4).trans a5)
    clear a2 a3 a4 a5 hb2 hb3 cS cN0 cU cN
    go_wp2_with fail
    exact ⟨⟨_, _, f, rfl, A5, Lib.hid K2.out.2, E2⟩, by
     have q := K2.out
     rw [A5.out.ps.kAt, hkA]
     show ts.length - s2.k < ts.length - s1.k
     omega⟩
   ·rw [if_neg hs] at hP
    have hs2 : unitB (tkA ts s1.k) = false := by simpa using hs
    rw [hs2] at cS
    injection hP with e1 e2
    subst e1
    subst e2
    clear hs hs2
    go_wp2_with fail
    with_reducible refine (cS wr HA.out.ps).mono ?_
    rintro e w2 ⟨rfl, hb2⟩
    have A2 := Lib.hid (HA.out.below hb2)
    clear cS hb2
    go_wp2_with fail
    go_ret
    exact ⟨rfl, A2.out⟩

set_option maxRecDepth 100000 in
set_option maxHeartbeats 8000000 in
theorem op_any {ts : List Tk} (hT : TsOk ts) (fk : FuncId) (hfk : fk = 225 ∨ fk = 265 ∨ fk = 290 ∨ fk = 306) (P : St → PR) (hP : Rule ts fk P) {B : PE} {w : World} {s : St} {left i : Nat} {s' : St} (hBts : B.ts = ts) (h : PS B w s) (hk : s.k < ts.length) (h0 : (tkA ts s.k).1 ≠ 0) (hM : opM ts P left s = .ok i s') :
 Calls Tryz.prog 226 #[B.ptr, .int .i64 (left : Int), .func (.func fk) #[B.ptr] #[]] w fun e w' => e = .returned (.int .i64 (i : Nat)) ∧ Aft B w s' w' := by
 unfold opM at hM
 obtain ⟨i1, s1, e1, e2⟩ := PR.bind_ok hM
 obtain ⟨hl, rfl, rfl⟩ := newT_ok e2
 have cX : Calls Tryz.prog 96 #[B.ptr] w fun e w' => e = .returned (tokV (tkA ts s.k)) ∧ Aft B w (s.on 1) w' := by
  have := next_any h (by rw [hBts]; exact hk)
  rwa [hBts] at this
 have cU := fun (W : World) (p : PS B W (s.on 1)) => (hP B W (s.on 1) i1 s1 hBts p (hT.step hk h0) e1).2
 have cN := fun W (p : PS B W s1) => newK2 p hl 14 ((tkA ts s.k).2.2 : Nat) (left : Int) (i1 : Int) (bs (tkA ts s.k).2.1)
 clear hM e1 e2 h0 h hk hP
 generalize tkA ts s.k = t at *
 go_enter Tryz.func226, Tryz.ntmps226
 go_wp2_with fail
 with_reducible refine cX.mono ?_
 rintro e w1 ⟨rfl, a1⟩
 obtain ⟨W2, hW2⟩ : ∃ W2, w1.alloc (.cells (tokL t).toArray 94) = W2 := ⟨_, rfl⟩
 have hB2 : Below w1.heap.size w1 W2 := by rw [← hW2]; exact (Below.refl _ _).alloc (Nat.le_refl _) _
 have hX2 : Blk W2 w1.heap.size 94 (tokL t).toArray := by rw [← hW2]; exact Blk.new w1 94 _
 have d1 := hX2.cell 1
 have d2 := hX2.cell 2
 simp only [List.getElem?_toArray, List.getElem?_cons_zero, List.getElem?_cons_succ] at d1 d2
 have A2 := Lib.hid (a1.below hB2)
 have A1 := Lib.hid a1
 have HX2 := Lib.hid hX2
 have HB2 := Lib.hid hB2
 clear a1 hX2 hB2 cX
 have m2 : ¬ Mu B W2 w1.heap.size := A1.out.ps.fresh HB2.out (Nat.le_refl _)
 have hx2 := HX2.out.lt
 go_wp2_with fail
 rcases hfk with rfl | rfl | rfl | rfl
 ·refine wp_region_noPanic ?_
  refine wp_region_held_drew (S := fun W => W.cell? ⟨w1.heap.size, 1, none⟩ = some (.string (bs t.2.1)) ∧ W.cell? ⟨w1.heap.size, 2, none⟩ = some (.int .i64 (t.2.2 : Int))) (by kernel_rfl) (⟨d1, d2⟩) (fun hHeld => ?_)
  refine wpAnyH_take (i := 0) (v := ?voa1) (by simp only [List.getElem?_toArray, List.getElem?_cons_zero]; rfl) (by kernel_rfl) (by kernel_rfl) (by kernel_rfl) (fun _ _ _ h => h) (Or.inl ⟨by rfl, ?hyoa1⟩) (by assumption) ?restoa1
  case hyoa1 => (intro w hSw; (try dsimp only at hSw); go_simp; try with_reducible rfl)
  try simp only [Act.put, List.setIfInBounds_toArray, List.set_cons_zero, List.set_cons_succ]
  refine wpAnyH_take (i := 1) (v := ?voa2) (by simp only [List.getElem?_toArray, List.getElem?_cons_zero, List.getElem?_cons_succ]; rfl) (by kernel_rfl) (by kernel_rfl) (by kernel_rfl) (fun _ _ _ h => h) (Or.inl ⟨by rfl, ?hyoa2⟩) (by assumption) ?restoa2
  case hyoa2 => (intro w hSw; (try dsimp only at hSw); go_simp; try with_reducible rfl)
  try simp only [Act.put, List.setIfInBounds_toArray, List.set_cons_zero, List.set_cons_succ]
  refine wpAnyH_take (i := 2) (v := ?voa3) (by simp only [List.getElem?_toArray, List.getElem?_cons_zero, List.getElem?_cons_succ]; rfl) (by kernel_rfl) (by kernel_rfl) (by kernel_rfl) (fun _ _ _ h => h) (Or.inl ⟨by rfl, ?hyoa3⟩) (by assumption) ?restoa3
  case hyoa3 => (intro w hSw; (try dsimp only at hSw); go_simp; try with_reducible rfl)
  try simp only [Act.put, List.setIfInBounds_toArray, List.set_cons_zero, List.set_cons_succ]
  refine wpAnyH_take (i := 3) (v := ?voa4) (by simp only [List.getElem?_toArray, List.getElem?_cons_zero, List.getElem?_cons_succ]; rfl) (by kernel_rfl) (by kernel_rfl) (by kernel_rfl) (fun _ _ _ h => h) (Or.inl ⟨by rfl, ?hyoa4⟩) (by assumption) ?restoa4
  case hyoa4 => (intro w hSw; (try dsimp only at hSw); go_simp; try with_reducible rfl)
  try simp only [Act.put, List.setIfInBounds_toArray, List.set_cons_zero, List.set_cons_succ]
  refine wpAnyH_take (i := 4) (v := ?voa5) (by simp only [List.getElem?_toArray, List.getElem?_cons_zero, List.getElem?_cons_succ]; rfl) (by kernel_rfl) (by kernel_rfl) (by kernel_rfl) (fun _ _ _ h => h) (Or.inl ⟨by rfl, ?hyoa5⟩) (by assumption) ?restoa5
  case hyoa5 => (intro w hSw; (try dsimp only at hSw); go_simp; try with_reducible rfl)
  try simp only [Act.put, List.setIfInBounds_toArray, List.set_cons_zero, List.set_cons_succ]
  refine wpAnyH_take (i := 5) (v := ?voa6) (by simp only [List.getElem?_toArray, List.getElem?_cons_zero, List.getElem?_cons_succ]; rfl) (by kernel_rfl) (by kernel_rfl) (by kernel_rfl) (fun _ _ _ h => h) (Or.inl ⟨by rfl, ?hyoa6⟩) (by assumption) ?restoa6
  case hyoa6 => (intro w hSw; (try dsimp only at hSw); go_simp; try with_reducible rfl)
  try simp only [Act.put, List.setIfInBounds_toArray, List.set_cons_zero, List.set_cons_succ]
  refine wpAnyH_take (i := 6) (v := ?voa7) (by simp only [List.getElem?_toArray, List.getElem?_cons_zero, List.getElem?_cons_succ]; rfl) (by kernel_rfl) (by kernel_rfl) (by kernel_rfl) (fun _ _ _ h => h) (Or.inl ⟨by rfl, ?hyoa7⟩) (by assumption) ?restoa7
  case hyoa7 => (intro w hSw; (try dsimp only at hSw); go_simp; try with_reducible rfl)
  try simp only [Act.put, List.setIfInBounds_toArray, List.set_cons_zero, List.set_cons_succ]
  refine wpAnyH_ready (rs := [7]) (by kernel_rfl) (by simp) ?_
  refine AllReadyH.cons (by simp only [List.getElem?_toArray, List.getElem?_cons_zero, List.getElem?_cons_succ]; rfl) (fun K hK => ?stepoa8) AllReadyH.nil
  go_simp; refine (cU _ (by exact A2.out.ps.below (Below.refl _ _).drew)).mono ?_; rintro e w3 ⟨rfl, a3⟩; have d3 : w3.heap[w1.heap.size]? = W2.heap[w1.heap.size]? := a3.kt.block (w := W2.drew) hx2 m2; have f1 := (World.cell?_of_block (a := ⟨w1.heap.size, 1, none⟩) d3).trans d1; have f2 := (World.cell?_of_block (a := ⟨w1.heap.size, 2, none⟩) d3).trans d2; have l3 : w1.heap.size < w3.heap.size := Nat.lt_of_lt_of_le hx2 a3.kt.1
  go_wp2_with fail
  refine hK.out _ _ ?hSoa8 (fun hHeld => ?_)
  case hSoa8 => exact ⟨f1, f2⟩
  clear hK K
  try simp only [Act.put, List.setIfInBounds_toArray, List.set_cons_zero, List.set_cons_succ]
  refine wpAnyH_ready (rs := [8]) (by kernel_rfl) (by simp) ?_
  refine AllReadyH.cons (by simp only [List.getElem?_toArray, List.getElem?_cons_zero, List.getElem?_cons_succ]; rfl) (fun K hK => ?stepoa9) AllReadyH.nil
  go_simp
  refine hK.out _ _ ?hSoa9 (fun hHeld => ?_)
  case hSoa9 => exact ⟨(((Below.refl _ w3).alloc (Nat.le_refl _) _).cell (p := ⟨w1.heap.size, 1, none⟩) l3).trans f1, (((Below.refl _ w3).alloc (Nat.le_refl _) _).cell (p := ⟨w1.heap.size, 2, none⟩) l3).trans f2⟩
  clear hK K
  try simp only [Act.put, List.setIfInBounds_toArray, List.set_cons_zero, List.set_cons_succ]
  refine wpAnyH_take (i := 9) (v := ?voa10) (by simp only [List.getElem?_toArray, List.getElem?_cons_zero, List.getElem?_cons_succ]; rfl) (by kernel_rfl) (by kernel_rfl) (by kernel_rfl) (fun _ _ _ h => h) (Or.inl ⟨by rfl, ?hyoa10⟩) (by assumption) ?restoa10
  case hyoa10 => (intro w hSw; (try dsimp only at hSw); go_simp; try with_reducible rfl)
  try simp only [Act.put, List.setIfInBounds_toArray, List.set_cons_zero, List.set_cons_succ]
  refine wpAnyH_ready (rs := [10]) (by kernel_rfl) (by simp) ?_
  refine AllReadyH.cons (by simp only [List.getElem?_toArray, List.getElem?_cons_zero, List.getElem?_cons_succ]; rfl) (fun K hK => ?stepoa11) AllReadyH.nil
  go_simp; go_at_call 224; refine (cN _ (by exact a3.ps)).mono ?_; rintro e w4 ⟨rfl, a4⟩; have d4 : w4.heap[w1.heap.size]? = w3.heap[w1.heap.size]? := a4.kt.block l3 (a3.kt.2 w1.heap.size hx2 m2).2; have g1 := (World.cell?_of_block (a := ⟨w1.heap.size, 1, none⟩) d4).trans f1; have g2 := (World.cell?_of_block (a := ⟨w1.heap.size, 2, none⟩) d4).trans f2
  go_wp2_with fail
  refine hK.out _ _ ?hSoa11 (fun hHeld => ?_)
  case hSoa11 => exact ⟨g1, g2⟩
  clear hK K
  try simp only [Act.put, List.setIfInBounds_toArray, List.set_cons_zero, List.set_cons_succ]
  refine wpAnyH_take (i := 11) (v := ?voa12) (by simp only [List.getElem?_toArray, List.getElem?_cons_zero, List.getElem?_cons_succ]; rfl) (by kernel_rfl) (by kernel_rfl) (by kernel_rfl) (fun _ _ _ h => h) (Or.inl ⟨by rfl, ?hyoa12⟩) (by assumption) ?restoa12
  case hyoa12 => (intro w hSw; (try dsimp only at hSw); go_simp; try with_reducible rfl)
  try simp only [Act.put, List.setIfInBounds_toArray, List.set_cons_zero, List.set_cons_succ]
  refine wpAnyH_done (by kernel_rfl) ?_ _
  refine NoPanic.normal ?_
  have A4 := Lib.hid (((A2.out.below ((Below.refl _ W2).drew)).trans a3).trans a4)
  clear a3 a4 d3 f1 f2 d4 g1 g2 cU cN
  go_wp2_with fail
  go_ret
  exact ⟨rfl, A4.out⟩
 ·refine wp_region_noPanic ?_
  refine wp_region_held_drew (S := fun W => W.cell? ⟨w1.heap.size, 1, none⟩ = some (.string (bs t.2.1)) ∧ W.cell? ⟨w1.heap.size, 2, none⟩ = some (.int .i64 (t.2.2 : Int))) (by kernel_rfl) (⟨d1, d2⟩) (fun hHeld => ?_)
  refine wpAnyH_take (i := 0) (v := ?vob1) (by simp only [List.getElem?_toArray, List.getElem?_cons_zero]; rfl) (by kernel_rfl) (by kernel_rfl) (by kernel_rfl) (fun _ _ _ h => h) (Or.inl ⟨by rfl, ?hyob1⟩) (by assumption) ?restob1
  case hyob1 => (intro w hSw; (try dsimp only at hSw); go_simp; try with_reducible rfl)
  try simp only [Act.put, List.setIfInBounds_toArray, List.set_cons_zero, List.set_cons_succ]
  refine wpAnyH_take (i := 1) (v := ?vob2) (by simp only [List.getElem?_toArray, List.getElem?_cons_zero, List.getElem?_cons_succ]; rfl) (by kernel_rfl) (by kernel_rfl) (by kernel_rfl) (fun _ _ _ h => h) (Or.inl ⟨by rfl, ?hyob2⟩) (by assumption) ?restob2
  case hyob2 => (intro w hSw; (try dsimp only at hSw); go_simp; try with_reducible rfl)
  try simp only [Act.put, List.setIfInBounds_toArray, List.set_cons_zero, List.set_cons_succ]
  refine wpAnyH_take (i := 2) (v := ?vob3) (by simp only [List.getElem?_toArray, List.getElem?_cons_zero, List.getElem?_cons_succ]; rfl) (by kernel_rfl) (by kernel_rfl) (by kernel_rfl) (fun _ _ _ h => h) (Or.inl ⟨by rfl, ?hyob3⟩) (by assumption) ?restob3
  case hyob3 => (intro w hSw; (try dsimp only at hSw); go_simp; try with_reducible rfl)
  try simp only [Act.put, List.setIfInBounds_toArray, List.set_cons_zero, List.set_cons_succ]
  refine wpAnyH_take (i := 3) (v := ?vob4) (by simp only [List.getElem?_toArray, List.getElem?_cons_zero, List.getElem?_cons_succ]; rfl) (by kernel_rfl) (by kernel_rfl) (by kernel_rfl) (fun _ _ _ h => h) (Or.inl ⟨by rfl, ?hyob4⟩) (by assumption) ?restob4
  case hyob4 => (intro w hSw; (try dsimp only at hSw); go_simp; try with_reducible rfl)
  try simp only [Act.put, List.setIfInBounds_toArray, List.set_cons_zero, List.set_cons_succ]
  refine wpAnyH_take (i := 4) (v := ?vob5) (by simp only [List.getElem?_toArray, List.getElem?_cons_zero, List.getElem?_cons_succ]; rfl) (by kernel_rfl) (by kernel_rfl) (by kernel_rfl) (fun _ _ _ h => h) (Or.inl ⟨by rfl, ?hyob5⟩) (by assumption) ?restob5
  case hyob5 => (intro w hSw; (try dsimp only at hSw); go_simp; try with_reducible rfl)
  try simp only [Act.put, List.setIfInBounds_toArray, List.set_cons_zero, List.set_cons_succ]
  refine wpAnyH_take (i := 5) (v := ?vob6) (by simp only [List.getElem?_toArray, List.getElem?_cons_zero, List.getElem?_cons_succ]; rfl) (by kernel_rfl) (by kernel_rfl) (by kernel_rfl) (fun _ _ _ h => h) (Or.inl ⟨by rfl, ?hyob6⟩) (by assumption) ?restob6
  case hyob6 => (intro w hSw; (try dsimp only at hSw); go_simp; try with_reducible rfl)
  try simp only [Act.put, List.setIfInBounds_toArray, List.set_cons_zero, List.set_cons_succ]
  refine wpAnyH_take (i := 6) (v := ?vob7) (by simp only [List.getElem?_toArray, List.getElem?_cons_zero, List.getElem?_cons_succ]; rfl) (by kernel_rfl) (by kernel_rfl) (by kernel_rfl) (fun _ _ _ h => h) (Or.inl ⟨by rfl, ?hyob7⟩) (by assumption) ?restob7
  case hyob7 => (intro w hSw; (try dsimp only at hSw); go_simp; try with_reducible rfl)
  try simp only [Act.put, List.setIfInBounds_toArray, List.set_cons_zero, List.set_cons_succ]
  refine wpAnyH_ready (rs := [7]) (by kernel_rfl) (by simp) ?_
  refine AllReadyH.cons (by simp only [List.getElem?_toArray, List.getElem?_cons_zero, List.getElem?_cons_succ]; rfl) (fun K hK => ?stepob8) AllReadyH.nil
  go_simp; refine (cU _ (by exact A2.out.ps.below (Below.refl _ _).drew)).mono ?_; rintro e w3 ⟨rfl, a3⟩; have d3 : w3.heap[w1.heap.size]? = W2.heap[w1.heap.size]? := a3.kt.block (w := W2.drew) hx2 m2; have f1 := (World.cell?_of_block (a := ⟨w1.heap.size, 1, none⟩) d3).trans d1; have f2 := (World.cell?_of_block (a := ⟨w1.heap.size, 2, none⟩) d3).trans d2; have l3 : w1.heap.size < w3.heap.size := Nat.lt_of_lt_of_le hx2 a3.kt.1
  go_wp2_with fail
  refine hK.out _ _ ?hSob8 (fun hHeld => ?_)
  case hSob8 => exact ⟨f1, f2⟩
  clear hK K
  try simp only [Act.put, List.setIfInBounds_toArray, List.set_cons_zero, List.set_cons_succ]
  refine wpAnyH_ready (rs := [8]) (by kernel_rfl) (by simp) ?_
  refine AllReadyH.cons (by simp only [List.getElem?_toArray, List.getElem?_cons_zero, List.getElem?_cons_succ]; rfl) (fun K hK => ?stepob9) AllReadyH.nil
  go_simp
  refine hK.out _ _ ?hSob9 (fun hHeld => ?_)
  case hSob9 => exact ⟨(((Below.refl _ w3).alloc (Nat.le_refl _) _).cell (p := ⟨w1.heap.size, 1, none⟩) l3).trans f1, (((Below.refl _ w3).alloc (Nat.le_refl _) _).cell (p := ⟨w1.heap.size, 2, none⟩) l3).trans f2⟩
  clear hK K
  try simp only [Act.put, List.setIfInBounds_toArray, List.set_cons_zero, List.set_cons_succ]
  refine wpAnyH_take (i := 9) (v := ?vob10) (by simp only [List.getElem?_toArray, List.getElem?_cons_zero, List.getElem?_cons_succ]; rfl) (by kernel_rfl) (by kernel_rfl) (by kernel_rfl) (fun _ _ _ h => h) (Or.inl ⟨by rfl, ?hyob10⟩) (by assumption) ?restob10
  case hyob10 => (intro w hSw; (try dsimp only at hSw); go_simp; try with_reducible rfl)
  try simp only [Act.put, List.setIfInBounds_toArray, List.set_cons_zero, List.set_cons_succ]
  refine wpAnyH_ready (rs := [10]) (by kernel_rfl) (by simp) ?_
  refine AllReadyH.cons (by simp only [List.getElem?_toArray, List.getElem?_cons_zero, List.getElem?_cons_succ]; rfl) (fun K hK => ?stepob11) AllReadyH.nil
  go_simp; go_at_call 224; refine (cN _ (by exact a3.ps)).mono ?_; rintro e w4 ⟨rfl, a4⟩; have d4 : w4.heap[w1.heap.size]? = w3.heap[w1.heap.size]? := a4.kt.block l3 (a3.kt.2 w1.heap.size hx2 m2).2; have g1 := (World.cell?_of_block (a := ⟨w1.heap.size, 1, none⟩) d4).trans f1; have g2 := (World.cell?_of_block (a := ⟨w1.heap.size, 2, none⟩) d4).trans f2
  go_wp2_with fail
  refine hK.out _ _ ?hSob11 (fun hHeld => ?_)
  case hSob11 => exact ⟨g1, g2⟩
  clear hK K
  try simp only [Act.put, List.setIfInBounds_toArray, List.set_cons_zero, List.set_cons_succ]
  refine wpAnyH_take (i := 11) (v := ?vob12) (by simp only [List.getElem?_toArray, List.getElem?_cons_zero, List.getElem?_cons_succ]; rfl) (by kernel_rfl) (by kernel_rfl) (by kernel_rfl) (fun _ _ _ h => h) (Or.inl ⟨by rfl, ?hyob12⟩) (by assumption) ?restob12
  case hyob12 => (intro w hSw; (try dsimp only at hSw); go_simp; try with_reducible rfl)
  try simp only [Act.put, List.setIfInBounds_toArray, List.set_cons_zero, List.set_cons_succ]
  refine wpAnyH_done (by kernel_rfl) ?_ _
  refine NoPanic.normal ?_
  have A4 := Lib.hid (((A2.out.below ((Below.refl _ W2).drew)).trans a3).trans a4)
  clear a3 a4 d3 f1 f2 d4 g1 g2 cU cN
  go_wp2_with fail
  go_ret
  exact ⟨rfl, A4.out⟩
 ·refine wp_region_noPanic ?_
  refine wp_region_held_drew (S := fun W => W.cell? ⟨w1.heap.size, 1, none⟩ = some (.string (bs t.2.1)) ∧ W.cell? ⟨w1.heap.size, 2, none⟩ = some (.int .i64 (t.2.2 : Int))) (by kernel_rfl) (⟨d1, d2⟩) (fun hHeld => ?_)
  refine wpAnyH_take (i := 0) (v := ?voc1) (by simp only [List.getElem?_toArray, List.getElem?_cons_zero]; rfl) (by kernel_rfl) (by kernel_rfl) (by kernel_rfl) (fun _ _ _ h => h) (Or.inl ⟨by rfl, ?hyoc1⟩) (by assumption) ?restoc1
  case hyoc1 => (intro w hSw; (try dsimp only at hSw); go_simp; try with_reducible rfl)
  try simp only [Act.put, List.setIfInBounds_toArray, List.set_cons_zero, List.set_cons_succ]
  refine wpAnyH_take (i := 1) (v := ?voc2) (by simp only [List.getElem?_toArray, List.getElem?_cons_zero, List.getElem?_cons_succ]; rfl) (by kernel_rfl) (by kernel_rfl) (by kernel_rfl) (fun _ _ _ h => h) (Or.inl ⟨by rfl, ?hyoc2⟩) (by assumption) ?restoc2
  case hyoc2 => (intro w hSw; (try dsimp only at hSw); go_simp; try with_reducible rfl)
  try simp only [Act.put, List.setIfInBounds_toArray, List.set_cons_zero, List.set_cons_succ]
  refine wpAnyH_take (i := 2) (v := ?voc3) (by simp only [List.getElem?_toArray, List.getElem?_cons_zero, List.getElem?_cons_succ]; rfl) (by kernel_rfl) (by kernel_rfl) (by kernel_rfl) (fun _ _ _ h => h) (Or.inl ⟨by rfl, ?hyoc3⟩) (by assumption) ?restoc3
  case hyoc3 => (intro w hSw; (try dsimp only at hSw); go_simp; try with_reducible rfl)
  try simp only [Act.put, List.setIfInBounds_toArray, List.set_cons_zero, List.set_cons_succ]
  refine wpAnyH_take (i := 3) (v := ?voc4) (by simp only [List.getElem?_toArray, List.getElem?_cons_zero, List.getElem?_cons_succ]; rfl) (by kernel_rfl) (by kernel_rfl) (by kernel_rfl) (fun _ _ _ h => h) (Or.inl ⟨by rfl, ?hyoc4⟩) (by assumption) ?restoc4
  case hyoc4 => (intro w hSw; (try dsimp only at hSw); go_simp; try with_reducible rfl)
  try simp only [Act.put, List.setIfInBounds_toArray, List.set_cons_zero, List.set_cons_succ]
  refine wpAnyH_take (i := 4) (v := ?voc5) (by simp only [List.getElem?_toArray, List.getElem?_cons_zero, List.getElem?_cons_succ]; rfl) (by kernel_rfl) (by kernel_rfl) (by kernel_rfl) (fun _ _ _ h => h) (Or.inl ⟨by rfl, ?hyoc5⟩) (by assumption) ?restoc5
  case hyoc5 => (intro w hSw; (try dsimp only at hSw); go_simp; try with_reducible rfl)
  try simp only [Act.put, List.setIfInBounds_toArray, List.set_cons_zero, List.set_cons_succ]
  refine wpAnyH_take (i := 5) (v := ?voc6) (by simp only [List.getElem?_toArray, List.getElem?_cons_zero, List.getElem?_cons_succ]; rfl) (by kernel_rfl) (by kernel_rfl) (by kernel_rfl) (fun _ _ _ h => h) (Or.inl ⟨by rfl, ?hyoc6⟩) (by assumption) ?restoc6
  case hyoc6 => (intro w hSw; (try dsimp only at hSw); go_simp; try with_reducible rfl)
  try simp only [Act.put, List.setIfInBounds_toArray, List.set_cons_zero, List.set_cons_succ]
  refine wpAnyH_take (i := 6) (v := ?voc7) (by simp only [List.getElem?_toArray, List.getElem?_cons_zero, List.getElem?_cons_succ]; rfl) (by kernel_rfl) (by kernel_rfl) (by kernel_rfl) (fun _ _ _ h => h) (Or.inl ⟨by rfl, ?hyoc7⟩) (by assumption) ?restoc7
  case hyoc7 => (intro w hSw; (try dsimp only at hSw); go_simp; try with_reducible rfl)
  try simp only [Act.put, List.setIfInBounds_toArray, List.set_cons_zero, List.set_cons_succ]
  refine wpAnyH_ready (rs := [7]) (by kernel_rfl) (by simp) ?_
  refine AllReadyH.cons (by simp only [List.getElem?_toArray, List.getElem?_cons_zero, List.getElem?_cons_succ]; rfl) (fun K hK => ?stepoc8) AllReadyH.nil
  go_simp; refine (cU _ (by exact A2.out.ps.below (Below.refl _ _).drew)).mono ?_; rintro e w3 ⟨rfl, a3⟩; have d3 : w3.heap[w1.heap.size]? = W2.heap[w1.heap.size]? := a3.kt.block (w := W2.drew) hx2 m2; have f1 := (World.cell?_of_block (a := ⟨w1.heap.size, 1, none⟩) d3).trans d1; have f2 := (World.cell?_of_block (a := ⟨w1.heap.size, 2, none⟩) d3).trans d2; have l3 : w1.heap.size < w3.heap.size := Nat.lt_of_lt_of_le hx2 a3.kt.1
  go_wp2_with fail
  refine hK.out _ _ ?hSoc8 (fun hHeld => ?_)
  case hSoc8 => exact ⟨f1, f2⟩
  clear hK K
  try simp only [Act.put, List.setIfInBounds_toArray, List.set_cons_zero, List.set_cons_succ]
  refine wpAnyH_ready (rs := [8]) (by kernel_rfl) (by simp) ?_
  refine AllReadyH.cons (by simp only [List.getElem?_toArray, List.getElem?_cons_zero, List.getElem?_cons_succ]; rfl) (fun K hK => ?stepoc9) AllReadyH.nil
  go_simp
  refine hK.out _ _ ?hSoc9 (fun hHeld => ?_)
  case hSoc9 => exact ⟨(((Below.refl _ w3).alloc (Nat.le_refl _) _).cell (p := ⟨w1.heap.size, 1, none⟩) l3).trans f1, (((Below.refl _ w3).alloc (Nat.le_refl _) _).cell (p := ⟨w1.heap.size, 2, none⟩) l3).trans f2⟩
  clear hK K
  try simp only [Act.put, List.setIfInBounds_toArray, List.set_cons_zero, List.set_cons_succ]
  refine wpAnyH_take (i := 9) (v := ?voc10) (by simp only [List.getElem?_toArray, List.getElem?_cons_zero, List.getElem?_cons_succ]; rfl) (by kernel_rfl) (by kernel_rfl) (by kernel_rfl) (fun _ _ _ h => h) (Or.inl ⟨by rfl, ?hyoc10⟩) (by assumption) ?restoc10
  case hyoc10 => (intro w hSw; (try dsimp only at hSw); go_simp; try with_reducible rfl)
  try simp only [Act.put, List.setIfInBounds_toArray, List.set_cons_zero, List.set_cons_succ]
  refine wpAnyH_ready (rs := [10]) (by kernel_rfl) (by simp) ?_
  refine AllReadyH.cons (by simp only [List.getElem?_toArray, List.getElem?_cons_zero, List.getElem?_cons_succ]; rfl) (fun K hK => ?stepoc11) AllReadyH.nil
  go_simp; go_at_call 224; refine (cN _ (by exact a3.ps)).mono ?_; rintro e w4 ⟨rfl, a4⟩; have d4 : w4.heap[w1.heap.size]? = w3.heap[w1.heap.size]? := a4.kt.block l3 (a3.kt.2 w1.heap.size hx2 m2).2; have g1 := (World.cell?_of_block (a := ⟨w1.heap.size, 1, none⟩) d4).trans f1; have g2 := (World.cell?_of_block (a := ⟨w1.heap.size, 2, none⟩) d4).trans f2
  go_wp2_with fail
  refine hK.out _ _ ?hSoc11 (fun hHeld => ?_)
  case hSoc11 => exact ⟨g1, g2⟩
  clear hK K
  try simp only [Act.put, List.setIfInBounds_toArray, List.set_cons_zero, List.set_cons_succ]
  refine wpAnyH_take (i := 11) (v := ?voc12) (by simp only [List.getElem?_toArray, List.getElem?_cons_zero, List.getElem?_cons_succ]; rfl) (by kernel_rfl) (by kernel_rfl) (by kernel_rfl) (fun _ _ _ h => h) (Or.inl ⟨by rfl, ?hyoc12⟩) (by assumption) ?restoc12
  case hyoc12 => (intro w hSw; (try dsimp only at hSw); go_simp; try with_reducible rfl)
  try simp only [Act.put, List.setIfInBounds_toArray, List.set_cons_zero, List.set_cons_succ]
  refine wpAnyH_done (by kernel_rfl) ?_ _
  refine NoPanic.normal ?_
  have A4 := Lib.hid (((A2.out.below ((Below.refl _ W2).drew)).trans a3).trans a4)
  clear a3 a4 d3 f1 f2 d4 g1 g2 cU cN
  go_wp2_with fail
  go_ret
  exact ⟨rfl, A4.out⟩
 ·refine wp_region_noPanic ?_
  refine wp_region_held_drew (S := fun W => W.cell? ⟨w1.heap.size, 1, none⟩ = some (.string (bs t.2.1)) ∧ W.cell? ⟨w1.heap.size, 2, none⟩ = some (.int .i64 (t.2.2 : Int))) (by kernel_rfl) (⟨d1, d2⟩) (fun hHeld => ?_)
  refine wpAnyH_take (i := 0) (v := ?vod1) (by simp only [List.getElem?_toArray, List.getElem?_cons_zero]; rfl) (by kernel_rfl) (by kernel_rfl) (by kernel_rfl) (fun _ _ _ h => h) (Or.inl ⟨by rfl, ?hyod1⟩) (by assumption) ?restod1
  case hyod1 => (intro w hSw; (try dsimp only at hSw); go_simp; try with_reducible rfl)
  try simp only [Act.put, List.setIfInBounds_toArray, List.set_cons_zero, List.set_cons_succ]
  refine wpAnyH_take (i := 1) (v := ?vod2) (by simp only [List.getElem?_toArray, List.getElem?_cons_zero, List.getElem?_cons_succ]; rfl) (by kernel_rfl) (by kernel_rfl) (by kernel_rfl) (fun _ _ _ h => h) (Or.inl ⟨by rfl, ?hyod2⟩) (by assumption) ?restod2
  case hyod2 => (intro w hSw; (try dsimp only at hSw); go_simp; try with_reducible rfl)
  try simp only [Act.put, List.setIfInBounds_toArray, List.set_cons_zero, List.set_cons_succ]
  refine wpAnyH_take (i := 2) (v := ?vod3) (by simp only [List.getElem?_toArray, List.getElem?_cons_zero, List.getElem?_cons_succ]; rfl) (by kernel_rfl) (by kernel_rfl) (by kernel_rfl) (fun _ _ _ h => h) (Or.inl ⟨by rfl, ?hyod3⟩) (by assumption) ?restod3
  case hyod3 => (intro w hSw; (try dsimp only at hSw); go_simp; try with_reducible rfl)
  try simp only [Act.put, List.setIfInBounds_toArray, List.set_cons_zero, List.set_cons_succ]
  refine wpAnyH_take (i := 3) (v := ?vod4) (by simp only [List.getElem?_toArray, List.getElem?_cons_zero, List.getElem?_cons_succ]; rfl) (by kernel_rfl) (by kernel_rfl) (by kernel_rfl) (fun _ _ _ h => h) (Or.inl ⟨by rfl, ?hyod4⟩) (by assumption) ?restod4
  case hyod4 => (intro w hSw; (try dsimp only at hSw); go_simp; try with_reducible rfl)
  try simp only [Act.put, List.setIfInBounds_toArray, List.set_cons_zero, List.set_cons_succ]
  refine wpAnyH_take (i := 4) (v := ?vod5) (by simp only [List.getElem?_toArray, List.getElem?_cons_zero, List.getElem?_cons_succ]; rfl) (by kernel_rfl) (by kernel_rfl) (by kernel_rfl) (fun _ _ _ h => h) (Or.inl ⟨by rfl, ?hyod5⟩) (by assumption) ?restod5
  case hyod5 => (intro w hSw; (try dsimp only at hSw); go_simp; try with_reducible rfl)
  try simp only [Act.put, List.setIfInBounds_toArray, List.set_cons_zero, List.set_cons_succ]
  refine wpAnyH_take (i := 5) (v := ?vod6) (by simp only [List.getElem?_toArray, List.getElem?_cons_zero, List.getElem?_cons_succ]; rfl) (by kernel_rfl) (by kernel_rfl) (by kernel_rfl) (fun _ _ _ h => h) (Or.inl ⟨by rfl, ?hyod6⟩) (by assumption) ?restod6
  case hyod6 => (intro w hSw; (try dsimp only at hSw); go_simp; try with_reducible rfl)
  try simp only [Act.put, List.setIfInBounds_toArray, List.set_cons_zero, List.set_cons_succ]
  refine wpAnyH_take (i := 6) (v := ?vod7) (by simp only [List.getElem?_toArray, List.getElem?_cons_zero, List.getElem?_cons_succ]; rfl) (by kernel_rfl) (by kernel_rfl) (by kernel_rfl) (fun _ _ _ h => h) (Or.inl ⟨by rfl, ?hyod7⟩) (by assumption) ?restod7
  case hyod7 => (intro w hSw; (try dsimp only at hSw); go_simp; try with_reducible rfl)
  try simp only [Act.put, List.setIfInBounds_toArray, List.set_cons_zero, List.set_cons_succ]
  refine wpAnyH_ready (rs := [7]) (by kernel_rfl) (by simp) ?_
  refine AllReadyH.cons (by simp only [List.getElem?_toArray, List.getElem?_cons_zero, List.getElem?_cons_succ]; rfl) (fun K hK => ?stepod8) AllReadyH.nil
  go_simp; refine (cU _ (by exact A2.out.ps.below (Below.refl _ _).drew)).mono ?_; rintro e w3 ⟨rfl, a3⟩; have d3 : w3.heap[w1.heap.size]? = W2.heap[w1.heap.size]? := a3.kt.block (w := W2.drew) hx2 m2; have f1 := (World.cell?_of_block (a := ⟨w1.heap.size, 1, none⟩) d3).trans d1; have f2 := (World.cell?_of_block (a := ⟨w1.heap.size, 2, none⟩) d3).trans d2; have l3 : w1.heap.size < w3.heap.size := Nat.lt_of_lt_of_le hx2 a3.kt.1
  go_wp2_with fail
  refine hK.out _ _ ?hSod8 (fun hHeld => ?_)
  case hSod8 => exact ⟨f1, f2⟩
  clear hK K
  try simp only [Act.put, List.setIfInBounds_toArray, List.set_cons_zero, List.set_cons_succ]
  refine wpAnyH_ready (rs := [8]) (by kernel_rfl) (by simp) ?_
  refine AllReadyH.cons (by simp only [List.getElem?_toArray, List.getElem?_cons_zero, List.getElem?_cons_succ]; rfl) (fun K hK => ?stepod9) AllReadyH.nil
  go_simp
  refine hK.out _ _ ?hSod9 (fun hHeld => ?_)
  case hSod9 => exact ⟨(((Below.refl _ w3).alloc (Nat.le_refl _) _).cell (p := ⟨w1.heap.size, 1, none⟩) l3).trans f1, (((Below.refl _ w3).alloc (Nat.le_refl _) _).cell (p := ⟨w1.heap.size, 2, none⟩) l3).trans f2⟩
  clear hK K
  try simp only [Act.put, List.setIfInBounds_toArray, List.set_cons_zero, List.set_cons_succ]
  refine wpAnyH_take (i := 9) (v := ?vod10) (by simp only [List.getElem?_toArray, List.getElem?_cons_zero, List.getElem?_cons_succ]; rfl) (by kernel_rfl) (by kernel_rfl) (by kernel_rfl) (fun _ _ _ h => h) (Or.inl ⟨by rfl, ?hyod10⟩) (by assumption) ?restod10
  case hyod10 => (intro w hSw; (try dsimp only at hSw); go_simp; try with_reducible rfl)
  try simp only [Act.put, List.setIfInBounds_toArray, List.set_cons_zero, List.set_cons_succ]
  refine wpAnyH_ready (rs := [10]) (by kernel_rfl) (by simp) ?_
  refine AllReadyH.cons (by simp only [List.getElem?_toArray, List.getElem?_cons_zero, List.getElem?_cons_succ]; rfl) (fun K hK => ?stepod11) AllReadyH.nil
  go_simp; go_at_call 224; refine (cN _ (by exact a3.ps)).mono ?_; rintro e w4 ⟨rfl, a4⟩; have d4 : w4.heap[w1.heap.size]? = w3.heap[w1.heap.size]? := a4.kt.block l3 (a3.kt.2 w1.heap.size hx2 m2).2; have g1 := (World.cell?_of_block (a := ⟨w1.heap.size, 1, none⟩) d4).trans f1; have g2 := (World.cell?_of_block (a := ⟨w1.heap.size, 2, none⟩) d4).trans f2
  go_wp2_with fail
  refine hK.out _ _ ?hSod11 (fun hHeld => ?_)
  case hSod11 => exact ⟨g1, g2⟩
  clear hK K
  try simp only [Act.put, List.setIfInBounds_toArray, List.set_cons_zero, List.set_cons_succ]
  refine wpAnyH_take (i := 11) (v := ?vod12) (by simp only [List.getElem?_toArray, List.getElem?_cons_zero, List.getElem?_cons_succ]; rfl) (by kernel_rfl) (by kernel_rfl) (by kernel_rfl) (fun _ _ _ h => h) (Or.inl ⟨by rfl, ?hyod12⟩) (by assumption) ?restod12
  case hyod12 => (intro w hSw; (try dsimp only at hSw); go_simp; try with_reducible rfl)
  try simp only [Act.put, List.setIfInBounds_toArray, List.set_cons_zero, List.set_cons_succ]
  refine wpAnyH_done (by kernel_rfl) ?_ _
  refine NoPanic.normal ?_
  have A4 := Lib.hid (((A2.out.below ((Below.refl _ W2).drew)).trans a3).trans a4)
  clear a3 a4 d3 f1 f2 d4 g1 g2 cU cN
  go_wp2_with fail
  go_ret
  exact ⟨rfl, A4.out⟩
end Go.Proofs.YtjbdgjbmbohfmaaGreatDoor
