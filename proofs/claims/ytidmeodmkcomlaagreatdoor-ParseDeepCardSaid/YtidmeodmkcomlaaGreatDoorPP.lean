/- The rule of types; parse.Text and parse.Type, at texts that are parsed. -/
import Derived.Test.YtidmeodmkcomlaaGreatDoorPI
import Derived.RegionCalls
import Derived.Recover
namespace Go.Proofs.YtidmeodmkcomlaaGreatDoor
open Go Go.Proofs Go.RowKit

abbrev nP2 : Ptr2 := ⟨none, 0, none, 0⟩
abbrev zTyp : List Value := [.int .i64 0, .int .i64 0, .string ⟨#[]⟩, .slice none 0 0, .slice none 0 0, .bool false]
abbrev tyWords : List (List UInt8) := [[105, 110, 116], [98, 111, 111, 108], [115, 116, 114], [102, 108, 111, 97, 116], [100, 121, 110], [97, 110, 121], [110, 111, 110, 101]]
abbrev tyWordsV : List Value := [.string ⟨#[105, 110, 116]⟩, .string ⟨#[98, 111, 111, 108]⟩, .string ⟨#[115, 116, 114]⟩, .string ⟨#[102, 108, 111, 97, 116]⟩, .string ⟨#[100, 121, 110]⟩, .string ⟨#[97, 110, 121]⟩, .string ⟨#[110, 111, 110, 101]⟩]

theorem put6_blk {W : World} {g : Nat} {t : TypeId} {z0 z1 z2 z3 z4 z5 : Value} (h : Blk W g t [z0, z1, z2, z3, z4, z5].toArray) (v0 v1 v2 v3 v4 v5 : Value) : Blk ((((((W.setCell ⟨g, 0, none⟩ v0).setCell ⟨g, 1, none⟩ v1).setCell ⟨g, 2, none⟩ v2).setCell ⟨g, 3, none⟩ v3).setCell ⟨g, 4, none⟩ v4).setCell ⟨g, 5, none⟩ v5) g t [v0, v1, v2, v3, v4, v5].toArray := by
  have := (((((h.set_ 0 v0).set_ 1 v1).set_ 2 v2).set_ 3 v3).set_ 4 v4).set_ 5 v5
  simpa using this
theorem put6_below {w W : World} {n g : Nat} (h : Below n w W) (hg : n ≤ g) (v0 v1 v2 v3 v4 v5 : Value) : Below n w ((((((W.setCell ⟨g, 0, none⟩ v0).setCell ⟨g, 1, none⟩ v1).setCell ⟨g, 2, none⟩ v2).setCell ⟨g, 3, none⟩ v3).setCell ⟨g, 4, none⟩ v4).setCell ⟨g, 5, none⟩ v5) :=
  (((((h.setCell (p := ⟨g, 0, none⟩) hg _).setCell (p := ⟨g, 1, none⟩) hg _).setCell (p := ⟨g, 2, none⟩) hg _).setCell (p := ⟨g, 3, none⟩) hg _).setCell (p := ⟨g, 4, none⟩) hg _).setCell (p := ⟨g, 5, none⟩) hg _

set_option maxRecDepth 100000 in
set_option maxHeartbeats 8000000 in
theorem plain_any {B : PE} {w : World} {s : St} (h : PS B w s) (hk : s.k < B.ts.length) (h7 : (tkA B.ts s.k).1 = 7) (ht : (tkA B.ts s.k).2.1 = [105, 110, 116]) :
    Calls Tryz.prog 80 #[B.ptr] w fun e w' => e = .returned (.agg #[.int .i64 0, .int .i64 ((tkA B.ts s.k).2.2 : Int), .string ⟨#[]⟩, .slice none 0 0, .slice none 0 0, .bool false]) ∧ Below w.heap.size w w' := by
  obtain ⟨W0, hW0⟩ : ∃ W0, w.alloc (.cells zTyp.toArray 40) = W0 := ⟨_, rfl⟩
  have hB0 : Below w.heap.size w W0 := by rw [← hW0]; exact (Below.refl _ _).alloc (Nat.le_refl _) _
  have hX0 : Blk W0 w.heap.size 40 zTyp.toArray := by rw [← hW0]; exact Blk.new w 40 _
  have cN := now_any (h.below hB0) hk
  have l0 := hX0.lt
  generalize tkA B.ts s.k = t at cN h7 ht ⊢
  obtain ⟨tk, tx, tp⟩ := t
  dsimp only at h7 ht cN ⊢
  subst h7
  subst ht
  have X0 := Lib.hid hX0
  have B0 := Lib.hid hB0
  clear h hX0 hB0
  go_enter Tryz.func80, Tryz.ntmps80
  go_wp2_with fail
  refine cN.mono ?_
  rintro e w1 ⟨rfl, hb1⟩
  obtain ⟨W2, hW2⟩ : ∃ W2, w1.alloc (.cells #[.int .i64 7, .string (bs [105, 110, 116]), .int .i64 (tp : Int)] 77) = W2 := ⟨_, rfl⟩
  have hB2 : Below w1.heap.size w1 W2 := by rw [← hW2]; exact (Below.refl _ _).alloc (Nat.le_refl _) _
  have hT2 : Blk W2 w1.heap.size 77 #[.int .i64 7, .string (bs [105, 110, 116]), .int .i64 (tp : Int)] := by rw [← hW2]; exact Blk.new w1 77 _
  obtain ⟨W3, hW3⟩ : ∃ W3, W2.alloc (.cells tyWordsV.toArray 132) = W3 := ⟨_, rfl⟩
  have hB3 : Below W2.heap.size W2 W3 := by rw [← hW3]; exact (Below.refl _ _).alloc (Nat.le_refl _) _
  have hX3 : Blk W3 W2.heap.size 132 tyWordsV.toArray := by rw [← hW3]; exact Blk.new W2 132 _
  have hT3 := hT2.below hB3 hT2.lt
  have t0 := hT3.cell 0
  have t1 := hT3.cell 1
  have t2 := hT3.cell 2
  simp only [List.getElem?_toArray, List.getElem?_cons_zero, List.getElem?_cons_succ] at t0 t1 t2
  have r0 := hT2.cell 0
  simp only [List.getElem?_toArray, List.getElem?_cons_zero] at r0
  have hB02 : Below w.heap.size w W3 := (B0.out.trans (hb1.mono B0.out.size)).trans ((hB2.trans (hB3.mono hB2.size)).mono (Nat.le_trans B0.out.size hb1.size))
  have hY3 := X0.out.below (hb1.trans ((hB2.trans (hB3.mono hB2.size)).mono hb1.size)) l0
  have cI := fun (W : World) (hW : Below W3.heap.size W3 W) => ix_any W2.heap.size 7 7 tyWords [105, 110, 116] W rfl (by decide) (fun j x hx => by
    rw [hW.cell (p := ⟨W2.heap.size, j, none⟩) hX3.lt, hX3.cell j]
    match j, hx with
    | 0, hx => simp at hx; subst hx; rfl
    | 1, hx => simp at hx; subst hx; rfl
    | 2, hx => simp at hx; subst hx; rfl
    | 3, hx => simp at hx; subst hx; rfl
    | 4, hx => simp at hx; subst hx; rfl
    | 5, hx => simp at hx; subst hx; rfl
    | 6, hx => simp at hx; subst hx; rfl
    | j + 7, hx => simp at hx)
  have e0 : ixS tyWords [105, 110, 116] = 0 := by decide
  rw [e0] at cI
  have Y3 := Lib.hid hY3
  have B3 := Lib.hid hB02
  have x0 := hY3.cell 0
  have x1 := hY3.cell 1
  have x2 := hY3.cell 2
  have x3 := hY3.cell 3
  have x4 := hY3.cell 4
  have x5 := hY3.cell 5
  have y0 := hY3.frozen 0
  have y1 := hY3.frozen 1
  have y2 := hY3.frozen 2
  have y3 := hY3.frozen 3
  have y4 := hY3.frozen 4
  have y5 := hY3.frozen 5
  simp only [List.getElem?_toArray, List.getElem?_cons_zero, List.getElem?_cons_succ] at x0 x1 x2 x3 x4 x5
  clear hT3 hT2 hX3 hB02 hY3 hB2 hB3 hb1 cN
  go_wp2_with fail
  go_region_with (refine (cI _ (by exact (Below.refl _ W3).drew)).mono ?_; rintro e w4 ⟨rfl, rfl⟩)
  all_goals
    clear cI hW0 hW2 hW3 r0
    have B4 : Hid (Below w.heap.size w W3.drew) := Lib.hid B3.out.drew
    have Y4 : Hid (Blk W3.drew w.heap.size 40 zTyp.toArray) := Lib.hid (show Blk W3.drew w.heap.size 40 zTyp.toArray from Y3.out)
    have t0 : W3.drew.cell? ⟨w1.heap.size, 0, none⟩ = _ := t0
    have t2 : W3.drew.cell? ⟨w1.heap.size, 2, none⟩ = _ := t2
    have x0 : W3.drew.cell? ⟨w.heap.size, 0, none⟩ = _ := x0
    have x1 : W3.drew.cell? ⟨w.heap.size, 1, none⟩ = _ := x1
    have x2 : W3.drew.cell? ⟨w.heap.size, 2, none⟩ = _ := x2
    have x3 : W3.drew.cell? ⟨w.heap.size, 3, none⟩ = _ := x3
    have x4 : W3.drew.cell? ⟨w.heap.size, 4, none⟩ = _ := x4
    have x5 : W3.drew.cell? ⟨w.heap.size, 5, none⟩ = _ := x5
    have y0 : W3.drew.frozen? ⟨w.heap.size, 0, none⟩ = _ := y0
    have y1 : W3.drew.frozen? ⟨w.heap.size, 1, none⟩ = _ := y1
    have y2 : W3.drew.frozen? ⟨w.heap.size, 2, none⟩ = _ := y2
    have y3 : W3.drew.frozen? ⟨w.heap.size, 3, none⟩ = _ := y3
    have y4 : W3.drew.frozen? ⟨w.heap.size, 4, none⟩ = _ := y4
    have y5 : W3.drew.frozen? ⟨w.heap.size, 5, none⟩ = _ := y5
    clear B3 Y3
    generalize W3.drew = W4 at *
    go_wp2_with fail
    have hZ := put6_blk (W := W4) Y4.out (.int .i64 0) (.int .i64 (tp : Int)) (.string ⟨#[]⟩) (.slice none 0 0) (.slice none 0 0) (.bool false)
    have q0 := hZ.cell 0
    have q1 := hZ.cell 1
    have q2 := hZ.cell 2
    have q3 := hZ.cell 3
    have q4 := hZ.cell 4
    have q5 := hZ.cell 5
    simp only [List.getElem?_toArray, List.getElem?_cons_zero, List.getElem?_cons_succ] at q0 q1 q2 q3 q4 q5
    exact bodyPost_ret (v := .agg [.int .i64 0, .int .i64 (tp : Int), .string ⟨#[]⟩, .slice none 0 0, .slice none 0 0, .bool false].toArray) (by simp [results, Tryz.results80, go_sem, q0, q1, q2, q3, q4, q5]) rfl ⟨rfl, put6_below B4.out (Nat.le_refl _) _ _ _ _ _ _⟩

set_option maxRecDepth 100000 in
set_option maxHeartbeats 8000000 in
theorem simple_any {ts : List Tk} (hT : TsOk ts) : Rule ts 46 (simpleM ts) := by
  intro B w s i s' hBts h hk hM
  unfold simpleM at hM
  by_cases hc : (tkA ts s.k).1 = 7 ∧ (tkA ts s.k).2.1 = [105, 110, 116]
  · rw [if_pos hc] at hM
    obtain ⟨hn, rfl, rfl⟩ := newY_ok hM
    refine ⟨hT.step hk (by rw [hc.1]; decide), ?_⟩
    have cS : ∀ (x : List UInt8) W, PS B W s → x ≠ [105, 110, 116] → Calls Tryz.prog 47 #[B.ptr, .slice (some ⟨W.heap.size, 0, none⟩) 1 1] (W.alloc (.cells #[.string ⟨x.toArray⟩] 9)) fun e w' => e = .returned (.bool false) ∧ Below W.heap.size W w' := fun x W p hx => by
      have := stands_new p (by rw [hBts]; exact hk) [x] 1 rfl (by decide) #[.string ⟨x.toArray⟩] rfl
      rw [show standsB (tkA B.ts s.k) [x] = false from by
        rw [hBts]
        unfold standsB
        rw [hc.2]
        simp [hx]] at this
      exact this
    have cP := fun (W : World) (p : PS B W s) => plain_any p (by rw [hBts]; exact hk) (by rw [hBts]; exact hc.1) (by rw [hBts]; exact hc.2)
    rw [hBts] at cP
    have cN := fun W (p : PS B W (s.on 1)) => newType_any p hn ⟨0, ((tkA ts s.k).2.2 : Nat), bs [], [], [], false⟩ nP2 ⟨SlAt.nil, SlAt.nil⟩ ⟨by simp, by simp⟩
    dsimp only [typCells, bs, List.length] at cN
    have H := Lib.hid h
    have HB := Lib.hid hBts
    clear hc hM h hn
    generalize tkA ts s.k = t at *
    go_enter Tryz.func46, Tryz.ntmps46
    go_wp2_with fail
    refine (cS [91] w H.out (by decide)).mono ?_
    rintro e w1 ⟨rfl, hb1⟩
    go_wp2_with fail
    refine (cS [40] w1 (H.out.below hb1) (by decide)).mono ?_
    rintro e w2 ⟨rfl, hb2⟩
    have hb02 : Below w.heap.size w w2 := hb1.trans (hb2.mono hb1.size)
    go_wp2_with fail
    refine (cS [123] w2 (H.out.below hb02) (by decide)).mono ?_
    rintro e w3 ⟨rfl, hb3⟩
    have hb03 : Below w.heap.size w w3 := hb02.trans (hb3.mono hb02.size)
    go_wp2_with fail
    refine (cP w3 (H.out.below hb03)).mono ?_
    rintro e w4 ⟨rfl, hb4⟩
    have hb04 : Below w.heap.size w w4 := hb03.trans (hb4.mono hb03.size)
    obtain ⟨X0, hX0⟩ : ∃ X0, w4.alloc (.cells zTyp.toArray 40) = X0 := ⟨_, rfl⟩
    have hK0 : Blk X0 w4.heap.size 40 zTyp.toArray := by rw [← hX0]; exact Blk.new w4 40 _
    have hbX : Below w.heap.size w X0 := by rw [← hX0]; exact hb04.alloc hb04.size _
    have x0 := hK0.cell 0
    have x1 := hK0.cell 1
    have x2 := hK0.cell 2
    have x3 := hK0.cell 3
    have x4 := hK0.cell 4
    have x5 := hK0.cell 5
    have y0 := hK0.frozen 0
    have y1 := hK0.frozen 1
    have y2 := hK0.frozen 2
    have y3 := hK0.frozen 3
    have y4 := hK0.frozen 4
    have y5 := hK0.frozen 5
    simp only [List.getElem?_toArray, List.getElem?_cons_zero, List.getElem?_cons_succ] at x0 x1 x2 x3 x4 x5
    clear cS cP
    go_upto_region 13 with fail
    clear x0 x1 x2 x3 x4 x5 y0 y1 y2 y3 y4 y5 hX0
    have hZ := put6_blk hK0 (.int .i64 0) (.int .i64 (t.2.2 : Int)) (.string ⟨#[]⟩) (.slice none 0 0) (.slice none 0 0) (.bool false)
    have hbZ := put6_below hbX hb04.size (.int .i64 0) (.int .i64 (t.2.2 : Int)) (.string ⟨#[]⟩) (.slice none 0 0) (.slice none 0 0) (.bool false)
    have hsz : w.heap.size ≤ w4.heap.size := hb04.size
    revert hZ hbZ
    generalize ((((((X0.setCell ⟨w4.heap.size, 0, none⟩ (.int .i64 0)).setCell ⟨w4.heap.size, 1, none⟩ (.int .i64 (t.2.2 : Int))).setCell ⟨w4.heap.size, 2, none⟩ (.string ⟨#[]⟩)).setCell ⟨w4.heap.size, 3, none⟩ (.slice none 0 0)).setCell ⟨w4.heap.size, 4, none⟩ (.slice none 0 0)).setCell ⟨w4.heap.size, 5, none⟩ (.bool false)) = X1
    intro hZ hbZ
    have p1 := H.out.below hbZ
    have c1 := p1.blk.cell 1
    have g1 := p1.blk.frozen 1
    simp only [PE.cells, List.getElem?_toArray, List.getElem?_cons_zero, List.getElem?_cons_succ] at c1
    have a2 := p1.on1 (by rw [HB.out]; exact hk)
    have hpb := H.out.blk.lt
    have hl := p1.lb
    obtain ⟨X2, hX2⟩ : ∃ X2, X1.setCell ⟨B.pb, 1, none⟩ (.int .i64 ((s.k : Int) + 1)) = X2 := ⟨_, rfl⟩
    have hZ2 := hZ.far (p := ⟨B.pb, 1, none⟩) (by dsimp only; omega) (.int .i64 ((s.k : Int) + 1))
    rw [hX2] at hZ2
    rw [hX2] at a2
    have x0 := hZ2.cell 0
    have x1 := hZ2.cell 1
    have x2 := hZ2.cell 2
    have x3 := hZ2.cell 3
    have x4 := hZ2.cell 4
    have x5 := hZ2.cell 5
    simp only [List.getElem?_toArray, List.getElem?_cons_zero, List.getElem?_cons_succ] at x0 x1 x2 x3 x4 x5
    have A2 := Lib.hid ((H.out.aft hbZ).trans a2)
    have cM := cN X2 a2.ps
    have hkt : s.k < B.ts.length := by rw [HB.out]; exact hk
    clear a2 hZ hZ2 hbZ p1 hbX hK0 hb04 hb03 hb02 hb4 hb3 hb2 hb1 cN
    go_wp2_with fail
    refine cM.mono ?_
    rintro e w5 ⟨rfl, a4⟩
    have A4 := Lib.hid (A2.out.trans a4)
    clear a4 cM
    go_wp2_with fail
    go_ret
    exact ⟨rfl, A4.out⟩
  · rw [if_neg hc] at hM; cases hM
end Go.Proofs.YtidmeodmkcomlaaGreatDoor

namespace Go.Proofs.YtidmeodmkcomlaaGreatDoor
open Go Go.Proofs Go.RowKit

/-- A type of two parts, which lie in a new row. -/
theorem newKY {B : PE} {w : World} {s : St} (h : PS B w s) (hn : s.t2.length < 65536) (kind pos k1 k2 : Int) :
    Calls Tryz.prog 49 #[B.ptr, .agg #[.int .i64 kind, .int .i64 pos, .string ⟨#[]⟩, .slice none 0 0, .slice (some ⟨w.heap.size, 0, none⟩) 2 2, .bool false]] (w.alloc (.cells #[.int .i64 k1, .int .i64 k2] 3)) fun e w' => e = .returned (.int .i64 (s.t2.length : Nat)) ∧ Aft B w ⟨s.k, s.op, s.t1, s.t2 ++ [⟨kind, pos, bs [], [], [k1, k2], false⟩]⟩ w' := by
  have hB0 : Below w.heap.size w (w.alloc (.cells #[.int .i64 k1, .int .i64 k2] 3)) := (Below.refl _ _).alloc (Nat.le_refl _) _
  have hX : Blk (w.alloc (.cells #[.int .i64 k1, .int .i64 k2] 3)) w.heap.size 3 #[.int .i64 k1, .int .i64 k2] := Blk.new w 3 _
  refine (newType_any (h.below hB0) hn ⟨kind, pos, bs [], [], [k1, k2], false⟩ ⟨none, 0, some ⟨w.heap.size, 0, none⟩, 2⟩ ⟨SlAt.nil, rfl, fun _ => ⟨w.heap.size, 0, rfl, hX.lt, fun j u hu => ?_⟩⟩ ⟨by simp, by simp⟩).mono (fun e w' q => ⟨q.1, (h.aft hB0).trans q.2⟩)
  rw [Nat.zero_add, hX.cell j]
  match j, hu with
  | 0, hu => simpa using hu
  | 1, hu => simpa using hu
  | j + 2, hu => simp at hu

theorem simple_step {ts : List Tk} (hT : TsOk ts) {s s' : St} {i : Nat} (hk : s.k < ts.length) (h : simpleM ts s = .ok i s') : s.k < s'.k ∧ s'.k < ts.length ∧ s'.op = s.op := by
  unfold simpleM at h
  split at h
  · rename_i hc
    obtain ⟨_, _, rfl⟩ := newY_ok h
    exact ⟨Nat.lt_succ_self _, hT.step hk (by rw [hc.1]; decide), rfl⟩
  · cases h
theorem type_step {ts : List Tk} (hT : TsOk ts) : ∀ (f : Nat) (s s' : St) (i : Nat), s.k < ts.length → typeM ts f s = .ok i s' → s.k < s'.k ∧ s'.k < ts.length ∧ s'.op = s.op := by
  intro f
  induction f with
  | zero => intro s s' i _ h; cases h
  | succ f ih =>
    intro s s' i hk h
    unfold typeM at h
    split at h
    · cases h
    obtain ⟨i1, s1, e1, e2⟩ := PR.bind_ok h
    obtain ⟨q1, q2, q3⟩ := simple_step hT (s := s.up) hk e1
    have q3' : s1.op = s.op + 1 := q3
    have q1' : s.k < s1.k := q1
    split at e2
    · rename_i hs
      obtain ⟨j, s2, e3, e4⟩ := PR.bind_ok e2
      obtain ⟨l, s3, e5, e6⟩ := PR.bind_ok e4
      obtain ⟨_, _, rfl⟩ := newY_ok e5
      injection e6 with _ e6
      subst e6
      obtain ⟨p1, p2, p3⟩ := ih (s1.on 1) s2 j (hT.step q2 (stands_ne hs)) e3
      have p1' : s1.k + 1 < s2.k := p1
      have p3' : s2.op = s1.op := p3
      refine ⟨?_, p2, ?_⟩
      · show s.k < s2.k
        omega
      · show s2.op - 1 = s.op
        omega
    · injection e2 with _ e2
      subst e2
      refine ⟨q1', q2, ?_⟩
      show s1.op - 1 = s.op
      omega

set_option maxRecDepth 100000 in
set_option maxHeartbeats 8000000 in
theorem type_at {ts : List Tk} (hT : TsOk ts) : ∀ f, Rule ts 21 (typeM ts f) := by
  intro f
  induction f with
  | zero => intro B w s i s' _ _ _ h; cases h
  | succ f ih =>
    intro B w s i s' hBts h hk hM
    refine ⟨(type_step hT _ _ _ _ hk hM).2.1, ?_⟩
    unfold typeM at hM
    by_cases h256 : s.op = 256
    · rw [if_pos h256] at hM; cases hM
    rw [if_neg h256] at hM
    obtain ⟨i1, s1, e1, e2⟩ := PR.bind_ok hM
    obtain ⟨q1, q2, q3⟩ := simple_step hT (s := s.up) hk e1
    have q3' : s1.op = s.op + 1 := q3
    have cB := begin_any h h256
    have cP := fun (W : World) (p : PS B W s.up) => (simple_any hT B W s.up i1 s1 hBts p hk e1).2
    have cS : ∀ W, PS B W s1 → Calls Tryz.prog 47 #[B.ptr, .slice (some ⟨W.heap.size, 0, none⟩) 1 1] (W.alloc (.cells #[.string ⟨#[45, 62]⟩] 9)) fun e w' => e = .returned (.bool (standsB (tkA ts s1.k) [[45, 62]])) ∧ Below W.heap.size W w' := fun W p => by
      have := stands_new p (by rw [hBts]; exact q2) [[45, 62]] 1 rfl (by decide) #[.string ⟨#[45, 62]⟩] rfl
      rwa [hBts] at this
    by_cases hs : standsB (tkA ts s1.k) [[45, 62]] = true
    · rw [if_pos hs] at e2
      rw [hs] at cS
      obtain ⟨j, s2, e3, e4⟩ := PR.bind_ok e2
      obtain ⟨l, s3, e5, e6⟩ := PR.bind_ok e4
      obtain ⟨hl, rfl, rfl⟩ := newY_ok e5
      injection e6 with e6 e7
      subst e6
      subst e7
      have hk1 := hT.step q2 (stands_ne hs)
      obtain ⟨_, _, p3⟩ := type_step hT f (s1.on 1) s2 j hk1 e3
      have p3' : s2.op = s1.op := p3
      have hop : 1 ≤ s2.op := by omega
      have cX : ∀ W, PS B W s1 → Calls Tryz.prog 48 #[B.ptr] W fun e w' => e = .returned (tokV (tkA ts s1.k)) ∧ Aft B W (s1.on 1) w' := fun W p => by
        have := next_any p (by rw [hBts]; exact q2)
        rwa [hBts] at this
      have cY := fun (W : World) (p : PS B W (s1.on 1)) => (ih B W (s1.on 1) j s2 hBts p hk1 e3).2
      have cN := fun W (p : PS B W s2) => newKY p hl 7 ((tkA ts s1.k).2.2 : Nat) (i1 : Int) (j : Int)
      have hfd := tokF2
      clear ih hs e1 e2 e3 e4 e5 hM h256 h q1 q2 q3 q3' p3 p3' hk1 hl
      generalize tkA ts s1.k = t at *
      go_enter_defers Tryz.func21, Tryz.ntmps21
      go_wp2_with fail
      with_reducible refine cB.mono ?_
      rintro e w1 ⟨rfl, a1⟩
      go_wp2_with fail
      with_reducible refine (cP w1 a1.ps).mono ?_
      rintro e w2 ⟨rfl, a2'⟩
      have a2 := a1.trans a2'
      go_wp2_with fail
      refine (cS w2 a2.ps).mono ?_
      rintro e w3 ⟨rfl, hb3⟩
      have a3 := a2.below hb3
      go_wp2_with fail
      with_reducible refine (cX w3 a3.ps).mono ?_
      rintro e w4 ⟨rfl, a4'⟩
      have a4 := a3.trans a4'
      go_wp2_with fail
      with_reducible refine (cY w4 a4.ps).mono ?_
      rintro e w5 ⟨rfl, a5'⟩
      have a5 := a4.trans a5'
      go_wp2_with fail
      refine (cN w5 a5.ps).mono ?_
      rintro e w6 ⟨rfl, a6⟩
      have A6 := Lib.hid (a5.trans a6)
      clear a1 a2 a2' a3 a4 a4' a5 a5' a6 hb3 cN cY cX cS cP cB
      go_wp2_with fail
      refine leaves_cons (f := 45) (args := #[B.ptr]) (by simp) (by simp [go_sem]) ?_
      refine (end_d A6.out.ps hop .returning).mono ?_
      rintro e u' w7 ⟨rfl, rfl, a7⟩
      exact ⟨_, results_tmp rfl _ _ _, rfl, A6.out.trans a7⟩
    · rw [if_neg hs] at e2
      have hs2 : standsB (tkA ts s1.k) [[45, 62]] = false := by simpa using hs
      rw [hs2] at cS
      injection e2 with e2 e3
      subst e2
      subst e3
      have hop : 1 ≤ s1.op := by omega
      clear ih hs hs2 e1 hM h256 h q1 q2 q3 q3'
      go_enter_defers Tryz.func21, Tryz.ntmps21
      go_wp2_with fail
      with_reducible refine cB.mono ?_
      rintro e w1 ⟨rfl, a1⟩
      go_wp2_with fail
      with_reducible refine (cP w1 a1.ps).mono ?_
      rintro e w2 ⟨rfl, a2'⟩
      have a2 := a1.trans a2'
      go_wp2_with fail
      refine (cS w2 a2.ps).mono ?_
      rintro e w3 ⟨rfl, hb3⟩
      have A3 := Lib.hid (a2.below hb3)
      clear a1 a2 a2' hb3 cS cP cB
      go_wp2_with fail
      refine leaves_cons (f := 45) (args := #[B.ptr]) (by simp) (by simp [go_sem]) ?_
      refine (end_d A3.out.ps hop .returning).mono ?_
      rintro e u' w7 ⟨rfl, rfl, a7⟩
      exact ⟨_, results_tmp rfl _ _ _, rfl, A3.out.trans a7⟩
end Go.Proofs.YtidmeodmkcomlaaGreatDoor

namespace Go.Proofs.YtidmeodmkcomlaaGreatDoor
open Go Go.Proofs Go.RowKit

theorem takes_no {B : PE} {w : World} {s : St} (h : PS B w s) (hk : s.k < B.ts.length) (x : List UInt8) (hx : standsB (tkA B.ts s.k) [x] = false) :
    Calls Tryz.prog 40 #[B.ptr, .string ⟨x.toArray⟩] w fun e w' => e = .returned (.bool false) ∧ Below w.heap.size w w' := by
  have cS := stands_new h hk [x] 1 rfl (by decide) #[.string ⟨x.toArray⟩] rfl
  rw [hx] at cS
  go_enter Tryz.func40, Tryz.ntmps40
  go_wp2_with fail
  refine cS.mono ?_
  rintro e w1 ⟨rfl, hb1⟩
  go_wp2_with fail
  go_ret
  exact ⟨rfl, hb1⟩

/-- What a rule leaves that gives nothing. -/
def Rule0 (ts : List Tk) (f : FuncId) (M : St → PR) : Prop :=
  ∀ (B : PE) (w : World) (s : St) (i : Nat) (s' : St), B.ts = ts → PS B w s → s.k < ts.length → M s = .ok i s' →
    Calls Tryz.prog f #[B.ptr] w fun e w' => e = .returned (.tuple #[]) ∧ Aft B w s' w'

theorem textR_any {ts : List Tk} (hT : TsOk ts) : Rule0 ts 19 (termM ts) := by
  intro B w s i s' hBts h hk hM
  have h78 : ¬ ((tkA ts s.k).1 = 7 ∨ (tkA ts s.k).1 = 8) := by
    intro h78
    unfold termM at hM
    by_cases h256 : s.op = 256
    · rw [if_pos h256] at hM; cases hM
    · rw [if_neg h256, if_pos h78] at hM; cases hM
  have hs : standsB (tkA B.ts s.k) [[116, 121, 112, 101]] = false := by
    rw [hBts]
    unfold standsB
    rw [show ((tkA ts s.k).1 == 7) = false by simp; omega, show ((tkA ts s.k).1 == 8) = false by simp; omega]
    rfl
  have cK := takes_no h (by rw [hBts]; exact hk) [116, 121, 112, 101] hs
  have cR := fun (W : World) (p : PS B W s) => (termR_any hT B W s i s' hBts p hk hM).2
  clear hs h78 hM
  have H := Lib.hid h
  clear h
  go_enter Tryz.func19, Tryz.ntmps19
  go_wp2_with fail
  go_loopw [] (fun wr => wr = w) (fun _ => 0)
  case atStart => rfl
  case round =>
    subst hrel
    go_wp2_with fail
    refine cK.mono ?_
    rintro e w1 ⟨rfl, hb1⟩
    go_wp2_with fail
    with_reducible refine (cR w1 (H.out.below hb1)).mono ?_
    rintro e w2 ⟨rfl, a2⟩
    have A2 := Lib.hid ((H.out.aft hb1).trans a2)
    clear a2 hb1 cK cR
    go_wp2_with fail
    go_end0
    exact ⟨rfl, A2.out⟩

theorem typeR_any {ts : List Tk} (hT : TsOk ts) (f : Nat) : Rule0 ts 20 (typeM ts f) := by
  intro B w s i s' hBts h hk hM
  have cR := (type_at hT f B w s i s' hBts h hk hM).2
  clear hM h
  go_enter Tryz.func20, Tryz.ntmps20
  go_wp2_with fail
  with_reducible refine cR.mono ?_
  rintro e w1 ⟨rfl, a1⟩
  go_wp2_with fail
  go_end0
  exact ⟨rfl, a1⟩

theorem catch_idle (p : Addr) (w : World) :
    CallsD Tryz.prog 36 #[.pointer (some p)] .returning w fun e u' w' => e = .returned (.tuple #[]) ∧ u' = .returning ∧ w' = w := by
  refine callsD_of_wpS Tryz.func36 rfl fun c₀ cs hu => ?_
  apply wpS_seq
  apply wpS_region
  simp [wpOpsS, go_sem, recoverD, hu, Tryz.ntmps36, Exit.thenS]
  apply wpS_seq
  apply wpS_region
  simp [wpOpsS, go_sem, Exit.thenS]
  refine wpS_cond (t := false) (by simp [Act.eval, Array.replicate]) ?_
  simp only [Bool.false_eq_true, if_false]
  refine wpS_of_wp (wp_skip ?_)
  cases c₀
  simp_all [bodyPostS, results, Tryz.results36]
end Go.Proofs.YtidmeodmkcomlaaGreatDoor

namespace Go.Proofs.YtidmeodmkcomlaaGreatDoor
open Go Go.Proofs Go.RowKit

theorem row_cells {W : World} {B : Nat} {e : TypeId} {k : Nat} {v : Value} {n : Nat} {xs : List Value} (h : W.ownsRow B e k v n xs) (h0 : 0 < n) :
    ∃ g cap, v = .slice (some ⟨g, 0, none⟩) n cap ∧ B ≤ g ∧ g < W.heap.size ∧ n ≤ cap ∧ ∀ j u, xs[j]? = some u → W.cell? ⟨g, j, none⟩ = some u := by
  rcases h.2 with ⟨_, e⟩ | ⟨g, cap, cur, e, hb, hg, hn, _⟩
  · omega
  · refine ⟨g, cap, e, hb, (Array.getElem?_eq_some_iff.1 hg).1, hn, fun j u hu => ?_⟩
    have := h.cells (g := g) (by rw [e]; rfl) j u hu
    rwa [add_none, Nat.zero_add] at this

set_option maxRecDepth 100000 in
set_option maxHeartbeats 8000000 in
theorem parsed19 {l : List UInt8} {ts : List Tk} {i : Nat} {s' : St} (hA : lexA l = .ok ts) (hT : TsOk ts) (hlen : ts.length ≤ 2097152) (M : St → PR) (hR : Rule0 ts 19 M) (hM : M ⟨0, 0, [], []⟩ = .ok i s') (hE : (tkA ts s'.k).1 = 0) (hk' : s'.k < ts.length)
    (a : Option Addr) (len cap : Nat) (w : World) (hl : l.length = len) (hEnv : Env w) (hI : TextAt w.heap.size w (.slice a len cap) l) :
    Calls Tryz.prog 18 #[.slice a len cap, .func (.func 19) #[] #[]] w fun e w' => ∃ p', e = .returned (.tuple #[treeV ⟨s'.t1, s'.t2, []⟩ p', .agg #[.int .i64 0, .int .i64 0, .string ⟨#[]⟩]]) ∧ TreeAt (fun b => w.heap.size ≤ b ∧ b < w'.heap.size) w' ⟨s'.t1, s'.t2, []⟩ p' ∧ Below w.heap.size w w' := by
  obtain ⟨W0, hW0⟩ : ∃ W0, w.alloc (.cells #[.slice none 0 0, .slice none 0 0, .slice none 0 0] 27) = W0 := ⟨_, rfl⟩
  obtain ⟨W1, hW1⟩ : ∃ W1, W0.alloc (.cells #[.int .i64 0, .int .i64 0, .string ⟨#[]⟩] 30) = W1 := ⟨_, rfl⟩
  have hB0 : Below w.heap.size w W0 := by rw [← hW0]; exact (Below.refl _ _).alloc (Nat.le_refl _) _
  have hB1 : Below W0.heap.size W0 W1 := by rw [← hW1]; exact (Below.refl _ _).alloc (Nat.le_refl _) _
  have hX0 : Blk W0 w.heap.size 27 #[.slice none 0 0, .slice none 0 0, .slice none 0 0] := by rw [← hW0]; exact Blk.new w 27 _
  have hX1 : Blk W1 W0.heap.size 30 #[.int .i64 0, .int .i64 0, .string ⟨#[]⟩] := by rw [← hW1]; exact Blk.new W0 30 _
  have hB01 : Below w.heap.size w W1 := hB0.trans (hB1.mono hB0.size)
  have cL := lex_any a len cap l W1 (hEnv.on hB01) hl (TextAt.more hB01.size (hI.below hB01))
  have hmf : ∀ (fn : Fn) (first cap : Array Value) (w : World), (Instr.makeFunc fn first cap).run Tryz.prog w = .ok (.func fn first cap) w := fun _ _ _ _ => rfl
  unfold LexPost at cL
  rw [hA] at cL
  dsimp only at cL
  have hmm := @run_makeMap Tryz.prog
  go_enter_defers Tryz.func18, Tryz.ntmps18
  go_wp2_with fail
  refine cL.mono ?_
  rintro e w1 ⟨⟨v, rfl, hrow⟩, hb1⟩
  obtain ⟨g, c, rfl, hg1, hg2, hg3, hgc⟩ := row_cells hrow hT.pos
  go_wp2_with fail
  obtain ⟨W2, hW2⟩ : ∃ W2, w1.alloc (.cells #[.int .i64 0, .int .i64 0, .string ⟨#[]⟩] 30) = W2 := ⟨_, rfl⟩
  obtain ⟨W3, hW3⟩ : ∃ W3, W2.alloc (.map #[] 0) = W3 := ⟨_, rfl⟩
  have hb2 : Below w1.heap.size w1 W2 := by rw [← hW2]; exact (Below.refl _ _).alloc (Nat.le_refl _) _
  have hb3 : Below W2.heap.size W2 W3 := by rw [← hW3]; exact (Below.refl _ _).alloc (Nat.le_refl _) _
  have hb13 : Below w1.heap.size w1 W3 := hb2.trans (hb3.mono hb2.size)
  have hb3' : Below W1.heap.size W1 W3 := hb1.trans (hb13.mono hb1.size)
  have cNew := new_any W3
  rw [hW2, hW3]
  clear cL hrow
  refine cNew.mono ?_
  rintro e w4 ⟨rfl, hTO, hb4⟩
  have hz2 : W2.heap.size = w1.heap.size + 1 := by rw [← hW2]; simp
  rw [← hz2]
  clear hz2
  obtain ⟨W5, hW5⟩ : ∃ W5, w4.alloc (.cells #[.slice (some ⟨g, 0, none⟩) ts.length c, .int .i64 0, .int .i64 0, .map (some W2.heap.size), .pointer (some ⟨W3.heap.size, 0, none⟩)] 75) = W5 := ⟨_, rfl⟩
  have hb5 : Below w4.heap.size w4 W5 := by rw [← hW5]; exact (Below.refl _ _).alloc (Nat.le_refl _) _
  have hX5 : Blk W5 w4.heap.size 75 #[.slice (some ⟨g, 0, none⟩) ts.length c, .int .i64 0, .int .i64 0, .map (some W2.heap.size), .pointer (some ⟨W3.heap.size, 0, none⟩)] := by rw [← hW5]; exact Blk.new w4 75 _
  have hb35 : Below W3.heap.size W3 W5 := hb4.trans (hb5.mono hb4.size)
  have hs1 := hB0.size
  have hs2 := hB1.size
  have hs3 := hb1.size
  have hs4 := hb13.size
  have hs5 := hb4.size
  have hs6 := hb5.size
  have hb15 : Below w1.heap.size w1 W5 := hb13.trans (hb35.mono hs4)
  have hbW5 : Below w.heap.size w W5 := (hB01.trans (hb1.mono hB01.size)).trans (hb15.mono (by omega))
  have p5 : PS ⟨g, c, w4.heap.size, W3.heap.size, W3.heap.size, .map (some W2.heap.size), ts, fun _ => False⟩ W5 ⟨0, 0, [], []⟩ :=
    { env := hEnv.on hbW5
      blk := hX5
      tok := fun j u hu => (hb15.cell (p := ⟨g, j, none⟩) hg2).trans (hgc j u hu)
      gb := by show g < W3.heap.size; omega
      b6 := by show 6 ≤ W3.heap.size; have := hEnv.size; omega
      bw := hb35.size
      pbb := hs5
      cap := hg3
      built := ⟨_, _, [], [], ⟨hTO.below hb5, fun x hx => by simp at hx, fun x hx => by simp at hx⟩, rfl, rfl⟩
      n1 := by simp
      n2 := by simp
      f1 := fun x hx => by simp at hx
      f2 := fun x hx => by simp at hx
      kb := by simp
      ob := by simp
      lb := hlen
      ll := fun b hb => hb.elim }
  have cR := hR _ W5 _ i s' rfl p5 hT.pos hM
  go_wp2_with fail
  obtain ⟨B, HBe⟩ : ∃ B : PE, Hid ((⟨g, c, w4.heap.size, W3.heap.size, W3.heap.size, .map (some W2.heap.size), ts, fun _ => False⟩ : PE) = B) := ⟨_, Lib.hid rfl⟩
  have HBts : Hid (B.ts = ts) := Lib.hid (by rw [← HBe.out])
  have HBpb : Hid (w4.heap.size = B.pb) := Lib.hid (by rw [← HBe.out])
  have HBb : Hid (W3.heap.size = B.base) := Lib.hid (by rw [← HBe.out])
  have HBcb : Hid (W3.heap.size = B.cb) := Lib.hid (by rw [← HBe.out])
  rw [HBe.out] at cR p5
  unfold PE.ptr at cR
  rw [← HBpb.out] at cR
  have hX0' : Blk W5 w.heap.size 27 #[.slice none 0 0, .slice none 0 0, .slice none 0 0] := (((hX0.below hB1 hX0.lt).below hb1 (Nat.lt_of_lt_of_le hX0.lt hB1.size)).below hb15 (Nat.lt_of_lt_of_le (Nat.lt_of_lt_of_le hX0.lt hB1.size) hb1.size))
  have hX1' : Blk W5 W0.heap.size 30 #[.int .i64 0, .int .i64 0, .string ⟨#[]⟩] := (hX1.below hb1 hX1.lt).below hb15 (Nat.lt_of_lt_of_le hX1.lt hb1.size)
  have hl0 := hX0.lt
  have hl1 := hX1.lt
  refine cR.mono ?_
  rintro e w6 ⟨rfl, a6⟩
  have A6 := Lib.hid a6
  have P5 := Lib.hid p5
  have HX0' := Lib.hid hX0'
  have HX1' := Lib.hid hX1'
  have HbW5 := Lib.hid hbW5
  have HMM := Lib.hid hmm
  have cK : Calls Tryz.prog 38 #[.pointer (some ⟨w4.heap.size, 0, none⟩), .int .i64 0] w6 fun e w' => e = .returned (tokV (tkA ts s'.k)) ∧ Aft B w6 (s'.on 1) w' := by
    have := token_any a6.ps (by rw [HBts.out]; exact hk') 0 (by rw [HBts.out]; exact hE)
    rw [HBts.out] at this
    rw [HBpb.out]
    exact this
  go_wp2_with fail
  refine cK.mono ?_
  rintro e w7 ⟨rfl, a7⟩
  have a67 := a6.trans a7
  obtain ⟨v1, v2, r1, r2, hBI, e1, e2⟩ := a7.ps.built
  have cT := tree_any B.base B.cb w7 hBI.tr (by have := a7.ps.n1; rw [← e1] at this; simpa using this) (by have := a7.ps.n2; rw [← e2] at this; simpa using this) (by simp)
    (fun x hx => a7.ps.f1 _ (by rw [← e1]; exact List.mem_map_of_mem hx)) (fun x hx => a7.ps.f2 _ (by rw [← e2]; exact List.mem_map_of_mem hx))
  rw [e1, e2] at cT
  have c4 := a7.ps.blk.cell 4
  simp only [PE.cells, List.getElem?_toArray, List.getElem?_cons_zero, List.getElem?_cons_succ] at c4
  rw [← HBpb.out] at c4
  have hX0'' := hX0'.below a67.bel (by rw [← HBb.out]; omega)
  have hX1'' := hX1'.below a67.bel (by rw [← HBb.out]; omega)
  have hbW7 : Below w.heap.size w w7 := hbW5.trans (a67.bel.mono (by rw [← HBb.out]; omega))
  have l7 := a67.bel.size
  clear cK cR a6 a7 hBI e1 e2
  go_wp2_with fail
  refine cT.mono ?_
  rintro e w8 ⟨p', rfl, hTA, hb8⟩
  have hX0a := hX0''.below hb8 (by omega)
  have hX1a := hX1''.below hb8 (by omega)
  have x0 := hX0a.cell 0
  have x1 := hX0a.cell 1
  have x2 := hX0a.cell 2
  have y0 := hX0a.frozen 0
  have y1 := hX0a.frozen 1
  have y2 := hX0a.frozen 2
  have x3 := hX1a.cell 0
  have x4 := hX1a.cell 1
  have x5 := hX1a.cell 2
  have y3 := hX1a.frozen 0
  have y4 := hX1a.frozen 1
  have y5 := hX1a.frozen 2
  simp only [List.getElem?_toArray, List.getElem?_cons_zero, List.getElem?_cons_succ] at x0 x1 x2 x3 x4 x5
  have hne1 : (w.heap.size = W0.heap.size) = False := eq_false (by omega)
  have hne2 : (W0.heap.size = w.heap.size) = False := eq_false (by omega)
  have HX0 := Lib.hid hX0a
  have HX1 := Lib.hid hX1a
  have HB7 := Lib.hid hbW7
  have HB8 := Lib.hid hb8
  have HTA := Lib.hid hTA
  have HP7 := Lib.hid a67.ps
  clear cT hX0 hX1 hX0' hX1' hX0'' hX1'' hX0a hX1a hb8 hbW7 hTA a67 p5 hb35 hb15 hbW5 hb13 hb3' hb3 hb2 hb1 hb4 hb5 hB01 hB0 hB1 hW0 hW1 hW2 hW3 hW5 hX5 hTO hgc
  go_wp2_with fail
  have hZ0 := (((HX0.out.set_ 0 (.slice p'.a1 s'.t1.length p'.c1)).set_ 1 (.slice p'.a2 s'.t2.length p'.c2)).set_ 2 (.slice p'.a3 0 p'.c3)).far (p := ⟨W0.heap.size, 0, none⟩) (by dsimp only; omega) (.int .i64 0) |>.far (p := ⟨W0.heap.size, 1, none⟩) (by dsimp only; omega) (.int .i64 0) |>.far (p := ⟨W0.heap.size, 2, none⟩) (by dsimp only; omega) (.string ⟨#[]⟩)
  have hZ1 := ((((((HX1.out.far (p := ⟨w.heap.size, 0, none⟩) (by dsimp only; omega) (.slice p'.a1 s'.t1.length p'.c1)).far (p := ⟨w.heap.size, 1, none⟩) (by dsimp only; omega) (.slice p'.a2 s'.t2.length p'.c2)).far (p := ⟨w.heap.size, 2, none⟩) (by dsimp only; omega) (.slice p'.a3 0 p'.c3)).set_ 0 (.int .i64 0)).set_ 1 (.int .i64 0)).set_ 2 (.string ⟨#[]⟩))
  have q0 := hZ0.cell 0
  have q1 := hZ0.cell 1
  have q2 := hZ0.cell 2
  have q3 := hZ1.cell 0
  have q4 := hZ1.cell 1
  have q5 := hZ1.cell 2
  simp only [List.setIfInBounds_toArray, List.set_cons_zero, List.set_cons_succ, List.getElem?_toArray, List.getElem?_cons_zero, List.getElem?_cons_succ] at q0 q1 q2 q3 q4 q5
  refine leaves_cons (f := 36) (args := #[.pointer (some ⟨W0.heap.size, 0, none⟩)]) (by simp) (by simp [go_sem]) ?_
  refine (catch_idle ⟨W0.heap.size, 0, none⟩ _).mono ?_
  rintro e u' w9 ⟨rfl, rfl, rfl⟩
  refine ⟨.tuple #[treeV ⟨s'.t1, s'.t2, []⟩ p', .agg #[.int .i64 0, .int .i64 0, .string ⟨#[]⟩]], by simp [results, Tryz.results18, go_sem, St.on, q0, q1, q2, q3, q4, q5], p', rfl, ?_, ?_⟩
  · have hw8 := HB8.out.size
    refine (HTA.out.keep (fun b o hb => ?_)).imp (fun b hb => ⟨by have := hb.1; omega, by simpa using hb.2⟩)
    have hb1 := hb.1
    rw [World.cell?_setCell_other _ _ _ _ (by intro e; injection e; omega), World.cell?_setCell_other _ _ _ _ (by intro e; injection e; omega), World.cell?_setCell_other _ _ _ _ (by intro e; injection e; omega), World.cell?_setCell_other _ _ _ _ (by intro e; injection e; omega), World.cell?_setCell_other _ _ _ _ (by intro e; injection e; omega), World.cell?_setCell_other _ _ _ _ (by intro e; injection e; omega)]
  · have h0 : w.heap.size ≤ w.heap.size := Nat.le_refl _
    exact ((((((HB7.out.trans (HB8.out.mono (by omega))).setCell (p := ⟨w.heap.size, 0, none⟩) h0 _).setCell (p := ⟨w.heap.size, 1, none⟩) h0 _).setCell (p := ⟨w.heap.size, 2, none⟩) h0 _).setCell (p := ⟨W0.heap.size, 0, none⟩) hs1 _).setCell (p := ⟨W0.heap.size, 1, none⟩) hs1 _).setCell (p := ⟨W0.heap.size, 2, none⟩) hs1 _
set_option maxRecDepth 100000 in
set_option maxHeartbeats 8000000 in
theorem parsed20 {l : List UInt8} {ts : List Tk} {i : Nat} {s' : St} (hA : lexA l = .ok ts) (hT : TsOk ts) (hlen : ts.length ≤ 2097152) (M : St → PR) (hR : Rule0 ts 20 M) (hM : M ⟨0, 0, [], []⟩ = .ok i s') (hE : (tkA ts s'.k).1 = 0) (hk' : s'.k < ts.length)
    (a : Option Addr) (len cap : Nat) (w : World) (hl : l.length = len) (hEnv : Env w) (hI : TextAt w.heap.size w (.slice a len cap) l) :
    Calls Tryz.prog 18 #[.slice a len cap, .func (.func 20) #[] #[]] w fun e w' => ∃ p', e = .returned (.tuple #[treeV ⟨s'.t1, s'.t2, []⟩ p', .agg #[.int .i64 0, .int .i64 0, .string ⟨#[]⟩]]) ∧ TreeAt (fun b => w.heap.size ≤ b ∧ b < w'.heap.size) w' ⟨s'.t1, s'.t2, []⟩ p' ∧ Below w.heap.size w w' := by
  obtain ⟨W0, hW0⟩ : ∃ W0, w.alloc (.cells #[.slice none 0 0, .slice none 0 0, .slice none 0 0] 27) = W0 := ⟨_, rfl⟩
  obtain ⟨W1, hW1⟩ : ∃ W1, W0.alloc (.cells #[.int .i64 0, .int .i64 0, .string ⟨#[]⟩] 30) = W1 := ⟨_, rfl⟩
  have hB0 : Below w.heap.size w W0 := by rw [← hW0]; exact (Below.refl _ _).alloc (Nat.le_refl _) _
  have hB1 : Below W0.heap.size W0 W1 := by rw [← hW1]; exact (Below.refl _ _).alloc (Nat.le_refl _) _
  have hX0 : Blk W0 w.heap.size 27 #[.slice none 0 0, .slice none 0 0, .slice none 0 0] := by rw [← hW0]; exact Blk.new w 27 _
  have hX1 : Blk W1 W0.heap.size 30 #[.int .i64 0, .int .i64 0, .string ⟨#[]⟩] := by rw [← hW1]; exact Blk.new W0 30 _
  have hB01 : Below w.heap.size w W1 := hB0.trans (hB1.mono hB0.size)
  have cL := lex_any a len cap l W1 (hEnv.on hB01) hl (TextAt.more hB01.size (hI.below hB01))
  have hmf : ∀ (fn : Fn) (first cap : Array Value) (w : World), (Instr.makeFunc fn first cap).run Tryz.prog w = .ok (.func fn first cap) w := fun _ _ _ _ => rfl
  unfold LexPost at cL
  rw [hA] at cL
  dsimp only at cL
  have hmm := @run_makeMap Tryz.prog
  go_enter_defers Tryz.func18, Tryz.ntmps18
  go_wp2_with fail
  refine cL.mono ?_
  rintro e w1 ⟨⟨v, rfl, hrow⟩, hb1⟩
  obtain ⟨g, c, rfl, hg1, hg2, hg3, hgc⟩ := row_cells hrow hT.pos
  go_wp2_with fail
  obtain ⟨W2, hW2⟩ : ∃ W2, w1.alloc (.cells #[.int .i64 0, .int .i64 0, .string ⟨#[]⟩] 30) = W2 := ⟨_, rfl⟩
  obtain ⟨W3, hW3⟩ : ∃ W3, W2.alloc (.map #[] 0) = W3 := ⟨_, rfl⟩
  have hb2 : Below w1.heap.size w1 W2 := by rw [← hW2]; exact (Below.refl _ _).alloc (Nat.le_refl _) _
  have hb3 : Below W2.heap.size W2 W3 := by rw [← hW3]; exact (Below.refl _ _).alloc (Nat.le_refl _) _
  have hb13 : Below w1.heap.size w1 W3 := hb2.trans (hb3.mono hb2.size)
  have hb3' : Below W1.heap.size W1 W3 := hb1.trans (hb13.mono hb1.size)
  have cNew := new_any W3
  rw [hW2, hW3]
  clear cL hrow
  refine cNew.mono ?_
  rintro e w4 ⟨rfl, hTO, hb4⟩
  have hz2 : W2.heap.size = w1.heap.size + 1 := by rw [← hW2]; simp
  rw [← hz2]
  clear hz2
  obtain ⟨W5, hW5⟩ : ∃ W5, w4.alloc (.cells #[.slice (some ⟨g, 0, none⟩) ts.length c, .int .i64 0, .int .i64 0, .map (some W2.heap.size), .pointer (some ⟨W3.heap.size, 0, none⟩)] 75) = W5 := ⟨_, rfl⟩
  have hb5 : Below w4.heap.size w4 W5 := by rw [← hW5]; exact (Below.refl _ _).alloc (Nat.le_refl _) _
  have hX5 : Blk W5 w4.heap.size 75 #[.slice (some ⟨g, 0, none⟩) ts.length c, .int .i64 0, .int .i64 0, .map (some W2.heap.size), .pointer (some ⟨W3.heap.size, 0, none⟩)] := by rw [← hW5]; exact Blk.new w4 75 _
  have hb35 : Below W3.heap.size W3 W5 := hb4.trans (hb5.mono hb4.size)
  have hs1 := hB0.size
  have hs2 := hB1.size
  have hs3 := hb1.size
  have hs4 := hb13.size
  have hs5 := hb4.size
  have hs6 := hb5.size
  have hb15 : Below w1.heap.size w1 W5 := hb13.trans (hb35.mono hs4)
  have hbW5 : Below w.heap.size w W5 := (hB01.trans (hb1.mono hB01.size)).trans (hb15.mono (by omega))
  have p5 : PS ⟨g, c, w4.heap.size, W3.heap.size, W3.heap.size, .map (some W2.heap.size), ts, fun _ => False⟩ W5 ⟨0, 0, [], []⟩ :=
    { env := hEnv.on hbW5
      blk := hX5
      tok := fun j u hu => (hb15.cell (p := ⟨g, j, none⟩) hg2).trans (hgc j u hu)
      gb := by show g < W3.heap.size; omega
      b6 := by show 6 ≤ W3.heap.size; have := hEnv.size; omega
      bw := hb35.size
      pbb := hs5
      cap := hg3
      built := ⟨_, _, [], [], ⟨hTO.below hb5, fun x hx => by simp at hx, fun x hx => by simp at hx⟩, rfl, rfl⟩
      n1 := by simp
      n2 := by simp
      f1 := fun x hx => by simp at hx
      f2 := fun x hx => by simp at hx
      kb := by simp
      ob := by simp
      lb := hlen
      ll := fun b hb => hb.elim }
  have cR := hR _ W5 _ i s' rfl p5 hT.pos hM
  go_wp2_with fail
  obtain ⟨B, HBe⟩ : ∃ B : PE, Hid ((⟨g, c, w4.heap.size, W3.heap.size, W3.heap.size, .map (some W2.heap.size), ts, fun _ => False⟩ : PE) = B) := ⟨_, Lib.hid rfl⟩
  have HBts : Hid (B.ts = ts) := Lib.hid (by rw [← HBe.out])
  have HBpb : Hid (w4.heap.size = B.pb) := Lib.hid (by rw [← HBe.out])
  have HBb : Hid (W3.heap.size = B.base) := Lib.hid (by rw [← HBe.out])
  have HBcb : Hid (W3.heap.size = B.cb) := Lib.hid (by rw [← HBe.out])
  rw [HBe.out] at cR p5
  unfold PE.ptr at cR
  rw [← HBpb.out] at cR
  have hX0' : Blk W5 w.heap.size 27 #[.slice none 0 0, .slice none 0 0, .slice none 0 0] := (((hX0.below hB1 hX0.lt).below hb1 (Nat.lt_of_lt_of_le hX0.lt hB1.size)).below hb15 (Nat.lt_of_lt_of_le (Nat.lt_of_lt_of_le hX0.lt hB1.size) hb1.size))
  have hX1' : Blk W5 W0.heap.size 30 #[.int .i64 0, .int .i64 0, .string ⟨#[]⟩] := (hX1.below hb1 hX1.lt).below hb15 (Nat.lt_of_lt_of_le hX1.lt hb1.size)
  have hl0 := hX0.lt
  have hl1 := hX1.lt
  refine cR.mono ?_
  rintro e w6 ⟨rfl, a6⟩
  have A6 := Lib.hid a6
  have P5 := Lib.hid p5
  have HX0' := Lib.hid hX0'
  have HX1' := Lib.hid hX1'
  have HbW5 := Lib.hid hbW5
  have HMM := Lib.hid hmm
  have cK : Calls Tryz.prog 38 #[.pointer (some ⟨w4.heap.size, 0, none⟩), .int .i64 0] w6 fun e w' => e = .returned (tokV (tkA ts s'.k)) ∧ Aft B w6 (s'.on 1) w' := by
    have := token_any a6.ps (by rw [HBts.out]; exact hk') 0 (by rw [HBts.out]; exact hE)
    rw [HBts.out] at this
    rw [HBpb.out]
    exact this
  go_wp2_with fail
  refine cK.mono ?_
  rintro e w7 ⟨rfl, a7⟩
  have a67 := a6.trans a7
  obtain ⟨v1, v2, r1, r2, hBI, e1, e2⟩ := a7.ps.built
  have cT := tree_any B.base B.cb w7 hBI.tr (by have := a7.ps.n1; rw [← e1] at this; simpa using this) (by have := a7.ps.n2; rw [← e2] at this; simpa using this) (by simp)
    (fun x hx => a7.ps.f1 _ (by rw [← e1]; exact List.mem_map_of_mem hx)) (fun x hx => a7.ps.f2 _ (by rw [← e2]; exact List.mem_map_of_mem hx))
  rw [e1, e2] at cT
  have c4 := a7.ps.blk.cell 4
  simp only [PE.cells, List.getElem?_toArray, List.getElem?_cons_zero, List.getElem?_cons_succ] at c4
  rw [← HBpb.out] at c4
  have hX0'' := hX0'.below a67.bel (by rw [← HBb.out]; omega)
  have hX1'' := hX1'.below a67.bel (by rw [← HBb.out]; omega)
  have hbW7 : Below w.heap.size w w7 := hbW5.trans (a67.bel.mono (by rw [← HBb.out]; omega))
  have l7 := a67.bel.size
  clear cK cR a6 a7 hBI e1 e2
  go_wp2_with fail
  refine cT.mono ?_
  rintro e w8 ⟨p', rfl, hTA, hb8⟩
  have hX0a := hX0''.below hb8 (by omega)
  have hX1a := hX1''.below hb8 (by omega)
  have x0 := hX0a.cell 0
  have x1 := hX0a.cell 1
  have x2 := hX0a.cell 2
  have y0 := hX0a.frozen 0
  have y1 := hX0a.frozen 1
  have y2 := hX0a.frozen 2
  have x3 := hX1a.cell 0
  have x4 := hX1a.cell 1
  have x5 := hX1a.cell 2
  have y3 := hX1a.frozen 0
  have y4 := hX1a.frozen 1
  have y5 := hX1a.frozen 2
  simp only [List.getElem?_toArray, List.getElem?_cons_zero, List.getElem?_cons_succ] at x0 x1 x2 x3 x4 x5
  have hne1 : (w.heap.size = W0.heap.size) = False := eq_false (by omega)
  have hne2 : (W0.heap.size = w.heap.size) = False := eq_false (by omega)
  have HX0 := Lib.hid hX0a
  have HX1 := Lib.hid hX1a
  have HB7 := Lib.hid hbW7
  have HB8 := Lib.hid hb8
  have HTA := Lib.hid hTA
  have HP7 := Lib.hid a67.ps
  clear cT hX0 hX1 hX0' hX1' hX0'' hX1'' hX0a hX1a hb8 hbW7 hTA a67 p5 hb35 hb15 hbW5 hb13 hb3' hb3 hb2 hb1 hb4 hb5 hB01 hB0 hB1 hW0 hW1 hW2 hW3 hW5 hX5 hTO hgc
  go_wp2_with fail
  have hZ0 := (((HX0.out.set_ 0 (.slice p'.a1 s'.t1.length p'.c1)).set_ 1 (.slice p'.a2 s'.t2.length p'.c2)).set_ 2 (.slice p'.a3 0 p'.c3)).far (p := ⟨W0.heap.size, 0, none⟩) (by dsimp only; omega) (.int .i64 0) |>.far (p := ⟨W0.heap.size, 1, none⟩) (by dsimp only; omega) (.int .i64 0) |>.far (p := ⟨W0.heap.size, 2, none⟩) (by dsimp only; omega) (.string ⟨#[]⟩)
  have hZ1 := ((((((HX1.out.far (p := ⟨w.heap.size, 0, none⟩) (by dsimp only; omega) (.slice p'.a1 s'.t1.length p'.c1)).far (p := ⟨w.heap.size, 1, none⟩) (by dsimp only; omega) (.slice p'.a2 s'.t2.length p'.c2)).far (p := ⟨w.heap.size, 2, none⟩) (by dsimp only; omega) (.slice p'.a3 0 p'.c3)).set_ 0 (.int .i64 0)).set_ 1 (.int .i64 0)).set_ 2 (.string ⟨#[]⟩))
  have q0 := hZ0.cell 0
  have q1 := hZ0.cell 1
  have q2 := hZ0.cell 2
  have q3 := hZ1.cell 0
  have q4 := hZ1.cell 1
  have q5 := hZ1.cell 2
  simp only [List.setIfInBounds_toArray, List.set_cons_zero, List.set_cons_succ, List.getElem?_toArray, List.getElem?_cons_zero, List.getElem?_cons_succ] at q0 q1 q2 q3 q4 q5
  refine leaves_cons (f := 36) (args := #[.pointer (some ⟨W0.heap.size, 0, none⟩)]) (by simp) (by simp [go_sem]) ?_
  refine (catch_idle ⟨W0.heap.size, 0, none⟩ _).mono ?_
  rintro e u' w9 ⟨rfl, rfl, rfl⟩
  refine ⟨.tuple #[treeV ⟨s'.t1, s'.t2, []⟩ p', .agg #[.int .i64 0, .int .i64 0, .string ⟨#[]⟩]], by simp [results, Tryz.results18, go_sem, St.on, q0, q1, q2, q3, q4, q5], p', rfl, ?_, ?_⟩
  · have hw8 := HB8.out.size
    refine (HTA.out.keep (fun b o hb => ?_)).imp (fun b hb => ⟨by have := hb.1; omega, by simpa using hb.2⟩)
    have hb1 := hb.1
    rw [World.cell?_setCell_other _ _ _ _ (by intro e; injection e; omega), World.cell?_setCell_other _ _ _ _ (by intro e; injection e; omega), World.cell?_setCell_other _ _ _ _ (by intro e; injection e; omega), World.cell?_setCell_other _ _ _ _ (by intro e; injection e; omega), World.cell?_setCell_other _ _ _ _ (by intro e; injection e; omega), World.cell?_setCell_other _ _ _ _ (by intro e; injection e; omega)]
  · have h0 : w.heap.size ≤ w.heap.size := Nat.le_refl _
    exact ((((((HB7.out.trans (HB8.out.mono (by omega))).setCell (p := ⟨w.heap.size, 0, none⟩) h0 _).setCell (p := ⟨w.heap.size, 1, none⟩) h0 _).setCell (p := ⟨w.heap.size, 2, none⟩) h0 _).setCell (p := ⟨W0.heap.size, 0, none⟩) hs1 _).setCell (p := ⟨W0.heap.size, 1, none⟩) hs1 _).setCell (p := ⟨W0.heap.size, 2, none⟩) hs1 _

set_option maxRecDepth 100000 in
set_option maxHeartbeats 8000000 in
theorem ptext_any {l : List UInt8} {ts : List Tk} {i : Nat} {s' : St} (hA : lexA l = .ok ts) (hT : TsOk ts) (hlen : ts.length ≤ 2097152) (M : St → PR) (hR : Rule0 ts 19 M) (hM : M ⟨0, 0, [], []⟩ = .ok i s') (hE : (tkA ts s'.k).1 = 0) (hk' : s'.k < ts.length)
    (a : Option Addr) (len cap : Nat) (w : World) (hl : l.length = len) (hEnv : Env w) (hI : TextAt w.heap.size w (.slice a len cap) l) :
    Calls Tryz.prog 9 #[.slice a len cap] w fun e w' => ∃ p', e = .returned (.tuple #[treeV ⟨s'.t1, s'.t2, []⟩ p', .agg #[.int .i64 0, .int .i64 0, .string ⟨#[]⟩]]) ∧ TreeAt (fun b => w.heap.size ≤ b ∧ b < w'.heap.size) w' ⟨s'.t1, s'.t2, []⟩ p' ∧ Below w.heap.size w w' := by
  obtain ⟨W0, hW0⟩ : ∃ W0, w.alloc (.cells #[.slice none 0 0, .slice none 0 0, .slice none 0 0] 27) = W0 := ⟨_, rfl⟩
  obtain ⟨W1, hW1⟩ : ∃ W1, W0.alloc (.cells #[.int .i64 0, .int .i64 0, .string ⟨#[]⟩] 30) = W1 := ⟨_, rfl⟩
  have hB0 : Below w.heap.size w W0 := by rw [← hW0]; exact (Below.refl _ _).alloc (Nat.le_refl _) _
  have hB1 : Below W0.heap.size W0 W1 := by rw [← hW1]; exact (Below.refl _ _).alloc (Nat.le_refl _) _
  have hX0 : Blk W0 w.heap.size 27 #[.slice none 0 0, .slice none 0 0, .slice none 0 0] := by rw [← hW0]; exact Blk.new w 27 _
  have hX1 : Blk W1 W0.heap.size 30 #[.int .i64 0, .int .i64 0, .string ⟨#[]⟩] := by rw [← hW1]; exact Blk.new W0 30 _
  have hB01 : Below w.heap.size w W1 := hB0.trans (hB1.mono hB0.size)
  have cP := parsed19 hA hT hlen M hR hM hE hk' a len cap W1 hl (hEnv.on hB01) (TextAt.more hB01.size (hI.below hB01))
  have hl0 := hX0.lt
  have hl1 := hX1.lt
  have hs1 := hB0.size
  have hs2 := hB1.size
  have HX0 := Lib.hid (hX0.below hB1 hl0)
  have HX1 := Lib.hid hX1
  have HB01 := Lib.hid hB01
  clear hA hT hR hM hE hk' hI hB0 hB1 hX0 hX1 hB01
  go_enter Tryz.func9, Tryz.ntmps9
  go_wp2_with fail
  refine cP.mono ?_
  rintro e w8 ⟨p', rfl, hTA, hb8⟩
  have hX0a := HX0.out.below hb8 (by omega)
  have hX1a := HX1.out.below hb8 hl1
  have x0 := hX0a.cell 0
  have x1 := hX0a.cell 1
  have x2 := hX0a.cell 2
  have y0 := hX0a.frozen 0
  have y1 := hX0a.frozen 1
  have y2 := hX0a.frozen 2
  have x3 := hX1a.cell 0
  have x4 := hX1a.cell 1
  have x5 := hX1a.cell 2
  have y3 := hX1a.frozen 0
  have y4 := hX1a.frozen 1
  have y5 := hX1a.frozen 2
  simp only [List.getElem?_toArray, List.getElem?_cons_zero, List.getElem?_cons_succ] at x0 x1 x2 x3 x4 x5
  have hne1 : (w.heap.size = W0.heap.size) = False := eq_false (by omega)
  have hne2 : (W0.heap.size = w.heap.size) = False := eq_false (by omega)
  have HX0a := Lib.hid hX0a
  have HX1a := Lib.hid hX1a
  have HB8 := Lib.hid hb8
  have HTA := Lib.hid hTA
  clear hX0a hX1a hb8 hTA cP hW0 hW1
  go_wp2_with fail
  have hZ0 := (((HX0a.out.set_ 0 (.slice p'.a1 s'.t1.length p'.c1)).set_ 1 (.slice p'.a2 s'.t2.length p'.c2)).set_ 2 (.slice p'.a3 0 p'.c3)).far (p := ⟨W0.heap.size, 0, none⟩) (by dsimp only; omega) (.int .i64 0) |>.far (p := ⟨W0.heap.size, 1, none⟩) (by dsimp only; omega) (.int .i64 0) |>.far (p := ⟨W0.heap.size, 2, none⟩) (by dsimp only; omega) (.string ⟨#[]⟩)
  have hZ1 := ((((((HX1a.out.far (p := ⟨w.heap.size, 0, none⟩) (by dsimp only; omega) (.slice p'.a1 s'.t1.length p'.c1)).far (p := ⟨w.heap.size, 1, none⟩) (by dsimp only; omega) (.slice p'.a2 s'.t2.length p'.c2)).far (p := ⟨w.heap.size, 2, none⟩) (by dsimp only; omega) (.slice p'.a3 0 p'.c3)).set_ 0 (.int .i64 0)).set_ 1 (.int .i64 0)).set_ 2 (.string ⟨#[]⟩))
  have q0 := hZ0.cell 0
  have q1 := hZ0.cell 1
  have q2 := hZ0.cell 2
  have q3 := hZ1.cell 0
  have q4 := hZ1.cell 1
  have q5 := hZ1.cell 2
  simp only [List.setIfInBounds_toArray, List.set_cons_zero, List.set_cons_succ, List.getElem?_toArray, List.getElem?_cons_zero, List.getElem?_cons_succ] at q0 q1 q2 q3 q4 q5
  refine bodyPost_ret (v := .tuple #[treeV ⟨s'.t1, s'.t2, []⟩ p', .agg #[.int .i64 0, .int .i64 0, .string ⟨#[]⟩]]) (by simp [results, Tryz.results9, go_sem, q0, q1, q2, q3, q4, q5]) rfl ⟨p', rfl, ?_, ?_⟩
  · have hw8 := HB8.out.size
    refine (HTA.out.keep (fun b o hb => ?_)).imp (fun b hb => ⟨by have := hb.1; omega, by simpa using hb.2⟩)
    have hb1 := hb.1
    rw [World.cell?_setCell_other _ _ _ _ (by intro e; injection e; omega), World.cell?_setCell_other _ _ _ _ (by intro e; injection e; omega), World.cell?_setCell_other _ _ _ _ (by intro e; injection e; omega), World.cell?_setCell_other _ _ _ _ (by intro e; injection e; omega), World.cell?_setCell_other _ _ _ _ (by intro e; injection e; omega), World.cell?_setCell_other _ _ _ _ (by intro e; injection e; omega)]
  · have h0 : w.heap.size ≤ w.heap.size := Nat.le_refl _
    exact ((((((HB01.out.trans (HB8.out.mono (by omega))).setCell (p := ⟨w.heap.size, 0, none⟩) h0 _).setCell (p := ⟨w.heap.size, 1, none⟩) h0 _).setCell (p := ⟨w.heap.size, 2, none⟩) h0 _).setCell (p := ⟨W0.heap.size, 0, none⟩) hs1 _).setCell (p := ⟨W0.heap.size, 1, none⟩) hs1 _).setCell (p := ⟨W0.heap.size, 2, none⟩) hs1 _

set_option maxRecDepth 100000 in
set_option maxHeartbeats 8000000 in
theorem ptype_any {l : List UInt8} {ts : List Tk} {i : Nat} {s' : St} (hA : lexA l = .ok ts) (hT : TsOk ts) (hlen : ts.length ≤ 2097152) (M : St → PR) (hR : Rule0 ts 20 M) (hM : M ⟨0, 0, [], []⟩ = .ok i s') (hE : (tkA ts s'.k).1 = 0) (hk' : s'.k < ts.length)
    (a : Option Addr) (len cap : Nat) (w : World) (hl : l.length = len) (hEnv : Env w) (hI : TextAt w.heap.size w (.slice a len cap) l) :
    Calls Tryz.prog 10 #[.slice a len cap] w fun e w' => ∃ p', e = .returned (.tuple #[treeV ⟨s'.t1, s'.t2, []⟩ p', .agg #[.int .i64 0, .int .i64 0, .string ⟨#[]⟩]]) ∧ TreeAt (fun b => w.heap.size ≤ b ∧ b < w'.heap.size) w' ⟨s'.t1, s'.t2, []⟩ p' ∧ Below w.heap.size w w' := by
  obtain ⟨W0, hW0⟩ : ∃ W0, w.alloc (.cells #[.slice none 0 0, .slice none 0 0, .slice none 0 0] 27) = W0 := ⟨_, rfl⟩
  obtain ⟨W1, hW1⟩ : ∃ W1, W0.alloc (.cells #[.int .i64 0, .int .i64 0, .string ⟨#[]⟩] 30) = W1 := ⟨_, rfl⟩
  have hB0 : Below w.heap.size w W0 := by rw [← hW0]; exact (Below.refl _ _).alloc (Nat.le_refl _) _
  have hB1 : Below W0.heap.size W0 W1 := by rw [← hW1]; exact (Below.refl _ _).alloc (Nat.le_refl _) _
  have hX0 : Blk W0 w.heap.size 27 #[.slice none 0 0, .slice none 0 0, .slice none 0 0] := by rw [← hW0]; exact Blk.new w 27 _
  have hX1 : Blk W1 W0.heap.size 30 #[.int .i64 0, .int .i64 0, .string ⟨#[]⟩] := by rw [← hW1]; exact Blk.new W0 30 _
  have hB01 : Below w.heap.size w W1 := hB0.trans (hB1.mono hB0.size)
  have cP := parsed20 hA hT hlen M hR hM hE hk' a len cap W1 hl (hEnv.on hB01) (TextAt.more hB01.size (hI.below hB01))
  have hl0 := hX0.lt
  have hl1 := hX1.lt
  have hs1 := hB0.size
  have hs2 := hB1.size
  have HX0 := Lib.hid (hX0.below hB1 hl0)
  have HX1 := Lib.hid hX1
  have HB01 := Lib.hid hB01
  clear hA hT hR hM hE hk' hI hB0 hB1 hX0 hX1 hB01
  go_enter Tryz.func10, Tryz.ntmps10
  go_wp2_with fail
  refine cP.mono ?_
  rintro e w8 ⟨p', rfl, hTA, hb8⟩
  have hX0a := HX0.out.below hb8 (by omega)
  have hX1a := HX1.out.below hb8 hl1
  have x0 := hX0a.cell 0
  have x1 := hX0a.cell 1
  have x2 := hX0a.cell 2
  have y0 := hX0a.frozen 0
  have y1 := hX0a.frozen 1
  have y2 := hX0a.frozen 2
  have x3 := hX1a.cell 0
  have x4 := hX1a.cell 1
  have x5 := hX1a.cell 2
  have y3 := hX1a.frozen 0
  have y4 := hX1a.frozen 1
  have y5 := hX1a.frozen 2
  simp only [List.getElem?_toArray, List.getElem?_cons_zero, List.getElem?_cons_succ] at x0 x1 x2 x3 x4 x5
  have hne1 : (w.heap.size = W0.heap.size) = False := eq_false (by omega)
  have hne2 : (W0.heap.size = w.heap.size) = False := eq_false (by omega)
  have HX0a := Lib.hid hX0a
  have HX1a := Lib.hid hX1a
  have HB8 := Lib.hid hb8
  have HTA := Lib.hid hTA
  clear hX0a hX1a hb8 hTA cP hW0 hW1
  go_wp2_with fail
  have hZ0 := (((HX0a.out.set_ 0 (.slice p'.a1 s'.t1.length p'.c1)).set_ 1 (.slice p'.a2 s'.t2.length p'.c2)).set_ 2 (.slice p'.a3 0 p'.c3)).far (p := ⟨W0.heap.size, 0, none⟩) (by dsimp only; omega) (.int .i64 0) |>.far (p := ⟨W0.heap.size, 1, none⟩) (by dsimp only; omega) (.int .i64 0) |>.far (p := ⟨W0.heap.size, 2, none⟩) (by dsimp only; omega) (.string ⟨#[]⟩)
  have hZ1 := ((((((HX1a.out.far (p := ⟨w.heap.size, 0, none⟩) (by dsimp only; omega) (.slice p'.a1 s'.t1.length p'.c1)).far (p := ⟨w.heap.size, 1, none⟩) (by dsimp only; omega) (.slice p'.a2 s'.t2.length p'.c2)).far (p := ⟨w.heap.size, 2, none⟩) (by dsimp only; omega) (.slice p'.a3 0 p'.c3)).set_ 0 (.int .i64 0)).set_ 1 (.int .i64 0)).set_ 2 (.string ⟨#[]⟩))
  have q0 := hZ0.cell 0
  have q1 := hZ0.cell 1
  have q2 := hZ0.cell 2
  have q3 := hZ1.cell 0
  have q4 := hZ1.cell 1
  have q5 := hZ1.cell 2
  simp only [List.setIfInBounds_toArray, List.set_cons_zero, List.set_cons_succ, List.getElem?_toArray, List.getElem?_cons_zero, List.getElem?_cons_succ] at q0 q1 q2 q3 q4 q5
  refine bodyPost_ret (v := .tuple #[treeV ⟨s'.t1, s'.t2, []⟩ p', .agg #[.int .i64 0, .int .i64 0, .string ⟨#[]⟩]]) (by simp [results, Tryz.results10, go_sem, q0, q1, q2, q3, q4, q5]) rfl ⟨p', rfl, ?_, ?_⟩
  · have hw8 := HB8.out.size
    refine (HTA.out.keep (fun b o hb => ?_)).imp (fun b hb => ⟨by have := hb.1; omega, by simpa using hb.2⟩)
    have hb1 := hb.1
    rw [World.cell?_setCell_other _ _ _ _ (by intro e; injection e; omega), World.cell?_setCell_other _ _ _ _ (by intro e; injection e; omega), World.cell?_setCell_other _ _ _ _ (by intro e; injection e; omega), World.cell?_setCell_other _ _ _ _ (by intro e; injection e; omega), World.cell?_setCell_other _ _ _ _ (by intro e; injection e; omega), World.cell?_setCell_other _ _ _ _ (by intro e; injection e; omega)]
  · have h0 : w.heap.size ≤ w.heap.size := Nat.le_refl _
    exact ((((((HB01.out.trans (HB8.out.mono (by omega))).setCell (p := ⟨w.heap.size, 0, none⟩) h0 _).setCell (p := ⟨w.heap.size, 1, none⟩) h0 _).setCell (p := ⟨w.heap.size, 2, none⟩) h0 _).setCell (p := ⟨W0.heap.size, 0, none⟩) hs1 _).setCell (p := ⟨W0.heap.size, 1, none⟩) hs1 _).setCell (p := ⟨W0.heap.size, 2, none⟩) hs1 _
end Go.Proofs.YtidmeodmkcomlaaGreatDoor
