/- Atoms: names, strings and numbers; what is selected of one. Rules that read an atom, what is selected of it, and what it is applied -/
import Derived.Test.YtjbdgjbmbohfmaaGreatDoorK15
import Derived.Deep.Cut
namespace Go.Proofs.YtjbdgjbmbohfmaaGreatDoor
open Go Go.Proofs Go.RowKit
abbrev nP3 : Ptr3 := ⟨none, 0, none, 0, none, 0⟩
abbrev zTerm : List Value := [.int .i64 0, .int .i64 0, .string ⟨#[]⟩, .int .i64 0, .int .u64 0, .slice none 0 0, .slice none 0 0, .slice none 0 0]

theorem bs_size (l : List UInt8) : (bs l).size = l.length := by simp [bs, ByteArray.size]
theorem bs_data (l : List UInt8) : (bs l).data.toList = l := by simp [bs]

theorem put8_blk {W : World} {g : Nat} {t : TypeId} {z0 z1 z2 z3 z4 z5 z6 z7 : Value} (h : Blk W g t [z0, z1, z2, z3, z4, z5, z6, z7].toArray) (v0 v1 v2 v3 v4 v5 v6 v7 : Value) : Blk ((((((((W.setCell ⟨g, 0, none⟩ v0).setCell ⟨g, 1, none⟩ v1).setCell ⟨g, 2, none⟩ v2).setCell ⟨g, 3, none⟩ v3).setCell ⟨g, 4, none⟩ v4).setCell ⟨g, 5, none⟩ v5).setCell ⟨g, 6, none⟩ v6).setCell ⟨g, 7, none⟩ v7) g t [v0, v1, v2, v3, v4, v5, v6, v7].toArray := by
 have := (((((((h.set_ 0 v0).set_ 1 v1).set_ 2 v2).set_ 3 v3).set_ 4 v4).set_ 5 v5).set_ 6 v6).set_ 7 v7
 simpa using this
theorem put8_below {w W : World} {n g : Nat} (h : Below n w W) (hg : n ≤ g) (v0 v1 v2 v3 v4 v5 v6 v7 : Value) : Below n w ((((((((W.setCell ⟨g, 0, none⟩ v0).setCell ⟨g, 1, none⟩ v1).setCell ⟨g, 2, none⟩ v2).setCell ⟨g, 3, none⟩ v3).setCell ⟨g, 4, none⟩ v4).setCell ⟨g, 5, none⟩ v5).setCell ⟨g, 6, none⟩ v6).setCell ⟨g, 7, none⟩ v7) :=
 (((((((h.setCell (p := ⟨g, 0, none⟩) hg _).setCell (p := ⟨g, 1, none⟩) hg _).setCell (p := ⟨g, 2, none⟩) hg _).setCell (p := ⟨g, 3, none⟩) hg _).setCell (p := ⟨g, 4, none⟩) hg _).setCell (p := ⟨g, 5, none⟩) hg _).setCell (p := ⟨g, 6, none⟩) hg _).setCell (p := ⟨g, 7, none⟩) hg _

set_option maxRecDepth 100000 in
set_option maxHeartbeats 8000000 in
theorem leaf_any {B : PE} {w : World} {s : St} (h : PS B w s) (hk : s.k < B.ts.length) (x : TermD) (hx : leafM (tkA B.ts s.k) = some x) (hlen : (tkA B.ts s.k).2.1.length ≤ 1048576) :
 Calls Tryz.prog 324 #[B.ptr] w fun e w' => e = .returned (.agg (termCells x nP3).toArray) ∧ Below w.heap.size w w' := by
 obtain ⟨W0, hW0⟩ : ∃ W0, w.alloc (.cells zTerm.toArray 60) = W0 := ⟨_, rfl⟩
 have hB0 : Below w.heap.size w W0 := by rw [← hW0]; exact (Below.refl _ _).alloc (Nat.le_refl _) _
 have hX0 : Blk W0 w.heap.size 60 zTerm.toArray := by rw [← hW0]; exact Blk.new w 60 _
 have cN := now_any (h.below hB0) hk
 have l0 := hX0.lt
 generalize tkA B.ts s.k = t at cN hx hlen
 have hX := Lib.hid hx
 clear hx h
 go_enter Tryz.func324, Tryz.ntmps324
 go_wp2_with fail
 with_reducible refine cN.mono ?_
 rintro e w1 ⟨rfl, hb1⟩
 obtain ⟨W2, hW2⟩ : ∃ W2, w1.alloc (.cells (tokL t).toArray 94) = W2 := ⟨_, rfl⟩
 have hB2 : Below W0.heap.size W0 W2 := by rw [← hW2]; exact hb1.alloc hb1.size _
 have hT2 : Blk W2 w1.heap.size 94 (tokL t).toArray := by rw [← hW2]; exact Blk.new w1 94 _
 have hX2 := hX0.below hB2 l0
 have t0 := hT2.cell 0
 have t1 := hT2.cell 1
 have t2 := hT2.cell 2
 simp only [List.getElem?_toArray, List.getElem?_cons_zero, List.getElem?_cons_succ] at t0 t1 t2
 have x0 := hX2.cell 0
 have x1 := hX2.cell 1
 have x2 := hX2.cell 2
 have x3 := hX2.cell 3
 have x4 := hX2.cell 4
 have x5 := hX2.cell 5
 have x6 := hX2.cell 6
 have x7 := hX2.cell 7
 have y0 := hX2.frozen 0
 have y1 := hX2.frozen 1
 have y2 := hX2.frozen 2
 have y3 := hX2.frozen 3
 have y4 := hX2.frozen 4
 have y5 := hX2.frozen 5
 have y6 := hX2.frozen 6
 have y7 := hX2.frozen 7
 simp only [List.getElem?_toArray, List.getElem?_cons_zero, List.getElem?_cons_succ] at x0 x1 x2 x3 x4 x5 x6 x7
 have XX := Lib.hid hX2
 have BB := Lib.hid (hB0.trans (hB2.mono hB0.size))
 clear hX2 hT2 hB2 hX0 hB0 cN hb1
 by_cases e1 : t.1 = 1
 ·have hx := hX.out
  unfold leafM at hx
  rw [if_pos e1] at hx
  have e1' : (t.1 : Int) = 1 := by omega
  rw [e1'] at t0
  injection hx with hx
  subst hx
  clear e1 e1' hX
  go_wp2_with fail
  have hZ := put8_blk XX.out (.int .i64 0) (.int .i64 (t.2.2 : Int)) (.string (bs t.2.1)) (.int .i64 0) (.int .u64 0) (.slice none 0 0) (.slice none 0 0) (.slice none 0 0)
  have q0 := hZ.cell 0
  have q1 := hZ.cell 1
  have q2 := hZ.cell 2
  have q3 := hZ.cell 3
  have q4 := hZ.cell 4
  have q5 := hZ.cell 5
  have q6 := hZ.cell 6
  have q7 := hZ.cell 7
  simp only [List.getElem?_toArray, List.getElem?_cons_zero, List.getElem?_cons_succ] at q0 q1 q2 q3 q4 q5 q6 q7
  exact bodyPost_ret (v := .agg [.int .i64 0, .int .i64 (t.2.2 : Int), .string (bs t.2.1), .int .i64 0, .int .u64 0, .slice none 0 0, .slice none 0 0, .slice none 0 0].toArray) (by simp [results, Tryz.results324, go_sem, q0, q1, q2, q3, q4, q5, q6, q7]) rfl ⟨rfl, put8_below BB.out (Nat.le_refl _) _ _ _ _ _ _ _ _⟩
 by_cases e6 : t.1 = 6
 ·have hx := hX.out
  unfold leafM at hx
  rw [if_neg e1, if_pos e6] at hx
  have e6' : (t.1 : Int) = 6 := by omega
  rw [e6'] at t0
  injection hx with hx
  subst hx
  clear e1 e6 e6' hX
  go_wp2_with fail
  have hZ := put8_blk XX.out (.int .i64 3) (.int .i64 (t.2.2 : Int)) (.string (bs t.2.1)) (.int .i64 0) (.int .u64 0) (.slice none 0 0) (.slice none 0 0) (.slice none 0 0)
  have q0 := hZ.cell 0
  have q1 := hZ.cell 1
  have q2 := hZ.cell 2
  have q3 := hZ.cell 3
  have q4 := hZ.cell 4
  have q5 := hZ.cell 5
  have q6 := hZ.cell 6
  have q7 := hZ.cell 7
  simp only [List.getElem?_toArray, List.getElem?_cons_zero, List.getElem?_cons_succ] at q0 q1 q2 q3 q4 q5 q6 q7
  exact bodyPost_ret (v := .agg [.int .i64 3, .int .i64 (t.2.2 : Int), .string (bs t.2.1), .int .i64 0, .int .u64 0, .slice none 0 0, .slice none 0 0, .slice none 0 0].toArray) (by simp [results, Tryz.results324, go_sem, q0, q1, q2, q3, q4, q5, q6, q7]) rfl ⟨rfl, put8_below BB.out (Nat.le_refl _) _ _ _ _ _ _ _ _⟩
 by_cases e4 : t.1 = 4
 ·have hx := hX.out
  unfold leafM at hx
  rw [if_neg e1, if_neg e6, if_pos e4] at hx
  have e4' : (t.1 : Int) = 4 := by omega
  rw [e4'] at t0
  rcases hp : Lib.parseIntB 64 t.2.1 with v | _ | _
  ·rw [hp] at hx
   injection hx with hx
   subst hx
   have cP := fun (W : World) => Tryz.strconv_ParseInt_10_at64_ok (bs t.2.1) (by rw [bs_size]; omega) v (by rw [bs_data]; exact hp) W
   clear e1 e6 e4 e4' hX hp
   go_wp2_with fail
   with_reducible refine (cP W2).mono ?_
   rintro e w4 ⟨rfl, hw4⟩
   have hb4 : Below W2.heap.size W2 w4 := by
    rcases hw4 with rfl | ⟨b, rfl⟩
    ·exact Below.refl _ _
    ·exact Go.Joins.below_bytesWorld _ _ _ _ (Nat.le_refl _)
   have X4 := XX.out.below hb4 XX.out.lt
   have l1 : w1.heap.size < W2.heap.size := by rw [← hW2]; simp
   have BB4 := Lib.hid (BB.out.trans (hb4.mono BB.out.size))
   have r0 := (hb4.cell (p := ⟨w1.heap.size, 0, none⟩) l1).trans t0
   have r1 := (hb4.cell (p := ⟨w1.heap.size, 1, none⟩) l1).trans t1
   have r2 := (hb4.cell (p := ⟨w1.heap.size, 2, none⟩) l1).trans t2
   clear x0 x1 x2 x3 x4 x5 x6 x7 y0 y1 y2 y3 y4 y5 y6 y7 t0 t1 t2
   have x0 := X4.cell 0
   have x1 := X4.cell 1
   have x2 := X4.cell 2
   have x3 := X4.cell 3
   have x4 := X4.cell 4
   have x5 := X4.cell 5
   have x6 := X4.cell 6
   have x7 := X4.cell 7
   have y0 := X4.frozen 0
   have y1 := X4.frozen 1
   have y2 := X4.frozen 2
   have y3 := X4.frozen 3
   have y4 := X4.frozen 4
   have y5 := X4.frozen 5
   have y6 := X4.frozen 6
   have y7 := X4.frozen 7
   simp only [List.getElem?_toArray, List.getElem?_cons_zero, List.getElem?_cons_succ] at x0 x1 x2 x3 x4 x5 x6 x7
   have XX4 := Lib.hid X4
   clear X4 hw4 hb4 cP
   go_wp2_with fail
   have hZ := put8_blk XX4.out (.int .i64 1) (.int .i64 (t.2.2 : Int)) (.string ⟨#[]⟩) (.int .i64 v) (.int .u64 0) (.slice none 0 0) (.slice none 0 0) (.slice none 0 0)
   have q0 := hZ.cell 0
   have q1 := hZ.cell 1
   have q2 := hZ.cell 2
   have q3 := hZ.cell 3
   have q4 := hZ.cell 4
   have q5 := hZ.cell 5
   have q6 := hZ.cell 6
   have q7 := hZ.cell 7
   simp only [List.getElem?_toArray, List.getElem?_cons_zero, List.getElem?_cons_succ] at q0 q1 q2 q3 q4 q5 q6 q7
   exact bodyPost_ret (v := .agg [.int .i64 1, .int .i64 (t.2.2 : Int), .string ⟨#[]⟩, .int .i64 v, .int .u64 0, .slice none 0 0, .slice none 0 0, .slice none 0 0].toArray) (by simp [results, Tryz.results324, go_sem, q0, q1, q2, q3, q4, q5, q6, q7]) rfl ⟨rfl, put8_below BB4.out (Nat.le_refl _) _ _ _ _ _ _ _ _⟩
  ·rw [hp] at hx; cases hx
  ·rw [hp] at hx; cases hx
 ·have hx := hX.out
  unfold leafM at hx
  rw [if_neg e1, if_neg e6, if_neg e4] at hx
  cases hx
/-- What the lexer says of the tokens: the last one, and it alone, is the end. -/
structure TsOk (ts : List Tk) : Prop where
 pos : 0 < ts.length
 last : (tkA ts (ts.length - 1)).1 = 0
 len : ∀ k, (tkA ts k).2.1.length ≤ 1048576
theorem TsOk.step {ts : List Tk} (h : TsOk ts) {k : Nat} (hk : k < ts.length) (h0 : (tkA ts k).1 ≠ 0) : k + 1 < ts.length := by
 have := h.last
 rcases Nat.lt_or_ge (k + 1) ts.length with q | q
 ·exact q
 ·rw [show ts.length - 1 = k by omega] at this
  exact absurd this h0

/-- A function reads what the rule M says. -/
def Rule (ts : List Tk) (f : FuncId) (M : St → PR) : Prop :=
 ∀ (B : PE) (w : World) (s : St) (i : Nat) (s' : St), B.ts = ts → PS B w s → s.k < ts.length → M s = .ok i s' →
  s'.k < ts.length ∧ Calls Tryz.prog f #[B.ptr] w fun e w' => e = .returned (.int .i64 (i : Nat)) ∧ Aft B w s' w'

theorem newT_ok {s s' : St} {x : TermD} {i : Nat} (h : newT s x = .ok i s') : s.t1.length < 65536 ∧ i = s.t1.length ∧ s' = ⟨s.k, s.op, s.t1 ++ [x], s.t2⟩ := by
 unfold newT at h
 by_cases hl : s.t1.length < 65536
 ·rw [if_pos hl] at h
  injection h with h1 h2
  exact ⟨hl, h1.symm, h2.symm⟩
 ·rw [if_neg hl] at h; cases h
/-- Is the token one of some words and signs, which are laid for it? -/
theorem stands_new {B : PE} {w : World} {s : St} (h : PS B w s) (hk : s.k < B.ts.length) (xs : List (List UInt8)) (n : Nat) (hn : xs.length = n) (hb : n ≤ 70000) (V : Array Value) (hV : V = (xs.map fun x => Value.string (bs x)).toArray) :
 Calls Tryz.prog 95 #[B.ptr, .slice (some ⟨w.heap.size, 0, none⟩) n n] (w.alloc (.cells V 9)) fun e w' => e = .returned (.bool (standsB (tkA B.ts s.k) xs)) ∧ Below w.heap.size w w' := by
 have hB0 : Below w.heap.size w (w.alloc (.cells V 9)) := (Below.refl _ _).alloc (Nat.le_refl _) _
 have hX : Blk (w.alloc (.cells V 9)) w.heap.size 9 V := Blk.new w 9 V
 refine (stands_any (h.below hB0) hk w.heap.size n n xs hn hb hX.lt (fun j x hx => ?_)).mono (fun e w' q => ⟨q.1, hB0.trans (q.2.mono hB0.size)⟩)
 rw [hX.cell j, hV]
 simp [hx]

set_option maxRecDepth 100000 in
set_option maxHeartbeats 8000000 in
theorem atom_any {ts : List Tk} (hT : TsOk ts) : Rule ts 321 (atomM ts) := by
 intro B w s i s' hBts h hk hM
 subst hBts
 unfold atomM at hM
 by_cases h78 : (tkA B.ts s.k).1 = 7 ∨ (tkA B.ts s.k).1 = 8
 ·rw [if_pos h78] at hM; cases hM
 rw [if_neg h78] at hM
 cases hx : leafM (tkA B.ts s.k) with
 | none => rw [hx] at hM; cases hM
 | some x =>
  rw [hx] at hM
  obtain ⟨hn, rfl, rfl⟩ := newT_ok hM
  have h0 : (tkA B.ts s.k).1 ≠ 0 := by
   intro e
   unfold leafM at hx
   rw [e] at hx
   simp at hx
  have hst := hT.step hk h0
  refine ⟨hst, ?_⟩
  have hs : ∀ xs, standsB (tkA B.ts s.k) xs = false := fun xs => by
   unfold standsB
   rw [show ((tkA B.ts s.k).1 == 7) = false by simp; omega, show ((tkA B.ts s.k).1 == 8) = false by simp; omega]
   rfl
  have hf : shortT x ∧ x.names.length = 0 ∧ x.kids.length = 0 ∧ x.types.length = 0 := by
   unfold leafM at hx
   split at hx
   ·injection hx with hx; subst hx; simp [shortT]
   ·split at hx
    ·injection hx with hx; subst hx; simp [shortT]
    ·split at hx
     ·split at hx
      ·injection hx with hx; subst hx; simp [shortT]
      ·cases hx
     ·cases hx
  have cS1 : ∀ W, PS B W s → Calls Tryz.prog 95 #[B.ptr, .slice (some ⟨W.heap.size, 0, none⟩) 1 1] (W.alloc (.cells #[.string ⟨#[40]⟩] 9)) fun e w' => e = .returned (.bool false) ∧ Below W.heap.size W w' := fun W p => by
   have := stands_new p hk [[40]] 1 rfl (by decide) #[.string ⟨#[40]⟩] rfl
   rw [hs] at this
   exact this
  have cS2 : ∀ W, PS B W s → Calls Tryz.prog 95 #[B.ptr, .slice (some ⟨W.heap.size, 0, none⟩) 1 1] (W.alloc (.cells #[.string ⟨#[123]⟩] 9)) fun e w' => e = .returned (.bool false) ∧ Below W.heap.size W w' := fun W p => by
   have := stands_new p hk [[123]] 1 rfl (by decide) #[.string ⟨#[123]⟩] rfl
   rw [hs] at this
   exact this
  have cL := fun W (p : PS B W s) => leaf_any p hk x hx (hT.len s.k)
  have H := Lib.hid h
  have cN := fun W (p : PS B W (s.on 1)) => newTerm_any p hn x nP3 ⟨⟨by simp [List.eq_nil_of_length_eq_zero hf.2.1], fun q => by omega⟩, ⟨by simp [List.eq_nil_of_length_eq_zero hf.2.2.1], fun q => by omega⟩, ⟨by simp [List.eq_nil_of_length_eq_zero hf.2.2.2], fun q => by omega⟩⟩ hf.1
  dsimp only [termCells] at cL cN
  simp only [hf.2.1, hf.2.2.1, hf.2.2.2] at cL cN
  clear hf
  clear hs hx h78 hM h0
  go_enter Tryz.func321, Tryz.ntmps321
  go_wp2_with fail
  with_reducible refine (cS1 w H.out).mono ?_
  rintro e w1 ⟨rfl, hb1⟩
  go_wp2_with fail
  with_reducible refine (cS2 w1 (H.out.below hb1)).mono ?_
  rintro e w2 ⟨rfl, hb2⟩
  have hb02 : Below w.heap.size w w2 := hb1.trans (hb2.mono hb1.size)
  go_wp2_with fail
  with_reducible refine (cL w2 (H.out.below hb02)).mono ?_
  rintro e w3 ⟨rfl, hb3⟩
  have hb03 : Below w.heap.size w w3 := hb02.trans (hb3.mono hb02.size)
  obtain ⟨X0, hX0⟩ : ∃ X0, w3.alloc (.cells zTerm.toArray 60) = X0 := ⟨_, rfl⟩
  have hK0 : Blk X0 w3.heap.size 60 zTerm.toArray := by rw [← hX0]; exact Blk.new w3 60 _
  have hbX : Below w.heap.size w X0 := by rw [← hX0]; exact hb03.alloc hb03.size _
  have x0 := hK0.cell 0
  have x1 := hK0.cell 1
  have x2 := hK0.cell 2
  have x3 := hK0.cell 3
  have x4 := hK0.cell 4
  have x5 := hK0.cell 5
  have x6 := hK0.cell 6
  have x7 := hK0.cell 7
  have y0 := hK0.frozen 0
  have y1 := hK0.frozen 1
  have y2 := hK0.frozen 2
  have y3 := hK0.frozen 3
  have y4 := hK0.frozen 4
  have y5 := hK0.frozen 5
  have y6 := hK0.frozen 6
  have y7 := hK0.frozen 7
  simp only [List.getElem?_toArray, List.getElem?_cons_zero, List.getElem?_cons_succ] at x0 x1 x2 x3 x4 x5 x6 x7
  clear cS1 cS2 cL
  go_upto_region 6 with fail
  clear x0 x1 x2 x3 x4 x5 x6 x7 y0 y1 y2 y3 y4 y5 y6 y7 hX0
  have hZ := put8_blk hK0 (.int .i64 x.kind) (.int .i64 x.pos) (.string x.name) (.int .i64 x.int) (.int .u64 (x.bits : Int)) (.slice none 0 0) (.slice none 0 0) (.slice none 0 0)
  have hbZ := put8_below hbX (Nat.le_trans hb02.size hb3.size) (.int .i64 x.kind) (.int .i64 x.pos) (.string x.name) (.int .i64 x.int) (.int .u64 (x.bits : Int)) (.slice none 0 0) (.slice none 0 0) (.slice none 0 0)
  have hsz : w.heap.size ≤ w3.heap.size := hb03.size
  revert hZ hbZ
  generalize ((((((((X0.setCell ⟨w3.heap.size, 0, none⟩ (.int .i64 x.kind)).setCell ⟨w3.heap.size, 1, none⟩ (.int .i64 x.pos)).setCell ⟨w3.heap.size, 2, none⟩ (.string x.name)).setCell ⟨w3.heap.size, 3, none⟩ (.int .i64 x.int)).setCell ⟨w3.heap.size, 4, none⟩ (.int .u64 (x.bits : Int))).setCell ⟨w3.heap.size, 5, none⟩ (.slice none 0 0)).setCell ⟨w3.heap.size, 6, none⟩ (.slice none 0 0)).setCell ⟨w3.heap.size, 7, none⟩ (.slice none 0 0)) = X1
  intro hZ hbZ
  have p1 := H.out.below hbZ
  have c1 := p1.blk.cell 1
  have g1 := p1.blk.frozen 1
  simp only [PE.cells, List.getElem?_toArray, List.getElem?_cons_zero, List.getElem?_cons_succ] at c1
  have a2 := p1.on1 hk
  have hpb := H.out.blk.lt
  have hl := p1.lb
  obtain ⟨X2, hX2⟩ : ∃ X2, X1.setCell ⟨B.pb, 1, none⟩ (.int .i64 ((s.k : Int) + 1)) = X2 := ⟨_, rfl⟩
  have hZ2 := hZ.far (p := ⟨B.pb, 1, none⟩) (by dsimp only; omega) (.int .i64 ((s.k : Int) + 1))
  rw [hX2] at hZ2
  rw [hX2] at a2
  have x0 := hZ2.cell 0
  have x1 := hZ2.cell 1
  have x2 := hZ2.cell 2
  have x3 := hZ2.cell 3
  have x4 := hZ2.cell 4
  have x5 := hZ2.cell 5
  have x6 := hZ2.cell 6
  have x7 := hZ2.cell 7
  simp only [List.getElem?_toArray, List.getElem?_cons_zero, List.getElem?_cons_succ] at x0 x1 x2 x3 x4 x5 x6 x7
  have A2 := Lib.hid ((H.out.aft hbZ).trans a2)
  have cM := cN X2 a2.ps
  clear a2 hZ hZ2 hbZ p1 hbX hK0 hb03 hb02 hb3 hb2 hb1 cN hn hst
  go_wp2_with fail
  with_reducible refine cM.mono ?_
  rintro e w4 ⟨rfl, a4⟩
  have A4 := Lib.hid (A2.out.trans a4)
  clear a4 cM
  go_wp2_with fail
  go_ret
  exact ⟨rfl, A4.out⟩
end Go.Proofs.YtjbdgjbmbohfmaaGreatDoor
