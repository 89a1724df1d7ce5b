/- Functions within functions: the rules fun and term, which may be too deep; what is wrong is caught; the tree that is read, its depth, and the law's walk. -/
import Derived.Test.YtidmeodmkcomlaaGreatDoorPP
import Derived.Test.YtidmeodmkcomlaaGreatDoorRefR
import Derived.Test.YtidmeodmkcomlaaGreatDoorOnce
import Derived.Test.YtidmeodmkcomlaaGreatDoorPV
namespace Go.Proofs.YtidmeodmkcomlaaGreatDoor
open Go Go.Proofs Go.RowKit

theorem takes_yes {B : PE} {w : World} {s : St} (h : PS B w s) (hk : s.k < B.ts.length) (x : List UInt8) (hx : standsB (tkA B.ts s.k) [x] = true) :
    Calls Tryz.prog 40 #[B.ptr, .string ⟨x.toArray⟩] w fun e w' => e = .returned (.bool true) ∧ Aft B w (s.on 1) w' := by
  have cS := stands_new h hk [x] 1 rfl (by decide) #[.string ⟨x.toArray⟩] rfl
  rw [hx] at cS
  have H := Lib.hid h
  clear h
  go_enter Tryz.func40, Tryz.ntmps40
  go_wp2_with fail
  refine cS.mono ?_
  rintro e w1 ⟨rfl, hb1⟩
  have p1 := H.out.below hb1
  have c1 := p1.blk.cell 1
  have g1 := p1.blk.frozen 1
  simp only [PE.cells, List.getElem?_toArray, List.getElem?_cons_zero, List.getElem?_cons_succ] at c1
  have a2 := p1.on1 hk
  have hl := p1.lb
  have A2 := Lib.hid ((H.out.aft hb1).trans a2)
  clear a2 p1 hb1 cS
  go_wp2_with fail
  go_ret
  exact ⟨rfl, A2.out⟩

theorem must_yes {B : PE} {w : World} {s : St} (h : PS B w s) (hk : s.k < B.ts.length) (x : List UInt8) (hx : standsB (tkA B.ts s.k) [x] = true) :
    Calls Tryz.prog 41 #[B.ptr, .string ⟨x.toArray⟩] w fun e w' => e = .returned (.tuple #[]) ∧ Aft B w (s.on 1) w' := by
  have cT := takes_yes h hk x hx
  clear h
  go_enter Tryz.func41, Tryz.ntmps41
  go_wp2_with fail
  refine cT.mono ?_
  rintro e w1 ⟨rfl, a1⟩
  have A1 := Lib.hid a1
  clear a1 cT
  go_wp2_with fail
  go_end0
  exact ⟨rfl, A1.out⟩

/-- What is wrong, and where. -/
abbrev wrongV (e : Nat) (p : Nat) : Value := .agg #[.int .i64 (e : Int), .int .i64 (p : Int), .string ⟨#[]⟩]
abbrev panicV (e p : Nat) : Ending := .panicked [{ v := .iface 30 (wrongV e p), recovered := false }]

set_option maxHeartbeats 4000000 in
theorem wrong_any {B : PE} {w : World} {s : St} (h : PS B w s) (hk : s.k < B.ts.length) (c : Nat) : Calls Tryz.prog 71 #[B.ptr, .int .i64 (c : Int)] w fun e w' => e = .returned (wrongV c (tkA B.ts s.k).2.2) ∧ Below w.heap.size w w' := by
  obtain ⟨W0, hW0⟩ : ∃ W0, w.alloc (.cells #[.int .i64 0, .int .i64 0, .string ⟨#[]⟩] 30) = W0 := ⟨_, rfl⟩
  have hB0 : Below w.heap.size w W0 := by rw [← hW0]; exact (Below.refl _ _).alloc (Nat.le_refl _) _
  have hX0 : Blk W0 w.heap.size 30 #[.int .i64 0, .int .i64 0, .string ⟨#[]⟩] := by rw [← hW0]; exact Blk.new w 30 _
  have cN := now_any (h.below hB0) hk
  generalize tkA B.ts s.k = t at cN ⊢
  have hfd := tokF2
  have X0 := Lib.hid hX0
  have B0 := Lib.hid hB0
  have l0 := hX0.lt
  clear h hX0 hB0
  go_enter Tryz.func71, Tryz.ntmps71
  go_wp2_with fail
  with_reducible refine cN.mono ?_
  rintro e w1 ⟨rfl, hb1⟩
  have hX1 := X0.out.below hb1 l0
  have x0 := hX1.cell 0
  have x1 := hX1.cell 1
  have x2 := hX1.cell 2
  have y0 := hX1.frozen 0
  have y1 := hX1.frozen 1
  have y2 := hX1.frozen 2
  simp only [List.getElem?_toArray, List.getElem?_cons_zero, List.getElem?_cons_succ] at x0 x1 x2
  have X1 := Lib.hid hX1
  have B1 := Lib.hid (B0.out.trans (hb1.mono B0.out.size))
  clear hX1 hb1 cN hW0
  go_wp2_with fail
  have hZ := ((X1.out.set_ 0 (.int .i64 (c : Int))).set_ 1 (.int .i64 (t.2.2 : Int))).set_ 2 (.string ⟨#[]⟩)
  have q0 := hZ.cell 0
  have q1 := hZ.cell 1
  have q2 := hZ.cell 2
  simp only [List.setIfInBounds_toArray, List.set_cons_zero, List.set_cons_succ, List.getElem?_toArray, List.getElem?_cons_zero, List.getElem?_cons_succ] at q0 q1 q2
  have h0 : w.heap.size ≤ w.heap.size := Nat.le_refl _
  exact bodyPost_ret (v := wrongV c t.2.2) (by simp [results, Tryz.results71, go_sem, q0, q1, q2]) rfl ⟨rfl, ((B1.out.setCell (p := ⟨w.heap.size, 0, none⟩) h0 _).setCell (p := ⟨w.heap.size, 1, none⟩) h0 _).setCell (p := ⟨w.heap.size, 2, none⟩) h0 _⟩

theorem begin_bad {B : PE} {w : World} {s : St} (h : PS B w s) (hk : s.k < B.ts.length) (ho : s.op = 256) : Calls Tryz.prog 44 #[B.ptr] w fun e w' => e = panicV 5 (tkA B.ts s.k).2.2 ∧ Below w.heap.size w w' := by
  have hp := h.blk.lt
  have c2 := h.blk.cell 2
  simp only [PE.cells, List.getElem?_toArray, List.getElem?_cons_zero, List.getElem?_cons_succ] at c2
  rw [ho] at c2
  have cW : Calls Tryz.prog 71 #[B.ptr, .int .i64 5] w fun e w' => e = .returned (wrongV 5 (tkA B.ts s.k).2.2) ∧ Below w.heap.size w w' := wrong_any h hk 5
  generalize tkA B.ts s.k = t at cW ⊢
  clear h
  go_enter Tryz.func44, Tryz.ntmps44
  go_wp2_with fail
  refine cW.mono ?_
  rintro e w1 ⟨rfl, hb1⟩
  go_wp2_with fail
  exact ⟨rfl, rfl, hb1⟩
end Go.Proofs.YtidmeodmkcomlaaGreatDoor

namespace Go.Proofs.YtidmeodmkcomlaaGreatDoor
open Go Go.Proofs Go.RowKit

/-- What a rule gives that may be too deep: a number and the new state; or what is wrong, where, and the state then; or nothing is said. -/
inductive DR where
  | ok (i : Nat) (s : St)
  | bad (e p : Nat) (s : St)
  | un

def deepM (ts : List Tk) : Nat → St → DR
  | 0, _ => .un
  | f + 1, s =>
    if s.op = 256 then .bad 5 (tkA ts s.k).2.2 s
    else if (tkA ts s.k).1 = 7 then
      if (tkA ts s.k).2.1 = [102, 117, 110] ∧ (tkA ts (s.k + 1)).1 = 1 ∧ standsB (tkA ts (s.k + 2)) [[45, 62]] = true then
        match deepM ts f (s.up.on 3) with
        | .ok i s1 => if s1.t1.length < 65536 then .ok s1.t1.length ⟨s1.k, s1.op - 1, s1.t1 ++ [⟨5, ((tkA ts s.k).2.2 : Nat), bs (tkA ts (s.k + 1)).2.1, 0, 0, [], [(i : Int)], []⟩], s1.t2⟩ else .un
        | .bad e p s1 => .bad e p s1.down
        | .un => .un
      else .un
    else match termM ts s with
      | .ok i s' => .ok i s'
      | .un => .un

abbrev funV (p : Int) (x : ByteArray) : List Value := [.int .i64 5, .int .i64 p, .string x, .int .i64 0, .int .u64 0, .slice none 0 0, .slice none 0 0, .slice none 0 0]

set_option maxRecDepth 100000 in
set_option maxHeartbeats 8000000 in
theorem fun_ok {ts : List Tk} (hT : TsOk ts) {B : PE} {w : World} {s : St} (hBts : B.ts = ts) (h : PS B w s) (hk : s.k < ts.length) (h0 : (tkA ts s.k).1 = 7) (h1 : (tkA ts (s.k + 1)).1 = 1) (h2 : standsB (tkA ts (s.k + 2)) [[45, 62]] = true)
    {i : Nat} {s1 : St} (hl : s1.t1.length < 65536)
    (hD : ∀ (G : Nat → Prop) (W : World), PS (B.with G) W (s.on 3) → Calls Tryz.prog 43 #[B.ptr] W fun e w' => e = .returned (.int .i64 (i : Nat)) ∧ Aft (B.with G) W s1 w') :
    Calls Tryz.prog 73 #[B.ptr] w fun e w' => e = .returned (.int .i64 (s1.t1.length : Nat)) ∧ Aft B w ⟨s1.k, s1.op, s1.t1 ++ [⟨5, ((tkA ts s.k).2.2 : Nat), bs (tkA ts (s.k + 1)).2.1, 0, 0, [], [(i : Int)], []⟩], s1.t2⟩ w' := by
  have hk1 : s.k + 1 < ts.length := hT.step hk (by rw [h0]; decide)
  have hk2 : s.k + 2 < ts.length := hT.step hk1 (by rw [h1]; decide)
  have cX : Calls Tryz.prog 48 #[B.ptr] w fun e w' => e = .returned (tokV (tkA ts s.k)) ∧ Aft B w (s.on 1) w' := by
    have := next_any h (by rw [hBts]; exact hk)
    rwa [hBts] at this
  have cT : ∀ W, PS B W (s.on 1) → Calls Tryz.prog 38 #[B.ptr, .int .i64 1] W fun e w' => e = .returned (tokV (tkA ts (s.k + 1))) ∧ Aft B W (s.on 2) w' := fun W p => by
    have := token_any p (by rw [hBts]; exact hk1) 1 (by rw [hBts]; exact h1)
    rw [hBts] at this
    exact this
  have cM : ∀ (G : Nat → Prop) (W : World), PS (B.with G) W (s.on 2) → Calls Tryz.prog 41 #[B.ptr, .string ⟨#[45, 62]⟩] W fun e w' => e = .returned (.tuple #[]) ∧ Aft (B.with G) W (s.on 3) w' := fun G W p =>
    must_yes (B := B.with G) p (by show s.k + 2 < B.ts.length; rw [hBts]; exact hk2) [45, 62] (by show standsB (tkA B.ts (s.k + 2)) _ = true; rw [hBts]; exact h2)
  have hfd := tokF2
  have hfe := tokF1
  have hbw := h.bw
  generalize tkA ts s.k = t at *
  generalize tkA ts (s.k + 1) = t' at *
  clear h h0 h1 h2 hk hk1 hk2
  go_enter Tryz.func73, Tryz.ntmps73
  go_wp2_with fail
  with_reducible refine cX.mono ?_
  rintro e w1 ⟨rfl, a1⟩
  go_wp2_with fail
  with_reducible refine (cT w1 a1.ps).mono ?_
  rintro e w2 ⟨rfl, a2⟩
  have a12 := a1.trans a2
  go_wp2_with fail
  obtain ⟨W3, hW3⟩ : ∃ W3, w2.alloc (.cells (funV (t.2.2 : Int) (bs t'.2.1)).toArray 38) = W3 := ⟨_, rfl⟩
  have hb3 : Below w2.heap.size w2 W3 := by rw [← hW3]; exact (Below.refl _ _).alloc (Nat.le_refl _) _
  have hX3 : Blk W3 w2.heap.size 38 (funV (t.2.2 : Int) (bs t'.2.1)).toArray := by rw [← hW3]; exact Blk.new w2 38 _
  have l3 := hX3.lt
  have o3 := AftO.start a12.ps hb3 (fun b => b = w2.heap.size) (fun b hb => by subst hb; exact ⟨Nat.le_refl _, l3⟩)
  rw [hW3]
  refine (cM _ W3 o3.ps).mono ?_
  rintro e w4 ⟨rfl, a4⟩
  have o4 := o3.call a4
  have hX4 : Blk w4 w2.heap.size 38 (funV (t.2.2 : Int) (bs t'.2.1)).toArray := (o3.same a4 rfl).trans hX3
  clear hW3
  go_wp2_with fail
  refine (hD _ w4 o4.ps).mono ?_
  rintro e w5 ⟨rfl, a5⟩
  have o5 := o4.call a5
  have hX5 : Blk w5 w2.heap.size 38 (funV (t.2.2 : Int) (bs t'.2.1)).toArray := (o4.same a5 rfl).trans hX4
  have l5 := hX5.lt
  obtain ⟨W6, hW6⟩ : ∃ W6, w5.alloc (.cells #[.int .i64 (i : Int)] 3) = W6 := ⟨_, rfl⟩
  have hb6 : Below w5.heap.size w5 W6 := by rw [← hW6]; exact (Below.refl _ _).alloc (Nat.le_refl _) _
  have hK6 : Blk W6 w5.heap.size 3 #[.int .i64 (i : Int)] := by rw [← hW6]; exact Blk.new w5 3 _
  have o6 := o5.below hb6
  have hX6 := hX5.below hb6 l5
  have x6 := hX6.cell 6
  have y6 := hX6.frozen 6
  simp only [List.getElem?_toArray, List.getElem?_cons_zero, List.getElem?_cons_succ] at x6
  obtain ⟨W7, hW7⟩ : ∃ W7, W6.setCell ⟨w2.heap.size, 6, none⟩ (.slice (some ⟨w5.heap.size, 0, none⟩) 1 1) = W7 := ⟨_, rfl⟩
  have hbb : B.base ≤ w2.heap.size := Nat.le_trans hbw a12.kt.1
  have o7 := o6.set (g := w2.heap.size) rfl 6 (.slice (some ⟨w5.heap.size, 0, none⟩) 1 1) hbb
  have hX7 := hX6.set_ 6 (.slice (some ⟨w5.heap.size, 0, none⟩) 1 1)
  have hK7 := hK6.far (p := ⟨w2.heap.size, 6, none⟩) (by dsimp only; omega) (.slice (some ⟨w5.heap.size, 0, none⟩) 1 1)
  rw [hW7] at o7 hX7 hK7
  have d0 := hX7.cell 0
  have d1 := hX7.cell 1
  have d2 := hX7.cell 2
  have d3 := hX7.cell 3
  have d4 := hX7.cell 4
  have d5 := hX7.cell 5
  have d6 := hX7.cell 6
  have d7 := hX7.cell 7
  simp only [List.setIfInBounds_toArray, List.set_cons_zero, List.set_cons_succ, List.getElem?_toArray, List.getElem?_cons_zero, List.getElem?_cons_succ] at d0 d1 d2 d3 d4 d5 d6 d7
  have cN := newTerm_any (B := B.with (fun b => b = w2.heap.size)) o7.ps hl ⟨5, (t.2.2 : Nat), bs t'.2.1, 0, 0, [], [(i : Int)], []⟩ ⟨none, 0, some ⟨w5.heap.size, 0, none⟩, 1, none, 0⟩ ⟨SlAt.nil, ⟨rfl, fun _ => ⟨w5.heap.size, 0, rfl, hK7.lt, fun j u hu => by
    rw [Nat.zero_add, hK7.cell j]
    match j, hu with
    | 0, hu => simpa using hu
    | j + 1, hu => simp at hu⟩⟩, SlAt.nil⟩ ⟨by simp, by simp, by simp⟩
  have cN' : Calls Tryz.prog 114 #[B.ptr, .agg #[.int .i64 5, .int .i64 (t.2.2 : Int), .string (bs t'.2.1), .int .i64 0, .int .u64 0, .slice none 0 0, .slice (some ⟨w5.heap.size, 0, none⟩) 1 1, .slice none 0 0]] W7 fun e w' => e = .returned (.int .i64 (s1.t1.length : Nat)) ∧ Aft (B.with (fun b => b = w2.heap.size)) W7 ⟨s1.k, s1.op, s1.t1 ++ [⟨5, (t.2.2 : Nat), bs t'.2.1, 0, 0, [], [(i : Int)], []⟩], s1.t2⟩ w' := cN
  have A12 := Lib.hid a12
  have O7 := Lib.hid o7
  clear cN hX7 hK7 hX6 hK6 o6 o7 hb6 a5 o5 hX5 a4 o4 hX4 o3 hX3 hb3 a12 a1 a2 cM cT cX hD
  go_wp2_with fail
  refine cN'.mono ?_
  rintro e w8 ⟨rfl, a8⟩
  have A8 := Lib.hid (A12.out.trans (O7.out.call a8).out)
  clear a8 cN'
  go_wp2_with fail
  go_ret
  exact ⟨rfl, A8.out⟩
set_option maxRecDepth 100000 in
set_option maxHeartbeats 8000000 in
theorem fun_bad {ts : List Tk} (hT : TsOk ts) {B : PE} {w : World} {s : St} (hBts : B.ts = ts) (h : PS B w s) (hk : s.k < ts.length) (h0 : (tkA ts s.k).1 = 7) (h1 : (tkA ts (s.k + 1)).1 = 1) (h2 : standsB (tkA ts (s.k + 2)) [[45, 62]] = true)
    {c p : Nat} {s1 : St}
    (hD : ∀ (G : Nat → Prop) (W : World), PS (B.with G) W (s.on 3) → Calls Tryz.prog 43 #[B.ptr] W fun e w' => e = panicV c p ∧ Aft (B.with G) W s1 w') :
    Calls Tryz.prog 73 #[B.ptr] w fun e w' => e = panicV c p ∧ Aft B w s1 w' := by
  have hk1 : s.k + 1 < ts.length := hT.step hk (by rw [h0]; decide)
  have hk2 : s.k + 2 < ts.length := hT.step hk1 (by rw [h1]; decide)
  have cX : Calls Tryz.prog 48 #[B.ptr] w fun e w' => e = .returned (tokV (tkA ts s.k)) ∧ Aft B w (s.on 1) w' := by
    have := next_any h (by rw [hBts]; exact hk)
    rwa [hBts] at this
  have cT : ∀ W, PS B W (s.on 1) → Calls Tryz.prog 38 #[B.ptr, .int .i64 1] W fun e w' => e = .returned (tokV (tkA ts (s.k + 1))) ∧ Aft B W (s.on 2) w' := fun W p => by
    have := token_any p (by rw [hBts]; exact hk1) 1 (by rw [hBts]; exact h1)
    rw [hBts] at this
    exact this
  have cM : ∀ (G : Nat → Prop) (W : World), PS (B.with G) W (s.on 2) → Calls Tryz.prog 41 #[B.ptr, .string ⟨#[45, 62]⟩] W fun e w' => e = .returned (.tuple #[]) ∧ Aft (B.with G) W (s.on 3) w' := fun G W p =>
    must_yes (B := B.with G) p (by show s.k + 2 < B.ts.length; rw [hBts]; exact hk2) [45, 62] (by show standsB (tkA B.ts (s.k + 2)) _ = true; rw [hBts]; exact h2)
  have hfd := tokF2
  have hfe := tokF1
  generalize tkA ts s.k = t at *
  generalize tkA ts (s.k + 1) = t' at *
  clear h h0 h1 h2 hk hk1 hk2
  go_enter Tryz.func73, Tryz.ntmps73
  go_wp2_with fail
  with_reducible refine cX.mono ?_
  rintro e w1 ⟨rfl, a1⟩
  go_wp2_with fail
  with_reducible refine (cT w1 a1.ps).mono ?_
  rintro e w2 ⟨rfl, a2⟩
  have a12 := a1.trans a2
  go_wp2_with fail
  obtain ⟨W3, hW3⟩ : ∃ W3, w2.alloc (.cells (funV (t.2.2 : Int) (bs t'.2.1)).toArray 38) = W3 := ⟨_, rfl⟩
  have hb3 : Below w2.heap.size w2 W3 := by rw [← hW3]; exact (Below.refl _ _).alloc (Nat.le_refl _) _
  have hX3 : Blk W3 w2.heap.size 38 (funV (t.2.2 : Int) (bs t'.2.1)).toArray := by rw [← hW3]; exact Blk.new w2 38 _
  have l3 := hX3.lt
  have o3 := AftO.start a12.ps hb3 (fun b => b = w2.heap.size) (fun b hb => by subst hb; exact ⟨Nat.le_refl _, l3⟩)
  rw [hW3]
  refine (cM _ W3 o3.ps).mono ?_
  rintro e w4 ⟨rfl, a4⟩
  have o4 := o3.call a4
  have hX4 : Blk w4 w2.heap.size 38 (funV (t.2.2 : Int) (bs t'.2.1)).toArray := (o3.same a4 rfl).trans hX3
  clear hW3
  go_wp2_with fail
  refine (hD _ w4 o4.ps).mono ?_
  rintro e w5 ⟨rfl, a5⟩
  have A5 := Lib.hid (a12.trans (o4.call a5).out)
  clear a5 o4 hX4 a4 o3 hX3 hb3 a12 a1 a2 cM cT cX hD
  go_wp2_with fail
  exact ⟨rfl, rfl, A5.out⟩

theorem deep_step {ts : List Tk} (hT : TsOk ts) : ∀ (f : Nat) (s : St), s.k < ts.length → (∀ i s', deepM ts f s = .ok i s' → s'.k < ts.length ∧ s'.op = s.op) ∧ ∀ c p s1, deepM ts f s = .bad c p s1 → s1.op = s.op := by
  intro f
  induction f with
  | zero => intro s _; exact ⟨fun i s' h => (by cases h), fun c p s1 h => (by cases h)⟩
  | succ f ih =>
    intro s hk
    unfold deepM
    by_cases h256 : s.op = 256
    · rw [if_pos h256]
      refine ⟨fun i s' h => (by cases h), fun c p s1 h => ?_⟩
      injection h with _ _ h
      rw [← h]
    rw [if_neg h256]
    by_cases h7 : (tkA ts s.k).1 = 7
    · rw [if_pos h7]
      by_cases hc : (tkA ts s.k).2.1 = [102, 117, 110] ∧ (tkA ts (s.k + 1)).1 = 1 ∧ standsB (tkA ts (s.k + 2)) [[45, 62]] = true
      · rw [if_pos hc]
        have hk1 : s.k + 1 < ts.length := hT.step hk (by rw [h7]; decide)
        have hk2 : s.k + 2 < ts.length := hT.step hk1 (by rw [hc.2.1]; decide)
        have hk3 : s.k + 3 < ts.length := hT.step hk2 (stands_ne hc.2.2)
        obtain ⟨q1, q2⟩ := ih (s.up.on 3) hk3
        cases hM : deepM ts f (s.up.on 3) with
        | un => exact ⟨fun i s' h => (by cases h), fun c p s1 h => (by cases h)⟩
        | bad c p s1 =>
          refine ⟨fun i s' h => (by cases h), fun c' p' s2 h => ?_⟩
          injection h with _ _ h
          have := q2 c p s1 hM
          rw [← h]
          show s1.op - 1 = s.op
          have e : s1.op = s.op + 1 := this
          omega
        | ok i s1 =>
          have e := q1 i s1 hM
          have e2 : s1.op = s.op + 1 := e.2
          dsimp only
          by_cases hl : s1.t1.length < 65536
          · rw [if_pos hl]
            refine ⟨fun i' s' h => ?_, fun c p s2 h => (by cases h)⟩
            injection h with _ h
            rw [← h]
            refine ⟨e.1, ?_⟩
            show s1.op - 1 = s.op
            omega
          · rw [if_neg hl]
            exact ⟨fun i s' h => (by cases h), fun c p s1 h => (by cases h)⟩
      · rw [if_neg hc]
        exact ⟨fun i s' h => (by cases h), fun c p s1 h => (by cases h)⟩
    · rw [if_neg h7]
      cases hM : termM ts s with
      | un => exact ⟨fun i s' h => (by cases h), fun c p s1 h => (by cases h)⟩
      | ok i s' =>
        refine ⟨fun i' s2 h => ?_, fun c p s1 h => (by cases h)⟩
        injection h with _ h
        rw [← h]
        unfold termM at hM
        rw [if_neg h256] at hM
        split at hM
        · cases hM
        · obtain ⟨i1, s1, e1, e2⟩ := PR.bind_ok hM
          injection e2 with _ e2
          have a := compare_op _ _ _ e1
          have b := compare_prog hT s.up _ _ hk e1
          rw [← e2]
          refine ⟨b.2, ?_⟩
          show s1.op - 1 = s.op
          have e3 : s1.op = s.op + 1 := a
          omega

set_option maxRecDepth 100000 in
set_option maxHeartbeats 8000000 in
theorem deep_any {ts : List Tk} (hT : TsOk ts) : ∀ (f : Nat) (B : PE) (w : World) (s : St), B.ts = ts → PS B w s → s.k < ts.length →
    (∀ i s', deepM ts f s = .ok i s' → Calls Tryz.prog 43 #[B.ptr] w fun e w' => e = .returned (.int .i64 (i : Nat)) ∧ Aft B w s' w') ∧
    ∀ c p s1, deepM ts f s = .bad c p s1 → Calls Tryz.prog 43 #[B.ptr] w fun e w' => e = panicV c p ∧ Aft B w s1 w' := by
  intro f
  induction f with
  | zero => intro B w s _ _ _; exact ⟨fun i s' h => (by cases h), fun c p s1 h => (by cases h)⟩
  | succ f ih =>
    intro B w s hBts h hk
    unfold deepM
    by_cases h256 : s.op = 256
    · rw [if_pos h256]
      refine ⟨fun i s' h => (by cases h), fun c p s1 hh => ?_⟩
      injection hh with h1 h2 h3
      subst h1
      subst h2
      subst h3
      have cB := begin_bad h (by rw [hBts]; exact hk) h256
      rw [hBts] at cB
      have H := Lib.hid h
      clear h ih
      go_enter_defers Tryz.func43, Tryz.ntmps43
      go_wp2_with fail
      refine cB.mono ?_
      rintro e w1 ⟨rfl, hb1⟩
      go_wp2_with fail
      have A1 := H.out.aft hb1
      exact ⟨rfl, A1⟩
    rw [if_neg h256]
    by_cases h7 : (tkA ts s.k).1 = 7
    · rw [if_pos h7]
      by_cases hc : (tkA ts s.k).2.1 = [102, 117, 110] ∧ (tkA ts (s.k + 1)).1 = 1 ∧ standsB (tkA ts (s.k + 2)) [[45, 62]] = true
      · rw [if_pos hc]
        have hk1 : s.k + 1 < ts.length := hT.step hk (by rw [h7]; decide)
        have hk2 : s.k + 2 < ts.length := hT.step hk1 (by rw [hc.2.1]; decide)
        have hk3 : s.k + 3 < ts.length := hT.step hk2 (stands_ne hc.2.2)
        have cB := begin_any h h256
        have hs : standsB (tkA B.ts s.k) [[102, 117, 110]] = true := by
          rw [hBts]
          unfold standsB
          rw [h7, hc.1]
          rfl
        have cS : ∀ W, PS B W s.up → Calls Tryz.prog 47 #[B.ptr, .slice (some ⟨W.heap.size, 0, none⟩) 1 1] (W.alloc (.cells #[.string ⟨#[102, 117, 110]⟩] 9)) fun e w' => e = .returned (.bool true) ∧ Below W.heap.size W w' := fun W p => by
          have := stands_new p (by rw [hBts]; exact hk) [[102, 117, 110]] 1 rfl (by decide) #[.string ⟨#[102, 117, 110]⟩] rfl
          rw [show (tkA B.ts s.up.k) = tkA B.ts s.k from rfl, hs] at this
          exact this
        have hD := fun (G : Nat → Prop) (W : World) (p : PS (B.with G) W (s.up.on 3)) => ih (B.with G) W (s.up.on 3) hBts p hk3
        obtain ⟨q1, q2⟩ := deep_step hT f (s.up.on 3) hk3
        cases hM : deepM ts f (s.up.on 3) with
        | un => exact ⟨fun i s' h => (by cases h), fun c p s1 h => (by cases h)⟩
        | bad c p s1 =>
          refine ⟨fun i s' h => (by cases h), fun c' p' s2 hh => ?_⟩
          injection hh with g1 g2 g3
          subst g1
          subst g2
          subst g3
          have hop : s1.op = s.op + 1 := q2 c p s1 hM
          have cF := fun (W : World) (p0 : PS B W s.up) => fun_bad hT hBts p0 hk h7 hc.2.1 hc.2.2 (fun G W p0 => (hD G W p0).2 c p s1 hM)
          have hop1 : 1 ≤ s1.op := by omega
          clear hs hD ih hM h hc h7 h256 hk1 hk2 hk3 q1 q2
          go_enter_defers Tryz.func43, Tryz.ntmps43
          go_wp2_with fail
          with_reducible refine cB.mono ?_
          rintro e w1 ⟨rfl, a1⟩
          go_wp2_with fail
          refine (cS w1 a1.ps).mono ?_
          rintro e w2 ⟨rfl, hb2⟩
          have a2 := a1.below hb2
          go_wp2_with fail
          refine (cF w2 a2.ps).mono ?_
          rintro e w3 ⟨rfl, a3⟩
          have A3 := Lib.hid (a2.trans a3)
          clear a1 a2 a3 hb2 cS cF cB
          go_wp2_with fail
          refine leaves_cons (f := 45) (args := #[B.ptr]) (by simp) (by simp [go_sem]) ?_
          refine (end_d A3.out.ps hop1 _).mono ?_
          rintro e u' w7 ⟨rfl, rfl, a7⟩
          exact ⟨rfl, A3.out.trans a7⟩
        | ok i s1 =>
          dsimp only
          by_cases hl : s1.t1.length < 65536
          · rw [if_pos hl]
            refine ⟨fun i' s' hh => ?_, fun c p s1 h => (by cases h)⟩
            injection hh with g1 g2
            subst g1
            subst g2
            have hop : s1.op = s.op + 1 := (q1 i s1 hM).2
            have cF := fun (W : World) (p0 : PS B W s.up) => fun_ok hT hBts p0 hk h7 hc.2.1 hc.2.2 hl (fun G W p0 => (hD G W p0).1 i s1 hM)
            have hop1 : 1 ≤ s1.op := by omega
            rw [show tkA ts s.up.k = tkA ts s.k from rfl, show tkA ts (s.up.k + 1) = tkA ts (s.k + 1) from rfl] at cF
            clear hs hD ih hM h hc h7 h256 hk1 hk2 hk3 q1 q2
            go_enter_defers Tryz.func43, Tryz.ntmps43
            go_wp2_with fail
            with_reducible refine cB.mono ?_
            rintro e w1 ⟨rfl, a1⟩
            go_wp2_with fail
            refine (cS w1 a1.ps).mono ?_
            rintro e w2 ⟨rfl, hb2⟩
            have a2 := a1.below hb2
            go_wp2_with fail
            refine (cF w2 a2.ps).mono ?_
            rintro e w3 ⟨rfl, a3⟩
            have A3 := Lib.hid (a2.trans a3)
            clear a1 a2 a3 hb2 cS cF cB
            go_wp2_with fail
            refine leaves_cons (f := 45) (args := #[B.ptr]) (by simp) (by simp [go_sem]) ?_
            refine (end_d A3.out.ps hop1 .returning).mono ?_
            rintro e u' w7 ⟨rfl, rfl, a7⟩
            exact ⟨_, results_tmp rfl _ _ _, rfl, A3.out.trans a7⟩
          · rw [if_neg hl]
            exact ⟨fun i s' h => (by cases h), fun c p s1 h => (by cases h)⟩
      · rw [if_neg hc]
        exact ⟨fun i s' h => (by cases h), fun c p s1 h => (by cases h)⟩
    · rw [if_neg h7]
      cases hM : termM ts s with
      | un => exact ⟨fun i s' h => (by cases h), fun c p s1 h => (by cases h)⟩
      | ok i s' =>
        refine ⟨fun i' s2 hh => ?_, fun c p s1 h => (by cases h)⟩
        injection hh with g1 g2
        subst g1
        subst g2
        exact (termR_any hT B w s i s' hBts h hk hM).2
end Go.Proofs.YtidmeodmkcomlaaGreatDoor

namespace Go.Proofs.YtidmeodmkcomlaaGreatDoor
open Go Go.Proofs Go.RowKit

theorem textD_any {ts : List Tk} (hT : TsOk ts) (f : Nat) {B : PE} {w : World} {s : St} (hBts : B.ts = ts) (h : PS B w s) (hk : s.k < ts.length) (hs0 : standsB (tkA ts s.k) [[116, 121, 112, 101]] = false) :
    (∀ i s', deepM ts f s = .ok i s' → Calls Tryz.prog 19 #[B.ptr] w fun e w' => e = .returned (.tuple #[]) ∧ Aft B w s' w') ∧
    ∀ c p s1, deepM ts f s = .bad c p s1 → Calls Tryz.prog 19 #[B.ptr] w fun e w' => e = panicV c p ∧ Aft B w s1 w' := by
  have hs : standsB (tkA B.ts s.k) [[116, 121, 112, 101]] = false := by rw [hBts]; exact hs0
  have cK := takes_no h (by rw [hBts]; exact hk) [116, 121, 112, 101] hs
  have cR := fun (W : World) (p : PS B W s) => deep_any hT f B W s hBts p hk
  have H := Lib.hid h
  clear hs hs0 h
  constructor
  · intro i s' hM
    have cQ := fun (W : World) (p : PS B W s) => (cR W p).1 i s' hM
    clear cR hM
    go_enter Tryz.func19, Tryz.ntmps19
    go_wp2_with fail
    go_loopw [] (fun wr => wr = w) (fun _ => 0)
    case atStart => rfl
    case round =>
      subst hrel
      go_wp2_with fail
      refine cK.mono ?_
      rintro e w1 ⟨rfl, hb1⟩
      go_wp2_with fail
      with_reducible refine (cQ w1 (H.out.below hb1)).mono ?_
      rintro e w2 ⟨rfl, a2⟩
      have A2 := Lib.hid ((H.out.aft hb1).trans a2)
      clear a2 hb1 cK cQ
      go_wp2_with fail
      go_end0
      exact ⟨rfl, A2.out⟩
  · intro c p s1 hM
    have cQ := fun (W : World) (p0 : PS B W s) => (cR W p0).2 c p s1 hM
    clear cR hM
    go_enter Tryz.func19, Tryz.ntmps19
    go_wp2_with fail
    go_loopw [] (fun wr => wr = w) (fun _ => 0)
    case atStart => rfl
    case round =>
      subst hrel
      go_wp2_with fail
      refine cK.mono ?_
      rintro e w1 ⟨rfl, hb1⟩
      go_wp2_with fail
      with_reducible refine (cQ w1 (H.out.below hb1)).mono ?_
      rintro e w2 ⟨rfl, a2⟩
      have A2 := Lib.hid ((H.out.aft hb1).trans a2)
      clear a2 hb1 cK cQ
      go_wp2_with fail
      exact ⟨rfl, rfl, A2.out⟩

theorem assert_diag (v : Value) (w : World) : (Instr.typeAssert (.iface 30 v) 20 30 false).run Tryz.prog w = .ok v w := by kernel_rfl
theorem catch_bad (b c q : Nat) (x0 x1 x2 : Value) (w : World) (hX : Blk w b 30 #[x0, x1, x2]) :
    CallsD Tryz.prog 36 #[.pointer (some ⟨b, 0, none⟩)] (.panicking [{ v := .iface 30 (wrongV c q), recovered := false }]) w fun e u' w' =>
      e = .returned (.tuple #[]) ∧ u' = .panicking [{ v := .iface 30 (wrongV c q), recovered := true }] ∧ w' = ((w.setCell ⟨b, 0, none⟩ (.int .i64 (c : Int))).setCell ⟨b, 1, none⟩ (.int .i64 (q : Int))).setCell ⟨b, 2, none⟩ (.string ⟨#[]⟩) := by
  have c0 := hX.cell 0
  have c1 := hX.cell 1
  have c2 := hX.cell 2
  have g0 := hX.frozen 0
  have g1 := hX.frozen 1
  have g2 := hX.frozen 2
  simp only [List.getElem?_toArray, List.getElem?_cons_zero, List.getElem?_cons_succ] at c0 c1 c2
  refine callsD_of_wpS Tryz.func36 rfl fun c₀ cs hu => ?_
  apply wpS_seq
  apply wpS_region
  simp [wpOpsS, go_sem, recoverD, hu, Tryz.ntmps36, Exit.thenS]
  apply wpS_seq
  apply wpS_region
  simp [wpOpsS, go_sem, Exit.thenS]
  refine wpS_cond (t := true) (by simp [Act.eval, Array.replicate]) ?_
  simp only [if_true]
  apply wpS_region
  simp [wpOpsS, go_sem, Array.replicate, assert_diag, c0, c1, c2, g0, g1, g2, bodyPostS, results, Tryz.results36]
end Go.Proofs.YtidmeodmkcomlaaGreatDoor

namespace Go.Proofs.YtidmeodmkcomlaaGreatDoor
open Go Go.Proofs Go.RowKit

set_option maxRecDepth 100000 in
set_option maxHeartbeats 8000000 in
theorem parsed_bad {l : List UInt8} {ts : List Tk} {c0 q0 : Nat} (hA : lexA l = .ok ts) (hT : TsOk ts) (hlen : ts.length ≤ 2097152) (hR : ∀ (B : PE) (W : World), B.ts = ts → PS B W ⟨0, 0, [], []⟩ → Calls Tryz.prog 19 #[B.ptr] W fun e w' => e = panicV c0 q0 ∧ ∃ s1, Aft B W s1 w')
    (a : Option Addr) (len cap : Nat) (w : World) (hl : l.length = len) (hEnv : Env w) (hI : TextAt w.heap.size w (.slice a len cap) l) :
    Calls Tryz.prog 18 #[.slice a len cap, .func (.func 19) #[] #[]] w fun e w' => e = .returned (.tuple #[.agg #[.slice none 0 0, .slice none 0 0, .slice none 0 0], wrongV c0 q0]) ∧ Below w.heap.size w w' := by
  obtain ⟨W0, hW0⟩ : ∃ W0, w.alloc (.cells #[.slice none 0 0, .slice none 0 0, .slice none 0 0] 27) = W0 := ⟨_, rfl⟩
  obtain ⟨W1, hW1⟩ : ∃ W1, W0.alloc (.cells #[.int .i64 0, .int .i64 0, .string ⟨#[]⟩] 30) = W1 := ⟨_, rfl⟩
  have hB0 : Below w.heap.size w W0 := by rw [← hW0]; exact (Below.refl _ _).alloc (Nat.le_refl _) _
  have hB1 : Below W0.heap.size W0 W1 := by rw [← hW1]; exact (Below.refl _ _).alloc (Nat.le_refl _) _
  have hX0 : Blk W0 w.heap.size 27 #[.slice none 0 0, .slice none 0 0, .slice none 0 0] := by rw [← hW0]; exact Blk.new w 27 _
  have hX1 : Blk W1 W0.heap.size 30 #[.int .i64 0, .int .i64 0, .string ⟨#[]⟩] := by rw [← hW1]; exact Blk.new W0 30 _
  have hB01 : Below w.heap.size w W1 := hB0.trans (hB1.mono hB0.size)
  have cL := lex_any a len cap l W1 (hEnv.on hB01) hl (TextAt.more hB01.size (hI.below hB01))
  have hmf : ∀ (fn : Fn) (first cap : Array Value) (w : World), (Instr.makeFunc fn first cap).run Tryz.prog w = .ok (.func fn first cap) w := fun _ _ _ _ => rfl
  unfold LexPost at cL
  rw [hA] at cL
  dsimp only at cL
  have hmm := @run_makeMap Tryz.prog
  go_enter_defers Tryz.func18, Tryz.ntmps18
  go_wp2_with fail
  refine cL.mono ?_
  rintro e w1 ⟨⟨v, rfl, hrow⟩, hb1⟩
  obtain ⟨g, c, rfl, hg1, hg2, hg3, hgc⟩ := row_cells hrow hT.pos
  go_wp2_with fail
  obtain ⟨W2, hW2⟩ : ∃ W2, w1.alloc (.cells #[.int .i64 0, .int .i64 0, .string ⟨#[]⟩] 30) = W2 := ⟨_, rfl⟩
  obtain ⟨W3, hW3⟩ : ∃ W3, W2.alloc (.map #[] 0) = W3 := ⟨_, rfl⟩
  have hb2 : Below w1.heap.size w1 W2 := by rw [← hW2]; exact (Below.refl _ _).alloc (Nat.le_refl _) _
  have hb3 : Below W2.heap.size W2 W3 := by rw [← hW3]; exact (Below.refl _ _).alloc (Nat.le_refl _) _
  have hb13 : Below w1.heap.size w1 W3 := hb2.trans (hb3.mono hb2.size)
  have hb3' : Below W1.heap.size W1 W3 := hb1.trans (hb13.mono hb1.size)
  have cNew := new_any W3
  rw [hW2, hW3]
  clear cL hrow
  refine cNew.mono ?_
  rintro e w4 ⟨rfl, hTO, hb4⟩
  have hz2 : W2.heap.size = w1.heap.size + 1 := by rw [← hW2]; simp
  rw [← hz2]
  clear hz2
  obtain ⟨W5, hW5⟩ : ∃ W5, w4.alloc (.cells #[.slice (some ⟨g, 0, none⟩) ts.length c, .int .i64 0, .int .i64 0, .map (some W2.heap.size), .pointer (some ⟨W3.heap.size, 0, none⟩)] 75) = W5 := ⟨_, rfl⟩
  have hb5 : Below w4.heap.size w4 W5 := by rw [← hW5]; exact (Below.refl _ _).alloc (Nat.le_refl _) _
  have hX5 : Blk W5 w4.heap.size 75 #[.slice (some ⟨g, 0, none⟩) ts.length c, .int .i64 0, .int .i64 0, .map (some W2.heap.size), .pointer (some ⟨W3.heap.size, 0, none⟩)] := by rw [← hW5]; exact Blk.new w4 75 _
  have hb35 : Below W3.heap.size W3 W5 := hb4.trans (hb5.mono hb4.size)
  have hs1 := hB0.size
  have hs2 := hB1.size
  have hs3 := hb1.size
  have hs4 := hb13.size
  have hs5 := hb4.size
  have hs6 := hb5.size
  have hb15 : Below w1.heap.size w1 W5 := hb13.trans (hb35.mono hs4)
  have hbW5 : Below w.heap.size w W5 := (hB01.trans (hb1.mono hB01.size)).trans (hb15.mono (by omega))
  have p5 : PS ⟨g, c, w4.heap.size, W3.heap.size, W3.heap.size, .map (some W2.heap.size), ts, fun _ => False⟩ W5 ⟨0, 0, [], []⟩ :=
    { env := hEnv.on hbW5
      blk := hX5
      tok := fun j u hu => (hb15.cell (p := ⟨g, j, none⟩) hg2).trans (hgc j u hu)
      gb := by show g < W3.heap.size; omega
      b6 := by show 6 ≤ W3.heap.size; have := hEnv.size; omega
      bw := hb35.size
      pbb := hs5
      cap := hg3
      built := ⟨_, _, [], [], ⟨hTO.below hb5, fun x hx => by simp at hx, fun x hx => by simp at hx⟩, rfl, rfl⟩
      n1 := by simp
      n2 := by simp
      f1 := fun x hx => by simp at hx
      f2 := fun x hx => by simp at hx
      kb := by simp
      ob := by simp
      lb := hlen
      ll := fun b hb => hb.elim }
  have cR := hR _ W5 rfl p5
  go_wp2_with fail
  obtain ⟨B, HBe⟩ : ∃ B : PE, Hid ((⟨g, c, w4.heap.size, W3.heap.size, W3.heap.size, .map (some W2.heap.size), ts, fun _ => False⟩ : PE) = B) := ⟨_, Lib.hid rfl⟩
  have HBts : Hid (B.ts = ts) := Lib.hid (by rw [← HBe.out])
  have HBpb : Hid (w4.heap.size = B.pb) := Lib.hid (by rw [← HBe.out])
  have HBb : Hid (W3.heap.size = B.base) := Lib.hid (by rw [← HBe.out])
  have HBcb : Hid (W3.heap.size = B.cb) := Lib.hid (by rw [← HBe.out])
  rw [HBe.out] at cR p5
  unfold PE.ptr at cR
  rw [← HBpb.out] at cR
  have hX0' : Blk W5 w.heap.size 27 #[.slice none 0 0, .slice none 0 0, .slice none 0 0] := (((hX0.below hB1 hX0.lt).below hb1 (Nat.lt_of_lt_of_le hX0.lt hB1.size)).below hb15 (Nat.lt_of_lt_of_le (Nat.lt_of_lt_of_le hX0.lt hB1.size) hb1.size))
  have hX1' : Blk W5 W0.heap.size 30 #[.int .i64 0, .int .i64 0, .string ⟨#[]⟩] := (hX1.below hb1 hX1.lt).below hb15 (Nat.lt_of_lt_of_le hX1.lt hb1.size)
  have hl0 := hX0.lt
  have hl1 := hX1.lt
  refine cR.mono ?_
  rintro e w6 ⟨rfl, s1, a6⟩
  have hX0'' := hX0'.below a6.bel (by rw [← HBb.out]; omega)
  have hX1'' := hX1'.below a6.bel (by rw [← HBb.out]; omega)
  have hbW6 : Below w.heap.size w w6 := hbW5.trans (a6.bel.mono (by rw [← HBb.out]; omega))
  have HX0 := Lib.hid hX0''
  have HX1 := Lib.hid hX1''
  have HB6 := Lib.hid hbW6
  clear cR a6 p5 hX0' hX1' hX0'' hX1'' hbW6 hbW5
  go_wp2_with fail
  refine leaves_cons (f := 36) (args := #[.pointer (some ⟨W0.heap.size, 0, none⟩)]) (by simp) (by simp [go_sem]) ?_
  refine (catch_bad W0.heap.size c0 q0 _ _ _ _ HX1.out).mono ?_
  rintro e u' w9 ⟨rfl, rfl, rfl⟩
  have hZ0 := ((HX0.out.far (p := ⟨W0.heap.size, 0, none⟩) (by dsimp only; omega) (.int .i64 (c0 : Int))).far (p := ⟨W0.heap.size, 1, none⟩) (by dsimp only; omega) (.int .i64 (q0 : Int))).far (p := ⟨W0.heap.size, 2, none⟩) (by dsimp only; omega) (.string ⟨#[]⟩)
  have hZ1 := ((HX1.out.set_ 0 (.int .i64 (c0 : Int))).set_ 1 (.int .i64 (q0 : Int))).set_ 2 (.string ⟨#[]⟩)
  have z0 := hZ0.cell 0
  have z1 := hZ0.cell 1
  have z2 := hZ0.cell 2
  have z3 := hZ1.cell 0
  have z4 := hZ1.cell 1
  have z5 := hZ1.cell 2
  simp only [List.setIfInBounds_toArray, List.set_cons_zero, List.set_cons_succ, List.getElem?_toArray, List.getElem?_cons_zero, List.getElem?_cons_succ] at z0 z1 z2 z3 z4 z5
  refine ⟨.tuple #[.agg #[.slice none 0 0, .slice none 0 0, .slice none 0 0], wrongV c0 q0], by simp [results, Tryz.results18, go_sem, z0, z1, z2, z3, z4, z5], rfl, ?_⟩
  exact ((HB6.out.setCell (p := ⟨W0.heap.size, 0, none⟩) hs1 _).setCell (p := ⟨W0.heap.size, 1, none⟩) hs1 _).setCell (p := ⟨W0.heap.size, 2, none⟩) hs1 _
set_option maxRecDepth 100000 in
set_option maxHeartbeats 8000000 in
theorem ptext_bad {l : List UInt8} {ts : List Tk} {c0 q0 : Nat} (hA : lexA l = .ok ts) (hT : TsOk ts) (hlen : ts.length ≤ 2097152) (hR : ∀ (B : PE) (W : World), B.ts = ts → PS B W ⟨0, 0, [], []⟩ → Calls Tryz.prog 19 #[B.ptr] W fun e w' => e = panicV c0 q0 ∧ ∃ s1, Aft B W s1 w')
    (a : Option Addr) (len cap : Nat) (w : World) (hl : l.length = len) (hEnv : Env w) (hI : TextAt w.heap.size w (.slice a len cap) l) :
    Calls Tryz.prog 9 #[.slice a len cap] w fun e w' => e = .returned (.tuple #[.agg #[.slice none 0 0, .slice none 0 0, .slice none 0 0], wrongV c0 q0]) ∧ Below w.heap.size w w' := by
  obtain ⟨W0, hW0⟩ : ∃ W0, w.alloc (.cells #[.slice none 0 0, .slice none 0 0, .slice none 0 0] 27) = W0 := ⟨_, rfl⟩
  obtain ⟨W1, hW1⟩ : ∃ W1, W0.alloc (.cells #[.int .i64 0, .int .i64 0, .string ⟨#[]⟩] 30) = W1 := ⟨_, rfl⟩
  have hB0 : Below w.heap.size w W0 := by rw [← hW0]; exact (Below.refl _ _).alloc (Nat.le_refl _) _
  have hB1 : Below W0.heap.size W0 W1 := by rw [← hW1]; exact (Below.refl _ _).alloc (Nat.le_refl _) _
  have hX0 : Blk W0 w.heap.size 27 #[.slice none 0 0, .slice none 0 0, .slice none 0 0] := by rw [← hW0]; exact Blk.new w 27 _
  have hX1 : Blk W1 W0.heap.size 30 #[.int .i64 0, .int .i64 0, .string ⟨#[]⟩] := by rw [← hW1]; exact Blk.new W0 30 _
  have hB01 : Below w.heap.size w W1 := hB0.trans (hB1.mono hB0.size)
  have cP := parsed_bad hA hT hlen hR a len cap W1 hl (hEnv.on hB01) (TextAt.more hB01.size (hI.below hB01))
  have hl0 := hX0.lt
  have hl1 := hX1.lt
  have hs1 := hB0.size
  have hs2 := hB1.size
  have HX0 := Lib.hid (hX0.below hB1 hl0)
  have HX1 := Lib.hid hX1
  have HB01 := Lib.hid hB01
  clear hA hT hR hI hB0 hB1 hX0 hX1 hB01
  go_enter Tryz.func9, Tryz.ntmps9
  go_wp2_with fail
  refine cP.mono ?_
  rintro e w8 ⟨rfl, hb8⟩
  have hX0a := HX0.out.below hb8 (by omega)
  have hX1a := HX1.out.below hb8 hl1
  have x0 := hX0a.cell 0
  have x1 := hX0a.cell 1
  have x2 := hX0a.cell 2
  have y0 := hX0a.frozen 0
  have y1 := hX0a.frozen 1
  have y2 := hX0a.frozen 2
  have x3 := hX1a.cell 0
  have x4 := hX1a.cell 1
  have x5 := hX1a.cell 2
  have y3 := hX1a.frozen 0
  have y4 := hX1a.frozen 1
  have y5 := hX1a.frozen 2
  simp only [List.getElem?_toArray, List.getElem?_cons_zero, List.getElem?_cons_succ] at x0 x1 x2 x3 x4 x5
  have hne1 : (w.heap.size = W0.heap.size) = False := eq_false (by omega)
  have hne2 : (W0.heap.size = w.heap.size) = False := eq_false (by omega)
  have HX0a := Lib.hid hX0a
  have HX1a := Lib.hid hX1a
  have HB8 := Lib.hid hb8
  clear hX0a hX1a hb8 cP hW0 hW1
  go_wp2_with fail
  have hZ0 := (((HX0a.out.set_ 0 (.slice none 0 0)).set_ 1 (.slice none 0 0)).set_ 2 (.slice none 0 0)).far (p := ⟨W0.heap.size, 0, none⟩) (by dsimp only; omega) (.int .i64 (c0 : Int)) |>.far (p := ⟨W0.heap.size, 1, none⟩) (by dsimp only; omega) (.int .i64 (q0 : Int)) |>.far (p := ⟨W0.heap.size, 2, none⟩) (by dsimp only; omega) (.string ⟨#[]⟩)
  have hZ1 := ((((((HX1a.out.far (p := ⟨w.heap.size, 0, none⟩) (by dsimp only; omega) (.slice none 0 0)).far (p := ⟨w.heap.size, 1, none⟩) (by dsimp only; omega) (.slice none 0 0)).far (p := ⟨w.heap.size, 2, none⟩) (by dsimp only; omega) (.slice none 0 0)).set_ 0 (.int .i64 (c0 : Int))).set_ 1 (.int .i64 (q0 : Int))).set_ 2 (.string ⟨#[]⟩))
  have z0 := hZ0.cell 0
  have z1 := hZ0.cell 1
  have z2 := hZ0.cell 2
  have z3 := hZ1.cell 0
  have z4 := hZ1.cell 1
  have z5 := hZ1.cell 2
  simp only [List.setIfInBounds_toArray, List.set_cons_zero, List.set_cons_succ, List.getElem?_toArray, List.getElem?_cons_zero, List.getElem?_cons_succ] at z0 z1 z2 z3 z4 z5
  refine bodyPost_ret (v := .tuple #[.agg #[.slice none 0 0, .slice none 0 0, .slice none 0 0], wrongV c0 q0]) (by simp [results, Tryz.results9, go_sem, z0, z1, z2, z3, z4, z5]) rfl ⟨rfl, ?_⟩
  have h0 : w.heap.size ≤ w.heap.size := Nat.le_refl _
  exact ((((((HB01.out.trans (HB8.out.mono (by omega))).setCell (p := ⟨w.heap.size, 0, none⟩) h0 _).setCell (p := ⟨w.heap.size, 1, none⟩) h0 _).setCell (p := ⟨w.heap.size, 2, none⟩) h0 _).setCell (p := ⟨W0.heap.size, 0, none⟩) hs1 _).setCell (p := ⟨W0.heap.size, 1, none⟩) hs1 _).setCell (p := ⟨W0.heap.size, 2, none⟩) hs1 _

end Go.Proofs.YtidmeodmkcomlaaGreatDoor

namespace Go.Proofs.YtidmeodmkcomlaaGreatDoor
open Go Go.Proofs Go.RowKit

theorem lexR_at' (c : UInt8) (r : List UInt8) (k : Nat) (t : Nat × List UInt8) (n : Nat) (h : blankB c = false) (hn : noteB (c :: r) = false) (ht : tok (c :: r) = some (t, n)) :
    lexR (c :: r) k = prep [(t.1, t.2, k)] (lexR ((c :: r).drop n) (k + n)) := by
  have hz := skipN_none c r h hn
  have := lexR_some (c :: r) k t n (by rw [hz]; exact ht)
  rw [hz] at this
  simpa using this

/-- As many times 'fun x -> ', and then x. -/
def funL : Nat → List UInt8
  | 0 => [120]
  | n + 1 => 102 :: 117 :: 110 :: 32 :: 120 :: 32 :: 45 :: 62 :: 32 :: funL n
def funT : Nat → Nat → List Tk
  | 0, k => [(1, [120], k), (0, [], k + 1)]
  | n + 1, k => (7, [102, 117, 110], k) :: (1, [120], k + 4) :: (8, [45, 62], k + 6) :: funT n (k + 9)
theorem lexR_fun : ∀ n k, lexR (funL n) k = .ok (funT n k)
  | 0, k => by
    rw [show funL 0 = [120] from rfl, lexR_at' 120 _ _ (1, [120]) 1 (by decide) rfl rfl]
    dsimp only [List.drop]
    rw [lexR_end [] _ (by rw [skipN_nil]; rfl), skipN_nil]
    rfl
  | n + 1, k => by
    rw [show funL (n + 1) = 102 :: 117 :: 110 :: 32 :: 120 :: 32 :: 45 :: 62 :: 32 :: funL n from rfl, lexR_at' 102 _ _ (7, [102, 117, 110]) 3 (by decide) rfl rfl]
    dsimp only [List.drop]
    rw [lexR_blank 32 _ _ (by decide), lexR_at' 120 _ _ (1, [120]) 1 (by decide) rfl rfl]
    dsimp only [List.drop]
    rw [lexR_blank 32 _ _ (by decide), lexR_at' 45 _ _ (8, [45, 62]) 2 (by decide) rfl rfl]
    dsimp only [List.drop]
    rw [lexR_blank 32 _ _ (by decide), lexR_fun n, show k + 3 + 1 + 1 + 1 + 2 + 1 = k + 9 by omega]
    rfl
theorem funL_length : ∀ n, (funL n).length = 9 * n + 1
  | 0 => rfl
  | n + 1 => by
    have := funL_length n
    simp only [funL, List.length_cons]
    omega
theorem funT_length : ∀ n k, (funT n k).length = 3 * n + 2
  | 0, _ => rfl
  | n + 1, k => by
    have := funT_length n (k + 9)
    simp only [funT, List.length_cons]
    omega
theorem tkA_cons' (t : Tk) (r : List Tk) (k : Nat) : tkA (t :: r) (k + 1) = tkA r k := by simp [tkA]
theorem funT_at : ∀ n k j, j < n → tkA (funT n k) (3 * j) = (7, [102, 117, 110], k + 9 * j) ∧ tkA (funT n k) (3 * j + 1) = (1, [120], k + 9 * j + 4) ∧ tkA (funT n k) (3 * j + 2) = (8, [45, 62], k + 9 * j + 6)
  | 0, _, _, h => absurd h (by omega)
  | n + 1, k, 0, _ => ⟨rfl, rfl, rfl⟩
  | n + 1, k, j + 1, h => by
    obtain ⟨a, b, c⟩ := funT_at n (k + 9) j (by omega)
    rw [show funT (n + 1) k = (7, [102, 117, 110], k) :: (1, [120], k + 4) :: (8, [45, 62], k + 6) :: funT n (k + 9) from rfl, show 3 * (j + 1) = 3 * j + 1 + 1 + 1 by omega, show 3 * j + 1 + 1 + 1 + 1 = (3 * j + 1) + 1 + 1 + 1 by omega, show 3 * j + 1 + 1 + 1 + 2 = (3 * j + 2) + 1 + 1 + 1 by omega]
    simp only [tkA_cons', a, b, c]
    rw [show k + 9 + 9 * j = k + 9 * (j + 1) by omega]
    exact ⟨rfl, rfl, rfl⟩
theorem funT_end : ∀ n k, tkA (funT n k) (3 * n) = (1, [120], k + 9 * n) ∧ tkA (funT n k) (3 * n + 1) = (0, [], k + 9 * n + 1)
  | 0, _ => ⟨rfl, rfl⟩
  | n + 1, k => by
    obtain ⟨a, b⟩ := funT_end n (k + 9)
    rw [show funT (n + 1) k = (7, [102, 117, 110], k) :: (1, [120], k + 4) :: (8, [45, 62], k + 6) :: funT n (k + 9) from rfl, show 3 * (n + 1) = 3 * n + 1 + 1 + 1 by omega, show 3 * n + 1 + 1 + 1 + 1 = (3 * n + 1) + 1 + 1 + 1 by omega]
    simp only [tkA_cons', a, b]
    rw [show k + 9 + 9 * n = k + 9 * (n + 1) by omega]
    exact ⟨rfl, rfl⟩

def nVar (p : Nat) : TermD := ⟨0, (p : Nat), bs [120], 0, 0, [], [], []⟩
def nFun (p i : Nat) : TermD := ⟨5, (p : Nat), bs [120], 0, 0, [], [(i : Int)], []⟩
/-- The terms of r functions, the innermost first; the body stands at the place e. -/
def DL (e : Nat) : Nat → List TermD
  | 0 => [nVar e]
  | r + 1 => DL e r ++ [nFun (e - 9 * (r + 1)) r]
theorem DL_length (e : Nat) : ∀ r, (DL e r).length = r + 1
  | 0 => rfl
  | r + 1 => by simp only [DL, List.length_append, List.length_cons, List.length_nil, DL_length e r]

theorem var_term {ts : List Tk} {s : St} {p q : Nat} (ht : tkA ts s.k = (1, [120], p)) (hn : tkA ts (s.k + 1) = (0, [], q)) (hl : s.t1.length < 65536) (hL : 1 ≤ ts.length) (ho : s.op < 256) :
    termM ts s = .ok s.t1.length ⟨s.k + 1, s.op, s.t1 ++ [nVar p], s.t2⟩ := by
  obtain ⟨f, hf⟩ : ∃ f, ts.length = f + 1 := ⟨ts.length - 1, by omega⟩
  have hst : ∀ xs : List (List UInt8), ¬ standsB (tkA ts (s.k + 1)) xs = true := fun xs => by rw [hn, show standsB (0, [], q) xs = false from rfl]; decide
  have hun : ¬ unitB (tkA ts (s.k + 1)) = true := by rw [hn, show unitB (0, [], q) = false from rfl]; decide
  have h1 : ∀ op, atomM ts ⟨s.k, op, s.t1, s.t2⟩ = .ok s.t1.length ⟨s.k + 1, op, s.t1 ++ [nVar p], s.t2⟩ := fun op => by
    unfold atomM
    dsimp only
    rw [ht]
    show newT _ (nVar p) = _
    unfold newT
    rw [if_pos (by exact hl)]
    rfl
  have h2 : ∀ op, postM ts ⟨s.k, op, s.t1, s.t2⟩ = .ok s.t1.length ⟨s.k + 1, op, s.t1 ++ [nVar p], s.t2⟩ := fun op => by
    unfold postM
    rw [h1, hf]
    show postL ts (f + 1) _ _ = _
    unfold postL
    dsimp only
    rw [if_neg (hst _)]
  have h3 : ∀ op, unitM ts ⟨s.k, op, s.t1, s.t2⟩ = .ok s.t1.length ⟨s.k + 1, op, s.t1 ++ [nVar p], s.t2⟩ := fun op => by
    unfold unitM
    dsimp only
    rw [ht, if_neg (show ¬ (1 : Nat) = 3 by decide), h2]
  have h4 : ∀ op, applyM ts ⟨s.k, op, s.t1, s.t2⟩ = .ok s.t1.length ⟨s.k + 1, op, s.t1 ++ [nVar p], s.t2⟩ := fun op => by
    unfold applyM
    rw [h3, hf]
    show applyL ts (f + 1) _ _ = _
    unfold applyL
    dsimp only
    rw [if_neg hun]
  have h5 : ∀ (P : St → PR) sg op, P ⟨s.k, op, s.t1, s.t2⟩ = .ok s.t1.length ⟨s.k + 1, op, s.t1 ++ [nVar p], s.t2⟩ → rowM ts P sg ⟨s.k, op, s.t1, s.t2⟩ = .ok s.t1.length ⟨s.k + 1, op, s.t1 ++ [nVar p], s.t2⟩ := fun P sg op h => by
    unfold rowM
    rw [h, hf]
    show rowL ts _ _ (f + 1) _ _ = _
    unfold rowL
    dsimp only
    rw [if_neg (hst _)]
  have h6 : ∀ op, compareM ts ⟨s.k, op, s.t1, s.t2⟩ = .ok s.t1.length ⟨s.k + 1, op, s.t1 ++ [nVar p], s.t2⟩ := fun op => by
    unfold compareM joinM
    rw [h5 (sumM ts) _ op (h5 (productM ts) _ op (h5 (applyM ts) _ op (h4 op)))]
    show (if _ then _ else _) = _
    dsimp only
    rw [if_neg (hst _)]
  unfold termM
  rw [if_neg (by omega), ht, if_neg (show ¬ ((1 : Nat) = 7 ∨ (1 : Nat) = 8) by decide)]
  show (compareM ts ⟨s.k, s.op + 1, s.t1, s.t2⟩).bind _ = _
  rw [h6]
  rfl
end Go.Proofs.YtidmeodmkcomlaaGreatDoor

namespace Go.Proofs.YtidmeodmkcomlaaGreatDoor
open Go Go.Proofs Go.RowKit

set_option maxRecDepth 100000 in
set_option maxHeartbeats 4000000 in
theorem rdepthY_any (t : TreeD) (p : Ptr6) (hW : Whole t) (hF : TreeFew t) : ∀ (b i : Nat), i < b → i < t.types.length → ∀ (w : World), TreeAt (Lt w.heap.size) w t p →
    Calls Tryz.prog 29 #[treeV t p, .int .i64 (i : Int)] w fun e w' => e = .returned (.int .i64 (dTy t i : Nat)) ∧ Below w.heap.size w w'
  | 0, _, h, _, _, _ => by omega
  | b + 1, i, hb, hi, w, hT => by
    have IH := Lib.hid (fun (j : Nat) (hj : j < b) (hjn : j < t.types.length) (W : World) (hTW : TreeAt (Lt W.heap.size) W t p) => rdepthY_any t p hW hF b j hj hjn W hTW)
    obtain ⟨a1, c1, a2, c2, a3, c3⟩ := p
    obtain ⟨tN, tT, tA⟩ := id hT
    dsimp only at tN tT tA
    have f5 : t.nodes.length ≤ 1000 := hF.2.2.2.2.1
    have f6 : t.types.length ≤ 1000 := hF.2.2.2.2.2
    have f4 : t.aliases.length ≤ 1000 := hF.2.2.2.1
    obtain ⟨W1, hW1⟩ : ∃ W1, w.alloc (.cells #[.slice a1 t.nodes.length c1, .slice a2 t.types.length c2, .slice a3 t.aliases.length c3] 27) = W1 := ⟨_, rfl⟩
    have hB1 : Below w.heap.size w W1 := by rw [← hW1]; exact (Below.refl _ _).alloc (Nat.le_refl _) _
    have hX : Blk W1 w.heap.size 27 #[.slice a1 t.nodes.length c1, .slice a2 t.types.length c2, .slice a3 t.aliases.length c3] := by rw [← hW1]; exact Blk.new w 27 _
    have hzX : w.heap.size < W1.heap.size := hX.lt
    have x0 := hX.cell 0
    have x1 := hX.cell 1
    have x2 := hX.cell 2
    simp only [List.getElem?_toArray, List.getElem?_cons_zero, List.getElem?_cons_succ] at x0 x1 x2
    have HX := Lib.hid hX
    have HT := Lib.hid hT
    obtain ⟨bb, off, rfl, hbb, hcell⟩ := tT (by omega)
    have hx := List.getElem?_eq_getElem hi
    obtain ⟨⟨qa3, qc3, qa4, qc4⟩, hq, hcq⟩ := hcell i _ hx
    have hfew := hF.2.1 _ (List.getElem_mem hi)
    have hD := dTy_eq hW.rng i hi
    have hrg := (hW.rng.typ i _ hx).1
    have hle : ∀ z ∈ t.types[i].kids, dTy t z.toNat ≤ 2000 := fun z hz => by
      have := hrg z hz
      have := dTy_le hW.rng z.toNat (by omega)
      omega
    obtain ⟨x, hx'⟩ : ∃ x, t.types[i] = x := ⟨_, rfl⟩
    rw [hx'] at hq hcq hfew hD hrg hle
    have e4 : W1.cell? ⟨bb, off + i * 6 + 4, none⟩ = some (.slice qa4 x.kids.length qc4) := (hB1.cell (p := ⟨bb, off + i * 6 + 4, none⟩) hbb).trans (hcq 4 _ rfl)
    have HK : Hid (SlAt (Lt w.heap.size) w qa4 x.kids.length (x.kids.map iv)) := Lib.hid hq.2
    have hkl := hfew.2.2.2
    obtain ⟨DD, hDD⟩ : ∃ DD, dTy t i = DD := ⟨_, rfl⟩
    rw [hDD] at hD ⊢
    have HD := Lib.hid hD
    have HRG := Lib.hid hrg
    have HLE := Lib.hid hle
    have i1 : (0 : Int) ≤ (i : Int) := by omega
    have i2 : (i : Int) < (t.types.length : Int) := by omega
    clear hX hT hcell hcq hq hx hx' hfew hD hDD hrg hle tN tA
    go_enter Tryz.func29, Tryz.ntmps29
    go_wp2
    clear hW1
    go_loopw [5, 7, 15] (fun v _ k0 wr => ∃ (k : Nat), k ≤ x.kids.length ∧ k0 = .int .i64 k ∧ v = .int .i64 (most ((x.kids.take k).map fun z => dTy t z.toNat) : Nat) ∧ Below W1.heap.size W1 wr) (fun _ _ k0 _ => x.kids.length - (intOf k0).toNat)
    case atStart => exact ⟨0, Nat.zero_le _, rfl, rfl, Below.refl _ _⟩
    case round =>
      obtain ⟨k, hk, rfl, rfl, hB⟩ := hrel
      have hBw : Below w.heap.size w wr := hB1.trans (hB.mono (by omega))
      have hmb : most ((x.kids.take k).map fun z => dTy t z.toNat) ≤ 2000 := most_of_le fun a ha => by
        obtain ⟨z, hz, rfl⟩ := List.mem_map.1 ha
        exact HLE.out z (List.mem_of_mem_take hz)
      by_cases hlt : k < x.kids.length
      · obtain ⟨b2, off2, rfl, f1⟩ := rd_at (RdAt.of_sl (HK.out.keep (keep_below hBw))) hlt
        have hz1 := HRG.out _ (List.getElem_mem hlt)
        have hz2 := HLE.out _ (List.getElem_mem hlt)
        have hT2 := most_take (fun z => dTy t z.toNat) x.kids k hlt
        obtain ⟨z, hz⟩ : ∃ z, x.kids[k] = z := ⟨_, rfl⟩
        rw [hz] at f1 hz1 hz2 hT2
        obtain ⟨j, hj⟩ : ∃ j : Nat, z = (j : Int) := ⟨z.toNat, by omega⟩
        subst hj
        rw [Int.toNat_natCast] at hz2 hT2
        have hXr := HX.out.below hB hzX
        have y0 := hXr.cell 0
        have y1 := hXr.cell 1
        have y2 := hXr.cell 2
        simp only [List.getElem?_toArray, List.getElem?_cons_zero, List.getElem?_cons_succ] at y0 y1 y2
        have kI := IH.out j (by omega) (by omega) wr (tree_up HT.out hBw)
        unfold treeV at kI
        dsimp only at kI
        obtain ⟨Dj, hDj⟩ : ∃ Dj, dTy t j = Dj := ⟨_, rfl⟩
        obtain ⟨M, hM⟩ : ∃ M, most ((x.kids.take k).map fun z => dTy t z.toNat) = M := ⟨_, rfl⟩
        rw [hDj] at kI hz2 hT2
        rw [hM] at hT2 hmb ⊢
        have HT2 := Lib.hid hT2
        clear hDj hM hT2 hz hXr hz1 hi
        go_wp2_with (go_at_call 29; (with_reducible refine kI.mono ?_); rintro e w4 ⟨rfl, hb4⟩; have hB4 := hB.trans (hb4.mono (by have := hB.size; omega)); clear hb4)
        go_roundw
        case rel => exact ⟨k + 1, by omega, by go_num, by rw [HT2.out]; go_num, hB4⟩
        case measure => simp [intOf]; omega
      · obtain rfl : k = x.kids.length := by omega
        rw [List.take_length] at hmb ⊢
        obtain ⟨M, hM⟩ : ∃ M, most (x.kids.map fun z => dTy t z.toNat) = M := ⟨_, rfl⟩
        have hfin : DD = 1 + M := by rw [HD.out, hM]
        rw [hM] at hmb ⊢
        have HFI := Lib.hid hfin
        clear hM hi hfin
        go_wp2
        go_ret
        exact ⟨ret_int (by have := HFI.out; omega), hBw⟩

set_option maxRecDepth 100000 in
set_option maxHeartbeats 4000000 in
theorem rdepthT_any (t : TreeD) (p : Ptr6) (hW : Whole t) (hF : TreeFew t) : ∀ (b i : Nat), i < b → i < t.nodes.length → ∀ (w : World), TreeAt (Lt w.heap.size) w t p →
    Calls Tryz.prog 28 #[treeV t p, .int .i64 (i : Int)] w fun e w' => e = .returned (.int .i64 (dTm t i : Nat)) ∧ Below w.heap.size w w'
  | 0, _, h, _, _, _ => by omega
  | b + 1, i, hb, hi, w, hT => by
    have IH := Lib.hid (fun (j : Nat) (hj : j < b) (hjn : j < t.nodes.length) (W : World) (hTW : TreeAt (Lt W.heap.size) W t p) => rdepthT_any t p hW hF b j hj hjn W hTW)
    have IHY := Lib.hid (fun (j : Nat) (hjn : j < t.types.length) (W : World) (hTW : TreeAt (Lt W.heap.size) W t p) => rdepthY_any t p hW hF (j + 1) j (by omega) hjn W hTW)
    obtain ⟨a1, c1, a2, c2, a3, c3⟩ := p
    obtain ⟨tN, tT, tA⟩ := id hT
    dsimp only at tN tT tA
    have f5 : t.nodes.length ≤ 1000 := hF.2.2.2.2.1
    have f6 : t.types.length ≤ 1000 := hF.2.2.2.2.2
    have f4 : t.aliases.length ≤ 1000 := hF.2.2.2.1
    obtain ⟨W1, hW1⟩ : ∃ W1, w.alloc (.cells #[.slice a1 t.nodes.length c1, .slice a2 t.types.length c2, .slice a3 t.aliases.length c3] 27) = W1 := ⟨_, rfl⟩
    have hB1 : Below w.heap.size w W1 := by rw [← hW1]; exact (Below.refl _ _).alloc (Nat.le_refl _) _
    have hX : Blk W1 w.heap.size 27 #[.slice a1 t.nodes.length c1, .slice a2 t.types.length c2, .slice a3 t.aliases.length c3] := by rw [← hW1]; exact Blk.new w 27 _
    have hzX : w.heap.size < W1.heap.size := hX.lt
    have x0 := hX.cell 0
    have x1 := hX.cell 1
    have x2 := hX.cell 2
    simp only [List.getElem?_toArray, List.getElem?_cons_zero, List.getElem?_cons_succ] at x0 x1 x2
    have HX := Lib.hid hX
    have HT := Lib.hid hT
    obtain ⟨bb, off, rfl, hbb, hcell⟩ := tN (by omega)
    have hx := List.getElem?_eq_getElem hi
    obtain ⟨⟨qa5, qc5, qa6, qc6, qa7, qc7⟩, hq, hcq⟩ := hcell i _ hx
    have hfew := hF.1 _ (List.getElem_mem hi)
    have hD := dTm_eq hW.rng i hi
    have hrg := (hW.rng.nod i _ hx).1
    have hrgY := (hW.rng.nod i _ hx).2.1
    have hle : ∀ z ∈ t.nodes[i].kids, dTm t z.toNat ≤ 2000 := fun z hz => by
      have := hrg z hz
      have := dTm_le hW.rng z.toNat (by omega)
      omega
    have hleY : ∀ z ∈ t.nodes[i].types, dTy t z.toNat ≤ 2000 := fun z hz => by
      have := hrgY z hz
      have := dTy_le hW.rng z.toNat (by omega)
      omega
    obtain ⟨x, hx'⟩ : ∃ x, t.nodes[i] = x := ⟨_, rfl⟩
    rw [hx'] at hq hcq hfew hD hrg hle hrgY hleY
    have e6 : W1.cell? ⟨bb, off + i * 8 + 6, none⟩ = some (.slice qa6 x.kids.length qc6) := (hB1.cell (p := ⟨bb, off + i * 8 + 6, none⟩) hbb).trans (hcq 6 _ rfl)
    have E7 : Hid (∀ V, Below W1.heap.size W1 V → V.cell? ⟨bb, off + i * 8 + 7, none⟩ = some (.slice qa7 x.types.length qc7)) := Lib.hid fun V hV => (hV.cell (p := ⟨bb, off + i * 8 + 7, none⟩) (Nat.lt_of_lt_of_le hbb hB1.size)).trans ((hB1.cell (p := ⟨bb, off + i * 8 + 7, none⟩) hbb).trans (hcq 7 _ rfl))
    have HK : Hid (SlAt (Lt w.heap.size) w qa6 x.kids.length (x.kids.map iv)) := Lib.hid hq.2.1
    have HKY : Hid (SlAt (Lt w.heap.size) w qa7 x.types.length (x.types.map iv)) := Lib.hid hq.2.2
    have hkl := hfew.2.2.2.1
    have hyl := hfew.2.2.2.2
    obtain ⟨DD, hDD⟩ : ∃ DD, dTm t i = DD := ⟨_, rfl⟩
    rw [hDD] at hD ⊢
    have HD := Lib.hid hD
    have HRG := Lib.hid hrg
    have HLE := Lib.hid hle
    have HRGY := Lib.hid hrgY
    have HLEY := Lib.hid hleY
    have i1 : (0 : Int) ≤ (i : Int) := by omega
    have i2 : (i : Int) < (t.nodes.length : Int) := by omega
    clear hX hT hcell hcq hq hx hx' hfew hD hDD hrg hle hrgY hleY tT tA
    go_enter Tryz.func28, Tryz.ntmps28
    go_wp2
    clear hW1
    go_loopw [5, 7, 17] (fun v _ k0 wr => ∃ (k : Nat), k ≤ x.kids.length ∧ k0 = .int .i64 k ∧ v = .int .i64 (most ((x.kids.take k).map fun z => dTm t z.toNat) : Nat) ∧ Below W1.heap.size W1 wr) (fun _ _ k0 _ => x.kids.length - (intOf k0).toNat)
    case atStart => exact ⟨0, Nat.zero_le _, rfl, rfl, Below.refl _ _⟩
    case round =>
      obtain ⟨k, hk, rfl, rfl, hB⟩ := hrel
      have hBw : Below w.heap.size w wr := hB1.trans (hB.mono (by omega))
      have hmb : most ((x.kids.take k).map fun z => dTm t z.toNat) ≤ 2000 := most_of_le fun a ha => by
        obtain ⟨z, hz, rfl⟩ := List.mem_map.1 ha
        exact HLE.out z (List.mem_of_mem_take hz)
      by_cases hlt : k < x.kids.length
      · obtain ⟨b2, off2, rfl, f1⟩ := rd_at (RdAt.of_sl (HK.out.keep (keep_below hBw))) hlt
        have hz1 := HRG.out _ (List.getElem_mem hlt)
        have hz2 := HLE.out _ (List.getElem_mem hlt)
        have hT2 := most_take (fun z => dTm t z.toNat) x.kids k hlt
        obtain ⟨z, hz⟩ : ∃ z, x.kids[k] = z := ⟨_, rfl⟩
        rw [hz] at f1 hz1 hz2 hT2
        obtain ⟨j, hj⟩ : ∃ j : Nat, z = (j : Int) := ⟨z.toNat, by omega⟩
        subst hj
        rw [Int.toNat_natCast] at hz2 hT2
        have hXr := HX.out.below hB hzX
        have y0 := hXr.cell 0
        have y1 := hXr.cell 1
        have y2 := hXr.cell 2
        simp only [List.getElem?_toArray, List.getElem?_cons_zero, List.getElem?_cons_succ] at y0 y1 y2
        have kI := IH.out j (by omega) (by omega) wr (tree_up HT.out hBw)
        unfold treeV at kI
        dsimp only at kI
        obtain ⟨Dj, hDj⟩ : ∃ Dj, dTm t j = Dj := ⟨_, rfl⟩
        obtain ⟨M, hM⟩ : ∃ M, most ((x.kids.take k).map fun z => dTm t z.toNat) = M := ⟨_, rfl⟩
        rw [hDj] at kI hz2 hT2
        rw [hM] at hT2 hmb ⊢
        have HT2 := Lib.hid hT2
        clear hDj hM hT2 hz hXr hz1 hi
        go_wp2_with (go_at_call 28; (with_reducible refine kI.mono ?_); rintro e w4 ⟨rfl, hb4⟩; have hB4 := hB.trans (hb4.mono (by have := hB.size; omega)); clear hb4)
        go_roundw
        case rel => exact ⟨k + 1, by omega, by go_num, by rw [HT2.out]; go_num, hB4⟩
        case measure => simp [intOf]; omega
      · obtain rfl : k = x.kids.length := by omega
        rw [List.take_length] at hmb ⊢
        obtain ⟨M1, hM1⟩ : ∃ M1, most (x.kids.map fun z => dTm t z.toNat) = M1 := ⟨_, rfl⟩
        have hfin : DD = 1 + max M1 (most (x.types.map fun z => dTy t z.toNat)) := by rw [HD.out, hM1]
        rw [hM1] at hmb ⊢
        have HFI := Lib.hid hfin
        have hXr := HX.out.below hB hzX
        have y0 := hXr.cell 0
        have y1 := hXr.cell 1
        have y2 := hXr.cell 2
        simp only [List.getElem?_toArray, List.getElem?_cons_zero, List.getElem?_cons_succ] at y0 y1 y2
        have e7 := E7.out wr hB
        have hB0 := hB
        have hM1b := hmb
        obtain ⟨wq, hwq⟩ : ∃ wq, wq = wr := ⟨wr, rfl⟩
        rw [← hwq] at hB0
        clear hM1 hi hfin hXr e6 x0 x1 x2 hmb hB hlt
        go_wp2
        go_loopw [5, 9, 34] (fun v _ k0 wr => ∃ (k : Nat), k ≤ x.types.length ∧ k0 = .int .i64 k ∧ v = .int .i64 (max M1 (most ((x.types.take k).map fun z => dTy t z.toNat)) : Nat) ∧ Below W1.heap.size W1 wr) (fun _ _ k0 _ => x.types.length - (intOf k0).toNat)
        case atStart => exact ⟨0, Nat.zero_le _, rfl, by simp [most], hwq ▸ hB0⟩
        case round =>
          clear y0 y1 y2 e7 hwq
          obtain ⟨k, hk, rfl, rfl, hB⟩ := hrel
          have hBw : Below w.heap.size w wr := hB1.trans (hB.mono (by omega))
          have hmb : most ((x.types.take k).map fun z => dTy t z.toNat) ≤ 2000 := most_of_le fun a ha => by
            obtain ⟨z, hz, rfl⟩ := List.mem_map.1 ha
            exact HLEY.out z (List.mem_of_mem_take hz)
          by_cases hlt : k < x.types.length
          · obtain ⟨b2, off2, rfl, f1⟩ := rd_at (RdAt.of_sl (HKY.out.keep (keep_below hBw))) hlt
            have hz1 := HRGY.out _ (List.getElem_mem hlt)
            have hz2 := HLEY.out _ (List.getElem_mem hlt)
            have hT2 := most_take (fun z => dTy t z.toNat) x.types k hlt
            obtain ⟨z, hz⟩ : ∃ z, x.types[k] = z := ⟨_, rfl⟩
            rw [hz] at f1 hz1 hz2 hT2
            obtain ⟨j, hj⟩ : ∃ j : Nat, z = (j : Int) := ⟨z.toNat, by omega⟩
            subst hj
            rw [Int.toNat_natCast] at hz2 hT2
            have hXr := HX.out.below hB hzX
            have y0 := hXr.cell 0
            have y1 := hXr.cell 1
            have y2 := hXr.cell 2
            simp only [List.getElem?_toArray, List.getElem?_cons_zero, List.getElem?_cons_succ] at y0 y1 y2
            have kI := IHY.out j (by omega) wr (tree_up HT.out hBw)
            unfold treeV at kI
            dsimp only at kI
            obtain ⟨Dj, hDj⟩ : ∃ Dj, dTy t j = Dj := ⟨_, rfl⟩
            obtain ⟨M, hM⟩ : ∃ M, most ((x.types.take k).map fun z => dTy t z.toNat) = M := ⟨_, rfl⟩
            rw [hDj] at kI hz2 hT2
            rw [hM] at hT2 hmb ⊢
            obtain ⟨MM, hMM⟩ : ∃ MM, max M1 M = MM := ⟨_, rfl⟩
            have hMMb : MM ≤ 2000 := by omega
            rw [hMM]
            have HMM := Lib.hid hMM
            clear hMM
            have HT2 := Lib.hid hT2
            clear hDj hM hT2 hz hXr hz1
            go_wp2_with (go_at_call 29; (with_reducible refine kI.mono ?_); rintro e w4 ⟨rfl, hb4⟩; have hB4 := hB.trans (hb4.mono (by have := hB.size; omega)); clear hb4)
            go_roundw
            case rel => exact ⟨k + 1, by omega, by go_num, by rw [HT2.out, ← Nat.max_assoc, HMM.out]; go_num, hB4⟩
            case measure => simp [intOf]; omega
          · obtain rfl : k = x.types.length := by omega
            rw [List.take_length] at hmb ⊢
            obtain ⟨MM, hMM⟩ : ∃ MM, max M1 (most (x.types.map fun z => dTy t z.toNat)) = MM := ⟨_, rfl⟩
            have hMMb : MM ≤ 2000 := by omega
            have hfin : DD = 1 + MM := by rw [HFI.out, hMM]
            rw [hMM]
            have HFN := Lib.hid hfin
            clear hMM hfin
            go_wp2
            go_ret
            exact ⟨ret_int (by have := HFN.out; omega), hBw⟩

set_option maxRecDepth 100000 in
set_option maxHeartbeats 4000000 in
theorem rdepth_any (t : TreeD) (p : Ptr6) (hW : Whole t) (hF : TreeFew t) (w : World) (hT : TreeAt (Lt w.heap.size) w t p) :
    Calls Tryz.prog 16 #[treeV t p] w fun e w' => e = .returned (.int .i64 (depthP t : Nat)) ∧ Below w.heap.size w w' := by
  have h1 := hW.rng.one
  have IHY := Lib.hid (fun (j : Nat) (hjn : j < t.types.length) (W : World) (hTW : TreeAt (Lt W.heap.size) W t p) => rdepthY_any t p hW hF (j + 1) j (by omega) hjn W hTW)
  have IHT := Lib.hid (fun (W : World) (hTW : TreeAt (Lt W.heap.size) W t p) => rdepthT_any t p hW hF t.nodes.length (t.nodes.length - 1) (by omega) (by omega) W hTW)
  obtain ⟨a1, c1, a2, c2, a3, c3⟩ := p
  obtain ⟨tN, tT, tA⟩ := id hT
  dsimp only at tN tT tA
  have f5 : t.nodes.length ≤ 1000 := hF.2.2.2.2.1
  have f6 : t.types.length ≤ 1000 := hF.2.2.2.2.2
  have f4 : t.aliases.length ≤ 1000 := hF.2.2.2.1
  obtain ⟨W1, hW1⟩ : ∃ W1, w.alloc (.cells #[.slice a1 t.nodes.length c1, .slice a2 t.types.length c2, .slice a3 t.aliases.length c3] 27) = W1 := ⟨_, rfl⟩
  have hB1 : Below w.heap.size w W1 := by rw [← hW1]; exact (Below.refl _ _).alloc (Nat.le_refl _) _
  have hX : Blk W1 w.heap.size 27 #[.slice a1 t.nodes.length c1, .slice a2 t.types.length c2, .slice a3 t.aliases.length c3] := by rw [← hW1]; exact Blk.new w 27 _
  have hzX : w.heap.size < W1.heap.size := hX.lt
  have x0 := hX.cell 0
  have x1 := hX.cell 1
  have x2 := hX.cell 2
  simp only [List.getElem?_toArray, List.getElem?_cons_zero, List.getElem?_cons_succ] at x0 x1 x2
  have HX := Lib.hid hX
  have HT := Lib.hid hT
  have hle : dTm t (t.nodes.length - 1) ≤ 2000 := by have := dTm_le hW.rng (t.nodes.length - 1) (by omega); omega
  have hrgA : ∀ a ∈ t.aliases, 0 ≤ a.type ∧ a.type < (t.types.length : Int) := fun a ha => ⟨(hW.rng.ali a ha).1, (hW.rng.ali a ha).2.1⟩
  have hleA : ∀ a ∈ t.aliases, dTy t a.type.toNat ≤ 2000 := fun a ha => by
    have := hrgA a ha
    have := dTy_le hW.rng a.type.toNat (by omega)
    omega
  have kT := IHT.out W1 (tree_up HT.out hB1)
  unfold treeV at kT
  dsimp only at kT
  obtain ⟨M1, hM1⟩ : ∃ M1, dTm t (t.nodes.length - 1) = M1 := ⟨_, rfl⟩
  have HP : Hid (depthP t = max M1 (most (t.aliases.map fun a => dTy t a.type.toNat))) := Lib.hid (by rw [← hM1]; rfl)
  obtain ⟨DD, hDD⟩ : ∃ DD, depthP t = DD := ⟨_, rfl⟩
  rw [hDD] at HP ⊢
  rw [hM1] at hle kT
  have hsub : IntKind.i64.wrap ((t.nodes.length : Int) - 1) = ((t.nodes.length - 1 : Nat) : Int) := by
    rw [IntWalk.i64_in _ (by omega)]; omega
  have HRG := Lib.hid hrgA
  have HLE := Lib.hid hleA
  clear hX hT hM1 hDD hrgA hleA tN tT
  go_enter Tryz.func16, Tryz.ntmps16
  go_wp2_with fail
  refine kT.mono ?_
  rintro e w2 ⟨rfl, hb2⟩
  have hBw2 : Below w.heap.size w w2 := hB1.trans (hb2.mono (by omega))
  have hX2 := HX.out.below hb2 hzX
  have hz2 := hBw2.size
  have hzX2 := hX2.lt
  have HX2 := Lib.hid hX2
  clear kT x0 x1 x2 hW1 hb2
  have y0 := hX2.cell 0
  have y1 := hX2.cell 1
  have y2 := hX2.cell 2
  simp only [List.getElem?_toArray, List.getElem?_cons_zero, List.getElem?_cons_succ] at y0 y1 y2
  clear hX2
  go_wp2
  go_loopw [3, 5, 15] (fun v _ k0 wr => ∃ (k : Nat), k ≤ t.aliases.length ∧ k0 = .int .i64 k ∧ v = .int .i64 (max M1 (most ((t.aliases.take k).map fun a => dTy t a.type.toNat)) : Nat) ∧ Below w2.heap.size w2 wr) (fun _ _ k0 _ => t.aliases.length - (intOf k0).toNat)
  case atStart => exact ⟨0, Nat.zero_le _, rfl, by simp [most], Below.refl _ _⟩
  case round =>
    clear y0 y1 y2
    obtain ⟨k, hk, rfl, rfl, hB⟩ := hrel
    have hzr := hB.size
    have hBw : Below w.heap.size w wr := hBw2.trans (hB.mono hz2)
    have hmb : most ((t.aliases.take k).map fun a => dTy t a.type.toNat) ≤ 2000 := most_of_le fun d hd => by
      obtain ⟨a, ha, rfl⟩ := List.mem_map.1 hd
      exact HLE.out a (List.mem_of_mem_take ha)
    by_cases hlt : k < t.aliases.length
    · obtain ⟨bb, off, rfl, hbb, hcell⟩ := tA (by omega)
      have hcq := hcell k _ (List.getElem?_eq_getElem hlt)
      have hz1 := HRG.out _ (List.getElem_mem hlt)
      have hz3 := HLE.out _ (List.getElem_mem hlt)
      have hT2 : most ((t.aliases.take (k + 1)).map fun a => dTy t a.type.toNat) = max (most ((t.aliases.take k).map fun a => dTy t a.type.toNat)) (dTy t t.aliases[k].type.toNat) := by
        rw [List.take_succ_eq_append_getElem hlt, List.map_append, most_append]
        simp [most]
      obtain ⟨x, hx⟩ : ∃ x, t.aliases[k] = x := ⟨_, rfl⟩
      rw [hx] at hcq hz1 hz3 hT2
      obtain ⟨nm, ty, po⟩ := x
      dsimp only at hz1 hz3 hT2
      have e0 := (hBw.cell (p := ⟨bb, off + k * 3, none⟩) hbb).trans (hcq 0 _ rfl)
      have e1 := (hBw.cell (p := ⟨bb, off + k * 3 + 1, none⟩) hbb).trans (hcq 1 _ rfl)
      have e2 := (hBw.cell (p := ⟨bb, off + k * 3 + 2, none⟩) hbb).trans (hcq 2 _ rfl)
      obtain ⟨j, hj⟩ : ∃ j : Nat, ty = (j : Int) := ⟨ty.toNat, by omega⟩
      subst hj
      rw [Int.toNat_natCast] at hz3 hT2
      obtain ⟨Wn, hWn⟩ : ∃ Wn, wr.alloc (.cells #[.string nm, .int .i64 (j : Int), .int .i64 po] 44) = Wn := ⟨_, rfl⟩
      have hBn : Below wr.heap.size wr Wn := by rw [← hWn]; exact (Below.refl _ _).alloc (Nat.le_refl _) _
      have hXn : Blk Wn wr.heap.size 44 #[.string nm, .int .i64 (j : Int), .int .i64 po] := by rw [← hWn]; exact Blk.new wr 44 _
      have p1 := hXn.cell 1
      simp only [List.getElem?_toArray, List.getElem?_cons_zero, List.getElem?_cons_succ] at p1
      have hB3 := hB.trans (hBn.mono hzr)
      have hXr := HX2.out.below hB3 hzX2
      have y0 := hXr.cell 0
      have y1 := hXr.cell 1
      have y2 := hXr.cell 2
      simp only [List.getElem?_toArray, List.getElem?_cons_zero, List.getElem?_cons_succ] at y0 y1 y2
      have kI := IHY.out j (by omega) Wn (tree_up HT.out (hBw.trans (hBn.mono (by omega))))
      unfold treeV at kI
      dsimp only at kI
      obtain ⟨Dj, hDj⟩ : ∃ Dj, dTy t j = Dj := ⟨_, rfl⟩
      obtain ⟨M, hM⟩ : ∃ M, most ((t.aliases.take k).map fun a => dTy t a.type.toNat) = M := ⟨_, rfl⟩
      rw [hDj] at kI hz3 hT2
      rw [hM] at hT2 hmb ⊢
      obtain ⟨MM, hMM⟩ : ∃ MM, max M1 M = MM := ⟨_, rfl⟩
      have hMMb : MM ≤ 2000 := by omega
      rw [hMM]
      have HMM := Lib.hid hMM
      have HT2 := Lib.hid hT2
      clear hMM hDj hM hT2 hx hXr hz1 hcell hcq hXn
      go_wp2_with (go_at_call 29; (with_reducible refine kI.mono ?_); rintro e w4 ⟨rfl, hb4⟩; have hB4 := hB3.trans (hb4.mono (by have := hB3.size; omega)); clear hb4)
      go_roundw
      case rel => exact ⟨k + 1, by omega, by go_num, by rw [HT2.out, ← Nat.max_assoc, HMM.out]; go_num, hB4⟩
      case measure => simp [intOf]; omega
    · obtain rfl : k = t.aliases.length := by omega
      rw [List.take_length] at hmb ⊢
      rw [← HP.out]
      go_wp2
      go_ret
      exact ⟨rfl, hBw⟩

end Go.Proofs.YtidmeodmkcomlaaGreatDoor

namespace Go.Proofs.YtidmeodmkcomlaaGreatDoor
open Go Go.Proofs Go.RowKit

theorem deep_ok (n : Nat) (hn : n ≤ 255) : ∀ (r j f : Nat), j + r = n → r < f → deepM (funT n 0) f ⟨3 * j, j, [], []⟩ = .ok r ⟨3 * n + 1, j, DL (9 * n) r, []⟩
  | 0, j, f + 1, hj, _ => by
    obtain rfl : j = n := by omega
    obtain ⟨a, b⟩ := funT_end j 0
    rw [Nat.zero_add] at a b
    unfold deepM
    dsimp only
    rw [if_neg (by omega), a, if_neg (show ¬ (1 : Nat) = 7 by decide)]
    have := var_term (ts := funT j 0) (s := ⟨3 * j, j, [], []⟩) a b (by simp) (by rw [funT_length]; omega) (by dsimp only; omega)
    rw [this]
    rfl
  | r + 1, j, f + 1, hj, hf => by
    obtain ⟨a, b, c⟩ := funT_at n 0 j (by omega)
    rw [Nat.zero_add] at a b c
    have ih := deep_ok n hn r (j + 1) f (by omega) (by omega)
    unfold deepM
    dsimp only
    rw [if_neg (by omega), a, if_pos rfl, b, c, if_pos ⟨rfl, rfl, rfl⟩]
    show (match deepM (funT n 0) f ⟨3 * (j + 1), j + 1, [], []⟩ with | .ok i s1 => _ | .bad e p s1 => _ | .un => _) = _
    rw [ih]
    dsimp only
    rw [DL_length, if_pos (by omega)]
    show DR.ok _ _ = DR.ok _ _
    rw [show 9 * j = 9 * n - 9 * (r + 1) by omega]
    rfl
theorem deep_bad (n : Nat) (hn : 256 ≤ n) : ∀ (m j f : Nat), j + m = 256 → m < f → deepM (funT n 0) f ⟨3 * j, j, [], []⟩ = .bad 5 2304 ⟨768, j, [], []⟩
  | 0, j, f + 1, hj, _ => by
    obtain rfl : j = 256 := by omega
    unfold deepM
    dsimp only
    rw [if_pos rfl]
    have hp : (tkA (funT n 0) (3 * 256)).2.2 = 2304 := by
      by_cases h : 256 < n
      · rw [(funT_at n 0 256 h).1]
      · obtain rfl : n = 256 := by omega
        rw [(funT_end 256 0).1]
    rw [hp]
  | m + 1, j, f + 1, hj, hf => by
    obtain ⟨a, b, c⟩ := funT_at n 0 j (by omega)
    rw [Nat.zero_add] at a b c
    have ih := deep_bad n hn m (j + 1) f (by omega) (by omega)
    unfold deepM
    dsimp only
    rw [if_neg (by omega), a, if_pos rfl, b, c, if_pos ⟨rfl, rfl, rfl⟩]
    show (match deepM (funT n 0) f ⟨3 * (j + 1), j + 1, [], []⟩ with | .ok i s1 => _ | .bad e p s1 => _ | .un => _) = _
    rw [ih]
    rfl

theorem funL_ascii : ∀ n, ∀ c ∈ funL n, c.toNat < 128
  | 0, c, h => by
    simp only [funL, List.mem_singleton] at h
    subst h
    decide
  | n + 1, c, h => by
    rw [show funL (n + 1) = 102 :: 117 :: 110 :: 32 :: 120 :: 32 :: 45 :: 62 :: 32 :: funL n from rfl] at h
    simp only [List.mem_cons] at h
    rcases h with rfl | rfl | rfl | rfl | rfl | rfl | rfl | rfl | rfl | h
    all_goals first | decide | exact funL_ascii n c h
theorem funT_short : ∀ n k, ∀ t ∈ funT n k, t.2.1.length ≤ 3
  | 0, k, t, h => by
    simp only [funT, List.mem_cons, List.not_mem_nil, or_false] at h
    rcases h with rfl | rfl
    · show 1 ≤ 3; decide
    · exact Nat.zero_le _
  | n + 1, k, t, h => by
    simp only [funT, List.mem_cons] at h
    rcases h with rfl | rfl | rfl | h
    · show 3 ≤ 3; decide
    · show 1 ≤ 3; decide
    · show 2 ≤ 3; decide
    · exact funT_short n _ t h
theorem funOk (n : Nat) : TsOk (funT n 0) := ⟨by rw [funT_length]; omega, by rw [funT_length, show 3 * n + 2 - 1 = 3 * n + 1 by omega, (funT_end n 0).2], fun k => by
  unfold tkA
  rw [List.getD_eq_getElem?_getD]
  rcases hk : (funT n 0)[k]? with _ | t
  · simp
  · have := funT_short n 0 t (List.mem_of_getElem? hk)
    simp only [Option.getD_some]
    omega⟩

theorem DL_zero (e : Nat) : ∀ r, (DL e r)[0]? = some (nVar e)
  | 0 => rfl
  | r + 1 => by
    rw [show DL e (r + 1) = DL e r ++ [nFun (e - 9 * (r + 1)) r] from rfl, List.getElem?_append_left (by rw [DL_length]; omega)]
    exact DL_zero e r
theorem DL_at (e : Nat) : ∀ r i, i < r → (DL e r)[i + 1]? = some (nFun (e - 9 * (i + 1)) i)
  | 0, _, h => absurd h (by omega)
  | r + 1, i, h => by
    have hl := DL_length e r
    rw [show DL e (r + 1) = DL e r ++ [nFun (e - 9 * (r + 1)) r] from rfl]
    by_cases hi : i < r
    · rw [List.getElem?_append_left (by omega)]
      exact DL_at e r i hi
    · obtain rfl : i = r := by omega
      rw [List.getElem?_append_right (by omega), hl, Nat.sub_self]
      rfl
theorem DL_kids (e : Nat) : ∀ r, nats ((DL e r).flatMap (·.kids)) = List.range r
  | 0 => rfl
  | r + 1 => by
    rw [show DL e (r + 1) = DL e r ++ [nFun (e - 9 * (r + 1)) r] from rfl, List.flatMap_append, nats_append, DL_kids e r, List.range_succ]
    rfl
theorem DL_types (e : Nat) : ∀ r, (DL e r).flatMap (·.types) = []
  | 0 => rfl
  | r + 1 => by
    rw [show DL e (r + 1) = DL e r ++ [nFun (e - 9 * (r + 1)) r] from rfl, List.flatMap_append, DL_types e r]
    rfl
theorem var_B (p : Nat) : termB (nVar p) = true := by rfl
theorem fun_B (p i : Nat) : termB (nFun p i) = true := by rfl
theorem DL_mem (e : Nat) {r j : Nat} {x : TermD} (h : (DL e r)[j]? = some x) : (j = 0 ∧ x = nVar e) ∨ ∃ i, i < r ∧ j = i + 1 ∧ x = nFun (e - 9 * (i + 1)) i := by
  cases j with
  | zero =>
    rw [DL_zero] at h
    injection h with h
    exact .inl ⟨rfl, h.symm⟩
  | succ i =>
    have hl : i + 1 < (DL e r).length := (List.getElem?_eq_some_iff.1 h).1
    rw [DL_length] at hl
    rw [DL_at e r i (by omega)] at h
    injection h with h
    exact .inr ⟨i, by omega, rfl, h.symm⟩

theorem DL_whole (e r : Nat) (hr : r ≤ 999) : Whole ⟨DL e r, [], []⟩ := by
  have hk : nats (kidsAll ⟨DL e r, [], []⟩) = List.range r := DL_kids e r
  have hu : usesAll ⟨DL e r, [], []⟩ = [] := by
    unfold usesAll
    simp only [List.flatMap_nil, List.map_nil, List.append_nil]
    exact DL_types e r
  refine ⟨⟨by simp [DL_length], fun j x hx => ?_, fun j x hx => by simp at hx, fun x hx => by simp at hx⟩, by simp only [DL_length]; omega, by simp, by rw [hk]; exact List.nodup_range, by rw [hu]; simp [nats], fun j hj => ?_, fun j hj => by simp at hj⟩
  · rcases DL_mem e hx with ⟨rfl, rfl⟩ | ⟨i, hi, rfl, rfl⟩
    · exact ⟨fun k hk => by simp [nVar] at hk, fun k hk => by simp [nVar] at hk, var_B e⟩
    · refine ⟨fun k hk => ?_, fun k hk => by simp [nFun] at hk, fun_B _ _⟩
      simp only [nFun, List.mem_singleton] at hk
      subst hk
      omega
  · rw [hk, List.mem_range]
    simp only [DL_length] at hj
    omega
theorem DL_few (e r : Nat) (hr : r ≤ 999) : TreeFew ⟨DL e r, [], []⟩ := by
  refine ⟨fun x hx => ?_, fun x hx => by simp at hx, fun x hx => by simp at hx, by simp, by simp only [DL_length]; omega, by simp⟩
  obtain ⟨j, hj⟩ := List.getElem?_of_mem hx
  rcases DL_mem e hj with ⟨rfl, rfl⟩ | ⟨i, hi, rfl, rfl⟩
  · exact ⟨by show (bs [120]).size ≤ 1000; rw [bs_size]; decide, by simp [nVar], fun s hs => by simp [nVar] at hs, by simp [nVar], by simp [nVar]⟩
  · exact ⟨by show (bs [120]).size ≤ 1000; rw [bs_size]; decide, by simp [nFun], fun s hs => by simp [nFun] at hs, by simp [nFun], by simp [nFun]⟩
theorem DL_depth (e r : Nat) (hr : r ≤ 999) : depthP ⟨DL e r, [], []⟩ = r + 1 := by
  have hW := DL_whole e r hr
  have hd := hW.rng.dnN
  have h : ∀ i, i ≤ r → dTm ⟨DL e r, [], []⟩ i = i + 1 := by
    intro i
    induction i with
    | zero =>
      intro _
      unfold dTm
      rw [depth_eq hd (by simp [DL_length])]
      have h0 : tmK ⟨DL e r, [], []⟩ 0 = [] := by unfold tmK; rw [show (⟨DL e r, [], []⟩ : TreeD).nodes = DL e r from rfl, DL_zero]; rfl
      have h1 : tmT ⟨DL e r, [], []⟩ 0 = [] := by unfold tmT; rw [show (⟨DL e r, [], []⟩ : TreeD).nodes = DL e r from rfl, DL_zero]; rfl
      rw [h0, h1]
      rfl
    | succ i ih =>
      intro hi
      unfold dTm
      rw [depth_eq hd (by simp only [DL_length]; omega)]
      have h0 : tmK ⟨DL e r, [], []⟩ (i + 1) = [i] := by unfold tmK; rw [show (⟨DL e r, [], []⟩ : TreeD).nodes = DL e r from rfl, DL_at e r i (by omega)]; rfl
      have h1 : tmT ⟨DL e r, [], []⟩ (i + 1) = [] := by unfold tmT; rw [show (⟨DL e r, [], []⟩ : TreeD).nodes = DL e r from rfl, DL_at e r i (by omega)]; rfl
      show 1 + max (most ((tmK ⟨DL e r, [], []⟩ (i + 1)).map (dTm ⟨DL e r, [], []⟩))) (most ((tmT ⟨DL e r, [], []⟩ (i + 1)).map (dTy ⟨DL e r, [], []⟩))) = i + 1 + 1
      rw [h0, h1, List.map_cons, List.map_nil, ih (by omega)]
      simp only [most, List.map_nil, List.foldl_cons, List.foldl_nil]
      omega
  unfold depthP
  simp only [DL_length, Nat.add_sub_cancel, List.map_nil]
  rw [h r (Nat.le_refl _)]
  simp [most]
end Go.Proofs.YtidmeodmkcomlaaGreatDoor

namespace Go.Proofs.YtidmeodmkcomlaaGreatDoor
open Go Go.Proofs Go.RowKit

/-- As many times 'fun x -> '. -/
def funP : Nat → List UInt8
  | 0 => []
  | n + 1 => 102 :: 117 :: 110 :: 32 :: 120 :: 32 :: 45 :: 62 :: 32 :: funP n
theorem funP_snoc : ∀ n, funP n ++ [102, 117, 110, 32, 120, 32, 45, 62, 32] = funP (n + 1)
  | 0 => rfl
  | n + 1 => by
    rw [show funP (n + 1) = 102 :: 117 :: 110 :: 32 :: 120 :: 32 :: 45 :: 62 :: 32 :: funP n from rfl]
    simp only [List.cons_append]
    rw [funP_snoc n]
    rfl
theorem funP_x : ∀ n, funP n ++ [120] = funL n
  | 0 => rfl
  | n + 1 => by
    rw [show funP (n + 1) = 102 :: 117 :: 110 :: 32 :: 120 :: 32 :: 45 :: 62 :: 32 :: funP n from rfl]
    simp only [List.cons_append]
    rw [funP_x n]
    rfl
theorem funP_length : ∀ n, (funP n).length = 9 * n
  | 0 => rfl
  | n + 1 => by
    have := funP_length n
    simp only [funP, List.length_cons]
    omega
theorem lex_fun (n : Nat) (hn : n ≤ 1000) : lexA (funL n) = .ok (funT n 0) := by
  unfold lexA
  rw [if_neg (by rw [funL_length]; omega), bd_all _ (funL_ascii n), if_neg (by omega), lexR_fun]

/-- The rule text over functions, as a rule. -/
def deepR (ts : List Tk) (s : St) : PR := if standsB (tkA ts s.k) [[116, 121, 112, 101]] = true then .un else match deepM ts 257 s with
  | .ok i s' => .ok i s'
  | _ => .un
theorem deepR_rule {ts : List Tk} (hT : TsOk ts) : Rule0 ts 19 (deepR ts) := by
  intro B w s i s' hBts h hk hM
  unfold deepR at hM
  by_cases hs : standsB (tkA ts s.k) [[116, 121, 112, 101]] = true
  · rw [if_pos hs] at hM; cases hM
  rw [if_neg hs] at hM
  cases hD : deepM ts 257 s with
  | ok j s1 =>
    rw [hD] at hM
    injection hM with h1 h2
    subst h1
    subst h2
    exact (textD_any hT 257 hBts h hk (by simpa using hs)).1 _ _ hD
  | bad c p s1 => rw [hD] at hM; cases hM
  | un => rw [hD] at hM; cases hM
theorem fun_first (n : Nat) : standsB (tkA (funT n 0) 0) [[116, 121, 112, 101]] = false := by cases n <;> rfl

theorem bsF_append (a b : List UInt8) : bs a ++ bs b = bs (a ++ b) := by
  unfold bs
  apply ByteArray.ext
  simp [ByteArray.data_append]
theorem pre_snoc (n : Nat) : bs (funP n) ++ ⟨#[102, 117, 110, 32, 120, 32, 45, 62, 32]⟩ = bs (funP (n + 1)) := by
  rw [show (⟨#[102, 117, 110, 32, 120, 32, 45, 62, 32]⟩ : ByteArray) = bs [102, 117, 110, 32, 120, 32, 45, 62, 32] from rfl, bsF_append, funP_snoc]
theorem pre_x (n : Nat) : bs (funP n) ++ ⟨#[120]⟩ = bs (funL n) := by
  rw [show (⟨#[120]⟩ : ByteArray) = bs [120] from rfl, bsF_append, funP_x]
theorem pre_size (n : Nat) : (bs (funP n)).size = 9 * n := by rw [bs_size, funP_length]
theorem funL_size (n : Nat) : (bs (funL n)).size = 9 * n + 1 := by rw [bs_size, funL_length]

set_option maxRecDepth 100000 in
set_option maxHeartbeats 40000000 in
theorem deepLaw_any (m : Nat) (hm : m ≤ 65535) (w : World) (hE : Env w) : Calls Tryz.prog 7 #[.int .u16 (m : Int)] w fun e w' => e = .returned (.bool true) ∧ Below w.heap.size w w' := by
  have cV := lives_any w hE
  obtain ⟨n, hn⟩ : ∃ n, m % 400 = n := ⟨_, rfl⟩
  have hn400 : n < 400 := by omega
  have hrem : ((m : Int)).tmod 400 = (n : Int) := by rw [← hn]; rfl
  have kc := fun (w : World) (s : ByteArray) => Lib.run_convert_string_bytes (P := Tryz.prog) w 9 33 5 s Tryz.underlying9 Tryz.underlying33 Tryz.underlying5
  go_enter Tryz.func7, Tryz.ntmps7
  go_wp2_with fail
  refine cV.mono ?_
  rintro e w1 ⟨rfl, hb1⟩
  have HB1 := Lib.hid hb1
  have HE := Lib.hid hE
  clear cV hb1 hE hn
  go_wp2_with fail
  go_loopw [4, 13] (fun a c wr => ∃ j : Nat, j ≤ n ∧ a = .string (bs (funP j)) ∧ c = .int .i64 (j : Int) ∧ wr = w1) (fun _ c _ => n - (intOf c).toNat)
  case atStart => exact ⟨0, Nat.zero_le _, rfl, rfl, rfl⟩
  case round =>
    obtain ⟨j, hj, rfl, rfl, rfl⟩ := hrel
    have hs4 := pre_size j
    have hc4 := pre_snoc j
    by_cases hlt : j < n
    · go_wp2_with fail
      exact ⟨⟨j + 1, by omega, rfl, rfl, trivial⟩, by simp [intOf]; omega⟩
    · obtain rfl : j = n := by omega
      have hc5 := pre_x j
      have hs5 := funL_size j
      clear hc4
      go_wp2_with fail
      clear hc5 hlt hj hm
      have hbs1 : Below wr.heap.size wr (Lib.bytesWorld wr 5 (bs (funL j))) := Go.Joins.below_bytesWorld _ _ _ _ (Nat.le_refl _)
      have hz1 : (Lib.bytesWorld wr 5 (bs (funL j))).heap.size = wr.heap.size + 1 := Lib.bytesWorld_size _ _ _
      have hE1 : Env (Lib.bytesWorld wr 5 (bs (funL j))) := HE.out.on (HB1.out.trans (hbs1.mono HB1.out.size))
      have hT1 := text_bytes wr (bs (funL j))
      rw [tl_bs, ← hz1, hs5] at hT1
      have hlen2 : (funT j 0).length ≤ 2097152 := by rw [funT_length]; omega
      by_cases h256 : 256 ≤ j
      · have cA := ptext_bad (lex_fun j (by omega)) (funOk j) hlen2 (fun B W hB p => by
          have := (textD_any (funOk j) 257 hB p (by rw [funT_length]; show 0 < 3 * j + 2; omega) (fun_first j)).2 5 2304 _ (deep_bad j h256 256 0 257 (by omega) (by omega))
          exact this.mono (fun e w' q => ⟨q.1, _, q.2⟩)) (some ⟨wr.heap.size, 0, none⟩) (9 * j + 1) (grownCap wr (9 * j + 1) 0 5) (Lib.bytesWorld wr 5 (bs (funL j))) (by rw [← bs_size, hs5]) hE1 hT1
        refine cA.mono ?_
        rintro e w3 ⟨rfl, hb3⟩
        have HB3 := Lib.hid ((HB1.out.trans (hbs1.mono HB1.out.size)).trans (hb3.mono (by have := HB1.out.size; omega)))
        have hge : (256 : Int) ≤ (j : Int) := by omega
        clear cA hT1 hE1 hbs1 hz1 hb3 h256
        go_wp2_with fail
        go_ret
        exact ⟨rfl, (HB3.out.alloc HB3.out.size _).alloc (by simp only [World.size_alloc]; have := HB3.out.size; omega) _⟩
      · have hM : deepR (funT j 0) ⟨0, 0, [], []⟩ = .ok j ⟨3 * j + 1, 0, DL (9 * j) j, []⟩ := by
          unfold deepR
          dsimp only
          rw [if_neg (by rw [fun_first j]; decide), show deepM (funT j 0) 257 ⟨0, 0, [], []⟩ = _ from deep_ok j (by omega) j 0 257 (by omega) (by omega)]
        have cA := ptext_any (lex_fun j (by omega)) (funOk j) hlen2 (deepR (funT j 0)) (deepR_rule (funOk j)) hM (by rw [(funT_end j 0).2]) (by rw [funT_length]; show 3 * j + 1 < 3 * j + 2; omega) (some ⟨wr.heap.size, 0, none⟩) (9 * j + 1) (grownCap wr (9 * j + 1) 0 5) (Lib.bytesWorld wr 5 (bs (funL j))) (by rw [← bs_size, hs5]) hE1 hT1
        dsimp only at cA
        refine cA.mono ?_
        rintro e w3 ⟨p, rfl, hTA, hb3⟩
        have HB3 := Lib.hid ((HB1.out.trans (hbs1.mono HB1.out.size)).trans (hb3.mono (by have := HB1.out.size; omega)))
        have hlt : (j : Int) < 256 := by omega
        have HTA := Lib.hid hTA
        have HJ := Lib.hid h256
        clear cA hT1 hE1 hbs1 hz1 hb3 h256 hM hTA
        go_wp2_with fail
        obtain ⟨W4, hW4⟩ : ∃ W4, w3.alloc (.cells #[.slice p.a1 (DL (9 * j) j).length p.c1, .slice p.a2 0 p.c2, .slice p.a3 0 p.c3] 27) = W4 := ⟨_, rfl⟩
        obtain ⟨W5, hW5⟩ : ∃ W5, W4.alloc (.cells #[.int .i64 0, .int .i64 0, .string ⟨#[]⟩] 30) = W5 := ⟨_, rfl⟩
        rw [hW4, hW5]
        have hb4 : Below w3.heap.size w3 W4 := by rw [← hW4]; exact (Below.refl _ _).alloc (Nat.le_refl _) _
        have hb5 : Below W4.heap.size W4 W5 := by rw [← hW5]; exact (Below.refl _ _).alloc (Nat.le_refl _) _
        have hb35 : Below w3.heap.size w3 W5 := hb4.trans (hb5.mono hb4.size)
        have hTA5 : TreeAt (Lt W5.heap.size) W5 ⟨DL (9 * j) j, [], []⟩ p := (HTA.out.keep (fun b o hb => hb35.cell (p := ⟨b, o, none⟩) hb.2)).imp (fun b hb => Nat.lt_of_lt_of_le hb.2 hb35.size)
        have cD := rdepth_any ⟨DL (9 * j) j, [], []⟩ p (DL_whole (9 * j) j (by omega)) (DL_few (9 * j) j (by omega)) W5 hTA5
        rw [DL_depth (9 * j) j (by omega)] at cD
        refine cD.mono ?_
        rintro e w6 ⟨rfl, hb6⟩
        have HB6 := Lib.hid (HB3.out.trans ((hb35.trans (hb6.mono hb35.size)).mono HB3.out.size))
        clear cD hTA5 hb4 hb5 hb35 hb6 hW4 hW5
        go_wp2_with fail
        go_ret
        exact ⟨rfl, HB6.out⟩
end Go.Proofs.YtidmeodmkcomlaaGreatDoor
