/- Functions within functions: the rule fun, and the rule term, which may be too deep. -/
import Derived.Test.YtjbdgjbmbohfmaaGreatDoorK20
namespace Go.Proofs.YtjbdgjbmbohfmaaGreatDoor
open Go Go.Proofs Go.RowKit
/-- What a rule gives that may be too deep: a number and the new state; or what is wrong, where, and the state then; or nothing is said. -/
inductive DR where
 | ok (i : Nat) (s : St)
 | bad (e p : Nat) (s : St)
 | un

def deepM (ts : List Tk) : Nat → St → DR
 | 0, _ => .un
 | f + 1, s =>
  if s.op = 256 then .bad 5 (tkA ts s.k).2.2 s
  else if (tkA ts s.k).1 = 7 then
   if (tkA ts s.k).2.1 = [102, 117, 110] ∧ (tkA ts (s.k + 1)).1 = 1 ∧ standsB (tkA ts (s.k + 2)) [[45, 62]] = true then
    match deepM ts f (s.up.on 3) with
    | .ok i s1 => if s1.t1.length < 65536 then .ok s1.t1.length ⟨s1.k, s1.op - 1, s1.t1 ++ [⟨5, ((tkA ts s.k).2.2 : Nat), bs (tkA ts (s.k + 1)).2.1, 0, 0, [], [(i : Int)], []⟩], s1.t2⟩ else .un
    | .bad e p s1 => .bad e p s1.down
    | .un => .un
   else .un
  else match termM ts s with
   | .ok i s' => .ok i s'
   | .un => .un

abbrev funV (p : Int) (x : ByteArray) : List Value := [.int .i64 5, .int .i64 p, .string x, .int .i64 0, .int .u64 0, .slice none 0 0, .slice none 0 0, .slice none 0 0]

set_option maxRecDepth 100000 in
set_option maxHeartbeats 8000000 in
theorem fun_ok {ts : List Tk} (hT : TsOk ts) {B : PE} {w : World} {s : St} (hBts : B.ts = ts) (h : PS B w s) (hk : s.k < ts.length) (h0 : (tkA ts s.k).1 = 7) (h1 : (tkA ts (s.k + 1)).1 = 1) (h2 : standsB (tkA ts (s.k + 2)) [[45, 62]] = true)
 {i : Nat} {s1 : St} (hl : s1.t1.length < 65536)
 (hD : ∀ (G : Nat → Prop) (W : World), PS (B.with G) W (s.on 3) → Calls Tryz.prog 125 #[B.ptr] W fun e w' => e = .returned (.int .i64 (i : Nat)) ∧ Aft (B.with G) W s1 w') :
 Calls Tryz.prog 180 #[B.ptr] w fun e w' => e = .returned (.int .i64 (s1.t1.length : Nat)) ∧ Aft B w ⟨s1.k, s1.op, s1.t1 ++ [⟨5, ((tkA ts s.k).2.2 : Nat), bs (tkA ts (s.k + 1)).2.1, 0, 0, [], [(i : Int)], []⟩], s1.t2⟩ w' := by
 have hk1 : s.k + 1 < ts.length := hT.step hk (by rw [h0]; decide)
 have hk2 : s.k + 2 < ts.length := hT.step hk1 (by rw [h1]; decide)
 have cX : Calls Tryz.prog 96 #[B.ptr] w fun e w' => e = .returned (tokV (tkA ts s.k)) ∧ Aft B w (s.on 1) w' := by
  have := next_any h (by rw [hBts]; exact hk)
  rwa [hBts] at this
 have cT : ∀ W, PS B W (s.on 1) → Calls Tryz.prog 90 #[B.ptr, .int .i64 1] W fun e w' => e = .returned (tokV (tkA ts (s.k + 1))) ∧ Aft B W (s.on 2) w' := fun W p => by
  have := token_any p (by rw [hBts]; exact hk1) 1 (by rw [hBts]; exact h1)
  rw [hBts] at this
  exact this
 have cM : ∀ (G : Nat → Prop) (W : World), PS (B.with G) W (s.on 2) → Calls Tryz.prog 123 #[B.ptr, .string ⟨#[45, 62]⟩] W fun e w' => e = .returned (.tuple #[]) ∧ Aft (B.with G) W (s.on 3) w' := fun G W p =>
  must_yes (B := B.with G) p (by show s.k + 2 < B.ts.length; rw [hBts]; exact hk2) [45, 62] (by show standsB (tkA B.ts (s.k + 2)) _ = true; rw [hBts]; exact h2)
 have hfd := tokF2
 have hfe := tokF1
 have hbw := h.bw
 generalize tkA ts s.k = t at *
 generalize tkA ts (s.k + 1) = t' at *
 clear h h0 h1 h2 hk hk1 hk2
 go_enter Tryz.func180, Tryz.ntmps180
 go_wp2_with fail
 with_reducible refine cX.mono ?_
 rintro e w1 ⟨rfl, a1⟩
 go_wp2_with fail
 with_reducible refine (cT w1 a1.ps).mono ?_
 rintro e w2 ⟨rfl, a2⟩
 have a12 := a1.trans a2
 go_wp2_with fail
 obtain ⟨W3, hW3⟩ : ∃ W3, w2.alloc (.cells (funV (t.2.2 : Int) (bs t'.2.1)).toArray 60) = W3 := ⟨_, rfl⟩
 have hb3 : Below w2.heap.size w2 W3 := by rw [← hW3]; exact (Below.refl _ _).alloc (Nat.le_refl _) _
 have hX3 : Blk W3 w2.heap.size 60 (funV (t.2.2 : Int) (bs t'.2.1)).toArray := by rw [← hW3]; exact Blk.new w2 60 _
 have l3 := hX3.lt
 have o3 := AftO.start a12.ps hb3 (fun b => b = w2.heap.size) (fun b hb => by subst hb; exact ⟨Nat.le_refl _, l3⟩)
 rw [hW3]
 refine (cM _ W3 o3.ps).mono ?_
 rintro e w4 ⟨rfl, a4⟩
 have o4 := o3.call a4
 have hX4 : Blk w4 w2.heap.size 60 (funV (t.2.2 : Int) (bs t'.2.1)).toArray := (o3.same a4 rfl).trans hX3
 clear hW3
 go_wp2_with fail
 refine (hD _ w4 o4.ps).mono ?_
 rintro e w5 ⟨rfl, a5⟩
 have o5 := o4.call a5
 have hX5 : Blk w5 w2.heap.size 60 (funV (t.2.2 : Int) (bs t'.2.1)).toArray := (o4.same a5 rfl).trans hX4
 have l5 := hX5.lt
 obtain ⟨W6, hW6⟩ : ∃ W6, w5.alloc (.cells #[.int .i64 (i : Int)] 3) = W6 := ⟨_, rfl⟩
 have hb6 : Below w5.heap.size w5 W6 := by rw [← hW6]; exact (Below.refl _ _).alloc (Nat.le_refl _) _
 have hK6 : Blk W6 w5.heap.size 3 #[.int .i64 (i : Int)] := by rw [← hW6]; exact Blk.new w5 3 _
 have o6 := o5.below hb6
 have hX6 := hX5.below hb6 l5
 have x6 := hX6.cell 6
 have y6 := hX6.frozen 6
 simp only [List.getElem?_toArray, List.getElem?_cons_zero, List.getElem?_cons_succ] at x6
 obtain ⟨W7, hW7⟩ : ∃ W7, W6.setCell ⟨w2.heap.size, 6, none⟩ (.slice (some ⟨w5.heap.size, 0, none⟩) 1 1) = W7 := ⟨_, rfl⟩
 have hbb : B.base ≤ w2.heap.size := Nat.le_trans hbw a12.kt.1
 have o7 := o6.set (g := w2.heap.size) rfl 6 (.slice (some ⟨w5.heap.size, 0, none⟩) 1 1) hbb
 have hX7 := hX6.set_ 6 (.slice (some ⟨w5.heap.size, 0, none⟩) 1 1)
 have hK7 := hK6.far (p := ⟨w2.heap.size, 6, none⟩) (by dsimp only; omega) (.slice (some ⟨w5.heap.size, 0, none⟩) 1 1)
 rw [hW7] at o7 hX7 hK7
 have d0 := hX7.cell 0
 have d1 := hX7.cell 1
 have d2 := hX7.cell 2
 have d3 := hX7.cell 3
 have d4 := hX7.cell 4
 have d5 := hX7.cell 5
 have d6 := hX7.cell 6
 have d7 := hX7.cell 7
 simp only [List.setIfInBounds_toArray, List.set_cons_zero, List.set_cons_succ, List.getElem?_toArray, List.getElem?_cons_zero, List.getElem?_cons_succ] at d0 d1 d2 d3 d4 d5 d6 d7
 have cN := newTerm_any (B := B.with (fun b => b = w2.heap.size)) o7.ps hl ⟨5, (t.2.2 : Nat), bs t'.2.1, 0, 0, [], [(i : Int)], []⟩ ⟨none, 0, some ⟨w5.heap.size, 0, none⟩, 1, none, 0⟩ ⟨SlAt.nil, ⟨rfl, fun _ => ⟨w5.heap.size, 0, rfl, hK7.lt, fun j u hu => by
  rw [Nat.zero_add, hK7.cell j]
  match j, hu with
  | 0, hu => simpa using hu
  | j + 1, hu => simp at hu⟩⟩, SlAt.nil⟩ ⟨by simp, by simp, by simp⟩
 have cN' : Calls Tryz.prog 224 #[B.ptr, .agg #[.int .i64 5, .int .i64 (t.2.2 : Int), .string (bs t'.2.1), .int .i64 0, .int .u64 0, .slice none 0 0, .slice (some ⟨w5.heap.size, 0, none⟩) 1 1, .slice none 0 0]] W7 fun e w' => e = .returned (.int .i64 (s1.t1.length : Nat)) ∧ Aft (B.with (fun b => b = w2.heap.size)) W7 ⟨s1.k, s1.op, s1.t1 ++ [⟨5, (t.2.2 : Nat), bs t'.2.1, 0, 0, [], [(i : Int)], []⟩], s1.t2⟩ w' := cN
 have A12 := Lib.hid a12
 have O7 := Lib.hid o7
 clear cN hX7 hK7 hX6 hK6 o6 o7 hb6 a5 o5 hX5 a4 o4 hX4 o3 hX3 hb3 a12 a1 a2 cM cT cX hD
 go_wp2_with fail
 refine cN'.mono ?_
 rintro e w8 ⟨rfl, a8⟩
 have A8 := Lib.hid (A12.out.trans (O7.out.call a8).out)
 clear a8 cN'
 go_wp2_with fail
 go_ret
 exact ⟨rfl, A8.out⟩
set_option maxRecDepth 100000 in
set_option maxHeartbeats 8000000 in
theorem fun_bad {ts : List Tk} (hT : TsOk ts) {B : PE} {w : World} {s : St} (hBts : B.ts = ts) (h : PS B w s) (hk : s.k < ts.length) (h0 : (tkA ts s.k).1 = 7) (h1 : (tkA ts (s.k + 1)).1 = 1) (h2 : standsB (tkA ts (s.k + 2)) [[45, 62]] = true)
 {c p : Nat} {s1 : St}
 (hD : ∀ (G : Nat → Prop) (W : World), PS (B.with G) W (s.on 3) → Calls Tryz.prog 125 #[B.ptr] W fun e w' => e = panicV c p ∧ Aft (B.with G) W s1 w') :
 Calls Tryz.prog 180 #[B.ptr] w fun e w' => e = panicV c p ∧ Aft B w s1 w' := by
 have hk1 : s.k + 1 < ts.length := hT.step hk (by rw [h0]; decide)
 have hk2 : s.k + 2 < ts.length := hT.step hk1 (by rw [h1]; decide)
 have cX : Calls Tryz.prog 96 #[B.ptr] w fun e w' => e = .returned (tokV (tkA ts s.k)) ∧ Aft B w (s.on 1) w' := by
  have := next_any h (by rw [hBts]; exact hk)
  rwa [hBts] at this
 have cT : ∀ W, PS B W (s.on 1) → Calls Tryz.prog 90 #[B.ptr, .int .i64 1] W fun e w' => e = .returned (tokV (tkA ts (s.k + 1))) ∧ Aft B W (s.on 2) w' := fun W p => by
  have := token_any p (by rw [hBts]; exact hk1) 1 (by rw [hBts]; exact h1)
  rw [hBts] at this
  exact this
 have cM : ∀ (G : Nat → Prop) (W : World), PS (B.with G) W (s.on 2) → Calls Tryz.prog 123 #[B.ptr, .string ⟨#[45, 62]⟩] W fun e w' => e = .returned (.tuple #[]) ∧ Aft (B.with G) W (s.on 3) w' := fun G W p =>
  must_yes (B := B.with G) p (by show s.k + 2 < B.ts.length; rw [hBts]; exact hk2) [45, 62] (by show standsB (tkA B.ts (s.k + 2)) _ = true; rw [hBts]; exact h2)
 have hfd := tokF2
 have hfe := tokF1
 generalize tkA ts s.k = t at *
 generalize tkA ts (s.k + 1) = t' at *
 clear h h0 h1 h2 hk hk1 hk2
 go_enter Tryz.func180, Tryz.ntmps180
 go_wp2_with fail
 with_reducible refine cX.mono ?_
 rintro e w1 ⟨rfl, a1⟩
 go_wp2_with fail
 with_reducible refine (cT w1 a1.ps).mono ?_
 rintro e w2 ⟨rfl, a2⟩
 have a12 := a1.trans a2
 go_wp2_with fail
 obtain ⟨W3, hW3⟩ : ∃ W3, w2.alloc (.cells (funV (t.2.2 : Int) (bs t'.2.1)).toArray 60) = W3 := ⟨_, rfl⟩
 have hb3 : Below w2.heap.size w2 W3 := by rw [← hW3]; exact (Below.refl _ _).alloc (Nat.le_refl _) _
 have hX3 : Blk W3 w2.heap.size 60 (funV (t.2.2 : Int) (bs t'.2.1)).toArray := by rw [← hW3]; exact Blk.new w2 60 _
 have l3 := hX3.lt
 have o3 := AftO.start a12.ps hb3 (fun b => b = w2.heap.size) (fun b hb => by subst hb; exact ⟨Nat.le_refl _, l3⟩)
 rw [hW3]
 refine (cM _ W3 o3.ps).mono ?_
 rintro e w4 ⟨rfl, a4⟩
 have o4 := o3.call a4
 have hX4 : Blk w4 w2.heap.size 60 (funV (t.2.2 : Int) (bs t'.2.1)).toArray := (o3.same a4 rfl).trans hX3
 clear hW3
 go_wp2_with fail
 refine (hD _ w4 o4.ps).mono ?_
 rintro e w5 ⟨rfl, a5⟩
 have A5 := Lib.hid (a12.trans (o4.call a5).out)
 clear a5 o4 hX4 a4 o3 hX3 hb3 a12 a1 a2 cM cT cX hD
 go_wp2_with fail
 exact ⟨rfl, rfl, A5.out⟩

theorem deep_step {ts : List Tk} (hT : TsOk ts) : ∀ (f : Nat) (s : St), s.k < ts.length → (∀ i s', deepM ts f s = .ok i s' → s'.k < ts.length ∧ s'.op = s.op) ∧ ∀ c p s1, deepM ts f s = .bad c p s1 → s1.op = s.op := by
 intro f
 induction f with
 | zero => intro s _; exact ⟨fun i s' h => (by cases h), fun c p s1 h => (by cases h)⟩
 | succ f ih =>
  intro s hk
  unfold deepM
  by_cases h256 : s.op = 256
  ·rw [if_pos h256]
   refine ⟨fun i s' h => (by cases h), fun c p s1 h => ?_⟩
   injection h with _ _ h
   rw [← h]
  rw [if_neg h256]
  by_cases h7 : (tkA ts s.k).1 = 7
  ·rw [if_pos h7]
   by_cases hc : (tkA ts s.k).2.1 = [102, 117, 110] ∧ (tkA ts (s.k + 1)).1 = 1 ∧ standsB (tkA ts (s.k + 2)) [[45, 62]] = true
   ·rw [if_pos hc]
    have hk1 : s.k + 1 < ts.length := hT.step hk (by rw [h7]; decide)
    have hk2 : s.k + 2 < ts.length := hT.step hk1 (by rw [hc.2.1]; decide)
    have hk3 : s.k + 3 < ts.length := hT.step hk2 (stands_ne hc.2.2)
    obtain ⟨q1, q2⟩ := ih (s.up.on 3) hk3
    cases hM : deepM ts f (s.up.on 3) with
    | un => exact ⟨fun i s' h => (by cases h), fun c p s1 h => (by cases h)⟩
    | bad c p s1 =>
     refine ⟨fun i s' h => (by cases h), fun c' p' s2 h => ?_⟩
     injection h with _ _ h
     have := q2 c p s1 hM
     rw [← h]
     show s1.op - 1 = s.op
     have e : s1.op = s.op + 1 := this
     omega
    | ok i s1 =>
     have e := q1 i s1 hM
     have e2 : s1.op = s.op + 1 := e.2
     dsimp only
     by_cases hl : s1.t1.length < 65536
     ·rw [if_pos hl]
      refine ⟨fun i' s' h => ?_, fun c p s2 h => (by cases h)⟩
      injection h with _ h
      rw [← h]
      refine ⟨e.1, ?_⟩
      show s1.op - 1 = s.op
      omega
     ·rw [if_neg hl]
      exact ⟨fun i s' h => (by cases h), fun c p s1 h => (by cases h)⟩
   ·rw [if_neg hc]
    exact ⟨fun i s' h => (by cases h), fun c p s1 h => (by cases h)⟩
  ·rw [if_neg h7]
   cases hM : termM ts s with
   | un => exact ⟨fun i s' h => (by cases h), fun c p s1 h => (by cases h)⟩
   | ok i s' =>
    refine ⟨fun i' s2 h => ?_, fun c p s1 h => (by cases h)⟩
    injection h with _ h
    rw [← h]
    unfold termM at hM
    rw [if_neg h256] at hM
    split at hM
    ·cases hM
    ·obtain ⟨i1, s1, e1, e2⟩ := PR.bind_ok hM
     injection e2 with _ e2
     have a := compare_op _ _ _ e1
     have b := compare_prog hT s.up _ _ hk e1
     rw [← e2]
     refine ⟨b.2, ?_⟩
     show s1.op - 1 = s.op
     have e3 : s1.op = s.op + 1 := a
     omega

set_option maxRecDepth 100000 in
set_option maxHeartbeats 8000000 in
theorem deep_any {ts : List Tk} (hT : TsOk ts) : ∀ (f : Nat) (B : PE) (w : World) (s : St), B.ts = ts → PS B w s → s.k < ts.length →
 (∀ i s', deepM ts f s = .ok i s' → Calls Tryz.prog 125 #[B.ptr] w fun e w' => e = .returned (.int .i64 (i : Nat)) ∧ Aft B w s' w') ∧
 ∀ c p s1, deepM ts f s = .bad c p s1 → Calls Tryz.prog 125 #[B.ptr] w fun e w' => e = panicV c p ∧ Aft B w s1 w' := by
 intro f
 induction f with
 | zero => intro B w s _ _ _; exact ⟨fun i s' h => (by cases h), fun c p s1 h => (by cases h)⟩
 | succ f ih =>
  intro B w s hBts h hk
  unfold deepM
  by_cases h256 : s.op = 256
  ·rw [if_pos h256]
   refine ⟨fun i s' h => (by cases h), fun c p s1 hh => ?_⟩
   injection hh with h1 h2 h3
   subst h1
   subst h2
   subst h3
   have cB := begin_bad h (by rw [hBts]; exact hk) h256
   rw [hBts] at cB
   have H := Lib.hid h
   clear h ih
   go_enter_defers Tryz.func125, Tryz.ntmps125
   go_wp2_with fail
   refine cB.mono ?_
   rintro e w1 ⟨rfl, hb1⟩
   go_wp2_with fail
   have A1 := H.out.aft hb1
   exact ⟨rfl, A1⟩
  rw [if_neg h256]
  by_cases h7 : (tkA ts s.k).1 = 7
  ·rw [if_pos h7]
   by_cases hc : (tkA ts s.k).2.1 = [102, 117, 110] ∧ (tkA ts (s.k + 1)).1 = 1 ∧ standsB (tkA ts (s.k + 2)) [[45, 62]] = true
   ·rw [if_pos hc]
    have hk1 : s.k + 1 < ts.length := hT.step hk (by rw [h7]; decide)
    have hk2 : s.k + 2 < ts.length := hT.step hk1 (by rw [hc.2.1]; decide)
    have hk3 : s.k + 3 < ts.length := hT.step hk2 (stands_ne hc.2.2)
    have cB := begin_any h h256
    have hs : standsB (tkA B.ts s.k) [[102, 117, 110]] = true := by
     rw [hBts]
     unfold standsB
     rw [h7, hc.1]
     rfl
    have cS : ∀ W, PS B W s.up → Calls Tryz.prog 95 #[B.ptr, .slice (some ⟨W.heap.size, 0, none⟩) 1 1] (W.alloc (.cells #[.string ⟨#[102, 117, 110]⟩] 9)) fun e w' => e = .returned (.bool true) ∧ Below W.heap.size W w' := fun W p => by
     have := stands_new p (by rw [hBts]; exact hk) [[102, 117, 110]] 1 rfl (by decide) #[.string ⟨#[102, 117, 110]⟩] rfl
     rw [show (tkA B.ts s.up.k) = tkA B.ts s.k from rfl, hs] at this
     exact this
    have hD := fun (G : Nat → Prop) (W : World) (p : PS (B.with G) W (s.up.on 3)) => ih (B.with G) W (s.up.on 3) hBts p hk3
    obtain ⟨q1, q2⟩ := deep_step hT f (s.up.on 3) hk3
    cases hM : deepM ts f (s.up.on 3) with
    | un => exact ⟨fun i s' h => (by cases h), fun c p s1 h => (by cases h)⟩
    | bad c p s1 =>
     refine ⟨fun i s' h => (by cases h), fun c' p' s2 hh => ?_⟩
     injection hh with g1 g2 g3
     subst g1
     subst g2
     subst g3
     have hop : s1.op = s.op + 1 := q2 c p s1 hM
     have cF := fun (W : World) (p0 : PS B W s.up) => fun_bad hT hBts p0 hk h7 hc.2.1 hc.2.2 (fun G W p0 => (hD G W p0).2 c p s1 hM)
     have hop1 : 1 ≤ s1.op := by omega
     clear hs hD ih hM h hc h7 h256 hk1 hk2 hk3 q1 q2
     go_enter_defers Tryz.func125, Tryz.ntmps125
     go_wp2_with fail
     with_reducible refine cB.mono ?_
     rintro e w1 ⟨rfl, a1⟩
     go_wp2_with fail
     refine (cS w1 a1.ps).mono ?_
     rintro e w2 ⟨rfl, hb2⟩
     have a2 := a1.below hb2
     go_wp2_with fail
     refine (cF w2 a2.ps).mono ?_
     rintro e w3 ⟨rfl, a3⟩
     have A3 := Lib.hid (a2.trans a3)
     clear a1 a2 a3 hb2 cS cF cB
     go_wp2_with fail
     refine leaves_cons (f := 93) (args := #[B.ptr]) (by simp) (by simp [go_sem]) ?_
     refine (end_d A3.out.ps hop1 _).mono ?_
     rintro e u' w7 ⟨rfl, rfl, a7⟩
     exact ⟨rfl, A3.out.trans a7⟩
    | ok i s1 =>
     dsimp only
     by_cases hl : s1.t1.length < 65536
     ·rw [if_pos hl]
      refine ⟨fun i' s' hh => ?_, fun c p s1 h => (by cases h)⟩
      injection hh with g1 g2
      subst g1
      subst g2
      have hop : s1.op = s.op + 1 := (q1 i s1 hM).2
      have cF := fun (W : World) (p0 : PS B W s.up) => fun_ok hT hBts p0 hk h7 hc.2.1 hc.2.2 hl (fun G W p0 => (hD G W p0).1 i s1 hM)
      have hop1 : 1 ≤ s1.op := by omega
      rw [show tkA ts s.up.k = tkA ts s.k from rfl, show tkA ts (s.up.k + 1) = tkA ts (s.k + 1) from rfl] at cF
      clear hs hD ih hM h hc h7 h256 hk1 hk2 hk3 q1 q2
      go_enter_defers Tryz.func125, Tryz.ntmps125
      go_wp2_with fail
      with_reducible refine cB.mono ?_
      rintro e w1 ⟨rfl, a1⟩
      go_wp2_with fail
      refine (cS w1 a1.ps).mono ?_
      rintro e w2 ⟨rfl, hb2⟩
      have a2 := a1.below hb2
      go_wp2_with fail
      refine (cF w2 a2.ps).mono ?_
      rintro e w3 ⟨rfl, a3⟩
      have A3 := Lib.hid (a2.trans a3)
      clear a1 a2 a3 hb2 cS cF cB
      go_wp2_with fail
      refine leaves_cons (f := 93) (args := #[B.ptr]) (by simp) (by simp [go_sem]) ?_
      refine (end_d A3.out.ps hop1 .returning).mono ?_
      rintro e u' w7 ⟨rfl, rfl, a7⟩
      exact ⟨_, results_tmp rfl _ _ _, rfl, A3.out.trans a7⟩
     ·rw [if_neg hl]
      exact ⟨fun i s' h => (by cases h), fun c p s1 h => (by cases h)⟩
   ·rw [if_neg hc]
    exact ⟨fun i s' h => (by cases h), fun c p s1 h => (by cases h)⟩
  ·rw [if_neg h7]
   cases hM : termM ts s with
   | un => exact ⟨fun i s' h => (by cases h), fun c p s1 h => (by cases h)⟩
   | ok i s' =>
    refine ⟨fun i' s2 hh => ?_, fun c p s1 h => (by cases h)⟩
    injection hh with g1 g2
    subst g1
    subst g2
    exact (termR_any hT B w s i s' hBts h hk hM).2
end Go.Proofs.YtjbdgjbmbohfmaaGreatDoor
