/- Rules that read what is selected of an atom, and what it is applied to. Every rule reads a token at least, and never the last -/
import Derived.Test.YtjbdgjbmbohfmaaGreatDoorK16
namespace Go.Proofs.YtjbdgjbmbohfmaaGreatDoor
open Go Go.Proofs Go.RowKit
/-- The place of a parser in memory. -/
def kAt (B : PE) (w : World) : Nat := match w.cell? ⟨B.pb, 1, none⟩ with
 | some v => (intOf v).toNat
 | none => 0
theorem PS.kAt {B : PE} {w : World} {s : St} (h : PS B w s) : kAt B w = s.k := by
 have c1 := h.blk.cell 1
 simp only [PE.cells, List.getElem?_toArray, List.getElem?_cons_zero, List.getElem?_cons_succ] at c1
 unfold YtjbdgjbmbohfmaaGreatDoor.kAt
 rw [c1]
 simp [intOf]

/-- A term of parts, which lie in a new row. -/
theorem newKids {B : PE} {w : World} {s : St} (h : PS B w s) (hn : s.t1.length < 65536) (x : TermD) (hx : x.names = [] ∧ x.types = []) (n : Nat) (hk : x.kids.length = n) (h1 : n ≤ 65536) (V : Array Value) (hV : V = (x.kids.map iv).toArray) :
 Calls Tryz.prog 224 #[B.ptr, .agg (termCells x ⟨none, 0, some ⟨w.heap.size, 0, none⟩, n, none, 0⟩).toArray] (w.alloc (.cells V 3)) fun e w' => e = .returned (.int .i64 (s.t1.length : Nat)) ∧ Aft B w ⟨s.k, s.op, s.t1 ++ [x], s.t2⟩ w' := by
 subst hV
 have hB0 : Below w.heap.size w (w.alloc (.cells (x.kids.map iv).toArray 3)) := (Below.refl _ _).alloc (Nat.le_refl _) _
 have hX : Blk (w.alloc (.cells (x.kids.map iv).toArray 3)) w.heap.size 3 (x.kids.map iv).toArray := Blk.new w 3 _
 refine (newTerm_any (h.below hB0) hn x _ ⟨?_, ?_, ?_⟩ ⟨by rw [hx.1]; simp, by omega, by rw [hx.2]; simp⟩).mono (fun e w' q => ⟨q.1, (h.aft hB0).trans q.2⟩)
 ·rw [hx.1]; exact SlAt.nil
 ·refine ⟨by simp, fun _ => ⟨w.heap.size, 0, rfl, hX.lt, fun j u hu => ?_⟩⟩
  rw [Nat.zero_add, hX.cell j]
  simpa using hu
 ·rw [hx.2]; exact SlAt.nil

theorem newK1 {B : PE} {w : World} {s : St} (h : PS B w s) (hn : s.t1.length < 65536) (kind pos k1 : Int) (name : ByteArray) :
 Calls Tryz.prog 224 #[B.ptr, .agg #[.int .i64 kind, .int .i64 pos, .string name, .int .i64 0, .int .u64 0, .slice none 0 0, .slice (some ⟨w.heap.size, 0, none⟩) 1 1, .slice none 0 0]] (w.alloc (.cells #[.int .i64 k1] 3)) fun e w' => e = .returned (.int .i64 (s.t1.length : Nat)) ∧ Aft B w ⟨s.k, s.op, s.t1 ++ [⟨kind, pos, name, 0, 0, [], [k1], []⟩], s.t2⟩ w' :=
 newKids h hn ⟨kind, pos, name, 0, 0, [], [k1], []⟩ ⟨rfl, rfl⟩ 1 rfl (by decide) #[.int .i64 k1] rfl
theorem newK2 {B : PE} {w : World} {s : St} (h : PS B w s) (hn : s.t1.length < 65536) (kind pos k1 k2 : Int) (name : ByteArray) :
 Calls Tryz.prog 224 #[B.ptr, .agg #[.int .i64 kind, .int .i64 pos, .string name, .int .i64 0, .int .u64 0, .slice none 0 0, .slice (some ⟨w.heap.size, 0, none⟩) 2 2, .slice none 0 0]] (w.alloc (.cells #[.int .i64 k1, .int .i64 k2] 3)) fun e w' => e = .returned (.int .i64 (s.t1.length : Nat)) ∧ Aft B w ⟨s.k, s.op, s.t1 ++ [⟨kind, pos, name, 0, 0, [], [k1, k2], []⟩], s.t2⟩ w' :=
 newKids h hn ⟨kind, pos, name, 0, 0, [], [k1, k2], []⟩ ⟨rfl, rfl⟩ 2 rfl (by decide) #[.int .i64 k1, .int .i64 k2] rfl

set_option maxRecDepth 100000 in
set_option maxHeartbeats 8000000 in
theorem post_any {ts : List Tk} (hT : TsOk ts) : Rule ts 320 (postM ts) := by
 intro B w s i s' hBts h hk hM
 unfold postM at hM
 obtain ⟨i0, s0, hA, hL⟩ := PR.bind_ok hM
 obtain ⟨hk0, cA⟩ := atom_any hT B w s i0 s0 hBts h hk hA
 have hkL : ∀ f i1 s1, s1.k < ts.length → postL ts f i1 s1 = .ok i s' → s'.k < ts.length := by
  intro f
  induction f with
  | zero => intro i1 s1 _ e; cases e
  | succ f ih =>
   intro i1 s1 h1 e
   unfold postL at e
   by_cases hs : standsB (tkA ts s1.k) [[46]] = true
   ·rw [if_pos hs] at e
    by_cases hn : (tkA ts (s1.k + 1)).1 = 1
    ·rw [if_pos hn] at e
     obtain ⟨i2, s2, e1, e2⟩ := PR.bind_ok e
     obtain ⟨_, rfl, rfl⟩ := newT_ok e1
     have hh : (tkA ts s1.k).1 ≠ 0 := by
      unfold standsB at hs
      simp at hs
      omega
     exact ih _ _ (by have := hT.step (hT.step h1 hh) (by rw [hn]; decide); exact this) e2
    ·rw [if_neg hn] at e; cases e
   ·rw [if_neg hs] at e
    injection e with _ e
    rw [← e]; exact h1
 refine ⟨hkL _ _ _ hk0 hL, ?_⟩
 have HL := Lib.hid hL
 have H := Lib.hid h
 have HB := Lib.hid hBts
 clear hL hM hA h
 go_enter Tryz.func320, Tryz.ntmps320
 go_wp2_with fail
 with_reducible refine cA.mono ?_
 rintro e w1 ⟨rfl, a1⟩
 have A1 := Lib.hid a1
 clear a1 cA
 go_wp2_with fail
 go_loopw [3] (fun l wr => ∃ (i1 : Nat) (s1 : St) (f : Nat), l = .int .i64 (i1 : Int) ∧ Hid (Aft B w s1 wr) ∧ Hid (s1.k < ts.length) ∧ Hid (postL ts f i1 s1 = .ok i s')) (fun _ wr => ts.length - kAt B wr)
 case atStart => exact ⟨i0, s0, _, rfl, A1, Lib.hid hk0, HL⟩
 case round =>
  obtain ⟨i1, s1, f, rfl, HA, HK, HP⟩ := hrel
  have hK := HK.out
  have hP := HP.out
  have hkA := HA.out.ps.kAt
  cases f with
  | zero => cases hP
  | succ f =>
   unfold postL at hP
   have cS : Calls Tryz.prog 95 #[B.ptr, .slice (some ⟨wr.heap.size, 0, none⟩) 1 1] (wr.alloc (.cells #[.string ⟨#[46]⟩] 9)) fun e w' => e = .returned (.bool (standsB (tkA ts s1.k) [[46]])) ∧ Below wr.heap.size wr w' := by
    have := stands_new HA.out.ps (by rw [HB.out]; exact hK) [[46]] 1 rfl (by decide) #[.string ⟨#[46]⟩] rfl
    rwa [HB.out] at this
   by_cases hs : standsB (tkA ts s1.k) [[46]] = true
   ·rw [if_pos hs] at hP
    rw [hs] at cS
    by_cases hn : (tkA ts (s1.k + 1)).1 = 1
    ·rw [if_pos hn] at hP
     obtain ⟨i2, s2, e1, e2⟩ := PR.bind_ok hP
     obtain ⟨hl, rfl, rfl⟩ := newT_ok e1
     have hh : (tkA ts s1.k).1 ≠ 0 := by
      unfold standsB at hs
      simp at hs
      omega
     have hk1 : s1.k + 1 < ts.length := hT.step hK hh
     have hk2 : s1.k + 2 < ts.length := hT.step hk1 (by rw [hn]; decide)
     have cX : ∀ W, PS B W s1 → Calls Tryz.prog 96 #[B.ptr] W fun e w' => e = .returned (tokV (tkA ts s1.k)) ∧ Aft B W (s1.on 1) w' := fun W p => by
      have := next_any p (by rw [HB.out]; exact hK)
      rwa [HB.out] at this
     have cT : ∀ W, PS B W (s1.on 1) → Calls Tryz.prog 90 #[B.ptr, .int .i64 1] W fun e w' => e = .returned (tokV (tkA ts (s1.k + 1))) ∧ Aft B W (s1.on 2) w' := fun W p => by
      have := token_any p (by rw [HB.out]; exact hk1) 1 (by rw [HB.out]; exact hn)
      rw [HB.out] at this
      exact this
     have cN := fun W (p : PS B W (s1.on 2)) => newK1 p hl 13 ((tkA ts s1.k).2.2 : Nat) (i1 : Int) (bs (tkA ts (s1.k + 1)).2.1)
     have hfd := tokF2
     have hfe := tokF1
     have E2 := Lib.hid e2
     have K2 := Lib.hid hk2
     clear hP e1 e2 hh hn hs hk1 hk2 hkL hK
     generalize tkA ts s1.k = t at *
     generalize tkA ts (s1.k + 1) = t' at *
     go_wp2_with fail
     with_reducible refine cS.mono ?_
     rintro e w2 ⟨rfl, hb2⟩
     have p2 := HA.out.ps.below hb2
     go_wp2_with fail
     with_reducible refine (cX w2 p2).mono ?_
     rintro e w3 ⟨rfl, a3⟩
     go_wp2_with fail
     with_reducible refine (cT w3 a3.ps).mono ?_
     rintro e w4 ⟨rfl, a4⟩
     go_wp2_with fail
     with_reducible refine (cN w4 a4.ps).mono ?_
     rintro e w5 ⟨rfl, a5⟩
     have A5 := Lib.hid ((((HA.out.below hb2).trans a3).trans a4).trans a5)
     clear p2 hb2 a3 a4 a5 cS cX cT cN
     go_wp2_with fail
     exact ⟨⟨_, _, f, rfl, A5, K2, E2⟩, by
      have q := K2.out
      rw [A5.out.ps.kAt, hkA]
      show ts.length - (s1.k + 2) < ts.length - s1.k
      omega⟩
    ·rw [if_neg hn] at hP; cases hP
   ·rw [if_neg hs] at hP
    have hs2 : standsB (tkA ts s1.k) [[46]] = false := by simpa using hs
    rw [hs2] at cS
    injection hP with e1 e2
    subst e1
    subst e2
    clear hs hs2 hkL
    go_wp2_with fail
    with_reducible refine cS.mono ?_
    rintro e w2 ⟨rfl, hb2⟩
    have A2 := Lib.hid (HA.out.below hb2)
    clear cS hb2
    go_wp2_with fail
    go_ret
    exact ⟨rfl, A2.out⟩

set_option maxHeartbeats 4000000 in
theorem unit_any {ts : List Tk} (hT : TsOk ts) : Rule ts 315 (unitM ts) := by
 intro B w s i s' hBts h hk hM
 unfold unitM at hM
 by_cases h3 : (tkA ts s.k).1 = 3
 ·rw [if_pos h3] at hM; cases hM
 rw [if_neg h3] at hM
 have cP := fun (W : World) (p : PS B W s) => (post_any hT B W s i s' hBts p hk hM).2
 refine ⟨(post_any hT B w s i s' hBts h hk hM).1, ?_⟩
 have cN : Calls Tryz.prog 149 #[B.ptr] w fun e w' => e = .returned (tokV (tkA ts s.k)) ∧ Below w.heap.size w w' := by
  have := now_any h (by rw [hBts]; exact hk)
  rwa [hBts] at this
 have hne : (((tkA ts s.k).1 : Int) != 3) = true := by simp; omega
 have hfd := tokF0
 have H := Lib.hid h
 generalize tkA ts s.k = t at *
 clear h h3 hM
 go_enter Tryz.func315, Tryz.ntmps315
 go_wp2_with fail
 with_reducible refine cN.mono ?_
 rintro e w1 ⟨rfl, hb1⟩
 go_wp2_with fail
 with_reducible refine (cP w1 (H.out.below hb1)).mono ?_
 rintro e w2 ⟨rfl, a2⟩
 have A2 := Lib.hid ((H.out.aft hb1).trans a2)
 clear a2 hb1 cP cN
 go_wp2_with fail
 go_ret
 exact ⟨rfl, A2.out⟩

set_option maxHeartbeats 8000000 in
theorem unitStands_any {B : PE} {w : World} {s : St} (h : PS B w s) (hk : s.k < B.ts.length) : Calls Tryz.prog 316 #[B.ptr] w fun e w' => e = .returned (.bool (unitB (tkA B.ts s.k))) ∧ Below w.heap.size w w' := by
 have cN := now_any h hk
 have cS : ∀ W, PS B W s → Calls Tryz.prog 95 #[B.ptr, .slice (some ⟨W.heap.size, 0, none⟩) 4 4] (W.alloc (.cells #[.string ⟨#[116, 114, 117, 101]⟩, .string ⟨#[102, 97, 108, 115, 101]⟩, .string ⟨#[40]⟩, .string ⟨#[123]⟩] 9)) fun e w' => e = .returned (.bool (standsB (tkA B.ts s.k) [[116, 114, 117, 101], [102, 97, 108, 115, 101], [40], [123]])) ∧ Below W.heap.size W w' := fun W p => stands_new p hk [[116, 114, 117, 101], [102, 97, 108, 115, 101], [40], [123]] 4 rfl (by decide) _ rfl
 have hfd := tokF0
 have H := Lib.hid h
 unfold unitB
 generalize tkA B.ts s.k = t at *
 generalize standsB t [[116, 114, 117, 101], [102, 97, 108, 115, 101], [40], [123]] = st at *
 clear h
 have e3 : ((t.1 : Int) == 3) = (t.1 == 3) := by rw [Bool.eq_iff_iff]; simp; omega
 have e1 : ((t.1 : Int) == 1) = (t.1 == 1) := by rw [Bool.eq_iff_iff]; simp; omega
 have e4 : ((t.1 : Int) == 4) = (t.1 == 4) := by rw [Bool.eq_iff_iff]; simp; omega
 have e5 : ((t.1 : Int) == 5) = (t.1 == 5) := by rw [Bool.eq_iff_iff]; simp; omega
 have e6 : ((t.1 : Int) == 6) = (t.1 == 6) := by rw [Bool.eq_iff_iff]; simp; omega
 generalize (t.1 == 3) = b3 at *
 generalize (t.1 == 1) = b1 at *
 generalize (t.1 == 4) = b4 at *
 generalize (t.1 == 5) = b5 at *
 generalize (t.1 == 6) = b6 at *
 cases b3
 all_goals cases b1
 all_goals cases b4
 all_goals cases b5
 all_goals cases b6
 all_goals
  go_enter Tryz.func316, Tryz.ntmps316
  go_wp2_with fail
  with_reducible refine cN.mono ?_
  rintro e w1 ⟨rfl, hb1⟩
  go_wp2_with fail
  first
  | (go_ret; exact ⟨rfl, hb1⟩)
  | (with_reducible refine (cS w1 (H.out.below hb1)).mono ?_
     rintro e w2 ⟨rfl, hb2⟩
     go_wp2_with fail
     go_ret
     exact ⟨rfl, hb1.trans (hb2.mono hb1.size)⟩)
/-- A rule goes on, and stays among the tokens. -/
def Prog (ts : List Tk) (M : St → PR) : Prop := ∀ (s : St) (i : Nat) (s' : St), s.k < ts.length → M s = .ok i s' → s.k < s'.k ∧ s'.k < ts.length
/-- What goes on behind a rule. -/
def ProgL (ts : List Tk) (L : Nat → Nat → St → PR) : Prop := ∀ (f i1 : Nat) (s : St) (i : Nat) (s' : St), s.k < ts.length → L f i1 s = .ok i s' → s.k ≤ s'.k ∧ s'.k < ts.length

theorem stands_ne {t : Tk} {l : List (List UInt8)} (h : standsB t l = true) : t.1 ≠ 0 := by
 unfold standsB at h
 simp at h
 omega
section
variable {ts : List Tk} (hT : TsOk ts)
include hT
theorem atom_prog : Prog ts (atomM ts) := by
 intro s i s' hk h
 unfold atomM at h
 by_cases h78 : (tkA ts s.k).1 = 7 ∨ (tkA ts s.k).1 = 8
 ·rw [if_pos h78] at h; cases h
 rw [if_neg h78] at h
 cases hx : leafM (tkA ts s.k) with
 | none => rw [hx] at h; cases h
 | some x =>
  rw [hx] at h
  obtain ⟨_, _, rfl⟩ := newT_ok h
  have h0 : (tkA ts s.k).1 ≠ 0 := by
   intro e
   unfold leafM at hx
   rw [e] at hx
   simp at hx
  exact ⟨Nat.lt_succ_self _, hT.step hk h0⟩
theorem post_progL : ProgL ts (postL ts) := by
 intro f
 induction f with
 | zero => intro i1 s i s' _ e; cases e
 | succ f ih =>
  intro i1 s i s' h1 e
  unfold postL at e
  by_cases hs : standsB (tkA ts s.k) [[46]] = true
  ·rw [if_pos hs] at e
   by_cases hn : (tkA ts (s.k + 1)).1 = 1
   ·rw [if_pos hn] at e
    obtain ⟨i2, s2, e1, e2⟩ := PR.bind_ok e
    obtain ⟨_, rfl, rfl⟩ := newT_ok e1
    have h2 := hT.step (hT.step h1 (stands_ne hs)) (by rw [hn]; decide)
    have := ih _ _ _ _ h2 e2
    exact ⟨Nat.le_trans (show s.k ≤ s.k + 2 by omega) this.1, this.2⟩
   ·rw [if_neg hn] at e; cases e
  ·rw [if_neg hs] at e
   injection e with _ e
   rw [← e]; exact ⟨Nat.le_refl _, h1⟩
omit hT in
theorem prog_bind {M : St → PR} {L : Nat → Nat → St → PR} {f : Nat} (hM : Prog ts M) (hL : ProgL ts L) : Prog ts (fun s => (M s).bind (L f)) := by
 intro s i s' hk h
 obtain ⟨i1, s1, e1, e2⟩ := PR.bind_ok h
 have a := hM _ _ _ hk e1
 have b := hL _ _ _ _ _ a.2 e2
 exact ⟨Nat.lt_of_lt_of_le a.1 b.1, b.2⟩
theorem post_prog : Prog ts (postM ts) := prog_bind (atom_prog hT) (post_progL hT)
theorem unit_prog : Prog ts (unitM ts) := by
 intro s i s' hk h
 unfold unitM at h
 by_cases h3 : (tkA ts s.k).1 = 3
 ·rw [if_pos h3] at h; cases h
 ·rw [if_neg h3] at h; exact post_prog hT _ _ _ hk h
theorem apply_progL : ProgL ts (applyL ts) := by
 intro f
 induction f with
 | zero => intro i1 s i s' _ e; cases e
 | succ f ih =>
  intro i1 s i s' h1 e
  unfold applyL at e
  by_cases hs : unitB (tkA ts s.k) = true
  ·rw [if_pos hs] at e
   obtain ⟨i2, s2, e1, e2⟩ := PR.bind_ok e
   obtain ⟨i3, s3, e3, e4⟩ := PR.bind_ok e2
   obtain ⟨_, rfl, rfl⟩ := newT_ok e3
   have a := unit_prog hT _ _ _ h1 e1
   have b := ih _ _ _ _ (by exact a.2) e4
   exact ⟨Nat.le_of_lt (Nat.lt_of_lt_of_le a.1 b.1), b.2⟩
  ·rw [if_neg hs] at e
   injection e with _ e
   rw [← e]; exact ⟨Nat.le_refl _, h1⟩
theorem apply_prog : Prog ts (applyM ts) := prog_bind (unit_prog hT) (apply_progL hT)
theorem op_prog {P : St → PR} (hP : Prog ts P) {left : Nat} {s : St} {i : Nat} {s' : St} (hk : s.k < ts.length) (h0 : (tkA ts s.k).1 ≠ 0) (h : opM ts P left s = .ok i s') : s.k < s'.k ∧ s'.k < ts.length := by
 unfold opM at h
 obtain ⟨i1, s1, e1, e2⟩ := PR.bind_ok h
 obtain ⟨_, rfl, rfl⟩ := newT_ok e2
 have a := hP _ _ _ (hT.step hk h0) e1
 exact ⟨Nat.lt_of_succ_lt a.1, a.2⟩
theorem row_progL {P : St → PR} (hP : Prog ts P) (sg : List (List UInt8)) : ProgL ts (rowL ts P sg) := by
 intro f
 induction f with
 | zero => intro i1 s i s' _ e; cases e
 | succ f ih =>
  intro i1 s i s' h1 e
  unfold rowL at e
  by_cases hs : standsB (tkA ts s.k) sg = true
  ·rw [if_pos hs] at e
   obtain ⟨i2, s2, e1, e2⟩ := PR.bind_ok e
   have a := op_prog hT hP h1 (stands_ne hs) e1
   have b := ih _ _ _ _ a.2 e2
   exact ⟨Nat.le_of_lt (Nat.lt_of_lt_of_le a.1 b.1), b.2⟩
  ·rw [if_neg hs] at e
   injection e with _ e
   rw [← e]; exact ⟨Nat.le_refl _, h1⟩
theorem row_prog {P : St → PR} (hP : Prog ts P) (sg : List (List UInt8)) : Prog ts (rowM ts P sg) := prog_bind hP (row_progL hT hP sg)
theorem product_prog : Prog ts (productM ts) := row_prog hT (apply_prog hT) _
theorem sum_prog : Prog ts (sumM ts) := row_prog hT (product_prog hT) _
theorem join_prog : Prog ts (joinM ts) := row_prog hT (sum_prog hT) _
theorem compare_prog : Prog ts (compareM ts) := by
 intro s i s' hk h
 unfold compareM at h
 obtain ⟨i1, s1, e1, e2⟩ := PR.bind_ok h
 by_cases hs : standsB (tkA ts s1.k) [[61, 61], [60], [60, 46]] = true
 ·rw [if_pos hs] at e2; cases e2
 ·rw [if_neg hs] at e2
  injection e2 with e2 e3
  subst e2
  subst e3
  exact join_prog hT _ _ _ hk e1
end
end Go.Proofs.YtjbdgjbmbohfmaaGreatDoor
