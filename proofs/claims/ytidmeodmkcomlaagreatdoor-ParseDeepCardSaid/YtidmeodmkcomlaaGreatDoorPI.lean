/- The rules from what is selected of an atom up to terms of no bracket. -/
import Derived.Test.YtidmeodmkcomlaaGreatDoorPE
import Derived.Deep.RegionHeld3
namespace Go.Proofs.YtidmeodmkcomlaaGreatDoor
open Go Go.Proofs Go.RowKit

/-- A rule goes on, and stays among the tokens. -/
def Prog (ts : List Tk) (M : St → PR) : Prop := ∀ (s : St) (i : Nat) (s' : St), s.k < ts.length → M s = .ok i s' → s.k < s'.k ∧ s'.k < ts.length
/-- What goes on behind a rule. -/
def ProgL (ts : List Tk) (L : Nat → Nat → St → PR) : Prop := ∀ (f i1 : Nat) (s : St) (i : Nat) (s' : St), s.k < ts.length → L f i1 s = .ok i s' → s.k ≤ s'.k ∧ s'.k < ts.length

theorem stands_ne {t : Tk} {l : List (List UInt8)} (h : standsB t l = true) : t.1 ≠ 0 := by
  unfold standsB at h
  simp at h
  omega
theorem unitB_ne {t : Tk} (h : unitB t = true) : t.1 ≠ 0 := by
  unfold unitB at h
  simp only [Bool.or_eq_true, beq_iff_eq] at h
  rcases h with (((((h | h) | h) | h) | h) | h)
  all_goals first | omega | exact stands_ne h

section
variable {ts : List Tk} (hT : TsOk ts)
include hT
theorem atom_prog : Prog ts (atomM ts) := by
  intro s i s' hk h
  unfold atomM at h
  by_cases h78 : (tkA ts s.k).1 = 7 ∨ (tkA ts s.k).1 = 8
  · rw [if_pos h78] at h; cases h
  rw [if_neg h78] at h
  cases hx : leafM (tkA ts s.k) with
  | none => rw [hx] at h; cases h
  | some x =>
    rw [hx] at h
    obtain ⟨_, _, rfl⟩ := newT_ok h
    have h0 : (tkA ts s.k).1 ≠ 0 := by
      intro e
      unfold leafM at hx
      rw [e] at hx
      simp at hx
    exact ⟨Nat.lt_succ_self _, hT.step hk h0⟩
theorem post_progL : ProgL ts (postL ts) := by
  intro f
  induction f with
  | zero => intro i1 s i s' _ e; cases e
  | succ f ih =>
    intro i1 s i s' h1 e
    unfold postL at e
    by_cases hs : standsB (tkA ts s.k) [[46]] = true
    · rw [if_pos hs] at e
      by_cases hn : (tkA ts (s.k + 1)).1 = 1
      · rw [if_pos hn] at e
        obtain ⟨i2, s2, e1, e2⟩ := PR.bind_ok e
        obtain ⟨_, rfl, rfl⟩ := newT_ok e1
        have h2 := hT.step (hT.step h1 (stands_ne hs)) (by rw [hn]; decide)
        have := ih _ _ _ _ h2 e2
        exact ⟨Nat.le_trans (show s.k ≤ s.k + 2 by omega) this.1, this.2⟩
      · rw [if_neg hn] at e; cases e
    · rw [if_neg hs] at e
      injection e with _ e
      rw [← e]; exact ⟨Nat.le_refl _, h1⟩
omit hT in
theorem prog_bind {M : St → PR} {L : Nat → Nat → St → PR} {f : Nat} (hM : Prog ts M) (hL : ProgL ts L) : Prog ts (fun s => (M s).bind (L f)) := by
  intro s i s' hk h
  obtain ⟨i1, s1, e1, e2⟩ := PR.bind_ok h
  have a := hM _ _ _ hk e1
  have b := hL _ _ _ _ _ a.2 e2
  exact ⟨Nat.lt_of_lt_of_le a.1 b.1, b.2⟩
theorem post_prog : Prog ts (postM ts) := prog_bind (atom_prog hT) (post_progL hT)
theorem unit_prog : Prog ts (unitM ts) := by
  intro s i s' hk h
  unfold unitM at h
  by_cases h3 : (tkA ts s.k).1 = 3
  · rw [if_pos h3] at h; cases h
  · rw [if_neg h3] at h; exact post_prog hT _ _ _ hk h
theorem apply_progL : ProgL ts (applyL ts) := by
  intro f
  induction f with
  | zero => intro i1 s i s' _ e; cases e
  | succ f ih =>
    intro i1 s i s' h1 e
    unfold applyL at e
    by_cases hs : unitB (tkA ts s.k) = true
    · rw [if_pos hs] at e
      obtain ⟨i2, s2, e1, e2⟩ := PR.bind_ok e
      obtain ⟨i3, s3, e3, e4⟩ := PR.bind_ok e2
      obtain ⟨_, rfl, rfl⟩ := newT_ok e3
      have a := unit_prog hT _ _ _ h1 e1
      have b := ih _ _ _ _ (by exact a.2) e4
      exact ⟨Nat.le_of_lt (Nat.lt_of_lt_of_le a.1 b.1), b.2⟩
    · rw [if_neg hs] at e
      injection e with _ e
      rw [← e]; exact ⟨Nat.le_refl _, h1⟩
theorem apply_prog : Prog ts (applyM ts) := prog_bind (unit_prog hT) (apply_progL hT)
theorem op_prog {P : St → PR} (hP : Prog ts P) {left : Nat} {s : St} {i : Nat} {s' : St} (hk : s.k < ts.length) (h0 : (tkA ts s.k).1 ≠ 0) (h : opM ts P left s = .ok i s') : s.k < s'.k ∧ s'.k < ts.length := by
  unfold opM at h
  obtain ⟨i1, s1, e1, e2⟩ := PR.bind_ok h
  obtain ⟨_, rfl, rfl⟩ := newT_ok e2
  have a := hP _ _ _ (hT.step hk h0) e1
  exact ⟨Nat.lt_of_succ_lt a.1, a.2⟩
theorem row_progL {P : St → PR} (hP : Prog ts P) (sg : List (List UInt8)) : ProgL ts (rowL ts P sg) := by
  intro f
  induction f with
  | zero => intro i1 s i s' _ e; cases e
  | succ f ih =>
    intro i1 s i s' h1 e
    unfold rowL at e
    by_cases hs : standsB (tkA ts s.k) sg = true
    · rw [if_pos hs] at e
      obtain ⟨i2, s2, e1, e2⟩ := PR.bind_ok e
      have a := op_prog hT hP h1 (stands_ne hs) e1
      have b := ih _ _ _ _ a.2 e2
      exact ⟨Nat.le_of_lt (Nat.lt_of_lt_of_le a.1 b.1), b.2⟩
    · rw [if_neg hs] at e
      injection e with _ e
      rw [← e]; exact ⟨Nat.le_refl _, h1⟩
theorem row_prog {P : St → PR} (hP : Prog ts P) (sg : List (List UInt8)) : Prog ts (rowM ts P sg) := prog_bind hP (row_progL hT hP sg)
theorem product_prog : Prog ts (productM ts) := row_prog hT (apply_prog hT) _
theorem sum_prog : Prog ts (sumM ts) := row_prog hT (product_prog hT) _
theorem join_prog : Prog ts (joinM ts) := row_prog hT (sum_prog hT) _
theorem compare_prog : Prog ts (compareM ts) := by
  intro s i s' hk h
  unfold compareM at h
  obtain ⟨i1, s1, e1, e2⟩ := PR.bind_ok h
  by_cases hs : standsB (tkA ts s1.k) [[61, 61], [60], [60, 46]] = true
  · rw [if_pos hs] at e2; cases e2
  · rw [if_neg hs] at e2
    injection e2 with e2 e3
    subst e2
    subst e3
    exact join_prog hT _ _ _ hk e1
end
end Go.Proofs.YtidmeodmkcomlaaGreatDoor

namespace Go.Proofs.YtidmeodmkcomlaaGreatDoor
open Go Go.Proofs Go.RowKit

/-- The place of a parser in memory. -/
def kAt (B : PE) (w : World) : Nat := match w.cell? ⟨B.pb, 1, none⟩ with
  | some v => (intOf v).toNat
  | none => 0
theorem PS.kAt {B : PE} {w : World} {s : St} (h : PS B w s) : kAt B w = s.k := by
  have c1 := h.blk.cell 1
  simp only [PE.cells, List.getElem?_toArray, List.getElem?_cons_zero, List.getElem?_cons_succ] at c1
  unfold YtidmeodmkcomlaaGreatDoor.kAt
  rw [c1]
  simp [intOf]

/-- A term of parts, which lie in a new row. -/
theorem newKids {B : PE} {w : World} {s : St} (h : PS B w s) (hn : s.t1.length < 65536) (x : TermD) (hx : x.names = [] ∧ x.types = []) (n : Nat) (hk : x.kids.length = n) (h1 : n ≤ 65536) (V : Array Value) (hV : V = (x.kids.map iv).toArray) :
    Calls Tryz.prog 114 #[B.ptr, .agg (termCells x ⟨none, 0, some ⟨w.heap.size, 0, none⟩, n, none, 0⟩).toArray] (w.alloc (.cells V 3)) fun e w' => e = .returned (.int .i64 (s.t1.length : Nat)) ∧ Aft B w ⟨s.k, s.op, s.t1 ++ [x], s.t2⟩ w' := by
  subst hV
  have hB0 : Below w.heap.size w (w.alloc (.cells (x.kids.map iv).toArray 3)) := (Below.refl _ _).alloc (Nat.le_refl _) _
  have hX : Blk (w.alloc (.cells (x.kids.map iv).toArray 3)) w.heap.size 3 (x.kids.map iv).toArray := Blk.new w 3 _
  refine (newTerm_any (h.below hB0) hn x _ ⟨?_, ?_, ?_⟩ ⟨by rw [hx.1]; simp, by omega, by rw [hx.2]; simp⟩).mono (fun e w' q => ⟨q.1, (h.aft hB0).trans q.2⟩)
  · rw [hx.1]; exact SlAt.nil
  · refine ⟨by simp, fun _ => ⟨w.heap.size, 0, rfl, hX.lt, fun j u hu => ?_⟩⟩
    rw [Nat.zero_add, hX.cell j]
    simpa using hu
  · rw [hx.2]; exact SlAt.nil

theorem newK1 {B : PE} {w : World} {s : St} (h : PS B w s) (hn : s.t1.length < 65536) (kind pos k1 : Int) (name : ByteArray) :
    Calls Tryz.prog 114 #[B.ptr, .agg #[.int .i64 kind, .int .i64 pos, .string name, .int .i64 0, .int .u64 0, .slice none 0 0, .slice (some ⟨w.heap.size, 0, none⟩) 1 1, .slice none 0 0]] (w.alloc (.cells #[.int .i64 k1] 3)) fun e w' => e = .returned (.int .i64 (s.t1.length : Nat)) ∧ Aft B w ⟨s.k, s.op, s.t1 ++ [⟨kind, pos, name, 0, 0, [], [k1], []⟩], s.t2⟩ w' :=
  newKids h hn ⟨kind, pos, name, 0, 0, [], [k1], []⟩ ⟨rfl, rfl⟩ 1 rfl (by decide) #[.int .i64 k1] rfl
theorem newK2 {B : PE} {w : World} {s : St} (h : PS B w s) (hn : s.t1.length < 65536) (kind pos k1 k2 : Int) (name : ByteArray) :
    Calls Tryz.prog 114 #[B.ptr, .agg #[.int .i64 kind, .int .i64 pos, .string name, .int .i64 0, .int .u64 0, .slice none 0 0, .slice (some ⟨w.heap.size, 0, none⟩) 2 2, .slice none 0 0]] (w.alloc (.cells #[.int .i64 k1, .int .i64 k2] 3)) fun e w' => e = .returned (.int .i64 (s.t1.length : Nat)) ∧ Aft B w ⟨s.k, s.op, s.t1 ++ [⟨kind, pos, name, 0, 0, [], [k1, k2], []⟩], s.t2⟩ w' :=
  newKids h hn ⟨kind, pos, name, 0, 0, [], [k1, k2], []⟩ ⟨rfl, rfl⟩ 2 rfl (by decide) #[.int .i64 k1, .int .i64 k2] rfl

set_option maxRecDepth 100000 in
set_option maxHeartbeats 8000000 in
theorem post_any {ts : List Tk} (hT : TsOk ts) : Rule ts 166 (postM ts) := by
  intro B w s i s' hBts h hk hM
  unfold postM at hM
  obtain ⟨i0, s0, hA, hL⟩ := PR.bind_ok hM
  obtain ⟨hk0, cA⟩ := atom_any hT B w s i0 s0 hBts h hk hA
  have hkL : ∀ f i1 s1, s1.k < ts.length → postL ts f i1 s1 = .ok i s' → s'.k < ts.length := by
    intro f
    induction f with
    | zero => intro i1 s1 _ e; cases e
    | succ f ih =>
      intro i1 s1 h1 e
      unfold postL at e
      by_cases hs : standsB (tkA ts s1.k) [[46]] = true
      · rw [if_pos hs] at e
        by_cases hn : (tkA ts (s1.k + 1)).1 = 1
        · rw [if_pos hn] at e
          obtain ⟨i2, s2, e1, e2⟩ := PR.bind_ok e
          obtain ⟨_, rfl, rfl⟩ := newT_ok e1
          have hh : (tkA ts s1.k).1 ≠ 0 := by
            unfold standsB at hs
            simp at hs
            omega
          exact ih _ _ (by have := hT.step (hT.step h1 hh) (by rw [hn]; decide); exact this) e2
        · rw [if_neg hn] at e; cases e
      · rw [if_neg hs] at e
        injection e with _ e
        rw [← e]; exact h1
  refine ⟨hkL _ _ _ hk0 hL, ?_⟩
  have HL := Lib.hid hL
  have H := Lib.hid h
  have HB := Lib.hid hBts
  clear hL hM hA h
  go_enter Tryz.func166, Tryz.ntmps166
  go_wp2_with fail
  with_reducible refine cA.mono ?_
  rintro e w1 ⟨rfl, a1⟩
  have A1 := Lib.hid a1
  clear a1 cA
  go_wp2_with fail
  go_loopw [3] (fun l wr => ∃ (i1 : Nat) (s1 : St) (f : Nat), l = .int .i64 (i1 : Int) ∧ Hid (Aft B w s1 wr) ∧ Hid (s1.k < ts.length) ∧ Hid (postL ts f i1 s1 = .ok i s')) (fun _ wr => ts.length - kAt B wr)
  case atStart => exact ⟨i0, s0, _, rfl, A1, Lib.hid hk0, HL⟩
  case round =>
    obtain ⟨i1, s1, f, rfl, HA, HK, HP⟩ := hrel
    have hK := HK.out
    have hP := HP.out
    have hkA := HA.out.ps.kAt
    cases f with
    | zero => cases hP
    | succ f =>
      unfold postL at hP
      have cS : Calls Tryz.prog 47 #[B.ptr, .slice (some ⟨wr.heap.size, 0, none⟩) 1 1] (wr.alloc (.cells #[.string ⟨#[46]⟩] 9)) fun e w' => e = .returned (.bool (standsB (tkA ts s1.k) [[46]])) ∧ Below wr.heap.size wr w' := by
        have := stands_new HA.out.ps (by rw [HB.out]; exact hK) [[46]] 1 rfl (by decide) #[.string ⟨#[46]⟩] rfl
        rwa [HB.out] at this
      by_cases hs : standsB (tkA ts s1.k) [[46]] = true
      · rw [if_pos hs] at hP
        rw [hs] at cS
        by_cases hn : (tkA ts (s1.k + 1)).1 = 1
        · rw [if_pos hn] at hP
          obtain ⟨i2, s2, e1, e2⟩ := PR.bind_ok hP
          obtain ⟨hl, rfl, rfl⟩ := newT_ok e1
          have hh : (tkA ts s1.k).1 ≠ 0 := by
            unfold standsB at hs
            simp at hs
            omega
          have hk1 : s1.k + 1 < ts.length := hT.step hK hh
          have hk2 : s1.k + 2 < ts.length := hT.step hk1 (by rw [hn]; decide)
          have cX : ∀ W, PS B W s1 → Calls Tryz.prog 48 #[B.ptr] W fun e w' => e = .returned (tokV (tkA ts s1.k)) ∧ Aft B W (s1.on 1) w' := fun W p => by
            have := next_any p (by rw [HB.out]; exact hK)
            rwa [HB.out] at this
          have cT : ∀ W, PS B W (s1.on 1) → Calls Tryz.prog 38 #[B.ptr, .int .i64 1] W fun e w' => e = .returned (tokV (tkA ts (s1.k + 1))) ∧ Aft B W (s1.on 2) w' := fun W p => by
            have := token_any p (by rw [HB.out]; exact hk1) 1 (by rw [HB.out]; exact hn)
            rw [HB.out] at this
            exact this
          have cN := fun W (p : PS B W (s1.on 2)) => newK1 p hl 13 ((tkA ts s1.k).2.2 : Nat) (i1 : Int) (bs (tkA ts (s1.k + 1)).2.1)
          have hfd := tokF2
          have hfe := tokF1
          have E2 := Lib.hid e2
          have K2 := Lib.hid hk2
          clear hP e1 e2 hh hn hs hk1 hk2 hkL hK
          generalize tkA ts s1.k = t at *
          generalize tkA ts (s1.k + 1) = t' at *
          go_wp2_with fail
          with_reducible refine cS.mono ?_
          rintro e w2 ⟨rfl, hb2⟩
          have p2 := HA.out.ps.below hb2
          go_wp2_with fail
          with_reducible refine (cX w2 p2).mono ?_
          rintro e w3 ⟨rfl, a3⟩
          go_wp2_with fail
          with_reducible refine (cT w3 a3.ps).mono ?_
          rintro e w4 ⟨rfl, a4⟩
          go_wp2_with fail
          with_reducible refine (cN w4 a4.ps).mono ?_
          rintro e w5 ⟨rfl, a5⟩
          have A5 := Lib.hid ((((HA.out.below hb2).trans a3).trans a4).trans a5)
          clear p2 hb2 a3 a4 a5 cS cX cT cN
          go_wp2_with fail
          exact ⟨⟨_, _, f, rfl, A5, K2, E2⟩, by
            have q := K2.out
            rw [A5.out.ps.kAt, hkA]
            show ts.length - (s1.k + 2) < ts.length - s1.k
            omega⟩
        · rw [if_neg hn] at hP; cases hP
      · rw [if_neg hs] at hP
        have hs2 : standsB (tkA ts s1.k) [[46]] = false := by simpa using hs
        rw [hs2] at cS
        injection hP with e1 e2
        subst e1
        subst e2
        clear hs hs2 hkL
        go_wp2_with fail
        with_reducible refine cS.mono ?_
        rintro e w2 ⟨rfl, hb2⟩
        have A2 := Lib.hid (HA.out.below hb2)
        clear cS hb2
        go_wp2_with fail
        go_ret
        exact ⟨rfl, A2.out⟩

set_option maxHeartbeats 4000000 in
theorem unit_any {ts : List Tk} (hT : TsOk ts) : Rule ts 163 (unitM ts) := by
  intro B w s i s' hBts h hk hM
  unfold unitM at hM
  by_cases h3 : (tkA ts s.k).1 = 3
  · rw [if_pos h3] at hM; cases hM
  rw [if_neg h3] at hM
  have cP := fun (W : World) (p : PS B W s) => (post_any hT B W s i s' hBts p hk hM).2
  refine ⟨(post_any hT B w s i s' hBts h hk hM).1, ?_⟩
  have cN : Calls Tryz.prog 70 #[B.ptr] w fun e w' => e = .returned (tokV (tkA ts s.k)) ∧ Below w.heap.size w w' := by
    have := now_any h (by rw [hBts]; exact hk)
    rwa [hBts] at this
  have hne : (((tkA ts s.k).1 : Int) != 3) = true := by simp; omega
  have hfd := tokF0
  have H := Lib.hid h
  generalize tkA ts s.k = t at *
  clear h h3 hM
  go_enter Tryz.func163, Tryz.ntmps163
  go_wp2_with fail
  with_reducible refine cN.mono ?_
  rintro e w1 ⟨rfl, hb1⟩
  go_wp2_with fail
  with_reducible refine (cP w1 (H.out.below hb1)).mono ?_
  rintro e w2 ⟨rfl, a2⟩
  have A2 := Lib.hid ((H.out.aft hb1).trans a2)
  clear a2 hb1 cP cN
  go_wp2_with fail
  go_ret
  exact ⟨rfl, A2.out⟩

set_option maxHeartbeats 8000000 in
theorem unitStands_any {B : PE} {w : World} {s : St} (h : PS B w s) (hk : s.k < B.ts.length) : Calls Tryz.prog 164 #[B.ptr] w fun e w' => e = .returned (.bool (unitB (tkA B.ts s.k))) ∧ Below w.heap.size w w' := by
  have cN := now_any h hk
  have cS : ∀ W, PS B W s → Calls Tryz.prog 47 #[B.ptr, .slice (some ⟨W.heap.size, 0, none⟩) 4 4] (W.alloc (.cells #[.string ⟨#[116, 114, 117, 101]⟩, .string ⟨#[102, 97, 108, 115, 101]⟩, .string ⟨#[40]⟩, .string ⟨#[123]⟩] 9)) fun e w' => e = .returned (.bool (standsB (tkA B.ts s.k) [[116, 114, 117, 101], [102, 97, 108, 115, 101], [40], [123]])) ∧ Below W.heap.size W w' := fun W p => stands_new p hk [[116, 114, 117, 101], [102, 97, 108, 115, 101], [40], [123]] 4 rfl (by decide) _ rfl
  have hfd := tokF0
  have H := Lib.hid h
  unfold unitB
  generalize tkA B.ts s.k = t at *
  generalize standsB t [[116, 114, 117, 101], [102, 97, 108, 115, 101], [40], [123]] = st at *
  clear h
  have e3 : ((t.1 : Int) == 3) = (t.1 == 3) := by rw [Bool.eq_iff_iff]; simp; omega
  have e1 : ((t.1 : Int) == 1) = (t.1 == 1) := by rw [Bool.eq_iff_iff]; simp; omega
  have e4 : ((t.1 : Int) == 4) = (t.1 == 4) := by rw [Bool.eq_iff_iff]; simp; omega
  have e5 : ((t.1 : Int) == 5) = (t.1 == 5) := by rw [Bool.eq_iff_iff]; simp; omega
  have e6 : ((t.1 : Int) == 6) = (t.1 == 6) := by rw [Bool.eq_iff_iff]; simp; omega
  generalize (t.1 == 3) = b3 at *
  generalize (t.1 == 1) = b1 at *
  generalize (t.1 == 4) = b4 at *
  generalize (t.1 == 5) = b5 at *
  generalize (t.1 == 6) = b6 at *
  cases b3
  all_goals cases b1
  all_goals cases b4
  all_goals cases b5
  all_goals cases b6
  all_goals
    go_enter Tryz.func164, Tryz.ntmps164
    go_wp2_with fail
    with_reducible refine cN.mono ?_
    rintro e w1 ⟨rfl, hb1⟩
    go_wp2_with fail
    first
    | (go_ret; exact ⟨rfl, hb1⟩)
    | (with_reducible refine (cS w1 (H.out.below hb1)).mono ?_
       rintro e w2 ⟨rfl, hb2⟩
       go_wp2_with fail
       go_ret
       exact ⟨rfl, hb1.trans (hb2.mono hb1.size)⟩)
end Go.Proofs.YtidmeodmkcomlaaGreatDoor

namespace Go.Proofs.YtidmeodmkcomlaaGreatDoor
open Go Go.Proofs Go.RowKit

set_option maxRecDepth 100000 in
set_option maxHeartbeats 8000000 in
theorem apply_any {ts : List Tk} (hT : TsOk ts) : Rule ts 155 (applyM ts) := by
  intro B w s i s' hBts h hk hM
  refine ⟨(apply_prog hT _ _ _ hk hM).2, ?_⟩
  unfold applyM at hM
  obtain ⟨i0, s0, hA, hL⟩ := PR.bind_ok hM
  obtain ⟨hk0, cA⟩ := unit_any hT B w s i0 s0 hBts h hk hA
  have HL := Lib.hid hL
  have HB := Lib.hid hBts
  clear hL hM hA h
  go_enter Tryz.func155, Tryz.ntmps155
  go_wp2_with fail
  with_reducible refine cA.mono ?_
  rintro e w1 ⟨rfl, a1⟩
  have A1 := Lib.hid a1
  clear a1 cA
  go_wp2_with fail
  go_loopw [3] (fun l wr => ∃ (i1 : Nat) (s1 : St) (f : Nat), l = .int .i64 (i1 : Int) ∧ Hid (Aft B w s1 wr) ∧ Hid (s1.k < ts.length) ∧ Hid (applyL ts f i1 s1 = .ok i s')) (fun _ wr => ts.length - kAt B wr)
  case atStart => exact ⟨i0, s0, _, rfl, A1, Lib.hid hk0, HL⟩
  case round =>
    obtain ⟨i1, s1, f, rfl, HA, HK, HP⟩ := hrel
    have hK := HK.out
    have hP := HP.out
    have hkA := HA.out.ps.kAt
    cases f with
    | zero => cases hP
    | succ f =>
      unfold applyL at hP
      have cS : ∀ W, PS B W s1 → Calls Tryz.prog 164 #[B.ptr] W fun e w' => e = .returned (.bool (unitB (tkA ts s1.k))) ∧ Below W.heap.size W w' := fun W p => by
        have := unitStands_any p (by rw [HB.out]; exact hK)
        rwa [HB.out] at this
      by_cases hs : unitB (tkA ts s1.k) = true
      · rw [if_pos hs] at hP
        rw [hs] at cS
        obtain ⟨i2, s2, e1, e2⟩ := PR.bind_ok hP
        obtain ⟨i3, s3, e3, e4⟩ := PR.bind_ok e2
        obtain ⟨hl, rfl, rfl⟩ := newT_ok e3
        have hpr := unit_prog hT _ _ _ hK e1
        have cN0 : ∀ W, PS B W s1 → Calls Tryz.prog 70 #[B.ptr] W fun e w' => e = .returned (tokV (tkA ts s1.k)) ∧ Below W.heap.size W w' := fun W p => by
          have := now_any p (by rw [HB.out]; exact hK)
          rwa [HB.out] at this
        have cU := fun (W : World) (p : PS B W s1) => (unit_any hT B W s1 i2 s2 HB.out p hK e1).2
        have cN := fun W (p : PS B W s2) => newK2 p hl 6 ((tkA ts s1.k).2.2 : Nat) (i1 : Int) (i2 : Int) (bs [])
        have hfd := tokF2
        have E2 := Lib.hid e4
        have K2 := Lib.hid hpr
        clear hP e1 e2 e3 e4 hs hK hpr
        unfold bs at cN
        generalize tkA ts s1.k = t at *
        go_wp2_with fail
        with_reducible refine (cS wr HA.out.ps).mono ?_
        rintro e w2 ⟨rfl, hb2⟩
        have a2 := HA.out.below hb2
        go_wp2_with fail
        with_reducible refine (cN0 w2 a2.ps).mono ?_
        rintro e w3 ⟨rfl, hb3⟩
        have a3 := a2.below hb3
        go_wp2_with fail
        with_reducible refine (cU w3 a3.ps).mono ?_
        rintro e w4 ⟨rfl, a4⟩
        go_wp2_with fail
        with_reducible refine (cN w4 a4.ps).mono ?_
        rintro e w5 ⟨rfl, a5⟩
        have A5 := Lib.hid ((a3.trans a4).trans a5)
        clear a2 a3 a4 a5 hb2 hb3 cS cN0 cU cN
        go_wp2_with fail
        exact ⟨⟨_, _, f, rfl, A5, Lib.hid K2.out.2, E2⟩, by
          have q := K2.out
          rw [A5.out.ps.kAt, hkA]
          show ts.length - s2.k < ts.length - s1.k
          omega⟩
      · rw [if_neg hs] at hP
        have hs2 : unitB (tkA ts s1.k) = false := by simpa using hs
        rw [hs2] at cS
        injection hP with e1 e2
        subst e1
        subst e2
        clear hs hs2
        go_wp2_with fail
        with_reducible refine (cS wr HA.out.ps).mono ?_
        rintro e w2 ⟨rfl, hb2⟩
        have A2 := Lib.hid (HA.out.below hb2)
        clear cS hb2
        go_wp2_with fail
        go_ret
        exact ⟨rfl, A2.out⟩

set_option maxRecDepth 100000 in
set_option maxHeartbeats 8000000 in
theorem op_any {ts : List Tk} (hT : TsOk ts) (fk : FuncId) (hfk : fk = 116 ∨ fk = 139 ∨ fk = 146 ∨ fk = 155) (P : St → PR) (hP : Rule ts fk P) {B : PE} {w : World} {s : St} {left i : Nat} {s' : St} (hBts : B.ts = ts) (h : PS B w s) (hk : s.k < ts.length) (h0 : (tkA ts s.k).1 ≠ 0) (hM : opM ts P left s = .ok i s') :
    Calls Tryz.prog 117 #[B.ptr, .int .i64 (left : Int), .func (.func fk) #[B.ptr] #[]] w fun e w' => e = .returned (.int .i64 (i : Nat)) ∧ Aft B w s' w' := by
  unfold opM at hM
  obtain ⟨i1, s1, e1, e2⟩ := PR.bind_ok hM
  obtain ⟨hl, rfl, rfl⟩ := newT_ok e2
  have cX : Calls Tryz.prog 48 #[B.ptr] w fun e w' => e = .returned (tokV (tkA ts s.k)) ∧ Aft B w (s.on 1) w' := by
    have := next_any h (by rw [hBts]; exact hk)
    rwa [hBts] at this
  have cU := fun (W : World) (p : PS B W (s.on 1)) => (hP B W (s.on 1) i1 s1 hBts p (hT.step hk h0) e1).2
  have cN := fun W (p : PS B W s1) => newK2 p hl 14 ((tkA ts s.k).2.2 : Nat) (left : Int) (i1 : Int) (bs (tkA ts s.k).2.1)
  clear hM e1 e2 h0 h hk hP
  generalize tkA ts s.k = t at *
  go_enter Tryz.func117, Tryz.ntmps117
  go_wp2_with fail
  with_reducible refine cX.mono ?_
  rintro e w1 ⟨rfl, a1⟩
  obtain ⟨W2, hW2⟩ : ∃ W2, w1.alloc (.cells (tokL t).toArray 77) = W2 := ⟨_, rfl⟩
  have hB2 : Below w1.heap.size w1 W2 := by rw [← hW2]; exact (Below.refl _ _).alloc (Nat.le_refl _) _
  have hX2 : Blk W2 w1.heap.size 77 (tokL t).toArray := by rw [← hW2]; exact Blk.new w1 77 _
  have d1 := hX2.cell 1
  have d2 := hX2.cell 2
  simp only [List.getElem?_toArray, List.getElem?_cons_zero, List.getElem?_cons_succ] at d1 d2
  have A2 := Lib.hid (a1.below hB2)
  have A1 := Lib.hid a1
  have HX2 := Lib.hid hX2
  have HB2 := Lib.hid hB2
  clear a1 hX2 hB2 cX
  have m2 : ¬ Mu B W2 w1.heap.size := A1.out.ps.fresh HB2.out (Nat.le_refl _)
  have hx2 := HX2.out.lt
  go_wp2_with fail
  rcases hfk with rfl | rfl | rfl | rfl
  · refine wp_region_noPanic ?_
    refine wp_region_held_drew (S := fun W => W.cell? ⟨w1.heap.size, 1, none⟩ = some (.string (bs t.2.1)) ∧ W.cell? ⟨w1.heap.size, 2, none⟩ = some (.int .i64 (t.2.2 : Int))) (by kernel_rfl) (⟨d1, d2⟩) (fun hHeld => ?_)
    refine wpAnyH_take (i := 0) (v := ?voa1) (by simp only [List.getElem?_toArray, List.getElem?_cons_zero]; rfl) (by kernel_rfl) (by kernel_rfl) (by kernel_rfl) (fun _ _ _ h => h) (Or.inl ⟨by rfl, ?hyoa1⟩) (by assumption) ?restoa1
    case hyoa1 => (intro w hSw; (try dsimp only at hSw); go_simp; try with_reducible rfl)
    try simp only [Act.put, List.setIfInBounds_toArray, List.set_cons_zero, List.set_cons_succ]
    refine wpAnyH_take (i := 1) (v := ?voa2) (by simp only [List.getElem?_toArray, List.getElem?_cons_zero, List.getElem?_cons_succ]; rfl) (by kernel_rfl) (by kernel_rfl) (by kernel_rfl) (fun _ _ _ h => h) (Or.inl ⟨by rfl, ?hyoa2⟩) (by assumption) ?restoa2
    case hyoa2 => (intro w hSw; (try dsimp only at hSw); go_simp; try with_reducible rfl)
    try simp only [Act.put, List.setIfInBounds_toArray, List.set_cons_zero, List.set_cons_succ]
    refine wpAnyH_take (i := 2) (v := ?voa3) (by simp only [List.getElem?_toArray, List.getElem?_cons_zero, List.getElem?_cons_succ]; rfl) (by kernel_rfl) (by kernel_rfl) (by kernel_rfl) (fun _ _ _ h => h) (Or.inl ⟨by rfl, ?hyoa3⟩) (by assumption) ?restoa3
    case hyoa3 => (intro w hSw; (try dsimp only at hSw); go_simp; try with_reducible rfl)
    try simp only [Act.put, List.setIfInBounds_toArray, List.set_cons_zero, List.set_cons_succ]
    refine wpAnyH_take (i := 3) (v := ?voa4) (by simp only [List.getElem?_toArray, List.getElem?_cons_zero, List.getElem?_cons_succ]; rfl) (by kernel_rfl) (by kernel_rfl) (by kernel_rfl) (fun _ _ _ h => h) (Or.inl ⟨by rfl, ?hyoa4⟩) (by assumption) ?restoa4
    case hyoa4 => (intro w hSw; (try dsimp only at hSw); go_simp; try with_reducible rfl)
    try simp only [Act.put, List.setIfInBounds_toArray, List.set_cons_zero, List.set_cons_succ]
    refine wpAnyH_take (i := 4) (v := ?voa5) (by simp only [List.getElem?_toArray, List.getElem?_cons_zero, List.getElem?_cons_succ]; rfl) (by kernel_rfl) (by kernel_rfl) (by kernel_rfl) (fun _ _ _ h => h) (Or.inl ⟨by rfl, ?hyoa5⟩) (by assumption) ?restoa5
    case hyoa5 => (intro w hSw; (try dsimp only at hSw); go_simp; try with_reducible rfl)
    try simp only [Act.put, List.setIfInBounds_toArray, List.set_cons_zero, List.set_cons_succ]
    refine wpAnyH_take (i := 5) (v := ?voa6) (by simp only [List.getElem?_toArray, List.getElem?_cons_zero, List.getElem?_cons_succ]; rfl) (by kernel_rfl) (by kernel_rfl) (by kernel_rfl) (fun _ _ _ h => h) (Or.inl ⟨by rfl, ?hyoa6⟩) (by assumption) ?restoa6
    case hyoa6 => (intro w hSw; (try dsimp only at hSw); go_simp; try with_reducible rfl)
    try simp only [Act.put, List.setIfInBounds_toArray, List.set_cons_zero, List.set_cons_succ]
    refine wpAnyH_take (i := 6) (v := ?voa7) (by simp only [List.getElem?_toArray, List.getElem?_cons_zero, List.getElem?_cons_succ]; rfl) (by kernel_rfl) (by kernel_rfl) (by kernel_rfl) (fun _ _ _ h => h) (Or.inl ⟨by rfl, ?hyoa7⟩) (by assumption) ?restoa7
    case hyoa7 => (intro w hSw; (try dsimp only at hSw); go_simp; try with_reducible rfl)
    try simp only [Act.put, List.setIfInBounds_toArray, List.set_cons_zero, List.set_cons_succ]
    refine wpAnyH_ready (rs := [7]) (by kernel_rfl) (by simp) ?_
    refine AllReadyH.cons (by simp only [List.getElem?_toArray, List.getElem?_cons_zero, List.getElem?_cons_succ]; rfl) (fun K hK => ?stepoa8) AllReadyH.nil
    go_simp; refine (cU _ (by exact A2.out.ps.below (Below.refl _ _).drew)).mono ?_; rintro e w3 ⟨rfl, a3⟩; have d3 : w3.heap[w1.heap.size]? = W2.heap[w1.heap.size]? := a3.kt.block (w := W2.drew) hx2 m2; have f1 := (World.cell?_of_block (a := ⟨w1.heap.size, 1, none⟩) d3).trans d1; have f2 := (World.cell?_of_block (a := ⟨w1.heap.size, 2, none⟩) d3).trans d2; have l3 : w1.heap.size < w3.heap.size := Nat.lt_of_lt_of_le hx2 a3.kt.1
    go_wp2_with fail
    refine hK.out _ _ ?hSoa8 (fun hHeld => ?_)
    case hSoa8 => exact ⟨f1, f2⟩
    clear hK K
    try simp only [Act.put, List.setIfInBounds_toArray, List.set_cons_zero, List.set_cons_succ]
    refine wpAnyH_ready (rs := [8]) (by kernel_rfl) (by simp) ?_
    refine AllReadyH.cons (by simp only [List.getElem?_toArray, List.getElem?_cons_zero, List.getElem?_cons_succ]; rfl) (fun K hK => ?stepoa9) AllReadyH.nil
    go_simp
    refine hK.out _ _ ?hSoa9 (fun hHeld => ?_)
    case hSoa9 => exact ⟨(((Below.refl _ w3).alloc (Nat.le_refl _) _).cell (p := ⟨w1.heap.size, 1, none⟩) l3).trans f1, (((Below.refl _ w3).alloc (Nat.le_refl _) _).cell (p := ⟨w1.heap.size, 2, none⟩) l3).trans f2⟩
    clear hK K
    try simp only [Act.put, List.setIfInBounds_toArray, List.set_cons_zero, List.set_cons_succ]
    refine wpAnyH_take (i := 9) (v := ?voa10) (by simp only [List.getElem?_toArray, List.getElem?_cons_zero, List.getElem?_cons_succ]; rfl) (by kernel_rfl) (by kernel_rfl) (by kernel_rfl) (fun _ _ _ h => h) (Or.inl ⟨by rfl, ?hyoa10⟩) (by assumption) ?restoa10
    case hyoa10 => (intro w hSw; (try dsimp only at hSw); go_simp; try with_reducible rfl)
    try simp only [Act.put, List.setIfInBounds_toArray, List.set_cons_zero, List.set_cons_succ]
    refine wpAnyH_ready (rs := [10]) (by kernel_rfl) (by simp) ?_
    refine AllReadyH.cons (by simp only [List.getElem?_toArray, List.getElem?_cons_zero, List.getElem?_cons_succ]; rfl) (fun K hK => ?stepoa11) AllReadyH.nil
    go_simp; go_at_call 114; refine (cN _ (by exact a3.ps)).mono ?_; rintro e w4 ⟨rfl, a4⟩; have d4 : w4.heap[w1.heap.size]? = w3.heap[w1.heap.size]? := a4.kt.block l3 (a3.kt.2 w1.heap.size hx2 m2).2; have g1 := (World.cell?_of_block (a := ⟨w1.heap.size, 1, none⟩) d4).trans f1; have g2 := (World.cell?_of_block (a := ⟨w1.heap.size, 2, none⟩) d4).trans f2
    go_wp2_with fail
    refine hK.out _ _ ?hSoa11 (fun hHeld => ?_)
    case hSoa11 => exact ⟨g1, g2⟩
    clear hK K
    try simp only [Act.put, List.setIfInBounds_toArray, List.set_cons_zero, List.set_cons_succ]
    refine wpAnyH_take (i := 11) (v := ?voa12) (by simp only [List.getElem?_toArray, List.getElem?_cons_zero, List.getElem?_cons_succ]; rfl) (by kernel_rfl) (by kernel_rfl) (by kernel_rfl) (fun _ _ _ h => h) (Or.inl ⟨by rfl, ?hyoa12⟩) (by assumption) ?restoa12
    case hyoa12 => (intro w hSw; (try dsimp only at hSw); go_simp; try with_reducible rfl)
    try simp only [Act.put, List.setIfInBounds_toArray, List.set_cons_zero, List.set_cons_succ]
    refine wpAnyH_done (by kernel_rfl) ?_ _
    refine NoPanic.normal ?_
    have A4 := Lib.hid (((A2.out.below ((Below.refl _ W2).drew)).trans a3).trans a4)
    clear a3 a4 d3 f1 f2 d4 g1 g2 cU cN
    go_wp2_with fail
    go_ret
    exact ⟨rfl, A4.out⟩
  · refine wp_region_noPanic ?_
    refine wp_region_held_drew (S := fun W => W.cell? ⟨w1.heap.size, 1, none⟩ = some (.string (bs t.2.1)) ∧ W.cell? ⟨w1.heap.size, 2, none⟩ = some (.int .i64 (t.2.2 : Int))) (by kernel_rfl) (⟨d1, d2⟩) (fun hHeld => ?_)
    refine wpAnyH_take (i := 0) (v := ?vob1) (by simp only [List.getElem?_toArray, List.getElem?_cons_zero]; rfl) (by kernel_rfl) (by kernel_rfl) (by kernel_rfl) (fun _ _ _ h => h) (Or.inl ⟨by rfl, ?hyob1⟩) (by assumption) ?restob1
    case hyob1 => (intro w hSw; (try dsimp only at hSw); go_simp; try with_reducible rfl)
    try simp only [Act.put, List.setIfInBounds_toArray, List.set_cons_zero, List.set_cons_succ]
    refine wpAnyH_take (i := 1) (v := ?vob2) (by simp only [List.getElem?_toArray, List.getElem?_cons_zero, List.getElem?_cons_succ]; rfl) (by kernel_rfl) (by kernel_rfl) (by kernel_rfl) (fun _ _ _ h => h) (Or.inl ⟨by rfl, ?hyob2⟩) (by assumption) ?restob2
    case hyob2 => (intro w hSw; (try dsimp only at hSw); go_simp; try with_reducible rfl)
    try simp only [Act.put, List.setIfInBounds_toArray, List.set_cons_zero, List.set_cons_succ]
    refine wpAnyH_take (i := 2) (v := ?vob3) (by simp only [List.getElem?_toArray, List.getElem?_cons_zero, List.getElem?_cons_succ]; rfl) (by kernel_rfl) (by kernel_rfl) (by kernel_rfl) (fun _ _ _ h => h) (Or.inl ⟨by rfl, ?hyob3⟩) (by assumption) ?restob3
    case hyob3 => (intro w hSw; (try dsimp only at hSw); go_simp; try with_reducible rfl)
    try simp only [Act.put, List.setIfInBounds_toArray, List.set_cons_zero, List.set_cons_succ]
    refine wpAnyH_take (i := 3) (v := ?vob4) (by simp only [List.getElem?_toArray, List.getElem?_cons_zero, List.getElem?_cons_succ]; rfl) (by kernel_rfl) (by kernel_rfl) (by kernel_rfl) (fun _ _ _ h => h) (Or.inl ⟨by rfl, ?hyob4⟩) (by assumption) ?restob4
    case hyob4 => (intro w hSw; (try dsimp only at hSw); go_simp; try with_reducible rfl)
    try simp only [Act.put, List.setIfInBounds_toArray, List.set_cons_zero, List.set_cons_succ]
    refine wpAnyH_take (i := 4) (v := ?vob5) (by simp only [List.getElem?_toArray, List.getElem?_cons_zero, List.getElem?_cons_succ]; rfl) (by kernel_rfl) (by kernel_rfl) (by kernel_rfl) (fun _ _ _ h => h) (Or.inl ⟨by rfl, ?hyob5⟩) (by assumption) ?restob5
    case hyob5 => (intro w hSw; (try dsimp only at hSw); go_simp; try with_reducible rfl)
    try simp only [Act.put, List.setIfInBounds_toArray, List.set_cons_zero, List.set_cons_succ]
    refine wpAnyH_take (i := 5) (v := ?vob6) (by simp only [List.getElem?_toArray, List.getElem?_cons_zero, List.getElem?_cons_succ]; rfl) (by kernel_rfl) (by kernel_rfl) (by kernel_rfl) (fun _ _ _ h => h) (Or.inl ⟨by rfl, ?hyob6⟩) (by assumption) ?restob6
    case hyob6 => (intro w hSw; (try dsimp only at hSw); go_simp; try with_reducible rfl)
    try simp only [Act.put, List.setIfInBounds_toArray, List.set_cons_zero, List.set_cons_succ]
    refine wpAnyH_take (i := 6) (v := ?vob7) (by simp only [List.getElem?_toArray, List.getElem?_cons_zero, List.getElem?_cons_succ]; rfl) (by kernel_rfl) (by kernel_rfl) (by kernel_rfl) (fun _ _ _ h => h) (Or.inl ⟨by rfl, ?hyob7⟩) (by assumption) ?restob7
    case hyob7 => (intro w hSw; (try dsimp only at hSw); go_simp; try with_reducible rfl)
    try simp only [Act.put, List.setIfInBounds_toArray, List.set_cons_zero, List.set_cons_succ]
    refine wpAnyH_ready (rs := [7]) (by kernel_rfl) (by simp) ?_
    refine AllReadyH.cons (by simp only [List.getElem?_toArray, List.getElem?_cons_zero, List.getElem?_cons_succ]; rfl) (fun K hK => ?stepob8) AllReadyH.nil
    go_simp; refine (cU _ (by exact A2.out.ps.below (Below.refl _ _).drew)).mono ?_; rintro e w3 ⟨rfl, a3⟩; have d3 : w3.heap[w1.heap.size]? = W2.heap[w1.heap.size]? := a3.kt.block (w := W2.drew) hx2 m2; have f1 := (World.cell?_of_block (a := ⟨w1.heap.size, 1, none⟩) d3).trans d1; have f2 := (World.cell?_of_block (a := ⟨w1.heap.size, 2, none⟩) d3).trans d2; have l3 : w1.heap.size < w3.heap.size := Nat.lt_of_lt_of_le hx2 a3.kt.1
    go_wp2_with fail
    refine hK.out _ _ ?hSob8 (fun hHeld => ?_)
    case hSob8 => exact ⟨f1, f2⟩
    clear hK K
    try simp only [Act.put, List.setIfInBounds_toArray, List.set_cons_zero, List.set_cons_succ]
    refine wpAnyH_ready (rs := [8]) (by kernel_rfl) (by simp) ?_
    refine AllReadyH.cons (by simp only [List.getElem?_toArray, List.getElem?_cons_zero, List.getElem?_cons_succ]; rfl) (fun K hK => ?stepob9) AllReadyH.nil
    go_simp
    refine hK.out _ _ ?hSob9 (fun hHeld => ?_)
    case hSob9 => exact ⟨(((Below.refl _ w3).alloc (Nat.le_refl _) _).cell (p := ⟨w1.heap.size, 1, none⟩) l3).trans f1, (((Below.refl _ w3).alloc (Nat.le_refl _) _).cell (p := ⟨w1.heap.size, 2, none⟩) l3).trans f2⟩
    clear hK K
    try simp only [Act.put, List.setIfInBounds_toArray, List.set_cons_zero, List.set_cons_succ]
    refine wpAnyH_take (i := 9) (v := ?vob10) (by simp only [List.getElem?_toArray, List.getElem?_cons_zero, List.getElem?_cons_succ]; rfl) (by kernel_rfl) (by kernel_rfl) (by kernel_rfl) (fun _ _ _ h => h) (Or.inl ⟨by rfl, ?hyob10⟩) (by assumption) ?restob10
    case hyob10 => (intro w hSw; (try dsimp only at hSw); go_simp; try with_reducible rfl)
    try simp only [Act.put, List.setIfInBounds_toArray, List.set_cons_zero, List.set_cons_succ]
    refine wpAnyH_ready (rs := [10]) (by kernel_rfl) (by simp) ?_
    refine AllReadyH.cons (by simp only [List.getElem?_toArray, List.getElem?_cons_zero, List.getElem?_cons_succ]; rfl) (fun K hK => ?stepob11) AllReadyH.nil
    go_simp; go_at_call 114; refine (cN _ (by exact a3.ps)).mono ?_; rintro e w4 ⟨rfl, a4⟩; have d4 : w4.heap[w1.heap.size]? = w3.heap[w1.heap.size]? := a4.kt.block l3 (a3.kt.2 w1.heap.size hx2 m2).2; have g1 := (World.cell?_of_block (a := ⟨w1.heap.size, 1, none⟩) d4).trans f1; have g2 := (World.cell?_of_block (a := ⟨w1.heap.size, 2, none⟩) d4).trans f2
    go_wp2_with fail
    refine hK.out _ _ ?hSob11 (fun hHeld => ?_)
    case hSob11 => exact ⟨g1, g2⟩
    clear hK K
    try simp only [Act.put, List.setIfInBounds_toArray, List.set_cons_zero, List.set_cons_succ]
    refine wpAnyH_take (i := 11) (v := ?vob12) (by simp only [List.getElem?_toArray, List.getElem?_cons_zero, List.getElem?_cons_succ]; rfl) (by kernel_rfl) (by kernel_rfl) (by kernel_rfl) (fun _ _ _ h => h) (Or.inl ⟨by rfl, ?hyob12⟩) (by assumption) ?restob12
    case hyob12 => (intro w hSw; (try dsimp only at hSw); go_simp; try with_reducible rfl)
    try simp only [Act.put, List.setIfInBounds_toArray, List.set_cons_zero, List.set_cons_succ]
    refine wpAnyH_done (by kernel_rfl) ?_ _
    refine NoPanic.normal ?_
    have A4 := Lib.hid (((A2.out.below ((Below.refl _ W2).drew)).trans a3).trans a4)
    clear a3 a4 d3 f1 f2 d4 g1 g2 cU cN
    go_wp2_with fail
    go_ret
    exact ⟨rfl, A4.out⟩
  · refine wp_region_noPanic ?_
    refine wp_region_held_drew (S := fun W => W.cell? ⟨w1.heap.size, 1, none⟩ = some (.string (bs t.2.1)) ∧ W.cell? ⟨w1.heap.size, 2, none⟩ = some (.int .i64 (t.2.2 : Int))) (by kernel_rfl) (⟨d1, d2⟩) (fun hHeld => ?_)
    refine wpAnyH_take (i := 0) (v := ?voc1) (by simp only [List.getElem?_toArray, List.getElem?_cons_zero]; rfl) (by kernel_rfl) (by kernel_rfl) (by kernel_rfl) (fun _ _ _ h => h) (Or.inl ⟨by rfl, ?hyoc1⟩) (by assumption) ?restoc1
    case hyoc1 => (intro w hSw; (try dsimp only at hSw); go_simp; try with_reducible rfl)
    try simp only [Act.put, List.setIfInBounds_toArray, List.set_cons_zero, List.set_cons_succ]
    refine wpAnyH_take (i := 1) (v := ?voc2) (by simp only [List.getElem?_toArray, List.getElem?_cons_zero, List.getElem?_cons_succ]; rfl) (by kernel_rfl) (by kernel_rfl) (by kernel_rfl) (fun _ _ _ h => h) (Or.inl ⟨by rfl, ?hyoc2⟩) (by assumption) ?restoc2
    case hyoc2 => (intro w hSw; (try dsimp only at hSw); go_simp; try with_reducible rfl)
    try simp only [Act.put, List.setIfInBounds_toArray, List.set_cons_zero, List.set_cons_succ]
    refine wpAnyH_take (i := 2) (v := ?voc3) (by simp only [List.getElem?_toArray, List.getElem?_cons_zero, List.getElem?_cons_succ]; rfl) (by kernel_rfl) (by kernel_rfl) (by kernel_rfl) (fun _ _ _ h => h) (Or.inl ⟨by rfl, ?hyoc3⟩) (by assumption) ?restoc3
    case hyoc3 => (intro w hSw; (try dsimp only at hSw); go_simp; try with_reducible rfl)
    try simp only [Act.put, List.setIfInBounds_toArray, List.set_cons_zero, List.set_cons_succ]
    refine wpAnyH_take (i := 3) (v := ?voc4) (by simp only [List.getElem?_toArray, List.getElem?_cons_zero, List.getElem?_cons_succ]; rfl) (by kernel_rfl) (by kernel_rfl) (by kernel_rfl) (fun _ _ _ h => h) (Or.inl ⟨by rfl, ?hyoc4⟩) (by assumption) ?restoc4
    case hyoc4 => (intro w hSw; (try dsimp only at hSw); go_simp; try with_reducible rfl)
    try simp only [Act.put, List.setIfInBounds_toArray, List.set_cons_zero, List.set_cons_succ]
    refine wpAnyH_take (i := 4) (v := ?voc5) (by simp only [List.getElem?_toArray, List.getElem?_cons_zero, List.getElem?_cons_succ]; rfl) (by kernel_rfl) (by kernel_rfl) (by kernel_rfl) (fun _ _ _ h => h) (Or.inl ⟨by rfl, ?hyoc5⟩) (by assumption) ?restoc5
    case hyoc5 => (intro w hSw; (try dsimp only at hSw); go_simp; try with_reducible rfl)
    try simp only [Act.put, List.setIfInBounds_toArray, List.set_cons_zero, List.set_cons_succ]
    refine wpAnyH_take (i := 5) (v := ?voc6) (by simp only [List.getElem?_toArray, List.getElem?_cons_zero, List.getElem?_cons_succ]; rfl) (by kernel_rfl) (by kernel_rfl) (by kernel_rfl) (fun _ _ _ h => h) (Or.inl ⟨by rfl, ?hyoc6⟩) (by assumption) ?restoc6
    case hyoc6 => (intro w hSw; (try dsimp only at hSw); go_simp; try with_reducible rfl)
    try simp only [Act.put, List.setIfInBounds_toArray, List.set_cons_zero, List.set_cons_succ]
    refine wpAnyH_take (i := 6) (v := ?voc7) (by simp only [List.getElem?_toArray, List.getElem?_cons_zero, List.getElem?_cons_succ]; rfl) (by kernel_rfl) (by kernel_rfl) (by kernel_rfl) (fun _ _ _ h => h) (Or.inl ⟨by rfl, ?hyoc7⟩) (by assumption) ?restoc7
    case hyoc7 => (intro w hSw; (try dsimp only at hSw); go_simp; try with_reducible rfl)
    try simp only [Act.put, List.setIfInBounds_toArray, List.set_cons_zero, List.set_cons_succ]
    refine wpAnyH_ready (rs := [7]) (by kernel_rfl) (by simp) ?_
    refine AllReadyH.cons (by simp only [List.getElem?_toArray, List.getElem?_cons_zero, List.getElem?_cons_succ]; rfl) (fun K hK => ?stepoc8) AllReadyH.nil
    go_simp; refine (cU _ (by exact A2.out.ps.below (Below.refl _ _).drew)).mono ?_; rintro e w3 ⟨rfl, a3⟩; have d3 : w3.heap[w1.heap.size]? = W2.heap[w1.heap.size]? := a3.kt.block (w := W2.drew) hx2 m2; have f1 := (World.cell?_of_block (a := ⟨w1.heap.size, 1, none⟩) d3).trans d1; have f2 := (World.cell?_of_block (a := ⟨w1.heap.size, 2, none⟩) d3).trans d2; have l3 : w1.heap.size < w3.heap.size := Nat.lt_of_lt_of_le hx2 a3.kt.1
    go_wp2_with fail
    refine hK.out _ _ ?hSoc8 (fun hHeld => ?_)
    case hSoc8 => exact ⟨f1, f2⟩
    clear hK K
    try simp only [Act.put, List.setIfInBounds_toArray, List.set_cons_zero, List.set_cons_succ]
    refine wpAnyH_ready (rs := [8]) (by kernel_rfl) (by simp) ?_
    refine AllReadyH.cons (by simp only [List.getElem?_toArray, List.getElem?_cons_zero, List.getElem?_cons_succ]; rfl) (fun K hK => ?stepoc9) AllReadyH.nil
    go_simp
    refine hK.out _ _ ?hSoc9 (fun hHeld => ?_)
    case hSoc9 => exact ⟨(((Below.refl _ w3).alloc (Nat.le_refl _) _).cell (p := ⟨w1.heap.size, 1, none⟩) l3).trans f1, (((Below.refl _ w3).alloc (Nat.le_refl _) _).cell (p := ⟨w1.heap.size, 2, none⟩) l3).trans f2⟩
    clear hK K
    try simp only [Act.put, List.setIfInBounds_toArray, List.set_cons_zero, List.set_cons_succ]
    refine wpAnyH_take (i := 9) (v := ?voc10) (by simp only [List.getElem?_toArray, List.getElem?_cons_zero, List.getElem?_cons_succ]; rfl) (by kernel_rfl) (by kernel_rfl) (by kernel_rfl) (fun _ _ _ h => h) (Or.inl ⟨by rfl, ?hyoc10⟩) (by assumption) ?restoc10
    case hyoc10 => (intro w hSw; (try dsimp only at hSw); go_simp; try with_reducible rfl)
    try simp only [Act.put, List.setIfInBounds_toArray, List.set_cons_zero, List.set_cons_succ]
    refine wpAnyH_ready (rs := [10]) (by kernel_rfl) (by simp) ?_
    refine AllReadyH.cons (by simp only [List.getElem?_toArray, List.getElem?_cons_zero, List.getElem?_cons_succ]; rfl) (fun K hK => ?stepoc11) AllReadyH.nil
    go_simp; go_at_call 114; refine (cN _ (by exact a3.ps)).mono ?_; rintro e w4 ⟨rfl, a4⟩; have d4 : w4.heap[w1.heap.size]? = w3.heap[w1.heap.size]? := a4.kt.block l3 (a3.kt.2 w1.heap.size hx2 m2).2; have g1 := (World.cell?_of_block (a := ⟨w1.heap.size, 1, none⟩) d4).trans f1; have g2 := (World.cell?_of_block (a := ⟨w1.heap.size, 2, none⟩) d4).trans f2
    go_wp2_with fail
    refine hK.out _ _ ?hSoc11 (fun hHeld => ?_)
    case hSoc11 => exact ⟨g1, g2⟩
    clear hK K
    try simp only [Act.put, List.setIfInBounds_toArray, List.set_cons_zero, List.set_cons_succ]
    refine wpAnyH_take (i := 11) (v := ?voc12) (by simp only [List.getElem?_toArray, List.getElem?_cons_zero, List.getElem?_cons_succ]; rfl) (by kernel_rfl) (by kernel_rfl) (by kernel_rfl) (fun _ _ _ h => h) (Or.inl ⟨by rfl, ?hyoc12⟩) (by assumption) ?restoc12
    case hyoc12 => (intro w hSw; (try dsimp only at hSw); go_simp; try with_reducible rfl)
    try simp only [Act.put, List.setIfInBounds_toArray, List.set_cons_zero, List.set_cons_succ]
    refine wpAnyH_done (by kernel_rfl) ?_ _
    refine NoPanic.normal ?_
    have A4 := Lib.hid (((A2.out.below ((Below.refl _ W2).drew)).trans a3).trans a4)
    clear a3 a4 d3 f1 f2 d4 g1 g2 cU cN
    go_wp2_with fail
    go_ret
    exact ⟨rfl, A4.out⟩
  · refine wp_region_noPanic ?_
    refine wp_region_held_drew (S := fun W => W.cell? ⟨w1.heap.size, 1, none⟩ = some (.string (bs t.2.1)) ∧ W.cell? ⟨w1.heap.size, 2, none⟩ = some (.int .i64 (t.2.2 : Int))) (by kernel_rfl) (⟨d1, d2⟩) (fun hHeld => ?_)
    refine wpAnyH_take (i := 0) (v := ?vod1) (by simp only [List.getElem?_toArray, List.getElem?_cons_zero]; rfl) (by kernel_rfl) (by kernel_rfl) (by kernel_rfl) (fun _ _ _ h => h) (Or.inl ⟨by rfl, ?hyod1⟩) (by assumption) ?restod1
    case hyod1 => (intro w hSw; (try dsimp only at hSw); go_simp; try with_reducible rfl)
    try simp only [Act.put, List.setIfInBounds_toArray, List.set_cons_zero, List.set_cons_succ]
    refine wpAnyH_take (i := 1) (v := ?vod2) (by simp only [List.getElem?_toArray, List.getElem?_cons_zero, List.getElem?_cons_succ]; rfl) (by kernel_rfl) (by kernel_rfl) (by kernel_rfl) (fun _ _ _ h => h) (Or.inl ⟨by rfl, ?hyod2⟩) (by assumption) ?restod2
    case hyod2 => (intro w hSw; (try dsimp only at hSw); go_simp; try with_reducible rfl)
    try simp only [Act.put, List.setIfInBounds_toArray, List.set_cons_zero, List.set_cons_succ]
    refine wpAnyH_take (i := 2) (v := ?vod3) (by simp only [List.getElem?_toArray, List.getElem?_cons_zero, List.getElem?_cons_succ]; rfl) (by kernel_rfl) (by kernel_rfl) (by kernel_rfl) (fun _ _ _ h => h) (Or.inl ⟨by rfl, ?hyod3⟩) (by assumption) ?restod3
    case hyod3 => (intro w hSw; (try dsimp only at hSw); go_simp; try with_reducible rfl)
    try simp only [Act.put, List.setIfInBounds_toArray, List.set_cons_zero, List.set_cons_succ]
    refine wpAnyH_take (i := 3) (v := ?vod4) (by simp only [List.getElem?_toArray, List.getElem?_cons_zero, List.getElem?_cons_succ]; rfl) (by kernel_rfl) (by kernel_rfl) (by kernel_rfl) (fun _ _ _ h => h) (Or.inl ⟨by rfl, ?hyod4⟩) (by assumption) ?restod4
    case hyod4 => (intro w hSw; (try dsimp only at hSw); go_simp; try with_reducible rfl)
    try simp only [Act.put, List.setIfInBounds_toArray, List.set_cons_zero, List.set_cons_succ]
    refine wpAnyH_take (i := 4) (v := ?vod5) (by simp only [List.getElem?_toArray, List.getElem?_cons_zero, List.getElem?_cons_succ]; rfl) (by kernel_rfl) (by kernel_rfl) (by kernel_rfl) (fun _ _ _ h => h) (Or.inl ⟨by rfl, ?hyod5⟩) (by assumption) ?restod5
    case hyod5 => (intro w hSw; (try dsimp only at hSw); go_simp; try with_reducible rfl)
    try simp only [Act.put, List.setIfInBounds_toArray, List.set_cons_zero, List.set_cons_succ]
    refine wpAnyH_take (i := 5) (v := ?vod6) (by simp only [List.getElem?_toArray, List.getElem?_cons_zero, List.getElem?_cons_succ]; rfl) (by kernel_rfl) (by kernel_rfl) (by kernel_rfl) (fun _ _ _ h => h) (Or.inl ⟨by rfl, ?hyod6⟩) (by assumption) ?restod6
    case hyod6 => (intro w hSw; (try dsimp only at hSw); go_simp; try with_reducible rfl)
    try simp only [Act.put, List.setIfInBounds_toArray, List.set_cons_zero, List.set_cons_succ]
    refine wpAnyH_take (i := 6) (v := ?vod7) (by simp only [List.getElem?_toArray, List.getElem?_cons_zero, List.getElem?_cons_succ]; rfl) (by kernel_rfl) (by kernel_rfl) (by kernel_rfl) (fun _ _ _ h => h) (Or.inl ⟨by rfl, ?hyod7⟩) (by assumption) ?restod7
    case hyod7 => (intro w hSw; (try dsimp only at hSw); go_simp; try with_reducible rfl)
    try simp only [Act.put, List.setIfInBounds_toArray, List.set_cons_zero, List.set_cons_succ]
    refine wpAnyH_ready (rs := [7]) (by kernel_rfl) (by simp) ?_
    refine AllReadyH.cons (by simp only [List.getElem?_toArray, List.getElem?_cons_zero, List.getElem?_cons_succ]; rfl) (fun K hK => ?stepod8) AllReadyH.nil
    go_simp; refine (cU _ (by exact A2.out.ps.below (Below.refl _ _).drew)).mono ?_; rintro e w3 ⟨rfl, a3⟩; have d3 : w3.heap[w1.heap.size]? = W2.heap[w1.heap.size]? := a3.kt.block (w := W2.drew) hx2 m2; have f1 := (World.cell?_of_block (a := ⟨w1.heap.size, 1, none⟩) d3).trans d1; have f2 := (World.cell?_of_block (a := ⟨w1.heap.size, 2, none⟩) d3).trans d2; have l3 : w1.heap.size < w3.heap.size := Nat.lt_of_lt_of_le hx2 a3.kt.1
    go_wp2_with fail
    refine hK.out _ _ ?hSod8 (fun hHeld => ?_)
    case hSod8 => exact ⟨f1, f2⟩
    clear hK K
    try simp only [Act.put, List.setIfInBounds_toArray, List.set_cons_zero, List.set_cons_succ]
    refine wpAnyH_ready (rs := [8]) (by kernel_rfl) (by simp) ?_
    refine AllReadyH.cons (by simp only [List.getElem?_toArray, List.getElem?_cons_zero, List.getElem?_cons_succ]; rfl) (fun K hK => ?stepod9) AllReadyH.nil
    go_simp
    refine hK.out _ _ ?hSod9 (fun hHeld => ?_)
    case hSod9 => exact ⟨(((Below.refl _ w3).alloc (Nat.le_refl _) _).cell (p := ⟨w1.heap.size, 1, none⟩) l3).trans f1, (((Below.refl _ w3).alloc (Nat.le_refl _) _).cell (p := ⟨w1.heap.size, 2, none⟩) l3).trans f2⟩
    clear hK K
    try simp only [Act.put, List.setIfInBounds_toArray, List.set_cons_zero, List.set_cons_succ]
    refine wpAnyH_take (i := 9) (v := ?vod10) (by simp only [List.getElem?_toArray, List.getElem?_cons_zero, List.getElem?_cons_succ]; rfl) (by kernel_rfl) (by kernel_rfl) (by kernel_rfl) (fun _ _ _ h => h) (Or.inl ⟨by rfl, ?hyod10⟩) (by assumption) ?restod10
    case hyod10 => (intro w hSw; (try dsimp only at hSw); go_simp; try with_reducible rfl)
    try simp only [Act.put, List.setIfInBounds_toArray, List.set_cons_zero, List.set_cons_succ]
    refine wpAnyH_ready (rs := [10]) (by kernel_rfl) (by simp) ?_
    refine AllReadyH.cons (by simp only [List.getElem?_toArray, List.getElem?_cons_zero, List.getElem?_cons_succ]; rfl) (fun K hK => ?stepod11) AllReadyH.nil
    go_simp; go_at_call 114; refine (cN _ (by exact a3.ps)).mono ?_; rintro e w4 ⟨rfl, a4⟩; have d4 : w4.heap[w1.heap.size]? = w3.heap[w1.heap.size]? := a4.kt.block l3 (a3.kt.2 w1.heap.size hx2 m2).2; have g1 := (World.cell?_of_block (a := ⟨w1.heap.size, 1, none⟩) d4).trans f1; have g2 := (World.cell?_of_block (a := ⟨w1.heap.size, 2, none⟩) d4).trans f2
    go_wp2_with fail
    refine hK.out _ _ ?hSod11 (fun hHeld => ?_)
    case hSod11 => exact ⟨g1, g2⟩
    clear hK K
    try simp only [Act.put, List.setIfInBounds_toArray, List.set_cons_zero, List.set_cons_succ]
    refine wpAnyH_take (i := 11) (v := ?vod12) (by simp only [List.getElem?_toArray, List.getElem?_cons_zero, List.getElem?_cons_succ]; rfl) (by kernel_rfl) (by kernel_rfl) (by kernel_rfl) (fun _ _ _ h => h) (Or.inl ⟨by rfl, ?hyod12⟩) (by assumption) ?restod12
    case hyod12 => (intro w hSw; (try dsimp only at hSw); go_simp; try with_reducible rfl)
    try simp only [Act.put, List.setIfInBounds_toArray, List.set_cons_zero, List.set_cons_succ]
    refine wpAnyH_done (by kernel_rfl) ?_ _
    refine NoPanic.normal ?_
    have A4 := Lib.hid (((A2.out.below ((Below.refl _ W2).drew)).trans a3).trans a4)
    clear a3 a4 d3 f1 f2 d4 g1 g2 cU cN
    go_wp2_with fail
    go_ret
    exact ⟨rfl, A4.out⟩
end Go.Proofs.YtidmeodmkcomlaaGreatDoor

namespace Go.Proofs.YtidmeodmkcomlaaGreatDoor
open Go Go.Proofs Go.RowKit

set_option maxRecDepth 100000 in
set_option maxHeartbeats 8000000 in
theorem row_139 {ts : List Tk} (hT : TsOk ts) (P : St → PR) (hP : Rule ts 139 P) (hpr : Prog ts P) (sg : List (List UInt8)) (n : Nat) (hn : sg.length = n) (hb : n ≤ 70000) {B : PE} {w : World} {s : St} {i : Nat} {s' : St} (hBts : B.ts = ts) (h : PS B w s) (hk : s.k < ts.length) (hM : rowM ts P sg s = .ok i s')
    (sb : Nat) (cs : Array Value) (hsb : Blk w sb 9 cs) (hm : ¬ Mu B w sb) (hcs : cs = (sg.map fun x => Value.string (bs x)).toArray) :
    Calls Tryz.prog 138 #[B.ptr, .func (.func 139) #[B.ptr] #[], .slice (some ⟨sb, 0, none⟩) n n] w fun e w' => e = .returned (.int .i64 (i : Nat)) ∧ Aft B w s' w' := by
  unfold rowM at hM
  obtain ⟨i0, s0, hA, hL⟩ := PR.bind_ok hM
  obtain ⟨hk0, cA⟩ := hP B w s i0 s0 hBts h hk hA
  have HL := Lib.hid hL
  have HB := Lib.hid hBts
  have HP0 := Lib.hid hP
  have HPR := Lib.hid hpr
  have HSB := Lib.hid hsb
  have HCS := Lib.hid hcs
  have HN := Lib.hid hn
  have hlsb := hsb.lt
  clear hL hM hA h hP hpr hsb hcs hn
  go_enter Tryz.func138, Tryz.ntmps138
  go_wp2_with fail
  with_reducible refine cA.mono ?_
  rintro e w1 ⟨rfl, a1⟩
  have A1 := Lib.hid a1
  clear a1 cA
  go_wp2_with fail
  go_loopw [7] (fun l wr => ∃ (i1 : Nat) (s1 : St) (f : Nat), l = .int .i64 (i1 : Int) ∧ Hid (Aft B w s1 wr) ∧ Hid (s1.k < ts.length) ∧ Hid (rowL ts P sg f i1 s1 = .ok i s')) (fun _ wr => ts.length - kAt B wr)
  case atStart => exact ⟨i0, s0, _, rfl, A1, Lib.hid hk0, HL⟩
  case round =>
    obtain ⟨i1, s1, f, rfl, HA, HK, HP⟩ := hrel
    have hK := HK.out
    have hP := HP.out
    have hkA := HA.out.ps.kAt
    cases f with
    | zero => cases hP
    | succ f =>
      unfold rowL at hP
      have cS : Calls Tryz.prog 47 #[B.ptr, .slice (some ⟨sb, 0, none⟩) n n] wr fun e w' => e = .returned (.bool (standsB (tkA ts s1.k) sg)) ∧ Below wr.heap.size wr w' := by
        have hX : Blk wr sb 9 cs := (HA.out.kt.block hlsb hm).trans HSB.out
        have := stands_any HA.out.ps (by rw [HB.out]; exact hK) sb n n sg HN.out hb hX.lt (fun j x hx => by
          rw [hX.cell j, HCS.out]
          simp [hx])
        rwa [HB.out] at this
      by_cases hs : standsB (tkA ts s1.k) sg = true
      · rw [if_pos hs] at hP
        rw [hs] at cS
        obtain ⟨i2, s2, e1, e2⟩ := PR.bind_ok hP
        have hq := op_prog hT HPR.out hK (stands_ne hs) e1
        have cO := fun (W : World) (p : PS B W s1) => op_any hT 139 (.inr (.inl rfl)) P HP0.out HB.out p hK (stands_ne hs) e1
        have E2 := Lib.hid e2
        have K2 := Lib.hid hq
        clear hP e1 e2 hs hK hq
        go_wp2_with fail
        with_reducible refine cS.mono ?_
        rintro e w2 ⟨rfl, hb2⟩
        have a2 := HA.out.below hb2
        go_wp2_with fail
        with_reducible refine (cO w2 a2.ps).mono ?_
        rintro e w3 ⟨rfl, a3⟩
        have A3 := Lib.hid (a2.trans a3)
        clear a2 a3 hb2 cS cO
        go_wp2_with fail
        exact ⟨⟨_, _, f, rfl, A3, Lib.hid K2.out.2, E2⟩, by
          have q := K2.out
          rw [A3.out.ps.kAt, hkA]
          omega⟩
      · rw [if_neg hs] at hP
        have hs2 : standsB (tkA ts s1.k) sg = false := by simpa using hs
        rw [hs2] at cS
        injection hP with e1 e2
        subst e1
        subst e2
        clear hs hs2
        go_wp2_with fail
        with_reducible refine cS.mono ?_
        rintro e w2 ⟨rfl, hb2⟩
        have A2 := Lib.hid (HA.out.below hb2)
        clear cS hb2
        go_wp2_with fail
        go_ret
        exact ⟨rfl, A2.out⟩

set_option maxRecDepth 100000 in
set_option maxHeartbeats 8000000 in
theorem row_146 {ts : List Tk} (hT : TsOk ts) (P : St → PR) (hP : Rule ts 146 P) (hpr : Prog ts P) (sg : List (List UInt8)) (n : Nat) (hn : sg.length = n) (hb : n ≤ 70000) {B : PE} {w : World} {s : St} {i : Nat} {s' : St} (hBts : B.ts = ts) (h : PS B w s) (hk : s.k < ts.length) (hM : rowM ts P sg s = .ok i s')
    (sb : Nat) (cs : Array Value) (hsb : Blk w sb 9 cs) (hm : ¬ Mu B w sb) (hcs : cs = (sg.map fun x => Value.string (bs x)).toArray) :
    Calls Tryz.prog 138 #[B.ptr, .func (.func 146) #[B.ptr] #[], .slice (some ⟨sb, 0, none⟩) n n] w fun e w' => e = .returned (.int .i64 (i : Nat)) ∧ Aft B w s' w' := by
  unfold rowM at hM
  obtain ⟨i0, s0, hA, hL⟩ := PR.bind_ok hM
  obtain ⟨hk0, cA⟩ := hP B w s i0 s0 hBts h hk hA
  have HL := Lib.hid hL
  have HB := Lib.hid hBts
  have HP0 := Lib.hid hP
  have HPR := Lib.hid hpr
  have HSB := Lib.hid hsb
  have HCS := Lib.hid hcs
  have HN := Lib.hid hn
  have hlsb := hsb.lt
  clear hL hM hA h hP hpr hsb hcs hn
  go_enter Tryz.func138, Tryz.ntmps138
  go_wp2_with fail
  with_reducible refine cA.mono ?_
  rintro e w1 ⟨rfl, a1⟩
  have A1 := Lib.hid a1
  clear a1 cA
  go_wp2_with fail
  go_loopw [7] (fun l wr => ∃ (i1 : Nat) (s1 : St) (f : Nat), l = .int .i64 (i1 : Int) ∧ Hid (Aft B w s1 wr) ∧ Hid (s1.k < ts.length) ∧ Hid (rowL ts P sg f i1 s1 = .ok i s')) (fun _ wr => ts.length - kAt B wr)
  case atStart => exact ⟨i0, s0, _, rfl, A1, Lib.hid hk0, HL⟩
  case round =>
    obtain ⟨i1, s1, f, rfl, HA, HK, HP⟩ := hrel
    have hK := HK.out
    have hP := HP.out
    have hkA := HA.out.ps.kAt
    cases f with
    | zero => cases hP
    | succ f =>
      unfold rowL at hP
      have cS : Calls Tryz.prog 47 #[B.ptr, .slice (some ⟨sb, 0, none⟩) n n] wr fun e w' => e = .returned (.bool (standsB (tkA ts s1.k) sg)) ∧ Below wr.heap.size wr w' := by
        have hX : Blk wr sb 9 cs := (HA.out.kt.block hlsb hm).trans HSB.out
        have := stands_any HA.out.ps (by rw [HB.out]; exact hK) sb n n sg HN.out hb hX.lt (fun j x hx => by
          rw [hX.cell j, HCS.out]
          simp [hx])
        rwa [HB.out] at this
      by_cases hs : standsB (tkA ts s1.k) sg = true
      · rw [if_pos hs] at hP
        rw [hs] at cS
        obtain ⟨i2, s2, e1, e2⟩ := PR.bind_ok hP
        have hq := op_prog hT HPR.out hK (stands_ne hs) e1
        have cO := fun (W : World) (p : PS B W s1) => op_any hT 146 (.inr (.inr (.inl rfl))) P HP0.out HB.out p hK (stands_ne hs) e1
        have E2 := Lib.hid e2
        have K2 := Lib.hid hq
        clear hP e1 e2 hs hK hq
        go_wp2_with fail
        with_reducible refine cS.mono ?_
        rintro e w2 ⟨rfl, hb2⟩
        have a2 := HA.out.below hb2
        go_wp2_with fail
        with_reducible refine (cO w2 a2.ps).mono ?_
        rintro e w3 ⟨rfl, a3⟩
        have A3 := Lib.hid (a2.trans a3)
        clear a2 a3 hb2 cS cO
        go_wp2_with fail
        exact ⟨⟨_, _, f, rfl, A3, Lib.hid K2.out.2, E2⟩, by
          have q := K2.out
          rw [A3.out.ps.kAt, hkA]
          omega⟩
      · rw [if_neg hs] at hP
        have hs2 : standsB (tkA ts s1.k) sg = false := by simpa using hs
        rw [hs2] at cS
        injection hP with e1 e2
        subst e1
        subst e2
        clear hs hs2
        go_wp2_with fail
        with_reducible refine cS.mono ?_
        rintro e w2 ⟨rfl, hb2⟩
        have A2 := Lib.hid (HA.out.below hb2)
        clear cS hb2
        go_wp2_with fail
        go_ret
        exact ⟨rfl, A2.out⟩

set_option maxRecDepth 100000 in
set_option maxHeartbeats 8000000 in
theorem row_155 {ts : List Tk} (hT : TsOk ts) (P : St → PR) (hP : Rule ts 155 P) (hpr : Prog ts P) (sg : List (List UInt8)) (n : Nat) (hn : sg.length = n) (hb : n ≤ 70000) {B : PE} {w : World} {s : St} {i : Nat} {s' : St} (hBts : B.ts = ts) (h : PS B w s) (hk : s.k < ts.length) (hM : rowM ts P sg s = .ok i s')
    (sb : Nat) (cs : Array Value) (hsb : Blk w sb 9 cs) (hm : ¬ Mu B w sb) (hcs : cs = (sg.map fun x => Value.string (bs x)).toArray) :
    Calls Tryz.prog 138 #[B.ptr, .func (.func 155) #[B.ptr] #[], .slice (some ⟨sb, 0, none⟩) n n] w fun e w' => e = .returned (.int .i64 (i : Nat)) ∧ Aft B w s' w' := by
  unfold rowM at hM
  obtain ⟨i0, s0, hA, hL⟩ := PR.bind_ok hM
  obtain ⟨hk0, cA⟩ := hP B w s i0 s0 hBts h hk hA
  have HL := Lib.hid hL
  have HB := Lib.hid hBts
  have HP0 := Lib.hid hP
  have HPR := Lib.hid hpr
  have HSB := Lib.hid hsb
  have HCS := Lib.hid hcs
  have HN := Lib.hid hn
  have hlsb := hsb.lt
  clear hL hM hA h hP hpr hsb hcs hn
  go_enter Tryz.func138, Tryz.ntmps138
  go_wp2_with fail
  with_reducible refine cA.mono ?_
  rintro e w1 ⟨rfl, a1⟩
  have A1 := Lib.hid a1
  clear a1 cA
  go_wp2_with fail
  go_loopw [7] (fun l wr => ∃ (i1 : Nat) (s1 : St) (f : Nat), l = .int .i64 (i1 : Int) ∧ Hid (Aft B w s1 wr) ∧ Hid (s1.k < ts.length) ∧ Hid (rowL ts P sg f i1 s1 = .ok i s')) (fun _ wr => ts.length - kAt B wr)
  case atStart => exact ⟨i0, s0, _, rfl, A1, Lib.hid hk0, HL⟩
  case round =>
    obtain ⟨i1, s1, f, rfl, HA, HK, HP⟩ := hrel
    have hK := HK.out
    have hP := HP.out
    have hkA := HA.out.ps.kAt
    cases f with
    | zero => cases hP
    | succ f =>
      unfold rowL at hP
      have cS : Calls Tryz.prog 47 #[B.ptr, .slice (some ⟨sb, 0, none⟩) n n] wr fun e w' => e = .returned (.bool (standsB (tkA ts s1.k) sg)) ∧ Below wr.heap.size wr w' := by
        have hX : Blk wr sb 9 cs := (HA.out.kt.block hlsb hm).trans HSB.out
        have := stands_any HA.out.ps (by rw [HB.out]; exact hK) sb n n sg HN.out hb hX.lt (fun j x hx => by
          rw [hX.cell j, HCS.out]
          simp [hx])
        rwa [HB.out] at this
      by_cases hs : standsB (tkA ts s1.k) sg = true
      · rw [if_pos hs] at hP
        rw [hs] at cS
        obtain ⟨i2, s2, e1, e2⟩ := PR.bind_ok hP
        have hq := op_prog hT HPR.out hK (stands_ne hs) e1
        have cO := fun (W : World) (p : PS B W s1) => op_any hT 155 (.inr (.inr (.inr rfl))) P HP0.out HB.out p hK (stands_ne hs) e1
        have E2 := Lib.hid e2
        have K2 := Lib.hid hq
        clear hP e1 e2 hs hK hq
        go_wp2_with fail
        with_reducible refine cS.mono ?_
        rintro e w2 ⟨rfl, hb2⟩
        have a2 := HA.out.below hb2
        go_wp2_with fail
        with_reducible refine (cO w2 a2.ps).mono ?_
        rintro e w3 ⟨rfl, a3⟩
        have A3 := Lib.hid (a2.trans a3)
        clear a2 a3 hb2 cS cO
        go_wp2_with fail
        exact ⟨⟨_, _, f, rfl, A3, Lib.hid K2.out.2, E2⟩, by
          have q := K2.out
          rw [A3.out.ps.kAt, hkA]
          omega⟩
      · rw [if_neg hs] at hP
        have hs2 : standsB (tkA ts s1.k) sg = false := by simpa using hs
        rw [hs2] at cS
        injection hP with e1 e2
        subst e1
        subst e2
        clear hs hs2
        go_wp2_with fail
        with_reducible refine cS.mono ?_
        rintro e w2 ⟨rfl, hb2⟩
        have A2 := Lib.hid (HA.out.below hb2)
        clear cS hb2
        go_wp2_with fail
        go_ret
        exact ⟨rfl, A2.out⟩

set_option maxHeartbeats 4000000 in
theorem product_any {ts : List Tk} (hT : TsOk ts) : Rule ts 146 (productM ts) := by
  intro B w s i s' hBts h hk hM
  refine ⟨(product_prog hT _ _ _ hk hM).2, ?_⟩
  unfold productM at hM
  obtain ⟨W0, hW0⟩ : ∃ W0, w.alloc (.cells #[.string ⟨#[42]⟩, .string ⟨#[47]⟩, .string ⟨#[42, 46]⟩, .string ⟨#[47, 46]⟩] 9) = W0 := ⟨_, rfl⟩
  have hB0 : Below w.heap.size w W0 := by rw [← hW0]; exact (Below.refl _ _).alloc (Nat.le_refl _) _
  have hX0 : Blk W0 w.heap.size 9 #[.string ⟨#[42]⟩, .string ⟨#[47]⟩, .string ⟨#[42, 46]⟩, .string ⟨#[47, 46]⟩] := by rw [← hW0]; exact Blk.new w 9 _
  have cR := row_155 hT _ (apply_any hT) (apply_prog hT) [[42], [47], [42, 46], [47, 46]] 4 rfl (by decide) hBts (h.below hB0) hk hM w.heap.size _ hX0 (h.fresh hB0 (Nat.le_refl _)) rfl
  have hmf : ∀ (fn : Fn) (first cap : Array Value) (w : World), (Instr.makeFunc fn first cap).run Tryz.prog w = .ok (.func fn first cap) w := fun _ _ _ _ => rfl
  have A0 := Lib.hid (h.aft hB0)
  clear hM h hX0 hB0
  go_enter Tryz.func146, Tryz.ntmps146
  go_wp2_with fail
  with_reducible refine cR.mono ?_
  rintro e w1 ⟨rfl, a1⟩
  have A1 := Lib.hid (A0.out.trans a1)
  clear a1 cR
  go_wp2_with fail
  go_ret
  exact ⟨rfl, A1.out⟩

set_option maxHeartbeats 4000000 in
theorem sum_any {ts : List Tk} (hT : TsOk ts) : Rule ts 139 (sumM ts) := by
  intro B w s i s' hBts h hk hM
  refine ⟨(sum_prog hT _ _ _ hk hM).2, ?_⟩
  unfold sumM at hM
  obtain ⟨W0, hW0⟩ : ∃ W0, w.alloc (.cells #[.string ⟨#[43]⟩, .string ⟨#[45]⟩, .string ⟨#[43, 46]⟩, .string ⟨#[45, 46]⟩] 9) = W0 := ⟨_, rfl⟩
  have hB0 : Below w.heap.size w W0 := by rw [← hW0]; exact (Below.refl _ _).alloc (Nat.le_refl _) _
  have hX0 : Blk W0 w.heap.size 9 #[.string ⟨#[43]⟩, .string ⟨#[45]⟩, .string ⟨#[43, 46]⟩, .string ⟨#[45, 46]⟩] := by rw [← hW0]; exact Blk.new w 9 _
  have cR := row_146 hT _ (product_any hT) (product_prog hT) [[43], [45], [43, 46], [45, 46]] 4 rfl (by decide) hBts (h.below hB0) hk hM w.heap.size _ hX0 (h.fresh hB0 (Nat.le_refl _)) rfl
  have hmf : ∀ (fn : Fn) (first cap : Array Value) (w : World), (Instr.makeFunc fn first cap).run Tryz.prog w = .ok (.func fn first cap) w := fun _ _ _ _ => rfl
  have A0 := Lib.hid (h.aft hB0)
  clear hM h hX0 hB0
  go_enter Tryz.func139, Tryz.ntmps139
  go_wp2_with fail
  with_reducible refine cR.mono ?_
  rintro e w1 ⟨rfl, a1⟩
  have A1 := Lib.hid (A0.out.trans a1)
  clear a1 cR
  go_wp2_with fail
  go_ret
  exact ⟨rfl, A1.out⟩

set_option maxHeartbeats 4000000 in
theorem join_any {ts : List Tk} (hT : TsOk ts) : Rule ts 116 (joinM ts) := by
  intro B w s i s' hBts h hk hM
  refine ⟨(join_prog hT _ _ _ hk hM).2, ?_⟩
  unfold joinM at hM
  obtain ⟨W0, hW0⟩ : ∃ W0, w.alloc (.cells #[.string ⟨#[94]⟩] 9) = W0 := ⟨_, rfl⟩
  have hB0 : Below w.heap.size w W0 := by rw [← hW0]; exact (Below.refl _ _).alloc (Nat.le_refl _) _
  have hX0 : Blk W0 w.heap.size 9 #[.string ⟨#[94]⟩] := by rw [← hW0]; exact Blk.new w 9 _
  have cR := row_139 hT _ (sum_any hT) (sum_prog hT) [[94]] 1 rfl (by decide) hBts (h.below hB0) hk hM w.heap.size _ hX0 (h.fresh hB0 (Nat.le_refl _)) rfl
  have hmf : ∀ (fn : Fn) (first cap : Array Value) (w : World), (Instr.makeFunc fn first cap).run Tryz.prog w = .ok (.func fn first cap) w := fun _ _ _ _ => rfl
  have A0 := Lib.hid (h.aft hB0)
  clear hM h hX0 hB0
  go_enter Tryz.func116, Tryz.ntmps116
  go_wp2_with fail
  with_reducible refine cR.mono ?_
  rintro e w1 ⟨rfl, a1⟩
  have A1 := Lib.hid (A0.out.trans a1)
  clear a1 cR
  go_wp2_with fail
  go_ret
  exact ⟨rfl, A1.out⟩
end Go.Proofs.YtidmeodmkcomlaaGreatDoor

namespace Go.Proofs.YtidmeodmkcomlaaGreatDoor
open Go Go.Proofs Go.RowKit

/-- A rule closes what it opens. -/
def OpEq (M : St → PR) : Prop := ∀ (s : St) (i : Nat) (s' : St), M s = .ok i s' → s'.op = s.op
def OpEqL (L : Nat → Nat → St → PR) : Prop := ∀ (f i1 : Nat) (s : St) (i : Nat) (s' : St), L f i1 s = .ok i s' → s'.op = s.op
section
variable {ts : List Tk}
theorem opEq_bind {M : St → PR} {L : Nat → Nat → St → PR} {f : Nat} (hM : OpEq M) (hL : OpEqL L) : OpEq (fun s => (M s).bind (L f)) := by
  intro s i s' h
  obtain ⟨i1, s1, e1, e2⟩ := PR.bind_ok h
  exact (hL _ _ _ _ _ e2).trans (hM _ _ _ e1)
theorem atom_op : OpEq (atomM ts) := by
  intro s i s' h
  unfold atomM at h
  split at h
  · cases h
  · split at h
    · cases h
    · obtain ⟨_, _, rfl⟩ := newT_ok h
      rfl
theorem post_opL : OpEqL (postL ts) := by
  intro f
  induction f with
  | zero => intro i1 s i s' e; cases e
  | succ f ih =>
    intro i1 s i s' e
    unfold postL at e
    split at e
    · split at e
      · obtain ⟨i2, s2, e1, e2⟩ := PR.bind_ok e
        obtain ⟨_, _, rfl⟩ := newT_ok e1
        have a := ih _ _ _ _ e2
        exact a
      · cases e
    · injection e with _ e
      rw [← e]
theorem post_op : OpEq (postM ts) := opEq_bind atom_op post_opL
theorem unit_op : OpEq (unitM ts) := by
  intro s i s' h
  unfold unitM at h
  split at h
  · cases h
  · exact post_op _ _ _ h
theorem apply_opL : OpEqL (applyL ts) := by
  intro f
  induction f with
  | zero => intro i1 s i s' e; cases e
  | succ f ih =>
    intro i1 s i s' e
    unfold applyL at e
    split at e
    · obtain ⟨i2, s2, e1, e2⟩ := PR.bind_ok e
      obtain ⟨i3, s3, e3, e4⟩ := PR.bind_ok e2
      obtain ⟨_, _, rfl⟩ := newT_ok e3
      have a := ih _ _ _ _ e4
      have b := unit_op _ _ _ e1
      exact Eq.trans a b
    · injection e with _ e
      rw [← e]
theorem apply_op : OpEq (applyM ts) := opEq_bind unit_op apply_opL
theorem row_opL {P : St → PR} (hP : OpEq P) (sg : List (List UInt8)) : OpEqL (rowL ts P sg) := by
  intro f
  induction f with
  | zero => intro i1 s i s' e; cases e
  | succ f ih =>
    intro i1 s i s' e
    unfold rowL at e
    split at e
    · obtain ⟨i2, s2, e1, e2⟩ := PR.bind_ok e
      unfold opM at e1
      obtain ⟨i3, s3, e3, e4⟩ := PR.bind_ok e1
      obtain ⟨_, _, rfl⟩ := newT_ok e4
      have a := ih _ _ _ _ e2
      have b := hP _ _ _ e3
      exact Eq.trans a b
    · injection e with _ e
      rw [← e]
theorem row_op {P : St → PR} (hP : OpEq P) (sg : List (List UInt8)) : OpEq (rowM ts P sg) := opEq_bind hP (row_opL hP sg)
theorem compare_op : OpEq (compareM ts) := by
  intro s i s' h
  unfold compareM at h
  obtain ⟨i1, s1, e1, e2⟩ := PR.bind_ok h
  split at e2
  · cases e2
  · injection e2 with e2 e3
    rw [← e3]
    exact row_op (row_op (row_op apply_op _) _) _ _ _ _ e1
end

set_option maxHeartbeats 4000000 in
theorem compare_any {ts : List Tk} (hT : TsOk ts) : Rule ts 77 (compareM ts) := by
  intro B w s i s' hBts h hk hM
  refine ⟨(compare_prog hT _ _ _ hk hM).2, ?_⟩
  unfold compareM at hM
  obtain ⟨i1, s1, e1, e2⟩ := PR.bind_ok hM
  by_cases hs : standsB (tkA ts s1.k) [[61, 61], [60], [60, 46]] = true
  · rw [if_pos hs] at e2; cases e2
  rw [if_neg hs] at e2
  injection e2 with e2 e3
  subst e2
  subst e3
  obtain ⟨hk1, cJ⟩ := join_any hT B w s i1 s1 hBts h hk e1
  have hs2 : standsB (tkA ts s1.k) [[61, 61], [60], [60, 46]] = false := by simpa using hs
  have cS : ∀ W, PS B W s1 → Calls Tryz.prog 47 #[B.ptr, .slice (some ⟨W.heap.size, 0, none⟩) 3 3] (W.alloc (.cells #[.string ⟨#[61, 61]⟩, .string ⟨#[60]⟩, .string ⟨#[60, 46]⟩] 9)) fun e w' => e = .returned (.bool false) ∧ Below W.heap.size W w' := fun W p => by
    have := stands_new p (by rw [hBts]; exact hk1) [[61, 61], [60], [60, 46]] 3 rfl (by decide) #[.string ⟨#[61, 61]⟩, .string ⟨#[60]⟩, .string ⟨#[60, 46]⟩] rfl
    rwa [hBts, hs2] at this
  clear hs hs2 hM e1 h
  go_enter Tryz.func77, Tryz.ntmps77
  go_wp2_with fail
  with_reducible refine cJ.mono ?_
  rintro e w1 ⟨rfl, a1⟩
  go_wp2_with fail
  with_reducible refine (cS w1 a1.ps).mono ?_
  rintro e w2 ⟨rfl, hb2⟩
  have A2 := Lib.hid (a1.below hb2)
  clear a1 hb2 cS cJ
  go_wp2_with fail
  go_ret
  exact ⟨rfl, A2.out⟩

set_option maxRecDepth 100000 in
set_option maxHeartbeats 8000000 in
theorem termR_any {ts : List Tk} (hT : TsOk ts) : Rule ts 43 (termM ts) := by
  intro B w s i s' hBts h hk hM
  unfold termM at hM
  by_cases h256 : s.op = 256
  · rw [if_pos h256] at hM; cases hM
  rw [if_neg h256] at hM
  by_cases h78 : (tkA ts s.k).1 = 7 ∨ (tkA ts s.k).1 = 8
  · rw [if_pos h78] at hM; cases hM
  rw [if_neg h78] at hM
  obtain ⟨i1, s1, e1, e2⟩ := PR.bind_ok hM
  injection e2 with e2 e3
  subst e2
  subst e3
  have hop := compare_op _ _ _ e1
  have hpr := compare_prog hT s.up _ _ hk e1
  refine ⟨hpr.2, ?_⟩
  have hs : ∀ xs, standsB (tkA B.ts s.k) xs = false := fun xs => by
    rw [hBts]
    unfold standsB
    rw [show ((tkA ts s.k).1 == 7) = false by simp; omega, show ((tkA ts s.k).1 == 8) = false by simp; omega]
    rfl
  have cB := begin_any h h256
  have cS : ∀ (x : List UInt8) W, PS B W s.up → Calls Tryz.prog 47 #[B.ptr, .slice (some ⟨W.heap.size, 0, none⟩) 1 1] (W.alloc (.cells #[.string ⟨x.toArray⟩] 9)) fun e w' => e = .returned (.bool false) ∧ Below W.heap.size W w' := fun x W p => by
    have := stands_new p (by rw [hBts]; exact hk) [x] 1 rfl (by decide) #[.string ⟨x.toArray⟩] rfl
    rw [show (tkA B.ts s.up.k) = tkA B.ts s.k from rfl, hs] at this
    exact this
  have cC := fun (W : World) (p : PS B W s.up) => (compare_any hT B W s.up i1 s1 hBts p hk e1).2
  have hop1 : 1 ≤ s1.op := by rw [hop]; exact Nat.le_add_left 1 _
  clear hs h78 h256 hM e1 hop hpr h
  go_enter_defers Tryz.func43, Tryz.ntmps43
  go_wp2_with fail
  with_reducible refine cB.mono ?_
  rintro e w1 ⟨rfl, a1⟩
  go_wp2_with fail
  refine (cS [102, 117, 110] w1 a1.ps).mono ?_
  rintro e w2 ⟨rfl, hb2⟩
  have a2 := a1.below hb2
  go_wp2_with fail
  refine (cS [108, 101, 116] w2 a2.ps).mono ?_
  rintro e w3 ⟨rfl, hb3⟩
  have a3 := a2.below hb3
  go_wp2_with fail
  refine (cS [105, 102] w3 a3.ps).mono ?_
  rintro e w4 ⟨rfl, hb4⟩
  have a4 := a3.below hb4
  go_wp2_with fail
  refine (cS [99, 97, 115, 101] w4 a4.ps).mono ?_
  rintro e w5 ⟨rfl, hb5⟩
  have a5 := a4.below hb5
  go_wp2_with fail
  with_reducible refine (cC w5 a5.ps).mono ?_
  rintro e w6 ⟨rfl, a6⟩
  have A6 := Lib.hid (a5.trans a6)
  clear a1 a2 a3 a4 a5 a6 hb2 hb3 hb4 hb5 cS cC cB
  go_wp2_with fail
  refine leaves_cons (f := 45) (args := #[B.ptr]) (by simp) (by simp [go_sem]) ?_
  refine (end_d A6.out.ps hop1 .returning).mono ?_
  rintro e u' w7 ⟨rfl, rfl, a7⟩
  refine ⟨_, results_tmp rfl _ _ _, rfl, A6.out.trans a7⟩
end Go.Proofs.YtidmeodmkcomlaaGreatDoor
