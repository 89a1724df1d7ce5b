/- Rows of signs: as many parts, which stand to the left. Terms of no bracket: the rule that reads one. Types of the word int and of arrows: the rule that reads -/
import Derived.Test.YtjbdgjbmbohfmaaGreatDoorK18
import Derived.Recover
namespace Go.Proofs.YtjbdgjbmbohfmaaGreatDoor
open Go Go.Proofs Go.RowKit
set_option maxRecDepth 100000 in
set_option maxHeartbeats 8000000 in
theorem row_139 {ts : List Tk} (hT : TsOk ts) (P : St → PR) (hP : Rule ts 265 P) (hpr : Prog ts P) (sg : List (List UInt8)) (n : Nat) (hn : sg.length = n) (hb : n ≤ 70000) {B : PE} {w : World} {s : St} {i : Nat} {s' : St} (hBts : B.ts = ts) (h : PS B w s) (hk : s.k < ts.length) (hM : rowM ts P sg s = .ok i s')
 (sb : Nat) (cs : Array Value) (hsb : Blk w sb 9 cs) (hm : ¬ Mu B w sb) (hcs : cs = (sg.map fun x => Value.string (bs x)).toArray) :
 Calls Tryz.prog 264 #[B.ptr, .func (.func 265) #[B.ptr] #[], .slice (some ⟨sb, 0, none⟩) n n] w fun e w' => e = .returned (.int .i64 (i : Nat)) ∧ Aft B w s' w' := by
 unfold rowM at hM
 obtain ⟨i0, s0, hA, hL⟩ := PR.bind_ok hM
 obtain ⟨hk0, cA⟩ := hP B w s i0 s0 hBts h hk hA
 have HL := Lib.hid hL
 have HB := Lib.hid hBts
 have HP0 := Lib.hid hP
 have HPR := Lib.hid hpr
 have HSB := Lib.hid hsb
 have HCS := Lib.hid hcs
 have HN := Lib.hid hn
 have hlsb := hsb.lt
 clear hL hM hA h hP hpr hsb hcs hn
 go_enter Tryz.func264, Tryz.ntmps264
 go_wp2_with fail
 with_reducible refine cA.mono ?_
 rintro e w1 ⟨rfl, a1⟩
 have A1 := Lib.hid a1
 clear a1 cA
 go_wp2_with fail
 go_loopw [7] (fun l wr => ∃ (i1 : Nat) (s1 : St) (f : Nat), l = .int .i64 (i1 : Int) ∧ Hid (Aft B w s1 wr) ∧ Hid (s1.k < ts.length) ∧ Hid (rowL ts P sg f i1 s1 = .ok i s')) (fun _ wr => ts.length - kAt B wr)
 case atStart => exact ⟨i0, s0, _, rfl, A1, Lib.hid hk0, HL⟩
 case round =>
  obtain ⟨i1, s1, f, rfl, HA, HK, HP⟩ := hrel
  have hK := HK.out
  have hP := HP.out
  have hkA := HA.out.ps.kAt
  cases f with
  | zero => cases hP
  | succ f =>
   unfold rowL at hP
   have cS : Calls Tryz.prog 95 #[B.ptr, .slice (some ⟨sb, 0, none⟩) n n] wr fun e w' => e = .returned (.bool (standsB (tkA ts s1.k) sg)) ∧ Below wr.heap.size wr w' := by
    have hX : Blk wr sb 9 cs := (HA.out.kt.block hlsb hm).trans HSB.out
    have := stands_any HA.out.ps (by rw [HB.out]; exact hK) sb n n sg HN.out hb hX.lt (fun j x hx => by
     rw [hX.cell j, HCS.out]
     simp [hx])
    rwa [HB.out] at this
   by_cases hs : standsB (tkA ts s1.k) sg = true
   ·rw [if_pos hs] at hP
    rw [hs] at cS
    obtain ⟨i2, s2, e1, e2⟩ := PR.bind_ok hP
    have hq := op_prog hT HPR.out hK (stands_ne hs) e1
    have cO := fun (W : World) (p : PS B W s1) => op_any hT 265 (.inr (.inl rfl)) P HP0.out HB.out p hK (stands_ne hs) e1
    have E2 := Lib.hid e2
    have K2 := Lib.hid hq
    clear hP e1 e2 hs hK hq
    go_wp2_with fail
    with_reducible refine cS.mono ?_
    rintro e w2 ⟨rfl, hb2⟩
    have a2 := HA.out.below hb2
    go_wp2_with fail
    with_reducible refine (cO w2 a2.ps).mono ?_
    rintro e w3 ⟨rfl, a3⟩
    have A3 := Lib.hid (a2.trans a3)
    clear a2 a3 hb2 cS cO
    go_wp2_with fail
    exact ⟨⟨_, _, f, rfl, A3, Lib.hid K2.out.2, E2⟩, by
     have q := K2.out
     rw [A3.out.ps.kAt, hkA]
     omega⟩
   ·rw [if_neg hs] at hP
    have hs2 : standsB (tkA ts s1.k) sg = false := by simpa using hs
    rw [hs2] at cS
    injection hP with e1 e2
    subst e1
    subst e2
    clear hs hs2
    go_wp2_with fail
    with_reducible refine cS.mono ?_
    rintro e w2 ⟨rfl, hb2⟩
    have A2 := Lib.hid (HA.out.below hb2)
    clear cS hb2
    go_wp2_with fail
    go_ret
    exact ⟨rfl, A2.out⟩

set_option maxRecDepth 100000 in
set_option maxHeartbeats 8000000 in
theorem row_146 {ts : List Tk} (hT : TsOk ts) (P : St → PR) (hP : Rule ts 290 P) (hpr : Prog ts P) (sg : List (List UInt8)) (n : Nat) (hn : sg.length = n) (hb : n ≤ 70000) {B : PE} {w : World} {s : St} {i : Nat} {s' : St} (hBts : B.ts = ts) (h : PS B w s) (hk : s.k < ts.length) (hM : rowM ts P sg s = .ok i s')
 (sb : Nat) (cs : Array Value) (hsb : Blk w sb 9 cs) (hm : ¬ Mu B w sb) (hcs : cs = (sg.map fun x => Value.string (bs x)).toArray) :
 Calls Tryz.prog 264 #[B.ptr, .func (.func 290) #[B.ptr] #[], .slice (some ⟨sb, 0, none⟩) n n] w fun e w' => e = .returned (.int .i64 (i : Nat)) ∧ Aft B w s' w' := by
 unfold rowM at hM
 obtain ⟨i0, s0, hA, hL⟩ := PR.bind_ok hM
 obtain ⟨hk0, cA⟩ := hP B w s i0 s0 hBts h hk hA
 have HL := Lib.hid hL
 have HB := Lib.hid hBts
 have HP0 := Lib.hid hP
 have HPR := Lib.hid hpr
 have HSB := Lib.hid hsb
 have HCS := Lib.hid hcs
 have HN := Lib.hid hn
 have hlsb := hsb.lt
 clear hL hM hA h hP hpr hsb hcs hn
 go_enter Tryz.func264, Tryz.ntmps264
 go_wp2_with fail
 with_reducible refine cA.mono ?_
 rintro e w1 ⟨rfl, a1⟩
 have A1 := Lib.hid a1
 clear a1 cA
 go_wp2_with fail
 go_loopw [7] (fun l wr => ∃ (i1 : Nat) (s1 : St) (f : Nat), l = .int .i64 (i1 : Int) ∧ Hid (Aft B w s1 wr) ∧ Hid (s1.k < ts.length) ∧ Hid (rowL ts P sg f i1 s1 = .ok i s')) (fun _ wr => ts.length - kAt B wr)
 case atStart => exact ⟨i0, s0, _, rfl, A1, Lib.hid hk0, HL⟩
 case round =>
  obtain ⟨i1, s1, f, rfl, HA, HK, HP⟩ := hrel
  have hK := HK.out
  have hP := HP.out
  have hkA := HA.out.ps.kAt
  cases f with
  | zero => cases hP
  | succ f =>
   unfold rowL at hP
   have cS : Calls Tryz.prog 95 #[B.ptr, .slice (some ⟨sb, 0, none⟩) n n] wr fun e w' => e = .returned (.bool (standsB (tkA ts s1.k) sg)) ∧ Below wr.heap.size wr w' := by
    have hX : Blk wr sb 9 cs := (HA.out.kt.block hlsb hm).trans HSB.out
    have := stands_any HA.out.ps (by rw [HB.out]; exact hK) sb n n sg HN.out hb hX.lt (fun j x hx => by
     rw [hX.cell j, HCS.out]
     simp [hx])
    rwa [HB.out] at this
   by_cases hs : standsB (tkA ts s1.k) sg = true
   ·rw [if_pos hs] at hP
    rw [hs] at cS
    obtain ⟨i2, s2, e1, e2⟩ := PR.bind_ok hP
    have hq := op_prog hT HPR.out hK (stands_ne hs) e1
    have cO := fun (W : World) (p : PS B W s1) => op_any hT 290 (.inr (.inr (.inl rfl))) P HP0.out HB.out p hK (stands_ne hs) e1
    have E2 := Lib.hid e2
    have K2 := Lib.hid hq
    clear hP e1 e2 hs hK hq
    go_wp2_with fail
    with_reducible refine cS.mono ?_
    rintro e w2 ⟨rfl, hb2⟩
    have a2 := HA.out.below hb2
    go_wp2_with fail
    with_reducible refine (cO w2 a2.ps).mono ?_
    rintro e w3 ⟨rfl, a3⟩
    have A3 := Lib.hid (a2.trans a3)
    clear a2 a3 hb2 cS cO
    go_wp2_with fail
    exact ⟨⟨_, _, f, rfl, A3, Lib.hid K2.out.2, E2⟩, by
     have q := K2.out
     rw [A3.out.ps.kAt, hkA]
     omega⟩
   ·rw [if_neg hs] at hP
    have hs2 : standsB (tkA ts s1.k) sg = false := by simpa using hs
    rw [hs2] at cS
    injection hP with e1 e2
    subst e1
    subst e2
    clear hs hs2
    go_wp2_with fail
    with_reducible refine cS.mono ?_
    rintro e w2 ⟨rfl, hb2⟩
    have A2 := Lib.hid (HA.out.below hb2)
    clear cS hb2
    go_wp2_with fail
    go_ret
    exact ⟨rfl, A2.out⟩

set_option maxRecDepth 100000 in
set_option maxHeartbeats 8000000 in
theorem row_155 {ts : List Tk} (hT : TsOk ts) (P : St → PR) (hP : Rule ts 306 P) (hpr : Prog ts P) (sg : List (List UInt8)) (n : Nat) (hn : sg.length = n) (hb : n ≤ 70000) {B : PE} {w : World} {s : St} {i : Nat} {s' : St} (hBts : B.ts = ts) (h : PS B w s) (hk : s.k < ts.length) (hM : rowM ts P sg s = .ok i s')
 (sb : Nat) (cs : Array Value) (hsb : Blk w sb 9 cs) (hm : ¬ Mu B w sb) (hcs : cs = (sg.map fun x => Value.string (bs x)).toArray) :
 Calls Tryz.prog 264 #[B.ptr, .func (.func 306) #[B.ptr] #[], .slice (some ⟨sb, 0, none⟩) n n] w fun e w' => e = .returned (.int .i64 (i : Nat)) ∧ Aft B w s' w' := by
 unfold rowM at hM
 obtain ⟨i0, s0, hA, hL⟩ := PR.bind_ok hM
 obtain ⟨hk0, cA⟩ := hP B w s i0 s0 hBts h hk hA
 have HL := Lib.hid hL
 have HB := Lib.hid hBts
 have HP0 := Lib.hid hP
 have HPR := Lib.hid hpr
 have HSB := Lib.hid hsb
 have HCS := Lib.hid hcs
 have HN := Lib.hid hn
 have hlsb := hsb.lt
 clear hL hM hA h hP hpr hsb hcs hn
 go_enter Tryz.func264, Tryz.ntmps264
 go_wp2_with fail
 with_reducible refine cA.mono ?_
 rintro e w1 ⟨rfl, a1⟩
 have A1 := Lib.hid a1
 clear a1 cA
 go_wp2_with fail
 go_loopw [7] (fun l wr => ∃ (i1 : Nat) (s1 : St) (f : Nat), l = .int .i64 (i1 : Int) ∧ Hid (Aft B w s1 wr) ∧ Hid (s1.k < ts.length) ∧ Hid (rowL ts P sg f i1 s1 = .ok i s')) (fun _ wr => ts.length - kAt B wr)
 case atStart => exact ⟨i0, s0, _, rfl, A1, Lib.hid hk0, HL⟩
 case round =>
  obtain ⟨i1, s1, f, rfl, HA, HK, HP⟩ := hrel
  have hK := HK.out
  have hP := HP.out
  have hkA := HA.out.ps.kAt
  cases f with
  | zero => cases hP
  | succ f =>
   unfold rowL at hP
   have cS : Calls Tryz.prog 95 #[B.ptr, .slice (some ⟨sb, 0, none⟩) n n] wr fun e w' => e = .returned (.bool (standsB (tkA ts s1.k) sg)) ∧ Below wr.heap.size wr w' := by
    have hX : Blk wr sb 9 cs := (HA.out.kt.block hlsb hm).trans HSB.out
    have := stands_any HA.out.ps (by rw [HB.out]; exact hK) sb n n sg HN.out hb hX.lt (fun j x hx => by
     rw [hX.cell j, HCS.out]
     simp [hx])
    rwa [HB.out] at this
   by_cases hs : standsB (tkA ts s1.k) sg = true
   ·rw [if_pos hs] at hP
    rw [hs] at cS
    obtain ⟨i2, s2, e1, e2⟩ := PR.bind_ok hP
    have hq := op_prog hT HPR.out hK (stands_ne hs) e1
    have cO := fun (W : World) (p : PS B W s1) => op_any hT 306 (.inr (.inr (.inr rfl))) P HP0.out HB.out p hK (stands_ne hs) e1
    have E2 := Lib.hid e2
    have K2 := Lib.hid hq
    clear hP e1 e2 hs hK hq
    go_wp2_with fail
    with_reducible refine cS.mono ?_
    rintro e w2 ⟨rfl, hb2⟩
    have a2 := HA.out.below hb2
    go_wp2_with fail
    with_reducible refine (cO w2 a2.ps).mono ?_
    rintro e w3 ⟨rfl, a3⟩
    have A3 := Lib.hid (a2.trans a3)
    clear a2 a3 hb2 cS cO
    go_wp2_with fail
    exact ⟨⟨_, _, f, rfl, A3, Lib.hid K2.out.2, E2⟩, by
     have q := K2.out
     rw [A3.out.ps.kAt, hkA]
     omega⟩
   ·rw [if_neg hs] at hP
    have hs2 : standsB (tkA ts s1.k) sg = false := by simpa using hs
    rw [hs2] at cS
    injection hP with e1 e2
    subst e1
    subst e2
    clear hs hs2
    go_wp2_with fail
    with_reducible refine cS.mono ?_
    rintro e w2 ⟨rfl, hb2⟩
    have A2 := Lib.hid (HA.out.below hb2)
    clear cS hb2
    go_wp2_with fail
    go_ret
    exact ⟨rfl, A2.out⟩

set_option maxHeartbeats 4000000 in
theorem product_any {ts : List Tk} (hT : TsOk ts) : Rule ts 290 (productM ts) := by
 intro B w s i s' hBts h hk hM
 refine ⟨(product_prog hT _ _ _ hk hM).2, ?_⟩
 unfold productM at hM
 obtain ⟨W0, hW0⟩ : ∃ W0, w.alloc (.cells #[.string ⟨#[42]⟩, .string ⟨#[47]⟩, .string ⟨#[42, 46]⟩, .string ⟨#[47, 46]⟩] 9) = W0 := ⟨_, rfl⟩
 have hB0 : Below w.heap.size w W0 := by rw [← hW0]; exact (Below.refl _ _).alloc (Nat.le_refl _) _
 have hX0 : Blk W0 w.heap.size 9 #[.string ⟨#[42]⟩, .string ⟨#[47]⟩, .string ⟨#[42, 46]⟩, .string ⟨#[47, 46]⟩] := by rw [← hW0]; exact Blk.new w 9 _
 have cR := row_155 hT _ (apply_any hT) (apply_prog hT) [[42], [47], [42, 46], [47, 46]] 4 rfl (by decide) hBts (h.below hB0) hk hM w.heap.size _ hX0 (h.fresh hB0 (Nat.le_refl _)) rfl
 have hmf : ∀ (fn : Fn) (first cap : Array Value) (w : World), (Instr.makeFunc fn first cap).run Tryz.prog w = .ok (.func fn first cap) w := fun _ _ _ _ => rfl
 have A0 := Lib.hid (h.aft hB0)
 clear hM h hX0 hB0
 go_enter Tryz.func290, Tryz.ntmps290
 go_wp2_with fail
 with_reducible refine cR.mono ?_
 rintro e w1 ⟨rfl, a1⟩
 have A1 := Lib.hid (A0.out.trans a1)
 clear a1 cR
 go_wp2_with fail
 go_ret
 exact ⟨rfl, A1.out⟩

set_option maxHeartbeats 4000000 in
theorem sum_any {ts : List Tk} (hT : TsOk ts) : Rule ts 265 (sumM ts) := by
 intro B w s i s' hBts h hk hM
 refine ⟨(sum_prog hT _ _ _ hk hM).2, ?_⟩
 unfold sumM at hM
 obtain ⟨W0, hW0⟩ : ∃ W0, w.alloc (.cells #[.string ⟨#[43]⟩, .string ⟨#[45]⟩, .string ⟨#[43, 46]⟩, .string ⟨#[45, 46]⟩] 9) = W0 := ⟨_, rfl⟩
 have hB0 : Below w.heap.size w W0 := by rw [← hW0]; exact (Below.refl _ _).alloc (Nat.le_refl _) _
 have hX0 : Blk W0 w.heap.size 9 #[.string ⟨#[43]⟩, .string ⟨#[45]⟩, .string ⟨#[43, 46]⟩, .string ⟨#[45, 46]⟩] := by rw [← hW0]; exact Blk.new w 9 _
 have cR := row_146 hT _ (product_any hT) (product_prog hT) [[43], [45], [43, 46], [45, 46]] 4 rfl (by decide) hBts (h.below hB0) hk hM w.heap.size _ hX0 (h.fresh hB0 (Nat.le_refl _)) rfl
 have hmf : ∀ (fn : Fn) (first cap : Array Value) (w : World), (Instr.makeFunc fn first cap).run Tryz.prog w = .ok (.func fn first cap) w := fun _ _ _ _ => rfl
 have A0 := Lib.hid (h.aft hB0)
 clear hM h hX0 hB0
 go_enter Tryz.func265, Tryz.ntmps265
 go_wp2_with fail
 with_reducible refine cR.mono ?_
 rintro e w1 ⟨rfl, a1⟩
 have A1 := Lib.hid (A0.out.trans a1)
 clear a1 cR
 go_wp2_with fail
 go_ret
 exact ⟨rfl, A1.out⟩

set_option maxHeartbeats 4000000 in
theorem join_any {ts : List Tk} (hT : TsOk ts) : Rule ts 225 (joinM ts) := by
 intro B w s i s' hBts h hk hM
 refine ⟨(join_prog hT _ _ _ hk hM).2, ?_⟩
 unfold joinM at hM
 obtain ⟨W0, hW0⟩ : ∃ W0, w.alloc (.cells #[.string ⟨#[94]⟩] 9) = W0 := ⟨_, rfl⟩
 have hB0 : Below w.heap.size w W0 := by rw [← hW0]; exact (Below.refl _ _).alloc (Nat.le_refl _) _
 have hX0 : Blk W0 w.heap.size 9 #[.string ⟨#[94]⟩] := by rw [← hW0]; exact Blk.new w 9 _
 have cR := row_139 hT _ (sum_any hT) (sum_prog hT) [[94]] 1 rfl (by decide) hBts (h.below hB0) hk hM w.heap.size _ hX0 (h.fresh hB0 (Nat.le_refl _)) rfl
 have hmf : ∀ (fn : Fn) (first cap : Array Value) (w : World), (Instr.makeFunc fn first cap).run Tryz.prog w = .ok (.func fn first cap) w := fun _ _ _ _ => rfl
 have A0 := Lib.hid (h.aft hB0)
 clear hM h hX0 hB0
 go_enter Tryz.func225, Tryz.ntmps225
 go_wp2_with fail
 with_reducible refine cR.mono ?_
 rintro e w1 ⟨rfl, a1⟩
 have A1 := Lib.hid (A0.out.trans a1)
 clear a1 cR
 go_wp2_with fail
 go_ret
 exact ⟨rfl, A1.out⟩
/-- A rule closes what it opens. -/
def OpEq (M : St → PR) : Prop := ∀ (s : St) (i : Nat) (s' : St), M s = .ok i s' → s'.op = s.op
def OpEqL (L : Nat → Nat → St → PR) : Prop := ∀ (f i1 : Nat) (s : St) (i : Nat) (s' : St), L f i1 s = .ok i s' → s'.op = s.op
section
variable {ts : List Tk}
theorem opEq_bind {M : St → PR} {L : Nat → Nat → St → PR} {f : Nat} (hM : OpEq M) (hL : OpEqL L) : OpEq (fun s => (M s).bind (L f)) := by
 intro s i s' h
 obtain ⟨i1, s1, e1, e2⟩ := PR.bind_ok h
 exact (hL _ _ _ _ _ e2).trans (hM _ _ _ e1)
theorem atom_op : OpEq (atomM ts) := by
 intro s i s' h
 unfold atomM at h
 split at h
 ·cases h
 ·split at h
  ·cases h
  ·obtain ⟨_, _, rfl⟩ := newT_ok h
   rfl
theorem post_opL : OpEqL (postL ts) := by
 intro f
 induction f with
 | zero => intro i1 s i s' e; cases e
 | succ f ih =>
  intro i1 s i s' e
  unfold postL at e
  split at e
  ·split at e
   ·obtain ⟨i2, s2, e1, e2⟩ := PR.bind_ok e
    obtain ⟨_, _, rfl⟩ := newT_ok e1
    have a := ih _ _ _ _ e2
    exact a
   ·cases e
  ·injection e with _ e
   rw [← e]
theorem post_op : OpEq (postM ts) := opEq_bind atom_op post_opL
theorem unit_op : OpEq (unitM ts) := by
 intro s i s' h
 unfold unitM at h
 split at h
 ·cases h
 ·exact post_op _ _ _ h
theorem apply_opL : OpEqL (applyL ts) := by
 intro f
 induction f with
 | zero => intro i1 s i s' e; cases e
 | succ f ih =>
  intro i1 s i s' e
  unfold applyL at e
  split at e
  ·obtain ⟨i2, s2, e1, e2⟩ := PR.bind_ok e
   obtain ⟨i3, s3, e3, e4⟩ := PR.bind_ok e2
   obtain ⟨_, _, rfl⟩ := newT_ok e3
   have a := ih _ _ _ _ e4
   have b := unit_op _ _ _ e1
   exact Eq.trans a b
  ·injection e with _ e
   rw [← e]
theorem apply_op : OpEq (applyM ts) := opEq_bind unit_op apply_opL
theorem row_opL {P : St → PR} (hP : OpEq P) (sg : List (List UInt8)) : OpEqL (rowL ts P sg) := by
 intro f
 induction f with
 | zero => intro i1 s i s' e; cases e
 | succ f ih =>
  intro i1 s i s' e
  unfold rowL at e
  split at e
  ·obtain ⟨i2, s2, e1, e2⟩ := PR.bind_ok e
   unfold opM at e1
   obtain ⟨i3, s3, e3, e4⟩ := PR.bind_ok e1
   obtain ⟨_, _, rfl⟩ := newT_ok e4
   have a := ih _ _ _ _ e2
   have b := hP _ _ _ e3
   exact Eq.trans a b
  ·injection e with _ e
   rw [← e]
theorem row_op {P : St → PR} (hP : OpEq P) (sg : List (List UInt8)) : OpEq (rowM ts P sg) := opEq_bind hP (row_opL hP sg)
theorem compare_op : OpEq (compareM ts) := by
 intro s i s' h
 unfold compareM at h
 obtain ⟨i1, s1, e1, e2⟩ := PR.bind_ok h
 split at e2
 ·cases e2
 ·injection e2 with e2 e3
  rw [← e3]
  exact row_op (row_op (row_op apply_op _) _) _ _ _ _ e1
end

set_option maxHeartbeats 4000000 in
theorem compare_any {ts : List Tk} (hT : TsOk ts) : Rule ts 184 (compareM ts) := by
 intro B w s i s' hBts h hk hM
 refine ⟨(compare_prog hT _ _ _ hk hM).2, ?_⟩
 unfold compareM at hM
 obtain ⟨i1, s1, e1, e2⟩ := PR.bind_ok hM
 by_cases hs : standsB (tkA ts s1.k) [[61, 61], [60], [60, 46]] = true
 ·rw [if_pos hs] at e2; cases e2
 rw [if_neg hs] at e2
 injection e2 with e2 e3
 subst e2
 subst e3
 obtain ⟨hk1, cJ⟩ := join_any hT B w s i1 s1 hBts h hk e1
 have hs2 : standsB (tkA ts s1.k) [[61, 61], [60], [60, 46]] = false := by simpa using hs
 have cS : ∀ W, PS B W s1 → Calls Tryz.prog 95 #[B.ptr, .slice (some ⟨W.heap.size, 0, none⟩) 3 3] (W.alloc (.cells #[.string ⟨#[61, 61]⟩, .string ⟨#[60]⟩, .string ⟨#[60, 46]⟩] 9)) fun e w' => e = .returned (.bool false) ∧ Below W.heap.size W w' := fun W p => by
  have := stands_new p (by rw [hBts]; exact hk1) [[61, 61], [60], [60, 46]] 3 rfl (by decide) #[.string ⟨#[61, 61]⟩, .string ⟨#[60]⟩, .string ⟨#[60, 46]⟩] rfl
  rwa [hBts, hs2] at this
 clear hs hs2 hM e1 h
 go_enter Tryz.func184, Tryz.ntmps184
 go_wp2_with fail
 with_reducible refine cJ.mono ?_
 rintro e w1 ⟨rfl, a1⟩
 go_wp2_with fail
 with_reducible refine (cS w1 a1.ps).mono ?_
 rintro e w2 ⟨rfl, hb2⟩
 have A2 := Lib.hid (a1.below hb2)
 clear a1 hb2 cS cJ
 go_wp2_with fail
 go_ret
 exact ⟨rfl, A2.out⟩

set_option maxRecDepth 100000 in
set_option maxHeartbeats 8000000 in
theorem termR_any {ts : List Tk} (hT : TsOk ts) : Rule ts 125 (termM ts) := by
 intro B w s i s' hBts h hk hM
 unfold termM at hM
 by_cases h256 : s.op = 256
 ·rw [if_pos h256] at hM; cases hM
 rw [if_neg h256] at hM
 by_cases h78 : (tkA ts s.k).1 = 7 ∨ (tkA ts s.k).1 = 8
 ·rw [if_pos h78] at hM; cases hM
 rw [if_neg h78] at hM
 obtain ⟨i1, s1, e1, e2⟩ := PR.bind_ok hM
 injection e2 with e2 e3
 subst e2
 subst e3
 have hop := compare_op _ _ _ e1
 have hpr := compare_prog hT s.up _ _ hk e1
 refine ⟨hpr.2, ?_⟩
 have hs : ∀ xs, standsB (tkA B.ts s.k) xs = false := fun xs => by
  rw [hBts]
  unfold standsB
  rw [show ((tkA ts s.k).1 == 7) = false by simp; omega, show ((tkA ts s.k).1 == 8) = false by simp; omega]
  rfl
 have cB := begin_any h h256
 have cS : ∀ (x : List UInt8) W, PS B W s.up → Calls Tryz.prog 95 #[B.ptr, .slice (some ⟨W.heap.size, 0, none⟩) 1 1] (W.alloc (.cells #[.string ⟨x.toArray⟩] 9)) fun e w' => e = .returned (.bool false) ∧ Below W.heap.size W w' := fun x W p => by
  have := stands_new p (by rw [hBts]; exact hk) [x] 1 rfl (by decide) #[.string ⟨x.toArray⟩] rfl
  rw [show (tkA B.ts s.up.k) = tkA B.ts s.k from rfl, hs] at this
  exact this
 have cC := fun (W : World) (p : PS B W s.up) => (compare_any hT B W s.up i1 s1 hBts p hk e1).2
 have hop1 : 1 ≤ s1.op := by rw [hop]; exact Nat.le_add_left 1 _
 clear hs h78 h256 hM e1 hop hpr h
 go_enter_defers Tryz.func125, Tryz.ntmps125
 go_wp2_with fail
 with_reducible refine cB.mono ?_
 rintro e w1 ⟨rfl, a1⟩
 go_wp2_with fail
 refine (cS [102, 117, 110] w1 a1.ps).mono ?_
 rintro e w2 ⟨rfl, hb2⟩
 have a2 := a1.below hb2
 go_wp2_with fail
 refine (cS [108, 101, 116] w2 a2.ps).mono ?_
 rintro e w3 ⟨rfl, hb3⟩
 have a3 := a2.below hb3
 go_wp2_with fail
 refine (cS [105, 102] w3 a3.ps).mono ?_
 rintro e w4 ⟨rfl, hb4⟩
 have a4 := a3.below hb4
 go_wp2_with fail
 refine (cS [99, 97, 115, 101] w4 a4.ps).mono ?_
 rintro e w5 ⟨rfl, hb5⟩
 have a5 := a4.below hb5
 go_wp2_with fail
 with_reducible refine (cC w5 a5.ps).mono ?_
 rintro e w6 ⟨rfl, a6⟩
 have A6 := Lib.hid (a5.trans a6)
 clear a1 a2 a3 a4 a5 a6 hb2 hb3 hb4 hb5 cS cC cB
 go_wp2_with fail
 refine leaves_cons (f := 93) (args := #[B.ptr]) (by simp) (by simp [go_sem]) ?_
 refine (end_d A6.out.ps hop1 .returning).mono ?_
 rintro e u' w7 ⟨rfl, rfl, a7⟩
 refine ⟨_, results_tmp rfl _ _ _, rfl, A6.out.trans a7⟩


theorem takes_no {B : PE} {w : World} {s : St} (h : PS B w s) (hk : s.k < B.ts.length) (x : List UInt8) (hx : standsB (tkA B.ts s.k) [x] = false) :
 Calls Tryz.prog 122 #[B.ptr, .string ⟨x.toArray⟩] w fun e w' => e = .returned (.bool false) ∧ Below w.heap.size w w' := by
 have cS := stands_new h hk [x] 1 rfl (by decide) #[.string ⟨x.toArray⟩] rfl
 rw [hx] at cS
 go_enter Tryz.func122, Tryz.ntmps122
 go_wp2_with fail
 refine cS.mono ?_
 rintro e w1 ⟨rfl, hb1⟩
 go_wp2_with fail
 go_ret
 exact ⟨rfl, hb1⟩

/-- What a rule leaves that gives nothing. -/
def Rule0 (ts : List Tk) (f : FuncId) (M : St → PR) : Prop :=
 ∀ (B : PE) (w : World) (s : St) (i : Nat) (s' : St), B.ts = ts → PS B w s → s.k < ts.length → M s = .ok i s' →
  Calls Tryz.prog f #[B.ptr] w fun e w' => e = .returned (.tuple #[]) ∧ Aft B w s' w'

theorem catch_idle (p : Addr) (w : World) :
 CallsD Tryz.prog 88 #[.pointer (some p)] .returning w fun e u' w' => e = .returned (.tuple #[]) ∧ u' = .returning ∧ w' = w := by
 refine callsD_of_wpS Tryz.func88 rfl fun c₀ cs hu => ?_
 apply wpS_seq
 apply wpS_region
 simp [wpOpsS, go_sem, recoverD, hu, Tryz.ntmps88, Exit.thenS]
 apply wpS_seq
 apply wpS_region
 simp [wpOpsS, go_sem, Exit.thenS]
 refine wpS_cond (t := false) (by simp [Act.eval, Array.replicate]) ?_
 simp only [Bool.false_eq_true, if_false]
 refine wpS_of_wp (wp_skip ?_)
 cases c₀
 simp_all [bodyPostS, results, Tryz.results88]
end Go.Proofs.YtjbdgjbmbohfmaaGreatDoor
