/- The whole parser's smallest functions: the token that is to be read, the next one, and whether it is one of some words; a term and a type that are put in. -/
import Derived.Test.YtidmeodmkcomlaaGreatDoorK09
import Derived.Test.YtidmeodmkcomlaaGreatDoorK11
import Derived.BigQuiet
import Derived.RegionCalls
import Derived.Defers
import Derived.Deep.QuietTactic
set_option linter.unusedSimpArgs false
set_option linter.unusedVariables false
namespace Go.Proofs.YtidmeodmkcomlaaGreatDoor
open Go Go.Proofs Go.RowKit
set_option maxHeartbeats 4000000
abbrev tokV (t : Tk) : Value := .agg #[.int .i64 (t.1 : Int), .string (bs t.2.1), .int .i64 (t.2.2 : Int)]
abbrev PE.ptr (B : PE) : Value := .pointer (some ⟨B.pb, 0, none⟩)
theorem zbe {B : PE} {w : World} {s : St} (h : PS B w s) (hk : s.k < B.ts.length) : Calls Tryz.prog 70 #[B.ptr] w fun e w' => e = .returned (tokV (tkA B.ts s.k)) ∧ Below w.heap.size w w' := by
 obtain ⟨f0, f1, f2⟩ := h.now hk;have c0 := h.blk.cell 0;have c1 := h.blk.cell 1;simp only [PE.cells, gA, gB, gC] at c0 c1;have hp := h.blk.lt;have hg : B.g < w.heap.size := zJy h.gb h.bw;have hl := h.lb;have hcap := h.cap;generalize tkA B.ts s.k = t at f0 f1 f2 ⊢;go_enter Tryz.func70, Tryz.ntmps70
 go_wp2
 go_region
 go_wp2
 exact bodyPost_ret (v := tokV t) (by simp [results, Tryz.results70, go_sem]) rfl ⟨rfl, ((zJx _ _).alloc (zJw _) _).drew⟩
theorem zdk (l : List UInt8) : (bs l).toList = l := by
 unfold bs;rw [ByteArray.toList_eq]
def ixS (xs : List (List UInt8)) (v : List UInt8) : Int := if xs.any (fun x => x == v) = true then (xs.findIdx (fun x => x == v) : Nat) else -1
theorem zgz (b n cap : Nat) (xs : List (List UInt8)) (v : List UInt8) (w : World) (hn : xs.length = n) (hb : n ≤ 70000) (hc : ∀ j x, xs[j]? = some x → w.cell? ⟨b, j, none⟩ = some (.string (bs x))) :
 Calls Tryz.prog 120 #[.slice (some ⟨b, 0, none⟩) n cap, .string (bs v)] w fun e w' => e = .returned (.int .i64 (ixS xs v)) ∧ w' = w := by
 go_enter Tryz.func120, Tryz.ntmps120
 go_wp2
 go_loopw [8] (fun i wr => ∃ k : Nat, k ≤ n ∧ i = .int .i64 k ∧ wr = w ∧ Hid (∀ x ∈ xs.take k, (x == v) = false)) (fun i _ => n - (intOf i).toNat)
 case atStart => exact ⟨0, zK8 _, rfl, rfl, zJv (by simp)⟩
 case round =>
  obtain ⟨k, hk, rfl, rfl, HT⟩ := hrel;by_cases hlt : k < n
  · have hx := hc k xs[k] (zK1 (by omega))
    go_wp2
    case roundEnd =>
     rename_i he
     rw [zdk, zdk] at he;go_roundw
     case rel =>
      refine ⟨k + 1, by omega, rfl, trivial, zJv fun x hx => ?_⟩;rw [zK9 (by omega)] at hx;rcases List.mem_append.1 hx with hx | hx
      · exact HT.out x hx
      · simp only [zK7] at hx
        subst hx;rw [zKr] at he ⊢;exact fun e => he e.symm
     case measure => simp [intOf]; omega
    · rename_i he
      rw [zdk, zdk] at he;go_ret;refine ⟨?_, rfl⟩;have he2 : v = xs[k] := by simpa using he
      have hf : xs.findIdx (fun x => x == v) = k := by
       rw [List.findIdx_eq (by omega)];refine ⟨by simp [he2], fun j hj => HT.out _ ?_⟩;rw [List.mem_take_iff_getElem];exact ⟨j, by omega, rfl⟩
      unfold ixS;rw [if_pos (by rw [List.any_eq_true]; exact ⟨xs[k], zKe _, by simp [he2]⟩), hf];rfl
  · obtain rfl : k = n := by omega
    go_wp2
    go_ret;refine ⟨?_, rfl⟩;unfold ixS
    rw [if_neg (fun hh => by
     obtain ⟨x, hx, he⟩ := List.any_eq_true.1 hh;have := HT.out x (by rw [← hn, List.take_length]; exact hx);rw [this] at he
     cases he)]
    rfl
theorem ix_ge (xs : List (List UInt8)) (v : List UInt8) : decide (0 ≤ ixS xs v) = xs.any (fun x => x == v) := by
 unfold ixS;by_cases h : xs.any (fun x => x == v) = true
 · rw [if_pos h, h]; simp
 · rw [if_neg h]
   cases hx : xs.any (fun x => x == v)
   · rfl
   · exact absurd hx h
theorem zgn (b n cap : Nat) (xs : List (List UInt8)) (v : List UInt8) (w : World) (hn : xs.length = n) (hb : n ≤ 70000) (hc : ∀ j x, xs[j]? = some x → w.cell? ⟨b, j, none⟩ = some (.string (bs x))) :
 Calls Tryz.prog 81 #[.slice (some ⟨b, 0, none⟩) n cap, .string (bs v)] w fun e w' => e = .returned (.bool (xs.any (fun x => x == v))) ∧ w' = w := by
 rw [← ix_ge];have c := zgz b n cap xs v w hn hb hc;go_enter Tryz.func81, Tryz.ntmps81
 go_wp2_with fail
 with_reducible refine c.mono ?_
 rintro e w1 ⟨rfl, rfl⟩;go_wp2
 go_ret;exact ⟨rfl, rfl⟩
theorem zdu {B : PE} {w : World} {s : St} (h : PS B w s) (hk : s.k < B.ts.length) (b n cap : Nat) (xs : List (List UInt8)) (hn : xs.length = n) (hb : n ≤ 70000) (hbl : b < w.heap.size) (hc : ∀ j x, xs[j]? = some x → w.cell? ⟨b, j, none⟩ = some (.string (bs x))) :
 Calls Tryz.prog 47 #[B.ptr, .slice (some ⟨b, 0, none⟩) n cap] w fun e w' => e = .returned (.bool (za2 (tkA B.ts s.k) xs)) ∧ Below w.heap.size w w' := by
 have cN := zbe h hk;have cC := fun (W : World) (hW : Below w.heap.size w W) => zgn b n cap xs (tkA B.ts s.k).2.1 W hn hb (fun j x hx => (hW.cell (p := ⟨b, j, none⟩) hbl).trans (hc j x hx));generalize tkA B.ts s.k = t at cN cC ⊢;unfold za2;have e7 : ((t.1 : Int) == 7) = (t.1 == 7) := by rw [zJz]; simp; omega
 have e8 : ((t.1 : Int) == 8) = (t.1 == 8) := by rw [zJz]; simp; omega
 clear hc;rcases h7 : (t.1 == 7) with _ | _
 · rw [h7] at e7
   rcases h8 : (t.1 == 8) with _ | _
   · rw [h8] at e8
     go_enter Tryz.func47, Tryz.ntmps47
     go_wp2_with fail
     with_reducible refine cN.mono ?_
     rintro e w1 ⟨rfl, hb1⟩;go_wp2_with fail
     go_ret;exact ⟨rfl, hb1.alloc hb1.size _⟩
   · rw [h8] at e8
     go_enter Tryz.func47, Tryz.ntmps47
     go_wp2_with fail
     with_reducible refine cN.mono ?_
     rintro e w1 ⟨rfl, hb1⟩;go_wp2_with fail
     with_reducible refine (cC _ (hb1.alloc hb1.size _)).mono ?_
     rintro e w2 ⟨rfl, rfl⟩;go_wp2_with fail
     go_ret;exact ⟨rfl, hb1.alloc hb1.size _⟩
 · rw [h7] at e7
   go_enter Tryz.func47, Tryz.ntmps47
   go_wp2_with fail
   with_reducible refine cN.mono ?_
   rintro e w1 ⟨rfl, hb1⟩;go_wp2_with fail
   with_reducible refine (cC _ (hb1.alloc hb1.size _)).mono ?_
   rintro e w2 ⟨rfl, rfl⟩;go_wp2_with fail
   go_ret;exact ⟨rfl, hb1.alloc hb1.size _⟩
theorem PS.on1 {B : PE} {w : World} {s : St} (h : PS B w s) (hk : s.k < B.ts.length) : Aft B w (s.on 1) (w.setCell ⟨B.pb, 1, none⟩ (.int .i64 ((s.k : Int) + 1))) := by
 have := h.setK 1 (by have := h.lb; omega);rwa [show ((s.k + 1 : Nat) : Int) = (s.k : Int) + 1 by omega] at this
abbrev zTok : List Value := [.int .i64 0, .string ⟨#[]⟩, .int .i64 0]
abbrev tokL (t : Tk) : List Value := [.int .i64 (t.1 : Int), .string (bs t.2.1), .int .i64 (t.2.2 : Int)]
theorem zdx {B : PE} {w : World} {s : St} (h : PS B w s) (hk : s.k < B.ts.length) : Calls Tryz.prog 48 #[B.ptr] w fun e w' => e = .returned (tokV (tkA B.ts s.k)) ∧ Aft B w (s.on 1) w' := by
 have hl := h.lb;have hp := h.blk.lt;obtain ⟨W0, hW0⟩ : ∃ W0, w.alloc (.cells zTok.toArray 77) = W0 := ⟨_, rfl⟩;have hB0 : Below w.heap.size w W0 := by rw [← hW0]; exact (zJx _ _).alloc (zJw _) _
 have hX0 : Blk W0 w.heap.size 77 zTok.toArray := by rw [← hW0]; exact Blk.new w 77 _
 have cN := zbe (h.below hB0) hk;generalize ht : tkA B.ts s.k = t at cN ⊢;have H := zJv h;clear ht h;go_enter Tryz.func48, Tryz.ntmps48
 go_wp2_with fail
 with_reducible refine cN.mono ?_
 rintro e w1 ⟨rfl, hb1⟩;obtain ⟨W2, hW2⟩ : ∃ W2, w1.alloc (.cells (tokL t).toArray 77) = W2 := ⟨_, rfl⟩;have hB2 : Below W0.heap.size W0 W2 := by rw [← hW2]; exact hb1.alloc hb1.size _
 have hB02 : Below w.heap.size w W2 := hB0.trans (hB2.mono hB0.size);have hX2 : Blk W2 w1.heap.size 77 (tokL t).toArray := by rw [← hW2]; exact Blk.new w1 77 _
 have p2 := H.out.below hB02;have a3 := p2.on1 hk;have c1 := p2.blk.cell 1;have g1 := p2.blk.frozen 1;simp only [PE.cells, gA, gB, gC] at c1;have s0 := hB0.size;have s1 := hb1.size;have l0 := hX0.lt;obtain ⟨W3, hW3⟩ : ∃ W3, W2.setCell ⟨B.pb, 1, none⟩ (.int .i64 ((s.k : Int) + 1)) = W3 := ⟨_, rfl⟩;have hX3 : Blk W3 w1.heap.size 77 (tokL t).toArray := by rw [← hW3]; exact hX2.far (by dsimp only; omega) _
 have hY3 : Blk W3 w.heap.size 77 zTok.toArray := by rw [← hW3]; exact (hX0.below hB2 l0).far (by dsimp only; omega) _
 rw [hW3] at a3;have d0 := hX3.cell 0;have d1 := hX3.cell 1;have d2 := hX3.cell 2;have x0 := hY3.cell 0;have x1 := hY3.cell 1;have x2 := hY3.cell 2;have y0 := hY3.frozen 0;have y1 := hY3.frozen 1;have y2 := hY3.frozen 2;simp only [gA, gB, gC] at d0 d1 d2 x0 x1 x2;have A3 := zJv a3;have Y3 := zJv hY3;have B02 := zJv hB02;clear a3 hX3 hY3 hX2 hB2 hB02 hX0 p2 cN hb1 hB0;go_wp2_with fail
 have hZ := ((Y3.out.set_ 0 (.int .i64 (t.1 : Int))).set_ 1 (.string (bs t.2.1))).set_ 2 (.int .i64 (t.2.2 : Int));have q0 := hZ.cell 0;have q1 := hZ.cell 1;have q2 := hZ.cell 2;simp only [sA, sB, sC, gA, gB, gC] at q0 q1 q2;refine bodyPost_ret (v := tokV t) (by simp [results, Tryz.results48, go_sem, q0, q1, q2]) rfl ⟨rfl, ?_⟩;have e3 : ∀ b, b ≠ B.pb → W3.heap[b]? = W2.heap[b]? := fun b hb => by rw [← hW3]; exact zKp _ _ _ _ hb
 have hb3 : Below B.base w W3 := (B02.out.mono H.out.bw).trans A3.out.bel;have hbb := H.out.bw;refine H.out.moved (s.k + 1) s.op (Nat.le_succ _) (by omega) H.out.ob (((hb3.setCell (p := ⟨w.heap.size, 0, none⟩) hbb _).setCell (p := ⟨w.heap.size, 1, none⟩) hbb _).setCell (p := ⟨w.heap.size, 2, none⟩) hbb _) (((A3.out.ps.blk.far (by dsimp only; omega) _).far (by dsimp only; omega) _).far (by dsimp only; omega) _) (fun b hb1 hb2 => ?_);rw [zKp _ _ _ _ (by dsimp only; omega), zKp _ _ _ _ (by dsimp only; omega), zKp _ _ _ _ (by dsimp only; omega), e3 b hb2];exact B02.out.block b hb1
theorem zf4 {B : PE} {w : World} {s : St} (h : PS B w s) (hk : s.op ≠ 256) : Calls Tryz.prog 44 #[B.ptr] w fun e w' => e = .returned (.tuple #[]) ∧ Aft B w s.up w' := by
 have hp := h.blk.lt;have hob := h.ob;have c2 := h.blk.cell 2;have g2 := h.blk.frozen 2;simp only [PE.cells, gA, gB, gC] at c2;have h5 : ((s.op : Int) == 256) = false := by rw [zKr]; omega
 have a := h.up (by omega);rw [show ((s.op + 1 : Nat) : Int) = (s.op : Int) + 1 by omega] at a;have A := zJv a;clear a h;go_enter Tryz.func44, Tryz.ntmps44
 go_wp2
 go_end0
 exact ⟨rfl, A.out⟩
theorem zer {B : PE} {w : World} {s : St} (h : PS B w s) (hn : s.t1.length < 65536) (x : TermD) (q : Ptr3) (hq : TermOk (Lt w.heap.size) w x q) (hf : zdr x) :
 Calls Tryz.prog 114 #[B.ptr, .agg (za1 x q).toArray] w fun e w' => e = .returned (.int .i64 (s.t1.length : Nat)) ∧ Aft B w (s.addT x) w' := by
 obtain ⟨W0, hW0⟩ : ∃ W0, w.alloc (.cells (za1 x q).toArray 38) = W0 := ⟨_, rfl⟩;have hB0 : Below w.heap.size w W0 := by rw [← hW0]; exact (zJx _ _).alloc (zJw _) _
 have hX0 : Blk W0 w.heap.size 38 (za1 x q).toArray := by rw [← hW0]; exact Blk.new w 38 _
 have p0 := h.below hB0;obtain ⟨v1, v2, v3, r1, r2, r3, hB, e1, e2, e9⟩ := p0.built;have hl : r1.length = s.t1.length := by rw [← e1]; simp
 have hq0 : TermOk (Lt W0.heap.size) W0 x q := (hq.keep (zaa hB0)).imp (zc6 hB0.size);have cT := fun (W : World) (hW : Below W0.heap.size W0 W) => zqc B.base B.cb x q W (hB.tr.below hW) (by omega) ((hq0.keep (zaa hW)).imp (zc6 hW.size)) hf.1 hf.2.1 hf.2.2;have c4 := p0.blk.cell 4;simp only [PE.cells, gA, gB, gC] at c4;have hp := p0.blk.lt;have d0 := hX0.cell 0;have d1 := hX0.cell 1;have d2 := hX0.cell 2;have d3 := hX0.cell 3;have d4 := hX0.cell 4;have d5 := hX0.cell 5;have d6 := hX0.cell 6;have d7 := hX0.cell 7;simp only [za1, gA, gB, gC] at d0 d1 d2 d3 d4 d5 d6 d7;unfold za1 at hW0 cT ⊢;have P0 := zJv p0;have HB := zJv hB;have HL := zJv hl;have H := zJv h;have B0 := zJv hB0;have E1 := zJv e1;have E2 := zJv e2;have E9 := zJv e9;clear p0 hB hl h hB0 hq0 hX0 e1 e2 e9 hq;go_enter Tryz.func114, Tryz.ntmps114
 go_wp2
 go_region_with (go_at_call 137; refine (cT _ (by exact (zJx _ W0).drew)).mono ?_; rintro e w2 ⟨p', v', rfl, hT, hbel, hk, hnew, hv⟩)
 all_goals
  have hD : Below W0.heap.size W0 W0.drew := (zJx _ W0).drew;have a := (P0.out.below hD).pushT (HB.out.below hD) E1.out E2.out E9.out hf hn hT hbel hk hnew hv;have A := zJv ((H.out.aft (B0.out.trans (hD.mono B0.out.size))).trans a);have hl := HL.out;clear hT hbel hk hnew hv a;go_wp2
  go_ret;exact ⟨rfl, A.out⟩
theorem zfu {B : PE} {w : World} {s : St} (h : PS B w s) (hn : s.t2.length < 65536) (x : TypD) (q : Ptr2) (hq : TypOk (Lt w.heap.size) w x q) (hf : zff x) :
 Calls Tryz.prog 49 #[B.ptr, .agg (za4 x q).toArray] w fun e w' => e = .returned (.int .i64 (s.t2.length : Nat)) ∧ Aft B w (s.addY x) w' := by
 obtain ⟨W0, hW0⟩ : ∃ W0, w.alloc (.cells (za4 x q).toArray 40) = W0 := ⟨_, rfl⟩;have hB0 : Below w.heap.size w W0 := by rw [← hW0]; exact (zJx _ _).alloc (zJw _) _
 have hX0 : Blk W0 w.heap.size 40 (za4 x q).toArray := by rw [← hW0]; exact Blk.new w 40 _
 have p0 := h.below hB0;obtain ⟨v1, v2, v3, r1, r2, r3, hB, e1, e2, e9⟩ := p0.built;have hl : r2.length = s.t2.length := by rw [← e2]; simp
 have hq0 : TypOk (Lt W0.heap.size) W0 x q := (hq.keep (zaa hB0)).imp (zc6 hB0.size);have cT := fun (W : World) (hW : Below W0.heap.size W0 W) => zr0 B.base B.cb x q W (hB.tr.below hW) (by omega) ((hq0.keep (zaa hW)).imp (zc6 hW.size)) hf.1 hf.2;have c4 := p0.blk.cell 4;simp only [PE.cells, gA, gB, gC] at c4;have hp := p0.blk.lt;have d0 := hX0.cell 0;have d1 := hX0.cell 1;have d2 := hX0.cell 2;have d3 := hX0.cell 3;have d4 := hX0.cell 4;have d5 := hX0.cell 5;simp only [za4, gA, gB, gC] at d0 d1 d2 d3 d4 d5;unfold za4 at hW0 cT ⊢;have P0 := zJv p0;have HB := zJv hB;have HL := zJv hl;have H := zJv h;have B0 := zJv hB0;have E1 := zJv e1;have E2 := zJv e2;have E9 := zJv e9;clear p0 hB hl h hB0 hq0 hX0 e1 e2 e9 hq;go_enter Tryz.func49, Tryz.ntmps49
 go_wp2
 go_region_with (go_at_call 82; refine (cT _ (by exact (zJx _ W0).drew)).mono ?_; rintro e w2 ⟨p', v', rfl, hT, hbel, hk, hnew, hv⟩)
 all_goals
  have hD : Below W0.heap.size W0 W0.drew := (zJx _ W0).drew;have a := (P0.out.below hD).pushY (HB.out.below hD) E1.out E2.out E9.out hf hn hT hbel hk hnew hv;have A := zJv ((H.out.aft (B0.out.trans (hD.mono B0.out.size))).trans a);have hl := HL.out;clear hT hbel hk hnew hv a;go_wp2
  go_ret;exact ⟨rfl, A.out⟩
theorem end_d {B : PE} {w : World} {s : St} (h : PS B w s) (hk : 1 ≤ s.op) (u : FrameMode) : CallsD Tryz.prog 45 #[B.ptr] u w fun e u' w' => u' = u ∧ e = .returned (.tuple #[]) ∧ Aft B w s.down w' := by
 have hp := h.blk.lt;have hob := h.ob;have c2 := h.blk.cell 2;have g2 := h.blk.frozen 2;simp only [PE.cells, gA, gB, gC] at c2;have a := h.down;rw [show ((s.op - 1 : Nat) : Int) = (s.op : Int) - 1 by omega] at a;have A := zJv a;clear a h;go_enter_d Tryz.func45, Tryz.ntmps45
 go_wp2
 go_end0
 exact ⟨rfl, A.out⟩
theorem tokF0 (a c : Int) (s : ByteArray) (w : World) : (Instr.field 77 (.agg #[.int .i64 a, .string s, .int .i64 c]) 0).run Tryz.prog w = .ok (.int .i64 a) w := by kernel_rfl
theorem tokF1 (a c : Int) (s : ByteArray) (w : World) : (Instr.field 77 (.agg #[.int .i64 a, .string s, .int .i64 c]) 1).run Tryz.prog w = .ok (.string s) w := by kernel_rfl
theorem tokF2 (a c : Int) (s : ByteArray) (w : World) : (Instr.field 77 (.agg #[.int .i64 a, .string s, .int .i64 c]) 2).run Tryz.prog w = .ok (.int .i64 c) w := by kernel_rfl
theorem zcf {B : PE} {w : World} {s : St} (h : PS B w s) (hk : s.k < B.ts.length) (kind : Nat) (he : (tkA B.ts s.k).1 = kind) : Calls Tryz.prog 38 #[B.ptr, .int .i64 (kind : Int)] w fun e w' => e = .returned (tokV (tkA B.ts s.k)) ∧ Aft B w (s.on 1) w' := by
 obtain ⟨W0, hW0⟩ : ∃ W0, w.alloc (.cells zTok.toArray 77) = W0 := ⟨_, rfl⟩;have hB0 : Below w.heap.size w W0 := by rw [← hW0]; exact (zJx _ _).alloc (zJw _) _
 have hX0 : Blk W0 w.heap.size 77 zTok.toArray := by rw [← hW0]; exact Blk.new w 77 _
 have l0 := hX0.lt;have o0 := AftO.start h hB0 (fun b => b = w.heap.size) (fun b hb => by subst hb; exact ⟨zJw _, l0⟩);have cN : Calls Tryz.prog 70 #[B.ptr] W0 fun e w' => e = .returned (tokV (tkA B.ts s.k)) ∧ Below W0.heap.size W0 w' := zbe (B := B.with (fun b => b = w.heap.size)) o0.ps hk;have cX : ∀ (W : World), Below W0.heap.size W0 W → Calls Tryz.prog 48 #[B.ptr] W fun e w' => e = .returned (tokV (tkA B.ts s.k)) ∧ Aft (B.with (fun b => b = w.heap.size)) W (s.on 1) w' := fun W hW => zdx (B := B.with (fun b => b = w.heap.size)) (o0.ps.below hW) hk;generalize ht : tkA B.ts s.k = t at cN cX he ⊢;have hne : ((t.1 : Int) != (kind : Int)) = false := by rw [he]; simp
 have hfd := tokF0;clear he;have HB := h.bw;have O0 := zJv o0;have X0 := zJv hX0;clear ht h o0 hX0 hB0;go_enter Tryz.func38, Tryz.ntmps38
 go_wp2_with fail
 with_reducible refine cN.mono ?_
 rintro e w1 ⟨rfl, hb1⟩;clear hW0;go_wp2_with fail
 with_reducible refine (cX w1 hb1).mono ?_
 rintro e w2 ⟨rfl, a2⟩;have o1 := O0.out.below hb1;have hX2 : Blk w2 w.heap.size 77 zTok.toArray := (o1.same a2 rfl).trans (X0.out.below hb1 l0);have o2 := o1.call a2;have x0 := hX2.cell 0;have x1 := hX2.cell 1;have x2 := hX2.cell 2;have y0 := hX2.frozen 0;have y1 := hX2.frozen 1;have y2 := hX2.frozen 2;simp only [gA, gB, gC] at x0 x1 x2;have O2 := zJv o2;have Y2 := zJv hX2;clear a2 hX2 cN cX hb1 o1 o2;go_wp2_with fail
 have hZ := ((Y2.out.set_ 0 (.int .i64 (t.1 : Int))).set_ 1 (.string (bs t.2.1))).set_ 2 (.int .i64 (t.2.2 : Int));have q0 := hZ.cell 0;have q1 := hZ.cell 1;have q2 := hZ.cell 2;simp only [sA, sB, sC, gA, gB, gC] at q0 q1 q2;exact bodyPost_ret (v := tokV t) (by simp [results, Tryz.results38, go_sem, q0, q1, q2]) rfl ⟨rfl, (((O2.out.set rfl 0 _ HB).set rfl 1 _ HB).set rfl 2 _ HB).out⟩
end Go.Proofs.YtidmeodmkcomlaaGreatDoor
