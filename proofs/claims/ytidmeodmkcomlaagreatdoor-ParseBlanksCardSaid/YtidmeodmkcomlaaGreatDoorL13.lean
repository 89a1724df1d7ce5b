/- The whole parser's smallest functions: -/
import Derived.Test.YtidmeodmkcomlaaGreatDoorL09
import Derived.Test.YtidmeodmkcomlaaGreatDoorL12
import Derived.BigQuiet
import Derived.RegionCalls
import Derived.Defers
import Derived.Deep.QuietTactic
namespace Go.Proofs.YtidmeodmkcomlaaGreatDoor
open Go Go.Proofs Go.RowKit
set_option maxHeartbeats 4000000
abbrev tokV (t : Tk) : Value := .agg #[.int .i64 (t.1 : Int), .string (bs t.2.1), .int .i64 (t.2.2 : Int)]
abbrev PE.ptr (B : PE) : Value := .pointer (some ⟨B.pb, 0, none⟩)
theorem zbe {B : PE} {w : World} {s : St} (h : PS B w s) (hk : s.k < B.ts.length) : Calls Tryz.prog 70 #[B.ptr] w fun e w' => e = .returned (tokV (tkA B.ts s.k)) ∧ Below w.heap.size w w' := by
 obtain ⟨f0, f1, f2⟩ := h.now hk;have c0 := h.blk.cell 0;have c1 := h.blk.cell 1;simp only [PE.cells, gA, gB, gC] at c0 c1;have hp := h.blk.lt;have hg : B.g < w.heap.size := zJy h.gb h.bw;have hl := h.lb;have hcap := h.cap;generalize tkA B.ts s.k = t at f0 f1 f2 ⊢;go_enter Tryz.func70, Tryz.ntmps70
 go_wp2
 go_region
 go_wp2
 exact bodyPost_ret (v := tokV t) (by simp [results, Tryz.results70, go_sem]) rfl ⟨rfl, ((zJx _ _).alloc (zJw _) _).drew⟩
theorem zdk (l : List UInt8) : (bs l).toList = l := by
 unfold bs;rw [ByteArray.toList_eq]
def ixS (xs : List (List UInt8)) (v : List UInt8) : Int := if xs.any (fun x => x == v) = true then (xs.findIdx (fun x => x == v) : Nat) else -1
theorem zgz (b n cap : Nat) (xs : List (List UInt8)) (v : List UInt8) (w : World) (hn : xs.length = n) (hb : n ≤ 70000) (hc : ∀ j x, xs[j]? = some x → w.cell? ⟨b, j, none⟩ = some (.string (bs x))) :
 Calls Tryz.prog 120 #[.slice (some ⟨b, 0, none⟩) n cap, .string (bs v)] w fun e w' => e = .returned (.int .i64 (ixS xs v)) ∧ w' = w := by
 go_enter Tryz.func120, Tryz.ntmps120
 go_wp2
 go_loopw [8] (fun i wr => ∃ k : Nat, k ≤ n ∧ i = .int .i64 k ∧ wr = w ∧ Hid (∀ x ∈ xs.take k, (x == v) = false)) (fun i _ => n - (intOf i).toNat)
 case atStart => exact ⟨0, zK8 _, rfl, rfl, zJv (by simp)⟩
 case round =>
  obtain ⟨k, hk, rfl, rfl, HT⟩ := hrel;by_cases hlt : k < n
  · have hx := hc k xs[k] (zK1 (by omega))
    go_wp2
    case roundEnd =>
     rename_i he
     rw [zdk, zdk] at he;go_roundw
     case rel =>
      refine ⟨k + 1, by omega, rfl, trivial, zJv fun x hx => ?_⟩;rw [zK9 (by omega)] at hx;rcases List.mem_append.1 hx with hx | hx
      · exact HT.out x hx
      · simp only [zK7] at hx
        subst hx;rw [zKr] at he ⊢;exact fun e => he e.symm
     case measure => simp [intOf]; omega
    · rename_i he
      rw [zdk, zdk] at he;go_ret;refine ⟨?_, rfl⟩;have he2 : v = xs[k] := by simpa using he
      have hf : xs.findIdx (fun x => x == v) = k := by
       rw [List.findIdx_eq (by omega)];refine ⟨by simp [he2], fun j hj => HT.out _ ?_⟩;rw [List.mem_take_iff_getElem];exact ⟨j, by omega, rfl⟩
      unfold ixS;rw [if_pos (by rw [List.any_eq_true]; exact ⟨xs[k], zKe _, by simp [he2]⟩), hf];rfl
  · obtain rfl : k = n := by omega
    go_wp2
    go_ret;refine ⟨?_, rfl⟩;unfold ixS
    rw [if_neg (fun hh => by
     obtain ⟨x, hx, he⟩ := List.any_eq_true.1 hh;have := HT.out x (by rw [← hn, tap]; exact hx);rw [this] at he
     cases he)]
    rfl
theorem ix_ge (xs : List (List UInt8)) (v : List UInt8) : decide (0 ≤ ixS xs v) = xs.any (fun x => x == v) := by
 unfold ixS;by_cases h : xs.any (fun x => x == v) = true
 · rw [if_pos h, h]; simp
 · rw [if_neg h]
   cases hx : xs.any (fun x => x == v)
   · rfl
   · exact absurd hx h
theorem zgn (b n cap : Nat) (xs : List (List UInt8)) (v : List UInt8) (w : World) (hn : xs.length = n) (hb : n ≤ 70000) (hc : ∀ j x, xs[j]? = some x → w.cell? ⟨b, j, none⟩ = some (.string (bs x))) :
 Calls Tryz.prog 81 #[.slice (some ⟨b, 0, none⟩) n cap, .string (bs v)] w fun e w' => e = .returned (.bool (xs.any (fun x => x == v))) ∧ w' = w := by
 rw [← ix_ge];have c := zgz b n cap xs v w hn hb hc;go_enter Tryz.func81, Tryz.ntmps81
 go_wp2_with fail
 with_reducible refine c.mono ?_
 rintro e w1 ⟨rfl, rfl⟩;go_wp2
 go_ret;exact ⟨rfl, rfl⟩
theorem zdu {B : PE} {w : World} {s : St} (h : PS B w s) (hk : s.k < B.ts.length) (b n cap : Nat) (xs : List (List UInt8)) (hn : xs.length = n) (hb : n ≤ 70000) (hbl : b < w.heap.size) (hc : ∀ j x, xs[j]? = some x → w.cell? ⟨b, j, none⟩ = some (.string (bs x))) :
 Calls Tryz.prog 47 #[B.ptr, .slice (some ⟨b, 0, none⟩) n cap] w fun e w' => e = .returned (.bool (za2 (tkA B.ts s.k) xs)) ∧ Below w.heap.size w w' := by
 have cN := zbe h hk;have cC := fun (W : World) (hW : Below w.heap.size w W) => zgn b n cap xs (tkA B.ts s.k).2.1 W hn hb (fun j x hx => (hW.cell (p := ⟨b, j, none⟩) hbl).trans (hc j x hx));generalize tkA B.ts s.k = t at cN cC ⊢;unfold za2;have e7 : ((t.1 : Int) == 7) = (t.1 == 7) := by rw [zJz]; simp; omega
 have e8 : ((t.1 : Int) == 8) = (t.1 == 8) := by rw [zJz]; simp; omega
 clear hc;rcases h7 : (t.1 == 7) with _ | _
 · rw [h7] at e7
   rcases h8 : (t.1 == 8) with _ | _
   · rw [h8] at e8
     go_enter Tryz.func47, Tryz.ntmps47
     go_wp2_with fail
     with_reducible refine cN.mono ?_
     rintro e w1 ⟨rfl, hb1⟩;go_wp2_with fail
     go_ret;exact ⟨rfl, hb1.alloc hb1.size _⟩
   · rw [h8] at e8
     go_enter Tryz.func47, Tryz.ntmps47
     go_wp2_with fail
     with_reducible refine cN.mono ?_
     rintro e w1 ⟨rfl, hb1⟩;go_wp2_with fail
     with_reducible refine (cC _ (hb1.alloc hb1.size _)).mono ?_
     rintro e w2 ⟨rfl, rfl⟩;go_wp2_with fail
     go_ret;exact ⟨rfl, hb1.alloc hb1.size _⟩
 · rw [h7] at e7
   go_enter Tryz.func47, Tryz.ntmps47
   go_wp2_with fail
   with_reducible refine cN.mono ?_
   rintro e w1 ⟨rfl, hb1⟩;go_wp2_with fail
   with_reducible refine (cC _ (hb1.alloc hb1.size _)).mono ?_
   rintro e w2 ⟨rfl, rfl⟩;go_wp2_with fail
   go_ret;exact ⟨rfl, hb1.alloc hb1.size _⟩
theorem PS.on1 {B : PE} {w : World} {s : St} (h : PS B w s) (hk : s.k < B.ts.length) : Aft B w (s.on 1) (w.setCell ⟨B.pb, 1, none⟩ (.int .i64 ((s.k : Int) + 1))) := by
 have := h.setK 1 (by have := h.lb; omega);rwa [show ((s.k + 1 : Nat) : Int) = (s.k : Int) + 1 by omega] at this
abbrev zTok : List Value := [.int .i64 0, .string ⟨#[]⟩, .int .i64 0]
abbrev tokL (t : Tk) : List Value := [.int .i64 (t.1 : Int), .string (bs t.2.1), .int .i64 (t.2.2 : Int)]
theorem zdx {B : PE} {w : World} {s : St} (h : PS B w s) (hk : s.k < B.ts.length) : Calls Tryz.prog 48 #[B.ptr] w fun e w' => e = .returned (tokV (tkA B.ts s.k)) ∧ Aft B w (s.on 1) w' := by
 have hl := h.lb;have hp := h.blk.lt;obtain ⟨W0, hW0⟩ : ∃ W0, w.alloc (.cells zTok.toArray 77) = W0 := ⟨_, rfl⟩;have hB0 : Below w.heap.size w W0 := by rw [← hW0]; exact (zJx _ _).alloc (zJw _) _
 have hX0 : Blk W0 w.heap.size 77 zTok.toArray := by rw [← hW0]; exact Blk.new w 77 _
 have cN := zbe (h.below hB0) hk;generalize ht : tkA B.ts s.k = t at cN ⊢;have H := zJv h;clear ht h;go_enter Tryz.func48, Tryz.ntmps48
 go_wp2_with fail
 with_reducible refine cN.mono ?_
 rintro e w1 ⟨rfl, hb1⟩;obtain ⟨W2, hW2⟩ : ∃ W2, w1.alloc (.cells (tokL t).toArray 77) = W2 := ⟨_, rfl⟩;have hB2 : Below W0.heap.size W0 W2 := by rw [← hW2]; exact hb1.alloc hb1.size _
 have hB02 : Below w.heap.size w W2 := hB0.trans (hB2.mono hB0.size);have hX2 : Blk W2 w1.heap.size 77 (tokL t).toArray := by rw [← hW2]; exact Blk.new w1 77 _
 have p2 := H.out.below hB02;have a3 := p2.on1 hk;have c1 := p2.blk.cell 1;have g1 := p2.blk.frozen 1;simp only [PE.cells, gA, gB, gC] at c1;have s0 := hB0.size;have s1 := hb1.size;have l0 := hX0.lt;obtain ⟨W3, hW3⟩ : ∃ W3, W2.setCell ⟨B.pb, 1, none⟩ (.int .i64 ((s.k : Int) + 1)) = W3 := ⟨_, rfl⟩;have hX3 : Blk W3 w1.heap.size 77 (tokL t).toArray := by rw [← hW3]; exact hX2.far (by dsimp only; omega) _
 have hY3 : Blk W3 w.heap.size 77 zTok.toArray := by rw [← hW3]; exact (hX0.below hB2 l0).far (by dsimp only; omega) _
 rw [hW3] at a3;have d0 := hX3.cell 0;have d1 := hX3.cell 1;have d2 := hX3.cell 2;have x0 := hY3.cell 0;have x1 := hY3.cell 1;have x2 := hY3.cell 2;have y0 := hY3.frozen 0;have y1 := hY3.frozen 1;have y2 := hY3.frozen 2;simp only [gA, gB, gC] at d0 d1 d2 x0 x1 x2;have A3 := zJv a3;have Y3 := zJv hY3;have B02 := zJv hB02;clear a3 hX3 hY3 hX2 hB2 hB02 hX0 p2 cN hb1 hB0;go_wp2_with fail
 have hZ := ((Y3.out.set_ 0 (.int .i64 (t.1 : Int))).set_ 1 (.string (bs t.2.1))).set_ 2 (.int .i64 (t.2.2 : Int));have q0 := hZ.cell 0;have q1 := hZ.cell 1;have q2 := hZ.cell 2;simp only [sA, sB, sC, gA, gB, gC] at q0 q1 q2;refine bodyPost_ret (v := tokV t) (by simp [results, Tryz.results48, go_sem, q0, q1, q2]) rfl ⟨rfl, ?_⟩;have e3 : ∀ b, b ≠ B.pb → W3.heap[b]? = W2.heap[b]? := fun b hb => by rw [← hW3]; exact zKp _ _ _ _ hb
 have hb3 : Below B.base w W3 := (B02.out.mono H.out.bw).trans A3.out.bel;have hbb := H.out.bw;refine H.out.moved (s.k + 1) s.op (ta2 _) (by omega) H.out.ob (((hb3.setCell (p := ⟨w.heap.size, 0, none⟩) hbb _).setCell (p := ⟨w.heap.size, 1, none⟩) hbb _).setCell (p := ⟨w.heap.size, 2, none⟩) hbb _) (((A3.out.ps.blk.far (by dsimp only; omega) _).far (by dsimp only; omega) _).far (by dsimp only; omega) _) (fun b hb1 hb2 => ?_);rw [zKp _ _ _ _ (by dsimp only; omega), zKp _ _ _ _ (by dsimp only; omega), zKp _ _ _ _ (by dsimp only; omega), e3 b hb2];exact B02.out.block b hb1
theorem zf4 {B : PE} {w : World} {s : St} (h : PS B w s) (hk : s.op ≠ 256) : Calls Tryz.prog 44 #[B.ptr] w fun e w' => e = .returned (.tuple #[]) ∧ Aft B w s.up w' := by
 have hp := h.blk.lt;have hob := h.ob;have c2 := h.blk.cell 2;have g2 := h.blk.frozen 2;simp only [PE.cells, gA, gB, gC] at c2;have h5 : ((s.op : Int) == 256) = false := by rw [zKr]; omega
 have a := h.up (by omega);rw [show ((s.op + 1 : Nat) : Int) = (s.op : Int) + 1 by omega] at a;have A := zJv a;clear a h;go_enter Tryz.func44, Tryz.ntmps44
 go_wp2
 go_end0
 exact ⟨rfl, A.out⟩
theorem zer {B : PE} {w : World} {s : St} (h : PS B w s) (hn : s.t1.length < 65536) (x : TermD) (q : Ptr3) (hq : TermOk (Lt w.heap.size) w x q) (hf : zdr x) :
 Calls Tryz.prog 114 #[B.ptr, .agg (za1 x q).toArray] w fun e w' => e = .returned (.int .i64 (s.t1.length : Nat)) ∧ Aft B w (s.addT x) w' := by
 obtain ⟨W0, hW0⟩ : ∃ W0, w.alloc (.cells (za1 x q).toArray 38) = W0 := ⟨_, rfl⟩;have hB0 : Below w.heap.size w W0 := by rw [← hW0]; exact (zJx _ _).alloc (zJw _) _
 have hX0 : Blk W0 w.heap.size 38 (za1 x q).toArray := by rw [← hW0]; exact Blk.new w 38 _
 have p0 := h.below hB0;obtain ⟨v1, v2, v3, r1, r2, r3, hB, e1, e2, e9⟩ := p0.built;have hl : r1.length = s.t1.length := by rw [← e1]; simp
 have hq0 : TermOk (Lt W0.heap.size) W0 x q := (hq.keep (zaa hB0)).imp (zc6 hB0.size);have cT := fun (W : World) (hW : Below W0.heap.size W0 W) => zqc B.base B.cb x q W (hB.tr.below hW) (by omega) ((hq0.keep (zaa hW)).imp (zc6 hW.size)) hf.1 hf.2.1 hf.2.2;have c4 := p0.blk.cell 4;simp only [PE.cells, gA, gB, gC] at c4;have hp := p0.blk.lt;have d0 := hX0.cell 0;have d1 := hX0.cell 1;have d2 := hX0.cell 2;have d3 := hX0.cell 3;have d4 := hX0.cell 4;have d5 := hX0.cell 5;have d6 := hX0.cell 6;have d7 := hX0.cell 7;simp only [za1, gA, gB, gC] at d0 d1 d2 d3 d4 d5 d6 d7;unfold za1 at hW0 cT ⊢;have P0 := zJv p0;have HB := zJv hB;have HL := zJv hl;have H := zJv h;have B0 := zJv hB0;have E1 := zJv e1;have E2 := zJv e2;have E9 := zJv e9;clear p0 hB hl h hB0 hq0 hX0 e1 e2 e9 hq;go_enter Tryz.func114, Tryz.ntmps114
 go_wp2
 go_region_with (go_at_call 137; refine (cT _ (by exact (zJx _ W0).drew)).mono ?_; rintro e w2 ⟨p', v', rfl, hT, hbel, hk, hnew, hv⟩)
 all_goals
  have hD : Below W0.heap.size W0 W0.drew := (zJx _ W0).drew;have a := (P0.out.below hD).pushT (HB.out.below hD) E1.out E2.out E9.out hf hn hT hbel hk hnew hv;have A := zJv ((H.out.aft (B0.out.trans (hD.mono B0.out.size))).trans a);have hl := HL.out;clear hT hbel hk hnew hv a;go_wp2
  go_ret;exact ⟨rfl, A.out⟩
theorem zfu {B : PE} {w : World} {s : St} (h : PS B w s) (hn : s.t2.length < 65536) (x : TypD) (q : Ptr2) (hq : TypOk (Lt w.heap.size) w x q) (hf : zff x) :
 Calls Tryz.prog 49 #[B.ptr, .agg (za4 x q).toArray] w fun e w' => e = .returned (.int .i64 (s.t2.length : Nat)) ∧ Aft B w (s.addY x) w' := by
 obtain ⟨W0, hW0⟩ : ∃ W0, w.alloc (.cells (za4 x q).toArray 40) = W0 := ⟨_, rfl⟩;have hB0 : Below w.heap.size w W0 := by rw [← hW0]; exact (zJx _ _).alloc (zJw _) _
 have hX0 : Blk W0 w.heap.size 40 (za4 x q).toArray := by rw [← hW0]; exact Blk.new w 40 _
 have p0 := h.below hB0;obtain ⟨v1, v2, v3, r1, r2, r3, hB, e1, e2, e9⟩ := p0.built;have hl : r2.length = s.t2.length := by rw [← e2]; simp
 have hq0 : TypOk (Lt W0.heap.size) W0 x q := (hq.keep (zaa hB0)).imp (zc6 hB0.size);have cT := fun (W : World) (hW : Below W0.heap.size W0 W) => zr0 B.base B.cb x q W (hB.tr.below hW) (by omega) ((hq0.keep (zaa hW)).imp (zc6 hW.size)) hf.1 hf.2;have c4 := p0.blk.cell 4;simp only [PE.cells, gA, gB, gC] at c4;have hp := p0.blk.lt;have d0 := hX0.cell 0;have d1 := hX0.cell 1;have d2 := hX0.cell 2;have d3 := hX0.cell 3;have d4 := hX0.cell 4;have d5 := hX0.cell 5;simp only [za4, gA, gB, gC] at d0 d1 d2 d3 d4 d5;unfold za4 at hW0 cT ⊢;have P0 := zJv p0;have HB := zJv hB;have HL := zJv hl;have H := zJv h;have B0 := zJv hB0;have E1 := zJv e1;have E2 := zJv e2;have E9 := zJv e9;clear p0 hB hl h hB0 hq0 hX0 e1 e2 e9 hq;go_enter Tryz.func49, Tryz.ntmps49
 go_wp2
 go_region_with (go_at_call 82; refine (cT _ (by exact (zJx _ W0).drew)).mono ?_; rintro e w2 ⟨p', v', rfl, hT, hbel, hk, hnew, hv⟩)
 all_goals
  have hD : Below W0.heap.size W0 W0.drew := (zJx _ W0).drew;have a := (P0.out.below hD).pushY (HB.out.below hD) E1.out E2.out E9.out hf hn hT hbel hk hnew hv;have A := zJv ((H.out.aft (B0.out.trans (hD.mono B0.out.size))).trans a);have hl := HL.out;clear hT hbel hk hnew hv a;go_wp2
  go_ret;exact ⟨rfl, A.out⟩
theorem end_d {B : PE} {w : World} {s : St} (h : PS B w s) (hk : 1 ≤ s.op) (u : FrameMode) : CallsD Tryz.prog 45 #[B.ptr] u w fun e u' w' => u' = u ∧ e = .returned (.tuple #[]) ∧ Aft B w s.down w' := by
 have hp := h.blk.lt;have hob := h.ob;have c2 := h.blk.cell 2;have g2 := h.blk.frozen 2;simp only [PE.cells, gA, gB, gC] at c2;have a := h.down;rw [show ((s.op - 1 : Nat) : Int) = (s.op : Int) - 1 by omega] at a;have A := zJv a;clear a h;go_enter_d Tryz.func45, Tryz.ntmps45
 go_wp2
 go_end0
 exact ⟨rfl, A.out⟩
theorem tokF0 (a c : Int) (s : ByteArray) (w : World) : (Instr.field 77 (.agg #[.int .i64 a, .string s, .int .i64 c]) 0).run Tryz.prog w = .ok (.int .i64 a) w := by kernel_rfl
theorem tokF1 (a c : Int) (s : ByteArray) (w : World) : (Instr.field 77 (.agg #[.int .i64 a, .string s, .int .i64 c]) 1).run Tryz.prog w = .ok (.string s) w := by kernel_rfl
theorem tokF2 (a c : Int) (s : ByteArray) (w : World) : (Instr.field 77 (.agg #[.int .i64 a, .string s, .int .i64 c]) 2).run Tryz.prog w = .ok (.int .i64 c) w := by kernel_rfl
theorem zcf {B : PE} {w : World} {s : St} (h : PS B w s) (hk : s.k < B.ts.length) (kind : Nat) (he : (tkA B.ts s.k).1 = kind) : Calls Tryz.prog 38 #[B.ptr, .int .i64 (kind : Int)] w fun e w' => e = .returned (tokV (tkA B.ts s.k)) ∧ Aft B w (s.on 1) w' := by
 obtain ⟨W0, hW0⟩ : ∃ W0, w.alloc (.cells zTok.toArray 77) = W0 := ⟨_, rfl⟩;have hB0 : Below w.heap.size w W0 := by rw [← hW0]; exact (zJx _ _).alloc (zJw _) _
 have hX0 : Blk W0 w.heap.size 77 zTok.toArray := by rw [← hW0]; exact Blk.new w 77 _
 have l0 := hX0.lt;have o0 := AftO.start h hB0 (fun b => b = w.heap.size) (fun b hb => by subst hb; exact ⟨zJw _, l0⟩);have cN : Calls Tryz.prog 70 #[B.ptr] W0 fun e w' => e = .returned (tokV (tkA B.ts s.k)) ∧ Below W0.heap.size W0 w' := zbe (B := B.with (fun b => b = w.heap.size)) o0.ps hk;have cX : ∀ (W : World), Below W0.heap.size W0 W → Calls Tryz.prog 48 #[B.ptr] W fun e w' => e = .returned (tokV (tkA B.ts s.k)) ∧ Aft (B.with (fun b => b = w.heap.size)) W (s.on 1) w' := fun W hW => zdx (B := B.with (fun b => b = w.heap.size)) (o0.ps.below hW) hk;generalize ht : tkA B.ts s.k = t at cN cX he ⊢;have hne : ((t.1 : Int) != (kind : Int)) = false := by rw [he]; simp
 have hfd := tokF0;clear he;have HB := h.bw;have O0 := zJv o0;have X0 := zJv hX0;clear ht h o0 hX0 hB0;go_enter Tryz.func38, Tryz.ntmps38
 go_wp2_with fail
 with_reducible refine cN.mono ?_
 rintro e w1 ⟨rfl, hb1⟩;clear hW0;go_wp2_with fail
 with_reducible refine (cX w1 hb1).mono ?_
 rintro e w2 ⟨rfl, a2⟩;have o1 := O0.out.below hb1;have hX2 : Blk w2 w.heap.size 77 zTok.toArray := (o1.same a2 rfl).trans (X0.out.below hb1 l0);have o2 := o1.call a2;have x0 := hX2.cell 0;have x1 := hX2.cell 1;have x2 := hX2.cell 2;have y0 := hX2.frozen 0;have y1 := hX2.frozen 1;have y2 := hX2.frozen 2;simp only [gA, gB, gC] at x0 x1 x2;have O2 := zJv o2;have Y2 := zJv hX2;clear a2 hX2 cN cX hb1 o1 o2;go_wp2_with fail
 have hZ := ((Y2.out.set_ 0 (.int .i64 (t.1 : Int))).set_ 1 (.string (bs t.2.1))).set_ 2 (.int .i64 (t.2.2 : Int));have q0 := hZ.cell 0;have q1 := hZ.cell 1;have q2 := hZ.cell 2;simp only [sA, sB, sC, gA, gB, gC] at q0 q1 q2;exact bodyPost_ret (v := tokV t) (by simp [results, Tryz.results38, go_sem, q0, q1, q2]) rfl ⟨rfl, (((O2.out.set rfl 0 _ HB).set rfl 1 _ HB).set rfl 2 _ HB).out⟩
set_option maxHeartbeats 8000000
abbrev nP3 : Ptr3 := ⟨none, 0, none, 0, none, 0⟩
abbrev zTerm : List Value := [.int .i64 0, .int .i64 0, .string ⟨#[]⟩, .int .i64 0, .int .u64 0, .slice none 0 0, .slice none 0 0, .slice none 0 0]
theorem zcm (l : List UInt8) : (bs l).size = l.length := by simp [bs, ByteArray.size]
theorem zn6 (l : List UInt8) : (bs l).data.toList = l := by simp [bs]
theorem zd7 {W : World} {g : Nat} {t : TypeId} {z0 z1 z2 z3 z4 z5 z6 z7 : Value} (h : Blk W g t [z0, z1, z2, z3, z4, z5, z6, z7].toArray) (v0 v1 v2 v3 v4 v5 v6 v7 : Value) : Blk ((((((((W.setCell ⟨g, 0, none⟩ v0).setCell ⟨g, 1, none⟩ v1).setCell ⟨g, 2, none⟩ v2).setCell ⟨g, 3, none⟩ v3).setCell ⟨g, 4, none⟩ v4).setCell ⟨g, 5, none⟩ v5).setCell ⟨g, 6, none⟩ v6).setCell ⟨g, 7, none⟩ v7) g t [v0, v1, v2, v3, v4, v5, v6, v7].toArray := by
 have := (((((((h.set_ 0 v0).set_ 1 v1).set_ 2 v2).set_ 3 v3).set_ 4 v4).set_ 5 v5).set_ 6 v6).set_ 7 v7;simpa using this
theorem zc9 {w W : World} {n g : Nat} (h : Below n w W) (hg : n ≤ g) (v0 v1 v2 v3 v4 v5 v6 v7 : Value) : Below n w ((((((((W.setCell ⟨g, 0, none⟩ v0).setCell ⟨g, 1, none⟩ v1).setCell ⟨g, 2, none⟩ v2).setCell ⟨g, 3, none⟩ v3).setCell ⟨g, 4, none⟩ v4).setCell ⟨g, 5, none⟩ v5).setCell ⟨g, 6, none⟩ v6).setCell ⟨g, 7, none⟩ v7) :=
 (((((((h.setCell (p := ⟨g, 0, none⟩) hg _).setCell (p := ⟨g, 1, none⟩) hg _).setCell (p := ⟨g, 2, none⟩) hg _).setCell (p := ⟨g, 3, none⟩) hg _).setCell (p := ⟨g, 4, none⟩) hg _).setCell (p := ⟨g, 5, none⟩) hg _).setCell (p := ⟨g, 6, none⟩) hg _).setCell (p := ⟨g, 7, none⟩) hg _
theorem zb5 {B : PE} {w : World} {s : St} (h : PS B w s) (hk : s.k < B.ts.length) (xs : List (List UInt8)) (n : Nat) (hn : xs.length = n) (hb : n ≤ 70000) (V : Array Value) (hV : V = (xs.map fun x => Value.string (bs x)).toArray) :
 Calls Tryz.prog 47 #[B.ptr, .slice (some ⟨w.heap.size, 0, none⟩) n n] (w.alloc (.cells V 9)) fun e w' => e = .returned (.bool (za2 (tkA B.ts s.k) xs)) ∧ Below w.heap.size w w' := by
 have hB0 : Below w.heap.size w (w.alloc (.cells V 9)) := (zJx _ _).alloc (zJw _) _;have hX : Blk (w.alloc (.cells V 9)) w.heap.size 9 V := Blk.new w 9 V;refine (zdu (h.below hB0) hk w.heap.size n n xs hn hb hX.lt (fun j x hx => ?_)).mono (fun e w' q => ⟨q.1, hB0.trans (q.2.mono hB0.size)⟩);rw [hX.cell j, hV];simp [hx]
abbrev zao (e : Nat) (p : Nat) : Value := .agg #[.int .i64 (e : Int), .int .i64 (p : Int), .string ⟨#[]⟩]
abbrev zbi (e p : Nat) : Ending := .panicked [{ v := .iface 30 (zao e p), recovered := false }]
theorem zct {B : PE} {w : World} {s : St} (h : PS B w s) (hk : s.k < B.ts.length) (c : Nat) : Calls Tryz.prog 71 #[B.ptr, .int .i64 (c : Int)] w fun e w' => e = .returned (zao c (tkA B.ts s.k).2.2) ∧ Below w.heap.size w w' := by
 obtain ⟨W0, hW0⟩ : ∃ W0, w.alloc (.cells #[.int .i64 0, .int .i64 0, .string ⟨#[]⟩] 30) = W0 := ⟨_, rfl⟩;have hB0 : Below w.heap.size w W0 := by rw [← hW0]; exact (zJx _ _).alloc (zJw _) _
 have hX0 : Blk W0 w.heap.size 30 #[.int .i64 0, .int .i64 0, .string ⟨#[]⟩] := by rw [← hW0]; exact Blk.new w 30 _
 have cN := zbe (h.below hB0) hk;generalize tkA B.ts s.k = t at cN ⊢;have hfd := tokF2;have X0 := zJv hX0;have B0 := zJv hB0;have l0 := hX0.lt;clear h hX0 hB0;go_enter Tryz.func71, Tryz.ntmps71
 go_wp2_with fail
 with_reducible refine cN.mono ?_
 rintro e w1 ⟨rfl, hb1⟩;have hX1 := X0.out.below hb1 l0;have x0 := hX1.cell 0;have x1 := hX1.cell 1;have x2 := hX1.cell 2;have y0 := hX1.frozen 0;have y1 := hX1.frozen 1;have y2 := hX1.frozen 2;simp only [gA, gB, gC] at x0 x1 x2;have X1 := zJv hX1;have B1 := zJv (B0.out.trans (hb1.mono B0.out.size));clear hX1 hb1 cN hW0;go_wp2_with fail
 have hZ := ((X1.out.set_ 0 (.int .i64 (c : Int))).set_ 1 (.int .i64 (t.2.2 : Int))).set_ 2 (.string ⟨#[]⟩);have q0 := hZ.cell 0;have q1 := hZ.cell 1;have q2 := hZ.cell 2;simp only [sA, sB, sC, gA, gB, gC] at q0 q1 q2;have h0 : w.heap.size ≤ w.heap.size := zJw _;exact bodyPost_ret (v := zao c t.2.2) (by simp [results, Tryz.results71, go_sem, q0, q1, q2]) rfl ⟨rfl, ((B1.out.setCell (p := ⟨w.heap.size, 0, none⟩) h0 _).setCell (p := ⟨w.heap.size, 1, none⟩) h0 _).setCell (p := ⟨w.heap.size, 2, none⟩) h0 _⟩
set_option maxRecDepth 100000 in
theorem zkx {B : PE} {w : World} {s : St} (h : PS B w s) (hk : s.k < B.ts.length) (x : TermD) (hx : leafM (tkA B.ts s.k) = some x) (hlen : (tkA B.ts s.k).2.1.length ≤ 1048576)
 (hint : (tkA B.ts s.k).1 = 4 → ∃ v, Lib.parseIntB 64 (tkA B.ts s.k).2.1 = .ok v) (hflt : (tkA B.ts s.k).1 = 5 → ∃ v, zdd (bs (tkA B.ts s.k).2.1) = some v) :
 Calls Tryz.prog 175 #[B.ptr] w fun e w' => e = .returned (.agg (za1 x nP3).toArray) ∧ Below w.heap.size w w' := by
 obtain ⟨W0, hW0⟩ : ∃ W0, w.alloc (.cells zTerm.toArray 38) = W0 := ⟨_, rfl⟩;have hB0 : Below w.heap.size w W0 := by rw [← hW0]; exact (zJx _ _).alloc (zJw _) _
 have hX0 : Blk W0 w.heap.size 38 zTerm.toArray := by rw [← hW0]; exact Blk.new w 38 _
 have cN := zbe (h.below hB0) hk;have cS := fun (x : List UInt8) (W : World) (hW : Below W0.heap.size W0 W) => zb5 ((h.below hB0).below hW) hk [x] 1 rfl (by decide) #[.string ⟨x.toArray⟩] rfl;have cW := fun (W : World) (hW : Below W0.heap.size W0 W) => zct ((h.below hB0).below hW) hk 4;have l0 := hX0.lt;generalize tkA B.ts s.k = t at cN hx hlen hint hflt cS cW;have hX := zJv hx;clear hx h;go_enter Tryz.func175, Tryz.ntmps175
 go_wp2_with fail
 with_reducible refine cN.mono ?_
 rintro e w1 ⟨rfl, hb1⟩;obtain ⟨W2, hW2⟩ : ∃ W2, w1.alloc (.cells (tokL t).toArray 77) = W2 := ⟨_, rfl⟩;have hB2 : Below W0.heap.size W0 W2 := by rw [← hW2]; exact hb1.alloc hb1.size _
 have hT2 : Blk W2 w1.heap.size 77 (tokL t).toArray := by rw [← hW2]; exact Blk.new w1 77 _
 have hX2 := hX0.below hB2 l0;have t0 := hT2.cell 0;have t1 := hT2.cell 1;have t2 := hT2.cell 2;simp only [gA, gB, gC] at t0 t1 t2;have x0 := hX2.cell 0;have x1 := hX2.cell 1;have x2 := hX2.cell 2;have x3 := hX2.cell 3;have x4 := hX2.cell 4;have x5 := hX2.cell 5;have x6 := hX2.cell 6;have x7 := hX2.cell 7;have y0 := hX2.frozen 0;have y1 := hX2.frozen 1;have y2 := hX2.frozen 2;have y3 := hX2.frozen 3;have y4 := hX2.frozen 4;have y5 := hX2.frozen 5;have y6 := hX2.frozen 6;have y7 := hX2.frozen 7;simp only [gA, gB, gC] at x0 x1 x2 x3 x4 x5 x6 x7;have XX := zJv hX2;have TT := zJv hT2;have BB := zJv (hB0.trans (hB2.mono hB0.size));have B2 := zJv hB2;clear hX2 hT2 hB2 hX0 hB0 cN hb1;by_cases e1 : t.1 = 1
 · have hx := hX.out
   unfold leafM at hx;rw [if_pos e1] at hx;have e1' : (t.1 : Int) = 1 := by omega
   rw [e1'] at t0;injection hx with hx
   subst hx;clear e1 e1' hX cS cW;go_wp2_with fail
   have hZ := zd7 XX.out (.int .i64 0) (.int .i64 (t.2.2 : Int)) (.string (bs t.2.1)) (.int .i64 0) (.int .u64 0) (.slice none 0 0) (.slice none 0 0) (.slice none 0 0);have q0 := hZ.cell 0;have q1 := hZ.cell 1;have q2 := hZ.cell 2;have q3 := hZ.cell 3;have q4 := hZ.cell 4;have q5 := hZ.cell 5;have q6 := hZ.cell 6;have q7 := hZ.cell 7;simp only [gA, gB, gC] at q0 q1 q2 q3 q4 q5 q6 q7;exact bodyPost_ret (v := .agg [.int .i64 0, .int .i64 (t.2.2 : Int), .string (bs t.2.1), .int .i64 0, .int .u64 0, .slice none 0 0, .slice none 0 0, .slice none 0 0].toArray) (by simp [results, Tryz.results175, go_sem, q0, q1, q2, q3, q4, q5, q6, q7]) rfl ⟨rfl, zc9 BB.out (zJw _) _ _ _ _ _ _ _ _⟩
 by_cases e6 : t.1 = 6
 · have hx := hX.out
   unfold leafM at hx;rw [if_neg e1, if_pos e6] at hx;have e6' : (t.1 : Int) = 6 := by omega
   rw [e6'] at t0;injection hx with hx
   subst hx;clear e6 e6' hX cS cW;go_wp2_with fail
   have hZ := zd7 XX.out (.int .i64 3) (.int .i64 (t.2.2 : Int)) (.string (bs t.2.1)) (.int .i64 0) (.int .u64 0) (.slice none 0 0) (.slice none 0 0) (.slice none 0 0);have q0 := hZ.cell 0;have q1 := hZ.cell 1;have q2 := hZ.cell 2;have q3 := hZ.cell 3;have q4 := hZ.cell 4;have q5 := hZ.cell 5;have q6 := hZ.cell 6;have q7 := hZ.cell 7;simp only [gA, gB, gC] at q0 q1 q2 q3 q4 q5 q6 q7;exact bodyPost_ret (v := .agg [.int .i64 3, .int .i64 (t.2.2 : Int), .string (bs t.2.1), .int .i64 0, .int .u64 0, .slice none 0 0, .slice none 0 0, .slice none 0 0].toArray) (by simp [results, Tryz.results175, go_sem, q0, q1, q2, q3, q4, q5, q6, q7]) rfl ⟨rfl, zc9 BB.out (zJw _) _ _ _ _ _ _ _ _⟩
 by_cases e4 : t.1 = 4
 · have hx := hX.out
   unfold leafM at hx;rw [if_neg e1, if_neg e6, if_pos e4] at hx;have e4' : (t.1 : Int) = 4 := by omega
   rw [e4'] at t0;obtain ⟨v, hp⟩ := hint e4;rw [hp] at hx;injection hx with hx
   subst hx;have cP := fun (W : World) => Tryz.strconv_ParseInt_10_at64_ok (bs t.2.1) (by rw [zcm]; omega) v (by rw [zn6]; exact hp) W;clear e1 e6 e4 e4' hX hp cS cW;go_wp2_with fail
   with_reducible refine (cP W2).mono ?_
   rintro e w4 ⟨rfl, hw4⟩
   have hb4 : Below W2.heap.size W2 w4 := by
    rcases hw4 with rfl | ⟨b, rfl⟩
    · exact zJx _ _
    · exact Go.Joins.below_bytesWorld _ _ _ _ (zJw _)
   have X4 := XX.out.below hb4 XX.out.lt;have l1 : w1.heap.size < W2.heap.size := by rw [← hW2]; simp
   have BB4 := zJv (BB.out.trans (hb4.mono BB.out.size));have r0 := (hb4.cell (p := ⟨w1.heap.size, 0, none⟩) l1).trans t0;have r1 := (hb4.cell (p := ⟨w1.heap.size, 1, none⟩) l1).trans t1;have r2 := (hb4.cell (p := ⟨w1.heap.size, 2, none⟩) l1).trans t2;clear x0 x1 x2 x3 x4 x5 x6 x7 y0 y1 y2 y3 y4 y5 y6 y7 t0 t1 t2;have x0 := X4.cell 0;have x1 := X4.cell 1;have x2 := X4.cell 2;have x3 := X4.cell 3;have x4 := X4.cell 4;have x5 := X4.cell 5;have x6 := X4.cell 6;have x7 := X4.cell 7;have y0 := X4.frozen 0;have y1 := X4.frozen 1;have y2 := X4.frozen 2;have y3 := X4.frozen 3;have y4 := X4.frozen 4;have y5 := X4.frozen 5;have y6 := X4.frozen 6;have y7 := X4.frozen 7;simp only [gA, gB, gC] at x0 x1 x2 x3 x4 x5 x6 x7;have XX4 := zJv X4;clear X4 hw4 hb4 cP;go_wp2_with fail
   have hZ := zd7 XX4.out (.int .i64 1) (.int .i64 (t.2.2 : Int)) (.string ⟨#[]⟩) (.int .i64 v) (.int .u64 0) (.slice none 0 0) (.slice none 0 0) (.slice none 0 0);have q0 := hZ.cell 0;have q1 := hZ.cell 1;have q2 := hZ.cell 2;have q3 := hZ.cell 3;have q4 := hZ.cell 4;have q5 := hZ.cell 5;have q6 := hZ.cell 6;have q7 := hZ.cell 7;simp only [gA, gB, gC] at q0 q1 q2 q3 q4 q5 q6 q7;exact bodyPost_ret (v := .agg [.int .i64 1, .int .i64 (t.2.2 : Int), .string ⟨#[]⟩, .int .i64 v, .int .u64 0, .slice none 0 0, .slice none 0 0, .slice none 0 0].toArray) (by simp [results, Tryz.results175, go_sem, q0, q1, q2, q3, q4, q5, q6, q7]) rfl ⟨rfl, zc9 BB4.out (zJw _) _ _ _ _ _ _ _ _⟩
 by_cases e5 : t.1 = 5
 · have hx := hX.out
   unfold leafM at hx;rw [if_neg e1, if_neg e6, if_neg e4, if_pos e5] at hx;have e5' : (t.1 : Int) = 5 := by omega
   rw [e5'] at t0;obtain ⟨v, hp⟩ := hflt e5;rw [hp] at hx;injection hx with hx
   subst hx;have cP := fun (W : World) => zpc (bs t.2.1) (by rw [zcm]; omega) W;rw [hp] at cP;unfold zf1 at cP;dsimp only at cP;clear e1 e6 e4 e5 e5' hX hp cS cW;go_wp2_with fail
   with_reducible refine (cP W2).mono ?_
   rintro e w4 ⟨rfl, rfl⟩;go_wp2_with fail
   have hZ := zd7 XX.out (.int .i64 4) (.int .i64 (t.2.2 : Int)) (.string ⟨#[]⟩) (.int .i64 0) (.int .u64 (norm v : Nat)) (.slice none 0 0) (.slice none 0 0) (.slice none 0 0);have q0 := hZ.cell 0;have q1 := hZ.cell 1;have q2 := hZ.cell 2;have q3 := hZ.cell 3;have q4 := hZ.cell 4;have q5 := hZ.cell 5;have q6 := hZ.cell 6;have q7 := hZ.cell 7;simp only [gA, gB, gC] at q0 q1 q2 q3 q4 q5 q6 q7;exact bodyPost_ret (v := .agg [.int .i64 4, .int .i64 (t.2.2 : Int), .string ⟨#[]⟩, .int .i64 0, .int .u64 (norm v : Nat), .slice none 0 0, .slice none 0 0, .slice none 0 0].toArray) (by simp [results, Tryz.results175, go_sem, q0, q1, q2, q3, q4, q5, q6, q7]) rfl ⟨rfl, zc9 BB.out (zJw _) _ _ _ _ _ _ _ _⟩
 by_cases htrue : za2 t [[116, 114, 117, 101]] = true
 · have hx := hX.out
   unfold leafM at hx;rw [if_neg e1, if_neg e6, if_neg e4, if_neg e5, if_pos htrue] at hx;injection hx with hx
   subst hx
   have e78 : t.1 = 7 ∨ t.1 = 8 := by
    unfold za2 at htrue;simp at htrue
    exact htrue.1
   have cA := cS [116, 114, 117, 101] W2 B2.out;rw [htrue] at cA;obtain ⟨kd, hkd⟩ : ∃ kd : Int, kd = (t.1 : Int) := ⟨_, rfl⟩;have k1 : (kd == 1) = false := by rw [zKr]; omega
   have k6 : (kd == 6) = false := by rw [zKr]; omega
   have k4 : (kd == 4) = false := by rw [zKr]; omega
   have k5 : (kd == 5) = false := by rw [zKr]; omega
   rw [← hkd] at t0;clear hX e1 e4 e5 e6 e78 hint hflt cW hkd;clear hW0;go_wp2_with fail
   refine cA.mono ?_;rintro e w4 ⟨rfl, hb4⟩;have X4 := XX.out.below hb4 XX.out.lt;have l1 : w1.heap.size < W2.heap.size := by rw [← hW2]; simp
   have BB4 := zJv (BB.out.trans (hb4.mono BB.out.size));have r0 := (hb4.cell (p := ⟨w1.heap.size, 0, none⟩) l1).trans t0;have r1 := (hb4.cell (p := ⟨w1.heap.size, 1, none⟩) l1).trans t1;have r2 := (hb4.cell (p := ⟨w1.heap.size, 2, none⟩) l1).trans t2;clear x0 x1 x2 x3 x4 x5 x6 x7 y0 y1 y2 y3 y4 y5 y6 y7 t0 t1 t2;have x0 := X4.cell 0;have x1 := X4.cell 1;have x2 := X4.cell 2;have x3 := X4.cell 3;have x4 := X4.cell 4;have x5 := X4.cell 5;have x6 := X4.cell 6;have x7 := X4.cell 7;have y0 := X4.frozen 0;have y1 := X4.frozen 1;have y2 := X4.frozen 2;have y3 := X4.frozen 3;have y4 := X4.frozen 4;have y5 := X4.frozen 5;have y6 := X4.frozen 6;have y7 := X4.frozen 7;simp only [gA, gB, gC] at x0 x1 x2 x3 x4 x5 x6 x7;have XX4 := zJv X4;clear X4 hb4 cA cS;go_wp2_with fail
   have hZ := zd7 XX4.out (.int .i64 2) (.int .i64 (t.2.2 : Int)) (.string ⟨#[]⟩) (.int .i64 1) (.int .u64 0) (.slice none 0 0) (.slice none 0 0) (.slice none 0 0);have q0 := hZ.cell 0;have q1 := hZ.cell 1;have q2 := hZ.cell 2;have q3 := hZ.cell 3;have q4 := hZ.cell 4;have q5 := hZ.cell 5;have q6 := hZ.cell 6;have q7 := hZ.cell 7;simp only [gA, gB, gC] at q0 q1 q2 q3 q4 q5 q6 q7;exact bodyPost_ret (v := .agg [.int .i64 2, .int .i64 (t.2.2 : Int), .string ⟨#[]⟩, .int .i64 1, .int .u64 0, .slice none 0 0, .slice none 0 0, .slice none 0 0].toArray) (by simp [results, Tryz.results175, go_sem, q0, q1, q2, q3, q4, q5, q6, q7]) rfl ⟨rfl, zc9 BB4.out (zJw _) _ _ _ _ _ _ _ _⟩
 by_cases hfalse : za2 t [[102, 97, 108, 115, 101]] = true
 · have hx := hX.out
   unfold leafM at hx;rw [if_neg e1, if_neg e6, if_neg e4, if_neg e5, if_neg htrue, if_pos hfalse] at hx;injection hx with hx
   subst hx
   have e78 : t.1 = 7 ∨ t.1 = 8 := by
    unfold za2 at hfalse;simp at hfalse
    exact hfalse.1
   have cA := cS [116, 114, 117, 101] W2 B2.out;rw [show za2 t [[116, 114, 117, 101]] = false by simpa using htrue] at cA;have cB := fun W hW => cS [102, 97, 108, 115, 101] W hW;rw [hfalse] at cB;obtain ⟨kd, hkd⟩ : ∃ kd : Int, kd = (t.1 : Int) := ⟨_, rfl⟩;have k1 : (kd == 1) = false := by rw [zKr]; omega
   have k6 : (kd == 6) = false := by rw [zKr]; omega
   have k4 : (kd == 4) = false := by rw [zKr]; omega
   have k5 : (kd == 5) = false := by rw [zKr]; omega
   rw [← hkd] at t0;clear hX e1 e4 e5 e6 e78 hint hflt cW hkd;clear hW0;go_wp2_with fail
   refine cA.mono ?_;rintro e w4 ⟨rfl, hb4⟩;have hb04 := B2.out.trans (hb4.mono B2.out.size);go_wp2_with fail
   refine (cB w4 hb04).mono ?_;rintro e w5 ⟨rfl, hb5'⟩;replace hb4 := hb4.trans (hb5'.mono hb4.size)
   clear hb04 hb5';have X4 := XX.out.below hb4 XX.out.lt;have l1 : w1.heap.size < W2.heap.size := by rw [← hW2]; simp
   have BB4 := zJv (BB.out.trans (hb4.mono BB.out.size));have r0 := (hb4.cell (p := ⟨w1.heap.size, 0, none⟩) l1).trans t0;have r1 := (hb4.cell (p := ⟨w1.heap.size, 1, none⟩) l1).trans t1;have r2 := (hb4.cell (p := ⟨w1.heap.size, 2, none⟩) l1).trans t2;clear x0 x1 x2 x3 x4 x5 x6 x7 y0 y1 y2 y3 y4 y5 y6 y7 t0 t1 t2;have x0 := X4.cell 0;have x1 := X4.cell 1;have x2 := X4.cell 2;have x3 := X4.cell 3;have x4 := X4.cell 4;have x5 := X4.cell 5;have x6 := X4.cell 6;have x7 := X4.cell 7;have y0 := X4.frozen 0;have y1 := X4.frozen 1;have y2 := X4.frozen 2;have y3 := X4.frozen 3;have y4 := X4.frozen 4;have y5 := X4.frozen 5;have y6 := X4.frozen 6;have y7 := X4.frozen 7;simp only [gA, gB, gC] at x0 x1 x2 x3 x4 x5 x6 x7;have XX4 := zJv X4;clear X4 hb4 cA cB cS;go_wp2_with fail
   have hZ := zd7 XX4.out (.int .i64 2) (.int .i64 (t.2.2 : Int)) (.string ⟨#[]⟩) (.int .i64 0) (.int .u64 0) (.slice none 0 0) (.slice none 0 0) (.slice none 0 0);have q0 := hZ.cell 0;have q1 := hZ.cell 1;have q2 := hZ.cell 2;have q3 := hZ.cell 3;have q4 := hZ.cell 4;have q5 := hZ.cell 5;have q6 := hZ.cell 6;have q7 := hZ.cell 7;simp only [gA, gB, gC] at q0 q1 q2 q3 q4 q5 q6 q7;exact bodyPost_ret (v := .agg [.int .i64 2, .int .i64 (t.2.2 : Int), .string ⟨#[]⟩, .int .i64 0, .int .u64 0, .slice none 0 0, .slice none 0 0, .slice none 0 0].toArray) (by simp [results, Tryz.results175, go_sem, q0, q1, q2, q3, q4, q5, q6, q7]) rfl ⟨rfl, zc9 BB4.out (zJw _) _ _ _ _ _ _ _ _⟩
 exfalso
 have hx := hX.out;unfold leafM at hx;rw [if_neg e1, if_neg e6, if_neg e4, if_neg e5, if_neg htrue, if_neg hfalse] at hx;cases hx
set_option maxRecDepth 100000 in
theorem zDy {B : PE} {w : World} {s : St} (h : PS B w s) (hk : s.k < B.ts.length) (hx : leafM (tkA B.ts s.k) = none) :
 Calls Tryz.prog 175 #[B.ptr] w fun e w' => e = zbi 4 (tkA B.ts s.k).2.2 ∧ Below w.heap.size w w' := by
 obtain ⟨W0, hW0⟩ : ∃ W0, w.alloc (.cells zTerm.toArray 38) = W0 := ⟨_, rfl⟩;have hB0 : Below w.heap.size w W0 := by rw [← hW0]; exact (zJx _ _).alloc (zJw _) _
 have hX0 : Blk W0 w.heap.size 38 zTerm.toArray := by rw [← hW0]; exact Blk.new w 38 _
 have cN := zbe (h.below hB0) hk;have cS := fun (x : List UInt8) (W : World) (hW : Below W0.heap.size W0 W) => zb5 ((h.below hB0).below hW) hk [x] 1 rfl (by decide) #[.string ⟨x.toArray⟩] rfl;have cW := fun (W : World) (hW : Below W0.heap.size W0 W) => zct ((h.below hB0).below hW) hk 4;have l0 := hX0.lt;generalize tkA B.ts s.k = t at cN hx cS cW ⊢;have hX := zJv hx;clear hx h;go_enter Tryz.func175, Tryz.ntmps175
 go_wp2_with fail
 with_reducible refine cN.mono ?_
 rintro e w1 ⟨rfl, hb1⟩;obtain ⟨W2, hW2⟩ : ∃ W2, w1.alloc (.cells (tokL t).toArray 77) = W2 := ⟨_, rfl⟩;have hB2 : Below W0.heap.size W0 W2 := by rw [← hW2]; exact hb1.alloc hb1.size _
 have hT2 : Blk W2 w1.heap.size 77 (tokL t).toArray := by rw [← hW2]; exact Blk.new w1 77 _
 have hX2 := hX0.below hB2 l0;have t0 := hT2.cell 0;have t1 := hT2.cell 1;have t2 := hT2.cell 2;simp only [gA, gB, gC] at t0 t1 t2;have x0 := hX2.cell 0;have x1 := hX2.cell 1;have x2 := hX2.cell 2;have x3 := hX2.cell 3;have x4 := hX2.cell 4;have x5 := hX2.cell 5;have x6 := hX2.cell 6;have x7 := hX2.cell 7;have y0 := hX2.frozen 0;have y1 := hX2.frozen 1;have y2 := hX2.frozen 2;have y3 := hX2.frozen 3;have y4 := hX2.frozen 4;have y5 := hX2.frozen 5;have y6 := hX2.frozen 6;have y7 := hX2.frozen 7;simp only [gA, gB, gC] at x0 x1 x2 x3 x4 x5 x6 x7;have XX := zJv hX2;have TT := zJv hT2;have BB := zJv (hB0.trans (hB2.mono hB0.size));have B2 := zJv hB2;clear hX2 hT2 hB2 hX0 hB0 cN hb1;have hx := hX.out;unfold leafM at hx;have e1 : t.1 ≠ 1 := fun e => by simp [e] at hx
 have e6 : t.1 ≠ 6 := fun e => by simp [e] at hx
 have e4 : t.1 ≠ 4 := fun e => by simp [e] at hx
 have e5 : t.1 ≠ 5 := fun e => by simp [e] at hx
 rw [if_neg e1, if_neg e6, if_neg e4, if_neg e5] at hx
 have htrue : za2 t [[116, 114, 117, 101]] = false := by
  by_cases q : za2 t [[116, 114, 117, 101]] = true
  · rw [if_pos q] at hx; cases hx
  · simpa using q
 rw [htrue] at hx
 have hfalse : za2 t [[102, 97, 108, 115, 101]] = false := by
  by_cases q : za2 t [[102, 97, 108, 115, 101]] = true
  · rw [if_pos q] at hx; simp at hx
  · simpa using q
 have cA := cS [116, 114, 117, 101] W2 B2.out;rw [htrue] at cA;have cB := fun W hW => cS [102, 97, 108, 115, 101] W hW;rw [hfalse] at cB;obtain ⟨kd, hkd⟩ : ∃ kd : Int, kd = (t.1 : Int) := ⟨_, rfl⟩;have k1 : (kd == 1) = false := by rw [zKr]; omega
 have k6 : (kd == 6) = false := by rw [zKr]; omega
 have k4 : (kd == 4) = false := by rw [zKr]; omega
 have k5 : (kd == 5) = false := by rw [zKr]; omega
 rw [← hkd] at t0;clear hX hx e1 e4 e5 e6 htrue hfalse hkd cS hW0;go_wp2_with fail
 refine cA.mono ?_;rintro e w4 ⟨rfl, hb4⟩;have hb04 := B2.out.trans (hb4.mono B2.out.size);go_wp2_with fail
 refine (cB w4 hb04).mono ?_;rintro e w5 ⟨rfl, hb5⟩;have hb05 := hb04.trans (hb5.mono hb04.size);go_wp2_with fail
 refine (cW w5 hb05).mono ?_;rintro e w6 ⟨rfl, hb6⟩;have BB6 := zJv (((BB.out.trans (hb4.mono BB.out.size)).trans (hb5.mono (zK4 BB.out.size hb4.size))).trans (hb6.mono (zK4 BB.out.size (zK4 hb4.size hb5.size))));clear hb4 hb04 hb5 hb05 hb6 cA cB cW;go_wp2_with fail
 exact ⟨rfl, rfl, BB6.out⟩
end Go.Proofs.YtidmeodmkcomlaaGreatDoor
