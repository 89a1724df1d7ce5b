/- Words, signs, tokens and names that must stand there; what is put in, or is too much; a rule that is opened. A name, or a tag, that its owner may have -/
import Derived.Test.YtidmeodmkcomlaaGreatDoorK13
set_option linter.unusedSimpArgs false
set_option linter.unusedVariables false
namespace Go.Proofs.YtidmeodmkcomlaaGreatDoor
open Go Go.Proofs Go.RowKit
structure TsOk (ts : List Tk) : Prop where
 pos : 0 < ts.length
 last : (tkA ts (ts.length - 1)).1 = 0
 len : ∀ k, (tkA ts k).2.1.length ≤ 1048576
 int : ∀ k, (tkA ts k).1 = 4 → ∃ v, Lib.parseIntB 64 (tkA ts k).2.1 = .ok v
 flt : ∀ k, (tkA ts k).1 = 5 → ∃ v, zdd (bs (tkA ts k).2.1) = some v
 plc : ∀ k, (tkA ts k).2.2 ≤ 1048576
 few : ts.length ≤ 16384
theorem TsOk.step {ts : List Tk} (h : TsOk ts) {k : Nat} (hk : k < ts.length) (h0 : (tkA ts k).1 ≠ 0) : k + 1 < ts.length := by
 have := h.last;rcases Nat.lt_or_ge (k + 1) ts.length with q | q
 · exact q
 · rw [show ts.length - 1 = k by omega] at this
   exact absurd this h0
theorem za0 {t : Tk} {l : List (List UInt8)} (h : za2 t l = true) : t.1 ≠ 0 := by
 unfold za2 at h;simp at h
 omega
def Res {α : Type} (V : α → Value) (B : PE) (w : World) (s0 : St) (r : R3 α) (e : Ending) (w' : World) : Prop :=
 match r with
 | .ok i s' => e = .returned (V i) ∧ Aft B w s' w'
 | .bad c p => e = zbi c p ∧ ∃ s1 : St, s1.op = s0.op ∧ Aft B w s1 w'
 | .un => True
abbrev natV (i : Nat) : Value := .int .i64 (i : Int)
abbrev strV' (x : List UInt8) : Value := .string (bs x)
theorem zhh {B : PE} {w : World} {s : St} (h : PS B w s) (hk : s.k < B.ts.length) (x : List UInt8) (hx : za2 (tkA B.ts s.k) [x] = true) :
 Calls Tryz.prog 40 #[B.ptr, .string ⟨x.toArray⟩] w fun e w' => e = .returned (.bool true) ∧ Aft B w (s.on 1) w' := by
 have cS := zb5 h hk [x] 1 rfl (by decide) #[.string ⟨x.toArray⟩] rfl;rw [hx] at cS;have H := zJv h;clear h;go_enter Tryz.func40, Tryz.ntmps40
 go_wp2_with fail
 refine cS.mono ?_;rintro e w1 ⟨rfl, hb1⟩;have p1 := H.out.below hb1;have c1 := p1.blk.cell 1;have g1 := p1.blk.frozen 1;simp only [PE.cells, gA, gB, gC] at c1;have a2 := p1.on1 hk;have hl := p1.lb;have A2 := zJv ((H.out.aft hb1).trans a2);clear a2 p1 hb1 cS;go_wp2_with fail
 go_ret;exact ⟨rfl, A2.out⟩
theorem zh5 {B : PE} {w : World} {s : St} (h : PS B w s) (hk : s.k < B.ts.length) (x : List UInt8) (hx : za2 (tkA B.ts s.k) [x] = false) :
 Calls Tryz.prog 40 #[B.ptr, .string ⟨x.toArray⟩] w fun e w' => e = .returned (.bool false) ∧ Below w.heap.size w w' := by
 have cS := zb5 h hk [x] 1 rfl (by decide) #[.string ⟨x.toArray⟩] rfl;rw [hx] at cS;clear h;go_enter Tryz.func40, Tryz.ntmps40
 go_wp2_with fail
 refine cS.mono ?_;rintro e w1 ⟨rfl, hb1⟩;go_wp2_with fail
 go_ret;exact ⟨rfl, hb1⟩
theorem ziw {B : PE} {w : World} {s : St} (h : PS B w s) (hk : s.k < B.ts.length) (x : List UInt8) (hx : za2 (tkA B.ts s.k) [x] = true) :
 Calls Tryz.prog 41 #[B.ptr, .string ⟨x.toArray⟩] w fun e w' => e = .returned (.tuple #[]) ∧ Aft B w (s.on 1) w' := by
 have cT := zhh h hk x hx;clear h;go_enter Tryz.func41, Tryz.ntmps41
 go_wp2_with fail
 refine cT.mono ?_;rintro e w1 ⟨rfl, a1⟩;have A1 := zJv a1;clear a1 cT;go_wp2_with fail
 go_end0
 exact ⟨rfl, A1.out⟩
theorem zFl {B : PE} {w : World} {s : St} (h : PS B w s) (hk : s.k < B.ts.length) (x : List UInt8) (hx : za2 (tkA B.ts s.k) [x] = false) :
 Calls Tryz.prog 41 #[B.ptr, .string ⟨x.toArray⟩] w fun e w' => e = zbi 4 (tkA B.ts s.k).2.2 ∧ Below w.heap.size w w' := by
 have cT := zh5 h hk x hx;have cW := fun (W : World) (hW : Below w.heap.size w W) => zct (h.below hW) hk 4;generalize tkA B.ts s.k = t at cW ⊢;clear h hx;go_enter Tryz.func41, Tryz.ntmps41
 go_wp2_with fail
 refine cT.mono ?_;rintro e w1 ⟨rfl, hb1⟩;go_wp2_with fail
 refine (cW w1 hb1).mono ?_;rintro e w2 ⟨rfl, hb2⟩;have hb := hb1.trans (hb2.mono hb1.size);clear hb1 hb2 cW cT;go_wp2_with fail
 exact ⟨rfl, rfl, hb⟩
theorem zD0 {B : PE} {w : World} {s : St} (h : PS B w s) (hk : s.k < B.ts.length) (x : List UInt8) : Calls Tryz.prog 41 #[B.ptr, .string ⟨x.toArray⟩] w (Res (fun _ => .tuple #[]) B w s (mustM B.ts x s)) := by
 unfold mustM;by_cases hx : za2 (tkA B.ts s.k) [x] = true
 · rw [if_pos hx]
   exact ziw h hk x hx
 · rw [if_neg hx]
   exact (zFl h hk x (by simpa using hx)).mono (fun e w' q => ⟨q.1, s, rfl, h.aft q.2⟩)
theorem zil {B : PE} {w : World} {s : St} (h : PS B w s) (hk : s.k < B.ts.length) (kind : Nat) (he : (tkA B.ts s.k).1 ≠ kind) : Calls Tryz.prog 38 #[B.ptr, .int .i64 (kind : Int)] w fun e w' => e = zbi 4 (tkA B.ts s.k).2.2 ∧ Below w.heap.size w w' := by
 obtain ⟨W0, hW0⟩ : ∃ W0, w.alloc (.cells zTok.toArray 77) = W0 := ⟨_, rfl⟩;have hB0 : Below w.heap.size w W0 := by rw [← hW0]; exact (zJx _ _).alloc (zJw _) _
 have cN := zbe (h.below hB0) hk;have cW := fun (W : World) (hW : Below w.heap.size w W) => zct (h.below hW) hk 4;generalize ht : tkA B.ts s.k = t at cN cW he ⊢;have hne : ((t.1 : Int) != (kind : Int)) = true := by simp; omega
 have hfd := tokF0;have HB0 := zJv hB0;clear he ht h hB0;go_enter Tryz.func38, Tryz.ntmps38
 go_wp2_with fail
 with_reducible refine cN.mono ?_
 rintro e w1 ⟨rfl, hb1⟩;have hb2 := HB0.out.trans (hb1.mono HB0.out.size);go_wp2_with fail
 refine (cW w1 hb2).mono ?_;rintro e w2 ⟨rfl, hb3⟩;have hb := hb2.trans (hb3.mono hb2.size);clear hb1 hb2 hb3 cW cN hW0;go_wp2_with fail
 exact ⟨rfl, rfl, hb⟩
theorem zwz {B : PE} {w : World} {s : St} (h : PS B w s) (hk : s.k < B.ts.length) (kind : Nat) : Calls Tryz.prog 38 #[B.ptr, .int .i64 (kind : Int)] w (Res tokV B w s (zag B.ts kind s)) := by
 unfold zag;by_cases hx : (tkA B.ts s.k).1 = kind
 · rw [if_pos hx]
   exact zcf h hk kind hx
 · rw [if_neg hx]
   exact (zil h hk kind hx).mono (fun e w' q => ⟨q.1, s, rfl, h.aft q.2⟩)
theorem zhf {B : PE} {w : World} {s : St} (h : PS B w s) (hk : s.k < B.ts.length) (ho : s.op = 256) : Calls Tryz.prog 44 #[B.ptr] w fun e w' => e = zbi 5 (tkA B.ts s.k).2.2 ∧ Below w.heap.size w w' := by
 have hp := h.blk.lt;have c2 := h.blk.cell 2;simp only [PE.cells, gA, gB, gC] at c2;rw [ho] at c2;have cW : Calls Tryz.prog 71 #[B.ptr, .int .i64 5] w fun e w' => e = .returned (zao 5 (tkA B.ts s.k).2.2) ∧ Below w.heap.size w w' := zct h hk 5;generalize tkA B.ts s.k = t at cW ⊢;clear h;go_enter Tryz.func44, Tryz.ntmps44
 go_wp2_with fail
 refine cW.mono ?_;rintro e w1 ⟨rfl, hb1⟩;go_wp2_with fail
 exact ⟨rfl, rfl, hb1⟩
theorem zs3 {B : PE} {w : World} {s : St} (h : PS B w s) (hn : ¬ s.t1.length < 65536) (x : TermD) (q : Ptr3) :
 Calls Tryz.prog 114 #[B.ptr, .agg (za1 x q).toArray] w fun e w' => e = zbi 6 0 ∧ Below w.heap.size w w' := by
 obtain ⟨W0, hW0⟩ : ∃ W0, w.alloc (.cells (za1 x q).toArray 38) = W0 := ⟨_, rfl⟩;have hB0 : Below w.heap.size w W0 := by rw [← hW0]; exact (zJx _ _).alloc (zJw _) _
 have hX0 : Blk W0 w.heap.size 38 (za1 x q).toArray := by rw [← hW0]; exact Blk.new w 38 _
 have p0 := h.below hB0;obtain ⟨v1, v2, v3, r1, r2, r3, hB, e1, e2, e9⟩ := p0.built;have hl : r1.length = s.t1.length := by rw [← e1]; simp
 have hn1 := h.n1;have cT := fun (W : World) (hW : Below W0.heap.size W0 W) => zAb B.base B.cb x q W (hB.tr.below hW) (by omega);have c4 := p0.blk.cell 4;simp only [PE.cells, gA, gB, gC] at c4;have hp := p0.blk.lt;have d0 := hX0.cell 0;have d1 := hX0.cell 1;have d2 := hX0.cell 2;have d3 := hX0.cell 3;have d4 := hX0.cell 4;have d5 := hX0.cell 5;have d6 := hX0.cell 6;have d7 := hX0.cell 7;simp only [za1, gA, gB, gC] at d0 d1 d2 d3 d4 d5 d6 d7;unfold za1 at hW0 cT ⊢;have B0 := zJv hB0;clear p0 hB hl h hB0 hX0 e1 e2 hn hn1;go_enter Tryz.func114, Tryz.ntmps114
 go_wp2
 go_region_with (go_at_call 137; refine (cT _ (by exact (zJx _ W0).drew)).mono ?_; rintro e w2 ⟨rfl, hb2⟩)
 all_goals
  have hD : Below W0.heap.size W0 W0.drew := (zJx _ W0).drew;have A := zJv (B0.out.trans ((hD.trans hb2).mono B0.out.size));clear hb2;go_wp2
  exact ⟨rfl, rfl, A.out⟩
theorem zs5 {B : PE} {w : World} {s : St} (h : PS B w s) (hn : ¬ s.t2.length < 65536) (x : TypD) (q : Ptr2) :
 Calls Tryz.prog 49 #[B.ptr, .agg (za4 x q).toArray] w fun e w' => e = zbi 6 0 ∧ Below w.heap.size w w' := by
 obtain ⟨W0, hW0⟩ : ∃ W0, w.alloc (.cells (za4 x q).toArray 40) = W0 := ⟨_, rfl⟩;have hB0 : Below w.heap.size w W0 := by rw [← hW0]; exact (zJx _ _).alloc (zJw _) _
 have hX0 : Blk W0 w.heap.size 40 (za4 x q).toArray := by rw [← hW0]; exact Blk.new w 40 _
 have p0 := h.below hB0;obtain ⟨v1, v2, v3, r1, r2, r3, hB, e1, e2, e9⟩ := p0.built;have hl : r2.length = s.t2.length := by rw [← e2]; simp
 have hn1 := h.n2;have cT := fun (W : World) (hW : Below W0.heap.size W0 W) => zAg B.base B.cb x q W (hB.tr.below hW) (by omega);have c4 := p0.blk.cell 4;simp only [PE.cells, gA, gB, gC] at c4;have hp := p0.blk.lt;have d0 := hX0.cell 0;have d1 := hX0.cell 1;have d2 := hX0.cell 2;have d3 := hX0.cell 3;have d4 := hX0.cell 4;have d5 := hX0.cell 5;simp only [za4, gA, gB, gC] at d0 d1 d2 d3 d4 d5;unfold za4 at hW0 cT ⊢;have B0 := zJv hB0;clear p0 hB hl h hB0 hX0 e1 e2 hn hn1;go_enter Tryz.func49, Tryz.ntmps49
 go_wp2
 go_region_with (go_at_call 82; refine (cT _ (by exact (zJx _ W0).drew)).mono ?_; rintro e w2 ⟨rfl, hb2⟩)
 all_goals
  have hD : Below W0.heap.size W0 W0.drew := (zJx _ W0).drew;have A := zJv (B0.out.trans ((hD.trans hb2).mono B0.out.size));clear hb2;go_wp2
  exact ⟨rfl, rfl, A.out⟩
theorem zl2 {B : PE} {w : World} {s : St} (h : PS B w s) (x : TermD) (q : Ptr3) (hq : TermOk (Lt w.heap.size) w x q) (hf : zdr x) :
 Calls Tryz.prog 114 #[B.ptr, .agg (za1 x q).toArray] w (Res natV B w s (newT s x)) := by
 unfold newT;by_cases hn : s.t1.length < 65536
 · rw [if_pos hn]
   exact zer h hn x q hq hf
 · rw [if_neg hn]
   exact (zs3 h hn x q).mono (fun e w' q => ⟨q.1, s, rfl, h.aft q.2⟩)
theorem zin {B : PE} {w : World} {s : St} (h : PS B w s) (x : TypD) (q : Ptr2) (hq : TypOk (Lt w.heap.size) w x q) (hf : zff x) :
 Calls Tryz.prog 49 #[B.ptr, .agg (za4 x q).toArray] w (Res natV B w s (newY s x)) := by
 unfold newY;by_cases hn : s.t2.length < 65536
 · rw [if_pos hn]
   exact zfu h hn x q hq hf
 · rw [if_neg hn]
   exact (zs5 h hn x q).mono (fun e w' q => ⟨q.1, s, rfl, h.aft q.2⟩)
set_option maxHeartbeats 8000000
set_option maxRecDepth 100000 in
theorem zIq {B : PE} {w : World} {s : St} (h : PS B w s) (hk : s.k < B.ts.length) (owner kind : Nat) (ho : owner ≤ 4294967296) (hlen : (tkA B.ts s.k).2.1.length ≤ 1048576) (he : (tkA B.ts s.k).1 = kind) (hm : s.m.contains (owner, (tkA B.ts s.k).2.1) = false) :
 Calls Tryz.prog 115 #[B.ptr, .int .i64 (owner : Int), .int .i64 (kind : Int)] w fun e w' => e = .returned (strV' (tkA B.ts s.k).2.1) ∧ Aft B w ((s.on 1).met (owner, (tkA B.ts s.k).2.1)) w' := by
 have cT := zcf h hk kind he;generalize tkA B.ts s.k = t at cT hm hlen he ⊢;obtain ⟨l, hl⟩ := zq8 (owner, t.2.1) ho hlen;have H := zJv h;have h0 := And.intro h.mle h.kb;clear h he;go_enter Tryz.func115, Tryz.ntmps115
 go_wp2_with fail
 with_reducible refine cT.mono ?_
 rintro e w1 ⟨rfl, a1⟩;obtain ⟨W2, hW2⟩ : ∃ W2, (w1.alloc (.cells (tokL t).toArray 77)).alloc (.cells #[.int .i64 (owner : Int), .string (bs t.2.1)] 152) = W2 := ⟨_, rfl⟩;have hb2 : Below w1.heap.size w1 W2 := by rw [← hW2]; exact ((zJx _ _).alloc (zJw _) _).alloc (by simp) _
 have hK2 : Blk W2 (w1.heap.size + 1) 152 #[.int .i64 (owner : Int), .string (bs t.2.1)] := by
  rw [← hW2];have := Blk.new (w1.alloc (.cells (tokL t).toArray 77)) 152 #[.int .i64 (owner : Int), .string (bs t.2.1)];simpa using this
 have k0 := hK2.cell 0;have k1 := hK2.cell 1;simp only [gA, gB, gC] at k0 k1
 have tk1 : W2.cell? ⟨w1.heap.size, 1, none⟩ = some (.string (bs t.2.1)) := by
  have hX : Blk (w1.alloc (.cells (tokL t).toArray 77)) w1.heap.size 77 (tokL t).toArray := Blk.new w1 77 _;rw [← hW2];exact (((zJx _ _).alloc (zJw _) _).cell (p := ⟨w1.heap.size, 1, none⟩) hX.lt).trans (hX.cell 1)
 have tk2 : W2.cell? ⟨w1.heap.size, 2, none⟩ = some (.int .i64 (t.2.2 : Int)) := by
  have hX : Blk (w1.alloc (.cells (tokL t).toArray 77)) w1.heap.size 77 (tokL t).toArray := Blk.new w1 77 _;rw [← hW2];exact (((zJx _ _).alloc (zJw _) _).cell (p := ⟨w1.heap.size, 2, none⟩) hX.lt).trans (hX.cell 2)
 have p2 := a1.ps.below hb2;have c3 := p2.blk.cell 3;simp only [PE.cells, gA, gB, gC] at c3;have mp2 : MapAt W2 B.mb s.m := p2.mp;have hpl : B.pb < W2.drew.heap.size := p2.blk.lt;have hml : B.mb < W2.drew.heap.size := p2.mp.lt;have hkl : w1.heap.size + 1 < W2.drew.heap.size := hK2.lt;have P2 := zJv p2;have A2 := zJv (a1.below hb2);have B2 := zJv hb2;have hmb1 : B.mb < w1.heap.size := a1.ps.mp.lt;clear p2 a1 hb2 hK2 cT;go_wp2_with fail
 refine wp_region_noPanic ?_;refine wp_region_held_drew (S := fun W => W.cell? ⟨B.pb, 3, none⟩ = some (.map (some B.mb)) ∧ MapAt W B.mb s.m ∧ W.cell? ⟨w1.heap.size + 1, 0, none⟩ = some (.int .i64 (owner : Int)) ∧ W.cell? ⟨w1.heap.size + 1, 1, none⟩ = some (.string (bs t.2.1))) (by kernel_rfl) (⟨c3, mp2, k0, k1⟩) (fun hHeld => ?_);refine tkH 0 ?_;try simp only [Act.put, sA, sB, sC]
 refine tkH 1 ?_;try simp only [Act.put, sA, sB, sC]
 refine tkH 2 ?_;try simp only [Act.put, sA, sB, sC]
 refine tkH 3 ?_;try simp only [Act.put, sA, sB, sC]
 refine tkH 4 ?_;try simp only [Act.put, sA, sB, sC]
 refine wpAnyH_take (i := 5) (v := ?voa6) (by simp only [gA, gB, gC]; rfl) (by kernel_rfl) (by kernel_rfl) (by kernel_rfl) (fun _ _ _ h => h) (Or.inl ⟨by rfl, ?hyoa6⟩) (by assumption) ?restoa6
 case hyoa6 => (intro w hSw; have hlk := MapAt.look hSw.2.1 (owner, t.2.1) hl; rw [hm] at hlk; (try dsimp only at hlk); (try dsimp only at hSw); go_simp; try with_reducible rfl)
 try simp only [Act.put, sA, sB, sC]
 refine tkH 6 ?_;try simp only [Act.put, sA, sB, sC]
 refine tkH 7 ?_;try simp only [Act.put, sA, sB, sC]
 refine tkH 8 ?_;try simp only [Act.put, sA, sB, sC]
 refine rdH 9 (fun K hK => ?_);go_simp
 refine hK.out _ _ ?hSoa10 (fun hHeld => ?_)
 case hSoa10 => exact ⟨((zJx W2.drew.heap.size W2.drew).alloc (zJw _) _).cell (p := ⟨B.pb, 3, none⟩) hpl |>.trans c3, mp2.same (((zJx W2.drew.heap.size W2.drew).alloc (zJw _) _).block B.mb hml), (((zJx W2.drew.heap.size W2.drew).alloc (zJw _) _).cell (p := ⟨w1.heap.size + 1, 0, none⟩) hkl).trans k0, (((zJx W2.drew.heap.size W2.drew).alloc (zJw _) _).cell (p := ⟨w1.heap.size + 1, 1, none⟩) hkl).trans k1⟩
 clear hK K;try simp only [Act.put, sA, sB, sC]
 refine rdH 10 (fun K hK => ?_);go_simp
 refine hK.out _ _ ?hSoa11 (fun hHeld => ?_)
 case hSoa11 => exact ⟨((zJx W2.drew.heap.size W2.drew).alloc (zJw _) _).cell (p := ⟨B.pb, 3, none⟩) hpl |>.trans c3, mp2.same (((zJx W2.drew.heap.size W2.drew).alloc (zJw _) _).block B.mb hml), (((zJx W2.drew.heap.size W2.drew).alloc (zJw _) _).cell (p := ⟨w1.heap.size + 1, 0, none⟩) hkl).trans k0, (((zJx W2.drew.heap.size W2.drew).alloc (zJw _) _).cell (p := ⟨w1.heap.size + 1, 1, none⟩) hkl).trans k1⟩
 clear hK K;try simp only [Act.put, sA, sB, sC]
 refine tkH 11 ?_;try simp only [Act.put, sA, sB, sC]
 refine wpAnyH_done (by kernel_rfl) ?_ _;refine NoPanic.normal ?_;clear hHeld;obtain ⟨W3, hW3⟩ : ∃ W3, (W2.alloc (Obj.cells #[] 153)).drew = W3 := ⟨_, rfl⟩;have hb3 : Below W2.heap.size W2 W3 := by rw [← hW3]; exact ((zJx _ _).alloc (zJw _) _).drew
 rw [hW3];have p3 := P2.out.below hb3;have k0 := (hb3.cell (p := ⟨w1.heap.size + 1, 0, none⟩) hkl).trans k0;have k1 := (hb3.cell (p := ⟨w1.heap.size + 1, 1, none⟩) hkl).trans k1;have c3 := (hb3.cell (p := ⟨B.pb, 3, none⟩) hpl).trans c3;have hT3 : W3.cell? ⟨w1.heap.size, 1, none⟩ = some (.string (bs t.2.1)) := (hb3.cell (p := ⟨w1.heap.size, 1, none⟩) (Nat.lt_of_succ_lt hkl)).trans tk1;have hml : s.m.length ≤ 4294967296 := zK4 h0.1 h0.2;have hle : s.m.length + 1 ≤ (s.on 1).k := Nat.succ_le_succ h0.1;have hkl3 : w1.heap.size + 1 < W3.heap.size := zJy hkl hb3.size;have hmb1 : B.mb < w1.heap.size := hmb1;have hkm : w1.heap.size + 1 ≠ B.mb := by omega
 have hkm0 : w1.heap.size ≠ B.mb := by omega
 have A3 := zJv (A2.out.below hb3);have P3 := zJv p3;clear hb3 p3 hW3 P2 A2 mp2 hpl;go_wp2_with fail
 refine wp_region_noPanic ?_;refine wp_region_held_drew (S := fun W => W.cell? ⟨B.pb, 3, none⟩ = some (.map (some B.mb)) ∧ W.cell? ⟨w1.heap.size + 1, 0, none⟩ = some (.int .i64 (owner : Int)) ∧ W.cell? ⟨w1.heap.size + 1, 1, none⟩ = some (.string (bs t.2.1))) (by kernel_rfl) (⟨c3, k0, k1⟩) (fun hHeld => ?_);refine tkH 0 ?_;try simp only [Act.put, sA, sB, sC]
 refine tkH 1 ?_;try simp only [Act.put, sA, sB, sC]
 refine tkH 2 ?_;try simp only [Act.put, sA, sB, sC]
 refine tkH 3 ?_;try simp only [Act.put, sA, sB, sC]
 refine tkH 4 ?_;try simp only [Act.put, sA, sB, sC]
 refine tkH 5 ?_;try simp only [Act.put, sA, sB, sC]
 refine rdH 6 (fun K hK => ?_);have hmp : MapAt W3.drew B.mb s.m := P3.out.mp; obtain ⟨W4, hput, hM4, hg4⟩ := MapAt.put hmp hml (owner, t.2.1) hl; have hgw : W3.grownBy W4 (some B.mb) := ⟨hg4.os, hg4.tape, hg4.output, hg4.size, hg4.block⟩; have hmt := P3.out.metAt (owner, t.2.1) hM4 hgw hle; go_simp;refine hK.out _ _ ?hSob7 (fun hHeld => ?_)
 case hSob7 => exact ⟨(zKb (a := ⟨B.pb, 3, none⟩) (hg4.block B.pb P3.out.blk.lt (fun e => P3.out.pbm (by injection e with e; exact e.symm)))).trans c3, (zKb (a := ⟨w1.heap.size + 1, 0, none⟩) (hg4.block _ hkl3 (fun e => hkm (by injection e)))).trans k0, (zKb (a := ⟨w1.heap.size + 1, 1, none⟩) (hg4.block _ hkl3 (fun e => hkm (by injection e)))).trans k1⟩
 clear hK K;try simp only [Act.put, sA, sB, sC]
 refine wpAnyH_done (by kernel_rfl) ?_ _;refine NoPanic.normal ?_;have hT4 : W4.cell? ⟨w1.heap.size, 1, none⟩ = some (.string (bs t.2.1)) := (zKb (a := ⟨w1.heap.size, 1, none⟩) (hg4.block _ (Nat.lt_of_succ_lt hkl3) (fun e => hkm0 (by injection e)))).trans hT3;have A4 := zJv (A3.out.trans hmt);clear hput hM4 hg4 hgw hmt hmp hHeld;go_wp2_with fail
 go_ret;exact ⟨rfl, A4.out⟩
set_option maxRecDepth 100000 in
theorem zxl {B : PE} {w : World} {s : St} (h : PS B w s) (hk : s.k < B.ts.length) (owner kind : Nat) (ho : owner ≤ 4294967296) (hlen : (tkA B.ts s.k).2.1.length ≤ 1048576) (he : (tkA B.ts s.k).1 = kind) (hm : s.m.contains (owner, (tkA B.ts s.k).2.1) = true) :
 Calls Tryz.prog 115 #[B.ptr, .int .i64 (owner : Int), .int .i64 (kind : Int)] w fun e w' => e = zbi 8 (tkA B.ts s.k).2.2 ∧ Aft B w (s.on 1) w' := by
 have cT := zcf h hk kind he;generalize tkA B.ts s.k = t at cT hm hlen he ⊢;obtain ⟨l, hl⟩ := zq8 (owner, t.2.1) ho hlen;have H := zJv h;have h0 := And.intro h.mle h.kb;clear h he;go_enter Tryz.func115, Tryz.ntmps115
 go_wp2_with fail
 with_reducible refine cT.mono ?_
 rintro e w1 ⟨rfl, a1⟩;obtain ⟨W2, hW2⟩ : ∃ W2, (w1.alloc (.cells (tokL t).toArray 77)).alloc (.cells #[.int .i64 (owner : Int), .string (bs t.2.1)] 152) = W2 := ⟨_, rfl⟩;have hb2 : Below w1.heap.size w1 W2 := by rw [← hW2]; exact ((zJx _ _).alloc (zJw _) _).alloc (by simp) _
 have hK2 : Blk W2 (w1.heap.size + 1) 152 #[.int .i64 (owner : Int), .string (bs t.2.1)] := by
  rw [← hW2];have := Blk.new (w1.alloc (.cells (tokL t).toArray 77)) 152 #[.int .i64 (owner : Int), .string (bs t.2.1)];simpa using this
 have k0 := hK2.cell 0;have k1 := hK2.cell 1;simp only [gA, gB, gC] at k0 k1
 have tk1 : W2.cell? ⟨w1.heap.size, 1, none⟩ = some (.string (bs t.2.1)) := by
  have hX : Blk (w1.alloc (.cells (tokL t).toArray 77)) w1.heap.size 77 (tokL t).toArray := Blk.new w1 77 _;rw [← hW2];exact (((zJx _ _).alloc (zJw _) _).cell (p := ⟨w1.heap.size, 1, none⟩) hX.lt).trans (hX.cell 1)
 have tk2 : W2.cell? ⟨w1.heap.size, 2, none⟩ = some (.int .i64 (t.2.2 : Int)) := by
  have hX : Blk (w1.alloc (.cells (tokL t).toArray 77)) w1.heap.size 77 (tokL t).toArray := Blk.new w1 77 _;rw [← hW2];exact (((zJx _ _).alloc (zJw _) _).cell (p := ⟨w1.heap.size, 2, none⟩) hX.lt).trans (hX.cell 2)
 have p2 := a1.ps.below hb2;have c3 := p2.blk.cell 3;simp only [PE.cells, gA, gB, gC] at c3;have mp2 : MapAt W2 B.mb s.m := p2.mp;have hpl : B.pb < W2.drew.heap.size := p2.blk.lt;have hml : B.mb < W2.drew.heap.size := p2.mp.lt;have hkl : w1.heap.size + 1 < W2.drew.heap.size := hK2.lt;have P2 := zJv p2;have A2 := zJv (a1.below hb2);have B2 := zJv hb2;have hmb1 : B.mb < w1.heap.size := a1.ps.mp.lt;clear p2 a1 hb2 hK2 cT;go_wp2_with fail
 refine wp_region_noPanic ?_;refine wp_region_held_drew (S := fun W => W.cell? ⟨B.pb, 3, none⟩ = some (.map (some B.mb)) ∧ MapAt W B.mb s.m ∧ W.cell? ⟨w1.heap.size + 1, 0, none⟩ = some (.int .i64 (owner : Int)) ∧ W.cell? ⟨w1.heap.size + 1, 1, none⟩ = some (.string (bs t.2.1))) (by kernel_rfl) (⟨c3, mp2, k0, k1⟩) (fun hHeld => ?_);refine tkH 0 ?_;try simp only [Act.put, sA, sB, sC]
 refine tkH 1 ?_;try simp only [Act.put, sA, sB, sC]
 refine tkH 2 ?_;try simp only [Act.put, sA, sB, sC]
 refine tkH 3 ?_;try simp only [Act.put, sA, sB, sC]
 refine tkH 4 ?_;try simp only [Act.put, sA, sB, sC]
 refine wpAnyH_take (i := 5) (v := ?voc6) (by simp only [gA, gB, gC]; rfl) (by kernel_rfl) (by kernel_rfl) (by kernel_rfl) (fun _ _ _ h => h) (Or.inl ⟨by rfl, ?hyoc6⟩) (by assumption) ?restoc6
 case hyoc6 => (intro w hSw; have hlk := MapAt.look hSw.2.1 (owner, t.2.1) hl; rw [hm] at hlk; (try dsimp only at hlk); (try dsimp only at hSw); go_simp; try with_reducible rfl)
 try simp only [Act.put, sA, sB, sC]
 refine tkH 6 ?_;try simp only [Act.put, sA, sB, sC]
 refine tkH 7 ?_;try simp only [Act.put, sA, sB, sC]
 refine tkH 8 ?_;try simp only [Act.put, sA, sB, sC]
 refine rdH 9 (fun K hK => ?_);go_simp
 refine hK.out _ _ ?hSoc10 (fun hHeld => ?_)
 case hSoc10 => exact ⟨((zJx W2.drew.heap.size W2.drew).alloc (zJw _) _).cell (p := ⟨B.pb, 3, none⟩) hpl |>.trans c3, mp2.same (((zJx W2.drew.heap.size W2.drew).alloc (zJw _) _).block B.mb hml), (((zJx W2.drew.heap.size W2.drew).alloc (zJw _) _).cell (p := ⟨w1.heap.size + 1, 0, none⟩) hkl).trans k0, (((zJx W2.drew.heap.size W2.drew).alloc (zJw _) _).cell (p := ⟨w1.heap.size + 1, 1, none⟩) hkl).trans k1⟩
 clear hK K;try simp only [Act.put, sA, sB, sC]
 refine rdH 10 (fun K hK => ?_);go_simp
 refine hK.out _ _ ?hSoc11 (fun hHeld => ?_)
 case hSoc11 => exact ⟨((zJx W2.drew.heap.size W2.drew).alloc (zJw _) _).cell (p := ⟨B.pb, 3, none⟩) hpl |>.trans c3, mp2.same (((zJx W2.drew.heap.size W2.drew).alloc (zJw _) _).block B.mb hml), (((zJx W2.drew.heap.size W2.drew).alloc (zJw _) _).cell (p := ⟨w1.heap.size + 1, 0, none⟩) hkl).trans k0, (((zJx W2.drew.heap.size W2.drew).alloc (zJw _) _).cell (p := ⟨w1.heap.size + 1, 1, none⟩) hkl).trans k1⟩
 clear hK K;try simp only [Act.put, sA, sB, sC]
 refine tkH 11 ?_;try simp only [Act.put, sA, sB, sC]
 refine wpAnyH_done (by kernel_rfl) ?_ _;refine NoPanic.normal ?_;clear hHeld;obtain ⟨W3, hW3⟩ : ∃ W3, (W2.alloc (Obj.cells #[] 153)).drew = W3 := ⟨_, rfl⟩;have hb3 : Below W2.heap.size W2 W3 := by rw [← hW3]; exact ((zJx _ _).alloc (zJw _) _).drew
 rw [hW3];have p3 := P2.out.below hb3;have k0 := (hb3.cell (p := ⟨w1.heap.size + 1, 0, none⟩) hkl).trans k0;have k1 := (hb3.cell (p := ⟨w1.heap.size + 1, 1, none⟩) hkl).trans k1;have c3 := (hb3.cell (p := ⟨B.pb, 3, none⟩) hpl).trans c3;have hP3 : W3.cell? ⟨w1.heap.size, 2, none⟩ = some (.int .i64 (t.2.2 : Int)) := (hb3.cell (p := ⟨w1.heap.size, 2, none⟩) (Nat.lt_of_succ_lt hkl)).trans tk2;have hT3 : W3.cell? ⟨w1.heap.size, 1, none⟩ = some (.string (bs t.2.1)) := (hb3.cell (p := ⟨w1.heap.size, 1, none⟩) (Nat.lt_of_succ_lt hkl)).trans tk1;have hml : s.m.length ≤ 4294967296 := zK4 h0.1 h0.2;have hle : s.m.length + 1 ≤ (s.on 1).k := Nat.succ_le_succ h0.1;have hkl3 : w1.heap.size + 1 < W3.heap.size := zJy hkl hb3.size;have hmb1 : B.mb < w1.heap.size := hmb1;have hkm : w1.heap.size + 1 ≠ B.mb := by omega
 have hkm0 : w1.heap.size ≠ B.mb := by omega
 have A3 := zJv (A2.out.below hb3);have P3 := zJv p3;clear hb3 p3 hW3 P2 A2 mp2 hpl;clear h0 hml hle;go_wp2_with fail
 exact ⟨rfl, rfl, A3.out⟩
theorem zG7 {B : PE} {w : World} {s : St} (h : PS B w s) (hk : s.k < B.ts.length) (owner kind : Nat) (ho : owner ≤ 4294967296) (hlen : (tkA B.ts s.k).2.1.length ≤ 1048576) :
 Calls Tryz.prog 115 #[B.ptr, .int .i64 (owner : Int), .int .i64 (kind : Int)] w (Res strV' B w s (ownM B.ts owner kind s)) := by
 unfold ownM zag;by_cases he : (tkA B.ts s.k).1 = kind
 · rw [if_pos he]
   unfold R3.bind;dsimp only;rw [show (s.on 1).m = s.m from rfl];by_cases hm : s.m.contains (owner, (tkA B.ts s.k).2.1) = true
   · rw [if_pos hm]
     exact (zxl h hk owner kind ho hlen he hm).mono (fun e w' q => ⟨q.1, s.on 1, rfl, q.2⟩)
   · rw [if_neg hm]
     exact zIq h hk owner kind ho hlen he (by simpa using hm)
 · rw [if_neg he]
   have cT := zil h hk kind he;refine Calls.mono ?_ (fun e w' (q : e = zbi 4 (tkA B.ts s.k).2.2 ∧ Below w.heap.size w w') => ⟨q.1, s, rfl, h.aft q.2⟩);generalize tkA B.ts s.k = t at cT ⊢;clear h he;go_enter Tryz.func115, Tryz.ntmps115
   go_wp2_with fail
   with_reducible refine cT.mono ?_
   rintro e w1 ⟨rfl, hb1⟩;go_wp2_with fail
   exact ⟨rfl, rfl, hb1⟩
end Go.Proofs.YtidmeodmkcomlaaGreatDoor
