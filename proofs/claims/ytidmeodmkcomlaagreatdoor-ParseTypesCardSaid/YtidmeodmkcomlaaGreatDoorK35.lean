/- Whether a tree may be: the document's answer, walked. -/
import Derived.Test.YtidmeodmkcomlaaGreatDoorK34
set_option linter.unusedSimpArgs false
set_option linter.unusedVariables false
namespace Go.Proofs.YtidmeodmkcomlaaGreatDoor
open Go Go.Proofs Go.RowKit
set_option maxHeartbeats 40000000
abbrev ksOf (L : List RowP) : List Int := (L.map fun x => x.2.2).flatten
def Short (L : List RowP) : Prop := ∀ x ∈ L, x.2.2.length ≤ 1000
theorem Short.push {L : List RowP} {x : RowP} (h : Short L) (hx : x.2.2.length ≤ 1000) : Short (L ++ [x]) := fun y hy => by
 rcases List.mem_append.1 hy with hy | hy
 · exact h y hy
 · simp only [zK7] at hy; subst hy; exact hx
theorem zhn (L : List RowP) (x : RowP) : ksOf (L ++ [x]) = ksOf L ++ x.2.2 := by simp [ksOf]
theorem zc7 {w W : World} {t : TreeD} {p : Ptr6} (hT : TreeAt (Lt w.heap.size) w t p) (hb : Below w.heap.size w W) : TreeAt (Lt W.heap.size) W t p := (hT.keep (zaa hb)).imp (zc6 hb.size)
set_option maxRecDepth 100000 in
theorem zvb (t : TreeD) (p : Ptr6) (w : World) (h0 : t.nodes.length = 0) : Calls Tryz.prog 17 #[treeV t p] w fun e w' => e = .returned (.bool (zbq t)) ∧ Below w.heap.size w w' := by
 have hF : zbq t = false := by
  cases h : zbq t with
  | false => rfl
  | true => have := (Rng.of h).one; omega
 rw [hF];obtain ⟨a1, c1, a2, c2, a3, c3⟩ := p;have hB := (zJx w.heap.size w).alloc (zJw _) (.cells #[.slice a1 t.nodes.length c1, .slice a2 t.types.length c2, .slice a3 t.aliases.length c3] 27);have HB := zJv hB;have d1 : ((t.nodes.length : Int) == 0) = true := by rw [h0]; rfl
 have h1 : t.nodes.length ≤ 0 := by omega
 clear hB hF h0;go_enter Tryz.func17, Tryz.ntmps17
 go_wp2
 all_goals
  go_ret;exact ⟨rfl, HB.out⟩
set_option maxRecDepth 100000 in
theorem zvt (t : TreeD) (p : Ptr6) (w : World) (hT : TreeAt (Lt w.heap.size) w t p) (hF : zb1 t) (hI : ∀ x ∈ t.nodes, x.int ≤ 9223372036854775807) (h1 : 1 ≤ t.nodes.length) :
 Calls Tryz.prog 17 #[treeV t p] w fun e w' => e = .returned (.bool (zbq t)) ∧ Below w.heap.size w w' := by
 obtain ⟨i0, hi, hz0, hz1, hz2⟩ := info_parts zI7;obtain ⟨F1, F2, F3, F4, F5, F6⟩ := hF;obtain ⟨a1, c1, a2, c2, a3, c3⟩ := p;obtain ⟨tN, tT, tA⟩ := id hT;dsimp only at tN tT tA;obtain ⟨r, hr⟩ : ∃ r, zbq t = r := ⟨_, rfl⟩;have HFin := zJv (fun g1 g2 g3 => zz3 h1 F5 F6 g1 g2 g3);have HN := zJv (fun (h : r = true) => zDe (hr.trans h));have HTY := zJv (fun (h : r = true) => zyz (hr.trans h));have HAL := zJv (fun (h : r = true) => zB1 (hr.trans h));have HR := zJv hr;rw [hr];have HF1 := zJv F1;have HF2 := zJv F2;have HF3 := zJv F3;have HI := zJv hI;have HT := zJv hT;obtain ⟨W1, hW1⟩ : ∃ W1, w.alloc (.cells #[.slice a1 t.nodes.length c1, .slice a2 t.types.length c2, .slice a3 t.aliases.length c3] 27) = W1 := ⟨_, rfl⟩;have hB1 : Below w.heap.size w W1 := by rw [← hW1]; exact (zJx _ _).alloc (zJw _) _
 have hX : Blk W1 w.heap.size 27 #[.slice a1 t.nodes.length c1, .slice a2 t.types.length c2, .slice a3 t.aliases.length c3] := by rw [← hW1]; exact Blk.new w 27 _
 have hzX : w.heap.size < W1.heap.size := hX.lt;have x0 := hX.cell 0;have x1 := hX.cell 1;have x2 := hX.cell 2;simp only [gA, gB, gC] at x0 x1 x2;have HX := zJv hX;have hX2 : Blk (((W1.alloc (.cells #[.int .i64 ((t.nodes.length - 1 : Nat) : Int)] 3)).alloc (.cells #[.slice (some ⟨W1.heap.size, 0, none⟩) 1 1] 36)).alloc (.cells #[] 36)) w.heap.size 27 #[.slice a1 t.nodes.length c1, .slice a2 t.types.length c2, .slice a3 t.aliases.length c3] := ((hX.alloc _).alloc _).alloc _;have y0 := hX2.cell 0;simp only [gA, gB] at y0;have HX2 := zJv hX2;have d1 : ((t.nodes.length : Int) == 0) = false := by rw [zKr]; omega
 have d2 : decide ((65536 : Int) < t.nodes.length) = false := by simp; omega
 have d3 : decide ((65536 : Int) < t.types.length) = false := by simp; omega
 have hsub : IntKind.i64.wrap ((t.nodes.length : Int) - 1) = ((t.nodes.length - 1 : Nat) : Int) := by
  rw [IntWalk.i64_in _ (by omega)]; omega
 clear hX hX2 hr hI hT F1 F2 F3;go_enter Tryz.func17, Tryz.ntmps17
 go_wp2
 clear hW1;obtain ⟨W2, hW2⟩ : ∃ W2, (((W1.alloc (.cells #[.int .i64 ((t.nodes.length - 1 : Nat) : Int)] 3)).alloc (.cells #[.slice (some ⟨W1.heap.size, 0, none⟩) 1 1] 36)).alloc (.cells #[] 36)) = W2 := ⟨_, rfl⟩
 have hTw : TwoR W2 W1.heap.size (.slice (some ⟨W1.heap.size + 1, 0, none⟩) 1 1) (.slice (some ⟨W1.heap.size + 1 + 1, 0, none⟩) 0 0) [(some ⟨W1.heap.size, 0, none⟩, 1, [((t.nodes.length - 1 : Nat) : Int)])] [] := by
  have b1 := ((Blk.new W1 3 #[.int .i64 ((t.nodes.length - 1 : Nat) : Int)]).alloc (.cells #[.slice (some ⟨W1.heap.size, 0, none⟩) 1 1] 36)).alloc (.cells #[] 36);have b2 := (Blk.new (W1.alloc (.cells #[.int .i64 ((t.nodes.length - 1 : Nat) : Int)] 3)) 36 #[.slice (some ⟨W1.heap.size, 0, none⟩) 1 1]).alloc (.cells #[] 36);have b3 := Blk.new ((W1.alloc (.cells #[.int .i64 ((t.nodes.length - 1 : Nat) : Int)] 3)).alloc (.cells #[.slice (some ⟨W1.heap.size, 0, none⟩) 1 1] 36)) 36 #[];rw [hW2] at b1 b2 b3;simp only [zKh] at b2 b3;refine ⟨⟨rfl, .inr ⟨_, 1, #[.slice (some ⟨W1.heap.size, 0, none⟩) 1 1], rfl, by omega, b2, zJw _, by decide, rfl, rfl⟩⟩, ⟨rfl, .inr ⟨_, 0, #[], rfl, by omega, b3, zJw _, by decide, rfl, rfl⟩⟩, fun g h h' => ?_, fun x hx => ?_, fun _ h => by simp at h⟩
  · simp only [Value.ownBlock] at h h'
    simp at h h'
    omega
  · simp only [zK7] at hx
    subst hx
    exact .inr ⟨_, _, rfl, b1.lt, .inr ⟨_, b1⟩, fun j u hu => by
     have hj : j = 0 := by
      cases j with
      | zero => rfl
      | succ j => simp at hu
     subst hj;simp at hu
     subst hu
     exact (b1.cell 0).trans rfl⟩
 have hB2 : Below W1.heap.size W1 W2 := by rw [← hW2]; exact (((zJx _ _).alloc (zJw _) _).alloc (by simp) _).alloc (by simp; omega) _
 have hBw2 : Below w.heap.size w W2 := hB1.trans (hB2.mono (by omega));have hzB2 : W1.heap.size ≤ W2.heap.size := hB2.size;have hXB : Blk W2 w.heap.size 27 #[.slice a1 t.nodes.length c1, .slice a2 t.types.length c2, .slice a3 t.aliases.length c3] := by rw [← hW2]; exact HX2.out
 have HXB := zJv hXB;have HTw := zJv hTw;rw [hW2] at y0 ⊢;clear hXB hTw hW2 HX2 HX x0 x1 x2 y0 hsub;have hwB : w.heap.size < W1.heap.size := by omega
 go_loopw [3, 4, 5, 6, 41] (fun v3 v4 _ _ i wr => ∃ (k : Nat) (L3 L4 : List RowP), k ≤ t.nodes.length ∧ i = .int .i64 k ∧ L3.length = k + 1 ∧ L4.length = k ∧ Hid (TwoR wr W1.heap.size v3 v4 L3 L4) ∧ Hid (Short L3 ∧ Short L4) ∧ Hid (ksOf L3 = ((t.nodes.length - 1 : Nat) : Int) :: (t.nodes.take k).flatMap (·.kids) ∧ ksOf L4 = (t.nodes.take k).flatMap (·.types)) ∧ Hid (NodOk t k) ∧ Below W1.heap.size W2 wr) (fun _ _ _ _ i _ => t.nodes.length - (intOf i).toNat)
 case atStart =>
  refine ⟨0, [(some ⟨W1.heap.size, 0, none⟩, 1, [((t.nodes.length - 1 : Nat) : Int)])], [], zK8 _, rfl, rfl, rfl, ?_, zJv ⟨?_, fun _ h => by simp at h⟩, zJv ⟨by simp [ksOf], by simp [ksOf]⟩, zJv (fun j x hj => by omega), zJx _ _⟩
  · exact HTw
  · intro x hx
    simp only [zK7] at hx;subst hx;simp
 case round =>
  obtain ⟨k, L3, L4, hk, rfl, hl3, hl4, HTW, HSH, HKS, HNO, hBr⟩ := hrel;have hzB : W1.heap.size ≤ wr.heap.size := zK4 hzB2 hBr.size;have hBw : Below w.heap.size w wr := hBw2.trans (hBr.mono (by omega));by_cases hlt : k < t.nodes.length
  · obtain ⟨b, off, rfl, hb, hcell⟩ := tN (by omega)
    have hget := zK1 hlt;obtain ⟨q, hq, hcq⟩ := hcell k t.nodes[k] hget;have htk : t.nodes.take (k + 1) = t.nodes.take k ++ [t.nodes[k]] := zK9 hlt;have hfew := HF1.out _ (zKe hlt);have hint := HI.out _ (zKe hlt);obtain ⟨x, hx⟩ : ∃ x, t.nodes[k] = x := ⟨_, rfl⟩;rw [hx] at hq hcq hfew htk hget hint;have e0 := (hBw.cell (p := ⟨b, off + k * 8, none⟩) hb).trans (hcq 0 _ rfl);have e1 := (hBw.cell (p := ⟨b, off + k * 8 + 1, none⟩) hb).trans (hcq 1 _ rfl);have e2 := (hBw.cell (p := ⟨b, off + k * 8 + 2, none⟩) hb).trans (hcq 2 _ rfl);have e3 := (hBw.cell (p := ⟨b, off + k * 8 + 3, none⟩) hb).trans (hcq 3 _ rfl);have e4 := (hBw.cell (p := ⟨b, off + k * 8 + 4, none⟩) hb).trans (hcq 4 _ rfl);have e5 := (hBw.cell (p := ⟨b, off + k * 8 + 5, none⟩) hb).trans (hcq 5 _ rfl);have e6 := (hBw.cell (p := ⟨b, off + k * 8 + 6, none⟩) hb).trans (hcq 6 _ rfl);have e7 := (hBw.cell (p := ⟨b, off + k * 8 + 7, none⟩) hb).trans (hcq 7 _ rfl);have HGET := zJv hget;have HTK := zJv htk;clear hcq hcell hx hget htk;obtain ⟨Wn, hWn⟩ : ∃ Wn, wr.alloc (.cells #[.int .i64 x.kind, .int .i64 x.pos, .string x.name, .int .i64 x.int, .int .u64 (x.bits : Int), .slice q.a5 x.names.length q.c5, .slice q.a6 x.kids.length q.c6, .slice q.a7 x.types.length q.c7] 38) = Wn := ⟨_, rfl⟩;have hBn : Below wr.heap.size wr Wn := by rw [← hWn]; exact (zJx _ _).alloc (zJw _) _
    have hXn : Blk Wn wr.heap.size 38 (za1 x q).toArray := by rw [← hWn]; exact Blk.new wr 38 _
    have hzn := hXn.lt;have hszn : Wn.heap.size = wr.heap.size + 1 := by rw [← hWn]; simp
    have hBnB : Below W1.heap.size W2 Wn := hBr.trans (hBn.mono hzB);have hBnw : Below w.heap.size w Wn := hBw.trans (hBn.mono (by omega));have hqn : TermOk (Lt w.heap.size) Wn x q := hq.keep (fun b o hb => hBnw.cell (p := ⟨b, o, none⟩) hb);have hqw : TermOk (Lt Wn.heap.size) Wn x q := hqn.imp (zc6 hBnw.size);have kT := zyk x q Wn hfew hint hqw
    have hbadT : termB x = false → r = false := fun h => by
     cases r
     · rfl
     · have := (HN.out rfl k x hlt HGET.out).2.2
       rw [h] at this;cases this
    have hbadK : ¬ InR x.kids k → r = false := fun h => by
     cases r
     · rfl
     · exact absurd (HN.out rfl k x hlt HGET.out).1 h
    have hbadY : ¬ InR x.types t.types.length → r = false := fun h => by
     cases r
     · rfl
     · exact absurd (HN.out rfl k x hlt HGET.out).2.1 h
    obtain ⟨Bt, hBt⟩ : ∃ Bt, termB x = Bt := ⟨_, rfl⟩;rw [hBt] at kT hbadT;have HBT := zJv hBt;have HBadT := zJv hbadT;have HBadK := zJv hbadK;have HBadY := zJv hbadY;have HQN := zJv hqn;have HXN := zJv hXn;have HTWn := zJv (HTW.out.below hBn);have HXW := zJv (HXB.out.below hBr hwB);have hfk := hfew.2.2.2.1;have hfy := hfew.2.2.2.2;have p0 := hXn.cell 0;have p1 := hXn.cell 1;have p2 := hXn.cell 2;have p3 := hXn.cell 3;have p4 := hXn.cell 4;have p5 := hXn.cell 5;have p6 := hXn.cell 6;have p7 := hXn.cell 7;unfold za1 at p0 p1 p2 p3 p4 p5 p6 p7 kT;simp only [gA, gB, gC] at p0 p1 p2 p3 p4 p5 p6 p7;clear hbadT hbadK hbadY hBt hqn hqw hXn hq hfew hint;go_wp2_with fail
    refine kT.mono ?_;rintro e w3 ⟨rfl, hb3⟩;have hB3 : Below W1.heap.size W2 w3 := hBnB.trans (hb3.mono (by omega));have hB3w : Below w.heap.size w w3 := hBnw.trans (hb3.mono (by omega));have hz3 := hb3.size;have HX3 := zJv (HXN.out.below hb3 hzn);have HT3 := zJv (HTWn.out.below hb3);have r6 := HX3.out.cell 6;have r7 := HX3.out.cell 7;unfold za1 at r6 r7;simp only [gA, gB, gC] at r6 r7;have s1 := ((HXB.out.below hB3 hwB).cell 1).trans rfl;have RK := zJv (RdAt.of_sl (HQN.out.2.1.keep (fun b o hb => (hb3.cell (p := ⟨b, o, none⟩) (zJy hb hBnw.size)))));have RY := zJv (RdAt.of_sl (HQN.out.2.2.keep (fun b o hb => (hb3.cell (p := ⟨b, o, none⟩) (zJy hb hBnw.size)))));have kK := zge q.a6 q.c6 x.kids (k : Int) w3 RK.out hfk;have kY := zge q.a7 q.c7 x.types (t.types.length : Int) w3 RY.out hfy;clear kT p0 p1 p2 p3 p4 p5 p6 p7 e0 e1 e2 e3 e4 e5 e6 e7 hb3 hWn;cases Bt
    · have HF := zJv (HBadT.out rfl)
      go_wp2
      go_ret;exact ⟨za7 HF.out.symm, hB3w⟩
    · by_cases hKK : InR x.kids k
      · have hdk : decide (∀ z ∈ x.kids, 0 ≤ z ∧ z < (k : Int)) = true := decide_eq_true hKK
        rw [hdk] at kK;by_cases hYY : InR x.types t.types.length
        · have hdy : decide (∀ z ∈ x.types, 0 ≤ z ∧ z < (t.types.length : Int)) = true := decide_eq_true hYY
          rw [hdy] at kY;have HNO2 := zJv (zvi HNO.out HGET.out hKK hYY HBT.out);have okK : RowOk W1.heap.size w3 (q.a6, q.c6, x.kids) := RowOk.of_sl (HQN.out.2.1.keep (fun b o hb => (hB3w.cell (p := ⟨b, o, none⟩) hb).trans (hBnw.cell (p := ⟨b, o, none⟩) hb).symm)) (fun b hb => ⟨Nat.lt_trans hb hwB, zJy hb hB3w.size⟩);have okY : RowOk W1.heap.size w3 (q.a7, q.c7, x.types) := RowOk.of_sl (HQN.out.2.2.keep (fun b o hb => (hB3w.cell (p := ⟨b, o, none⟩) hb).trans (hBnw.cell (p := ⟨b, o, none⟩) hb).symm)) (fun b hb => ⟨Nat.lt_trans hb hwB, zJy hb hB3w.size⟩);have HOK := zJv okK;have HOY := zJv okY;obtain ⟨A3, d3, hv3⟩ := za8 HT3.out.o3;obtain ⟨A4, d4, hv4⟩ := za8 HT3.out.o4;subst hv3;subst hv4;rw [hl3] at HT3;rw [hl4] at HT3;clear hdk hdy hKK hYY okK okY;have hfX3 : ∀ V, Below W1.heap.size w3 V → V.cell? ⟨w.heap.size, 1, none⟩ = w3.cell? ⟨w.heap.size, 1, none⟩ := fun V hV => hV.cell (p := ⟨w.heap.size, 1, none⟩) hwB;have hz3B : W1.heap.size ≤ w3.heap.size := by omega
          have HZ3 := zJv hz3B;clear hfX3
          go_wp2_with (first
           | (go_at_call 31; first | ((with_reducible refine kK.mono ?_); rintro e w4 ⟨rfl, rfl⟩) | ((with_reducible refine kY.mono ?_); rintro e w4 ⟨rfl, rfl⟩))
           | (at_builtin; refine zca _ rfl _ _ 65 rfl W1.heap.size 36 i0 (.slice none 0 0) 1 24 Tryz.underlying65 hi hz0 hz1 hz2 rfl (by decide) (.slice A3 (k + 1) d3) L3.length (L3.map rowV) (by rfl) (HT3.out.o3.alloc _) (some ⟨w3.heap.size, 0, none⟩) 1 1 [.slice q.a6 x.kids.length q.c6] (by rfl) rfl (zeh _ _ _) (by intro u hu; simp at hu; subst hu; rfl) (by unfold maxLen; omega) (by omega) (by simp; omega) ?_; intro v5 w5 hown5 hgrow5 hloc5; have hP5 := TwoR.push (x := (q.a6, q.c6, x.kids)) (HT3.out.below ((zJx _ _).alloc (zJw _) (.cells #[.slice q.a6 x.kids.length q.c6] 36))) (HOK.out.below ((zJx _ _).alloc (zJw _) _)) (by simp; omega) hown5 hgrow5 hloc5; have hX5 := (HX3.out.alloc (.cells #[.slice q.a6 x.kids.length q.c6] 36)).grown hgrow5 (fun e => za3 (HT3.out.o3) HX3.out (by decide) e.symm); have t7 : w5.cell? ⟨wr.heap.size, 7, none⟩ = some (.slice q.a7 x.types.length q.c7) := (hX5.cell 7).trans rfl; have HP5 := zJv hP5.1; have HB5 := zJv hP5.2; have HOY5 := zJv ((HOY.out.below ((zJx _ _).alloc (zJw _) (.cells #[.slice q.a6 x.kids.length q.c6] 36))).grown (HT3.out.o3.alloc (.cells #[.slice q.a6 x.kids.length q.c6] 36)) hgrow5); have hz5 := hgrow5.size; rw [zKh] at hz5; obtain ⟨A5, d5, hv5⟩ := za8 hP5.1.o3; subst hv5; clear hP5 hown5 hgrow5 hloc5 hX5)
           | (at_builtin; refine zca _ rfl _ _ 65 rfl W1.heap.size 36 i0 (.slice none 0 0) 1 24 Tryz.underlying65 hi hz0 hz1 hz2 rfl (by decide) (.slice A4 k d4) L4.length (L4.map rowV) (by rfl) (HP5.out.o4.alloc _) (some ⟨w5.heap.size, 0, none⟩) 1 1 [.slice q.a7 x.types.length q.c7] (by rfl) rfl (zeh _ _ _) (by intro u hu; simp at hu; subst hu; rfl) (by unfold maxLen; omega) (by omega) (by simp; omega) ?_; intro v6 w6 hown6 hgrow6 hloc6; have hP6 := TwoR.push (x := (q.a7, q.c7, x.types)) (HP5.out.swap.below ((zJx _ _).alloc (zJw _) (.cells #[.slice q.a7 x.types.length q.c7] 36))) (HOY5.out.below ((zJx _ _).alloc (zJw _) _)) (by simp; omega) hown6 hgrow6 hloc6; have HP6 := zJv hP6.1.swap; have HB6 := zJv hP6.2; clear hP6 hown6 hgrow6 hloc6))
          have hB6 : Below W1.heap.size W2 w6 := ((hB3.alloc (by omega) _).trans HB5.out).trans (((zJx W1.heap.size w5).alloc (by omega) (.cells #[.slice q.a7 x.types.length q.c7] 36)).trans HB6.out);have HSH2 : Hid (Short (L3 ++ [(q.a6, q.c6, x.kids)]) ∧ Short (L4 ++ [(q.a7, q.c7, x.types)])) := zJv ⟨HSH.out.1.push hfk, HSH.out.2.push hfy⟩
          have HKS2 : Hid (ksOf (L3 ++ [(q.a6, q.c6, x.kids)]) = ((t.nodes.length - 1 : Nat) : Int) :: (t.nodes.take (k + 1)).flatMap (·.kids) ∧ ksOf (L4 ++ [(q.a7, q.c7, x.types)]) = (t.nodes.take (k + 1)).flatMap (·.types)) := zJv (by
           rw [zhn, zhn, HKS.out.1, HKS.out.2, HTK.out, List.flatMap_append, List.flatMap_append]
           simp)
          have HP6' : Hid (TwoR w6 W1.heap.size (.slice A5 (k + 1 + 1) d5) v6 (L3 ++ [(q.a6, q.c6, x.kids)]) (L4 ++ [(q.a7, q.c7, x.types)])) := zJv (by have h := HP6.out; rwa [zK5, List.length_singleton, hl3] at h);go_roundw
          case rel => exact ⟨k + 1, _, _, by omega, by go_num, by simp [hl3], by simp [hl4], HP6', HSH2, HKS2, HNO2, hB6⟩
          case measure => simp [intOf]; omega
        · have hdy : decide (∀ z ∈ x.types, 0 ≤ z ∧ z < (t.types.length : Int)) = false := decide_eq_false hYY
          rw [hdy] at kY;have HF := zJv (HBadY.out hYY);clear hdk hdy;go_wp2_with (go_at_call 31; first | ((with_reducible refine kK.mono ?_); rintro e w4 ⟨rfl, rfl⟩) | ((with_reducible refine kY.mono ?_); rintro e w4 ⟨rfl, rfl⟩))
          go_ret;exact ⟨za7 HF.out.symm, hB3w⟩
      · have hdk : decide (∀ z ∈ x.kids, 0 ≤ z ∧ z < (k : Int)) = false := decide_eq_false hKK
        rw [hdk] at kK;have HF := zJv (HBadK.out hKK);clear hdk;go_wp2_with (go_at_call 31; refine kK.mono ?_; rintro e w4 ⟨rfl, rfl⟩)
        go_ret;exact ⟨za7 HF.out.symm, hB3w⟩
  · obtain rfl : k = t.nodes.length := by omega
    rw [List.take_length] at HKS;have HXE := zJv (HXB.out.below hBr hwB);have hBE := hBw;have hzE := hzB;have HT0 := HTW;have HSH0 := HSH;obtain ⟨w5, hw5⟩ : ∃ w5, w5 = wr := ⟨wr, rfl⟩;rw [← hw5] at HT0 HXE hBE hzE;have x1 := HXE.out.cell 1;simp only [gA, gB, gC] at x1;rw [hw5] at x1;clear HTW HSH hBr hzB hBw hlt;go_wp2
    go_loopw [4, 7, 8, 79] (fun v4 _ _ i wr => ∃ (k : Nat) (L5 : List RowP), k ≤ t.types.length ∧ i = .int .i64 k ∧ L5.length = t.nodes.length + k ∧ Hid (TwoR wr W1.heap.size u3 v4 L3 L5) ∧ Hid (Short L5) ∧ Hid (ksOf L5 = t.nodes.flatMap (·.types) ++ (t.types.take k).flatMap (·.kids)) ∧ Hid (zia t k) ∧ Below W1.heap.size w5 wr) (fun _ _ _ i _ => t.types.length - (intOf i).toNat)
    case atStart => exact ⟨0, L4, zK8 _, rfl, hl4, hw5 ▸ HT0, zJv HSH0.out.2, zJv (by rw [HKS.out.2]; simp), zJv (fun j x hj => by omega), by rw [hw5]; exact zJx _ _⟩
    case round =>
     clear hw5;obtain ⟨k, L5, hk, rfl, hl5, HTW, HSH, HK5, HTO, hBr⟩ := hrel;have HL5 := zJv hl5;have hl5b : L5.length ≤ 2000 := by omega
     clear hl5;have hzB : W1.heap.size ≤ wr.heap.size := zK4 hzE hBr.size;have hBw : Below w.heap.size w wr := hBE.trans (hBr.mono (by omega));by_cases hlt : k < t.types.length
     · obtain ⟨b, off, rfl, hb, hcell⟩ := tT (by omega)
       have hget := zK1 hlt;obtain ⟨q, hq, hcq⟩ := hcell k t.types[k] hget;have htk : t.types.take (k + 1) = t.types.take k ++ [t.types[k]] := zK9 hlt;have hfew := HF2.out _ (zKe hlt);obtain ⟨x, hx⟩ : ∃ x, t.types[k] = x := ⟨_, rfl⟩;rw [hx] at hq hcq hfew htk hget;have e0 := (hBw.cell (p := ⟨b, off + k * 6, none⟩) hb).trans (hcq 0 _ rfl);have e1 := (hBw.cell (p := ⟨b, off + k * 6 + 1, none⟩) hb).trans (hcq 1 _ rfl);have e2 := (hBw.cell (p := ⟨b, off + k * 6 + 2, none⟩) hb).trans (hcq 2 _ rfl);have e3 := (hBw.cell (p := ⟨b, off + k * 6 + 3, none⟩) hb).trans (hcq 3 _ rfl);have e4 := (hBw.cell (p := ⟨b, off + k * 6 + 4, none⟩) hb).trans (hcq 4 _ rfl);have e5 := (hBw.cell (p := ⟨b, off + k * 6 + 5, none⟩) hb).trans (hcq 5 _ rfl);have HGET := zJv hget;have HTK := zJv htk;clear hcq hcell hx hget htk;obtain ⟨Wn, hWn⟩ : ∃ Wn, wr.alloc (.cells #[.int .i64 x.kind, .int .i64 x.pos, .string x.name, .slice q.a3 x.names.length q.c3, .slice q.a4 x.kids.length q.c4, .bool x.opn] 40) = Wn := ⟨_, rfl⟩;have hBn : Below wr.heap.size wr Wn := by rw [← hWn]; exact (zJx _ _).alloc (zJw _) _
       have hXn : Blk Wn wr.heap.size 40 (za4 x q).toArray := by rw [← hWn]; exact Blk.new wr 40 _
       have hzn := hXn.lt;have hszn : Wn.heap.size = wr.heap.size + 1 := by rw [← hWn]; simp
       have hBnB : Below W1.heap.size w5 Wn := hBr.trans (hBn.mono hzB);have hBnw : Below w.heap.size w Wn := hBw.trans (hBn.mono (by omega));have hqn : TypOk (Lt w.heap.size) Wn x q := hq.keep (fun b o hb => hBnw.cell (p := ⟨b, o, none⟩) hb);have hqw : TypOk (Lt Wn.heap.size) Wn x q := hqn.imp (zc6 hBnw.size);have kT := zCt x q Wn hfew hqw
       have hbadT : typB x = false → r = false := fun h => by
        cases r
        · rfl
        · have := (HTY.out rfl k x hlt HGET.out).2
          rw [h] at this;cases this
       have hbadK : ¬ InR x.kids k → r = false := fun h => by
        cases r
        · rfl
        · exact absurd (HTY.out rfl k x hlt HGET.out).1 h
       obtain ⟨Bt, hBt⟩ : ∃ Bt, typB x = Bt := ⟨_, rfl⟩;rw [hBt] at kT hbadT;have HBT := zJv hBt;have HBadT := zJv hbadT;have HBadK := zJv hbadK;have HQN := zJv hqn;have HXN := zJv hXn;have HTWn := zJv (HTW.out.below hBn);have hfk := hfew.2.2.2;have p0 := hXn.cell 0;have p1 := hXn.cell 1;have p2 := hXn.cell 2;have p3 := hXn.cell 3;have p4 := hXn.cell 4;have p5 := hXn.cell 5;unfold za4 at p0 p1 p2 p3 p4 p5 kT;simp only [gA, gB, gC] at p0 p1 p2 p3 p4 p5;clear hbadT hbadK hBt hqn hqw hXn hq hfew;go_wp2_with fail
       refine kT.mono ?_;rintro e w3 ⟨rfl, hb3⟩;have hB3 : Below W1.heap.size w5 w3 := hBnB.trans (hb3.mono (by omega));have hB3w : Below w.heap.size w w3 := hBnw.trans (hb3.mono (by omega));have hz3 := hb3.size;have HX3 := zJv (HXN.out.below hb3 hzn);have HT3 := zJv (HTWn.out.below hb3);have r4 := HX3.out.cell 4;unfold za4 at r4;simp only [gA, gB, gC] at r4;have RK := zJv (RdAt.of_sl (HQN.out.2.keep (fun b o hb => (hb3.cell (p := ⟨b, o, none⟩) (zJy hb hBnw.size)))));have kK := zge q.a4 q.c4 x.kids (k : Int) w3 RK.out hfk;clear kT p0 p1 p2 p3 p4 p5 e0 e1 e2 e3 e4 e5 hb3 hWn;cases Bt
       · have HF := zJv (HBadT.out rfl)
         go_wp2
         go_ret;exact ⟨za7 HF.out.symm, hB3w⟩
       · by_cases hKK : InR x.kids k
         · have hdk : decide (∀ z ∈ x.kids, 0 ≤ z ∧ z < (k : Int)) = true := decide_eq_true hKK
           rw [hdk] at kK;have HTO2 := zJv (zt8 HTO.out HGET.out hKK HBT.out);have HOK : Hid (RowOk W1.heap.size w3 (q.a4, q.c4, x.kids)) := zJv (RowOk.of_sl (HQN.out.2.keep (fun b o hb => (hB3w.cell (p := ⟨b, o, none⟩) hb).trans (hBnw.cell (p := ⟨b, o, none⟩) hb).symm)) (fun b hb => ⟨Nat.lt_trans hb hwB, zJy hb hB3w.size⟩));obtain ⟨A4, d4, hv4⟩ := za8 HT3.out.o4;subst hv4;have hz3B : W1.heap.size ≤ w3.heap.size := by omega
           clear hdk hKK
           go_wp2_with (first
            | (go_at_call 31; (with_reducible refine kK.mono ?_); rintro e w4 ⟨rfl, rfl⟩)
            | (at_builtin; refine zca _ rfl _ _ 65 rfl W1.heap.size 36 i0 (.slice none 0 0) 1 24 Tryz.underlying65 hi hz0 hz1 hz2 rfl (by decide) (.slice A4 L5.length d4) L5.length (L5.map rowV) (by rfl) (HT3.out.o4.alloc _) (some ⟨w3.heap.size, 0, none⟩) 1 1 [.slice q.a4 x.kids.length q.c4] (by rfl) rfl (zeh _ _ _) (by intro u hu; simp at hu; subst hu; rfl) (by unfold maxLen; omega) (by omega) (by simp; omega) ?_; intro v6 w6 hown6 hgrow6 hloc6; have hP6 := TwoR.push (x := (q.a4, q.c4, x.kids)) (HT3.out.swap.below ((zJx _ _).alloc (zJw _) (.cells #[.slice q.a4 x.kids.length q.c4] 36))) (HOK.out.below ((zJx _ _).alloc (zJw _) _)) (by simp; omega) hown6 hgrow6 hloc6; have HP6 := zJv hP6.1.swap; have HB6 := zJv hP6.2; clear hP6 hown6 hgrow6 hloc6))
           have hB6 : Below W1.heap.size w5 w6 := (hB3.alloc (by omega) _).trans HB6.out;have HSH2 : Hid (Short (L5 ++ [(q.a4, q.c4, x.kids)])) := zJv (HSH.out.push hfk)
           have HK52 : Hid (ksOf (L5 ++ [(q.a4, q.c4, x.kids)]) = t.nodes.flatMap (·.types) ++ (t.types.take (k + 1)).flatMap (·.kids)) := zJv (by
            rw [zhn, HK5.out, HTK.out, List.flatMap_append]
            simp)
           go_roundw
           case rel => exact ⟨k + 1, _, by omega, by go_num, by rw [zK5, HL5.out]; simp; omega, HP6, HSH2, HK52, HTO2, hB6⟩
           case measure => simp [intOf]; omega
         · have hdk : decide (∀ z ∈ x.kids, 0 ≤ z ∧ z < (k : Int)) = false := decide_eq_false hKK
           rw [hdk] at kK;have HF := zJv (HBadK.out hKK);clear hdk;go_wp2_with (go_at_call 31; (with_reducible refine kK.mono ?_); rintro e w4 ⟨rfl, rfl⟩)
           go_ret;exact ⟨za7 HF.out.symm, hB3w⟩
     · obtain rfl : k = t.types.length := by omega
       rw [List.take_length] at HK5;have HX6 := zJv (HXE.out.below hBr hwB);have hB6 := hBw;have hz6 := hzB;have HT6 := HTW;have HSH6 := HSH;obtain ⟨w6, hw6⟩ : ∃ w6, w6 = wr := ⟨wr, rfl⟩;rw [← hw6] at HT6 HX6 hB6 hz6;have x2 := HX6.out.cell 2;simp only [gA, gB, gC] at x2;rw [hw6] at x2;clear HTW HSH hBr hzB hBw hlt;go_wp2
       go_loopw [4, 10, 103] (fun v4 _ i wr => ∃ (k : Nat) (L6 : List RowP), k ≤ t.aliases.length ∧ i = .int .i64 k ∧ L6.length ≤ 2000 + k ∧ Hid (TwoR wr W1.heap.size u3 v4 L3 L6) ∧ Hid (Short L6) ∧ Hid (ksOf L6 = (t.nodes.flatMap (·.types) ++ t.types.flatMap (·.kids)) ++ (t.aliases.take k).map (·.type)) ∧ Hid (zi9 t k) ∧ Below W1.heap.size w6 wr) (fun _ _ i _ => t.aliases.length - (intOf i).toNat)
       case atStart => exact ⟨0, L5, zK8 _, rfl, by omega, hw6 ▸ HT6, HSH6, zJv (by rw [HK5.out]; simp), zJv (fun j x hj => by omega), by rw [hw6]; exact zJx _ _⟩
       case round =>
        clear hw6;obtain ⟨k, L6, hk, rfl, hl6, HTW, HSH, HK6, HAO, hBr⟩ := hrel;have hzB : W1.heap.size ≤ wr.heap.size := zK4 hz6 hBr.size;have hBw : Below w.heap.size w wr := hB6.trans (hBr.mono (by omega));have hl6b : L6.length ≤ 4000 := by omega
        by_cases hlt : k < t.aliases.length
        · obtain ⟨b, off, rfl, hb, hcell⟩ := tA (by omega)
          have hget := zK1 hlt;have hcq := hcell k t.aliases[k] hget;have htk : t.aliases.take (k + 1) = t.aliases.take k ++ [t.aliases[k]] := zK9 hlt;have hfew := HF3.out _ (zKe hlt);obtain ⟨x, hx⟩ : ∃ x, t.aliases[k] = x := ⟨_, rfl⟩;rw [hx] at hcq hfew htk hget;have e0 := (hBw.cell (p := ⟨b, off + k * 3, none⟩) hb).trans (hcq 0 _ rfl);have e1 := (hBw.cell (p := ⟨b, off + k * 3 + 1, none⟩) hb).trans (hcq 1 _ rfl);have e2 := (hBw.cell (p := ⟨b, off + k * 3 + 2, none⟩) hb).trans (hcq 2 _ rfl);have HGET := zJv hget;have HTK := zJv htk;clear hcq hcell hx hget htk;obtain ⟨Wn, hWn⟩ : ∃ Wn, wr.alloc (.cells #[.string x.name, .int .i64 x.type, .int .i64 x.pos] 44) = Wn := ⟨_, rfl⟩;have hBn : Below wr.heap.size wr Wn := by rw [← hWn]; exact (zJx _ _).alloc (zJw _) _
          have hXn : Blk Wn wr.heap.size 44 (zco x).toArray := by rw [← hWn]; exact Blk.new wr 44 _
          have hzn := hXn.lt;have hszn : Wn.heap.size = wr.heap.size + 1 := by rw [← hWn]; simp
          have hBnB : Below W1.heap.size w6 Wn := hBr.trans (hBn.mono hzB);have hBnw : Below w.heap.size w Wn := hBw.trans (hBn.mono (by omega));have kT := zm5 x.name hfew Wn
          have hbadT : zbo (tl x.name) = false → r = false := fun h => by
           cases r
           · rfl
           · have := (HAL.out rfl k x hlt HGET.out).1
             rw [h] at this;cases this
          have hbadK : ¬ InR [x.type] t.types.length → r = false := fun h => by
           cases r
           · rfl
           · exact absurd (HAL.out rfl k x hlt HGET.out).2 h
          obtain ⟨Bt, hBt⟩ : ∃ Bt, zbo (tl x.name) = Bt := ⟨_, rfl⟩;rw [hBt] at kT hbadT;have HBT := zJv hBt;have HBadT := zJv hbadT;have HBadK := zJv hbadK;have HTWn := zJv (HTW.out.below hBn);have p0 := hXn.cell 0;have p1 := hXn.cell 1;have p1' := (hXn.alloc (.cells #[.int .i64 x.type] 3)).cell 1;have s1 := ((HX6.out.below hBnB hwB).alloc (.cells #[.int .i64 x.type] 3)).cell 1;unfold zco at p0 p1 p1';simp only [gA, gB, gC] at p0 p1 p1' s1;have kK := zge (some ⟨Wn.heap.size, 0, none⟩) 1 [x.type] (t.types.length : Int) (Wn.alloc (.cells #[.int .i64 x.type] 3)) (zeh _ _ _) (by simp);simp only [zK2, zKc, Nat.zero_add] at kK
          have HOK : Hid (RowOk W1.heap.size ((Wn.alloc (.cells #[.int .i64 x.type] 3)).alloc (.cells #[.int .i64 x.type] 3)) (some ⟨Wn.heap.size + 1, 0, none⟩, 1, [x.type])) := zJv (by
           have h := RowOk.one (B := W1.heap.size) (W := Wn.alloc (.cells #[.int .i64 x.type] 3)) x.type
           rwa [zKh] at h)
          clear hbadT hbadK hBt hXn hfew hszn;cases Bt
          · have HF := zJv (HBadT.out rfl)
            go_wp2_with (go_at_call 33; (with_reducible refine kT.mono ?_); rintro e w4 ⟨rfl, rfl⟩)
            go_ret;exact ⟨za7 HF.out.symm, hBnw⟩
          · by_cases hKK : InR [x.type] t.types.length
            · have hdk : decide (∀ z ∈ [x.type], 0 ≤ z ∧ z < (t.types.length : Int)) = true := decide_eq_true hKK
              rw [hdk] at kK;have HAO2 := zJv (zt7 HAO.out HGET.out HBT.out hKK);obtain ⟨A4, d4, hv4⟩ := za8 HTWn.out.o4;subst hv4;have hznB : W1.heap.size ≤ Wn.heap.size := by omega
              clear hdk hKK
              go_wp2_with (first
               | (go_at_call 33; (with_reducible refine kT.mono ?_); rintro e w4 ⟨rfl, rfl⟩)
               | (go_at_call 31; (with_reducible refine kK.mono ?_); rintro e w4 ⟨rfl, rfl⟩)
               | (at_builtin; refine zca _ rfl _ _ 65 rfl W1.heap.size 36 i0 (.slice none 0 0) 1 24 Tryz.underlying65 hi hz0 hz1 hz2 rfl (by decide) (.slice A4 L6.length d4) L6.length (L6.map rowV) (by rfl) (((HTWn.out.o4.alloc _).alloc _).alloc _) (some ⟨((Wn.alloc (.cells #[.int .i64 x.type] 3)).alloc (.cells #[.int .i64 x.type] 3)).heap.size, 0, none⟩) 1 1 [.slice (some ⟨Wn.heap.size + 1, 0, none⟩) 1 1] (by simp [Act.eval]) rfl (zeh _ _ _) (by intro u hu; simp at hu; subst hu; rfl) (by unfold maxLen; omega) (by omega) (by simp; omega) ?_; intro v6 w7 hown6 hgrow6 hloc6; have hP6 := TwoR.push (x := (some ⟨Wn.heap.size + 1, 0, none⟩, 1, [x.type])) (((HTWn.out.swap.below ((zJx _ _).alloc (zJw _) (.cells #[.int .i64 x.type] 3))).below ((zJx _ _).alloc (zJw _) (.cells #[.int .i64 x.type] 3))).below ((zJx _ _).alloc (zJw _) (.cells #[.slice (some ⟨Wn.heap.size + 1, 0, none⟩) 1 1] 36))) (HOK.out.below ((zJx _ _).alloc (zJw _) _)) (by simp; omega) hown6 hgrow6 hloc6; have HP6 := zJv hP6.1.swap; have HB6 := zJv hP6.2; clear hP6 hown6 hgrow6 hloc6))
              have hB7 : Below W1.heap.size w6 w7 := (((hBnB.alloc (by omega) (.cells #[.int .i64 x.type] 3)).alloc (by simp; omega) (.cells #[.int .i64 x.type] 3)).alloc (by simp; omega) (.cells #[.slice (some ⟨Wn.heap.size + 1, 0, none⟩) 1 1] 36)).trans HB6.out;have HSH2 : Hid (Short (L6 ++ [(some ⟨Wn.heap.size + 1, 0, none⟩, 1, [x.type])])) := zJv (HSH.out.push (by simp))
              have HK62 : Hid (ksOf (L6 ++ [(some ⟨Wn.heap.size + 1, 0, none⟩, 1, [x.type])]) = (t.nodes.flatMap (·.types) ++ t.types.flatMap (·.kids)) ++ (t.aliases.take (k + 1)).map (·.type)) := zJv (by
               rw [zhn, HK6.out, HTK.out, List.map_append]
               simp)
              go_roundw
              case rel => exact ⟨k + 1, _, by omega, by go_num, by simp; omega, HP6, HSH2, HK62, HAO2, hB7⟩
              case measure => simp [intOf]; omega
            · have hdk : decide (∀ z ∈ [x.type], 0 ≤ z ∧ z < (t.types.length : Int)) = false := decide_eq_false hKK
              rw [hdk] at kK;have HF := zJv (HBadK.out hKK);have hBf := hBnw.alloc (by have := hBnw.size; omega) (.cells #[.int .i64 x.type] 3);clear hdk
              go_wp2_with (first
               | (go_at_call 33; (with_reducible refine kT.mono ?_); rintro e w4 ⟨rfl, rfl⟩)
               | (go_at_call 31; (with_reducible refine kK.mono ?_); rintro e w4 ⟨rfl, rfl⟩))
              go_ret;exact ⟨za7 HF.out.symm, hBf⟩
        · obtain rfl : k = t.aliases.length := by omega
          rw [List.take_length] at HK6;obtain ⟨A3, d3, hv3, hR3⟩ := HTW.out.rows;obtain ⟨A4, d4, hv4, hR4⟩ := HTW.out.swap.rows;subst hv3;subst hv4
          have kU := zqk t.nodes.length A3 d3 (L3.map fun x => x.2.2) wr hR3 F5 (by rw [zKd]; omega) (fun row hrow => by
           obtain ⟨x, hx, rfl⟩ := List.mem_map.1 hrow
           exact HSH0.out.1 x hx)
          have hfl : (L3.map fun x => x.2.2).flatten = ((t.nodes.length - 1 : Nat) : Int) :: zcb t := by have h := HKS.out.1; exact h
          rw [zKd, hfl] at kU
          have HFIN : Hid (r = true ↔ Ones t.nodes.length (((t.nodes.length - 1 : Nat) : Int) :: zcb t) ∧ Ones t.types.length (zbn t)) := zJv (by
           have h := HFin.out HNO.out HTO.out HAO.out
           rwa [HR.out] at h)
          have hfl6 : ksOf L6 = zbn t := by
           rw [HK6.out];unfold zbn;rw [List.append_assoc]
          have HFL6 := zJv hfl6;have HR4 := zJv hR4;have HSH6' := HSH;have hx0 := ((HX6.out.below hBr hwB).cell 0);simp only [gA, gB] at hx0;have HXX := zJv (HX6.out.below hBr hwB);clear hlt hfl hfl6 hR3 hR4;rw [hl3] at kU;obtain ⟨us, hus⟩ : ∃ us, ticks (List.replicate t.nodes.length 0) (((t.nodes.length - 1 : Nat) : Int) :: zcb t) = us := ⟨_, rfl⟩;have hul : us.length = t.nodes.length := by rw [← hus, zhg]; simp
          have hone := zpw t.nodes.length (((t.nodes.length - 1 : Nat) : Int) :: zcb t);rw [hus] at kU hone;have HONE := zJv hone;have HUL := zJv hul;clear hus hone hul;go_wp2_with fail
          refine kU.mono ?_;rintro e w7 ⟨rfl, hX7, hb7⟩;have hB7w : Below w.heap.size w w7 := hBw.trans (hb7.mono (by omega));have HX7 := zJv hX7;have HXX7 := zJv (HXX.out.below hb7 (by omega));have hTW7 := HTW.out.below hb7;have HTW7 := zJv hTW7;clear kU hX7 hTW7 hx0;go_wp2
          go_loop [12, 134] (fun _ i => ∃ k : Nat, k ≤ t.nodes.length ∧ i = .int .i64 k ∧ Hid (∀ u ∈ us.take k, u = 1)) (fun _ i => t.nodes.length - (intOf i).toNat)
          case atStart => exact ⟨0, zK8 _, rfl, zJv (by simp)⟩
          case round =>
           obtain ⟨k, hk, rfl, HU⟩ := hrel;by_cases hlt : k < t.nodes.length
           · have hku : k < us.length := by rw [HUL.out]; exact hlt
             have e1 := (HX7.out.cell k).trans (zn2 _ _ hku);have htk : us.take (k + 1) = us.take k ++ [us[k]] := zK9 hku
             have hbad : us[k] ≠ 1 → r = false := fun h => by
              cases r
              · rfl
              · exact absurd (HONE.out.2 (HFIN.out.1 rfl).1 _ (zKe hku)) h
             obtain ⟨u, hu⟩ : ∃ u, us[k] = u := ⟨_, rfl⟩;rw [hu] at e1 htk hbad;have HTK := zJv htk;have HBD := zJv hbad;have i1 : (0 : Int) ≤ (k : Int) := by omega
             have i2 : (k : Int) < (t.nodes.length : Int) := by omega
             clear hu htk hbad hku;by_cases h1u : u = 1
             · have d4' : (u != 1) = false := by rw [h1u]; rfl
               have HU1 : Hid (∀ v ∈ us.take (k + 1), v = 1) := zJv fun v hv => by
                rw [HTK.out] at hv;rcases List.mem_append.1 hv with hv | hv
                · exact HU.out v hv
                · simp only [zK7] at hv; subst hv; exact h1u
               clear h1u;go_wp2
               go_round
               case rel => exact ⟨k + 1, by omega, by go_num, HU1⟩
               case measure => simp [intOf]; omega
             · have d4' : (u != 1) = true := by rw [bne_iff_ne]; exact h1u
               have HF := zJv (HBD.out h1u);clear h1u;go_wp2
               go_ret;exact ⟨za7 HF.out.symm, hB7w⟩
           · obtain rfl : k = t.nodes.length := by omega
             have hO1 : Ones t.nodes.length (((t.nodes.length - 1 : Nat) : Int) :: zcb t) := HONE.out.1 fun u hu => HU.out u (by rw [← HUL.out, List.take_length]; exact hu);have HFI2 : Hid (r = true ↔ Ones t.types.length (zbn t)) := zJv ⟨fun h => (HFIN.out.1 h).2, fun h => HFIN.out.2 ⟨hO1, h⟩⟩;obtain ⟨A4', d4', hv4', hR4'⟩ := HTW7.out.swap.rows;injection hv4' with g1 g2 g3
             subst g1;subst g3
             have kU := zqk t.types.length A4 d4 (L6.map fun x => x.2.2) w7 hR4' F6 (by rw [zKd]; omega) (fun row hrow => by
              obtain ⟨x, hx, rfl⟩ := List.mem_map.1 hrow
              exact HSH6'.out x hx)
             have hfl : (L6.map fun x => x.2.2).flatten = zbn t := HFL6.out;rw [zKd, hfl] at kU;have hx1 := HXX7.out.cell 1;simp only [gA, gB, gC] at hx1;obtain ⟨us2, hus⟩ : ∃ us2, ticks (List.replicate t.types.length 0) (zbn t) = us2 := ⟨_, rfl⟩;have hul : us2.length = t.types.length := by rw [← hus, zhg]; simp
             have hone := zpw t.types.length (zbn t);rw [hus] at kU hone;have HONE2 := zJv hone;have HUL2 := zJv hul;clear hus hone hul hfl hO1 hR4' HU hlt;go_wp2_with fail
             refine kU.mono ?_;rintro e w8 ⟨rfl, hX8, hb8⟩;have hB8w : Below w.heap.size w w8 := hB7w.trans (hb8.mono hB7w.size);have HX8 := zJv hX8;clear kU hX8 hx1 hb8;go_wp2
             go_loop [14, 147] (fun _ i => ∃ k : Nat, k ≤ t.types.length ∧ i = .int .i64 k ∧ Hid (∀ u ∈ us2.take k, u = 1)) (fun _ i => t.types.length - (intOf i).toNat)
             case atStart => exact ⟨0, zK8 _, rfl, zJv (by simp)⟩
             case round =>
              obtain ⟨k, hk, rfl, HU⟩ := hrel;by_cases hlt : k < t.types.length
              · have hku : k < us2.length := by rw [HUL2.out]; exact hlt
                have e1 := (HX8.out.cell k).trans (zn2 _ _ hku);have htk : us2.take (k + 1) = us2.take k ++ [us2[k]] := zK9 hku
                have hbad : us2[k] ≠ 1 → r = false := fun h => by
                 cases r
                 · rfl
                 · exact absurd (HONE2.out.2 (HFI2.out.1 rfl) _ (zKe hku)) h
                obtain ⟨u, hu⟩ : ∃ u, us2[k] = u := ⟨_, rfl⟩;rw [hu] at e1 htk hbad;have HTK := zJv htk;have HBD := zJv hbad;have i1 : (0 : Int) ≤ (k : Int) := by omega
                have i2 : (k : Int) < (t.types.length : Int) := by omega
                clear hu htk hbad hku;by_cases h1u : u = 1
                · have d5 : (u != 1) = false := by rw [h1u]; rfl
                  have HU1 : Hid (∀ v ∈ us2.take (k + 1), v = 1) := zJv fun v hv => by
                   rw [HTK.out] at hv;rcases List.mem_append.1 hv with hv | hv
                   · exact HU.out v hv
                   · simp only [zK7] at hv; subst hv; exact h1u
                  clear h1u;go_wp2
                  go_round
                  case rel => exact ⟨k + 1, by omega, by go_num, HU1⟩
                  case measure => simp [intOf]; omega
                · have d5 : (u != 1) = true := by rw [bne_iff_ne]; exact h1u
                  have HF := zJv (HBD.out h1u);clear h1u;go_wp2
                  go_ret;exact ⟨za7 HF.out.symm, hB8w⟩
              · obtain rfl : k = t.types.length := by omega
                have HF : Hid (r = true) := zJv (HFI2.out.2 (HONE2.out.1 fun u hu => HU.out u (by rw [← HUL2.out, List.take_length]; exact hu)));go_wp2
                go_ret;exact ⟨za7 HF.out.symm, hB8w⟩
theorem zhc (t : TreeD) (p : Ptr6) (w : World) (hT : TreeAt (Lt w.heap.size) w t p) (hF : zb1 t) (hI : ∀ x ∈ t.nodes, x.int ≤ 9223372036854775807) :
 Calls Tryz.prog 17 #[treeV t p] w fun e w' => e = .returned (.bool (zbq t)) ∧ Below w.heap.size w w' := by
 by_cases h0 : t.nodes.length = 0
 · exact zvb t p w h0
 · exact zvt t p w hT hF hI (by omega)
end Go.Proofs.YtidmeodmkcomlaaGreatDoor
