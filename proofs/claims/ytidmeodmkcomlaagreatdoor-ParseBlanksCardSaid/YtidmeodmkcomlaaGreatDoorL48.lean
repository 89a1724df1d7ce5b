/- A tree whose places are further on is -/
import Derived.Test.YtidmeodmkcomlaaGreatDoorL47
namespace Go.Proofs.YtidmeodmkcomlaaGreatDoor
open Go Go.Proofs Go.RowKit
theorem zI2 {d : Nat} {t : TreeD} {j : Nat} {x : TermD} (h : (t.sh d).nodes[j]? = some x) : ∃ y, t.nodes[j]? = some y ∧ x = shT d y := by
 have h : (t.nodes.map (shT d))[j]? = some x := h;rw [tac, zKg] at h;obtain ⟨y, hy, e⟩ := h;exact ⟨y, hy, e.symm⟩
theorem zIp {d : Nat} {t : TreeD} {j : Nat} {x : TypD} (h : (t.sh d).types[j]? = some x) : ∃ y, t.types[j]? = some y ∧ x = shY d y := by
 have h : (t.types.map (shY d))[j]? = some x := h;rw [tac, zKg] at h;obtain ⟨y, hy, e⟩ := h;exact ⟨y, hy, e.symm⟩
theorem zs2 (d : Nat) (t : TreeD) : (t.sh d).nodes.length = t.nodes.length ∧ (t.sh d).types.length = t.types.length ∧ (t.sh d).aliases.length = t.aliases.length := ⟨zKd _, zKd _, zKd _⟩
theorem zmg (d : Nat) (t : TreeD) : zcb (t.sh d) = zcb t := by
 show (t.nodes.map (shT d)).flatMap (·.kids) = t.nodes.flatMap (·.kids)
 rw [List.flatMap_map]; rfl
theorem zm4 (d : Nat) (t : TreeD) : zbn (t.sh d) = zbn t := by
 show (t.nodes.map (shT d)).flatMap (·.types) ++ ((t.types.map (shY d)).flatMap (·.kids) ++ (t.aliases.map (shA d)).map (·.type)) = _
 rw [List.flatMap_map, List.flatMap_map, List.map_map]; rfl
theorem zqz {t : TreeD} (h : Whole t) (d : Nat) : Whole (t.sh d) := by
 obtain ⟨l1, l2, _⟩ := zs2 d t;refine ⟨⟨by rw [l1]; exact h.rng.one, fun j x hx => ?_, fun j x hx => ?_, fun x hx => ?_⟩, by rw [l1]; exact h.big, by rw [l2]; exact h.bigT, by rw [zmg]; exact h.onceN, by rw [zm4]; exact h.onceT, by rw [l1, zmg]; exact h.allN, by rw [l2, zm4]; exact h.allT⟩
 · obtain ⟨y, hy, rfl⟩ := zI2 hx
   rw [l2];exact h.rng.nod j y hy
 · obtain ⟨y, hy, rfl⟩ := zIp hx
   exact h.rng.typ j y hy
 · obtain ⟨y, hy, rfl⟩ := List.mem_map.1 hx
   rw [l2];exact h.rng.ali y hy
theorem zIb {t : TreeD} (h : zb1 t) (d : Nat) : zb1 (t.sh d) := by
 obtain ⟨l1, l2, l3⟩ := zs2 d t;refine ⟨fun x hx => ?_, fun x hx => ?_, fun x hx => ?_, by rw [l3]; exact h.2.2.2.1, by rw [l1]; exact h.2.2.2.2.1, by rw [l2]; exact h.2.2.2.2.2⟩
 · obtain ⟨y, hy, rfl⟩ := List.mem_map.1 hx
   exact h.1 y hy
 · obtain ⟨y, hy, rfl⟩ := List.mem_map.1 hx
   exact h.2.1 y hy
 · obtain ⟨y, hy, rfl⟩ := List.mem_map.1 hx
   exact h.2.2.1 y hy
theorem zIj (d : Nat) (t : TreeD) : tmK (t.sh d) = tmK t := by
 funext i
 unfold tmK;show (match (t.nodes.map (shT d))[i]? with | some x => x.kids.map Int.toNat | none => []) = _
 rw [tac];cases t.nodes[i]? <;> rfl
theorem zIa (d : Nat) (t : TreeD) : tyK (t.sh d) = tyK t := by
 funext i
 unfold tyK;show (match (t.types.map (shY d))[i]? with | some x => x.kids.map Int.toNat | none => []) = _
 rw [tac];cases t.types[i]? <;> rfl
theorem zvr (d : Nat) (t : TreeD) : zd5 (t.sh d) = zd5 t := by
 funext i
 unfold zd5;show (match (t.nodes.map (shT d))[i]? with | some x => x.types | none => []) = _
 rw [tac];cases t.nodes[i]? <;> rfl
theorem zA0 (d : Nat) (t : TreeD) : zam (t.sh d) = zam t := by
 unfold zam;rw [zIj, (zs2 d t).1]
theorem zyp (d : Nat) (t : TreeD) (l : List Nat) : zcr (t.sh d) l = zcr t l := by
 unfold zcr zdi;rw [zIa, zvr, show (t.sh d).aliases.map (·.type) = t.aliases.map (·.type) from by show (t.aliases.map (shA d)).map _ = _; rw [List.map_map]; rfl]
theorem zH1 {t : TreeD} (h : Whole t) (d : Nat) : sameB t (t.sh d) = true := by
 have hw := zqz h d;unfold sameB;rw [(ze0 t).2 h, (ze0 (t.sh d)).2 hw, zA0, zyp];simp only [Bool.true_and, zK6];have htm := zp2 h.rng;refine ⟨zec (fun i hi => ?_), ?_, zec (fun i hi => ?_)⟩
 · have hi := htm i hi
   unfold atT;show (match t.nodes[i]?, (t.nodes.map (shT d))[i]? with | some x, some y => smT x y | _, _ => false) = true
   rw [tac, zK1 hi];exact zrg _
 · show all2 smA t.aliases (t.aliases.map (shA d)) = true
   have : ∀ l : List AliD, all2 smA l (l.map (shA d)) = true := by
    intro l
    induction l with
    | nil => rfl
    | cons a l ih => simp only [tae, all2, zK6]; exact ⟨zrt _, ih⟩
   exact this _
 · have hi : i < t.types.length := by
    unfold zcr at hi;obtain ⟨k, hk, hi⟩ := List.mem_flatMap.1 hi;obtain ⟨z, hz, rfl⟩ := List.mem_map.1 hk
    have hz2 : 0 ≤ z ∧ z < (t.types.length : Int) := by
     unfold zdi at hz;rcases List.mem_append.1 hz with hz | hz
     · obtain ⟨j, _, hz⟩ := List.mem_flatMap.1 hz
       exact zmm h.rng j z hz
     · obtain ⟨x, hx, rfl⟩ := List.mem_map.1 hz
       exact ⟨(h.rng.ali x hx).1, (h.rng.ali x hx).2.1⟩
    exact zn3 h.rng.dnT (by omega) i hi
   unfold atY;show (match t.types[i]?, (t.types.map (shY d))[i]? with | some x, some y => smY x y | _, _ => false) = true
   rw [tac, zK1 hi];exact zqx _
theorem zIo {t : TreeD} (h : Whole t) (hF : zb1 t) : Dwn t := by
 refine ⟨fun j x hx => (h.rng.typ j x hx).1, fun j x hx => ⟨(h.rng.nod j x hx).1, (h.rng.nod j x hx).2.1⟩, fun x hx => ?_, fun x hx => ?_, ?_⟩
 · have := (hF.2.1 x hx).2.2.2; omega
 · have := (hF.1 x hx).2.2.2; omega
 · have := hF.2.2.2; omega
set_option maxHeartbeats 8000000
set_option maxRecDepth 100000 in
theorem zLw (t : TreeD) (p q : Ptr6) (hW : Whole t) (hF : zb1 t) (kS : ∀ W : World, TreeAt (Lt W.heap.size) W t p → TreeAt (Lt W.heap.size) W t q → Calls Tryz.prog 11 #[treeV t p, treeV t q] W fun e w' => e = .returned (.bool true) ∧ Below W.heap.size W w') (w : World) (hTa : TreeAt (Lt w.heap.size) w t p) (hTb : TreeAt (Lt w.heap.size) w t q) :
 Calls Tryz.prog 12 #[treeV t p, treeV t q] w fun e w' => e = .returned (.bool true) ∧ Below w.heap.size w w' := by
 have hD := zIo hW hF;have hone := hW.rng.one;have KT := zJv (fun (W : World) (hA : TreeAt (Lt W.heap.size) W t p) (hB : TreeAt (Lt W.heap.size) W t q) => zkf t p q hD (t.nodes.length - 1 + 1) (t.nodes.length - 1) (tbb _) (by omega) W hA hB);have KY := zJv (fun (k : Nat) (hkn : k < t.types.length) (W : World) (hA : TreeAt (Lt W.heap.size) W t p) (hB : TreeAt (Lt W.heap.size) W t q) => zig t p q hD.typ hD.kty hD.len.2.1 hD.len.1 hD.len.2.2 (k + 1) k (tbb k) hkn W hA hB);have KS := zJv kS;have HRA := zJv (fun (x : AliD) (hx : x ∈ t.aliases) => (⟨(hW.rng.ali x hx).1, (hW.rng.ali x hx).2.1⟩ : 0 ≤ x.type ∧ x.type < (t.types.length : Int)));have f5 := hD.len.1;have f6 := hD.len.2.1;have f4 := hD.len.2.2;obtain ⟨a1, c1, a2, c2, a3, c3⟩ := p;obtain ⟨b1, d1, b2, d2, b3, d3⟩ := q;have HA := zJv hTa.2.2;have HB := zJv hTb.2.2;obtain ⟨W1, hW1⟩ : ∃ W1, (w.alloc (.cells #[.slice a1 t.nodes.length c1, .slice a2 t.types.length c2, .slice a3 t.aliases.length c3] 27)).alloc (.cells #[.slice b1 t.nodes.length d1, .slice b2 t.types.length d2, .slice b3 t.aliases.length d3] 27) = W1 := ⟨_, rfl⟩;have hB1 : Below w.heap.size w W1 := by rw [← hW1]; exact ((zJx _ _).alloc (zJw _) _).alloc (by simp) _
 have hX : Blk W1 w.heap.size 27 #[.slice a1 t.nodes.length c1, .slice a2 t.types.length c2, .slice a3 t.aliases.length c3] := by rw [← hW1]; exact (Blk.new w 27 _).alloc _
 have hY : Blk W1 (w.heap.size + 1) 27 #[.slice b1 t.nodes.length d1, .slice b2 t.types.length d2, .slice b3 t.aliases.length d3] := by
  rw [← hW1];have := Blk.new (w.alloc (.cells #[.slice a1 t.nodes.length c1, .slice a2 t.types.length c2, .slice a3 t.aliases.length c3] 27)) 27 #[.slice b1 t.nodes.length d1, .slice b2 t.types.length d2, .slice b3 t.aliases.length d3];rwa [zKh] at this
 have hzX := hX.lt;have hzY := hY.lt;have HX := zJv hX;have HY := zJv hY;have HTa := zJv hTa;have HTb := zJv hTb;have kR := KS.out W1 (zcu HTa.out hB1) (zcu HTb.out hB1);unfold treeV at kR;dsimp only at kR;clear hX hY hTa hTb kS hW hF hD;have HC := zJv (fun (W : World) (hW : Below W1.heap.size W1 W) => (⟨(HX.out.below hW hzX).cell 0, (HX.out.below hW hzX).cell 1, (HX.out.below hW hzX).cell 2, (HY.out.below hW hzY).cell 0, (HY.out.below hW hzY).cell 1, (HY.out.below hW hzY).cell 2⟩ : _ ∧ _ ∧ _ ∧ _ ∧ _ ∧ _));obtain ⟨x0, x1, x2, y0, y1, y2⟩ := HC.out W1 (zJx _ _);simp only [gA, gB, gC] at x0 x1 x2 y0 y1 y2;go_enter Tryz.func12, Tryz.ntmps12
 go_wp2_with fail
 refine kR.mono ?_;rintro e w2 ⟨rfl, hb2⟩;have hB2 : Below w.heap.size w w2 := hB1.trans (hb2.mono hB1.size);have hz2 := hB2.size;clear hW1 kR x0 x1 x2 y0 y1 y2;obtain ⟨x0, x1, x2, y0, y1, y2⟩ := HC.out w2 hb2;simp only [gA, gB, gC] at x0 x1 x2 y0 y1 y2;have kT := KT.out w2 (zcu HTa.out hB2) (zcu HTb.out hB2);unfold treeV at kT;dsimp only at kT
 have hsub : IntKind.i64.wrap ((t.nodes.length : Int) - 1) = ((t.nodes.length - 1 : Nat) : Int) := by
  rw [IntKind.wrap_i64]; omega
 go_wp2_with fail
 refine kT.mono ?_;rintro e w3 ⟨rfl, hb3⟩;have hB3 : Below w.heap.size w w3 := hB2.trans (hb3.mono hz2);have hz3 := hB3.size;have hb13 : Below W1.heap.size W1 w3 := hb2.trans (hb3.mono hb2.size);clear kT x0 x1 x2 y0 y1 y2 hb2 hb3;obtain ⟨x0, x1, x2, y0, y1, y2⟩ := HC.out w3 hb13;simp only [gA, gB, gC] at x0 x1 x2 y0 y1 y2;go_wp2
 go_loopw [5, 27] (fun _ k0 wr => ∃ (k : Nat), k ≤ t.aliases.length ∧ k0 = .int .i64 k ∧ Below w3.heap.size w3 wr) (fun _ k0 _ => t.aliases.length - (intOf k0).toNat)
 case atStart => exact ⟨0, zK8 _, rfl, zJx _ _⟩
 case round =>
  obtain ⟨k, hk, rfl, hB⟩ := hrel;have hBr : Below w.heap.size w wr := hB3.trans (hB.mono hz3);have hb1r : Below W1.heap.size W1 wr := hb13.trans (hB.mono hb13.size);have hzr := hB.size;have hbr := hBr.size;clear x0 x1 x2 y0 y1 y2;by_cases hlt : k < t.aliases.length
  · obtain ⟨ba, oa, e3, hba, hca⟩ := HA.out (by omega)
    obtain ⟨bb, ob, e4, hbb, hcb⟩ := HB.out (by omega);try dsimp only at e3 e4
    subst e3;subst e4;have hqa := hca k _ (zK1 hlt);have hqb := hcb k _ (zK1 hlt);have hz1 := HRA.out _ (zKe hlt);obtain ⟨x, hx⟩ : ∃ x, t.aliases[k] = x := ⟨_, rfl⟩;rw [hx] at hqa hqb hz1;obtain ⟨nx, tx, px⟩ := x;dsimp only at hz1;have e1 := (hBr.cell (p := ⟨ba, oa + k * 3 + 1, none⟩) hba).trans (hqa 1 _ rfl);have e2 := (hBr.cell (p := ⟨ba, oa + k * 3 + 2, none⟩) hba).trans (hqa 2 _ rfl);have l1 := (hBr.cell (p := ⟨bb, ob + k * 3 + 1, none⟩) hbb).trans (hqb 1 _ rfl);have l2 := (hBr.cell (p := ⟨bb, ob + k * 3 + 2, none⟩) hbb).trans (hqb 2 _ rfl);obtain ⟨k1, hk1⟩ : ∃ n : Nat, tx = (n : Int) := ⟨tx.toNat, by omega⟩;subst hk1;have kI : Hid (∀ W, Below wr.heap.size wr W → Calls Tryz.prog 15 #[treeV t ⟨a1, c1, a2, c2, some ⟨ba, oa, none⟩, c3⟩, .int .i64 (k1 : Int), treeV t ⟨b1, d1, b2, d2, some ⟨bb, ob, none⟩, d3⟩, .int .i64 (k1 : Int)] W fun e w' => e = .returned (.bool true) ∧ Below W.heap.size W w') := zJv fun W hW => KY.out k1 (by omega) W (zcu HTa.out (hBr.trans (hW.mono hBr.size))) (zcu HTb.out (hBr.trans (hW.mono hBr.size)));unfold treeV at kI;dsimp only at kI;have hba' : ba < wr.heap.size := zJy hba hbr;have hbb' : bb < wr.heap.size := zJy hbb hbr
    have HSS : Hid (∀ W, Below wr.heap.size wr W → (fun W : World => W.cell? ⟨w.heap.size, 0, none⟩ = some (.slice a1 t.nodes.length c1) ∧ W.cell? ⟨w.heap.size, 1, none⟩ = some (.slice a2 t.types.length c2) ∧ W.cell? ⟨w.heap.size, 2, none⟩ = some (.slice (some ⟨ba, oa, none⟩) t.aliases.length c3) ∧ W.cell? ⟨w.heap.size + 1, 0, none⟩ = some (.slice b1 t.nodes.length d1) ∧ W.cell? ⟨w.heap.size + 1, 1, none⟩ = some (.slice b2 t.types.length d2) ∧ W.cell? ⟨w.heap.size + 1, 2, none⟩ = some (.slice (some ⟨bb, ob, none⟩) t.aliases.length d3) ∧ W.cell? ⟨ba, oa + k * 3 + 2, none⟩ = some (.int .i64 px) ∧ W.cell? ⟨bb, ob + k * 3 + 2, none⟩ = some (.int .i64 px) ∧ W.cell? ⟨ba, oa + k * 3 + 1, none⟩ = some (.int .i64 (k1 : Int)) ∧ W.cell? ⟨bb, ob + k * 3 + 1, none⟩ = some (.int .i64 (k1 : Int)) ∧ Below wr.heap.size wr W) W) := zJv fun W hW => by
     obtain ⟨A0, A1, A2, B0, B1, B2⟩ := HC.out W (hb1r.trans (hW.mono hb1r.size));simp only [gA, gB, gC] at A0 A1 A2 B0 B1 B2;exact ⟨A0, A1, A2, B0, B1, B2, (hW.cell (p := ⟨ba, _, none⟩) hba').trans e2, (hW.cell (p := ⟨bb, _, none⟩) hbb').trans l2, (hW.cell (p := ⟨ba, _, none⟩) hba').trans e1, (hW.cell (p := ⟨bb, _, none⟩) hbb').trans l1, hW⟩
    have i1 : (0 : Int) ≤ (k : Int) := by omega
    have i2 : (k : Int) < (t.aliases.length : Int) := by omega
    have hB0 := zJx wr.heap.size wr;have hq1 : (px != px) = false := by simp
    clear hx e1 e2 l1 l2 hqa hqb hca hcb hba hbb;go_wp2_with fail
    refine wp_region_noPanic ?_;refine wp_region_held_drew (S := fun W => W.cell? ⟨w.heap.size, 0, none⟩ = some (.slice a1 t.nodes.length c1) ∧ W.cell? ⟨w.heap.size, 1, none⟩ = some (.slice a2 t.types.length c2) ∧ W.cell? ⟨w.heap.size, 2, none⟩ = some (.slice (some ⟨ba, oa, none⟩) t.aliases.length c3) ∧ W.cell? ⟨w.heap.size + 1, 0, none⟩ = some (.slice b1 t.nodes.length d1) ∧ W.cell? ⟨w.heap.size + 1, 1, none⟩ = some (.slice b2 t.types.length d2) ∧ W.cell? ⟨w.heap.size + 1, 2, none⟩ = some (.slice (some ⟨bb, ob, none⟩) t.aliases.length d3) ∧ W.cell? ⟨ba, oa + k * 3 + 2, none⟩ = some (.int .i64 px) ∧ W.cell? ⟨bb, ob + k * 3 + 2, none⟩ = some (.int .i64 px) ∧ W.cell? ⟨ba, oa + k * 3 + 1, none⟩ = some (.int .i64 (k1 : Int)) ∧ W.cell? ⟨bb, ob + k * 3 + 1, none⟩ = some (.int .i64 (k1 : Int)) ∧ Below wr.heap.size wr W) (by kernel_rfl) (HSS.out _ (ta1 hB0)) (fun hHeld => ?_);refine tkH 0 ?_;try simp only [Act.put, sA, sB, sC]
    refine tkH 1 ?_;try simp only [Act.put, sA, sB, sC]
    refine tkH 2 ?_;try simp only [Act.put, sA, sB, sC]
    refine tkH 3 ?_;try simp only [Act.put, sA, sB, sC]
    refine tkH 4 ?_;try simp only [Act.put, sA, sB, sC]
    refine tkH 5 ?_;try simp only [Act.put, sA, sB, sC]
    refine tkH 6 ?_;try simp only [Act.put, sA, sB, sC]
    refine tkH 7 ?_;try simp only [Act.put, sA, sB, sC]
    refine tkH 8 ?_;try simp only [Act.put, sA, sB, sC]
    refine tkH 9 ?_;try simp only [Act.put, sA, sB, sC]
    refine tkH 10 ?_;try simp only [Act.put, sA, sB, sC]
    refine tkH 11 ?_;try simp only [Act.put, sA, sB, sC]
    refine tkH 12 ?_;try simp only [Act.put, sA, sB, sC]
    refine tkH 13 ?_;try simp only [Act.put, sA, sB, sC]
    refine tkH 14 ?_;try simp only [Act.put, sA, sB, sC]
    refine tkH 15 ?_;try simp only [Act.put, sA, sB, sC]
    refine tkH 16 ?_;try simp only [Act.put, sA, sB, sC]
    refine tkH 17 ?_;try simp only [Act.put, sA, sB, sC]
    refine tkH 18 ?_;try simp only [Act.put, sA, sB, sC]
    refine tkH 19 ?_;try simp only [Act.put, sA, sB, sC]
    refine tkH 20 ?_;try simp only [Act.put, sA, sB, sC]
    refine tkH 21 ?_;try simp only [Act.put, sA, sB, sC]
    refine tkH 22 ?_;try simp only [Act.put, sA, sB, sC]
    refine tkH 23 ?_;try simp only [Act.put, sA, sB, sC]
    refine tkH 24 ?_;try simp only [Act.put, sA, sB, sC]
    refine tkH 25 ?_;try simp only [Act.put, sA, sB, sC]
    refine tkH 26 ?_;try simp only [Act.put, sA, sB, sC]
    refine tkH 27 ?_;try simp only [Act.put, sA, sB, sC]
    refine rdH 28 (fun K hK => ?_);go_simp; go_at_call 15; (with_reducible refine (kI.out _ (ta1 hB0)).mono ?_); rintro e w6 ⟨rfl, b6'⟩; have b6 := (ta1 hB0).trans (b6'.mono (by exact zJw _))
    go_wp2_with fail
    refine hK.out _ _ ?hSq28 (fun hHeld => ?_)
    case hSq28 => exact HSS.out _ b6
    clear hK K;try simp only [Act.put, sA, sB, sC]
    refine tkH 29 ?_;try simp only [Act.put, sA, sB, sC]
    refine tkH 30 ?_;try simp only [Act.put, sA, sB, sC]
    refine wpAnyH_done (by kernel_rfl) ?_ _;refine NoPanic.normal ?_;go_wp2
    go_roundw
    case rel => exact ⟨k + 1, by omega, by go_num, hB.trans (b6.mono hzr)⟩
    case measure => simp [intOf]; omega
  · obtain rfl : k = t.aliases.length := by omega
    go_wp2
    go_ret;exact ⟨rfl, hBr⟩
end Go.Proofs.YtidmeodmkcomlaaGreatDoor
