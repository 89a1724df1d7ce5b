/- Each LetRec of what is no Fun: the walk. Free names: the walk of one -/
import Derived.Test.YtjbdgjbmbohfmaaGreatDoorK33
namespace Go.Proofs.YtjbdgjbmbohfmaaGreatDoor
open Go Go.Proofs Go.RowKit
def dgV (l : List DiagD) : List Value := l.flatMap fun d => [.int .i64 d.err, .int .i64 d.pos, .string d.name]
theorem dgV_append (a b : List DiagD) : dgV (a ++ b) = dgV a ++ dgV b := by simp [dgV]
theorem cell3_new (w : World) (x y z : Value) (t : TypeId) : ∀ j u, [x, y, z][j]? = some u → (w.alloc (.cells #[x, y, z] t)).cell? ((⟨w.heap.size, 0, none⟩ : Addr).add j) = some u := by
 intro j u hj
 have hn := World.alloc_heap_new w (.cells #[x, y, z] t)
 have ha : ∀ j, ((⟨w.heap.size, 0, none⟩ : Addr).add j) = ⟨w.heap.size, j, none⟩ := fun j => by simp [Addr.add]; omega
 rw [ha]
 match j, hj with
 | 0, hj => simp at hj; subst hj; simp only [World.cell?, hn]; rfl
 | 1, hj => simp at hj; subst hj; simp only [World.cell?, hn]; rfl
 | 2, hj => simp at hj; subst hj; simp only [World.cell?, hn]; rfl
theorem info31Z : (Tryz.prog.info? 31).map (fun i => (i.zero, i.size, i.bytes)) = some (some (.agg #[.int .i64 0, .int .i64 0, .string ⟨#[]⟩]), 3, 32) := by kernel_rfl
def RowPost (l : List DiagD) (w : World) (e : Ending) (w' : World) : Prop :=
 ∃ v, e = .returned v ∧ w'.ownsRow w.heap.size 31 3 v l.length (dgV l) ∧ (l = [] → v = .slice none 0 0) ∧ Below w.heap.size w w'

/-- What the walk of terms asks. -/
structure NdOk (t : TreeD) : Prop where
 rng : ∀ (j : Nat) x, t.nodes[j]? = some x → ∀ k ∈ x.kids, 0 ≤ k ∧ k < (j : Int)
 two : ∀ (j : Nat) x, t.nodes[j]? = some x → x.kind = 8 → 0 < x.kids.length
/-- What is wrong with one term. -/
def wrong1 (t : TreeD) (n : TermD) : List DiagD := if n.kind = 8 then (match t.nodes[(n.kids.headD 0).toNat]? with
 | some k => if k.kind = 5 then [] else [⟨1, k.pos, n.name⟩]
 | none => []) else []
theorem wrongT_eq (t : TreeD) : wrongT t = t.nodes.flatMap (wrong1 t) := rfl
theorem own_sliceZ {w : World} {base : Nat} {e : TypeId} {size n : Nat} {v : Value} {xs : List Value} (h : w.ownsRow base e size v n xs) : ∃ A c, v = .slice A n c := by
 rcases h.2 with ⟨rfl, rfl, _⟩ | ⟨g, cap, cur, rfl, _⟩
 ·exact ⟨none, 0, rfl⟩
 ·exact ⟨_, cap, rfl⟩
theorem own_belowZ {w w' : World} {base : Nat} {e : TypeId} {size n : Nat} {v : Value} {xs : List Value} (h : w.ownsRow base e size v n xs) (hb : Below w.heap.size w w') : w'.ownsRow base e size v n xs := by
 refine ⟨h.1, ?_⟩
 rcases h.2 with h1 | ⟨g, cap, cur, h1, h2, h3, h4⟩
 ·exact .inl h1
 ·exact .inr ⟨g, cap, cur, h1, h2, (hb.block g (Array.getElem?_eq_some_iff.1 h3).1).trans h3, h4⟩
theorem own_baseZ {w : World} {base base' : Nat} {e : TypeId} {size n : Nat} {v : Value} {xs : List Value} (h : w.ownsRow base e size v n xs) (hb : base' ≤ base) : w.ownsRow base' e size v n xs := by
 refine ⟨h.1, ?_⟩
 rcases h.2 with h1 | ⟨g, cap, cur, h1, h2, h3⟩
 ·exact .inl h1
 ·exact .inr ⟨g, cap, cur, h1, Nat.le_trans hb h2, h3⟩
theorem own_atZ {w : World} {base : Nat} {e : TypeId} {size n : Nat} {v : Value} {xs : List Value} (h : w.ownsRow base e size v n xs) : ∀ g, v.ownBlock = some g → base ≤ g ∧ g < w.heap.size := by
 intro g hg
 rcases h.2 with ⟨rfl, _⟩ | ⟨g', cap, cur, rfl, h1, h2, _⟩
 ·cases hg
 ·simp only [Value.ownBlock, Option.some.injEq] at hg
  subst hg
  exact ⟨h1, (Array.getElem?_eq_some_iff.1 h2).1⟩

set_option maxRecDepth 100000 in
set_option maxHeartbeats 4000000 in
theorem wrongTerms_any (t : TreeD) (p : Ptr6) (w : World) (hT : TreeAt (Lt w.heap.size) w t p) (hN : NdOk t) (hl : t.nodes.length ≤ 65536) :
 Calls Tryz.prog 69 #[treeV t p] w (RowPost (wrongT t) w) := by
 obtain ⟨i31, hi, hz0, hz1, hz2⟩ := info_parts info31Z
 obtain ⟨nodes, types, al⟩ := t
 obtain ⟨a1, c1, a2, c2, a3, c3⟩ := p
 have hND := hT.1
 have HN := Lib.hid hN
 clear hT hN
 dsimp only at hND hl
 obtain ⟨W0, hW0⟩ : ∃ W0, w.alloc (.cells #[.slice a1 nodes.length c1, .slice a2 types.length c2, .slice a3 al.length c3] 28) = W0 := ⟨_, rfl⟩
 have hb0 : Below w.heap.size w W0 := by rw [← hW0]; exact (Below.refl _ w).alloc (Nat.le_refl _) _
 have hX0 : Blk W0 w.heap.size 28 #[.slice a1 nodes.length c1, .slice a2 types.length c2, .slice a3 al.length c3] := by rw [← hW0]; exact Blk.new w 28 _
 have x0 := hX0.cell 0
 have x1 := hX0.cell 1
 have x2 := hX0.cell 2
 simp only [List.getElem?_toArray, List.getElem?_cons_zero, List.getElem?_cons_succ] at x0 x1 x2
 have hz01 : w.heap.size < W0.heap.size := hX0.lt
 have HB := Lib.hid hb0
 have hW0' := hW0
 clear hb0
 go_enter Tryz.func69, Tryz.ntmps69
 go_wp2
 clear hW0 hW0'
 go_loopw [3, 5, 6, 10] (fun vl _ _ vc wr => ∃ (k : Nat) (pre : List DiagD), k ≤ nodes.length ∧ pre.length ≤ k ∧ vc = .int .i64 (k : Int) ∧ Hid (wr.ownsRow W0.heap.size 31 3 vl pre.length (dgV pre)) ∧ Hid (pre = [] → vl = .slice none 0 0) ∧ Hid (pre = (nodes.take k).flatMap (wrong1 ⟨nodes, types, al⟩)) ∧ Below W0.heap.size W0 wr) (fun _ _ _ vc _ => nodes.length - (intOf vc).toNat)
 case atStart => exact ⟨0, [], Nat.zero_le _, Nat.le_refl _, rfl, Lib.hid (World.ownsRow_nil _ _ _ _), Lib.hid (fun _ => rfl), Lib.hid rfl, Below.refl _ _⟩
 case round =>
  obtain ⟨k, pre, hk, hpk, rfl, HR, HNL, HP, hBr⟩ := hrel
  have hzr := hBr.size
  have hXr := hX0.below hBr hX0.lt
  have y0 := hXr.cell 0
  simp only [List.getElem?_toArray, List.getElem?_cons_zero] at y0
  by_cases hlk : k < nodes.length
  ·obtain ⟨b, off, rfl, hb, hcell⟩ := hND (by omega)
   obtain ⟨q, hq1, hq⟩ := hcell k nodes[k] (List.getElem?_eq_getElem hlk)
   have hbz : ∀ b o, b < w.heap.size → wr.cell? ⟨b, o, none⟩ = w.cell? ⟨b, o, none⟩ := fun b o hb => (hBr.cell (p := ⟨b, o, none⟩) (by dsimp only; omega)).trans (HB.out.cell (p := ⟨b, o, none⟩) hb)
   dsimp only [Lt] at hb
   obtain ⟨⟨kind, pos, nm, int, bits, nms, kids, tys⟩, hx⟩ : ∃ x, nodes[k] = x := ⟨_, rfl⟩
   have hget : nodes[k]? = some ⟨kind, pos, nm, int, bits, nms, kids, tys⟩ := by rw [List.getElem?_eq_getElem hlk, hx]
   rw [hx] at hq hq1
   have e0 := (hbz _ _ hb).trans (hq 0 _ rfl)
   have e1 := (hbz _ _ hb).trans (hq 1 _ rfl)
   have e2 := (hbz _ _ hb).trans (hq 2 _ rfl)
   have e3 := (hbz _ _ hb).trans (hq 3 _ rfl)
   have e4 := (hbz _ _ hb).trans (hq 4 _ rfl)
   have e5 := (hbz _ _ hb).trans (hq 5 _ rfl)
   have e6 := (hbz _ _ hb).trans (hq 6 _ rfl)
   have e7 := (hbz _ _ hb).trans (hq 7 _ rfl)
   dsimp only at e0 e1 e2 e3 e4 e5 e6 e7
   rw [Nat.add_zero] at e0
   have htk : nodes.take (k + 1) = nodes.take k ++ [⟨kind, pos, nm, int, bits, nms, kids, tys⟩] := by rw [List.take_add_one, hget]; rfl
   have HQ := Lib.hid hget
   have HTK := Lib.hid htk
   have hb1 : Below W0.heap.size W0 (wr.alloc (.cells #[.int .i64 kind, .int .i64 pos, .string nm, .int .i64 int, .int .u64 (bits : Int), .slice q.a5 nms.length q.c5, .slice q.a6 kids.length q.c6, .slice q.a7 tys.length q.c7] 60)) := hBr.alloc (by omega) _
   have HB1 := Lib.hid hb1
   have hzz : w.heap.size < wr.heap.size := by omega
   have hbw : b < wr.heap.size := by omega
   clear hget htk hq hx x0 x1 x2 hb1
   by_cases hk8 : kind = 8
   ·subst hk8
    have hkl : 0 < kids.length := HN.out.two k _ HQ.out rfl
    obtain ⟨y, hy⟩ : ∃ y, kids[0] = y := ⟨_, rfl⟩
    have hyr := HN.out.rng k _ HQ.out y (by rw [← hy]; exact List.getElem_mem hkl)
    obtain ⟨Y, rfl⟩ : ∃ Y : Nat, y = (Y : Int) := ⟨y.toNat, by omega⟩
    have hYk : Y < nodes.length := by omega
    obtain ⟨bk, offk, h6, hbk, hck⟩ := hq1.2.1.2 hkl
    dsimp only [Lt] at hbk
    have k0 := (hbz _ _ hbk).trans (hck 0 (.int .i64 (Y : Int)) (by simp [hkl, hy]))
    rw [Nat.add_zero] at k0
    obtain ⟨q2, _, hq2⟩ := hcell Y nodes[Y] (List.getElem?_eq_getElem hYk)
    obtain ⟨⟨kind2, pos2, nm2, int2, bits2, nms2, kids2, tys2⟩, hx2⟩ : ∃ x, nodes[Y] = x := ⟨_, rfl⟩
    have hget2 : nodes[Y]? = some ⟨kind2, pos2, nm2, int2, bits2, nms2, kids2, tys2⟩ := by rw [List.getElem?_eq_getElem hYk, hx2]
    rw [hx2] at hq2
    have d0 := (hbz _ _ hb).trans (hq2 0 _ rfl)
    have d1 := (hbz _ _ hb).trans (hq2 1 _ rfl)
    have d2 := (hbz _ _ hb).trans (hq2 2 _ rfl)
    have d3 := (hbz _ _ hb).trans (hq2 3 _ rfl)
    have d4 := (hbz _ _ hb).trans (hq2 4 _ rfl)
    have d5 := (hbz _ _ hb).trans (hq2 5 _ rfl)
    have d6 := (hbz _ _ hb).trans (hq2 6 _ rfl)
    have d7 := (hbz _ _ hb).trans (hq2 7 _ rfl)
    dsimp only at d0 d1 d2 d3 d4 d5 d6 d7
    rw [Nat.add_zero] at d0
    have hbkw : bk < wr.heap.size := by omega
    rw [h6] at e6
    have hw1 : wrong1 ⟨nodes, types, al⟩ ⟨8, pos, nm, int, bits, nms, kids, tys⟩ = if kind2 = 5 then [] else [⟨1, pos2, nm⟩] := by
     have hh : kids.headD 0 = (Y : Int) := by
      cases kids with
      | nil => simp at hkl
      | cons a r => simpa using hy
     unfold wrong1
     rw [if_pos rfl]
     dsimp only
     rw [hh, Int.toNat_natCast, hget2]
    have HW1 := Lib.hid hw1
    clear hw1 hy hyr hck hcell hq2 hx2 hget2 hq1 hbz hND hX0 hXr
    go_wp2
    obtain ⟨W1, hW1⟩ : ∃ W1, wr.alloc (.cells #[.int .i64 8, .int .i64 pos, .string nm, .int .i64 int, .int .u64 (bits : Int), .slice q.a5 nms.length q.c5, .slice (some ⟨bk, offk, none⟩) kids.length q.c6, .slice q.a7 tys.length q.c7] 60) = W1 := ⟨_, rfl⟩
    have hbn : Below wr.heap.size wr W1 := by rw [← hW1]; exact (Below.refl _ wr).alloc (Nat.le_refl _) _
    have hXn : Blk W1 wr.heap.size 60 #[.int .i64 8, .int .i64 pos, .string nm, .int .i64 int, .int .u64 (bits : Int), .slice q.a5 nms.length q.c5, .slice (some ⟨bk, offk, none⟩) kids.length q.c6, .slice q.a7 tys.length q.c7] := by rw [← hW1]; exact Blk.new wr 60 _
    have hz1' : W1.heap.size = wr.heap.size + 1 := by rw [← hW1]; simp
    rw [h6] at HB1
    rw [hW1] at HB1 ⊢
    have g6 := hXn.cell 6
    have g2 := hXn.cell 2
    simp only [List.getElem?_toArray, List.getElem?_cons_zero, List.getElem?_cons_succ] at g6 g2
    have hcl : ∀ b o v, b < wr.heap.size → wr.cell? ⟨b, o, none⟩ = some v → W1.cell? ⟨b, o, none⟩ = some v := fun b o v h1 h2 => (hbn.cell (p := ⟨b, o, none⟩) h1).trans h2
    have y0' := hcl _ _ _ hzz y0
    have k0' := hcl _ _ _ hbkw k0
    have d0' := hcl _ _ _ hbw d0
    have d1' := hcl _ _ _ hbw d1
    have d2' := hcl _ _ _ hbw d2
    have d3' := hcl _ _ _ hbw d3
    have d4' := hcl _ _ _ hbw d4
    have d5' := hcl _ _ _ hbw d5
    have d6' := hcl _ _ _ hbw d6
    have d7' := hcl _ _ _ hbw d7
    have HR1 := Lib.hid (own_belowZ HR.out hbn)
    have gz : W1.heap.size > wr.heap.size := by omega
    clear hW1 hcl hbn y0 k0 d0 d1 d2 d3 d4 d5 d6 d7 e0 e1 e2 e3 e4 e5 e6 e7 HR
    go_region
    obtain ⟨W2, hW2⟩ : ∃ W2, (W1.alloc (.cells #[.int .i64 kind2, .int .i64 pos2, .string nm2, .int .i64 int2, .int .u64 (bits2 : Int), .slice q2.a5 nms2.length q2.c5, .slice q2.a6 kids2.length q2.c6, .slice q2.a7 tys2.length q2.c7] 60)).drew = W2 := ⟨_, rfl⟩
    have hbm : Below W1.heap.size W1 W2 := by rw [← hW2]; exact ((Below.refl _ W1).alloc (Nat.le_refl _) _).drew
    have hXm : Blk W2 (wr.heap.size + 1) 60 #[.int .i64 kind2, .int .i64 pos2, .string nm2, .int .i64 int2, .int .u64 (bits2 : Int), .slice q2.a5 nms2.length q2.c5, .slice q2.a6 kids2.length q2.c6, .slice q2.a7 tys2.length q2.c7] := by rw [← hW2, ← hz1']; exact (Blk.new W1 60 _).drew
    have hz2' : W2.heap.size = wr.heap.size + 2 := by rw [← hW2]; show (W1.alloc _).heap.size = _; simp; omega
    rw [hW2]
    have m0 := hXm.cell 0
    have m1 := hXm.cell 1
    simp only [List.getElem?_toArray, List.getElem?_cons_zero, List.getElem?_cons_succ] at m0 m1
    have g2' := (hXn.below hbm (by omega)).cell 2
    simp only [List.getElem?_toArray, List.getElem?_cons_zero, List.getElem?_cons_succ] at g2'
    have HR2 := Lib.hid (own_belowZ HR1.out hbm)
    have HB2 := Lib.hid (HB1.out.trans (hbm.mono (by omega)))
    have HZ2 := Lib.hid hz2'
    clear hz2' hW2 hbm hXm hXn g6 g2 y0' k0' d0' d1' d2' d3' d4' d5' d6' d7' HR1 HB1
    by_cases hk5 : kind2 = 5
    ·subst hk5
     go_wp2
     go_roundw
     case rel => exact ⟨k + 1, pre, by omega, by omega, by go_num, HR2, HNL, Lib.hid (by rw [HTK.out, List.flatMap_append, ← HP.out, List.flatMap_cons, HW1.out, if_pos rfl]; simp), HB2.out⟩
     case measure => simp [intOf]; omega
    ·have hne : (kind2 == 5) = false := by simp [hk5]
     have hne2 : (kind2 != 5) = true := by simp [hk5]
     go_wp2_with (at_builtin; refine wpList_append_own_at _ rfl _ _ 98 rfl W0.heap.size 31 i31 (.agg #[.int .i64 0, .int .i64 0, .string ⟨#[]⟩]) 3 32 Tryz.underlying98 hi hz0 hz1 hz2 rfl (by decide) _ pre.length (dgV pre) rfl ?ra0 ⟨W2.heap.size, 0, none⟩ 1 1 [.int .i64 1, .int .i64 pos2, .string nm] rfl rfl (cell3_new _ _ _ _ _) (by simp [Value.oneCell']) ?ra1 ?ra2 ?ra3 ?_)
     case ra0 => exact HR2.out.alloc _
     case ra1 => unfold maxLen; omega
     case ra2 => omega
     case ra3 => have := HZ2.out; simp; omega
     intro v1 W3 hown hg _ _
     have hbX : Below W0.heap.size W0 (W2.alloc (.cells #[.int .i64 1, .int .i64 pos2, .string nm] 31)) := HB2.out.alloc (by have := HZ2.out; omega) _
     have hbW3 : Below W0.heap.size W0 W3 := hbX.grown hg hbX.size (fun g hg => (own_atZ HR2.out g hg).1)
     have HO : Hid (W3.ownsRow W0.heap.size 31 3 v1 (pre ++ [DiagD.mk 1 pos2 nm]).length (dgV (pre ++ [DiagD.mk 1 pos2 nm]))) := Lib.hid (by rw [dgV_append, List.length_append]; exact hown)
     clear hown hg hbX
     go_wp2
     go_roundw
     case rel => exact ⟨k + 1, pre ++ [DiagD.mk 1 pos2 nm], by omega, by simp; omega, by go_num, HO, Lib.hid (fun e => by simp at e), Lib.hid (by rw [HTK.out, List.flatMap_append, ← HP.out, List.flatMap_cons, HW1.out, if_neg hk5]; simp), hbW3⟩
     case measure => simp [intOf]; omega
   ·have hne : (kind == 8) = false := by simp [hk8]
    have hne2 : (kind != 8) = true := by simp [hk8]
    have HRn := Lib.hid (own_belowZ HR.out ((Below.refl _ wr).alloc (Nat.le_refl _) (.cells #[.int .i64 kind, .int .i64 pos, .string nm, .int .i64 int, .int .u64 (bits : Int), .slice q.a5 nms.length q.c5, .slice q.a6 kids.length q.c6, .slice q.a7 tys.length q.c7] 60)))
    have hw0 : wrong1 ⟨nodes, types, al⟩ ⟨kind, pos, nm, int, bits, nms, kids, tys⟩ = [] := by unfold wrong1; rw [if_neg hk8]
    have HW := Lib.hid hw0
    clear hw0 hbz hcell hND hX0 hXr hq1
    go_wp2
    go_roundw
    case rel => exact ⟨k + 1, pre, by omega, by omega, by go_num, HRn, HNL, Lib.hid (by rw [HTK.out, List.flatMap_append, ← HP.out, List.flatMap_cons, HW.out]; simp), HB1.out⟩
    case measure => simp [intOf]; omega
  ·obtain rfl : k = nodes.length := by omega
   have hfin : pre = wrongT ⟨nodes, types, al⟩ := by rw [HP.out, List.take_length, wrongT_eq]
   have hbE := HB.out.trans (hBr.mono (by omega))
   have HF := Lib.hid hfin
   have HE := Lib.hid hbE
   clear hfin hbE hX0 hXr hND
   go_wp2
   go_ret
   exact ⟨_, rfl, by rw [← HF.out]; exact own_baseZ HR.out (by omega), by rw [← HF.out]; exact HNL.out, HE.out⟩
/-- How often a name is bound around. -/
def cntN : List ByteArray → ByteArray → Nat
 | [], _ => 0
 | a :: r, s => (if a = s then 1 else 0) + cntN r s
theorem cntN_le : ∀ (env : List ByteArray) (s : ByteArray), cntN env s ≤ env.length
 | [], _ => Nat.le_refl _
 | a :: r, s => by
  have := cntN_le r s
  unfold cntN
  simp only [List.length_cons]
  split <;> omega
theorem cntN_zero : ∀ {env : List ByteArray} {s : ByteArray}, inB env s = decide (cntN env s ≠ 0)
 | [], s => rfl
 | a :: r, s => by
  have ih := cntN_zero (env := r) (s := s)
  unfold inB at ih ⊢
  rw [List.any_cons, ih]
  by_cases h : a = s
  ·rw [decide_eq_true h, cntN, if_pos h]; simp
  ·rw [decide_eq_false h, cntN, if_neg h, Bool.false_or, Nat.zero_add]
/-- All names of a tree, and the empty one. -/
def allN (t : TreeD) : List ByteArray := noName :: t.nodes.flatMap fun x => x.name :: x.names
theorem allN_bnd {t : TreeD} {i p : Nat} {x : TermD} (h : t.nodes[i]? = some x) : bndN x p ∈ allN t ∧ x.name ∈ allN t := by
 have hm : ∀ s, s ∈ x.name :: x.names → s ∈ allN t := fun s hs => List.mem_cons_of_mem _ (List.mem_flatMap.2 ⟨x, List.mem_of_getElem? h, hs⟩)
 refine ⟨?_, hm _ (by simp)⟩
 unfold bndN
 split
 ·exact hm _ (by simp)
 ·split
  ·rename_i h1 h2
   have hl : 2 * p - 1 < x.names.length := by omega
   rw [List.getD_eq_getElem?_getD, List.getElem?_eq_getElem hl]
   exact hm _ (by simp)
  ·simp [allN]
/-- The keys of a map are among these names. -/
def KeysIn {H : Type} (L : List ByteArray) (D : DataW H) : Prop := ∃ l, D = .map l ∧ ∀ p ∈ l, ∃ s ∈ L, p.1 = .string s.data.toList
theorem mem_ins {H : Type} {x p : Lit × DataW H} : ∀ {l : List (Lit × DataW H)}, p ∈ DataW.insert x l → p = x ∨ p ∈ l
 | [], h => by
  simp only [DataW.insert, List.mem_singleton] at h
  exact .inl h
 | y :: r, h => by
  unfold DataW.insert at h
  split at h
  ·rcases List.mem_cons.1 h with e | e
   ·exact .inl e
   ·exact .inr e
  ·rcases List.mem_cons.1 h with e | e
   ·exact .inr (by rw [e]; simp)
   ·rcases mem_ins e with e2 | e2
    ·exact .inl e2
    ·exact .inr (by simp [e2])
theorem KeysIn.put {H : Type} {L : List ByteArray} {D : DataW H} (h : KeysIn L D) {s : ByteArray} (hs : s ∈ L) (d : DataW H) : KeysIn L (D.put (.string s.data.toList) d) := by
 obtain ⟨l, rfl, hl⟩ := h
 refine ⟨_, DataW.put_eq _ _ _, fun p hp => ?_⟩
 unfold ChangeMaps.putKey at hp
 rcases mem_ins hp with rfl | e
 ·exact ⟨s, hs, rfl⟩
 ·exact hl p ((List.mem_filter.1 e).1)
theorem KeysIn.nil {H : Type} (L : List ByteArray) : KeysIn L (.map [] : DataW H) := ⟨[], rfl, by simp⟩
/-- A map has no more entries than there are names for its keys. -/
theorem map_fit {H : Type} {P : Program} {k : TypeId} {R : Value → Option (DataW H × List MemPlace)} {w : World} {b n : Nat} {D : DataW H} {L : List ByteArray} (K : Maps.Keyed P k) (h : w.ownsMap P k R b n D) (hK : KeysIn L D) : w.ownsMap P k R b L.length D := by
 obtain ⟨l, hl, hp⟩ := h.tidy K
 obtain ⟨l2, hl2, hk⟩ := hK
 rw [hl] at hl2
 injection hl2 with hl2
 subst hl2
 obtain ⟨es, clock, hb, F, hs, hD⟩ := h
 refine ⟨es, clock, hb, F, ?_, hD⟩
 have e1 : l.length = es.size := by
  rw [hl] at hD
  injection hD with hD
  rw [hD, length_sorted]
  simp
 rw [← e1]
 classical
 have hnod : (l.map (·.1)).Nodup := by
  rw [List.nodup_iff_pairwise_ne, List.pairwise_map]
  exact hp
 have := nodup_le (m := L.map fun s => Lit.string s.data.toList) hnod (fun x hx => by
  obtain ⟨p, hp1, rfl⟩ := List.mem_map.1 hx
  obtain ⟨s, hs, e⟩ := hk p hp1
  exact List.mem_map.2 ⟨s, hs, e.symm⟩)
 simpa using this

/-- All but two blocks, and what is new, is as it was. -/
structure KAR (A R : Nat) (w w' : World) : Prop where
 os : w'.os = w.os
 tape : w'.tape = w.tape
 output : w'.output = w.output
 size : w.heap.size ≤ w'.heap.size
 block : ∀ k, k < w.heap.size → k ≠ A → k ≠ R → w'.heap[k]? = w.heap[k]?
section
variable {A R : Nat} {a b c : World}
theorem KAR.refl (A R : Nat) (w : World) : KAR A R w w := ⟨rfl, rfl, rfl, Nat.le_refl _, fun _ _ _ _ => rfl⟩
theorem KAR.trans (h : KAR A R a b) (k : KAR A R b c) : KAR A R a c := ⟨k.os.trans h.os, k.tape.trans h.tape, k.output.trans h.output, Nat.le_trans h.size k.size, fun i hi h1 h2 => (k.block i (Nat.lt_of_lt_of_le hi h.size) h1 h2).trans (h.block i hi h1 h2)⟩
theorem KAR.below {w' : World} (h : KAR A R a b) (hb : Below b.heap.size b w') : KAR A R a w' := h.trans ⟨hb.os, hb.tape, hb.output, hb.size, fun k hk _ _ => hb.block k hk⟩
theorem KAR.grownA (h : KAR A R a b) (g : b.grownBy c (some A)) : KAR A R a c := h.trans ⟨g.os, g.tape, g.output, g.size, fun k hk h1 _ => g.block k hk (fun e => h1 (by injection e))⟩
theorem KAR.to_below (h : KAR A R a b) {n : Nat} (hn : n ≤ a.heap.size) (hA : n ≤ A) (hR : n ≤ R) : Below n a b := ⟨h.os, h.tape, h.output, h.size, fun k hk => h.block k (by omega) (by omega) (by omega)⟩
end
theorem owns_block {H : Type} {P : Program} {k : TypeId} {R : Value → Option (DataW H × List MemPlace)} {w w' : World} {b n : Nat} {D : DataW H} (h : w.ownsMap P k R b n D) (e : w'.heap[b]? = w.heap[b]?) : w'.ownsMap P k R b n D := by
 obtain ⟨es, clock, hb, r⟩ := h
 exact ⟨es, clock, e.trans hb, r⟩
/-- How many around bind each name. -/
def AOk (L : List ByteArray) (A : Nat) (env : List ByteArray) (w : World) : Prop :=
 ∃ D : DataW Unit, w.ownsMap Tryz.prog 9 (plainElem Tryz.prog 3) A L.length D ∧ KeysIn L D ∧ ∀ s : ByteArray, D.atKey (.string s.data.toList) (.lit (.int .i64 0)) = .lit (.int .i64 (cntN env s : Int))
/-- The names that are free. -/
def ROk (L : List ByteArray) (R : Nat) (G : ByteArray → Prop) (w : World) : Prop :=
 ∃ D : DataW Unit, w.ownsMap Tryz.prog 9 unitElem R L.length D ∧ KeysIn L D ∧ ∀ s : ByteArray, Maps.has D (.string s.data.toList) = true ↔ G s
section
variable {L env : List ByteArray} {A R : Nat} {G : ByteArray → Prop} {w w' : World} {s : ByteArray}
theorem AOk.block (h : AOk L A env w) (e : w'.heap[A]? = w.heap[A]?) : AOk L A env w' := by
 obtain ⟨D, h1, h2⟩ := h
 exact ⟨D, owns_block h1 e, h2⟩
theorem ROk.block (h : ROk L R G w) (e : w'.heap[R]? = w.heap[R]?) : ROk L R G w' := by
 obtain ⟨D, h1, h2⟩ := h
 exact ⟨D, owns_block h1 e, h2⟩
theorem AOk.lt (h : AOk L A env w) : A < w.heap.size := by
 obtain ⟨D, h1, h2⟩ := h
 exact h1.lt
theorem ROk.lt (h : ROk L R G w) : R < w.heap.size := by
 obtain ⟨D, h1, h2⟩ := h
 exact h1.lt
theorem ROk.iff {G' : ByteArray → Prop} (h : ROk L R G w) (e : ∀ s, G s ↔ G' s) : ROk L R G' w := by
 obtain ⟨D, h1, h2, h3⟩ := h
 exact ⟨D, h1, h2, fun s => (h3 s).trans (e s)⟩
theorem AOk.look (h : AOk L A env w) (hs : s.size ≤ 1000) : (Instr.lookup 147 (.map (some A)) (.string s) false).run Tryz.prog w = .ok (.int .i64 (cntN env s : Int)) w := by
 obtain ⟨D, h1, h2, h3⟩ := h
 obtain ⟨c, hrun, hat, _⟩ := h1.lookup_int (Maps.string_keyed Tryz.underlying9) Tryz.underlying147 Tryz.underlying3 (Tryz.zeroValue3 _) (WideMaps.keyOf_string_mk Tryz.underlying9 (s := s) (by unfold maxLen; omega))
 rw [h3 s] at hat
 simp only [DataW.lit.injEq, Lit.int.injEq, true_and] at hat
 rw [← hat] at hrun
 exact hrun
theorem AOk.set_ (h : AOk L A env w) (hs : s.size ≤ 1000) (hL : s ∈ L) (hLl : L.length ≤ 100000000) {env' : List ByteArray} {c : Int} (hc : c = (cntN env' s : Nat)) (hc0 : cntN env' s ≤ 100000) (he : ∀ s', s' ≠ s → cntN env' s' = cntN env s') :
 ∃ w', (Instr.mapUpdate 147 (.map (some A)) (.string s) (.int .i64 c)).run Tryz.prog w = .ok () w' ∧ AOk L A env' w' ∧ w.grownBy w' (some A) := by
 obtain ⟨D, h1, h2, h3⟩ := h
 subst hc
 obtain ⟨w', hrun, h4, h5⟩ := h1.update (Maps.string_keyed Tryz.underlying9) Tryz.underlying147 (by unfold maxLen; omega) (WideMaps.keyOf_string_mk Tryz.underlying9 (s := s) (by unfold maxLen; omega)) (plainElem_int Tryz.underlying3 (a := (cntN env' s : Nat)) (by simp [Lit.wf, IntKind.min, IntKind.max, IntKind.signed, IntKind.bits]; omega))
 have hk := h2.put hL (.lit (.int .i64 (cntN env' s : Nat)))
 refine ⟨w', hrun, ⟨_, map_fit (Maps.string_keyed Tryz.underlying9) h4 hk, hk, fun s' => ?_⟩, h5⟩
 obtain ⟨l, hl, _⟩ := h2
 by_cases e : s' = s
 ·subst e
  exact Maps.atKey_put_same ⟨l, hl⟩ (kl _) _ _
 ·rw [Maps.atKey_put_other (fun e2 => e (nm_key.1 e2)), h3 s', he s' e]
theorem ROk.add (h : ROk L R G w) (hs : s.size ≤ 1000) (hL : s ∈ L) (hLl : L.length ≤ 100000000) :
 ∃ w', (Instr.mapUpdate 154 (.map (some R)) (.string s) (.agg #[])).run Tryz.prog w = .ok () w' ∧ ROk L R (fun x => G x ∨ x = s) w' ∧ w.grownBy w' (some R) := by
 obtain ⟨D, h1, h2, h3⟩ := h
 obtain ⟨w', hrun, h4, h5⟩ := h1.update (Maps.string_keyed Tryz.underlying9) Tryz.underlying154 (by unfold maxLen; omega) (WideMaps.keyOf_string_mk Tryz.underlying9 (s := s) (by unfold maxLen; omega)) unitElem_mk
 have hk := h2.put hL (.agg [])
 refine ⟨w', hrun, ⟨_, map_fit (Maps.string_keyed Tryz.underlying9) h4 hk, hk, fun s' => ?_⟩, h5⟩
 obtain ⟨l, hl, _⟩ := h2
 by_cases e : s' = s
 ·subst e
  exact ⟨fun _ => .inr rfl, fun _ => Maps.has_put_same ⟨l, hl⟩ (kl _) _⟩
 ·rw [Maps.has_put_other (fun e2 => e (nm_key.1 e2)), h3 s']
  exact ⟨.inl, fun h => h.elim id (fun h => absurd h e)⟩
end
end Go.Proofs.YtjbdgjbmbohfmaaGreatDoor
