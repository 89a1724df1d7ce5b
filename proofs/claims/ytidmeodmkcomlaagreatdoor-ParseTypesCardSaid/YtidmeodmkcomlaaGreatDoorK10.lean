/- A copy of a type, in new memory: whatever order is taken. A copy of a row of aliases; a tree of a call's own reads as a tree. A copy of a term, in new memory: -/
import Derived.Test.YtidmeodmkcomlaaGreatDoorK06
set_option linter.unusedSimpArgs false
set_option linter.unusedVariables false
namespace Go.Proofs.YtidmeodmkcomlaaGreatDoor
open Go Go.Proofs Go.RowKit
set_option maxHeartbeats 8000000
def zys (w : World) (t : TypD) (e : Ending) (w' : World) : Prop := ∃ p, e = .returned (.agg (za4 t p).toArray) ∧ TypOk (New w w') w' t p ∧ Below w.heap.size w w'
set_option maxRecDepth 100000 in
theorem zg6 (t : TypD) (p : Ptr2) (w : World) (hP : TypOk (Lt w.heap.size) w t p) (h1 : t.names.length ≤ 65536) (h2 : t.kids.length ≤ 65536) :
 Calls Tryz.prog 113 #[.agg (za4 t p).toArray] w (zys w t) := by
 have kS := fun W (hW : Below w.heap.size w W) => zo5 p.a3 p.c3 t.names W (hP.1.rd (zaa hW)) h1;have kI := fun W (hW : Below w.heap.size w W) => zjd p.a4 p.c4 t.kids W (hP.2.rd (zaa hW)) h2;clear hP;obtain ⟨kd, pos, nm, nms, kids, o⟩ := t;obtain ⟨a3, c3, a4, c4⟩ := p;unfold za4 at *;dsimp only at *;go_enter Tryz.func113, Tryz.ntmps113
 go_wp2
 obtain ⟨W1, hW1⟩ : ∃ W1, (w.alloc (.cells #[.int .i64 kd, .int .i64 pos, .string nm, .slice a3 nms.length c3, .slice a4 kids.length c4, .bool o] 40)).alloc (.cells #[.int .i64 0, .int .i64 0, .string ⟨#[]⟩, .slice none 0 0, .slice none 0 0, .bool false] 40) = W1 := ⟨_, rfl⟩;have hB1 : Below w.heap.size w W1 := by rw [← hW1]; exact ((zJx _ _).alloc (zJw _) _).alloc (by simp) _
 have hX : Blk W1 w.heap.size 40 #[.int .i64 kd, .int .i64 pos, .string nm, .slice a3 nms.length c3, .slice a4 kids.length c4, .bool o] := by rw [← hW1]; exact (Blk.new w 40 _).alloc _
 have hY : Blk W1 (w.heap.size + 1) 40 #[.int .i64 0, .int .i64 0, .string ⟨#[]⟩, .slice none 0 0, .slice none 0 0, .bool false] := by
  rw [← hW1];have := Blk.new (w.alloc (.cells #[.int .i64 kd, .int .i64 pos, .string nm, .slice a3 nms.length c3, .slice a4 kids.length c4, .bool o] 40)) 40 #[.int .i64 0, .int .i64 0, .string ⟨#[]⟩, .slice none 0 0, .slice none 0 0, .bool false];rwa [zKh] at this
 rw [hW1];clear hW1;have hzX := hX.lt;have hzY := hY.lt;have x3 := hX.cell 3;have x4 := hX.cell 4;simp only [gA, gB, gC] at x3 x4;have f3 := hX.frozen 3;have f4 := hX.frozen 4
 go_region_with (first
  | (go_at_call 135; refine (kS _ (by first | exact hB1 | exact hB1.drew)).mono ?_; rintro e w2 ⟨A0, d0, rfl, hs2, hb2⟩; have bz1 : Below w.heap.size w w2 := hB1.drew.trans (hb2.mono (by exact hB1.drew.size)); have l2 : w.heap.size < w2.heap.size := (zJy hzX hb2.size); have q2_3 := (hb2.cell (p := ⟨w.heap.size, 3, none⟩) hzX).trans x3; have q2_4 := (hb2.cell (p := ⟨w.heap.size, 4, none⟩) hzX).trans x4; have g2_3 := (hb2.frozen (p := ⟨w.heap.size, 3, none⟩) hzX).trans f3; have g2_4 := (hb2.frozen (p := ⟨w.heap.size, 4, none⟩) hzX).trans f4)
  | (go_at_call 136; refine (kI _ (by exact bz1)).mono ?_; rintro e w3 ⟨A1, d1, rfl, hs3, hb3⟩; have bz2 : Below w.heap.size w w3 := bz1.trans (hb3.mono (by exact bz1.size)); have l3 : w.heap.size < w3.heap.size := (zJy l2 hb3.size); have q3_3 := (hb3.cell (p := ⟨w.heap.size, 3, none⟩) l2).trans q2_3; have q3_4 := (hb3.cell (p := ⟨w.heap.size, 4, none⟩) l2).trans q2_4; have g3_3 := (hb3.frozen (p := ⟨w.heap.size, 3, none⟩) l2).trans g2_3; have g3_4 := (hb3.frozen (p := ⟨w.heap.size, 4, none⟩) l2).trans g2_4))
 all_goals
  obtain ⟨WF, hWF⟩ : ∃ WF, ((w3.setCell ⟨w.heap.size, 3, none⟩ (.slice A0 nms.length d0)).setCell ⟨w.heap.size, 4, none⟩ (.slice A1 kids.length d1)) = WF := ⟨_, rfl⟩;have hX2 := hX.drew.below hb2 hzX;have hY2 := hY.drew.below hb2 hzY;have m2 : w.heap.size + 1 < w2.heap.size := zJy hzY hb2.size;have hX3 := hX2.below hb3 l2;have hY3 := hY2.below hb3 m2;have m3 : w.heap.size + 1 < w3.heap.size := zJy m2 hb3.size
  have hZ : Blk WF w.heap.size 40 #[.int .i64 kd, .int .i64 pos, .string nm, .slice A0 nms.length d0, .slice A1 kids.length d1, .bool o] := by
   rw [← hWF];have := ((hX3.set_ 3 (.slice A0 nms.length d0)).set_ 4 (.slice A1 kids.length d1));simpa using this
  have hY9 : Blk WF (w.heap.size + 1) 40 #[.int .i64 0, .int .i64 0, .string ⟨#[]⟩, .slice none 0 0, .slice none 0 0, .bool false] := by
   rw [← hWF];exact ((hY3.far (p := ⟨w.heap.size, 3, none⟩) (by dsimp only; omega) _).far (p := ⟨w.heap.size, 4, none⟩) (by dsimp only; omega) _)
  have hBF : Below w.heap.size w WF := by
   rw [← hWF];exact ((bz2.setCell (p := ⟨w.heap.size, 3, none⟩) (zJw _) _).setCell (p := ⟨w.heap.size, 4, none⟩) (zJw _) _)
  have hzF : WF.heap.size = w3.heap.size := by rw [← hWF]; simp
  have hkF : ∀ b o, W1.heap.size ≤ b → WF.cell? ⟨b, o, none⟩ = w3.cell? ⟨b, o, none⟩ := fun b o hb => by
   rw [← hWF, zK0 _ _ _ _ (by intro e; injection e; omega), zK0 _ _ _ _ (by intro e; injection e; omega)]
  have hle : W1.heap.size ≤ w2.heap.size := hb2.size;have hle1 := hb3.size
  have hok : TypOk (fun b => w.heap.size + 2 ≤ b ∧ b < WF.heap.size) WF ⟨kd, pos, nm, nms, kids, o⟩ ⟨A0, d0, A1, d1⟩ :=
   ⟨((hs2.keep (w' := w3) (fun b o hb => hb3.cell (p := ⟨b, o, none⟩) hb.2)).keep (fun b o hb => hkF b o (by have : W1.heap.size ≤ b := hb.1; omega))).imp (fun b hb => ⟨by have : W1.heap.size ≤ b := hb.1; omega, by have := hb.2; have := hb3.size; omega⟩),
    (hs3.keep (fun b o hb => hkF b o (by have := hb.1; omega))).imp (fun b hb => ⟨by have := hb.1; omega, by have := hb.2;  omega⟩)⟩
  rw [hWF];have HOK := zJv hok;clear hWF hkF hok hX hY hB1 kS kI hzF hle hle1 hs2 hb2 hX2 hY2 bz1 l2 m2 q2_3 q2_4 g2_3 g2_4 hs3 hb3 hX3 hY3 bz2 l3 m3 q3_3 q3_4 g3_3 g3_4 x3 x4 f3 f4;have z0 := hZ.cell 0;have y0 := hY9.cell 0;have v0 := hY9.frozen 0;have z1 := hZ.cell 1;have y1 := hY9.cell 1;have v1 := hY9.frozen 1;have z2 := hZ.cell 2;have y2 := hY9.cell 2;have v2 := hY9.frozen 2;have z3 := hZ.cell 3;have y3 := hY9.cell 3;have v3 := hY9.frozen 3;have z4 := hZ.cell 4;have y4 := hY9.cell 4;have v4 := hY9.frozen 4;have z5 := hZ.cell 5;have y5 := hY9.cell 5;have v5 := hY9.frozen 5;simp only [gA, gB, gC] at z0 y0 z1 y1 z2 y2 z3 y3 z4 y4 z5 y5;go_wp2
  obtain ⟨WE, hWE⟩ : ∃ WE, ((((((WF.setCell ⟨w.heap.size + 1, 0, none⟩ (.int .i64 kd)).setCell ⟨w.heap.size + 1, 1, none⟩ (.int .i64 pos)).setCell ⟨w.heap.size + 1, 2, none⟩ (.string nm)).setCell ⟨w.heap.size + 1, 3, none⟩ (.slice A0 nms.length d0)).setCell ⟨w.heap.size + 1, 4, none⟩ (.slice A1 kids.length d1)).setCell ⟨w.heap.size + 1, 5, none⟩ (.bool o)) = WE := ⟨_, rfl⟩
  have hR : Blk WE (w.heap.size + 1) 40 #[.int .i64 kd, .int .i64 pos, .string nm, .slice A0 nms.length d0, .slice A1 kids.length d1, .bool o] := by
   rw [← hWE];have := ((((((hY9.set_ 0 (.int .i64 kd)).set_ 1 (.int .i64 pos)).set_ 2 (.string nm)).set_ 3 (.slice A0 nms.length d0)).set_ 4 (.slice A1 kids.length d1)).set_ 5 (.bool o));simpa using this
  have hBE : Below w.heap.size w WE := by
   rw [← hWE];exact ((((((hBF.setCell (p := ⟨w.heap.size + 1, 0, none⟩) (Nat.le_succ _) _).setCell (p := ⟨w.heap.size + 1, 1, none⟩) (Nat.le_succ _) _).setCell (p := ⟨w.heap.size + 1, 2, none⟩) (Nat.le_succ _) _).setCell (p := ⟨w.heap.size + 1, 3, none⟩) (Nat.le_succ _) _).setCell (p := ⟨w.heap.size + 1, 4, none⟩) (Nat.le_succ _) _).setCell (p := ⟨w.heap.size + 1, 5, none⟩) (Nat.le_succ _) _)
  have hzE : WE.heap.size = WF.heap.size := by rw [← hWE]; simp
  have hkE : ∀ b o, w.heap.size + 2 ≤ b → WE.cell? ⟨b, o, none⟩ = WF.cell? ⟨b, o, none⟩ := fun b o hb => by
   rw [← hWE, zK0 _ _ _ _ (by intro e; injection e; omega), zK0 _ _ _ _ (by intro e; injection e; omega), zK0 _ _ _ _ (by intro e; injection e; omega), zK0 _ _ _ _ (by intro e; injection e; omega), zK0 _ _ _ _ (by intro e; injection e; omega), zK0 _ _ _ _ (by intro e; injection e; omega)]
  rw [hWE];clear hWE z0 y0 v0 z1 y1 v1 z2 y2 v2 z3 y3 v3 z4 y4 v4 z5 y5 v5;have r0 := hR.cell 0;have r1 := hR.cell 1;have r2 := hR.cell 2;have r3 := hR.cell 3;have r4 := hR.cell 4;have r5 := hR.cell 5;simp only [gA, gB, gC] at r0 r1 r2 r3 r4 r5;refine bodyPost_ret (v := .agg (za4 ⟨kd, pos, nm, nms, kids, o⟩ ⟨A0, d0, A1, d1⟩).toArray) (by simp [results, Tryz.results113, go_sem, za4, r0, r1, r2, r3, r4, r5]) rfl ⟨_, rfl, ?_, hBE⟩;have := (HOK.out.keep (fun b o hb => hkE b o hb.1)).imp (Qb := New w WE) (fun b hb => ⟨by have := hb.1; omega, by have := hb.2; rw [hzE]; exact hb.2⟩);exact this
set_option maxHeartbeats 1000000
theorem zlj {α : Type} (f : α → List Value) (s : Nat) (hf : ∀ a, (f a).length = s) : ∀ (l : List α) (i : Nat) (a : α) (j : Nat), l[i]? = some a → j < s → (l.flatMap f)[i * s + j]? = (f a)[j]?
 | [], i, a, j, h, _ => by simp at h
 | b :: l, 0, a, j, h, hj => by
  simp only [gB, zKt] at h;subst h;rw [List.flatMap_cons, Nat.zero_mul, Nat.zero_add, zKm (by rw [hf]; exact hj)]
 | b :: l, i + 1, a, j, h, hj => by
  simp only [gC] at h;rw [List.flatMap_cons, zKl (by rw [hf, Nat.add_mul]; omega), hf, ← zlj f s hf l i a j h hj];congr 1
  rw [Nat.add_mul]; omega
theorem zrc {α : Type} (f : α → List Value) (s : Nat) (hf : ∀ a, (f a).length = s) (l : List α) : (l.flatMap f).length = l.length * s := by
 induction l with
 | nil => simp
 | cons a l ih => rw [List.flatMap_cons, zK5, hf, ih, zK2, Nat.add_mul]; omega
theorem za8 {w : World} {base : Nat} {e : TypeId} {s : Nat} {v : Value} {n : Nat} {xs : List Value} (h : w.ownsRow base e s v n xs) : ∃ A c, v = .slice A n c := by
 rcases h.2 with ⟨rfl, rfl⟩ | ⟨g, cap, cur, rfl, _⟩
 · exact ⟨_, _, rfl⟩
 · exact ⟨_, _, rfl⟩
theorem zi4 {α : Type} (f : α → List Value) (s : Nat) (_ : 0 < s) (hf : ∀ a, (f a).length = s) {w : World} {base : Nat} {e : TypeId} {A : Option Addr} {n c : Nat} {l : List α} (hn : l.length = n) (h : w.ownsRow base e s (.slice A n c) n (l.flatMap f)) (hl : 0 < l.length) :
 ∃ g, A = some ⟨g, 0, none⟩ ∧ base ≤ g ∧ g < w.heap.size ∧ ∀ (i : Nat) (a : α), l[i]? = some a → ∀ (j : Nat) (u : Value), (f a)[j]? = some u → w.cell? ⟨g, 0 + i * s + j, none⟩ = some u := by
 rcases h.2 with ⟨_, h0⟩ | ⟨g, cap, cur, hv, hb, hh, hnc, hcm, hsz, hx⟩
 · omega
 · injection hv with hA _ _
   subst hA;refine ⟨g, rfl, hb, ?_, fun i a hi j u hu => ?_⟩
   · rcases Nat.lt_or_ge g w.heap.size with hlt | hge
     · exact hlt
     · rw [Array.getElem?_eq_none hge] at hh; cases hh
   · have hj : j < s := by have := (List.getElem?_eq_some_iff.1 hu).1; rw [hf] at this; exact this
     have hil : i < l.length := (List.getElem?_eq_some_iff.1 hi).1
     have hle : i * s + j < n * s := by
      have : (i + 1) * s ≤ n * s := Nat.mul_le_mul_right s (by omega);rw [Nat.add_mul] at this; omega
     rw [cell_of_row w g (0 + i * s + j) cur e (0, 0) hh, Nat.zero_add];have hg := zlj f s hf l i a j hi hj;rw [hu, ← hx, List.getElem?_take_of_lt hle] at hg;simpa using hg
theorem TreeOwn.at_ {w : World} {base cb : Nat} {ty : TypeId} {v1 v2 v3 : Value} {r1 : List (TermD × Ptr3)} {r2 : List (TypD × Ptr2)} {r3 : List AliD} (h : TreeOwn w base cb ty v1 v2 v3 r1 r2 r3) :
 ∃ p : Ptr6, v1 = .slice p.a1 r1.length p.c1 ∧ v2 = .slice p.a2 r2.length p.c2 ∧ v3 = .slice p.a3 r3.length p.c3 ∧ TreeAt (fun b => base ≤ b ∧ b < w.heap.size) w ⟨r1.map (·.1), r2.map (·.1), r3⟩ p := by
 obtain ⟨A1, c1, rfl⟩ := za8 h.o1;obtain ⟨A2, c2, rfl⟩ := za8 h.o2;obtain ⟨A3, c3, rfl⟩ := za8 h.o3;refine ⟨⟨A1, c1, A2, c2, A3, c3⟩, rfl, rfl, rfl, fun hl => ?_, fun hl => ?_, fun hl => ?_⟩
 · obtain ⟨g, hA, hb, hg, hc⟩ := zi4 (fun x : TermD × Ptr3 => za1 x.1 x.2) 8 (by decide) (fun a => rfl) rfl h.o1 (by simpa using hl)
   refine ⟨g, 0, hA, ⟨hb, hg⟩, fun i t ht => ?_⟩;simp only [List.getElem?_map, zKg] at ht;obtain ⟨x, hx, rfl⟩ := ht;exact ⟨x.2, (h.k1 x (List.mem_of_getElem? hx)).imp (fun b k => ⟨k.1, k.2.1⟩), hc i x hx⟩
 · obtain ⟨g, hA, hb, hg, hc⟩ := zi4 (fun x : TypD × Ptr2 => za4 x.1 x.2) 6 (by decide) (fun a => rfl) rfl h.o2 (by simpa using hl)
   refine ⟨g, 0, hA, ⟨hb, hg⟩, fun i t ht => ?_⟩;simp only [List.getElem?_map, zKg] at ht;obtain ⟨x, hx, rfl⟩ := ht;exact ⟨x.2, (h.k2 x (List.mem_of_getElem? hx)).imp (fun b k => ⟨k.1, k.2.1⟩), hc i x hx⟩
 · obtain ⟨g, hA, hb, hg, hc⟩ := zi4 zco 3 (by decide) (fun a => rfl) rfl h.o3 (by simpa using hl)
   exact ⟨g, 0, hA, ⟨hb, hg⟩, fun i t ht => hc i t ht⟩
theorem zId : (Tryz.prog.info? 44).map (fun i => (i.zero, i.size, i.bytes)) = some (some (.agg #[.string ByteArray.empty, .int .i64 0, .int .i64 0]), 3, 32) := by kernel_rfl
theorem zr6 : (Tryz.prog.info? 38).map (fun i => (i.zero, i.size, i.bytes)) = some (some (.agg #[.int .i64 0, .int .i64 0, .string ByteArray.empty, .int .i64 0, .int .u64 0, .slice none 0 0, .slice none 0 0, .slice none 0 0]), 8, 120) := by kernel_rfl
theorem zrd : (Tryz.prog.info? 40).map (fun i => (i.zero, i.size, i.bytes)) = some (some (.agg #[.int .i64 0, .int .i64 0, .string ByteArray.empty, .slice none 0 0, .slice none 0 0, .bool false]), 6, 88) := by kernel_rfl
def zBc (w : World) (l : List AliD) (e : Ending) (w' : World) : Prop := ∃ v, e = .returned v ∧ w'.ownsRow w.heap.size 44 3 v l.length (zd2 l) ∧ Below w.heap.size w w'
theorem zte {Pb : Nat → Prop} {w : World} {A : Option Addr} {l : List AliD} (h : AlisAt Pb w A l) : RdAt w A (zd2 l) := by
 rcases Nat.eq_zero_or_pos l.length with h0 | h0
 · have : l = [] := List.eq_nil_of_length_eq_zero h0
   subst this;exact .inl rfl
 · obtain ⟨b, off, e, _, hc⟩ := h h0
   refine .inr ⟨b, off, e, fun j u hu => ?_⟩;have hj := (List.getElem?_eq_some_iff.1 hu).1;rw [zrc zco 3 (fun a => rfl)] at hj;have hi : j / 3 < l.length := by omega
   have hg := zlj zco 3 (fun a => rfl) l (j / 3) l[j / 3] (j % 3) (zK1 hi) (by omega);rw [show j / 3 * 3 + j % 3 = j by omega, hu] at hg;have := hc (j / 3) _ (zK1 hi) (j % 3) u hg.symm;rw [show off + j / 3 * 3 + j % 3 = off + j by omega] at this;exact this
theorem zo7 (A : Option Addr) (c : Nat) (l : List AliD) (w : World) (hS : RdAt w A (zd2 l)) (hn : l.length ≤ 65536) : Calls Tryz.prog 111 #[.slice A l.length c] w (zBc w l) := by
 obtain ⟨i0, hi, hz0, hz1, hz2⟩ := info_parts zId;have hfl := zrc zco 3 (fun a => rfl) l
 have h1c : ∀ u ∈ zd2 l, u.oneCell' = true := fun u hu => by
  obtain ⟨a, _, ha⟩ := List.mem_flatMap.1 hu;simp only [zco, zKf, zKn, or_false] at ha;rcases ha with rfl | rfl | rfl <;> rfl
 go_enter Tryz.func111, Tryz.ntmps111
 go_wp2_with (at_builtin; refine zca _ rfl _ _ 25 rfl w.heap.size 44 i0 _ 3 32 Tryz.underlying25 hi hz0 hz1 hz2 rfl (by decide) (.slice none 0 0) 0 [] rfl (World.ownsRow_nil _ _ _ _) A l.length c (zd2 l) rfl hfl hS h1c (by unfold maxLen; omega) (by omega) (zJw _) ?_; intro v' w2 hown2 hgrow2 hloc2)
 go_ret;rw [Nat.zero_add, List.nil_append] at hown2;exact ⟨_, rfl, hown2, hgrow2.os, hgrow2.tape, hgrow2.output, hgrow2.size, fun i hi => hgrow2.block i hi (by simp [Value.ownBlock])⟩
set_option maxHeartbeats 8000000
def zx0 (w : World) (t : TermD) (e : Ending) (w' : World) : Prop := ∃ p, e = .returned (.agg (za1 t p).toArray) ∧ TermOk (New w w') w' t p ∧ Below w.heap.size w w'
set_option maxRecDepth 100000 in
theorem zg8 (t : TermD) (p : Ptr3) (w : World) (hP : TermOk (Lt w.heap.size) w t p) (h1 : t.names.length ≤ 65536) (h2 : t.kids.length ≤ 65536) (h3 : t.types.length ≤ 65536) :
 Calls Tryz.prog 112 #[.agg (za1 t p).toArray] w (zx0 w t) := by
 have kS := fun W (hW : Below w.heap.size w W) => zo5 p.a5 p.c5 t.names W (hP.1.rd (zaa hW)) h1;have kI := fun W (hW : Below w.heap.size w W) => zjd p.a6 p.c6 t.kids W (hP.2.1.rd (zaa hW)) h2;have kJ := fun W (hW : Below w.heap.size w W) => zjd p.a7 p.c7 t.types W (hP.2.2.rd (zaa hW)) h3;clear hP;obtain ⟨kd, pos, nm, x, y, nms, kids, types⟩ := t;obtain ⟨a5, c5, a6, c6, a7, c7⟩ := p;unfold za1 at *;dsimp only at *;go_enter Tryz.func112, Tryz.ntmps112
 go_wp2
 obtain ⟨W1, hW1⟩ : ∃ W1, (w.alloc (.cells #[.int .i64 kd, .int .i64 pos, .string nm, .int .i64 x, .int .u64 (y : Int), .slice a5 nms.length c5, .slice a6 kids.length c6, .slice a7 types.length c7] 38)).alloc (.cells #[.int .i64 0, .int .i64 0, .string ⟨#[]⟩, .int .i64 0, .int .u64 0, .slice none 0 0, .slice none 0 0, .slice none 0 0] 38) = W1 := ⟨_, rfl⟩;have hB1 : Below w.heap.size w W1 := by rw [← hW1]; exact ((zJx _ _).alloc (zJw _) _).alloc (by simp) _
 have hX : Blk W1 w.heap.size 38 #[.int .i64 kd, .int .i64 pos, .string nm, .int .i64 x, .int .u64 (y : Int), .slice a5 nms.length c5, .slice a6 kids.length c6, .slice a7 types.length c7] := by rw [← hW1]; exact (Blk.new w 38 _).alloc _
 have hY : Blk W1 (w.heap.size + 1) 38 #[.int .i64 0, .int .i64 0, .string ⟨#[]⟩, .int .i64 0, .int .u64 0, .slice none 0 0, .slice none 0 0, .slice none 0 0] := by
  rw [← hW1];have := Blk.new (w.alloc (.cells #[.int .i64 kd, .int .i64 pos, .string nm, .int .i64 x, .int .u64 (y : Int), .slice a5 nms.length c5, .slice a6 kids.length c6, .slice a7 types.length c7] 38)) 38 #[.int .i64 0, .int .i64 0, .string ⟨#[]⟩, .int .i64 0, .int .u64 0, .slice none 0 0, .slice none 0 0, .slice none 0 0];rwa [zKh] at this
 rw [hW1];clear hW1;have hzX := hX.lt;have hzY := hY.lt;have x5 := hX.cell 5;have x6 := hX.cell 6;have x7 := hX.cell 7;simp only [gA, gB, gC] at x5 x6 x7;have f5 := hX.frozen 5;have f6 := hX.frozen 6;have f7 := hX.frozen 7
 go_region_with (first
  | (go_at_call 135; refine (kS _ (by first | exact hB1 | exact hB1.drew)).mono ?_; rintro e w2 ⟨A0, d0, rfl, hs2, hb2⟩; have bz1 : Below w.heap.size w w2 := hB1.drew.trans (hb2.mono (by exact hB1.drew.size)); have l2 : w.heap.size < w2.heap.size := (zJy hzX hb2.size); have q2_5 := (hb2.cell (p := ⟨w.heap.size, 5, none⟩) hzX).trans x5; have q2_6 := (hb2.cell (p := ⟨w.heap.size, 6, none⟩) hzX).trans x6; have q2_7 := (hb2.cell (p := ⟨w.heap.size, 7, none⟩) hzX).trans x7; have g2_5 := (hb2.frozen (p := ⟨w.heap.size, 5, none⟩) hzX).trans f5; have g2_6 := (hb2.frozen (p := ⟨w.heap.size, 6, none⟩) hzX).trans f6; have g2_7 := (hb2.frozen (p := ⟨w.heap.size, 7, none⟩) hzX).trans f7)
  | (go_at_call 136; refine (kI _ (by exact bz1)).mono ?_; rintro e w3 ⟨A1, d1, rfl, hs3, hb3⟩; have bz2 : Below w.heap.size w w3 := bz1.trans (hb3.mono (by exact bz1.size)); have l3 : w.heap.size < w3.heap.size := (zJy l2 hb3.size); have q3_5 := (hb3.cell (p := ⟨w.heap.size, 5, none⟩) l2).trans q2_5; have q3_6 := (hb3.cell (p := ⟨w.heap.size, 6, none⟩) l2).trans q2_6; have q3_7 := (hb3.cell (p := ⟨w.heap.size, 7, none⟩) l2).trans q2_7; have g3_5 := (hb3.frozen (p := ⟨w.heap.size, 5, none⟩) l2).trans g2_5; have g3_6 := (hb3.frozen (p := ⟨w.heap.size, 6, none⟩) l2).trans g2_6; have g3_7 := (hb3.frozen (p := ⟨w.heap.size, 7, none⟩) l2).trans g2_7)
  | (go_at_call 136; refine (kJ _ (by exact bz2)).mono ?_; rintro e w4 ⟨A2, d2, rfl, hs4, hb4⟩; have bz3 : Below w.heap.size w w4 := bz2.trans (hb4.mono (by exact bz2.size)); have l4 : w.heap.size < w4.heap.size := (zJy l3 hb4.size); have q4_5 := (hb4.cell (p := ⟨w.heap.size, 5, none⟩) l3).trans q3_5; have q4_6 := (hb4.cell (p := ⟨w.heap.size, 6, none⟩) l3).trans q3_6; have q4_7 := (hb4.cell (p := ⟨w.heap.size, 7, none⟩) l3).trans q3_7; have g4_5 := (hb4.frozen (p := ⟨w.heap.size, 5, none⟩) l3).trans g3_5; have g4_6 := (hb4.frozen (p := ⟨w.heap.size, 6, none⟩) l3).trans g3_6; have g4_7 := (hb4.frozen (p := ⟨w.heap.size, 7, none⟩) l3).trans g3_7))
 all_goals
  obtain ⟨WF, hWF⟩ : ∃ WF, (((w4.setCell ⟨w.heap.size, 5, none⟩ (.slice A0 nms.length d0)).setCell ⟨w.heap.size, 6, none⟩ (.slice A1 kids.length d1)).setCell ⟨w.heap.size, 7, none⟩ (.slice A2 types.length d2)) = WF := ⟨_, rfl⟩;have hX2 := hX.drew.below hb2 hzX;have hY2 := hY.drew.below hb2 hzY;have m2 : w.heap.size + 1 < w2.heap.size := zJy hzY hb2.size;have hX3 := hX2.below hb3 l2;have hY3 := hY2.below hb3 m2;have m3 : w.heap.size + 1 < w3.heap.size := zJy m2 hb3.size;have hX4 := hX3.below hb4 l3;have hY4 := hY3.below hb4 m3;have m4 : w.heap.size + 1 < w4.heap.size := zJy m3 hb4.size
  have hZ : Blk WF w.heap.size 38 #[.int .i64 kd, .int .i64 pos, .string nm, .int .i64 x, .int .u64 (y : Int), .slice A0 nms.length d0, .slice A1 kids.length d1, .slice A2 types.length d2] := by
   rw [← hWF];have := (((hX4.set_ 5 (.slice A0 nms.length d0)).set_ 6 (.slice A1 kids.length d1)).set_ 7 (.slice A2 types.length d2));simpa using this
  have hY9 : Blk WF (w.heap.size + 1) 38 #[.int .i64 0, .int .i64 0, .string ⟨#[]⟩, .int .i64 0, .int .u64 0, .slice none 0 0, .slice none 0 0, .slice none 0 0] := by
   rw [← hWF];exact (((hY4.far (p := ⟨w.heap.size, 5, none⟩) (by dsimp only; omega) _).far (p := ⟨w.heap.size, 6, none⟩) (by dsimp only; omega) _).far (p := ⟨w.heap.size, 7, none⟩) (by dsimp only; omega) _)
  have hBF : Below w.heap.size w WF := by
   rw [← hWF];exact (((bz3.setCell (p := ⟨w.heap.size, 5, none⟩) (zJw _) _).setCell (p := ⟨w.heap.size, 6, none⟩) (zJw _) _).setCell (p := ⟨w.heap.size, 7, none⟩) (zJw _) _)
  have hzF : WF.heap.size = w4.heap.size := by rw [← hWF]; simp
  have hkF : ∀ b o, W1.heap.size ≤ b → WF.cell? ⟨b, o, none⟩ = w4.cell? ⟨b, o, none⟩ := fun b o hb => by
   rw [← hWF, zK0 _ _ _ _ (by intro e; injection e; omega), zK0 _ _ _ _ (by intro e; injection e; omega), zK0 _ _ _ _ (by intro e; injection e; omega)]
  have hle : W1.heap.size ≤ w2.heap.size := hb2.size;have hle1 := hb3.size;have hle2 := hb4.size
  have hok : TermOk (fun b => w.heap.size + 2 ≤ b ∧ b < WF.heap.size) WF ⟨kd, pos, nm, x, y, nms, kids, types⟩ ⟨A0, d0, A1, d1, A2, d2⟩ :=
   ⟨(((hs2.keep (w' := w3) (fun b o hb => hb3.cell (p := ⟨b, o, none⟩) hb.2)).keep (w' := w4) (fun b o hb => hb4.cell (p := ⟨b, o, none⟩) (zJy hb.2 (by have := hb3.size; omega)))).keep (fun b o hb => hkF b o (by have : W1.heap.size ≤ b := hb.1; omega))).imp (fun b hb => ⟨by have : W1.heap.size ≤ b := hb.1; omega, by have := hb.2; have := hb3.size; have := hb4.size; omega⟩),
    ((hs3.keep (w' := w4) (fun b o hb => hb4.cell (p := ⟨b, o, none⟩) hb.2)).keep (fun b o hb => hkF b o (by have := hb.1; omega))).imp (fun b hb => ⟨by have := hb.1; omega, by have := hb.2; have := hb4.size; omega⟩),
    (hs4.keep (fun b o hb => hkF b o (by have := hb.1; omega))).imp (fun b hb => ⟨by have := hb.1; omega, by have := hb.2;  omega⟩)⟩
  rw [hWF];have HOK := zJv hok;clear hWF hkF hok hX hY hB1 kS kI hzF hle hle1 hle2 kJ hs2 hb2 hX2 hY2 bz1 l2 m2 q2_5 q2_6 q2_7 g2_5 g2_6 g2_7 hs3 hb3 hX3 hY3 bz2 l3 m3 q3_5 q3_6 q3_7 g3_5 g3_6 g3_7 hs4 hb4 hX4 hY4 bz3 l4 m4 q4_5 q4_6 q4_7 g4_5 g4_6 g4_7 x5 x6 x7 f5 f6 f7;have z0 := hZ.cell 0;have y0 := hY9.cell 0;have v0 := hY9.frozen 0;have z1 := hZ.cell 1;have y1 := hY9.cell 1;have v1 := hY9.frozen 1;have z2 := hZ.cell 2;have y2 := hY9.cell 2;have v2 := hY9.frozen 2;have z3 := hZ.cell 3;have y3 := hY9.cell 3;have v3 := hY9.frozen 3;have z4 := hZ.cell 4;have y4 := hY9.cell 4;have v4 := hY9.frozen 4;have z5 := hZ.cell 5;have y5 := hY9.cell 5;have v5 := hY9.frozen 5;have z6 := hZ.cell 6;have y6 := hY9.cell 6;have v6 := hY9.frozen 6;have z7 := hZ.cell 7;have y7 := hY9.cell 7;have v7 := hY9.frozen 7;simp only [gA, gB, gC] at z0 y0 z1 y1 z2 y2 z3 y3 z4 y4 z5 y5 z6 y6 z7 y7;go_wp2
  obtain ⟨WE, hWE⟩ : ∃ WE, ((((((((WF.setCell ⟨w.heap.size + 1, 0, none⟩ (.int .i64 kd)).setCell ⟨w.heap.size + 1, 1, none⟩ (.int .i64 pos)).setCell ⟨w.heap.size + 1, 2, none⟩ (.string nm)).setCell ⟨w.heap.size + 1, 3, none⟩ (.int .i64 x)).setCell ⟨w.heap.size + 1, 4, none⟩ (.int .u64 (y : Int))).setCell ⟨w.heap.size + 1, 5, none⟩ (.slice A0 nms.length d0)).setCell ⟨w.heap.size + 1, 6, none⟩ (.slice A1 kids.length d1)).setCell ⟨w.heap.size + 1, 7, none⟩ (.slice A2 types.length d2)) = WE := ⟨_, rfl⟩
  have hR : Blk WE (w.heap.size + 1) 38 #[.int .i64 kd, .int .i64 pos, .string nm, .int .i64 x, .int .u64 (y : Int), .slice A0 nms.length d0, .slice A1 kids.length d1, .slice A2 types.length d2] := by
   rw [← hWE];have := ((((((((hY9.set_ 0 (.int .i64 kd)).set_ 1 (.int .i64 pos)).set_ 2 (.string nm)).set_ 3 (.int .i64 x)).set_ 4 (.int .u64 (y : Int))).set_ 5 (.slice A0 nms.length d0)).set_ 6 (.slice A1 kids.length d1)).set_ 7 (.slice A2 types.length d2));simpa using this
  have hBE : Below w.heap.size w WE := by
   rw [← hWE];exact ((((((((hBF.setCell (p := ⟨w.heap.size + 1, 0, none⟩) (Nat.le_succ _) _).setCell (p := ⟨w.heap.size + 1, 1, none⟩) (Nat.le_succ _) _).setCell (p := ⟨w.heap.size + 1, 2, none⟩) (Nat.le_succ _) _).setCell (p := ⟨w.heap.size + 1, 3, none⟩) (Nat.le_succ _) _).setCell (p := ⟨w.heap.size + 1, 4, none⟩) (Nat.le_succ _) _).setCell (p := ⟨w.heap.size + 1, 5, none⟩) (Nat.le_succ _) _).setCell (p := ⟨w.heap.size + 1, 6, none⟩) (Nat.le_succ _) _).setCell (p := ⟨w.heap.size + 1, 7, none⟩) (Nat.le_succ _) _)
  have hzE : WE.heap.size = WF.heap.size := by rw [← hWE]; simp
  have hkE : ∀ b o, w.heap.size + 2 ≤ b → WE.cell? ⟨b, o, none⟩ = WF.cell? ⟨b, o, none⟩ := fun b o hb => by
   rw [← hWE, zK0 _ _ _ _ (by intro e; injection e; omega), zK0 _ _ _ _ (by intro e; injection e; omega), zK0 _ _ _ _ (by intro e; injection e; omega), zK0 _ _ _ _ (by intro e; injection e; omega), zK0 _ _ _ _ (by intro e; injection e; omega), zK0 _ _ _ _ (by intro e; injection e; omega), zK0 _ _ _ _ (by intro e; injection e; omega), zK0 _ _ _ _ (by intro e; injection e; omega)]
  rw [hWE];clear hWE z0 y0 v0 z1 y1 v1 z2 y2 v2 z3 y3 v3 z4 y4 v4 z5 y5 v5 z6 y6 v6 z7 y7 v7;have r0 := hR.cell 0;have r1 := hR.cell 1;have r2 := hR.cell 2;have r3 := hR.cell 3;have r4 := hR.cell 4;have r5 := hR.cell 5;have r6 := hR.cell 6;have r7 := hR.cell 7;simp only [gA, gB, gC] at r0 r1 r2 r3 r4 r5 r6 r7;refine bodyPost_ret (v := .agg (za1 ⟨kd, pos, nm, x, y, nms, kids, types⟩ ⟨A0, d0, A1, d1, A2, d2⟩).toArray) (by simp [results, Tryz.results112, go_sem, za1, r0, r1, r2, r3, r4, r5, r6, r7]) rfl ⟨_, rfl, ?_, hBE⟩;have := (HOK.out.keep (fun b o hb => hkE b o hb.1)).imp (Qb := New w WE) (fun b hb => ⟨by have := hb.1; omega, by have := hb.2; rw [hzE]; exact hb.2⟩);exact this
end Go.Proofs.YtidmeodmkcomlaaGreatDoor
