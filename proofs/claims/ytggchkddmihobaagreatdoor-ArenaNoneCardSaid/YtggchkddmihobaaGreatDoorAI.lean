/- A head that is copied. -/
import Derived.Test.YtggchkddmihobaaGreatDoorAH
import Derived.Test.YtggchkddmihobaaGreatDoorOrd
set_option linter.unusedVariables false
set_option linter.unusedSimpArgs false
namespace Go.Proofs.YtggchkddmihobaaGreatDoor
open Go Go.Proofs Go.RowKit
theorem sl_rd {w : World} {base : Nat} {ty : TypeId} {A : Option Addr} {n c : Nat} {xs : List Value} (h : w.ownsRow base ty 1 (.slice A n c) n xs) : SlAt (fun b => base ≤ b ∧ b < w.heap.size) w A n xs := by
  obtain ⟨A', c', e, _, hs⟩ := SlAt.of_own h
  cases e; exact hs
def Cloned (W : World) (n : Nat) (xs : List Value) (e : Ending) (w' : World) : Prop :=
  ∃ A c, e = .returned (.slice A n c) ∧ SlAt (fun b => W.heap.size ≤ b ∧ b < w'.heap.size) w' A n xs ∧ Below W.heap.size W w' ∧ (A = none → n = 0 ∧ c = 0)
theorem ClonePost.to {W : World} {ty : TypeId} {n : Nat} {xs : List Value} {e : Ending} {w' : World} (hn : xs.length = n) (h : ClonePost W ty xs e w') : Cloned W n xs e w' := by
  subst hn
  obtain ⟨A, c, h1, h2, h3, h4⟩ := h
  exact ⟨A, c, h1, sl_rd h2, h3, h4⟩
set_option maxRecDepth 100000 in
set_option maxHeartbeats 4000000 in
theorem copied_any (t : Hd) (p : Ptr2) (w : World) (hT : HdOk (Lt w.heap.size) w t p) (hF : HdFew t) (hn1 : p.a3 = none → t.ns.length = 0 ∧ p.c3 = 0) (hn2 : p.a4 = none → t.ks.length = 0 ∧ p.c4 = 0) :
    Calls Tryz.prog 32 #[hdV t p] w fun e w' => ∃ q : Ptr2, e = .returned (hdV t q) ∧ HdOk (fun b => w.heap.size ≤ b ∧ b < w'.heap.size) w' t q ∧ Below w.heap.size w w' ∧ (q.a3 = none → t.ns.length = 0 ∧ q.c3 = 0) ∧ (q.a4 = none → t.ks.length = 0 ∧ q.c4 = 0) := by
  obtain ⟨F1, F2, F3⟩ := hF
  obtain ⟨W0, hW0⟩ : ∃ W, w.alloc (.cells #[.int .i64 t.k, .slice p.a3 t.ns.length p.c3, .slice p.a4 t.ks.length p.c4, .bool t.o] 38) = W := ⟨_, rfl⟩
  obtain ⟨W1, hW1⟩ : ∃ W, W0.alloc (.cells #[.int .i64 0, .slice none 0 0, .slice none 0 0, .bool false] 38) = W := ⟨_, rfl⟩
  have hb0 : Below w.heap.size w W0 := by rw [← hW0]; exact (Below.refl _ _).alloc (Nat.le_refl _) _
  have hb1 : Below W0.heap.size W0 W1 := by rw [← hW1]; exact (Below.refl _ _).alloc (Nat.le_refl _) _
  have s0 : W0.heap.size = w.heap.size + 1 := by rw [← hW0]; simp
  have hX0 : Blk W0 w.heap.size 38 #[.int .i64 t.k, .slice p.a3 t.ns.length p.c3, .slice p.a4 t.ks.length p.c4, .bool t.o] := by rw [← hW0]; exact Blk.new w 38 _
  have hX := hX0.below hb1 hX0.lt
  have hR : Blk W1 W0.heap.size 38 #[.int .i64 0, .slice none 0 0, .slice none 0 0, .bool false] := by rw [← hW1]; exact Blk.new W0 38 _
  have hb : Below w.heap.size w W1 := hb0.trans (hb1.mono hb0.size)
  have hxl := hX.lt
  have hxr := hR.lt
  have c1 := hX.cell 1
  have c2 := hX.cell 2
  simp only [List.getElem?_toArray, List.getElem?_cons_zero, List.getElem?_cons_succ] at c1 c2
  have cS : ∀ W, Below W1.heap.size W1 W → Calls Tryz.prog 45 #[.slice p.a3 t.ns.length p.c3] W (Cloned W t.ns.length (t.ns.map .string)) := fun W hW => by
    have hbW := hb.trans (hW.mono hb.size)
    have := cloneS_any p.a3 p.c3 (t.ns.map .string) W (RdAt.of_sl (hT.1.keep (fun b o hb' => hbW.cell (p := ⟨b, o, none⟩) hb'))) (by intro u hu; obtain ⟨s, _, rfl⟩ := List.mem_map.1 hu; rfl) (by rw [List.length_map]; exact hn1) (by rw [List.length_map]; omega)
    rw [List.length_map] at this
    exact this.mono fun e w' h => h.to (List.length_map ..)
  have cI : ∀ W, Below W1.heap.size W1 W → Calls Tryz.prog 40 #[.slice p.a4 t.ks.length p.c4] W (Cloned W t.ks.length (t.ks.map iv)) := fun W hW => by
    have hbW := hb.trans (hW.mono hb.size)
    have := cloneI_any p.a4 p.c4 (t.ks.map iv) W (RdAt.of_sl (hT.2.keep (fun b o hb' => hbW.cell (p := ⟨b, o, none⟩) hb'))) (by intro u hu; obtain ⟨s, _, rfl⟩ := List.mem_map.1 hu; rfl) (by rw [List.length_map]; exact hn2) (by rw [List.length_map]; omega)
    rw [List.length_map] at this
    exact this.mono fun e w' h => h.to (List.length_map ..)
  have HB := Lib.hid hb
  have hne : w.heap.size < W0.heap.size := by omega
  clear s0
  clear hb0 hb1 hX0 hb hT hn1 hn2
  dsimp only [hdV, hdCells]
  go_enter Tryz.func32, Tryz.ntmps32
  go_wp2
  clear hW0 hW1
  have HSO := Lib.hid (show ∀ W, Below W1.heap.size W1 W → (W.cell? ⟨w.heap.size, 1, none⟩ = some (.slice p.a3 t.ns.length p.c3) ∧ W.cell? ⟨w.heap.size, 2, none⟩ = some (.slice p.a4 t.ks.length p.c4)) from fun W hb => ⟨(hb.cell (p := ⟨w.heap.size, 1, none⟩) hxl).trans c1, (hb.cell (p := ⟨w.heap.size, 2, none⟩) hxl).trans c2⟩)
  refine wp_region_heldG (S := fun W => W.cell? ⟨w.heap.size, 1, none⟩ = some (.slice p.a3 t.ns.length p.c3) ∧ W.cell? ⟨w.heap.size, 2, none⟩ = some (.slice p.a4 t.ks.length p.c4)) (fun i => i == 7 || i == 8 || i == 9) (by kernel_rfl) (HSO.out _ (Below.refl _ W1).drew) (fun hHeld => ?_)
  refine wpAnyG_take (i := 0) (v := ?v0_1) (by simp only [List.getElem?_toArray, List.getElem?_cons_zero]; rfl) (by kernel_rfl) (by kernel_rfl) (by kernel_rfl) (by kernel_rfl) (by kernel_rfl) (by kernel_rfl) (by exact fun _ _ _ h => h) (Or.inl ⟨by rfl, ?hyv0_1⟩) (by assumption) ?restv0_1
  case hyv0_1 => (intro w hSw; obtain ⟨g1, g2⟩ := hSw; go_simp; try with_reducible rfl)
  try simp only [Act.put, List.setIfInBounds_toArray, List.set_cons_zero, List.set_cons_succ]
  refine wpAnyG_take (i := 1) (v := ?v1_2) (by simp only [List.getElem?_toArray, List.getElem?_cons_zero, List.getElem?_cons_succ]; rfl) (by kernel_rfl) (by kernel_rfl) (by kernel_rfl) (by kernel_rfl) (by kernel_rfl) (by kernel_rfl) (by exact fun _ _ _ h => h) (Or.inl ⟨by rfl, ?hyv1_2⟩) (by assumption) ?restv1_2
  case hyv1_2 => (intro w hSw; obtain ⟨g1, g2⟩ := hSw; go_simp; try with_reducible rfl)
  try simp only [Act.put, List.setIfInBounds_toArray, List.set_cons_zero, List.set_cons_succ]
  refine wpAnyG_take (i := 3) (v := ?v3_3) (by simp only [List.getElem?_toArray, List.getElem?_cons_zero, List.getElem?_cons_succ]; rfl) (by kernel_rfl) (by kernel_rfl) (by kernel_rfl) (by kernel_rfl) (by kernel_rfl) (by kernel_rfl) (by exact fun _ _ _ h => h) (Or.inl ⟨by rfl, ?hyv3_3⟩) (by assumption) ?restv3_3
  case hyv3_3 => (intro w hSw; obtain ⟨g1, g2⟩ := hSw; go_simp; try with_reducible rfl)
  try simp only [Act.put, List.setIfInBounds_toArray, List.set_cons_zero, List.set_cons_succ]
  refine wpAnyG_take (i := 4) (v := ?v4_4) (by simp only [List.getElem?_toArray, List.getElem?_cons_zero, List.getElem?_cons_succ]; rfl) (by kernel_rfl) (by kernel_rfl) (by kernel_rfl) (by kernel_rfl) (by kernel_rfl) (by kernel_rfl) (by exact fun _ _ _ h => h) (Or.inl ⟨by rfl, ?hyv4_4⟩) (by assumption) ?restv4_4
  case hyv4_4 => (intro w hSw; obtain ⟨g1, g2⟩ := hSw; go_simp; try with_reducible rfl)
  try simp only [Act.put, List.setIfInBounds_toArray, List.set_cons_zero, List.set_cons_succ]
  refine wpAnyG_ready (rs := [2]) (by kernel_rfl) (by simp) ?_
  refine AllReadyG.held (by simp only [List.getElem?_toArray, List.getElem?_cons_zero, List.getElem?_cons_succ]; rfl) (fun K hK => ?_) AllReadyG.nil
  go_simp
  refine (cS _ (Below.refl _ W1).drew).mono ?_
  rintro e w2 ⟨A3, d3, rfl, hs3, hb2, hn3⟩
  have HB2 := Lib.hid ((Below.refl W1.heap.size W1).drew.trans hb2)
  dsimp only
  refine hK.out _ _ (HSO.out _ HB2.out) (fun hHeld => ?_)
  clear hK K hHeld
  try simp only [Act.put, List.setIfInBounds_toArray, List.set_cons_zero, List.set_cons_succ]
  have hHeld := HSO.out _ HB2.out
  refine wpAnyG_take (i := 6) (v := ?v6_5) (by simp only [List.getElem?_toArray, List.getElem?_cons_zero, List.getElem?_cons_succ]; rfl) (by kernel_rfl) (by kernel_rfl) (by kernel_rfl) (by kernel_rfl) (by kernel_rfl) (by kernel_rfl) (by exact fun _ _ _ h => h) (Or.inl ⟨by rfl, ?hyv6_5⟩) (by assumption) ?restv6_5
  case hyv6_5 => (intro w hSw; obtain ⟨g1, g2⟩ := hSw; go_simp; try with_reducible rfl)
  try simp only [Act.put, List.setIfInBounds_toArray, List.set_cons_zero, List.set_cons_succ]
  clear hHeld
  refine wpAnyG_ready (rs := [5]) (by kernel_rfl) (by simp) ?_
  refine AllReadyG.held (by simp only [List.getElem?_toArray, List.getElem?_cons_zero, List.getElem?_cons_succ]; rfl) (fun K hK => ?_) AllReadyG.nil
  go_simp
  refine (cI _ HB2.out).mono ?_
  rintro e w3 ⟨A4, d4, rfl, hs4, hb3, hn4⟩
  have HB3 := Lib.hid (HB2.out.trans (hb3.mono HB2.out.size))
  dsimp only
  refine hK.out _ _ (HSO.out _ HB3.out) (fun hHeld => ?_)
  clear hK K hHeld
  try simp only [Act.put, List.setIfInBounds_toArray, List.set_cons_zero, List.set_cons_succ]
  have hHeld := HSO.out _ HB3.out
  have b3 := hX.below HB3.out hxl
  have r3 := hR.below HB3.out hxr
  have b30 := b3.cell 0
  have b31 := b3.cell 1
  have b32 := b3.cell 2
  have b33 := b3.cell 3
  have z31 := b3.frozen 1
  have z32 := b3.frozen 2
  simp only [List.getElem?_toArray, List.getElem?_cons_zero, List.getElem?_cons_succ] at b30 b31 b32 b33
  clear hHeld
  refine wpAnyG_ready (rs := [7]) (by kernel_rfl) (by simp) ?_
  refine AllReadyG.loose (by simp only [List.getElem?_toArray, List.getElem?_cons_zero, List.getElem?_cons_succ]; rfl) (by kernel_rfl) (fun K hK => ?_) AllReadyG.nil
  go_simp
  refine hK.out _ _ ?_
  clear hK K
  try simp only [Act.put, List.setIfInBounds_toArray, List.set_cons_zero, List.set_cons_succ]
  refine wpAnyG_ready (rs := [8]) (by kernel_rfl) (by simp) ?_
  refine AllReadyG.loose (by simp only [List.getElem?_toArray, List.getElem?_cons_zero, List.getElem?_cons_succ]; rfl) (by kernel_rfl) (fun K hK => ?_) AllReadyG.nil
  go_simp
  refine hK.out _ _ ?_
  clear hK K
  try simp only [Act.put, List.setIfInBounds_toArray, List.set_cons_zero, List.set_cons_succ]
  refine wpAnyG_ready (rs := [9]) (by kernel_rfl) (by simp) ?_
  refine AllReadyG.loose (by simp only [List.getElem?_toArray, List.getElem?_cons_zero, List.getElem?_cons_succ]; rfl) (by kernel_rfl) (fun K hK => ?_) AllReadyG.nil
  go_simp
  refine hK.out _ _ ?_
  clear hK K
  try simp only [Act.put, List.setIfInBounds_toArray, List.set_cons_zero, List.set_cons_succ]
  refine wpAnyG_done (by kernel_rfl) ?_ _
  have m1 := b3.set_ 1 (.slice A3 t.ns.length d3)
  have m2 := m1.set_ 2 (.slice A4 t.ks.length d4)
  have n1 := r3.far (p := ⟨w.heap.size, 1, none⟩) (by dsimp only; omega) (.slice A3 t.ns.length d3)
  have n2 := n1.far (p := ⟨w.heap.size, 2, none⟩) (by dsimp only; omega) (.slice A4 t.ks.length d4)
  have f1 := (Fr.refl (fun b => b = w.heap.size) w3).set ⟨w.heap.size, 1, none⟩ (.slice A3 t.ns.length d3) (.inl rfl)
  have f2 := f1.set ⟨w.heap.size, 2, none⟩ (.slice A4 t.ks.length d4) (.inl rfl)
  generalize (w3.setCell ⟨w.heap.size, 1, none⟩ (.slice A3 t.ns.length d3)).setCell ⟨w.heap.size, 2, none⟩ (.slice A4 t.ks.length d4) = W4 at *
  have m20 := m2.cell 0
  have m21 := m2.cell 1
  have m22 := m2.cell 2
  have m23 := m2.cell 3
  have n20 := n2.cell 0
  have n21 := n2.cell 1
  have n22 := n2.cell 2
  have n23 := n2.cell 3
  have o20 := n2.frozen 0
  have o21 := n2.frozen 1
  have o22 := n2.frozen 2
  have o23 := n2.frozen 3
  simp at m20 m21 m22 m23
  simp only [List.getElem?_toArray, List.getElem?_cons_zero, List.getElem?_cons_succ] at n20 n21 n22 n23
  clear b30 b31 b32 b33 z31 z32 m1 n1 f1 b3 r3 c1 c2 cS cI hX hR
  have F2 := Lib.hid f2
  have HS3 := Lib.hid hs3
  have HS4 := Lib.hid hs4
  have HN3 := Lib.hid hn3
  have HN4 := Lib.hid hn4
  have HBB2 := Lib.hid hb2
  have HBB3 := Lib.hid hb3
  have N2 := Lib.hid n2
  clear f2 hs3 hs4 hn3 hn4 hb2 hb3 n2 m2
  go_wp2
  have e1 := N2.out.set_ 0 (.int .i64 t.k)
  have e2 := e1.set_ 1 (.slice A3 t.ns.length d3)
  have e3 := e2.set_ 2 (.slice A4 t.ks.length d4)
  have e4 := e3.set_ 3 (.bool t.o)
  have k1 := (Fr.refl (fun b => b = W0.heap.size) W4).set ⟨W0.heap.size, 0, none⟩ (.int .i64 t.k) (.inl rfl)
  have k2 := k1.set ⟨W0.heap.size, 1, none⟩ (.slice A3 t.ns.length d3) (.inl rfl)
  have k3 := k2.set ⟨W0.heap.size, 2, none⟩ (.slice A4 t.ks.length d4) (.inl rfl)
  have k4 := k3.set ⟨W0.heap.size, 3, none⟩ (.bool t.o) (.inl rfl)
  generalize (((W4.setCell ⟨W0.heap.size, 0, none⟩ (.int .i64 t.k)).setCell ⟨W0.heap.size, 1, none⟩ (.slice A3 t.ns.length d3)).setCell ⟨W0.heap.size, 2, none⟩ (.slice A4 t.ks.length d4)).setCell ⟨W0.heap.size, 3, none⟩ (.bool t.o) = W5 at *
  have x0 := e4.cell 0
  have x1 := e4.cell 1
  have x2 := e4.cell 2
  have x3 := e4.cell 3
  simp at x0 x1 x2 x3
  refine bodyPost_ret (v := hdV t ⟨A3, d3, A4, d4⟩) (by simp [results, Tryz.results32, go_sem, x0, x1, x2, x3, hdCells]) rfl ⟨⟨A3, d3, A4, d4⟩, rfl, ⟨?_, ?_⟩, ?_, HN3.out, HN4.out⟩
  · refine (((HS3.out.keep (w' := w3) (fun b o hb' => HBB3.out.cell (p := ⟨b, o, none⟩) hb'.2)).keep (w' := W4) (fun b o hb' => ?_)).keep (w' := W5) (fun b o hb' => ?_)).imp (fun b hb' => ?_)
    · exact World.cell?_of_block (F2.out.block b (Nat.lt_of_lt_of_le hb'.2 HBB3.out.size) (by have := hb'.1; have : W1.heap.size ≤ b := this; omega))
    · exact World.cell?_of_block (k4.block b (Nat.lt_of_lt_of_le (Nat.lt_of_lt_of_le hb'.2 HBB3.out.size) F2.out.size) (by have : W1.heap.size ≤ b := hb'.1; omega))
    · have h1 : W1.heap.size ≤ b := hb'.1; have h2 := hb'.2; have h3 := HBB3.out.size; have h4 := F2.out.size; have h5 := k4.size; exact ⟨by omega, by omega⟩
  · refine ((HS4.out.keep (w' := W4) (fun b o hb' => ?_)).keep (w' := W5) (fun b o hb' => ?_)).imp (fun b hb' => ?_)
    · exact World.cell?_of_block (F2.out.block b hb'.2 (by have h1 := hb'.1; have h2 := HB2.out.size; omega))
    · exact World.cell?_of_block (k4.block b (Nat.lt_of_lt_of_le hb'.2 F2.out.size) (by have h1 := hb'.1; have h2 := HB2.out.size; omega))
    · have h1 := hb'.1; have h6 := HB2.out.size; have h2 := hb'.2; have h4 := F2.out.size; have h5 := k4.size; exact ⟨by omega, by omega⟩
  · have z1 : Below w.heap.size w w3 := HB.out.trans (HB3.out.mono HB.out.size)
    have z2 : Below w.heap.size w W4 := z1.trans (F2.out.below z1.size (fun x hx => by omega))
    exact z2.trans (k4.below z2.size (fun x hx => by omega))
end Go.Proofs.YtggchkddmihobaaGreatDoor
