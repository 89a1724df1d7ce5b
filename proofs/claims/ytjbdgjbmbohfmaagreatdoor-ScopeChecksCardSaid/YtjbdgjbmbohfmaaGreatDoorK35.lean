/- Free names: the walk of one term. -/
import Derived.Test.YtjbdgjbmbohfmaaGreatDoorK34
namespace Go.Proofs.YtjbdgjbmbohfmaaGreatDoor
open Go Go.Proofs Go.RowKit
/-- What the walk of terms asks of names. -/
structure TmSm (t : TreeD) : Prop where
 nm : ∀ x ∈ t.nodes, x.name.size ≤ 1000 ∧ x.names.length ≤ 1000 ∧ x.kids.length ≤ 1000
 nms : ∀ x ∈ t.nodes, ∀ s ∈ x.names, s.size ≤ 1000
 all : (allN t).length ≤ 100000000
def FinV (t : TreeD) (p : Ptr6) (A R : Nat) : Array Value := #[.slice p.a1 t.nodes.length p.c1, .slice p.a2 t.types.length p.c2, .slice p.a3 t.aliases.length p.c3, .map (some A), .map (some R)]
theorem bnd_size {t : TreeD} (h : TmSm t) {i p : Nat} {x : TermD} (hx : t.nodes[i]? = some x) : (bndN x p).size ≤ 1000 := by
 have hm := List.mem_of_getElem? hx
 unfold bndN
 split
 ·exact (h.nm x hm).1
 ·split
  ·rename_i h1 h2
   have hl : 2 * p - 1 < x.names.length := by omega
   rw [List.getD_eq_getElem?_getD, List.getElem?_eq_getElem hl]
   exact h.nms x hm _ (List.getElem_mem hl)
  ·exact Nat.zero_le _

set_option maxRecDepth 100000 in
set_option maxHeartbeats 8000000 in
theorem term_anyZ (t : TreeD) (p : Ptr6) (F A R n₀ : Nat) (hN : NdOk t) (hS : TmSm t) (hF : n₀ ≤ F) (hA : n₀ ≤ A) (hR : n₀ ≤ R) (hFA : F ≠ A) (hFR : F ≠ R) (hAR : A ≠ R) : ∀ (f i : Nat) (env : List ByteArray) (G : ByteArray → Prop) (w : World), i < f → i < t.nodes.length → env.length + f ≤ 70000 → TreeAt (Lt n₀) w t p → Blk w F 156 (FinV t p A R) → AOk (allN t) A env w → ROk (allN t) R G w →
 Calls Tryz.prog 141 #[.pointer (some ⟨F, 0, none⟩), .int .i64 (i : Int)] w fun e w' => e = .returned (.tuple #[]) ∧ AOk (allN t) A env w' ∧ ROk (allN t) R (fun s => G s ∨ s ∈ freeL t f i env) w' ∧ KAR A R w w' := by
 intro f
 induction f with
 | zero => intro i env G w hi; omega
 | succ f ih =>
  intro i env G w hif hil hef hT hX hAO hRO
  obtain ⟨b, off, ha1, hb, hcell⟩ := hT.1 (by omega)
  obtain ⟨q, hq1, hq⟩ := hcell i t.nodes[i] (List.getElem?_eq_getElem hil)
  dsimp only [Lt] at hb
  obtain ⟨x, hx⟩ : ∃ x, t.nodes[i] = x := ⟨_, rfl⟩
  have hget : t.nodes[i]? = some x := by rw [List.getElem?_eq_getElem hil, hx]
  rw [hx] at hq hq1
  have hsm := hS.nm x (List.mem_of_getElem? hget)
  have hkr := hN.rng i x hget
  have hbs := fun (k : Nat) => bnd_size hS (p := k) hget
  have hbm := fun (k : Nat) => (allN_bnd (p := k) hget).1
  have hnm := (allN_bnd (p := 0) hget).2
  have hfree : ∀ s, s ∈ freeL t (f + 1) i env ↔ (x.kind = 0 ∧ cntN env x.name = 0 ∧ s = x.name) ∨ ∃ j k, (x.kids.map Int.toNat)[j]? = some k ∧ s ∈ freeL t f k (bndN x j :: env) := by
   intro s
   rw [freeL, hget]
   dsimp only
   rw [List.mem_append, freeK_mem]
   simp only [Nat.zero_add]
   refine or_congr ?_ Iff.rfl
   rw [cntN_zero]
   by_cases h1 : x.kind = 0
   ·by_cases h2 : cntN env x.name = 0
    ·rw [if_pos ⟨h1, by simp [h2]⟩, List.mem_singleton]
     exact ⟨fun e => ⟨h1, h2, e⟩, fun e => e.2.2⟩
    ·rw [if_neg (by simp [h2])]
     exact ⟨fun e => (by cases e), fun e => absurd e.2.1 h2⟩
   ·rw [if_neg (by simp [h1])]
    exact ⟨fun e => (by cases e), fun e => absurd e.1 h1⟩
  have HFR := Lib.hid hfree
  have HT := Lib.hid hT
  have HK := Lib.hid hkr
  have HBS := Lib.hid hbs
  have HBM := Lib.hid hbm
  have HIH := Lib.hid ih
  have hFl := hX.lt
  have hAl := hAO.lt
  have hRl := hRO.lt
  obtain ⟨kind, pos, nm, int, bits, nms, kids, tys⟩ := x
  obtain ⟨q5, d5, q6, d6, q7, d7⟩ := q
  dsimp only at hsm hnm
  have x0 := hX.cell 0
  have x3 := hX.cell 3
  have x4 := hX.cell 4
  simp only [FinV, List.getElem?_toArray, List.getElem?_cons_zero, List.getElem?_cons_succ] at x0 x3 x4
  rw [ha1] at x0
  have e0 := hq 0 _ rfl
  have e1 := hq 1 _ rfl
  have e2 := hq 2 _ rfl
  have e3 := hq 3 _ rfl
  have e4 := hq 4 _ rfl
  have e5 := hq 5 _ rfl
  have e6 := hq 6 _ rfl
  have e7 := hq 7 _ rfl
  dsimp only at e0 e1 e2 e3 e4 e5 e6 e7
  rw [Nat.add_zero] at e0
  have hcn := cntN_le env nm
  have HX := Lib.hid hX
  have HQ1 := Lib.hid hq1
  clear hfree hT hkr hbs hbm ih hX hq hcell hx hget hq1
  go_enter Tryz.func141, Tryz.ntmps141
  go_wp2
  obtain ⟨W1, hW1⟩ : ∃ W1, w.alloc (.cells #[.int .i64 kind, .int .i64 pos, .string nm, .int .i64 int, .int .u64 (bits : Int), .slice q5 nms.length d5, .slice q6 kids.length d6, .slice q7 tys.length d7] 60) = W1 := ⟨_, rfl⟩
  have hb1 : Below w.heap.size w W1 := by rw [← hW1]; exact (Below.refl _ w).alloc (Nat.le_refl _) _
  have hXn : Blk W1 w.heap.size 60 #[.int .i64 kind, .int .i64 pos, .string nm, .int .i64 int, .int .u64 (bits : Int), .slice q5 nms.length d5, .slice q6 kids.length d6, .slice q7 tys.length d7] := by rw [← hW1]; exact Blk.new w 60 _
  have hz1 : W1.heap.size = w.heap.size + 1 := by rw [← hW1]; simp
  rw [hW1]
  have hlk0 : ∀ n, (Instr.lookup 147 (.map (some A)) (.string nm) false).run Tryz.prog (W1.drewN n) = .ok (.int .i64 (cntN env nm : Int)) (W1.drewN n) := fun n => (hAO.block (w' := W1.drewN n) (hb1.block A hAl)).look hsm.1
  have y3 := (hb1.cell (p := ⟨F, 3, none⟩) hFl).trans x3
  have y4 := (hb1.cell (p := ⟨F, 4, none⟩) hFl).trans x4
  have g0 := hXn.cell 0
  have g2 := hXn.cell 2
  simp only [List.getElem?_toArray, List.getElem?_cons_zero, List.getElem?_cons_succ] at g0 g2
  have HB1 := Lib.hid hb1
  have HA1 := Lib.hid (hAO.block (hb1.block A hAl))
  have HR1 := Lib.hid (hRO.block (hb1.block R hRl))
  have HZ1 := Lib.hid hz1
  have hgw : w.heap.size < W1.heap.size := by omega
  have hFw : F < W1.heap.size := by omega
  clear hW1 hb1 x0 x3 x4 e0 e1 e2 e3 e4 e5 e6 e7 hAO hRO hz1
  have HXN := Lib.hid hXn
  have hgoal : ∀ Wx, W1.heap.size ≤ Wx.heap.size → (∀ k, k < W1.heap.size → k ≠ R → Wx.heap[k]? = W1.heap[k]?) → Wx.os = W1.os → Wx.tape = W1.tape → Wx.output = W1.output →
   KAR A R w Wx ∧ AOk (allN t) A env Wx ∧ Blk Wx F 156 (FinV t p A R) ∧ Blk Wx w.heap.size 60 #[.int .i64 kind, .int .i64 pos, .string nm, .int .i64 int, .int .u64 (bits : Int), .slice q5 nms.length d5, .slice q6 kids.length d6, .slice q7 tys.length d7] := fun Wx h1 h2 h3 h4 h5 => by
   have hz := HB1.out.size
   refine ⟨⟨h3.trans HB1.out.os, h4.trans HB1.out.tape, h5.trans HB1.out.output, Nat.le_trans hz h1, fun k hk _ hr => (h2 k (by omega) hr).trans (HB1.out.block k hk)⟩, HA1.out.block (h2 A (by omega) hAR), (h2 F (by omega) hFR).trans ((HB1.out.block F hFl).trans HX.out), (h2 _ (by omega) (by omega)).trans HXN.out⟩
  have HGO := Lib.hid hgoal
  clear hgoal hXn
  have h3 : (kind = 0 ∧ cntN env nm = 0) ∨ (kind = 0 ∧ cntN env nm ≠ 0) ∨ kind ≠ 0 := by
   by_cases h1 : kind = 0
   ·by_cases h2 : cntN env nm = 0
    ·exact .inl ⟨h1, h2⟩
    ·exact .inr (.inl ⟨h1, h2⟩)
   ·exact .inr (.inr h1)
  rcases h3 with ⟨hk, hc⟩ | ⟨hk, hc⟩ | hk
  case' inl =>
   rw [hc] at hlk0
   rw [hk] at g0
   have HKD := Lib.hid hk
   have HCD := Lib.hid hc
   clear hk hc
   go_quiet (fail)
   go_wp2
   obtain ⟨fw, hfw⟩ : ∃ fw : Nat → World, ∀ n, (Instr.mapUpdate 154 (.map (some R)) (.string nm) (.agg #[])).run Tryz.prog (W1.drewN n) = .ok () (fw n) ∧ ROk (allN t) R (fun x => G x ∨ x = nm) (fw n) ∧ (W1.drewN n).grownBy (fw n) (some R) :=
    Classical.skolem.1 (fun n => (HR1.out.block (w' := W1.drewN n) rfl).add hsm.1 hnm hS.all)
   have hmu := fun n => (hfw n).1
   go_region
   have hx1 := (hfw (nq + 1)).2.1
   have hx2 := (hfw (nq + 1)).2.2
   generalize fw (nq + 1) = Wx at hx1 hx2 ⊢
   have HRX : Hid (ROk (allN t) R (fun s => G s ∨ (kind = 0 ∧ cntN env nm = 0 ∧ s = nm)) Wx) := Lib.hid (hx1.iff (fun s => or_congr Iff.rfl ⟨fun e => ⟨HKD.out, HCD.out, e⟩, fun e => e.2.2⟩))
   obtain ⟨hK, hA2, hF2, hN2⟩ := HGO.out Wx hx2.size (fun k hk hr => hx2.block k hk (fun e => hr (by injection e))) hx2.os hx2.tape hx2.output
   clear hx1 hx2 hfw hmu HCD HKD hlk0 hcn y3 y4 g0 g2 HR1 HA1
  case' inr.inl =>
   rw [hk] at g0
   have HKD := Lib.hid hk
   have HCD := Lib.hid hc
   have hk0 : ((cntN env nm : Int) == 0) = false := by simp; omega
   clear hk hc
   go_quiet (fail)
   obtain ⟨Wx, hWx⟩ : ∃ Wx, W1.drewN nq = Wx := ⟨_, rfl⟩
   have HRX : Hid (ROk (allN t) R (fun s => G s ∨ (kind = 0 ∧ cntN env nm = 0 ∧ s = nm)) Wx) := Lib.hid ((HR1.out.block (by rw [← hWx]; rfl)).iff (fun s => ⟨.inl, fun h => h.elim id (fun h => absurd h.2.1 HCD.out)⟩))
   obtain ⟨hK, hA2, hF2, hN2⟩ := HGO.out Wx (by rw [← hWx]; exact Nat.le_refl _) (fun k _ _ => by rw [← hWx]; rfl) (by rw [← hWx]; rfl) (by rw [← hWx]; rfl) (by rw [← hWx]; rfl)
   rw [hWx]
   clear hWx HCD HKD hk0 hlk0 hcn y3 y4 g0 g2 HR1 HA1
  case' inr.inr =>
   have hk0 : (kind == 0) = false := by simp [hk]
   go_quiet (fail)
   obtain ⟨Wx, hWx⟩ : ∃ Wx, W1.drewN nq = Wx := ⟨_, rfl⟩
   have HRX : Hid (ROk (allN t) R (fun s => G s ∨ (kind = 0 ∧ cntN env nm = 0 ∧ s = nm)) Wx) := Lib.hid ((HR1.out.block (by rw [← hWx]; rfl)).iff (fun s => ⟨.inl, fun h => h.elim id (fun h => absurd h.1 hk)⟩))
   obtain ⟨hK, hA2, hF2, hN2⟩ := HGO.out Wx (by rw [← hWx]; exact Nat.le_refl _) (fun k _ _ => by rw [← hWx]; rfl) (by rw [← hWx]; rfl) (by rw [← hWx]; rfl) (by rw [← hWx]; rfl)
   rw [hWx]
   clear hWx hk0 hk hlk0 hcn y3 y4 g0 g2 HR1 HA1
  all_goals
   obtain ⟨G1, hG1⟩ : ∃ G1 : ByteArray → Prop, (fun s => G s ∨ (kind = 0 ∧ cntN env nm = 0 ∧ s = nm)) = G1 := ⟨_, rfl⟩
   have HG1 := Lib.hid hG1
   rw [hG1] at HRX
   clear hG1 HB1 HZ1 hgw hFw HGO HXN
   have HKX := Lib.hid hK
   have HAX := Lib.hid hA2
   have HFX := Lib.hid hF2
   have hzx := hK.size
   have hwx := hN2.lt
   have g6 := hN2.cell 6
   simp only [List.getElem?_toArray, List.getElem?_cons_zero, List.getElem?_cons_succ] at g6
   clear hK hA2
   go_wp2
   go_loopw [5, 6, 7, 39] (fun _ _ _ vc wr => ∃ (X : World) (j : Nat), X = wr ∧ j ≤ kids.length ∧ vc = .int .i64 (j : Int) ∧ KAR A R Wx wr ∧ Hid (AOk (allN t) A env wr) ∧ Hid (ROk (allN t) R (fun s => G1 s ∨ ∃ j' k, j' < j ∧ (kids.map Int.toNat)[j']? = some k ∧ s ∈ freeL t f k (bndN ⟨kind, pos, nm, int, bits, nms, kids, tys⟩ j' :: env)) wr)) (fun _ _ _ vc _ => kids.length - (intOf vc).toNat)
   case atStart => exact ⟨_, 0, rfl, Nat.zero_le _, rfl, KAR.refl _ _ _, HAX, Lib.hid (HRX.out.iff (fun s => ⟨.inl, fun h => h.elim id (fun ⟨j', k, h, _⟩ => absurd h (by omega))⟩))⟩
   case round =>
    obtain ⟨Wr, j, rfl, hj, rfl, hKr, HAr, HRr⟩ := hrel
    have hszr := hKr.size
    have hKwr := HKX.out.trans hKr
    have hNr : Blk Wr w.heap.size 60 #[.int .i64 kind, .int .i64 pos, .string nm, .int .i64 int, .int .u64 (bits : Int), .slice q5 nms.length d5, .slice q6 kids.length d6, .slice q7 tys.length d7] := (hKr.block _ hwx (by omega) (by omega)).trans hN2
    have hFr : Blk Wr F 156 (FinV t p A R) := (hKr.block F (by omega) hFA hFR).trans HFX.out
    by_cases hlt : j < kids.length
    ·obtain ⟨b6, off6, h6, hb6, hc6⟩ := HQ1.out.2.1.2 (by dsimp only; omega)
     have hold : ∀ b o, b < n₀ → Wr.cell? ⟨b, o, none⟩ = w.cell? ⟨b, o, none⟩ := fun b o hb => World.cell?_of_block (a := ⟨b, o, none⟩) (hKwr.block b (by omega) (by omega) (by omega))
     have k0 := (hold _ _ hb6).trans (hc6 j (.int .i64 kids[j]) (by simp [hlt]))
     have hkr := HK.out kids[j] (List.getElem_mem hlt)
     obtain ⟨y, hy⟩ : ∃ y, kids[j] = y := ⟨_, rfl⟩
     rw [hy] at k0 hkr
     obtain ⟨K, rfl⟩ : ∃ K : Nat, y = (K : Int) := ⟨y.toNat, by omega⟩
     have hKi : K < i := by omega
     have hjk : (kids.map Int.toNat)[j]? = some K := by rw [List.getElem?_map, List.getElem?_eq_getElem hlt, hy]; rfl
     have hTO : TermOk (Lt Wr.heap.size) Wr ⟨kind, pos, nm, int, bits, nms, kids, tys⟩ ⟨q5, d5, q6, d6, q7, d7⟩ := (HQ1.out.keep (fun b o hb => hold b o hb)).imp (fun b hb => by dsimp only [Lt] at hb ⊢; omega)
     have cB := bound_any ⟨kind, pos, nm, int, bits, nms, kids, tys⟩ ⟨q5, d5, q6, d6, q7, d7⟩ j Wr hTO (by omega) (by dsimp only; omega)
     obtain ⟨bn, hbn⟩ : ∃ bn, bndN ⟨kind, pos, nm, int, bits, nms, kids, tys⟩ j = bn := ⟨_, rfl⟩
     have hbs := HBS.out j
     have hbm := HBM.out j
     rw [hbn] at cB hbs hbm
     have z0 := hNr.cell 0
     have z1 := hNr.cell 1
     have z2 := hNr.cell 2
     have z3 := hNr.cell 3
     have z4 := hNr.cell 4
     have z5 := hNr.cell 5
     have z6 := hNr.cell 6
     have z7 := hNr.cell 7
     simp only [List.getElem?_toArray, List.getElem?_cons_zero, List.getElem?_cons_succ] at z0 z1 z2 z3 z4 z5 z6 z7
     have HBN := Lib.hid hbn
     have HJK := Lib.hid hjk
     have HTr := Lib.hid (HT.out.keep (fun b o (hb : Lt n₀ b) => hold b o hb))
     clear hTO hy hbn hjk hold hc6 g6
     dsimp only at h6
     subst h6
     have HCB := Lib.hid cB
     clear cB
     go_wp2_with fail
     refine HCB.out.mono ?_
     rintro e w2 ⟨rfl, hb2⟩
     have hsz2 := hb2.size
     have hK2 := hKr.below hb2
     have hF2 := hFr.below hb2 (by omega)
     have HA2 := HAr.out.block (hb2.block A (by omega))
     have HR2 := HRr.out.block (hb2.block R (by omega))
     have x3 := hF2.cell 3
     simp only [FinV, List.getElem?_toArray, List.getElem?_cons_zero, List.getElem?_cons_succ] at x3
     have hlk := HA2.look hbs
     have hcn := cntN_le env bn
     obtain ⟨w3, hu3, HA3, hg3⟩ := HA2.set_ (s := bn) hbs hbm hS.all (env' := bn :: env) (c := (cntN env bn : Int) + 1) (by rw [cntN, if_pos rfl]; omega) (by rw [cntN, if_pos rfl]; omega) (fun s' hs' => by rw [cntN, if_neg (fun e => hs' e.symm)]; omega)
     have hsz3 := hg3.size
     have hF3 := hF2.grown hg3 (fun e => hFA (by injection e))
     have HR3 := HR2.block (hg3.block R (by omega) (fun e => hAR (by injection e; omega)))
     have hK3 := hK2.grownA hg3
     have HT3 : TreeAt (Lt n₀) w3 t p := HTr.out.keep (fun b o (hb : Lt n₀ b) => World.cell?_of_block (a := ⟨b, o, none⟩) ((hg3.block b (by dsimp only [Lt] at hb; omega) (fun e => by dsimp only [Lt] at hb; injection e; omega)).trans (hb2.block b (by dsimp only [Lt] at hb; omega))))
     have cT := HIH.out K (bn :: env) _ w3 (by omega) (by omega) (by simp; omega) HT3 hF3 HA3 HR3
     have HCT := Lib.hid cT
     have HF3 := Lib.hid hF3
     have HK3 := Lib.hid hK3
     clear cT HA3 HR3 HT3 hK2 hK3 hF3 hF2 hg3 hb2 HCB hKwr hFr hNr z0 z1 z2 z3 z4 z5 z6 z7 HA2 HR2
     go_wp2_with fail
     refine HCT.out.mono ?_
     rintro e w4 ⟨rfl, HA4, HR4, hK4⟩
     have hsz4 := hK4.size
     have hF4 : Blk w4 F 156 (FinV t p A R) := (hK4.block F (by have := HF3.out.lt; omega) hFA hFR).trans HF3.out
     clear x3
     have x3 := hF4.cell 3
     simp only [FinV, List.getElem?_toArray, List.getElem?_cons_zero, List.getElem?_cons_succ] at x3
     clear hlk
     have hlk := HA4.look hbs
     rw [cntN, if_pos rfl] at hlk
     obtain ⟨w5, hu5, HA5, hg5⟩ := HA4.set_ (s := bn) hbs hbm hS.all (env' := env) (c := 1 + (cntN env bn : Int) - 1) (by omega) (by omega) (fun s' hs' => by rw [cntN, if_neg (fun e => hs' e.symm)]; omega)
     have HR5 := HR4.block (hg5.block R (by have := HR4.lt; omega) (fun e => hAR (by injection e; omega)))
     have HK5 := Lib.hid ((HK3.out.trans hK4).grownA hg5)
     have HAA := Lib.hid HA5
     have HRR := Lib.hid HR5
     clear HCT HA4 HR4 hK4 hF4 HA5 HR5 hg5 hu3
     go_wp2
     go_roundw
     case rel =>
      refine ⟨_, j + 1, rfl, by omega, by go_num, HK5.out, HAA, Lib.hid (HRR.out.iff (fun s => ?_))⟩
      constructor
      ·rintro ((h | ⟨j', k, h1, h2, h3⟩) | h)
       ·exact .inl h
       ·exact .inr ⟨j', k, by omega, h2, h3⟩
       ·exact .inr ⟨j, K, by omega, HJK.out, by rw [HBN.out]; exact h⟩
      ·rintro (h | ⟨j', k, h1, h2, h3⟩)
       ·exact .inl (.inl h)
       ·by_cases e : j' = j
        ·subst e
         have e2 := HJK.out
         rw [h2] at e2
         injection e2 with e2
         subst e2
         rw [HBN.out] at h3
         exact .inr h3
        ·exact .inl (.inr ⟨j', k, by omega, h2, h3⟩)
     case measure => simp [intOf]; omega
    ·obtain rfl : j = kids.length := by omega
     clear hNr hFr hKwr g6
     go_wp2
     go_end0
     refine ⟨rfl, HAr.out, HRr.out.iff (fun s => ?_), HKX.out.trans hKr⟩
     rw [HFR.out s, ← HG1.out]
     constructor
     ·rintro ((h | h) | ⟨j', k, _, h2, h3⟩)
      ·exact .inl h
      ·exact .inr (.inl h)
      ·exact .inr (.inr ⟨j', k, h2, h3⟩)
     ·rintro (h | h | ⟨j', k, h2, h3⟩)
      ·exact .inl (.inl h)
      ·exact .inl (.inr h)
      ·refine .inr ⟨j', k, ?_, h2, h3⟩
       have := (List.getElem?_eq_some_iff.1 h2).1
       rwa [List.length_map] at this
end Go.Proofs.YtjbdgjbmbohfmaaGreatDoor
