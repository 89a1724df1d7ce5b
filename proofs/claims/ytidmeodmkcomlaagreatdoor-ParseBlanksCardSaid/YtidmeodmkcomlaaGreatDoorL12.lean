/- A tree is copied; a builder: what is -/
import Derived.Test.YtidmeodmkcomlaaGreatDoorL10
import Derived.Test.YtidmeodmkcomlaaGreatDoorL11
import Derived.Deep.RegionLaw
namespace Go.Proofs.YtidmeodmkcomlaaGreatDoor
open Go Go.Proofs Go.RowKit
set_option maxHeartbeats 8000000
theorem zdm {w4 w5 : World} {o : Obj} {v1 : Value} (hg : (w4.alloc o).grownBy w5 v1.ownBlock) {b off : Nat} (hb : b < w4.heap.size) (hne : v1.ownBlock ≠ some b) : w5.cell? ⟨b, off, none⟩ = w4.cell? ⟨b, off, none⟩ :=
 (zKb (a := ⟨b, off, none⟩) (hg.block b (by rw [zKh]; omega) (fun e => hne e.symm))).trans (World.cell?_alloc_lt w4 o ⟨b, off, none⟩ hb)
theorem zdv {w4 w5 : World} {o : Obj} {v1 : Value} (hg : (w4.alloc o).grownBy w5 v1.ownBlock) {b off : Nat} (hb : b < w4.heap.size) (hne : v1.ownBlock ≠ some b) : w5.frozen? ⟨b, off, none⟩ = w4.frozen? ⟨b, off, none⟩ := by
 have h := hg.block b (by rw [zKh]; omega) (fun e => hne e.symm);have h2 := (Below.heap_alloc w4 o b hb);simp only [World.frozen?, h, h2]
end Go.Proofs.YtidmeodmkcomlaaGreatDoor
namespace Go.Proofs.YtidmeodmkcomlaaGreatDoor
open Go Go.Proofs Go.RowKit
theorem zjl {w w1 w2 w3 : World} {row : Option Nat} {cb g : Nat} (hb : Below w.heap.size w w1) (hb2 : Below w1.heap.size w1 w2) (hg : w2.grownBy w3 row) (h1 : g < w.heap.size) (h2 : g ≠ cb) (h3 : row ≠ some g) (v' : Value) (k : Nat) :
 (w3.setCell ⟨cb, k, none⟩ v').heap[g]? = w.heap[g]? := by
 have hs1 := hb.size;have hs2 := hb2.size;rw [zKp _ _ _ _ h2, hg.block g (by omega) (fun e => h3 e.symm), hb2.block g (by omega), hb.block g h1]
theorem zpm {w w1 w2 w3 : World} {row : Option Nat} {cb : Nat} (_hb : Below w.heap.size w w1) (hb2 : Below w1.heap.size w1 w2) (hg : w2.grownBy w3 row) (hr : ∀ g, row = some g → g < w.heap.size) (hcb : cb < w.heap.size) (v' : Value) (k b o : Nat) (h1 : w.heap.size ≤ b ∧ b < w1.heap.size) :
 (w3.setCell ⟨cb, k, none⟩ v').cell? ⟨b, o, none⟩ = w1.cell? ⟨b, o, none⟩ := by
 have hs2 := hb2.size;rw [zK0 _ _ _ _ (by intro e; injection e; omega), zKb (a := ⟨b, o, none⟩) (hg.block b (by omega) (fun e => by have := hr b e.symm; omega)), hb2.cell (p := ⟨b, o, none⟩) h1.2]
def zt2 (base cb : Nat) (v1 v2 v3 : Value) (r1 : List (TermD × Ptr3)) (r2 : List (TypD × Ptr2)) (r3 : List AliD) (x : TermD) (w : World) (e : Ending) (w' : World) : Prop :=
 ∃ p' v', e = .returned (.tuple #[.int .i64 (r1.length : Nat), .int .i64 0]) ∧ TreeOwn w' base cb 99 v' v2 v3 (r1 ++ [(x, p')]) r2 r3 ∧ (∀ B, B ≤ base → B ≤ w.heap.size → Below B w w') ∧ (∀ g, g < w.heap.size → (g ≠ cb → v1.ownBlock ≠ some g → w'.heap[g]? = w.heap[g]?)) ∧ TermOk (fun b => w.heap.size ≤ b) w' x p' ∧ ∀ g, v'.ownBlock = some g → g < w.heap.size → v1.ownBlock = some g
theorem zAb (base cb : Nat) {v1 v2 v3 : Value} {r1 : List (TermD × Ptr3)} {r2 : List (TypD × Ptr2)} {r3 : List AliD} (x : TermD) (q : Ptr3) (w : World) (hT : TreeOwn w base cb 99 v1 v2 v3 r1 r2 r3) (hl : r1.length = 65536) :
 Calls Tryz.prog 137 #[.pointer (some ⟨cb, 0, none⟩), .agg (za1 x q).toArray] w fun e w' => e = .returned (.tuple #[.int .i64 0, .int .i64 6]) ∧ Below w.heap.size w w' := by
 obtain ⟨A, c, hv⟩ := za8 hT.o1;have c0 := hT.blk.cell 0;have hcb := hT.blk.lt;simp only [gA, gB] at c0;rw [hv, hl] at c0;clear hv hT hl;unfold za1;go_enter Tryz.func137, Tryz.ntmps137
 go_wp2
 go_ret2
 exact ⟨rfl, (zJx _ _).alloc (zJw _) _⟩
set_option maxRecDepth 100000 in
theorem zqc (base cb : Nat) {v1 v2 v3 : Value} {r1 : List (TermD × Ptr3)} {r2 : List (TypD × Ptr2)} {r3 : List AliD} (x : TermD) (q : Ptr3) (w : World) (hT : TreeOwn w base cb 99 v1 v2 v3 r1 r2 r3) (hl : r1.length < 65536) (hq : TermOk (Lt w.heap.size) w x q) (f1 : x.names.length ≤ 65536) (f2 : x.kids.length ≤ 65536) (f3 : x.types.length ≤ 65536) :
 Calls Tryz.prog 137 #[.pointer (some ⟨cb, 0, none⟩), .agg (za1 x q).toArray] w (zt2 base cb v1 v2 v3 r1 r2 r3 x w) := by
 obtain ⟨i0, hi, hz0, hz1, hz2⟩ := info_parts zr6;obtain ⟨A, c, hv⟩ := za8 hT.o1;have hbs := hT.bas;have h65 : ((r1.length : Int) == 65536) = false := by rw [zKr]; omega
 obtain ⟨Wn, hWn⟩ : ∃ Wn, w.alloc (.cells (za1 x q).toArray 38) = Wn := ⟨_, rfl⟩;have hBn : Below w.heap.size w Wn := by rw [← hWn]; exact (zJx _ _).alloc (zJw _) _
 have hXn : Blk Wn w.heap.size 38 (za1 x q).toArray := by rw [← hWn]; exact Blk.new w 38 _
 have hTn := hT.below hBn;have c0 := hTn.blk.cell 0;have hcb := hTn.blk.lt;simp only [gA, gB] at c0;rw [hv] at c0;unfold za1 at *;have HT := zJv hT;have HV := zJv hv;have HBN := zJv hBn;have HXN := zJv hXn;have HTN := zJv hTn;have HQ := zJv hq;clear hT hv hBn hXn hTn hq;go_enter Tryz.func137, Tryz.ntmps137
 go_wp2_with fail
 have hBn := HBN.out;have hXn := HXN.out;have hTn := HTN.out;clear hWn;have hzn := hXn.lt;have k32 := fun W (hW : TermOk (Lt W.heap.size) W x q) => zg8 x q W hW f1 f2 f3;have g0 := hTn.blk.frozen 0;have p0 := hXn.cell 0;have p1 := hXn.cell 1;have p2 := hXn.cell 2;have p3 := hXn.cell 3;have p4 := hXn.cell 4;have p5 := hXn.cell 5;have p6 := hXn.cell 6;have p7 := hXn.cell 7;simp only [gA, gB, gC] at p0 p1 p2 p3 p4 p5 p6 p7;have hqn : TermOk (Lt Wn.heap.size) Wn x q := (HQ.out.keep (zaa hBn)).imp (zc6 hBn.size);unfold za1 at k32;have hczn : cb < Wn.heap.size := hTn.blk.lt;clear hTn hXn;have hne1 : v1.ownBlock ≠ some cb := za3 HT.out.o1 HT.out.blk (by decide);rw [HV.out] at hne1
 go_region_law (first
  | (refine zdy _ rfl _ _ 23 rfl base 38 i0 _ 8 120 Tryz.underlying23 hi hz0 hz1 hz2 rfl (by decide) (.slice A r1.length c) r1.length (zf2 r1) (by simp [Act.eval]) (HV.out ▸ ((HTN.out.below hb5).o1.alloc _)) (some ⟨w4.heap.size, 0, none⟩) 1 1 (za1 x p') (by simp [Act.eval]) rfl (zgx w4 (za1 x p') 38) (by intro u hu; simp [za1] at hu; rcases hu with rfl | rfl | rfl | rfl | rfl | rfl | rfl | rfl <;> rfl) (by unfold maxLen; omega) (by omega) (by simp only [zKh]; have := hb5.size; have := hBn.size; omega) ?_; intro v' w5 hown5 hgrow5 hloc5; have c5 := (zdm (off := 0) hgrow5 l4 hne1).trans c4; have g5 := (zdv (off := 0) hgrow5 l4 hne1).trans g4; obtain ⟨A5, d5, rfl⟩ := za8 hown5)
  | (rw [if_pos (by simp [Region.wanted])]; go_simp; go_at_call 112; refine (k32 _ (by exact hqn)).mono ?_; rintro e w4 ⟨p', rfl, hok, hb4⟩; simp only [za1]; have hb5 : Below Wn.heap.size Wn w4 := ((zJx _ Wn).drew).trans hb4; have l4 : cb < w4.heap.size := zJy hczn hb5.size; have c4 := (hb4.cell (p := ⟨cb, 0, none⟩) hczn).trans c0; have g4 := (hb4.frozen (p := ⟨cb, 0, none⟩) hczn).trans g0; go_simp))
 all_goals
  have hpush := TreeOwn.pushTerm HTN.out x p' hb5 hok ((zJx w4.heap.size w4).alloc (zJw _) (.cells (za1 x p').toArray 38)) (by simpa using hown5) (by rw [HV.out]; exact hgrow5) (by rw [HV.out]; exact hloc5);have HK : Hid (∀ g, g < w.heap.size → g ≠ cb → v1.ownBlock ≠ some g → ∀ v, (w5.setCell ⟨cb, 0, none⟩ v).heap[g]? = w.heap[g]?) := zJv (fun g h1 h2 h3 v => (zjl hb5 ((zJx w4.heap.size w4).alloc (zJw _) (.cells (za1 x p').toArray 38)) hgrow5 (zJy h1 hBn.size) h2 (by rw [← HV.out]; exact h3) v 0).trans (hBn.block g h1))
  have HL : Hid (∀ g, (Value.slice A5 (r1.length + 1) d5).ownBlock = some g → g < w.heap.size → v1.ownBlock = some g) := zJv (fun g e hg => by
   have hs1 := hb5.size;have hs2 := hBn.size;rcases hloc5 with h | h
   · rw [HV.out]; exact h.symm.trans e
   · rw [h] at e; injection e with e; simp only [zKh] at e; omega)
  have HN : Hid (∀ v, TermOk (fun b => w.heap.size ≤ b) (w5.setCell ⟨cb, 0, none⟩ v) x p') := zJv (fun v => (hok.keep (fun b o hq => zpm hb5 ((zJx w4.heap.size w4).alloc (zJw _) (.cells (za1 x p').toArray 38)) hgrow5 (fun g e => by rw [← HV.out] at e; exact zb8 HTN.out.o1 g e) hczn v 0 b o hq)).imp (fun b hq => zK4 hBn.size hq.1));have HP := zJv hpush.1;have HB := zJv hpush.2;clear hpush hok hown5 hgrow5 hloc5 hb4 hb5 c5 g5 c4 g4 k32 c0 g0 p0 p1 p2 p3 p4 p5 p6 p7;go_wp2
  go_ret2
  exact ⟨p', _, rfl, HP.out, fun B h1 h2 => (hBn.mono h2).trans (HB.out B h1 (zK4 h2 hBn.size)), fun g h1 h2 h3 => HK.out g h1 h2 h3 _, HN.out _, HL.out⟩
def zsl (base cb : Nat) (v1 v2 v3 : Value) (r1 : List (TermD × Ptr3)) (r2 : List (TypD × Ptr2)) (r3 : List AliD) (x : TypD) (w : World) (e : Ending) (w' : World) : Prop :=
 ∃ p' v', e = .returned (.tuple #[.int .i64 (r2.length : Nat), .int .i64 0]) ∧ TreeOwn w' base cb 99 v1 v' v3 r1 (r2 ++ [(x, p')]) r3 ∧ (∀ B, B ≤ base → B ≤ w.heap.size → Below B w w') ∧ (∀ g, g < w.heap.size → (g ≠ cb → v2.ownBlock ≠ some g → w'.heap[g]? = w.heap[g]?)) ∧ TypOk (fun b => w.heap.size ≤ b) w' x p' ∧ ∀ g, v'.ownBlock = some g → g < w.heap.size → v2.ownBlock = some g
theorem zAg (base cb : Nat) {v1 v2 v3 : Value} {r1 : List (TermD × Ptr3)} {r2 : List (TypD × Ptr2)} {r3 : List AliD} (x : TypD) (q : Ptr2) (w : World) (hT : TreeOwn w base cb 99 v1 v2 v3 r1 r2 r3) (hl : r2.length = 65536) :
 Calls Tryz.prog 82 #[.pointer (some ⟨cb, 0, none⟩), .agg (za4 x q).toArray] w fun e w' => e = .returned (.tuple #[.int .i64 0, .int .i64 6]) ∧ Below w.heap.size w w' := by
 obtain ⟨A, c, hv⟩ := za8 hT.o2;have c0 := hT.blk.cell 1;have hcb := hT.blk.lt;simp only [gA, gC, gB] at c0;rw [hv, hl] at c0;clear hv hT hl;unfold za4;go_enter Tryz.func82, Tryz.ntmps82
 go_wp2
 go_ret2
 exact ⟨rfl, (zJx _ _).alloc (zJw _) _⟩
set_option maxRecDepth 100000 in
theorem zr0 (base cb : Nat) {v1 v2 v3 : Value} {r1 : List (TermD × Ptr3)} {r2 : List (TypD × Ptr2)} {r3 : List AliD} (x : TypD) (q : Ptr2) (w : World) (hT : TreeOwn w base cb 99 v1 v2 v3 r1 r2 r3) (hl : r2.length < 65536) (hq : TypOk (Lt w.heap.size) w x q) (f1 : x.names.length ≤ 65536) (f2 : x.kids.length ≤ 65536) :
 Calls Tryz.prog 82 #[.pointer (some ⟨cb, 0, none⟩), .agg (za4 x q).toArray] w (zsl base cb v1 v2 v3 r1 r2 r3 x w) := by
 obtain ⟨i0, hi, hz0, hz1, hz2⟩ := info_parts zrd;obtain ⟨A, c, hv⟩ := za8 hT.o2;have hbs := hT.bas;have h65 : ((r2.length : Int) == 65536) = false := by rw [zKr]; omega
 obtain ⟨Wn, hWn⟩ : ∃ Wn, w.alloc (.cells (za4 x q).toArray 40) = Wn := ⟨_, rfl⟩;have hBn : Below w.heap.size w Wn := by rw [← hWn]; exact (zJx _ _).alloc (zJw _) _
 have hXn : Blk Wn w.heap.size 40 (za4 x q).toArray := by rw [← hWn]; exact Blk.new w 40 _
 have hTn := hT.below hBn;have c0 := hTn.blk.cell 1;have hcb := hTn.blk.lt;simp only [gA, gC, gB] at c0;rw [hv] at c0;unfold za4 at *;have HT := zJv hT;have HV := zJv hv;have HBN := zJv hBn;have HXN := zJv hXn;have HTN := zJv hTn;have HQ := zJv hq;clear hT hv hBn hXn hTn hq;go_enter Tryz.func82, Tryz.ntmps82
 go_wp2_with fail
 have hBn := HBN.out;have hXn := HXN.out;have hTn := HTN.out;clear hWn;have hzn := hXn.lt;have k32 := fun W (hW : TypOk (Lt W.heap.size) W x q) => zg6 x q W hW f1 f2;have g0 := hTn.blk.frozen 1;have p0 := hXn.cell 0;have p1 := hXn.cell 1;have p2 := hXn.cell 2;have p3 := hXn.cell 3;have p4 := hXn.cell 4;have p5 := hXn.cell 5;simp only [gA, gB, gC] at p0 p1 p2 p3 p4 p5;have hqn : TypOk (Lt Wn.heap.size) Wn x q := (HQ.out.keep (zaa hBn)).imp (zc6 hBn.size);unfold za4 at k32;have hczn : cb < Wn.heap.size := hTn.blk.lt;clear hTn hXn;have hne1 : v2.ownBlock ≠ some cb := za3 HT.out.o2 HT.out.blk (by decide);rw [HV.out] at hne1
 go_region_law (first
  | (refine zdy _ rfl _ _ 24 rfl base 40 i0 _ 6 88 Tryz.underlying24 hi hz0 hz1 hz2 rfl (by decide) (.slice A r2.length c) r2.length (zar r2) (by simp [Act.eval]) (HV.out ▸ ((HTN.out.below hb5).o2.alloc _)) (some ⟨w4.heap.size, 0, none⟩) 1 1 (za4 x p') (by simp [Act.eval]) rfl (zgx w4 (za4 x p') 40) (by intro u hu; simp [za4] at hu; rcases hu with rfl | rfl | rfl | rfl | rfl | rfl <;> rfl) (by unfold maxLen; omega) (by omega) (by simp only [zKh]; have := hb5.size; have := hBn.size; omega) ?_; intro v' w5 hown5 hgrow5 hloc5; have c5 := (zdm (off := 1) hgrow5 l4 hne1).trans c4; have g5 := (zdv (off := 1) hgrow5 l4 hne1).trans g4; obtain ⟨A5, d5, rfl⟩ := za8 hown5)
  | (rw [if_pos (by simp [Region.wanted])]; go_simp; go_at_call 113; refine (k32 _ (by exact hqn)).mono ?_; rintro e w4 ⟨p', rfl, hok, hb4⟩; simp only [za4]; have hb5 : Below Wn.heap.size Wn w4 := ((zJx _ Wn).drew).trans hb4; have l4 : cb < w4.heap.size := zJy hczn hb5.size; have c4 := (hb4.cell (p := ⟨cb, 1, none⟩) hczn).trans c0; have g4 := (hb4.frozen (p := ⟨cb, 1, none⟩) hczn).trans g0; go_simp))
 all_goals
  have hpush := TreeOwn.pushType HTN.out x p' hb5 hok ((zJx w4.heap.size w4).alloc (zJw _) (.cells (za4 x p').toArray 40)) (by simpa using hown5) (by rw [HV.out]; exact hgrow5) (by rw [HV.out]; exact hloc5);have HK : Hid (∀ g, g < w.heap.size → g ≠ cb → v2.ownBlock ≠ some g → ∀ v, (w5.setCell ⟨cb, 1, none⟩ v).heap[g]? = w.heap[g]?) := zJv (fun g h1 h2 h3 v => (zjl hb5 ((zJx w4.heap.size w4).alloc (zJw _) (.cells (za4 x p').toArray 40)) hgrow5 (zJy h1 hBn.size) h2 (by rw [← HV.out]; exact h3) v 1).trans (hBn.block g h1))
  have HL : Hid (∀ g, (Value.slice A5 (r2.length + 1) d5).ownBlock = some g → g < w.heap.size → v2.ownBlock = some g) := zJv (fun g e hg => by
   have hs1 := hb5.size;have hs2 := hBn.size;rcases hloc5 with h | h
   · rw [HV.out]; exact h.symm.trans e
   · rw [h] at e; injection e with e; simp only [zKh] at e; omega)
  have HN : Hid (∀ v, TypOk (fun b => w.heap.size ≤ b) (w5.setCell ⟨cb, 1, none⟩ v) x p') := zJv (fun v => (hok.keep (fun b o hq => zpm hb5 ((zJx w4.heap.size w4).alloc (zJw _) (.cells (za4 x p').toArray 40)) hgrow5 (fun g e => by rw [← HV.out] at e; exact zb8 HTN.out.o2 g e) hczn v 1 b o hq)).imp (fun b hq => zK4 hBn.size hq.1));have HP := zJv hpush.1;have HB := zJv hpush.2;clear hpush hok hown5 hgrow5 hloc5 hb4 hb5 c5 g5 c4 g4 k32 c0 g0 p0 p1 p2 p3 p4 p5;go_wp2
  go_ret2
  exact ⟨p', _, rfl, HP.out, fun B h1 h2 => (hBn.mono h2).trans (HB.out B h1 (zK4 h2 hBn.size)), fun g h1 h2 h3 => HK.out g h1 h2 h3 _, HN.out _, HL.out⟩
theorem ze5 (w : World) : Calls Tryz.prog 37 #[] w fun e w' => e = .returned (.pointer (some ⟨w.heap.size, 0, none⟩)) ∧ TreeOwn w' w.heap.size w.heap.size 99 (.slice none 0 0) (.slice none 0 0) (.slice none 0 0) [] [] [] ∧ Below w.heap.size w w' := by
 go_enter Tryz.func37, Tryz.ntmps37
 go_wp2
 go_ret;exact ⟨rfl, ⟨Blk.new w 99 _, .inr rfl, zJw _, tal _ _ _ _, tal _ _ _ _, tal _ _ _ _, fun _ h => by simp at h, fun _ h => by simp at h⟩, (zJx _ _).alloc (zJw _) _⟩
end Go.Proofs.YtidmeodmkcomlaaGreatDoor
