/- The smallest functions of the document's parser. Tokens and names that the document's parser takes, and types that it puts in. A name that isn't in a row yet. -/
import Derived.Test.YtidmeodmkcomlaaGreatDoorK19
set_option linter.unusedSimpArgs false
set_option linter.unusedVariables false
namespace Go.Proofs.YtidmeodmkcomlaaGreatDoor
open Go Go.Proofs Go.RowKit
set_option maxHeartbeats 2000000
theorem zQ5 {ts : List Tk} {k : Nat} (hk : k < ts.length) : (tkV ts)[k * 3]? = some (.int .i64 ((tkA ts k).1 : Int)) ∧ (tkV ts)[k * 3 + 1]? = some (.string (bs (tkA ts k).2.1)) ∧ (tkV ts)[k * 3 + 2]? = some (.int .i64 ((tkA ts k).2.2 : Int)) := by
 induction ts generalizing k with
 | nil => simp at hk
 | cons x r ih =>
  have e : tkV (x :: r) = [.int .i64 (x.1 : Int), .string ⟨x.2.1.toArray⟩, .int .i64 (x.2.2 : Int)] ++ tkV r := by simp [tkV]
  rw [e]
  cases k with
  | zero => exact ⟨rfl, rfl, rfl⟩
  | succ k =>
   have := ih (k := k) (by simpa using hk);rw [show (k + 1) * 3 = k * 3 + 3 by omega, show k * 3 + 3 + 1 = (k * 3 + 1) + 3 by omega, show k * 3 + 3 + 2 = (k * 3 + 2) + 3 by omega];rw [zKl (by simp), zKl (by simp), zKl (by simp)];simpa [tkA] using this
theorem zMd {B : DE} {w : World} {s : Dst} (h : DS B w s) : Calls Tryz.prog 54 #[B.ptr] w fun e w' => e = .returned (tokV (tkA B.ts s.k)) ∧ Below w.heap.size w w' := by
 have hk := h.kb;obtain ⟨t0, t1, t2⟩ := zQ5 hk;have f0 := h.tok _ _ t0;have f1 := h.tok _ _ t1;have f2 := h.tok _ _ t2;obtain ⟨v, r2, hB, _⟩ := h.ex;have c0 := hB.cell 0;have c1 := hB.cell 1;simp only [DE.cells, gA, gB, gC] at c0 c1;have hp := hB.lt;have hg : B.g < w.heap.size := zJy h.gb h.bw;have hl := h.lb;have hcap := h.cap;clear t0 t1 t2 hB h;generalize tkA B.ts s.k = t at f0 f1 f2 ⊢;go_enter Tryz.func54, Tryz.ntmps54
 go_wp2
 go_region
 go_wp2
 exact bodyPost_ret (v := tokV t) (by simp [results, Tryz.results54, go_sem]) rfl ⟨rfl, ((zJx _ _).alloc (zJw _) _).drew⟩
theorem zMr {B : DE} {w : World} {s : Dst} (h : DS B w s) : Calls Tryz.prog 52 #[B.ptr] w fun e w' => e = .returned (.bool s.bad) ∧ w' = w := by
 obtain ⟨v, r2, hB, _⟩ := h.ex;have c6 := hB.cell 6;simp only [DE.cells, gA, gB, gC] at c6;have e1 : ((s.c : Int) != 0) = s.bad := by rw [zJz]; simp [Dst.bad]
 have hp := hB.lt;clear hB h;go_enter Tryz.func52, Tryz.ntmps52
 go_wp2
 go_ret;exact ⟨rfl, rfl⟩
theorem zNo {B : DE} {w : World} {s : Dst} (h : DS B w s) : Calls Tryz.prog 57 #[B.ptr] w fun e w' => e = .returned (.tuple #[]) ∧ DAft B w (onS B.ts s) w' := by
 obtain ⟨v, r2, hB, _⟩ := h.ex;have c0 := hB.cell 0;have c1 := hB.cell 1;have g1 := hB.frozen 1;simp only [DE.cells, gA, gB, gC] at c0 c1;have hp := hB.lt;have hl := h.lb;have hk := h.kb;unfold onS;by_cases hlt : s.k + 1 < B.ts.length
 · rw [if_pos hlt]
   have a := h.set1 (s' := { s with k := s.k + 1 }) 1 (.int .i64 ((s.k : Int) + 1)) hlt h.ob rfl (fun v => by simp [DE.cells]);have A := zJv a;clear a h hB;have e1 : decide ((s.k : Int) < (B.ts.length : Int) - 1) = true := by simp; omega
   go_enter Tryz.func57, Tryz.ntmps57
   go_wp2
   go_region
   go_wp2
   go_end0
   refine ⟨rfl, ?_⟩;exact A.out.below (zJx _ _).drew
 · rw [if_neg hlt]
   have A := zJv (DAft.refl h);clear h hB;have e1 : decide ((s.k : Int) < (B.ts.length : Int) - 1) = false := by simp; omega
   go_enter Tryz.func57, Tryz.ntmps57
   go_wp2
   go_region
   go_wp2
   go_end0
   refine ⟨rfl, ?_⟩;exact A.out.below (zJx _ _).drew
theorem zMz {B : DE} {w : World} {s : Dst} (h : DS B w s) (e q : Nat) : Calls Tryz.prog 53 #[B.ptr, .int .i64 (e : Int), .int .i64 (q : Int)] w fun r w' => r = .returned (.int .i64 0) ∧ DAft B w (stopS e q s) w' := by
 obtain ⟨v, r2, hB, _⟩ := h.ex;have c6 := hB.cell 6;have c7 := hB.cell 7;have c8 := hB.cell 8;have g6 := hB.frozen 6;have g7 := hB.frozen 7;have g8 := hB.frozen 8;simp only [DE.cells, gA, gB, gC] at c6 c7 c8;have hp := hB.lt;unfold stopS
 cases hb : s.bad with
 | true =>
  rw [if_pos rfl];have e1 : ((s.c : Int) == 0) = false := by rw [zKr]; simp [Dst.bad] at hb; omega
  have A := zJv (DAft.refl h);clear h hB hb;go_enter Tryz.func53, Tryz.ntmps53
  go_wp2
  go_ret;exact ⟨rfl, A.out⟩
 | false =>
  rw [if_neg (by simp)];have e1 : ((s.c : Int) == 0) = true := by rw [beq_iff_eq]; simp [Dst.bad] at hb; omega
  have H := zJv h;clear h hB hb;go_enter Tryz.func53, Tryz.ntmps53
  go_wp2
  go_ret;refine ⟨rfl, H.out.moved (s' := { s with c := e, p := q }) H.out.kb H.out.ob rfl ((((zJx _ w).setCell H.out.pbb _).setCell H.out.pbb _).setCell H.out.pbb _) (fun v hb => by simpa [DE.cells] using ((hb.set_ 6 _).set_ 7 _).set_ 8 _) (fun b _ hb => ?_)⟩;rw [zKp _ _ _ _ hb, zKp _ _ _ _ hb, zKp _ _ _ _ hb]
theorem zNy {B : DE} {w : World} {s : Dst} (h : DS B w s) (x : List UInt8) : Calls Tryz.prog 56 #[B.ptr, .string ⟨x.toArray⟩] w fun e w' => e = .returned (.bool (seeS B.ts x s)) ∧ Below w.heap.size w w' := by
 have cN := zMd h;have cB := fun (W : World) (hW : Below w.heap.size w W) => zMr (h.below hW);unfold seeS za2;clear h;generalize tkA B.ts s.k = t at cN ⊢;have e7 : ((t.1 : Int) == 7) = (t.1 == 7) := by rw [zJz]; simp; omega
 have e8 : ((t.1 : Int) == 8) = (t.1 == 8) := by rw [zJz]; simp; omega
 have eT : ((bs t.2.1).toList == x) = (x == t.2.1) := by rw [zdk]; exact Bool.beq_comm ..
 rw [show ([x].any fun x => x == t.2.1) = (x == t.2.1) by simp];rcases hb : s.bad with _ | _
 · rw [hb] at cB
   rcases h7 : (t.1 == 7) with _ | _
   · rw [h7] at e7
     rcases h8 : (t.1 == 8) with _ | _
     · rw [h8] at e8
       go_enter Tryz.func56, Tryz.ntmps56
       go_wp2_with fail
       with_reducible refine cN.mono ?_
       rintro e w1 ⟨rfl, hb1⟩;go_wp2_with fail
       with_reducible refine (cB _ (hb1.alloc hb1.size _)).mono ?_
       rintro e w2 ⟨rfl, rfl⟩;go_wp2_with fail
       go_ret;exact ⟨rfl, hb1.alloc hb1.size _⟩
     · rw [h8] at e8
       go_enter Tryz.func56, Tryz.ntmps56
       go_wp2_with fail
       with_reducible refine cN.mono ?_
       rintro e w1 ⟨rfl, hb1⟩;go_wp2_with fail
       with_reducible refine (cB _ (hb1.alloc hb1.size _)).mono ?_
       rintro e w2 ⟨rfl, rfl⟩;go_wp2_with fail
       go_ret;exact ⟨rfl, hb1.alloc hb1.size _⟩
   · rw [h7] at e7
     go_enter Tryz.func56, Tryz.ntmps56
     go_wp2_with fail
     with_reducible refine cN.mono ?_
     rintro e w1 ⟨rfl, hb1⟩;go_wp2_with fail
     with_reducible refine (cB _ (hb1.alloc hb1.size _)).mono ?_
     rintro e w2 ⟨rfl, rfl⟩;go_wp2_with fail
     go_ret;exact ⟨rfl, hb1.alloc hb1.size _⟩
 · rw [hb] at cB
   go_enter Tryz.func56, Tryz.ntmps56
   go_wp2_with fail
   with_reducible refine cN.mono ?_
   rintro e w1 ⟨rfl, hb1⟩;go_wp2_with fail
   with_reducible refine (cB _ (hb1.alloc hb1.size _)).mono ?_
   rintro e w2 ⟨rfl, rfl⟩;go_wp2_with fail
   go_ret;exact ⟨rfl, hb1.alloc hb1.size _⟩
theorem zNs {B : DE} {w : World} {s : Dst} (h : DS B w s) (x : List UInt8) : Calls Tryz.prog 93 #[B.ptr, .string ⟨x.toArray⟩] w fun e w' => e = .returned (.bool (seeS B.ts x s)) ∧ DAft B w (if seeS B.ts x s = true then onS B.ts s else s) w' := by
 have cS := zNy h x;have cO := fun (W : World) (hW : Below w.heap.size w W) => zNo (h.below hW);have H := zJv h;clear h;generalize seeS B.ts x s = b at cS ⊢
 cases b with
 | true =>
  rw [if_pos rfl];go_enter Tryz.func93, Tryz.ntmps93
  go_wp2_with fail
  with_reducible refine cS.mono ?_
  rintro e w1 ⟨rfl, hb1⟩;go_wp2_with fail
  with_reducible refine (cO w1 hb1).mono ?_
  rintro e w2 ⟨rfl, a2⟩;have A := zJv ((H.out.aft hb1).trans a2);clear a2 hb1;go_wp2_with fail
  go_ret;exact ⟨rfl, A.out⟩
 | false =>
  rw [if_neg (by simp)];go_enter Tryz.func93, Tryz.ntmps93
  go_wp2_with fail
  with_reducible refine cS.mono ?_
  rintro e w1 ⟨rfl, hb1⟩;have A := zJv (H.out.aft hb1);clear hb1;go_wp2_with fail
  go_ret;exact ⟨rfl, A.out⟩
theorem zNr {B : DE} {w : World} {s : Dst} (h : DS B w s) (x : List UInt8) : Calls Tryz.prog 94 #[B.ptr, .string ⟨x.toArray⟩] w fun e w' => e = .returned (.tuple #[]) ∧ DAft B w (mustS B.ts x s) w' := by
 have cT := zNs h x;unfold mustS;clear h;generalize seeS B.ts x s = b at cT ⊢
 cases b with
 | true =>
  rw [if_pos rfl] at cT ⊢;go_enter Tryz.func94, Tryz.ntmps94
  go_wp2_with fail
  with_reducible refine cT.mono ?_
  rintro e w1 ⟨rfl, a1⟩;have A := zJv a1;clear a1;go_wp2_with fail
  go_end0
  exact ⟨rfl, A.out⟩
 | false =>
  rw [if_neg (by simp)] at cT ⊢;have hfd := tokF2;go_enter Tryz.func94, Tryz.ntmps94
  go_wp2_with fail
  with_reducible refine cT.mono ?_
  rintro e w1 ⟨rfl, a1⟩;have cN := zMd a1.ps;have cX : ∀ (W : World), Below w1.heap.size w1 W → Calls Tryz.prog 53 #[B.ptr, .int .i64 4, .int .i64 ((tkA B.ts s.k).2.2 : Int)] W fun r w' => r = .returned (.int .i64 0) ∧ DAft B W (stopS 4 (posS B.ts s) s) w' := fun W hW => zMz (a1.ps.below hW) 4 (posS B.ts s);have A := zJv a1;clear a1;go_wp2_with fail
  with_reducible refine cN.mono ?_
  rintro e w2 ⟨rfl, hb2⟩;go_wp2_with fail
  with_reducible refine (cX w2 hb2).mono ?_
  rintro e w3 ⟨rfl, a3⟩;have A3 := zJv ((A.out.below hb2).trans a3);clear a3 hb2 cN cX;go_wp2_with fail
  go_end0
  exact ⟨rfl, A3.out⟩
section
variable {B : DE} {G : Nat → Prop} {w w1 : World} {s : Dst}
theorem DS.tokX (h : DS B w s) (hb : Below w.heap.size w w1) (t : Tk) : ∃ G : Nat → Prop, G w1.heap.size ∧ DOwn B G w s (w1.alloc (.cells (tokL t).toArray 77)) ∧ Blk (w1.alloc (.cells (tokL t).toArray 77)) w1.heap.size 77 (tokL t).toArray := by
 have hX := Blk.new w1 77 (tokL t).toArray;obtain ⟨G, m, o⟩ := (h.aft hb).own1 h.bw ((zJx w1.heap.size w1).alloc (zJw _) (.cells (tokL t).toArray 77)) w1.heap.size (zJw _) hX.lt;exact ⟨G, m, o, hX⟩
theorem DOwn.cBad (o : DOwn B G w s w1) : Calls Tryz.prog 52 #[B.ptr] w1 fun e w' => e = .returned (.bool s.bad) ∧ w' = w1 := zMr (B := B.with G) o.ps
theorem DOwn.cNow (o : DOwn B G w s w1) : Calls Tryz.prog 54 #[B.ptr] w1 fun e w' => e = .returned (tokV (tkA B.ts s.k)) ∧ Below w1.heap.size w1 w' := zMd (B := B.with G) o.ps
theorem DOwn.cOn (o : DOwn B G w s w1) : Calls Tryz.prog 57 #[B.ptr] w1 fun e w' => e = .returned (.tuple #[]) ∧ DAft (B.with G) w1 (onS B.ts s) w' := zNo (B := B.with G) o.ps
theorem DOwn.cStop (o : DOwn B G w s w1) (e q : Nat) {E : Int} (hE : E = (e : Int)) : Calls Tryz.prog 53 #[B.ptr, .int .i64 E, .int .i64 (q : Int)] w1 fun r w' => r = .returned (.int .i64 0) ∧ DAft (B.with G) w1 (stopS e q s) w' := by subst hE; exact zMz (B := B.with G) o.ps e q
theorem DOwn.cTake (o : DOwn B G w s w1) (x : List UInt8) : Calls Tryz.prog 93 #[B.ptr, .string ⟨x.toArray⟩] w1 fun e w' => e = .returned (.bool (seeS B.ts x s)) ∧ DAft (B.with G) w1 (if seeS B.ts x s = true then onS B.ts s else s) w' := zNs (B := B.with G) o.ps x
theorem DOwn.cMust (o : DOwn B G w s w1) (x : List UInt8) : Calls Tryz.prog 94 #[B.ptr, .string ⟨x.toArray⟩] w1 fun e w' => e = .returned (.tuple #[]) ∧ DAft (B.with G) w1 (mustS B.ts x s) w' := zNr (B := B.with G) o.ps x
end
theorem zOg {B : DE} {w : World} {s : Dst} (h : DS B w s) (kind : Nat) : Calls Tryz.prog 123 #[B.ptr, .int .i64 (kind : Int)] w fun e w' => e = .returned (.string (bs (textS B.ts kind s).1)) ∧ DAft B w (textS B.ts kind s).2 w' := by
 have cN := zMd h;have H := zJv h;have hpos : posS B.ts s = (tkA B.ts s.k).2.2 := rfl;unfold textS;rw [hpos];clear hpos h;generalize tkA B.ts s.k = t at cN ⊢;have ek : ((t.1 : Int) != (kind : Int)) = (t.1 != kind) := by rw [zJz]; simp; omega
 generalize (t.1 != kind) = d at ek ⊢;generalize hbe : s.bad = b;rcases b with _ | _
 · rcases d with _ | _
   · go_enter Tryz.func123, Tryz.ntmps123
     go_wp2_with fail
     with_reducible refine cN.mono ?_
     rintro e w1 ⟨rfl, hb1⟩;obtain ⟨G, gX, o, hX⟩ := H.out.tokX hb1 t;obtain ⟨W2, hW2⟩ : ∃ W2, w1.alloc (.cells (tokL t).toArray 77) = W2 := ⟨_, rfl⟩;rw [hW2] at o hX;have cB := o.cBad;have cO := o.cOn;rw [hbe] at cB;have O := zJv o;have HX := zJv hX;have x0 := hX.cell 0;simp only [gA, gB] at x0;have l0 := hX.lt;clear o hX hb1;go_wp2_with fail
     with_reducible refine cB.mono ?_
     rintro e w3 ⟨rfl, rfl⟩;go_wp2_with fail
     with_reducible refine cO.mono ?_
     rintro e w4 ⟨rfl, a4⟩;have hX4 := (O.out.same a4 gX).trans HX.out;have o4 := (O.out.call a4).out;have x1 := Blk.cell hX4 1;simp only [gA, gB, gC] at x1;have A := zJv o4;clear a4 o4 hX4 x0;go_wp2_with fail
     go_ret;exact ⟨rfl, A.out⟩
   · go_enter Tryz.func123, Tryz.ntmps123
     go_wp2_with fail
     with_reducible refine cN.mono ?_
     rintro e w1 ⟨rfl, hb1⟩;obtain ⟨G, gX, o, hX⟩ := H.out.tokX hb1 t;obtain ⟨W2, hW2⟩ : ∃ W2, w1.alloc (.cells (tokL t).toArray 77) = W2 := ⟨_, rfl⟩;rw [hW2] at o hX;have cB := o.cBad;have cS := o.cStop 4 t.2.2 (E := 4) rfl;rw [hbe] at cB;have O := zJv o;have x0 := hX.cell 0;have x2 := hX.cell 2;simp only [gA, gB, gC] at x0 x2;have l0 := hX.lt;clear o hX hb1;go_wp2_with fail
     with_reducible refine cB.mono ?_
     rintro e w3 ⟨rfl, rfl⟩;go_wp2_with fail
     with_reducible refine cS.mono ?_
     rintro e w4 ⟨rfl, a4⟩;have A := zJv (O.out.call a4).out;clear a4 x0 x2;go_wp2_with fail
     go_ret;exact ⟨rfl, A.out⟩
 · go_enter Tryz.func123, Tryz.ntmps123
   go_wp2_with fail
   with_reducible refine cN.mono ?_
   rintro e w1 ⟨rfl, hb1⟩;obtain ⟨G, gX, o, hX⟩ := H.out.tokX hb1 t;obtain ⟨W2, hW2⟩ : ∃ W2, w1.alloc (.cells (tokL t).toArray 77) = W2 := ⟨_, rfl⟩;rw [hW2] at o hX;have cB := o.cBad;have cS := o.cStop 4 t.2.2 (E := 4) rfl;rw [hbe] at cB;have O := zJv o;have x2 := hX.cell 2;simp only [gA, gB, gC] at x2;have l0 := hX.lt;clear o hX hb1;go_wp2_with fail
   with_reducible refine cB.mono ?_
   rintro e w3 ⟨rfl, rfl⟩;go_wp2_with fail
   with_reducible refine cS.mono ?_
   rintro e w4 ⟨rfl, a4⟩;have A := zJv (O.out.call a4).out;clear a4 x2;go_wp2_with fail
   go_ret;exact ⟨rfl, A.out⟩
set_option maxHeartbeats 1000000
def frS (q : Nat) (s : Dst) (r : List UInt8) (l : List (List UInt8)) : Dst := if (!s.bad && l.contains r) = true then stopS 8 q s else s
theorem zP3 (q : Nat) (s : Dst) (r x : List UInt8) (l : List (List UInt8)) : frS q s r (l ++ [x]) = if (frS q s r l).bad = true then frS q s r l else if (x == r) = true then stopS 8 q (frS q s r l) else frS q s r l := by
 have e : (l ++ [x]).contains r = (l.contains r || x == r) := by
  rw [List.contains_eq_any_beq, List.contains_eq_any_beq, List.any_append];simp [Bool.beq_comm]
 unfold frS;rw [e]
 cases hb : s.bad with
 | true => simp [hb]
 | false =>
  cases hc : l.contains r with
  | true =>
   have : (stopS 8 q s).bad = true := by unfold stopS; rw [hb]; rfl
   simp [this]
  | false =>
   cases hx : (x == r) <;> simp [hb]
theorem zP4 {ts : List Tk} {ns : List (List UInt8)} {kind : Nat} {s : Dst} : zM0 ts ns kind s = ((textS ts kind s).1, frS (posS ts s) (textS ts kind s).2 (textS ts kind s).1 ns) := rfl
theorem SlAt.kept_d {B : DE} {w w' : World} {A : Option Addr} {n : Nat} {xs : List Value} (h : SlAt (fun b => b < w.heap.size ∧ ¬ DMu B w b) w A n xs) (k : DKt B w w') : SlAt (fun _ => True) w' A n xs :=
 (h.keep (fun b o q => zKb (a := ⟨b, o, none⟩) (k.2 b q.1 q.2).1)).imp (fun _ _ => trivial)
theorem zOa {B : DE} {w : World} {s : Dst} (h : DS B w s) (kind : Nat) (ns : List (List UInt8)) (A : Option Addr) (n cap : Nat) (hn : ns.length = n) (h63 : n ≤ 1000000) (hN : SlAt (fun b => b < w.heap.size ∧ ¬ DMu B w b) w A n ((bss ns).map .string)) :
 Calls Tryz.prog 95 #[B.ptr, .int .i64 (kind : Int), .slice A n cap] w fun e w' => e = .returned (.string (bs (zM0 B.ts ns kind s).1)) ∧ DAft B w (zM0 B.ts ns kind s).2 w' := by
 rw [zP4];have cN := zMd h;have H := zJv h;have hpos : posS B.ts s = (tkA B.ts s.k).2.2 := rfl;have hT : ∀ (G : Nat → Prop) (W : World), DS (B.with G) W s → Calls Tryz.prog 123 #[B.ptr, .int .i64 (kind : Int)] W fun e w' => e = .returned (.string (bs (textS B.ts kind s).1)) ∧ DAft (B.with G) W (textS B.ts kind s).2 w' := fun G W h => zOg (B := B.with G) h kind;rw [hpos];clear hpos h;generalize tkA B.ts s.k = t at cN ⊢;obtain ⟨r, hr⟩ : ∃ r, (textS B.ts kind s).1 = r := ⟨_, rfl⟩;obtain ⟨s1, hs1⟩ : ∃ s1, (textS B.ts kind s).2 = s1 := ⟨_, rfl⟩;rw [hr, hs1] at hT;rw [hr, hs1];dsimp only;clear hr hs1;have HN := zJv hN;have HT := zJv hT;have HL := zJv hn;clear hN hT hn;go_enter Tryz.func95, Tryz.ntmps95
 go_wp2_with fail
 with_reducible refine cN.mono ?_
 rintro e w1 ⟨rfl, hb1⟩;obtain ⟨G, gX, o, hX⟩ := H.out.tokX hb1 t;obtain ⟨W2, hW2⟩ : ∃ W2, w1.alloc (.cells (tokL t).toArray 77) = W2 := ⟨_, rfl⟩;rw [hW2] at o hX;have cT := HT.out G W2 o.ps;have O := zJv o;have HX := zJv hX;clear o hX hb1;go_wp2_with fail
 with_reducible refine cT.mono ?_
 rintro e w3 ⟨rfl, a3⟩;obtain ⟨X, hXe⟩ : ∃ X, w1.heap.size = X := ⟨_, rfl⟩;rw [hXe] at gX HX ⊢;have o3 := zJv (O.out.call a3);have X3 : Hid (Blk w3 X 77 (tokL t).toArray) := zJv ((O.out.same a3 gX).trans HX.out);clear a3 cT cN hW2;go_wp2
 go_loopw [18] (fun i wr => ∃ k : Nat, k ≤ n ∧ i = .int .i64 k ∧ Hid (DOwn B G w (frS t.2.2 s1 r (ns.take k)) wr) ∧ Hid (Blk wr X 77 (tokL t).toArray)) (fun i _ => n - (intOf i).toNat)
 case atStart => exact ⟨0, zK8 _, rfl, zJv (by have := o3.out; unfold frS; simpa using this), X3⟩
 case round =>
  obtain ⟨k, hk, rfl, Or, Xr⟩ := hrel;by_cases hlt : k < n
  · have hlt' : k < ns.length := by rw [HL.out]; exact hlt
    obtain ⟨b, off, rfl, _, hc⟩ := (HN.out.kept_d Or.out.kt).2 (by omega);have hx := hc k (.string (bs ns[k])) (by simp [bss, zK1 hlt']);have cB := Or.out.cBad;have hsn := zP3 t.2.2 s1 r ns[k] (ns.take k);rw [← zK9 hlt'] at hsn;generalize ns[k] = x at hx hsn;obtain ⟨sk, hsk⟩ : ∃ sk, frS t.2.2 s1 r (ns.take k) = sk := ⟨_, rfl⟩;rw [hsk] at hsn cB Or;clear hc hsk;generalize hbe : sk.bad = d at cB hsn;rcases d with _ | _
    · generalize hxe : (x == r) = d2 at hsn
      have eT : ((bs x).toList == (bs r).toList) = d2 := by rw [zdk, zdk]; exact hxe
      rcases d2 with _ | _
      · have HS := zJv hsn
        clear hsn;go_wp2_with fail
        with_reducible refine cB.mono ?_
        rintro e w5 ⟨rfl, rfl⟩;go_wp2_with fail
        go_roundw
        case rel => exact ⟨k + 1, by omega, rfl, by rw [HS.out]; simpa using Or, Xr⟩
        case measure => simp [intOf]; omega
      · have HS := zJv hsn
        have cS := Or.out.cStop 8 t.2.2 (E := 8) rfl;have x2 := Xr.out.cell 2;simp only [gA, gB, gC] at x2;have l0 := Xr.out.lt;clear hsn;go_wp2_with fail
        with_reducible refine cB.mono ?_
        rintro e w5 ⟨rfl, rfl⟩;go_wp2_with fail
        with_reducible refine cS.mono ?_
        rintro e w6 ⟨rfl, a6⟩;have O6 := zJv (Or.out.call a6);have X6 : Hid (Blk w6 X 77 (tokL t).toArray) := zJv ((Or.out.same a6 gX).trans Xr.out);clear a6 cS cB x2;go_wp2_with fail
        go_roundw
        case rel => exact ⟨k + 1, by omega, rfl, by rw [HS.out]; simpa using O6, X6⟩
        case measure => simp [intOf]; omega
    · have HS := zJv hsn
      clear hsn;go_wp2_with fail
      with_reducible refine cB.mono ?_
      rintro e w5 ⟨rfl, rfl⟩;go_wp2_with fail
      go_roundw
      case rel => exact ⟨k + 1, by omega, rfl, by rw [HS.out]; simpa using Or, Xr⟩
      case measure => simp [intOf]; omega
  · obtain rfl : k = n := by omega
    have A := zJv Or.out.out;go_wp2_with fail
    go_ret;refine ⟨rfl, ?_⟩;have := A.out;rwa [List.take_of_length_le (by rw [HL.out]; exact zJw _)] at this
set_option maxHeartbeats 2000000
theorem zQ1 {B : DE} {W0 w5 : World} {s : Dst} {A A5 : Option Addr} {c d5 : Nat} {r2 : List (TypD × Ptr2)} {x : TypD} {p : Ptr2} (h : DS B W0 s) (hB : Blk W0 B.pb 61 (B.cells s (.slice A r2.length c))) (hD : DT B W0 (.slice A r2.length c) r2) (e2 : r2.map (·.1) = s.t2) (hn : s.t2.length < 65536)
 (hx : TypOk (fun b => B.base ≤ b ∧ b < W0.heap.size ∧ ¬ DMu B W0 b ∧ ¬ B.L b) W0 x p) (hown : w5.ownsRow B.base 40 6 (.slice A5 (r2.length + 1) d5) (r2.length + 1) (zar r2 ++ za4 x p)) (hg : (W0.alloc (.cells (za4 x p).toArray 40)).grownBy w5 (Value.slice A r2.length c).ownBlock)
 (hl : (Value.slice A5 (r2.length + 1) d5).ownBlock = (Value.slice A r2.length c).ownBlock ∨ (Value.slice A5 (r2.length + 1) d5).ownBlock = some (W0.heap.size + 1)) : DAft B W0 { s with t2 := s.t2 ++ [x] } (w5.setCell ⟨B.pb, 4, none⟩ (.slice A5 (r2.length + 1) d5)) := by
 have hne := hD.ne hB;have b5 := (hB.alloc (.cells (za4 x p).toArray 40)).grown hg (fun e => hne e.symm);have hset : w5.grownBy (w5.setCell ⟨B.pb, 4, none⟩ (.slice A5 (r2.length + 1) d5)) (some B.pb) := za9 (zaf w5 (some B.pb)) (.inl rfl) _;have hpl := hB.lt
 have hbs : Below B.base W0 w5 := ⟨hg.os, hg.tape, hg.output, zK4 (by simp) hg.size, fun b hb => by
  have hlt := zJy hb h.bw;refine (hg.block b (by rw [zKh]; omega) (fun e => ?_)).trans (Below.heap_alloc W0 _ b hlt);rcases zae hD.o2 with k | ⟨g, k, h1, _⟩
  · rw [k] at e; cases e
  · rw [k] at e; injection e with e; omega⟩
 refine h.pushY hB hD e2 hn (by simpa [DE.cells] using b5.set_ 4 (.slice A5 (r2.length + 1) d5)) (by have := hown.kept hset (.inr (za3 hown b5 (by decide))); simpa [zar] using this) (hbs.setCell h.pbb _) (fun g h1 h2 h3 => ?_)
  (hx.imp (fun b q => ⟨q.1, q.2.1, fun e => q.2.2.1 (.inl e), fun e => q.2.2.1 (.inr ⟨_, hB.cell 4, e⟩), q.2.2.2⟩)) (fun g e hlt => ?_)
 · rw [zKp _ _ _ _ h2]
   exact (hg.block g (by rw [zKh]; omega) (fun e => h3 e.symm)).trans (Below.heap_alloc W0 _ g h1)
 · rcases hl with k | k
   · exact k.symm.trans e
   · rw [k] at e; injection e with e; omega
theorem zNe {B : DE} {w : World} {s : Dst} (h : DS B w s) (x : TypD) (p : Ptr2) (hx : TypOk (fun b => B.base ≤ b ∧ b < w.heap.size ∧ ¬ DMu B w b ∧ ¬ B.L b) w x p) :
 Calls Tryz.prog 58 #[B.ptr, .agg (za4 x p).toArray] w fun e w' => e = .returned (.int .i64 ((typS x s).1 : Nat)) ∧ DAft B w (typS x s).2 w' := by
 obtain ⟨W0, hW0⟩ : ∃ W0, w.alloc (.cells (za4 x p).toArray 40) = W0 := ⟨_, rfl⟩;have hB0 : Below w.heap.size w W0 := by rw [← hW0]; exact (zJx _ _).alloc (zJw _) _
 have hX0 : Blk W0 w.heap.size 40 (za4 x p).toArray := by rw [← hW0]; exact Blk.new w 40 _
 have p0 := h.below hB0;have cB := zMr p0;have cS : Calls Tryz.prog 53 #[B.ptr, .int .i64 6, .int .i64 0] W0 fun r w' => r = .returned (.int .i64 0) ∧ DAft B W0 (stopS 6 0 s) w' := zMz p0 6 0;have A0 := zJv (h.aft hB0);obtain ⟨v, r2, hb, hD, e2⟩ := p0.ex;obtain ⟨A, c, rfl⟩ := za8 hD.o2;have hl : r2.length = s.t2.length := by rw [← e2]; simp
 have c4 := hb.cell 4;have g4 := hb.frozen 4;simp only [DE.cells, gA, gB, gC] at c4;have d0 := hX0.cell 0;have d1 := hX0.cell 1;have d2 := hX0.cell 2;have d3 := hX0.cell 3;have d4 := hX0.cell 4;have d5 := hX0.cell 5;simp only [za4, gA, gB, gC] at d0 d1 d2 d3 d4 d5;have hx0 := hX0.lt;have hpl := hb.lt;have hn2 := p0.n2;have P0 := zJv p0;have HB := zJv hb;have HD := zJv hD;have HX := zJv hx;have E2 := zJv e2;have HL := zJv hl;have B0 := zJv hB0;have hbw := h.bw;have hplw := h.pl;have hne := hD.ne hb;unfold za4 at hW0 ⊢;clear p0 hb hD hx e2 hB0 hX0 h;unfold typS;generalize hbe : s.bad = b at cB ⊢;rcases b with _ | _
 · rw [if_neg (by simp)]
   by_cases hf : s.t2.length = 65536
   · rw [if_pos hf]
     have e1 : ((r2.length : Int) == 65536) = true := by rw [beq_iff_eq, hl]; omega
     clear hl hn2;go_enter Tryz.func58, Tryz.ntmps58
     go_wp2_with fail
     with_reducible refine cB.mono ?_
     rintro e w1 ⟨rfl, hw1⟩;rw [hw1];clear cB hw1;go_wp2_with fail
     with_reducible refine cS.mono ?_
     rintro e w2 ⟨rfl, a2⟩;have A := zJv (A0.out.trans a2);clear a2 cS;go_wp2_with fail
     go_ret;exact ⟨rfl, A.out⟩
   · rw [if_neg hf]
     have e1 : ((r2.length : Int) == 65536) = false := by rw [zKr, hl]; omega
     obtain ⟨i0, hi, hz0, hz1, hz2⟩ := info_parts zrd;have hlen : r2.length < 65536 := by omega
     clear hl hf hn2;go_enter Tryz.func58, Tryz.ntmps58
     go_wp2_with fail
     with_reducible refine cB.mono ?_
     rintro e w1 ⟨rfl, hw1⟩;rw [hw1];clear cB cS hw1;have hsz0 : B.base ≤ W0.heap.size := P0.out.bw;go_wp2
     go_region_law (refine zdy _ rfl _ _ 24 rfl B.base 40 i0 _ 6 88 Tryz.underlying24 hi hz0 hz1 hz2 rfl (by decide) (.slice A r2.length c) r2.length (zar r2) (by simp [Act.eval]) (by first | exact (HD.out.o2.alloc (.cells (za4 x p).toArray 40) :) | exact HD.out.o2.alloc _) (some ⟨W0.heap.size, 0, none⟩) 1 1 (za4 x p) (by simp [Act.eval]) rfl (by exact (zgx W0 (za4 x p) 40 :)) (by intro u hu; simp [za4] at hu; rcases hu with rfl | rfl | rfl | rfl | rfl | rfl <;> rfl) (by unfold maxLen; omega) (by omega) (by show B.base ≤ (W0.alloc _).heap.size; rw [zKh]; omega) ?_; intro v' w5 hown5 hgrow hloc5; have hgrow5 : (W0.alloc (.cells (za4 x p).toArray 40)).grownBy w5 (Value.slice A r2.length c).ownBlock := ⟨hgrow.os, hgrow.tape, hgrow.output, hgrow.size, hgrow.block⟩; clear hgrow; have c5 := (zdm (off := 4) hgrow5 hpl hne).trans c4; have g5 := (zdv (off := 4) hgrow5 hpl hne).trans g4; obtain ⟨A5, d5, rfl⟩ := za8 hown5)
     all_goals
      have A := A0.out.trans (zQ1 P0.out HB.out HD.out E2.out (by rw [← HL.out]; exact hlen) ((TypOk.keep HX.out (fun b o q => B0.out.cell (p := ⟨b, o, none⟩) q.2.1)).imp (fun b q => ⟨q.1, zJy q.2.1 B0.out.size, fun k => q.2.2.1 ((zN7 B0.out hplw b).1 k), q.2.2.2⟩)) hown5 hgrow5 (by simpa using hloc5));have A := zJv A;clear hown5 hgrow5 hloc5;go_wp2
      go_ret;refine ⟨?_, A.out⟩;rw [HL.out];simp
 · rw [if_pos rfl]
   clear hl hn2;go_enter Tryz.func58, Tryz.ntmps58
   go_wp2_with fail
   with_reducible refine cB.mono ?_
   rintro e w1 ⟨rfl, hw1⟩;rw [hw1];clear cB cS hw1;go_wp2_with fail
   go_ret;exact ⟨rfl, A0.out⟩
end Go.Proofs.YtidmeodmkcomlaaGreatDoor
