/- A simple type, as the document's parser reads it. -/
import Derived.Test.YtidmeodmkcomlaaGreatDoorK21
set_option linter.unusedSimpArgs false
set_option linter.unusedVariables false
namespace Go.Proofs.YtidmeodmkcomlaaGreatDoor
open Go Go.Proofs Go.RowKit
set_option maxHeartbeats 4000000
def DRule (ts : List Tk) (f : FuncId) (P : Dst → Option (Nat × Dst)) : Prop :=
 ∀ (B : DE) (w : World) (s : Dst) (i : Nat) (s' : Dst), B.ts = ts → DS B w s → P s = some (i, s') → Calls Tryz.prog f #[B.ptr] w fun e w' => e = .returned (.int .i64 (i : Nat)) ∧ DAft B w s' w'
section
variable {B : DE} {G : Nat → Prop} {w w1 : World} {s : Dst}
theorem DOwn.cTakeT (o : DOwn B G w s w1) {x : List UInt8} (hj : seeS B.ts x s = true) : Calls Tryz.prog 93 #[B.ptr, .string ⟨x.toArray⟩] w1 fun e w' => e = .returned (.bool true) ∧ DAft (B.with G) w1 (onS B.ts s) w' := by
 have := o.cTake x;rw [hj, if_pos rfl] at this;exact this
theorem DOwn.cTakeF (o : DOwn B G w s w1) {x : List UInt8} (hj : ¬ seeS B.ts x s = true) : Calls Tryz.prog 93 #[B.ptr, .string ⟨x.toArray⟩] w1 fun e w' => e = .returned (.bool false) ∧ DAft (B.with G) w1 s w' := by
 have := o.cTake x;rw [if_neg hj, show seeS B.ts x s = false by simpa using hj] at this;exact this
def kAtD (B : DE) (w : World) : Nat := match w.cell? ⟨B.pb, 1, none⟩ with
 | some v => (intOf v).toNat
 | none => 0
theorem DOwn.kAt (o : DOwn B G w s w1) : kAtD B w1 = s.k := by
 obtain ⟨v, r2, hB, _⟩ := o.ps.ex;have c1 := Blk.cell hB 1;simp only [DE.cells, gA, gB, gC] at c1;have c1 : w1.cell? ⟨B.pb, 1, none⟩ = some (.int .i64 (s.k : Nat)) := c1;unfold kAtD;rw [c1];simp [intOf]
theorem zO8 {ns : List (List UInt8)} (o : DOwn B G w s w1) {A : Option Addr} {c n : Nat} (hr : w1.ownsRow 0 9 1 (.slice A n c) n ((bss ns).map .string)) (hg : ∀ g, (Value.slice A n c).ownBlock = some g → G g) (kind : Nat) {E : Int} (hE : E = (kind : Int)) (h63 : n ≤ 1000000) :
 Calls Tryz.prog 95 #[B.ptr, .int .i64 E, .slice A n c] w1 fun e w' => e = .returned (.string (bs (zM0 B.ts ns kind s).1)) ∧ DAft (B.with G) w1 (zM0 B.ts ns kind s).2 w' := by
 subst hE;obtain ⟨A', c', e, _, hs⟩ := SlAt.of_own hr;injection e with e1 _ e2
 subst e1; subst e2;have hn : ns.length = n := by have := hs.1; simpa [bss] using this
 exact zOa (B := B.with G) o.ps kind ns A n c hn h63 (hs.owned.imp (fun b e => ⟨o.lt (hg b e), o.nm b (hg b e)⟩))
theorem DAft.cTyp0 (a : DAft B w s w1) (kind pos : Int) (name : ByteArray) : Calls Tryz.prog 58 #[B.ptr, .agg #[.int .i64 kind, .int .i64 pos, .string name, .slice none 0 0, .slice none 0 0, .bool false]] w1 fun e w' => e = .returned (.int .i64 ((typS ⟨kind, pos, name, [], [], false⟩ s).1 : Nat)) ∧ DAft B w1 (typS ⟨kind, pos, name, [], [], false⟩ s).2 w' :=
 zNe a.ps ⟨kind, pos, name, [], [], false⟩ ⟨none, 0, none, 0⟩ ⟨SlAt.nil, SlAt.nil⟩
end
set_option maxRecDepth 100000 in
theorem zNb {B : DE} {w : World} {s : Dst} (h : DS B w s) (hbe : s.bad = true) : Calls Tryz.prog 55 #[B.ptr] w fun e w' => e = .returned (.int .i64 ((0 : Nat) : Int)) ∧ DAft B w s w' := by
 have cN := zMd h;have cB := fun (W : World) (hW : Below w.heap.size w W) => zMr (h.below hW);rw [hbe] at cB;have H := zJv h;clear h;go_enter Tryz.func55, Tryz.ntmps55
 go_wp2_with fail
 with_reducible refine cN.mono ?_
 rintro e w1 ⟨rfl, hb1⟩;have hb2 := hb1.alloc hb1.size (.cells (tokL (tkA B.ts s.k)).toArray 77);have A := zJv (H.out.aft hb2);have cB := cB _ hb2;clear hb1 hb2;go_wp2_with fail
 with_reducible refine cB.mono ?_
 rintro e w2 ⟨rfl, hw⟩;rw [hw];clear hw cB;go_wp2_with fail
 go_ret;exact ⟨rfl, A.out⟩
theorem OwnY.openD {B : DE} {G : Nat → Prop} {w w1 : World} {s : Dst} {X : Nat} {x : TypD} {v3 v4 : Value} (o : OwnY w1 G X x v3 v4) (h : DOwn B G w s w1) (hbw : B.base ≤ w.heap.size) : DOwn B G w s (w1.setCell ⟨X, 5, none⟩ (.bool true)) ∧ OwnY (w1.setCell ⟨X, 5, none⟩ (.bool true)) G X { x with opn := true } v3 v4 := by
 have hset : w1.grownBy (w1.setCell ⟨X, 5, none⟩ (.bool true)) (some X) := za9 (zaf w1 (some X)) (.inl rfl) _;exact ⟨h.set o.gx 5 _ hbw, ⟨by have := o.blk.set_ 5 (.bool true); simpa using this, o.gx, o.r3.kept hset (.inr (za3 o.r3 o.blk (by decide))), o.r4.kept hset (.inr (za3 o.r4 o.blk (by decide))), o.g3, o.g4⟩⟩
theorem OwnY.cTyp {B : DE} {G : Nat → Prop} {w w1 : World} {s : Dst} {N : Nat} {x : TypD} {v3 v4 : Value} (o : OwnY w1 G N x v3 v4) (q : DOwn B G w s w1) (hbw : B.base ≤ w.heap.size) (hL : ∀ b, B.L b → b < w.heap.size) :
 Calls Tryz.prog 58 #[B.ptr, .agg #[iv x.kind, iv x.pos, .string x.name, v3, v4, .bool x.opn]] w1 fun e w' => e = .returned (.int .i64 ((typS x s).1 : Nat)) ∧ DAft B w1 (typS x s).2 w' := by
 obtain ⟨p, hp, hok⟩ := o.okD q hbw hL;rw [hp];exact zNe q.out.ps x p hok
theorem zM7 {B : DE} {w w' : World} {x : TypD} {s s' : Dst} {i : Nat} (h : some (typS x s) = some (i, s')) (a : DAft B w (typS x s).2 w') : Ending.returned (.int .i64 ((typS x s).1 : Nat)) = .returned (.int .i64 (i : Nat)) ∧ DAft B w s' w' := by
 injection h with h
 rw [h] at a ⊢;exact ⟨rfl, a⟩
set_option maxRecDepth 100000 in
theorem zO5 {ts : List Tk} (hTs : TsOk ts) {T : Dst → Option (Nat × Dst)} (hT : DRule ts 25 T) (hM : Mn T) : ∀ g : Nat, DRule ts 55 (zM2 ts T g) := by
 intro g
 induction g with
 | zero =>
  intro B w s i s' hBts h hR;unfold zM2 at hR;split at hR
  · rename_i hb
    injection hR with hR
    injection hR with h1 h2
    subst h1; subst h2;exact zNb h hb
  · cases hR
 | succ g ih =>
  intro B w s i s' hBts h hR;subst hBts;have cN := zMd h;have H := zJv h;have HT := zJv hT;have HI := zJv ih;have HM := zJv hM;have HTS := zJv hTs;clear h hT ih hM hTs;have hbw := H.out.bw;generalize hbe : s.bad = b;rcases b with _ | _
  case true =>
   rw [zN6 (by simpa [Dst.bad] using hbe)] at hR;injection hR with hR
   injection hR with h1 h2
   subst h1; subst h2;exact zNb H.out hbe
  rw [zO3 hbe] at hR;dsimp only at hR;have hpos : posS B.ts s = (tkA B.ts s.k).2.2 := rfl;rw [hpos] at hR;clear hpos;generalize ht : tkA B.ts s.k = t at cN hR;go_enter Tryz.func55, Tryz.ntmps55
  go_wp2_with fail
  with_reducible refine cN.mono ?_
  rintro e w1 ⟨rfl, hb1⟩;obtain ⟨G, gX, o, hX⟩ := H.out.tokX hb1 t;obtain ⟨W2, hW2⟩ : ∃ W2, w1.alloc (.cells (tokL t).toArray 77) = W2 := ⟨_, rfl⟩;rw [hW2] at o hX;have cB := o.cBad;rw [hbe] at cB;obtain ⟨X, hXe⟩ : ∃ X, w1.heap.size = X := ⟨_, rfl⟩;rw [hXe] at gX hX;have O := zJv o;have HX := zJv hX;clear o hX hb1 cN ht;go_wp2_with fail
  with_reducible refine cB.mono ?_
  rintro e wb ⟨rfl, hwb⟩;rw [hwb];clear hwb cB hXe hW2;by_cases hj : seeS B.ts [105, 110, 116] s = true
  case pos =>
   rw [if_pos hj] at hR;have cT := O.out.cTakeT hj;go_wp2_with fail
   with_reducible refine cT.mono ?_
   rintro e u1 ⟨rfl, a1⟩;have x2 := Blk.cell ((O.out.same a1 gX).trans HX.out) 2;simp only [gA, gB, gC] at x2;have A1 := zJv (O.out.call a1).out;have cY := A1.out.cTyp0 0 (t.2.2 : Int) ⟨#[]⟩;clear a1 cT;go_wp2_with fail
   with_reducible refine cY.mono ?_
   rintro e u2 ⟨rfl, a2⟩;have A2 := zJv (A1.out.trans a2);clear a2 cY x2;go_wp2_with fail
   go_ret;exact zM7 hR A2.out
  rw [if_neg hj] at hR;have cT := O.out.cTakeF hj;go_wp2_with fail
  with_reducible refine cT.mono ?_
  rintro e v0 ⟨rfl, a1⟩;have HX : Hid (Blk v0 X 77 (tokL t).toArray) := zJv ((O.out.same a1 gX).trans HX.out);have O := zJv (O.out.call a1);clear a1 cT hj;by_cases hj : seeS B.ts [98, 111, 111, 108] s = true
  case pos =>
   rw [if_pos hj] at hR;have cT := O.out.cTakeT hj;go_wp2_with fail
   with_reducible refine cT.mono ?_
   rintro e u1 ⟨rfl, a1⟩;have x2 := Blk.cell ((O.out.same a1 gX).trans HX.out) 2;simp only [gA, gB, gC] at x2;have A1 := zJv (O.out.call a1).out;have cY := A1.out.cTyp0 1 (t.2.2 : Int) ⟨#[]⟩;clear a1 cT;go_wp2_with fail
   with_reducible refine cY.mono ?_
   rintro e u2 ⟨rfl, a2⟩;have A2 := zJv (A1.out.trans a2);clear a2 cY x2;go_wp2_with fail
   go_ret;exact zM7 hR A2.out
  rw [if_neg hj] at hR;have cT := O.out.cTakeF hj;go_wp2_with fail
  with_reducible refine cT.mono ?_
  rintro e v1 ⟨rfl, a1⟩;have HX : Hid (Blk v1 X 77 (tokL t).toArray) := zJv ((O.out.same a1 gX).trans HX.out);have O := zJv (O.out.call a1);clear a1 cT hj;by_cases hj : seeS B.ts [115, 116, 114] s = true
  case pos =>
   rw [if_pos hj] at hR;have cT := O.out.cTakeT hj;go_wp2_with fail
   with_reducible refine cT.mono ?_
   rintro e u1 ⟨rfl, a1⟩;have x2 := Blk.cell ((O.out.same a1 gX).trans HX.out) 2;simp only [gA, gB, gC] at x2;have A1 := zJv (O.out.call a1).out;have cY := A1.out.cTyp0 2 (t.2.2 : Int) ⟨#[]⟩;clear a1 cT;go_wp2_with fail
   with_reducible refine cY.mono ?_
   rintro e u2 ⟨rfl, a2⟩;have A2 := zJv (A1.out.trans a2);clear a2 cY x2;go_wp2_with fail
   go_ret;exact zM7 hR A2.out
  rw [if_neg hj] at hR;have cT := O.out.cTakeF hj;go_wp2_with fail
  with_reducible refine cT.mono ?_
  rintro e v2 ⟨rfl, a1⟩;have HX : Hid (Blk v2 X 77 (tokL t).toArray) := zJv ((O.out.same a1 gX).trans HX.out);have O := zJv (O.out.call a1);clear a1 cT hj;by_cases hj : seeS B.ts [102, 108, 111, 97, 116] s = true
  case pos =>
   rw [if_pos hj] at hR;have cT := O.out.cTakeT hj;go_wp2_with fail
   with_reducible refine cT.mono ?_
   rintro e u1 ⟨rfl, a1⟩;have x2 := Blk.cell ((O.out.same a1 gX).trans HX.out) 2;simp only [gA, gB, gC] at x2;have A1 := zJv (O.out.call a1).out;have cY := A1.out.cTyp0 3 (t.2.2 : Int) ⟨#[]⟩;clear a1 cT;go_wp2_with fail
   with_reducible refine cY.mono ?_
   rintro e u2 ⟨rfl, a2⟩;have A2 := zJv (A1.out.trans a2);clear a2 cY x2;go_wp2_with fail
   go_ret;exact zM7 hR A2.out
  rw [if_neg hj] at hR;have cT := O.out.cTakeF hj;go_wp2_with fail
  with_reducible refine cT.mono ?_
  rintro e v3 ⟨rfl, a1⟩;have HX : Hid (Blk v3 X 77 (tokL t).toArray) := zJv ((O.out.same a1 gX).trans HX.out);have O := zJv (O.out.call a1);clear a1 cT hj;by_cases hj : seeS B.ts [100, 121, 110] s = true
  case pos =>
   rw [if_pos hj] at hR;have cT := O.out.cTakeT hj;go_wp2_with fail
   with_reducible refine cT.mono ?_
   rintro e u1 ⟨rfl, a1⟩;have x2 := Blk.cell ((O.out.same a1 gX).trans HX.out) 2;simp only [gA, gB, gC] at x2;have A1 := zJv (O.out.call a1).out;have cY := A1.out.cTyp0 4 (t.2.2 : Int) ⟨#[]⟩;clear a1 cT;go_wp2_with fail
   with_reducible refine cY.mono ?_
   rintro e u2 ⟨rfl, a2⟩;have A2 := zJv (A1.out.trans a2);clear a2 cY x2;go_wp2_with fail
   go_ret;exact zM7 hR A2.out
  rw [if_neg hj] at hR;have cT := O.out.cTakeF hj;go_wp2_with fail
  with_reducible refine cT.mono ?_
  rintro e v4 ⟨rfl, a1⟩;have HX : Hid (Blk v4 X 77 (tokL t).toArray) := zJv ((O.out.same a1 gX).trans HX.out);have O := zJv (O.out.call a1);clear a1 cT hj;by_cases hj : seeS B.ts [97, 110, 121] s = true
  case pos =>
   rw [if_pos hj] at hR;have cT := O.out.cTakeT hj;go_wp2_with fail
   with_reducible refine cT.mono ?_
   rintro e u1 ⟨rfl, a1⟩;have x2 := Blk.cell ((O.out.same a1 gX).trans HX.out) 2;simp only [gA, gB, gC] at x2;have A1 := zJv (O.out.call a1).out;have cY := A1.out.cTyp0 5 (t.2.2 : Int) ⟨#[]⟩;clear a1 cT;go_wp2_with fail
   with_reducible refine cY.mono ?_
   rintro e u2 ⟨rfl, a2⟩;have A2 := zJv (A1.out.trans a2);clear a2 cY x2;go_wp2_with fail
   go_ret;exact zM7 hR A2.out
  rw [if_neg hj] at hR;have cT := O.out.cTakeF hj;go_wp2_with fail
  with_reducible refine cT.mono ?_
  rintro e v5 ⟨rfl, a1⟩;have HX : Hid (Blk v5 X 77 (tokL t).toArray) := zJv ((O.out.same a1 gX).trans HX.out);have O := zJv (O.out.call a1);clear a1 cT hj;by_cases hj : seeS B.ts [110, 111, 110, 101] s = true
  case pos =>
   rw [if_pos hj] at hR;have cT := O.out.cTakeT hj;go_wp2_with fail
   with_reducible refine cT.mono ?_
   rintro e u1 ⟨rfl, a1⟩;have x2 := Blk.cell ((O.out.same a1 gX).trans HX.out) 2;simp only [gA, gB, gC] at x2;have A1 := zJv (O.out.call a1).out;have cY := A1.out.cTyp0 6 (t.2.2 : Int) ⟨#[]⟩;clear a1 cT;go_wp2_with fail
   with_reducible refine cY.mono ?_
   rintro e u2 ⟨rfl, a2⟩;have A2 := zJv (A1.out.trans a2);clear a2 cY x2;go_wp2_with fail
   go_ret;exact zM7 hR A2.out
  rw [if_neg hj] at hR;have cT := O.out.cTakeF hj;go_wp2_with fail
  with_reducible refine cT.mono ?_
  rintro e v6 ⟨rfl, a1⟩;have HX : Hid (Blk v6 X 77 (tokL t).toArray) := zJv ((O.out.same a1 gX).trans HX.out);have O := zJv (O.out.call a1);clear a1 cT hj;have x0 := HX.out.cell 0;simp only [gA, gB] at x0;by_cases hk2 : t.1 = 2
  case pos =>
   rw [if_pos hk2] at hR;have e2 : ((t.1 : Int) == 2) = true := by rw [hk2]; rfl
   have cO := O.out.cOn;clear hk2;go_wp2_with fail
   with_reducible refine cO.mono ?_
   rintro e u1 ⟨rfl, a1⟩;have hX1 := (O.out.same a1 gX).trans HX.out;have x1 := Blk.cell hX1 1;have x2 := Blk.cell hX1 2;simp only [gA, gB, gC] at x1 x2;have A1 := zJv (O.out.call a1).out;have cY := A1.out.cTyp0 10 (t.2.2 : Int) (bs t.2.1);clear a1 cO hX1 x0;go_wp2_with fail
   with_reducible refine cY.mono ?_
   rintro e u2 ⟨rfl, a2⟩;have A2 := zJv (A1.out.trans a2);clear a2 cY x1 x2;go_wp2_with fail
   go_ret;exact zM7 hR A2.out
  rw [if_neg hk2] at hR;have e2 : ((t.1 : Int) == 2) = false := by rw [zKr]; omega
  clear hk2;by_cases hj : seeS B.ts [40] s = true
  case pos =>
   rw [if_pos hj] at hR;obtain ⟨⟨i1, s1⟩, hp, hR⟩ := zM4 hR;have cT := O.out.cTakeT hj;go_wp2_with fail
   with_reducible refine cT.mono ?_
   rintro e u1 ⟨rfl, a1⟩;have A1 := zJv (O.out.call a1).out;have cP := HT.out B u1 (onS B.ts s) i1 s1 rfl A1.out.ps hp;clear a1 cT x0 hp;go_wp2_with fail
   with_reducible refine cP.mono ?_
   rintro e u2 ⟨rfl, a2⟩;have A2 := zJv (A1.out.trans a2);have cM := zNr A2.out.ps [41];clear a2 cP;go_wp2_with fail
   with_reducible refine cM.mono ?_
   rintro e u3 ⟨rfl, a3⟩;have A3 := zJv (A2.out.trans a3);clear a3 cM;go_wp2_with fail
   go_ret;injection hR with hR
   injection hR with h1 h2
   exact ⟨congrArg (fun n : Nat => Ending.returned (.int .i64 (n : Int))) h1, h2 ▸ A3.out⟩
  rw [if_neg hj] at hR;have cT := O.out.cTakeF hj;go_wp2_with fail
  with_reducible refine cT.mono ?_
  rintro e v8 ⟨rfl, a1⟩;have HX : Hid (Blk v8 X 77 (tokL t).toArray) := zJv ((O.out.same a1 gX).trans HX.out);have O := zJv (O.out.call a1);clear a1 cT hj x0;by_cases hj : seeS B.ts [123] s = true
  case pos =>
   rw [if_pos hj] at hR;have cT := O.out.cTakeT hj;go_wp2_with fail
   with_reducible refine cT.mono ?_
   rintro e u1 ⟨rfl, a1⟩;have x2 := Blk.cell ((O.out.same a1 gX).trans HX.out) 2;simp only [gA, gB, gC] at x2;have A1 := zJv (O.out.call a1).out;obtain ⟨sa, hsa⟩ : ∃ sa, onS B.ts s = sa := ⟨_, rfl⟩;rw [hsa] at A1 hR;clear a1 cT hsa hj;go_wp2_with fail
   have a1 := A1.out;have hL := H.out.ll;obtain ⟨G1, q1, o1⟩ := OwnY.freshD a1 hbw 8 (t.2.2 : Int) ⟨#[]⟩;obtain ⟨U2, hU2⟩ : ∃ U2, u1.alloc (.cells #[iv 8, iv (t.2.2 : Int), .string ⟨#[]⟩, .slice Option.none 0 0, .slice Option.none 0 0, .bool false] 40) = U2 := ⟨_, rfl⟩;rw [hU2] at q1 o1;have Q1 := zJv q1;have O1 := zJv o1;obtain ⟨N, hN⟩ : ∃ N, u1.heap.size = N := ⟨_, rfl⟩;rw [hN] at O1;rw [hU2];clear q1 o1 a1 O HX gX A1 hU2 x2;by_cases hc : seeS B.ts [125] sa = true
   case pos =>
    rw [if_pos hc] at hR;have cT := Q1.out.cTakeT hc;with_reducible refine cT.mono ?_
    rintro e u3 ⟨rfl, a3⟩;have q3 := Q1.out.call a3;have o3 := O1.out.callD Q1.out a3;have cY := o3.cTyp q3 hbw hL;have n0 := o3.blk.cell 0;have n1 := o3.blk.cell 1;have n2 := o3.blk.cell 2;have n3 := o3.blk.cell 3;have n4 := o3.blk.cell 4;have n5 := o3.blk.cell 5;simp only [gA, gB, gC] at n0 n1 n2 n3 n4 n5;have A3 := zJv q3.out;clear a3 cT q3 o3;go_wp2_with fail
    with_reducible refine cY.mono ?_
    rintro e u4 ⟨rfl, a4⟩;have A4 := zJv (A3.out.trans a4);clear a4 cY n0 n1 n2 n3 n4 n5;go_wp2_with fail
    go_ret;exact zM7 hR A4.out
   rw [if_neg hc] at hR;have cT := Q1.out.cTakeF hc;with_reducible refine cT.mono ?_
   rintro e u3 ⟨rfl, a3⟩;have Q3 := zJv (Q1.out.call a3);have O3 := zJv (O1.out.callD Q1.out a3);obtain ⟨⟨r, sb⟩, hp, hR⟩ := zM4 hR;have HP := zJv hp;have HR := zJv hR;clear a3 cT hp hR hc Q1 O1;go_wp2_with fail
   go_loopw [] (fun wr => ∃ (ns : List (List UInt8)) (ks : List Int) (s1 : Dst) (f : Nat) (Gr : Nat → Prop) (v3 v4 : Value), Hid (DOwn B Gr w s1 wr) ∧ Hid (OwnY wr Gr N ⟨8, (t.2.2 : Int), ⟨#[]⟩, bss ns, ks, false⟩ v3 v4) ∧ Hid (rowS B.ts T f ns ks s1 = some (r, sb)) ∧ Hid (ns.length ≤ s1.k ∧ ks.length = ns.length)) (fun wr => B.ts.length - kAtD B wr)
   case atStart => exact ⟨[], [], sa, B.ts.length, G1, _, _, Q3, O3, HP, zJv ⟨zK8 _, rfl⟩⟩
   case round =>
    clear Q3 O3 HP;obtain ⟨ns, ks, s1, f, Gr, v3, v4, HQ, HO, HP, HL⟩ := hrel;have hkA := HQ.out.kAt;have hkb : s1.k < B.ts.length := HQ.out.ps.kb
    cases f with
    | zero => exact absurd HP.out (by unfold rowS; simp)
    | succ f =>
     have hP := HP.out;unfold rowS at hP;obtain ⟨⟨i2, s2⟩, hy, hP⟩ := zM4 hP;obtain ⟨A3, c3, rfl⟩ := za8 HO.out.r3;obtain ⟨A4, c4, rfl⟩ := za8 HO.out.r4;have n3 := HO.out.blk.cell 3;simp only [gA, gB, gC] at n3;have hn5 : (bss ns).length ≤ 1000000 := by rw [show (bss ns).length = ns.length by simp [bss]]; have := HL.out.1; have := HTS.out.few; omega
     have hkl : ks.length ≤ 1000000 := by have := HL.out; have := HTS.out.few; omega
     have cF := zO8 (ns := ns) HQ.out HO.out.r3 HO.out.g3 1 (E := 1) rfl hn5;have hmn := zN5 (ts := B.ts) ns 1 s1;generalize hr1 : zM0 B.ts ns 1 s1 = r1 at cF hy hP hmn;obtain ⟨x1, sc⟩ := r1;dsimp only at cF hy hP hmn;have hmn2 := zN2 (ts := B.ts) [58] sc;go_wp2_with fail
     with_reducible refine cF.mono ?_
     rintro e u4 ⟨rfl, a4⟩;have q4 := HQ.out.call a4;have oX := HO.out.callD HQ.out a4;have cM := q4.cMust [58];have Q4 := zJv q4;have OX := zJv oX;clear a4 cF q4 oX;go_wp2_with fail
     with_reducible refine cM.mono ?_
     rintro e u5 ⟨rfl, a5⟩;have oX := OX.out.callD Q4.out a5;have Q5 := zJv (Q4.out.call a5);have OX := zJv oX;have n3 := oX.blk.cell 3;have z3 := oX.blk.frozen 3;simp only [gA, gB, gC] at n3;clear a5 cM oX;go_wp2_with (at_builtin; refine zB8 rfl _ _ rfl (v := .slice A3 (bss ns).length c3) (by simp [Act.eval]) OX.out.r3 (by simp [Act.eval]) rfl hn5 ?_; intro v7 u7 hown hgrow hloc; obtain ⟨A7, d7, e7⟩ : ∃ A c, v7 = .slice A ((bss ns).length + 1) c := za8 hown; subst e7; have z7 := (OwnY.was3 OX.out ((zJx _ u5).alloc (zJw _) _) hgrow).at_ (j := 3) rfl; have zf7 := (OwnY.was3 OX.out ((zJx _ u5).alloc (zJw _) _) hgrow).frozen 3)
     obtain ⟨G7, q7, oX⟩ := OX.out.app3D Q5.out hbw ((zJx _ u5).alloc (zJw _) _) (news := [bs x1]) (m := 1) rfl hown hgrow hloc;obtain ⟨wA, hWA⟩ : ∃ W, u7.setCell ⟨N, 3, none⟩ (.slice A7 ((bss ns).length + 1) d7) = W := ⟨_, rfl⟩;rw [hWA] at q7 oX ⊢;clear hown hgrow hloc z7 zf7 n3 z3 hWA;have qd := q7.below ((zJx _ wA).drew);have oX := oX.below ((zJx _ wA).drew);have cc : Calls Tryz.prog 25 #[B.ptr] wA.drew fun e w' => e = .returned (.int .i64 (i2 : Nat)) ∧ DAft (B.with G7) wA.drew s2 w' := HT.out (B.with G7) wA.drew (mustS B.ts [58] sc) i2 s2 rfl qd.ps hy;refine wp_region_noPanic ?_;refine za5 (S := fun W => W.cell? ⟨N, 4, none⟩ = some (.slice A4 ks.length c4)) (fun j => j == 5 || j == 6 || j == 7) (by kernel_rfl) (oX.blk.at_ rfl) (fun hHeld => ?_);refine tkG 0 ?_;try simp only [Act.put, sA, sB, sC]
     refine tkG 1 ?_;try simp only [Act.put, sA, sB, sC]
     refine tkG 2 ?_;try simp only [Act.put, sA, sB, sC]
     refine rdG 3 (fun K hK => ?_);go_simp
     refine cc.mono ?_;rintro e w5 ⟨rfl, a5⟩;have q5 := qd.call a5;have oX := oX.callD qd a5;clear a5 cc;go_wp2_with fail
     refine hK.out _ _ ?hSia4 (fun hHeld => ?_)
     case hSia4 => exact oX.blk.at_ rfl
     clear hK K;try simp only [Act.put, sA, sB, sC]
     refine rdG 4 (fun K hK => ?_);go_simp
     refine hK.out _ _ ?hSia5 (fun hHeld => ?_)
     case hSia5 => exact (oX.below ((zJx _ w5).alloc (zJw _) _)).blk.at_ rfl
     clear hK K;try simp only [Act.put, sA, sB, sC]
     refine rdL 5 (fun K hK => ?_);refine zcj rfl _ _ rfl (v := (.slice A4 ks.length c4)) (by simp [Act.eval]) oX.r4 (by simp [Act.eval]) rfl hkl ?_;intro u6 w6 hown hgrow hloc;obtain ⟨G6, q6, oY⟩ := oX.app4D q5 hbw ((zJx _ w5).alloc (zJw _) _) (news := [((i2 : Nat) : Int)]) (m := 1) rfl hown hgrow hloc;obtain ⟨A6, d6, e6⟩ : ∃ A c, u6 = .slice A (ks.length + 1) c := za8 hown;subst e6;obtain ⟨w7, hW7⟩ : ∃ W, w6.setCell ⟨N, 4, none⟩ (.slice A6 (ks.length + 1) d6) = W := ⟨_, rfl⟩;have z6 : w6.cell? ⟨N, 4, none⟩ = some (.slice A4 ks.length c4) := (OwnY.was4 oX ((zJx _ w5).alloc (zJw _) _) hgrow).at_ rfl;have zf6 := (OwnY.was4 oX ((zJx _ w5).alloc (zJw _) _) hgrow).frozen 4;rw [hW7] at q6 oY;clear hown hgrow hloc oX;refine hK.out _ _ ?_;clear hK K;try simp only [Act.put, sA, sB, sC]
     refine rdL 6 (fun K hK => ?_);go_simp
     refine hK.out _ _ ?_;clear hK K;try simp only [Act.put, sA, sB, sC]
     refine rdL 7 (fun K hK => ?_);go_simp
     refine hK.out _ _ ?_;clear hK K z6 zf6 hW7;try simp only [Act.put, sA, sB, sC]
     refine zah (by kernel_rfl) ?_ _;refine NoPanic.normal ?_;have Q6 := zJv q6;have OY := zJv oY;have hmn3 := HM.out _ _ _ hy;clear q6 oY;have e7 : ∀ (x y : List UInt8), bss (ns ++ [x]) = bss ns ++ [bs x] := fun x _ => by simp [bss]
     by_cases hd : seeS B.ts [44] s2 = true
     case pos =>
      have cT := Q6.out.cTakeT hd;go_wp2_with fail
      with_reducible refine cT.mono ?_
      rintro e u8 ⟨rfl, a8⟩;have q8 := Q6.out.call a8;have o8 := OY.out.callD Q6.out a8;rw [← e7 x1 x1] at o8;have hstep : s2.k + 1 < B.ts.length := HTS.out.step Q6.out.ps.kb (by unfold seeS at hd; simp only [zK6] at hd; exact za0 hd.2);have hk8 : (onS B.ts s2).k = s2.k + 1 := by unfold onS; rw [if_pos hstep]
      have hkA8 := q8.kAt;have Q8 := zJv q8;have O8 := zJv o8
      have P8 : Hid (rowS B.ts T f (ns ++ [x1]) (ks ++ [(i2 : Int)]) (onS B.ts s2) = some (r, sb)) := zJv (by
       have hP : (if seeS B.ts [44] s2 = true then rowS B.ts T f (ns ++ [x1]) (ks ++ [(i2 : Int)]) (onS B.ts s2) else some ((ns ++ [x1], ks ++ [(i2 : Int)]), s2)) = some (r, sb) := hP
       rwa [if_pos hd] at hP)
      clear a8 cT q8 o8 hP hd;go_wp2_with fail
      go_roundw
      case rel => exact ⟨ns ++ [x1], ks ++ [(i2 : Int)], onS B.ts s2, f, G6, _, _, Q8, O8, P8, zJv (by have hkk : ns.length ≤ s1.k ∧ ks.length = ns.length := HL.out; exact ⟨by rw [hk8, zK5]; simp only [zK2, zKc]; omega, by simp [hkk.2]⟩)⟩
      case measure => rw [hkA8, hkA, hk8]; omega
     have cT := Q6.out.cTakeF hd;have hP : (if seeS B.ts [44] s2 = true then rowS B.ts T f (ns ++ [x1]) (ks ++ [(i2 : Int)]) (onS B.ts s2) else some ((ns ++ [x1], ks ++ [(i2 : Int)]), s2)) = some (r, sb) := hP;rw [if_neg hd] at hP;injection hP with hP
     injection hP with hP1 hP2
     subst hP1; subst hP2;clear hd;go_wp2_with fail
     with_reducible refine cT.mono ?_
     rintro e u8 ⟨rfl, a8⟩;have q8 := Q6.out.call a8;have o8 := OY.out.callD Q6.out a8;rw [← e7 x1 x1] at o8;have cM := q8.cMust [125];have Q8 := zJv q8;have O8 := zJv o8;clear a8 cT q8 o8;go_wp2_with fail
     with_reducible refine cM.mono ?_
     rintro e u9 ⟨rfl, a9⟩;have q9 := Q8.out.call a9;have o9 := O8.out.callD Q8.out a9;have cY := o9.cTyp q9 hbw hL;have n0 := o9.blk.cell 0;have n1 := o9.blk.cell 1;have n2 := o9.blk.cell 2;have n3 := o9.blk.cell 3;have n4 := o9.blk.cell 4;have n5 := o9.blk.cell 5;simp only [gA, gB, gC] at n0 n1 n2 n3 n4 n5;have A9 := zJv q9.out;clear a9 cM q9 o9;go_wp2_with fail
     with_reducible refine cY.mono ?_
     rintro e u10 ⟨rfl, a10⟩;have A10 := zJv (A9.out.trans a10);clear a10 cY n0 n1 n2 n3 n4 n5;go_wp2_with fail
     go_ret;exact zM7 HR.out A10.out
  rw [if_neg hj] at hR;have cT := O.out.cTakeF hj;go_wp2_with fail
  with_reducible refine cT.mono ?_
  rintro e v9 ⟨rfl, a1⟩;have HX : Hid (Blk v9 X 77 (tokL t).toArray) := zJv ((O.out.same a1 gX).trans HX.out);have O := zJv (O.out.call a1);clear a1 cT hj;by_cases hj : seeS B.ts [91] s = true
  case pos =>
   rw [if_pos hj] at hR;have cT := O.out.cTakeT hj;go_wp2_with fail
   with_reducible refine cT.mono ?_
   rintro e u1 ⟨rfl, a1⟩;have x2 := Blk.cell ((O.out.same a1 gX).trans HX.out) 2;simp only [gA, gB, gC] at x2;have A1 := zJv (O.out.call a1).out;obtain ⟨sa, hsa⟩ : ∃ sa, onS B.ts s = sa := ⟨_, rfl⟩;rw [hsa] at A1 hR;clear a1 cT hsa hj;go_wp2_with fail
   have a1 := A1.out;have hL := H.out.ll;obtain ⟨G1, q1, o1⟩ := OwnY.freshD a1 hbw 9 (t.2.2 : Int) ⟨#[]⟩;obtain ⟨U2, hU2⟩ : ∃ U2, u1.alloc (.cells #[iv 9, iv (t.2.2 : Int), .string ⟨#[]⟩, .slice Option.none 0 0, .slice Option.none 0 0, .bool false] 40) = U2 := ⟨_, rfl⟩;rw [hU2] at q1 o1;have Q1 := zJv q1;have O1 := zJv o1;obtain ⟨N, hN⟩ : ∃ N, u1.heap.size = N := ⟨_, rfl⟩;rw [hN] at O1;rw [hU2];clear q1 o1 a1 O HX gX A1 hU2 x2;by_cases hc : seeS B.ts [93] sa = true
   case pos =>
    rw [if_pos hc] at hR;have cT := Q1.out.cTakeT hc;with_reducible refine cT.mono ?_
    rintro e u3 ⟨rfl, a3⟩;have q3 := Q1.out.call a3;have o3 := O1.out.callD Q1.out a3;have cY := o3.cTyp q3 hbw hL;have n0 := o3.blk.cell 0;have n1 := o3.blk.cell 1;have n2 := o3.blk.cell 2;have n3 := o3.blk.cell 3;have n4 := o3.blk.cell 4;have n5 := o3.blk.cell 5;simp only [gA, gB, gC] at n0 n1 n2 n3 n4 n5;have A3 := zJv q3.out;clear a3 cT q3 o3;go_wp2_with fail
    with_reducible refine cY.mono ?_
    rintro e u4 ⟨rfl, a4⟩;have A4 := zJv (A3.out.trans a4);clear a4 cY n0 n1 n2 n3 n4 n5;go_wp2_with fail
    go_ret;exact zM7 hR A4.out
   rw [if_neg hc] at hR;have cT := Q1.out.cTakeF hc;with_reducible refine cT.mono ?_
   rintro e u3 ⟨rfl, a3⟩;have Q3 := zJv (Q1.out.call a3);have O3 := zJv (O1.out.callD Q1.out a3);obtain ⟨⟨r, sb⟩, hp, hR⟩ := zM4 hR;have HP := zJv hp;have HR := zJv hR;clear a3 cT hp hR hc Q1 O1;go_wp2_with fail
   go_loopw [] (fun wr => ∃ (ns : List (List UInt8)) (ks : List Int) (s1 : Dst) (f : Nat) (Gr : Nat → Prop) (v3 v4 : Value), Hid (DOwn B Gr w s1 wr) ∧ Hid (OwnY wr Gr N ⟨9, (t.2.2 : Int), ⟨#[]⟩, bss ns, ks, false⟩ v3 v4) ∧ Hid (zM9 B.ts (zM2 B.ts T g) f ns ks s1 = some (r, sb)) ∧ Hid (ns.length ≤ s1.k ∧ ks.length = ns.length)) (fun wr => B.ts.length - kAtD B wr)
   case atStart => exact ⟨[], [], sa, B.ts.length, G1, _, _, Q3, O3, HP, zJv ⟨zK8 _, rfl⟩⟩
   case round =>
    clear Q3 O3 HP;obtain ⟨ns, ks, s1, f, Gr, v3, v4, HQ, HO, HP, HL⟩ := hrel;have hkA := HQ.out.kAt;have hkb : s1.k < B.ts.length := HQ.out.ps.kb
    cases f with
    | zero => exact absurd HP.out (by unfold zM9; simp)
    | succ f =>
     have hP := HP.out;unfold zM9 at hP;by_cases ho : seeS B.ts [46, 46] s1 = true
     case pos =>
      rw [if_pos ho] at hP;injection hP with hP
      injection hP with hP1 hP2
      subst hP1; subst hP2;have cT := HQ.out.cTakeT ho;clear ho;go_wp2_with fail
      with_reducible refine cT.mono ?_
      rintro e u4 ⟨rfl, a4⟩;have q4 := HQ.out.call a4;have o4 := HO.out.callD HQ.out a4;have n5 := o4.blk.cell 5;have z5 := o4.blk.frozen 5;simp only [gA, gB, gC] at n5;obtain ⟨q5, o5⟩ := o4.openD q4 hbw;obtain ⟨U5, hU5⟩ : ∃ U5, u4.setCell ⟨N, 5, none⟩ (.bool true) = U5 := ⟨_, rfl⟩;rw [hU5] at q5 o5;have cM := q5.cMust [93];have Q5 := zJv q5;have O5 := zJv o5;clear a4 cT q4 o4 q5 o5;go_wp2_with fail
      with_reducible refine cM.mono ?_
      rintro e u9 ⟨rfl, a9⟩;have q9 := Q5.out.call a9;have o9 := O5.out.callD Q5.out a9;have cY := o9.cTyp q9 hbw hL;have n0 := o9.blk.cell 0;have n1 := o9.blk.cell 1;have n2 := o9.blk.cell 2;have n3 := o9.blk.cell 3;have n4 := o9.blk.cell 4;have n5 := o9.blk.cell 5;simp only [gA, gB, gC] at n0 n1 n2 n3 n4 n5;have A9 := zJv q9.out;clear a9 cM q9 o9 z5 hU5;obtain ⟨A3, c3, rfl⟩ := za8 HO.out.r3;obtain ⟨A4, c4, rfl⟩ := za8 HO.out.r4;go_wp2_with fail
      with_reducible refine cY.mono ?_
      rintro e u10 ⟨rfl, a10⟩;have A10 := zJv (A9.out.trans a10);clear a10 cY n0 n1 n2 n3 n4 n5;go_wp2_with fail
      go_ret;exact zM7 HR.out A10.out
     rw [if_neg ho] at hP;obtain ⟨⟨i2, s2⟩, hy, hP⟩ := zM4 hP;have cT := HQ.out.cTakeF ho;clear ho;go_wp2_with fail
     with_reducible refine cT.mono ?_
     rintro e ua ⟨rfl, a4⟩;have HO : Hid (OwnY ua Gr N ⟨9, (t.2.2 : Int), ⟨#[]⟩, bss ns, ks, false⟩ v3 v4) := zJv (HO.out.callD HQ.out a4);have HQ : Hid (DOwn B Gr w s1 ua) := zJv (HQ.out.call a4);clear a4 cT;obtain ⟨A3, c3, rfl⟩ := za8 HO.out.r3;obtain ⟨A4, c4, rfl⟩ := za8 HO.out.r4;have n3 := HO.out.blk.cell 3;simp only [gA, gB, gC] at n3;have hn5 : (bss ns).length ≤ 1000000 := by rw [show (bss ns).length = ns.length by simp [bss]]; have := HL.out.1; have := HTS.out.few; omega
     have hkl : ks.length ≤ 1000000 := by have := HL.out; have := HTS.out.few; omega
     have cF := zO8 (ns := ns) HQ.out HO.out.r3 HO.out.g3 3 (E := 3) rfl hn5;have hmn := zN5 (ts := B.ts) ns 3 s1;generalize hr1 : zM0 B.ts ns 3 s1 = r1 at cF hy hP hmn;obtain ⟨x1, sc⟩ := r1;dsimp only at cF hy hP hmn;go_wp2_with fail
     with_reducible refine cF.mono ?_
     rintro e u4 ⟨rfl, a4⟩;have q4 := HQ.out.call a4;have oX := HO.out.callD HQ.out a4;have Q5 := zJv q4;have OX := zJv oX;have n3 := oX.blk.cell 3;have z3 := oX.blk.frozen 3;simp only [gA, gB, gC] at n3;clear a4 cF q4 oX;go_wp2_with (at_builtin; refine zB8 rfl _ _ rfl (v := .slice A3 (bss ns).length c3) (by simp [Act.eval]) OX.out.r3 (by simp [Act.eval]) rfl hn5 ?_; intro v7 u7 hown hgrow hloc; obtain ⟨A7, d7, e7⟩ : ∃ A c, v7 = .slice A ((bss ns).length + 1) c := za8 hown; subst e7; have z7 := (OwnY.was3 OX.out ((zJx _ u4).alloc (zJw _) _) hgrow).at_ (j := 3) rfl; have zf7 := (OwnY.was3 OX.out ((zJx _ u4).alloc (zJw _) _) hgrow).frozen 3)
     obtain ⟨G7, q7, oX⟩ := OX.out.app3D Q5.out hbw ((zJx _ u4).alloc (zJw _) _) (news := [bs x1]) (m := 1) rfl hown hgrow hloc;obtain ⟨wA, hWA⟩ : ∃ W, u7.setCell ⟨N, 3, none⟩ (.slice A7 ((bss ns).length + 1) d7) = W := ⟨_, rfl⟩;rw [hWA] at q7 oX ⊢;clear hown hgrow hloc z7 zf7 n3 z3 hWA;have qd := q7.below ((zJx _ wA).drew);have oX := oX.below ((zJx _ wA).drew);have cc : Calls Tryz.prog 55 #[B.ptr] wA.drew fun e w' => e = .returned (.int .i64 (i2 : Nat)) ∧ DAft (B.with G7) wA.drew s2 w' := HI.out (B.with G7) wA.drew sc i2 s2 rfl qd.ps hy;refine wp_region_noPanic ?_;refine za5 (S := fun W => W.cell? ⟨N, 4, none⟩ = some (.slice A4 ks.length c4)) (fun j => j == 5 || j == 6 || j == 7) (by kernel_rfl) (oX.blk.at_ rfl) (fun hHeld => ?_);refine tkG 0 ?_;try simp only [Act.put, sA, sB, sC]
     refine tkG 1 ?_;try simp only [Act.put, sA, sB, sC]
     refine tkG 2 ?_;try simp only [Act.put, sA, sB, sC]
     refine rdG 3 (fun K hK => ?_);go_simp
     refine cc.mono ?_;rintro e w5 ⟨rfl, a5⟩;have q5 := qd.call a5;have oX := oX.callD qd a5;clear a5 cc;go_wp2_with fail
     refine hK.out _ _ ?hSiza4 (fun hHeld => ?_)
     case hSiza4 => exact oX.blk.at_ rfl
     clear hK K;try simp only [Act.put, sA, sB, sC]
     refine rdG 4 (fun K hK => ?_);go_simp
     refine hK.out _ _ ?hSiza5 (fun hHeld => ?_)
     case hSiza5 => exact (oX.below ((zJx _ w5).alloc (zJw _) _)).blk.at_ rfl
     clear hK K;try simp only [Act.put, sA, sB, sC]
     refine rdL 5 (fun K hK => ?_);refine zcj rfl _ _ rfl (v := (.slice A4 ks.length c4)) (by simp [Act.eval]) oX.r4 (by simp [Act.eval]) rfl hkl ?_;intro u6 w6 hown hgrow hloc;obtain ⟨G6, q6, oY⟩ := oX.app4D q5 hbw ((zJx _ w5).alloc (zJw _) _) (news := [((i2 : Nat) : Int)]) (m := 1) rfl hown hgrow hloc;obtain ⟨A6, d6, e6⟩ : ∃ A c, u6 = .slice A (ks.length + 1) c := za8 hown;subst e6;obtain ⟨w7, hW7⟩ : ∃ W, w6.setCell ⟨N, 4, none⟩ (.slice A6 (ks.length + 1) d6) = W := ⟨_, rfl⟩;have z6 : w6.cell? ⟨N, 4, none⟩ = some (.slice A4 ks.length c4) := (OwnY.was4 oX ((zJx _ w5).alloc (zJw _) _) hgrow).at_ rfl;have zf6 := (OwnY.was4 oX ((zJx _ w5).alloc (zJw _) _) hgrow).frozen 4;rw [hW7] at q6 oY;clear hown hgrow hloc oX;refine hK.out _ _ ?_;clear hK K;try simp only [Act.put, sA, sB, sC]
     refine rdL 6 (fun K hK => ?_);go_simp
     refine hK.out _ _ ?_;clear hK K;try simp only [Act.put, sA, sB, sC]
     refine rdL 7 (fun K hK => ?_);go_simp
     refine hK.out _ _ ?_;clear hK K z6 zf6 hW7;try simp only [Act.put, sA, sB, sC]
     refine zah (by kernel_rfl) ?_ _;refine NoPanic.normal ?_;have Q6 := zJv q6;have OY := zJv oY;have hmn3 := zN8 HM.out g _ _ _ hy;clear q6 oY;have e7 : ∀ (x y : List UInt8), bss (ns ++ [x]) = bss ns ++ [bs x] := fun x _ => by simp [bss]
     by_cases hd : seeS B.ts [124] s2 = true
     case pos =>
      have cT := Q6.out.cTakeT hd;go_wp2_with fail
      with_reducible refine cT.mono ?_
      rintro e u8 ⟨rfl, a8⟩;have q8 := Q6.out.call a8;have o8 := OY.out.callD Q6.out a8;rw [← e7 x1 x1] at o8;have hstep : s2.k + 1 < B.ts.length := HTS.out.step Q6.out.ps.kb (by unfold seeS at hd; simp only [zK6] at hd; exact za0 hd.2);have hk8 : (onS B.ts s2).k = s2.k + 1 := by unfold onS; rw [if_pos hstep]
      have hkA8 := q8.kAt;have Q8 := zJv q8;have O8 := zJv o8
      have P8 : Hid (zM9 B.ts (zM2 B.ts T g) f (ns ++ [x1]) (ks ++ [(i2 : Int)]) (onS B.ts s2) = some (r, sb)) := zJv (by
       have hP : (if seeS B.ts [124] s2 = true then zM9 B.ts (zM2 B.ts T g) f (ns ++ [x1]) (ks ++ [(i2 : Int)]) (onS B.ts s2) else some ((ns ++ [x1], ks ++ [(i2 : Int)], false), s2)) = some (r, sb) := hP
       rwa [if_pos hd] at hP)
      clear a8 cT q8 o8 hP hd;go_wp2_with fail
      go_roundw
      case rel => exact ⟨ns ++ [x1], ks ++ [(i2 : Int)], onS B.ts s2, f, G6, _, _, Q8, O8, P8, zJv (by have hkk : ns.length ≤ s1.k ∧ ks.length = ns.length := HL.out; exact ⟨by rw [hk8, zK5]; simp only [zK2, zKc]; omega, by simp [hkk.2]⟩)⟩
      case measure => rw [hkA8, hkA, hk8]; omega
     have cT := Q6.out.cTakeF hd;have hP : (if seeS B.ts [124] s2 = true then zM9 B.ts (zM2 B.ts T g) f (ns ++ [x1]) (ks ++ [(i2 : Int)]) (onS B.ts s2) else some ((ns ++ [x1], ks ++ [(i2 : Int)], false), s2)) = some (r, sb) := hP;rw [if_neg hd] at hP;injection hP with hP
     injection hP with hP1 hP2
     subst hP1; subst hP2;clear hd;go_wp2_with fail
     with_reducible refine cT.mono ?_
     rintro e u8 ⟨rfl, a8⟩;have q8 := Q6.out.call a8;have o8 := OY.out.callD Q6.out a8;rw [← e7 x1 x1] at o8;have cM := q8.cMust [93];have Q8 := zJv q8;have O8 := zJv o8;clear a8 cT q8 o8;go_wp2_with fail
     with_reducible refine cM.mono ?_
     rintro e u9 ⟨rfl, a9⟩;have q9 := Q8.out.call a9;have o9 := O8.out.callD Q8.out a9;have cY := o9.cTyp q9 hbw hL;have n0 := o9.blk.cell 0;have n1 := o9.blk.cell 1;have n2 := o9.blk.cell 2;have n3 := o9.blk.cell 3;have n4 := o9.blk.cell 4;have n5 := o9.blk.cell 5;simp only [gA, gB, gC] at n0 n1 n2 n3 n4 n5;have A9 := zJv q9.out;clear a9 cM q9 o9;go_wp2_with fail
     with_reducible refine cY.mono ?_
     rintro e u10 ⟨rfl, a10⟩;have A10 := zJv (A9.out.trans a10);clear a10 cY n0 n1 n2 n3 n4 n5;go_wp2_with fail
     go_ret;exact zM7 HR.out A10.out
  rw [if_neg hj] at hR;have cT := O.out.cTakeF hj;go_wp2_with fail
  with_reducible refine cT.mono ?_
  rintro e v10 ⟨rfl, a1⟩;have HX : Hid (Blk v10 X 77 (tokL t).toArray) := zJv ((O.out.same a1 gX).trans HX.out);have O := zJv (O.out.call a1);clear a1 cT hj;have x2 := HX.out.cell 2;simp only [gA, gB, gC] at x2;have cS := O.out.cStop 4 t.2.2 (E := 4) rfl;go_wp2_with fail
  with_reducible refine cS.mono ?_
  rintro e u1 ⟨rfl, a1⟩;have A := zJv (O.out.call a1).out;clear a1 cS x2;go_wp2_with fail
  go_ret;injection hR with hR
  injection hR with h1 h2
  subst h1; subst h2;exact ⟨rfl, A.out⟩
end Go.Proofs.YtidmeodmkcomlaaGreatDoor
