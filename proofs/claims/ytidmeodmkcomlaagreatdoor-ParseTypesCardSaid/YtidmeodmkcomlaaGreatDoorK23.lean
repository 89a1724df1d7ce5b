/- A type, as the document's parser reads it; what it answers at the end. What the document's parser answers: its types as a tree, or what is -/
import Derived.Test.YtidmeodmkcomlaaGreatDoorK22
set_option linter.unusedSimpArgs false
set_option linter.unusedVariables false
namespace Go.Proofs.YtidmeodmkcomlaaGreatDoor
open Go Go.Proofs Go.RowKit
set_option maxHeartbeats 2000000
theorem zNt {B : DE} {w : World} {s : Dst} (h : DS B w s) (hbe : s.bad = true) : Calls Tryz.prog 25 #[B.ptr] w fun e w' => e = .returned (.int .i64 ((0 : Nat) : Int)) ∧ DAft B w s w' := by
 have cB := zMr h;rw [hbe] at cB;have A := zJv (DAft.refl h);clear h;go_enter Tryz.func25, Tryz.ntmps25
 go_wp2_with fail
 with_reducible refine cB.mono ?_
 rintro e w2 ⟨rfl, hw⟩;rw [hw];clear hw cB;go_wp2_with fail
 go_ret;exact ⟨rfl, A.out⟩
theorem zL9 {B : DE} {w : World} {s : Dst} (h : DS B w s) (pos i j : Int) : TypOk (fun b => B.base ≤ b ∧ b < (w.alloc (.cells #[iv i, iv j] 3)).heap.size ∧ ¬ DMu B (w.alloc (.cells #[iv i, iv j] 3)) b ∧ ¬ B.L b) (w.alloc (.cells #[iv i, iv j] 3)) ⟨7, pos, ⟨#[]⟩, [], [i, j], false⟩ ⟨none, 0, some ⟨w.heap.size, 0, none⟩, 2⟩ := by
 refine ⟨SlAt.nil, rfl, fun _ => ⟨w.heap.size, 0, rfl, ⟨h.bw, by simp, fun k => ?_, fun k => absurd (h.ll _ k) (Nat.lt_irrefl _)⟩, fun j' u hu => ?_⟩⟩
 · have hp := h.pl
   obtain ⟨v, r2, hB, hD, _⟩ := h.ex;rcases (zN7 ((zJx w.heap.size w).alloc (zJw _) _) hp _).1 k with e | ⟨u, e, e3⟩
   · omega
   · rw [hB.cell 4] at e
     have e : v = u := by simpa using e
     subst e;have := zb8 hD.o2 _ e3;omega
 · rw [(Blk.new w 3 #[iv i, iv j]).cell (0 + j'), Nat.zero_add, gA]
   exact hu
set_option maxRecDepth 100000 in
theorem zOh {ts : List Tk} (hTs : TsOk ts) : ∀ f : Nat, DRule ts 25 (typeS ts f) := by
 intro f
 induction f with
 | zero =>
  intro B w s i s' hBts h hR;unfold typeS at hR;split at hR
  · rename_i hb
    injection hR with hR
    injection hR with h1 h2
    subst h1; subst h2;exact zNt h hb
  · cases hR
 | succ f ih =>
  intro B w s i s' hBts h hR;subst hBts;have hsim := zO5 hTs ih (zNq f) B.ts.length;have HI := zJv ih;have HS := zJv hsim;have hmono := zN8 (ts := B.ts) (zNq (ts := B.ts) f) B.ts.length;clear ih hsim hTs;generalize hbe : s.bad = b;rcases b with _ | _
  case true =>
   rw [zNi (by simpa [Dst.bad] using hbe)] at hR;injection hR with hR
   injection hR with h1 h2
   subst h1; subst h2;exact zNt h hbe
  unfold typeS at hR;rw [hbe, if_neg (by simp)] at hR;have cB := zMr h;rw [hbe] at cB;have hob := h.ob;obtain ⟨v, r2, hB, _⟩ := h.ex;have c2 := hB.cell 2;have g2 := hB.frozen 2;simp only [DE.cells, gA, gB, gC] at c2;have hpl := hB.lt;have hfd := tokF2;by_cases ho : s.op = 256
  · rw [if_pos ho] at hR
    injection hR with hR
    injection hR with h1 h2
    subst h1; subst h2;have e1 : ((s.op : Int) == 256) = true := by rw [ho]; rfl
    have cN := zMd h;have cS : ∀ (W : World), Below w.heap.size w W → Calls Tryz.prog 53 #[B.ptr, .int .i64 5, .int .i64 ((tkA B.ts s.k).2.2 : Int)] W fun r w' => r = .returned (.int .i64 0) ∧ DAft B W (stopS 5 (posS B.ts s) s) w' := fun W hW => zMz (h.below hW) 5 (posS B.ts s);have H := zJv h;clear h hB ho;go_enter Tryz.func25, Tryz.ntmps25
    go_wp2_with fail
    with_reducible refine cB.mono ?_
    rintro e w1 ⟨rfl, hw⟩;rw [hw];clear hw cB;go_wp2_with fail
    with_reducible refine cN.mono ?_
    rintro e w2 ⟨rfl, hb2⟩;go_wp2_with fail
    with_reducible refine (cS w2 hb2).mono ?_
    rintro e w3 ⟨rfl, a3⟩;have A3 := zJv ((H.out.aft hb2).trans a3);clear a3 hb2 cN cS;go_wp2_with fail
    go_ret;exact ⟨rfl, A3.out⟩
  rw [if_neg ho] at hR;have e1 : ((s.op : Int) == 256) = false := by rw [zKr]; omega
  obtain ⟨⟨i1, s1⟩, hp, hR⟩ := zM4 hR;have aU := h.set1 (s' := s.up) 2 (.int .i64 ((s.op : Int) + 1)) h.kb (by show s.op + 1 ≤ 256; omega) rfl (fun v => by simp [DE.cells, Dst.up]);have hm1 := hmono _ _ _ hp;have hm1o : s1.op = s.op + 1 := hm1.2;obtain ⟨wU, hWU⟩ : ∃ W, w.setCell ⟨B.pb, 2, none⟩ (.int .i64 ((s.op : Int) + 1)) = W := ⟨_, rfl⟩;have AU := zJv aU;have H := zJv h;clear aU h hB hmono hm1 ho;go_enter Tryz.func25, Tryz.ntmps25
  go_wp2_with fail
  with_reducible refine cB.mono ?_
  rintro e w1 ⟨rfl, hw⟩;rw [hw];clear hw cB;have c1 := HS.out B wU s.up i1 s1 rfl (by rw [← hWU]; exact AU.out.ps) hp;go_wp2_with fail
  with_reducible refine c1.mono ?_
  rintro e w2 ⟨rfl, a2⟩;have A2 : Hid (DAft B w s1 w2) := zJv (AU.out.trans (by rw [hWU]; exact a2));clear a2 c1 hWU c2 g2 hpl;have cE := zNy A2.out.ps [45, 62]
  -- the rule is closed
  have down : ∀ (sx : Dst) (W : World), DAft B w sx W → sx.op = s.op + 1 → ∃ o : Int, W.cell? ⟨B.pb, 2, none⟩ = some (.int .i64 o) ∧ W.frozen? ⟨B.pb, 2, none⟩ = false ∧ B.pb < W.heap.size ∧ (-9223372036854775808 ≤ o - 1 ∧ o - 1 ≤ 9223372036854775807) ∧ DAft B w sx.down (W.setCell ⟨B.pb, 2, none⟩ (.int .i64 (o - 1))) := fun sx W a hop => by
   obtain ⟨v, r2, hB, _⟩ := a.ps.ex;have k2 := hB.cell 2;simp only [DE.cells, gA, gB, gC] at k2;have hob2 := a.ps.ob;refine ⟨_, k2, hB.frozen 2, hB.lt, by omega, a.trans (a.ps.set1 (s' := sx.down) 2 _ a.ps.kb (by show sx.op - 1 ≤ 256; omega) rfl (fun v => ?_))⟩;simp only [DE.cells, Dst.down];rw [show ((sx.op - 1 : Nat) : Int) = (sx.op : Int) - 1 by omega];simp
  generalize hse : seeS B.ts [45, 62] s1 = b at cE;rcases b with _ | _
  · have hR : (if seeS B.ts [45, 62] s1 = true then _ else some (i1, s1.down)) = some (i, s') := hR
    rw [hse, if_neg (by simp)] at hR;injection hR with hR
    injection hR with h1 h2
    subst h1; subst h2;go_wp2_with fail
    with_reducible refine cE.mono ?_
    rintro e w3 ⟨rfl, hb3⟩;obtain ⟨o, k2, kf, kl, ⟨ko1, ko2⟩, a4⟩ := down s1 w3 (A2.out.below hb3) hm1o;have A4 := zJv a4;clear a4 hb3 cE down;go_wp2_with fail
    go_ret;exact ⟨rfl, A4.out⟩
  · have hR : (if seeS B.ts [45, 62] s1 = true then (typeS B.ts f (onS B.ts s1)).bind _ else some (i1, s1.down)) = some (i, s') := hR
    rw [hse, if_pos rfl] at hR;obtain ⟨⟨j1, s2⟩, hp2, hR⟩ := zM4 hR;have hm2 := zNq (ts := B.ts) f _ _ _ hp2;have hm2o : s2.op = s.op + 1 := by rw [hm2.2, on_op, hm1o]
    go_wp2_with fail
    with_reducible refine cE.mono ?_
    rintro e w3 ⟨rfl, hb3⟩;have A3 := zJv (A2.out.below hb3);have cN := zMd A3.out.ps;clear hb3 cE hm2;go_wp2_with fail
    with_reducible refine cN.mono ?_
    rintro e w4 ⟨rfl, hb4⟩;have A4 := zJv (A3.out.below hb4);have cO := zNo A4.out.ps;clear hb4 cN;go_wp2_with fail
    with_reducible refine cO.mono ?_
    rintro e w5 ⟨rfl, a5⟩;have A5 := zJv (A4.out.trans a5);have cT := HI.out B w5 (onS B.ts s1) j1 s2 rfl A5.out.ps hp2;clear a5 cO hp2;go_wp2_with fail
    with_reducible refine cT.mono ?_
    rintro e w6 ⟨rfl, a6⟩;have A6 := zJv (A5.out.trans a6);clear a6 cT;have hb7 : Below w6.heap.size w6 (w6.alloc (.cells #[iv (i1 : Int), iv (j1 : Int)] 3)) := (zJx _ _).alloc (zJw _) _;have cY : Calls Tryz.prog 58 #[B.ptr, .agg #[.int .i64 7, .int .i64 ((tkA B.ts s1.k).2.2 : Int), .string ⟨#[]⟩, .slice none 0 0, .slice (some ⟨w6.heap.size, 0, none⟩) 2 2, .bool false]] (w6.alloc (.cells #[.int .i64 (i1 : Int), .int .i64 (j1 : Int)] 3)) fun e w' => e = .returned (.int .i64 ((typS ⟨7, (posS B.ts s1 : Nat), ⟨#[]⟩, [], [(i1 : Int), (j1 : Int)], false⟩ s2).1 : Nat)) ∧ DAft B (w6.alloc (.cells #[.int .i64 (i1 : Int), .int .i64 (j1 : Int)] 3)) (typS ⟨7, (posS B.ts s1 : Nat), ⟨#[]⟩, [], [(i1 : Int), (j1 : Int)], false⟩ s2).2 w' := zNe (A6.out.ps.below hb7) ⟨7, (posS B.ts s1 : Nat), ⟨#[]⟩, [], [(i1 : Int), (j1 : Int)], false⟩ ⟨none, 0, some ⟨w6.heap.size, 0, none⟩, 2⟩ (zL9 A6.out.ps (posS B.ts s1 : Nat) (i1 : Int) (j1 : Int));have A7 := zJv (A6.out.below hb7);have hm3 := zO4 ⟨7, (posS B.ts s1 : Nat), ⟨#[]⟩, [], [(i1 : Int), (j1 : Int)], false⟩ s2;have hR : some ((typS ⟨7, (posS B.ts s1 : Nat), ⟨#[]⟩, [], [(i1 : Int), (j1 : Int)], false⟩ s2).1, (typS ⟨7, (posS B.ts s1 : Nat), ⟨#[]⟩, [], [(i1 : Int), (j1 : Int)], false⟩ s2).2.down) = some (i, s') := hR;clear hb7;generalize typS ⟨7, (posS B.ts s1 : Nat), ⟨#[]⟩, [], [(i1 : Int), (j1 : Int)], false⟩ s2 = R at cY hR hm3;obtain ⟨k1, s3⟩ := R;dsimp only at cY hR hm3;injection hR with hR
    injection hR with h1 h2
    subst h1; subst h2;have hm3o : s3.op = s.op + 1 := hm3.2.trans hm2o;clear hm3 hm2o;go_wp2_with fail
    with_reducible refine cY.mono ?_
    rintro e w8 ⟨rfl, a8⟩;obtain ⟨o, k2, kf, kl, ⟨ko1, ko2⟩, a9⟩ := down s3 w8 (A7.out.trans a8) hm3o;have A9 := zJv a9;clear a8 a9 cY down hm3o;go_wp2_with fail
    go_ret;exact ⟨rfl, A9.out⟩
set_option maxHeartbeats 2000000
theorem zNl : ∀ (l : List (TypD × Ptr2)), (zar l).length = l.length * 6
 | [] => rfl
 | x :: r => by
  show (za4 x.1 x.2 ++ zar r).length = _
  rw [zK5, zNl r];simp only [za4, zK2, zKc];omega
theorem zP0 (l : List (TypD × Ptr2)) (i : Nat) (hi : i < l.length) {j : Nat} (hj : j < 6) : (zar l)[i * 6 + j]? = (za4 l[i].1 l[i].2)[j]? := by
 have e0 : l = l.take i ++ l[i] :: l.drop (i + 1) := by rw [← List.drop_eq_getElem_cons hi, List.take_append_drop]
 have e : zar l = zar (l.take i) ++ (za4 l[i].1 l[i].2 ++ zar (l.drop (i + 1))) := (congrArg zar e0).trans (by unfold zar; rw [List.flatMap_append, List.flatMap_cons]);have hl : (zar (l.take i)).length = i * 6 := by rw [zNl, zKi, Nat.min_eq_left (Nat.le_of_lt hi)]
 rw [e, zKl (by omega), hl, show i * 6 + j - i * 6 = j by omega, zKm (by simp [za4]; omega)]
theorem DT.typs {B : DE} {w : World} {v : Value} {r2 : List (TypD × Ptr2)} (h : DT B w v r2) : ∃ A c, v = .slice A r2.length c ∧ TypsAt (fun b => B.base ≤ b ∧ b < w.heap.size ∧ (¬ B.L b ∨ v.ownBlock = some b)) w A (r2.map (·.1)) := by
 obtain ⟨hl, h2 | h2⟩ := h.o2
 · obtain ⟨rfl, hn⟩ := h2
   exact ⟨none, 0, by rw [hn], fun h0 => by rw [zKd] at h0; omega⟩
 · obtain ⟨g, cap, cur, rfl, hb, hh, hnc, hcm, hsz, hx⟩ := h2
   have hg : g < w.heap.size := by
    rcases Nat.lt_or_ge g w.heap.size with hlt | hge
    · exact hlt
    · rw [Array.getElem?_eq_none hge] at hh; cases hh
   refine ⟨_, _, rfl, fun _ => ⟨g, 0, rfl, ⟨hb, hg, .inr (by simp [Value.ownBlock])⟩, fun i t ht => ?_⟩⟩;rw [List.getElem?_map] at ht
   cases hr : r2[i]? with
   | none => rw [hr] at ht; cases ht
   | some y =>
    rw [hr] at ht;have ht : y.1 = t := by simpa using ht
    subst ht;obtain ⟨hi, e⟩ := List.getElem?_eq_some_iff.1 hr;refine ⟨y.2, (h.k2 y (by rw [← e]; exact zKe hi)).imp (fun b q => ⟨q.1, q.2.1, .inl q.2.2.2.2⟩), fun j u hu => ?_⟩
    have hj : j < 6 := by
     have := (List.getElem?_eq_some_iff.1 hu).1;simpa [za4] using this
    have hu2 := zP0 r2 i hi hj;rw [e, hu, ← hx, List.getElem?_take_of_lt (by omega)] at hu2;rw [Nat.zero_add, cell_of_row w g (i * 6 + j) cur 40 (0, 0) hh];simpa using hu2
def endS (ts : List Tk) (s : Dst) : Dst := if (!s.bad && (tkA ts s.k).1 != 0) = true then stopS 4 (posS ts s) s else s
def DEnd (B : DE) (w : World) (s : Dst) (e : Ending) (w' : World) : Prop :=
 Below B.base w w' ∧ if s.bad = true then e = .returned (.tuple #[.agg #[nilV, nilV, nilV], .agg #[.int .i64 (s.c : Int), .int .i64 (s.p : Int), .string ⟨#[]⟩]])
  else ∃ A c, e = .returned (.tuple #[.agg #[nilV, .slice A s.t2.length c, nilV], .agg #[.int .i64 (s.c : Int), .int .i64 (s.p : Int), .string ⟨#[]⟩]]) ∧ TypsAt (fun b => B.base ≤ b ∧ b < w'.heap.size) w' A s.t2
theorem zN4 {w2 : World} {X0 X1 : Nat} (hne : X0 ≠ X1) (a0 a1 a2 b0 b1 b2 : Value) {z0 z1 : Array Value} {t0 t1 : TypeId} (h0 : Blk w2 X0 t0 z0) (h1 : Blk w2 X1 t1 z1) (n0 : z0.size = 3) (n1 : z1.size = 3) {WF : World} (hW : ((((((w2.setCell ⟨X0, 0, none⟩ a0).setCell ⟨X0, 1, none⟩ a1).setCell ⟨X0, 2, none⟩ a2).setCell ⟨X1, 0, none⟩ b0).setCell ⟨X1, 1, none⟩ b1).setCell ⟨X1, 2, none⟩ b2).drew = WF) {n : Nat} {w : World} (hb : Below n w w2) (m0 : n ≤ X0) (m1 : n ≤ X1) :
 Blk WF X0 t0 #[a0, a1, a2] ∧ Blk WF X1 t1 #[b0, b1, b2] ∧ Below n w WF ∧ (∀ b, b ≠ X0 → b ≠ X1 → WF.heap[b]? = w2.heap[b]?) ∧ w2.heap.size ≤ WF.heap.size := by
 subst hW;have c0 := ((((((h0.set_ 0 a0).set_ 1 a1).set_ 2 a2).far (p := ⟨X1, 0, none⟩) hne b0).far (p := ⟨X1, 1, none⟩) hne b1).far (p := ⟨X1, 2, none⟩) hne b2).drew;have c1 := ((((((h1.far (p := ⟨X0, 0, none⟩) hne.symm a0).far (p := ⟨X0, 1, none⟩) hne.symm a1).far (p := ⟨X0, 2, none⟩) hne.symm a2).set_ 0 b0).set_ 1 b1).set_ 2 b2).drew
 have e : ∀ (z : Array Value) (x y u : Value), z.size = 3 → ((z.setIfInBounds 0 x).setIfInBounds 1 y).setIfInBounds 2 u = #[x, y, u] := by
  intro z x y u hz;obtain ⟨l⟩ := z
  match l, hz with
  | [_, _, _], _ => rfl
 rw [e z0 a0 a1 a2 n0] at c0;rw [e z1 b0 b1 b2 n1] at c1;refine ⟨c0, c1, Below.drew ((((((hb.setCell m0 a0).setCell m0 a1).setCell m0 a2).setCell m1 b0).setCell m1 b1).setCell m1 b2), fun b k0 k1 => ?_, ?_⟩
 · have st : ∀ (W : World) (X k : Nat) (v : Value), b ≠ X → (W.setCell ⟨X, k, none⟩ v).heap[b]? = W.heap[b]? := fun W X k v hb => zKp W ⟨X, k, none⟩ v b hb
   have dr : ∀ (W : World), W.drew.heap[b]? = W.heap[b]? := fun _ => rfl;rw [dr, st _ X1 2 _ k1, st _ X1 1 _ k1, st _ X1 0 _ k1, st _ X0 2 _ k0, st _ X0 1 _ k0, st _ X0 0 _ k0]
 · exact Nat.le_of_eq (by simp [World.drew])
theorem zP2 {B : DE} {G : Nat → Prop} {w w2 : World} {s : Dst} {X0 X1 : Nat} {A : Option Addr} {l : List TypD} (o : DOwn B G w s w2) (g0 : G X0) (g1 : G X1) {v : Value} (hB : w2.cell? ⟨B.pb, 4, none⟩ = some v)
 (h : TypsAt (fun b => B.base ≤ b ∧ b < w2.heap.size ∧ (¬ (B.with G).L b ∨ v.ownBlock = some b)) w2 A l) {w' : World} (hsz : w2.heap.size ≤ w'.heap.size) (hk : ∀ b, b ≠ X0 → b ≠ X1 → w'.heap[b]? = w2.heap[b]?) : TypsAt (fun b => B.base ≤ b ∧ b < w'.heap.size) w' A l := by
 have hn : ∀ b, (¬ (B.with G).L b ∨ v.ownBlock = some b) → ∀ X, G X → b ≠ X := fun b hb X hX e => by
  subst e;rcases hb with k | k
  · exact k (.inr hX)
  · exact o.nm _ hX (.inr ⟨v, hB, k⟩)
 exact (h.keep (fun b o' q => zKb (a := ⟨b, o', none⟩) (hk b (hn b q.2.2 X0 g0) (hn b q.2.2 X1 g1)))).imp (fun b q => ⟨q.1, zJy q.2.1 hsz⟩)
set_option maxRecDepth 100000 in
theorem zP1 {B : DE} {w : World} {s : Dst} (h : DS B w s) : Calls Tryz.prog 26 #[B.ptr] w fun e w' => DEnd B w (endS B.ts s) e w' := by
 have hfd := tokF0;have hfd2 := tokF2;have hbw := h.bw;obtain ⟨W0, hW0⟩ : ∃ W0, w.alloc (.cells #[.slice none 0 0, .slice none 0 0, .slice none 0 0] 27) = W0 := ⟨_, rfl⟩;obtain ⟨W1, hW1⟩ : ∃ W1, W0.alloc (.cells #[.int .i64 0, .int .i64 0, .string ⟨#[]⟩] 30) = W1 := ⟨_, rfl⟩;have hb0 : Below w.heap.size w W0 := by rw [← hW0]; exact (zJx _ _).alloc (zJw _) _
 have hb1 : Below W0.heap.size W0 W1 := by rw [← hW1]; exact (zJx _ _).alloc (zJw _) _
 have hX0 : Blk W0 w.heap.size 27 #[.slice none 0 0, .slice none 0 0, .slice none 0 0] := by rw [← hW0]; exact Blk.new w 27 _
 have hX1 : Blk W1 W0.heap.size 30 #[.int .i64 0, .int .i64 0, .string ⟨#[]⟩] := by rw [← hW1]; exact Blk.new W0 30 _
 have o0 := (DAft.refl h).idle.grow hbw hb0 w.heap.size (zJw _) hX0.lt;have o1 := o0.grow hbw hb1 W0.heap.size (zJw _) hX1.lt;have hX0 := hX0.below hb1 hX0.lt;obtain ⟨G, hG⟩ : ∃ G : Nat → Prop, (fun b => (False ∨ b = w.heap.size) ∨ b = W0.heap.size) = G := ⟨_, rfl⟩;have g0 : G w.heap.size := by rw [← hG]; exact .inl (.inr rfl)
 have g1 : G W0.heap.size := by rw [← hG]; exact .inr rfl
 rw [hG] at o1;have hne : w.heap.size ≠ W0.heap.size := by rw [← hW0]; simp
 obtain ⟨X0, hx0⟩ : ∃ X, w.heap.size = X := ⟨_, rfl⟩;obtain ⟨X1, hx1⟩ : ∃ X, W0.heap.size = X := ⟨_, rfl⟩;rw [hx0] at hX0 g0 hne;rw [hx1] at hX1 g1 hne;have O := zJv o1;have H0 := zJv hX0;have H1 := zJv hX1
 -- from where it is known what is wrong
 clear hG hb0 hb1 o0 hX0 hX1 h;have cB := o1.cBad;have cN := o1.cNow;have cS := o1.cStop 4 (posS B.ts s) (E := 4) rfl;clear o1;unfold endS;generalize hbe : s.bad = b at cB ⊢;rcases b with _ | _
 · have e0 : (((tkA B.ts s.k).1 : Int) != 0) = ((tkA B.ts s.k).1 != 0) := by rw [zJz]; simp
   generalize hk0 : ((tkA B.ts s.k).1 != 0) = d at e0 ⊢;rcases d with _ | _
   · rw [if_neg (by simp)]
     go_enter Tryz.func26, Tryz.ntmps26
     go_wp2_with fail
     with_reducible refine cB.mono ?_
     rintro e w1 ⟨rfl, hw⟩;rw [hw];clear hw;go_wp2_with fail
     with_reducible refine cN.mono ?_
     rintro e w2 ⟨rfl, hb2⟩;have o2 := O.out.below hb2;have x0 := H0.out.below hb2 H0.out.lt;have x1 := H1.out.below hb2 H1.out.lt;have cB2 := o2.cBad;rw [hbe] at cB2;have O2 := zJv o2;have X0b := zJv x0;have X1b := zJv x1;clear hb2 cN cB cS o2 x0 x1;go_wp2_with fail
     with_reducible refine cB2.mono ?_
     rintro e w3 ⟨rfl, hw⟩;rw [hw];clear hw cB2;obtain ⟨v, r2, hB, hD, e2⟩ := O2.out.ps.ex;obtain ⟨A, c, rfl, hty⟩ := hD.typs;have hB : Blk w2 B.pb 61 (B.cells s (.slice A r2.length c)) := hB;have k3 := hB.cell 3;have k4 := hB.cell 4;have k5 := hB.cell 5;have k6 := hB.cell 6;have k7 := hB.cell 7;have k8 := hB.cell 8;have p0 := X0b.out.cell 0;have p1 := X0b.out.cell 1;have p2 := X0b.out.cell 2;have q0 := X1b.out.cell 0;have q1 := X1b.out.cell 1;have q2 := X1b.out.cell 2;have pf0 := X0b.out.frozen 0;have pf1 := X0b.out.frozen 1;have pf2 := X0b.out.frozen 2;have qf0 := X1b.out.frozen 0;have qf1 := X1b.out.frozen 1;have qf2 := X1b.out.frozen 2;simp only [DE.cells, gA, gB, gC] at k3 k4 k5 k6 k7 k8 p0 p1 p2 q0 q1 q2;have hpl := hB.lt;have hl0 := X0b.out.lt;have hl1 := X1b.out.lt;have hpX0 : B.pb ≠ X0 := fun e => O2.out.nm _ g0 (.inl e.symm);have hpX1 : B.pb ≠ X1 := fun e => O2.out.nm _ g1 (.inl e.symm);have HTY := zJv hty;have E2 := zJv e2;clear hB hD hty e2;go_wp2
     go_region
     obtain ⟨WF, hWF⟩ : ∃ W, ((((((w2.setCell ⟨X0, 0, none⟩ (.slice none 0 0)).setCell ⟨X0, 1, none⟩ (.slice A r2.length c)).setCell ⟨X0, 2, none⟩ (.slice none 0 0)).setCell ⟨X1, 0, none⟩ (.int .i64 (s.c : Int))).setCell ⟨X1, 1, none⟩ (.int .i64 (s.p : Int))).setCell ⟨X1, 2, none⟩ (.string ⟨#[]⟩)).drew = W := ⟨_, rfl⟩;obtain ⟨Z0, Z1, hbel, hkeep, hsz⟩ := zN4 hne _ _ _ _ _ _ X0b.out X1b.out rfl rfl hWF O2.out.bel (zK4 hbw (O2.out.ge _ g0)) (zK4 hbw (O2.out.ge _ g1));have hT := zP2 O2.out g0 g1 k4 HTY.out hsz hkeep;rw [hWF];have y0 := Z0.cell 0;have y1 := Z0.cell 1;have y2 := Z0.cell 2;have u0 := Z1.cell 0;have u1 := Z1.cell 1;have u2 := Z1.cell 2;simp only [gA, gB, gC] at y0 y1 y2 u0 u1 u2;clear k3 k4 k5 k6 k7 k8 p0 p1 p2 q0 q1 q2 pf0 pf1 pf2 qf0 qf1 qf2 Z0 Z1 hWF hkeep;have FIN := zJv (And.intro hbel (And.intro hT E2.out));clear hbel hT hsz;go_wp2
     refine bodyPost_ret (v := .tuple #[.agg #[.slice none 0 0, .slice A r2.length c, .slice none 0 0], .agg #[.int .i64 (s.c : Int), .int .i64 (s.p : Int), .string ⟨#[]⟩]]) (by simp [results, Tryz.results26, go_sem, y0, y1, y2, u0, u1, u2]) rfl ?_;obtain ⟨hbel, hT, he2⟩ := FIN.out;refine ⟨hbel, ?_⟩;rw [hbe, if_neg (by simp)];rw [← he2, zKd];exact ⟨A, c, rfl, hT⟩
   · rw [if_pos (by simp)]
     obtain ⟨sE, hsE⟩ : ∃ x, stopS 4 (posS B.ts s) s = x := ⟨_, rfl⟩;have hbE : sE.bad = true := by rw [← hsE]; unfold stopS; rw [hbe]; rfl
     rw [hsE] at cS ⊢;have hpp : (posS B.ts s : Int) = ((tkA B.ts s.k).2.2 : Int) := rfl;go_enter Tryz.func26, Tryz.ntmps26
     go_wp2_with fail
     with_reducible refine cB.mono ?_
     rintro e w1 ⟨rfl, hw⟩;rw [hw];clear hw;go_wp2_with fail
     with_reducible refine cN.mono ?_
     rintro e wa ⟨rfl, hba⟩;have oa := O.out.below hba;have cN2 := oa.cNow;have HA := zJv (And.intro oa (And.intro (H0.out.below hba H0.out.lt) (H1.out.below hba H1.out.lt)));clear hba cN cB cS oa;go_wp2_with fail
     with_reducible refine cN2.mono ?_
     rintro e wb ⟨rfl, hbb⟩;have ob := HA.out.1.below hbb;have cS2 := ob.cStop 4 (posS B.ts s) (E := 4) rfl;rw [hsE] at cS2;have HB := zJv (And.intro ob (And.intro (HA.out.2.1.below hbb HA.out.2.1.lt) (HA.out.2.2.below hbb HA.out.2.2.lt)));clear hbb cN2 ob;go_wp2_with fail
     with_reducible refine cS2.mono ?_
     rintro e w2 ⟨rfl, a2⟩;have O2 := zJv (HB.out.1.call a2);have X0b : Hid (Blk w2 X0 27 #[.slice none 0 0, .slice none 0 0, .slice none 0 0]) := zJv ((HB.out.1.same a2 g0).trans HB.out.2.1);have X1b : Hid (Blk w2 X1 30 #[.int .i64 0, .int .i64 0, .string ⟨#[]⟩]) := zJv ((HB.out.1.same a2 g1).trans HB.out.2.2);have cBx := O2.out.cBad;rw [hbE] at cBx;clear a2 cS2 hsE;go_wp2_with fail
     with_reducible refine cBx.mono ?_
     rintro e w3 ⟨rfl, hw⟩;rw [hw];clear hw;clear cBx;obtain ⟨v, r2, hB, hD, e2⟩ := O2.out.ps.ex;have hB : Blk w2 B.pb 61 (B.cells sE v) := hB;have k6 := hB.cell 6;have k7 := hB.cell 7;have k8 := hB.cell 8;have p0 := X0b.out.cell 0;have p1 := X0b.out.cell 1;have p2 := X0b.out.cell 2;have q0 := X1b.out.cell 0;have q1 := X1b.out.cell 1;have q2 := X1b.out.cell 2;have pf0 := X0b.out.frozen 0;have pf1 := X0b.out.frozen 1;have pf2 := X0b.out.frozen 2;have qf0 := X1b.out.frozen 0;have qf1 := X1b.out.frozen 1;have qf2 := X1b.out.frozen 2;simp only [DE.cells, gA, gB, gC] at k6 k7 k8 p0 p1 p2 q0 q1 q2;have hpl := hB.lt;have hl0 := X0b.out.lt;have hl1 := X1b.out.lt;have hpX0 : B.pb ≠ X0 := fun e => O2.out.nm _ g0 (.inl e.symm);have hpX1 : B.pb ≠ X1 := fun e => O2.out.nm _ g1 (.inl e.symm);clear hB hD e2;go_wp2
     go_region
     obtain ⟨WF, hWF⟩ : ∃ W, ((((((w2.setCell ⟨X0, 0, none⟩ (.slice none 0 0)).setCell ⟨X0, 1, none⟩ (.slice none 0 0)).setCell ⟨X0, 2, none⟩ (.slice none 0 0)).setCell ⟨X1, 0, none⟩ (.int .i64 (sE.c : Int))).setCell ⟨X1, 1, none⟩ (.int .i64 (sE.p : Int))).setCell ⟨X1, 2, none⟩ (.string ⟨#[]⟩)).drew = W := ⟨_, rfl⟩;obtain ⟨Z0, Z1, hbel, _, _⟩ := zN4 hne _ _ _ _ _ _ X0b.out X1b.out rfl rfl hWF O2.out.bel (zK4 hbw (O2.out.ge _ g0)) (zK4 hbw (O2.out.ge _ g1));rw [hWF];have y0 := Z0.cell 0;have y1 := Z0.cell 1;have y2 := Z0.cell 2;have u0 := Z1.cell 0;have u1 := Z1.cell 1;have u2 := Z1.cell 2;simp only [gA, gB, gC] at y0 y1 y2 u0 u1 u2;clear k6 k7 k8 p0 p1 p2 q0 q1 q2 pf0 pf1 pf2 qf0 qf1 qf2 Z0 Z1 hWF;have FIN := zJv hbel;clear hbel;go_wp2
     refine bodyPost_ret (v := .tuple #[.agg #[.slice none 0 0, .slice none 0 0, .slice none 0 0], .agg #[.int .i64 (sE.c : Int), .int .i64 (sE.p : Int), .string ⟨#[]⟩]]) (by simp [results, Tryz.results26, go_sem, y0, y1, y2, u0, u1, u2]) rfl ?_;refine ⟨FIN.out, ?_⟩;rw [hbE, if_pos rfl]
 · rw [if_neg (by simp)]
   obtain ⟨sE, hsE⟩ : ∃ x, s = x := ⟨_, rfl⟩;have hbE : sE.bad = true := by rw [← hsE]; exact hbe
   rw [hsE] at O ⊢;go_enter Tryz.func26, Tryz.ntmps26
   go_wp2_with fail
   with_reducible refine cB.mono ?_
   rintro e w1 ⟨rfl, hw⟩;rw [hw];have O2 := O;have X0b := H0;have X1b := H1;have cBx := O2.out.cBad;rw [hbE] at cBx;clear hw cN cB cS hsE hbe;go_wp2_with fail
   with_reducible refine cBx.mono ?_
   rintro e w3 ⟨rfl, hw⟩;rw [hw];clear hw;obtain ⟨w2, hw2⟩ : ∃ x, W1 = x := ⟨_, rfl⟩;rw [hw2] at O2 X0b X1b ⊢;clear hw2 O H0 H1 hW1 hW0;clear cBx;obtain ⟨v, r2, hB, hD, e2⟩ := O2.out.ps.ex;have hB : Blk w2 B.pb 61 (B.cells sE v) := hB;have k6 := hB.cell 6;have k7 := hB.cell 7;have k8 := hB.cell 8;have p0 := X0b.out.cell 0;have p1 := X0b.out.cell 1;have p2 := X0b.out.cell 2;have q0 := X1b.out.cell 0;have q1 := X1b.out.cell 1;have q2 := X1b.out.cell 2;have pf0 := X0b.out.frozen 0;have pf1 := X0b.out.frozen 1;have pf2 := X0b.out.frozen 2;have qf0 := X1b.out.frozen 0;have qf1 := X1b.out.frozen 1;have qf2 := X1b.out.frozen 2;simp only [DE.cells, gA, gB, gC] at k6 k7 k8 p0 p1 p2 q0 q1 q2;have hpl := hB.lt;have hl0 := X0b.out.lt;have hl1 := X1b.out.lt;have hpX0 : B.pb ≠ X0 := fun e => O2.out.nm _ g0 (.inl e.symm);have hpX1 : B.pb ≠ X1 := fun e => O2.out.nm _ g1 (.inl e.symm);clear hB hD e2;go_wp2
   go_region
   obtain ⟨WF, hWF⟩ : ∃ W, ((((((w2.setCell ⟨X0, 0, none⟩ (.slice none 0 0)).setCell ⟨X0, 1, none⟩ (.slice none 0 0)).setCell ⟨X0, 2, none⟩ (.slice none 0 0)).setCell ⟨X1, 0, none⟩ (.int .i64 (sE.c : Int))).setCell ⟨X1, 1, none⟩ (.int .i64 (sE.p : Int))).setCell ⟨X1, 2, none⟩ (.string ⟨#[]⟩)).drew = W := ⟨_, rfl⟩;obtain ⟨Z0, Z1, hbel, _, _⟩ := zN4 hne _ _ _ _ _ _ X0b.out X1b.out rfl rfl hWF O2.out.bel (zK4 hbw (O2.out.ge _ g0)) (zK4 hbw (O2.out.ge _ g1));rw [hWF];have y0 := Z0.cell 0;have y1 := Z0.cell 1;have y2 := Z0.cell 2;have u0 := Z1.cell 0;have u1 := Z1.cell 1;have u2 := Z1.cell 2;simp only [gA, gB, gC] at y0 y1 y2 u0 u1 u2;clear k6 k7 k8 p0 p1 p2 q0 q1 q2 pf0 pf1 pf2 qf0 qf1 qf2 Z0 Z1 hWF;have FIN := zJv hbel;clear hbel;go_wp2
   refine bodyPost_ret (v := .tuple #[.agg #[.slice none 0 0, .slice none 0 0, .slice none 0 0], .agg #[.int .i64 (sE.c : Int), .int .i64 (sE.p : Int), .string ⟨#[]⟩]]) (by simp [results, Tryz.results26, go_sem, y0, y1, y2, u0, u1, u2]) rfl ?_;refine ⟨FIN.out, ?_⟩;rw [hbE, if_pos rfl]
end Go.Proofs.YtidmeodmkcomlaaGreatDoor
