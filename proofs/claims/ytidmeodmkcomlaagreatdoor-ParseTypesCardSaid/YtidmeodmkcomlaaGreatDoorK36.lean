/- Whether two trees are the same, as the program asks it: rows of parts, side by side. Whether two types, two terms are the same, as the document has it: -/
import Derived.Test.YtidmeodmkcomlaaGreatDoorK35
import Derived.BigRegion
import Derived.Deep.CutRange
set_option linter.unusedSimpArgs false
set_option linter.unusedVariables false
namespace Go.Proofs.YtidmeodmkcomlaaGreatDoor
open Go Go.Proofs Go.RowKit
def smY (x y : TypD) : Bool := decide (x.kind = y.kind ∧ x.name = y.name ∧ x.opn = y.opn ∧ x.names = y.names)
def atY (a b : TreeD) (i j : Nat) : Bool := match a.types[i]?, b.types[j]? with | some x, some y => smY x y | _, _ => false
theorem zqx (x : TypD) : smY x x = true := by simp [smY]
set_option maxHeartbeats 8000000
theorem zxy {w : World} {A : Option Addr} {xs : List ByteArray} {k : Nat} (h : RdAt w A (xs.map .string)) (hk : k < xs.length) : ∃ b off, A = some ⟨b, off, none⟩ ∧ w.cell? ⟨b, off + k, none⟩ = some (.string xs[k]) := zgh h hk
theorem toList_inj {a b : ByteArray} (h : a.toList = b.toList) : a = b := zkk h
theorem zjx {w W : World} {A : Option Addr} {n : Nat} {xs : List Value} (h : SlAt (Lt w.heap.size) w A n xs) (hb : Below w.heap.size w W) : RdAt W A xs :=
 RdAt.of_sl (h.keep (fun b o hl => hb.cell (p := ⟨b, o, none⟩) hl))
theorem zqo {α β : Type} {f : α → β → Bool} : ∀ {xs : List α} {ys : List β}, all2 f xs ys = true → ∀ (k : Nat) (hx : k < xs.length) (hy : k < ys.length), f xs[k] ys[k] = true
 | [], _, _, k, hx, _ => absurd hx (by simp)
 | _ :: _, [], _, k, _, hy => absurd hy (by simp)
 | x :: xs, y :: ys, h, 0, _, _ => by simp only [all2, zK6] at h; exact h.1
 | x :: xs, y :: ys, h, k + 1, hx, hy => by
  simp only [all2, zK6] at h;exact zqo h.2 k (by simpa using hx) (by simpa using hy)
theorem zha {α β : Type} {f : α → β → Bool} {xs : List α} {ys : List β} {k : Nat} (hx : k < xs.length) (hy : k < ys.length) (h : all2 f (xs.take k) (ys.take k) = true) (hf : f xs[k] ys[k] = true) : all2 f (xs.take (k + 1)) (ys.take (k + 1)) = true := by
 rw [zK9 hx, zK9 hy, zfv (by simp; omega), h];simp [all2, hf]
theorem ziq {α β : Type} {f : α → β → Bool} {xs : List α} {ys : List β} {k : Nat} (hx : k < xs.length) (hy : k < ys.length) (hf : f xs[k] ys[k] = false) : all2 f xs ys = false := by
 cases h : all2 f xs ys with
 | false => rfl
 | true => rw [zqo h k hx hy] at hf; cases hf
theorem zjr {α β : Type} {f : α → β → Bool} {xs : List α} {ys : List β} (h : xs.length ≠ ys.length) : all2 f xs ys = false := by
 cases h' : all2 f xs ys with
 | false => rfl
 | true => exact absurd (zep h') h
set_option maxRecDepth 100000 in
theorem zqg (A1 A2 : Option Addr) (c1 c2 : Nat) (xs ys : List ByteArray) (w : World) (h1 : RdAt w A1 (xs.map .string)) (h2 : RdAt w A2 (ys.map .string)) (hx : xs.length ≤ 140737488351232) (hy : ys.length ≤ 140737488351232) :
 Calls Tryz.prog 27 #[.slice A1 xs.length c1, .slice A2 ys.length c2] w fun e w' => e = .returned (.bool (decide (xs = ys))) ∧ Below w.heap.size w w' := by
 obtain ⟨r, hr⟩ : ∃ r, decide (xs = ys) = r := ⟨_, rfl⟩;rw [hr];have HR := zJv hr;clear hr;by_cases hlen : xs.length = ys.length
 · obtain ⟨n, hn⟩ : ∃ n, ys.length = n := ⟨_, rfl⟩
   rw [hn] at hlen hy ⊢;rw [hlen] at hx ⊢;have HX := zJv hlen;have HY := zJv hn;clear hlen hn;have hne : ((n : Int) != (n : Int)) = false := by simp
   have hB0 := zJx w.heap.size w;go_enter Tryz.func27, Tryz.ntmps27
   go_wp2
   go_loopw [5, 13] (fun _ i wr => ∃ k : Nat, k ≤ n ∧ i = .int .i64 k ∧ Hid (xs.take k = ys.take k) ∧ Below w.heap.size w wr ∧ ∃ d, wr = w.drewN d) (fun _ i _ => n - (intOf i).toNat)
   case atStart => exact ⟨0, zK8 _, rfl, zJv (by simp), hB0, 0, rfl⟩
   case round =>
    obtain ⟨k, hk, rfl, HT, hB, d, hwr⟩ := hrel;by_cases hlt : k < n
    · have lx : k < xs.length := by rw [HX.out]; exact hlt
      have ly : k < ys.length := by rw [HY.out]; exact hlt
      obtain ⟨b, off, rfl, e1⟩ := zxy h1 lx;obtain ⟨b', off', rfl, e2⟩ := zxy h2 ly;have f1 : wr.cell? ⟨b, off + k, none⟩ = some (.string xs[k]) := by rw [hwr]; exact e1
      have f2 : wr.cell? ⟨b', off' + k, none⟩ = some (.string ys[k]) := by rw [hwr]; exact e2
      have htx : xs.take (k + 1) = xs.take k ++ [xs[k]] := zK9 lx;have hty : ys.take (k + 1) = ys.take k ++ [ys[k]] := zK9 ly
      have hbad : xs[k] ≠ ys[k] → r = false := fun h => by
       rw [← HR.out, zKs];intro he;subst he;exact h rfl
      obtain ⟨x, hxk⟩ : ∃ x, xs[k] = x := ⟨_, rfl⟩;obtain ⟨y, hyk⟩ : ∃ y, ys[k] = y := ⟨_, rfl⟩;rw [hxk] at f1 htx hbad;rw [hyk] at f2 hty hbad;have HTX := zJv htx;have HTY := zJv hty;have HBAD := zJv hbad;have HW := zJv hwr;clear hxk hyk htx hty hbad e1 e2 hwr h1 h2;have i1 : (0 : Int) ≤ (k : Int) := by omega
      have i2 : (k : Int) < (n : Int) := by omega
      by_cases hxy : x = y
      · subst hxy
        have hq : (x.toList != x.toList) = false := by simp
        go_wp2
        go_quiet (fail)
        go_wp2
        go_roundw
        case rel => exact ⟨k + 1, by omega, by go_num, zJv (by rw [HTX.out, HTY.out, HT.out]), hB.trans (zft _ _ _), by have := HW.out; subst this; exact ⟨_, zoo _ _ _⟩⟩
        case measure => simp [intOf]; omega
      · have hq : (x.toList == y.toList) = false := by rw [zKr]; exact fun h => hxy (toList_inj h)
        have HF := zJv (HBAD.out hxy);go_wp2
        go_quiet (fail)
        go_wp2
        go_ret;exact ⟨za7 HF.out.symm, hB.trans (zft _ _ _)⟩
    · obtain rfl : k = n := by omega
      have hT : r = true := by
       rw [← HR.out, zKq];have := HT.out;rwa [List.take_of_length_le (Nat.le_of_eq HX.out), List.take_of_length_le (Nat.le_of_eq HY.out)] at this
      have HF := zJv hT;clear hT hwr;go_wp2
      go_ret;exact ⟨za7 HF.out.symm, hB⟩
 · have hF : r = false := by
    rw [← HR.out, zKs];intro he;subst he;exact hlen rfl
   have HF := zJv hF;clear hF;have hne : ((xs.length : Int) != (ys.length : Int)) = true := by rw [bne_iff_ne]; omega
   go_enter Tryz.func27, Tryz.ntmps27
   go_wp2
   go_ret;exact ⟨za7 HF.out.symm, zJx _ _⟩
structure DwnY (t : TreeD) : Prop where
 kid : ∀ (j : Nat) (x : TypD), t.types[j]? = some x → ∀ k ∈ x.kids, 0 ≤ k ∧ k < (j : Int)
 few : ∀ x ∈ t.types, x.names.length ≤ 1000000 ∧ x.kids.length ≤ 1000000
 n1 : t.nodes.length ≤ 1000000
 n2 : t.types.length ≤ 1000000
 n3 : t.aliases.length ≤ 1000000
theorem DwnY.dnT {t : TreeD} (h : DwnY t) : Dn (tyK t) t.types.length := fun i hi k hk => by
 unfold tyK at hk;rw [zK1 hi] at hk;obtain ⟨z, hz, rfl⟩ := List.mem_map.1 hk;have := h.kid i _ (zK1 hi) z hz;omega
theorem zOt (t : TreeD) (h : DwnY t) : ∀ (n i : Nat), i < n → i < t.types.length → same (atY t t) (tyK t) (tyK t) i i = true :=
 fun n i hn hi => zA6 h.dnT (fun i hi => by unfold atY; rw [zK1 hi]; exact zqx _) n i hn hi
set_option maxRecDepth 100000 in
theorem zOr (a b : TreeD) (p q : Ptr6) (hWa : DwnY a) (hWb : DwnY b) : ∀ (m i j : Nat), i < m → i < a.types.length → j < b.types.length → ∀ (w : World), TreeAt (Lt w.heap.size) w a p → TreeAt (Lt w.heap.size) w b q →
 Calls Tryz.prog 14 #[treeV a p, .int .i64 (i : Int), treeV b q, .int .i64 (j : Int)] w fun e w' => e = .returned (.bool (same (atY a b) (tyK a) (tyK b) i j)) ∧ Below w.heap.size w w'
 | 0, _, _, h, _, _, _, _, _ => by omega
 | m + 1, i, j, hm, hi, hj, w, hTa, hTb => by
  have IH := zJv (fun (k l : Nat) (hk : k < m) (hkn : k < a.types.length) (hln : l < b.types.length) (W : World) (hA : TreeAt (Lt W.heap.size) W a p) (hB : TreeAt (Lt W.heap.size) W b q) => zOr a b p q hWa hWb m k l hk hkn hln W hA hB);obtain ⟨a1, c1, a2, c2, a3, c3⟩ := p;obtain ⟨b1, d1, b2, d2, b3, d3⟩ := q;have tT := hTa.2.1;have uT := hTb.2.1;dsimp only at tT uT;have f5 : a.nodes.length ≤ 1000000 := hWa.n1;have f6 : a.types.length ≤ 1000000 := hWa.n2;have f4 : a.aliases.length ≤ 1000000 := hWa.n3;have g5 : b.nodes.length ≤ 1000000 := hWb.n1;have g6 : b.types.length ≤ 1000000 := hWb.n2;have g4 : b.aliases.length ≤ 1000000 := hWb.n3;obtain ⟨W1, hW1⟩ : ∃ W1, (w.alloc (.cells #[.slice a1 a.nodes.length c1, .slice a2 a.types.length c2, .slice a3 a.aliases.length c3] 27)).alloc (.cells #[.slice b1 b.nodes.length d1, .slice b2 b.types.length d2, .slice b3 b.aliases.length d3] 27) = W1 := ⟨_, rfl⟩;have hB1 : Below w.heap.size w W1 := by rw [← hW1]; exact ((zJx _ _).alloc (zJw _) _).alloc (by simp) _
  have hX : Blk W1 w.heap.size 27 #[.slice a1 a.nodes.length c1, .slice a2 a.types.length c2, .slice a3 a.aliases.length c3] := by rw [← hW1]; exact (Blk.new w 27 _).alloc _
  have hY : Blk W1 (w.heap.size + 1) 27 #[.slice b1 b.nodes.length d1, .slice b2 b.types.length d2, .slice b3 b.aliases.length d3] := by
   rw [← hW1];have := Blk.new (w.alloc (.cells #[.slice a1 a.nodes.length c1, .slice a2 a.types.length c2, .slice a3 a.aliases.length c3] 27)) 27 #[.slice b1 b.nodes.length d1, .slice b2 b.types.length d2, .slice b3 b.aliases.length d3];rwa [zKh] at this
  have x1 := hX.cell 1;have y1 := hY.cell 1;simp only [gA, gB, gC] at x1 y1;have hzX := hX.lt;have hzY := hY.lt;have HX := zJv hX;have HY := zJv hY;have HTa := zJv hTa;have HTb := zJv hTb;obtain ⟨bb, off, rfl, hbb, hcell⟩ := tT (by omega);have hx := zK1 hi;obtain ⟨⟨p3, q3, p4, q4⟩, hq, hcq⟩ := hcell i _ hx;have hfew := hWa.few _ (zKe hi);have hrg := hWa.kid i _ hx;obtain ⟨be, oe, rfl, hbe, hcell'⟩ := uT (by omega);have hy := zK1 hj;obtain ⟨⟨s3, t3, s4, t4⟩, hq', hcq'⟩ := hcell' j _ hy;have hfew' := hWb.few _ (zKe hj);have hrg' := hWb.kid j _ hy;have hS := zf7 (r := atY a b) (kids := tyK a) (kids' := tyK b) hWa.dnT hi j;have hA : atY a b i j = smY a.types[i] b.types[j] := by unfold atY; rw [hx, hy]
  have hKa : tyK a i = nats a.types[i].kids := by unfold tyK; rw [hx]; rfl
  have hKb : tyK b j = nats b.types[j].kids := by unfold tyK; rw [hy]; rfl
  rw [hA, hKa, hKb] at hS;obtain ⟨x, hx'⟩ : ∃ x, a.types[i] = x := ⟨_, rfl⟩;obtain ⟨y, hy'⟩ : ∃ y, b.types[j] = y := ⟨_, rfl⟩;rw [hx'] at hq hcq hfew hrg hS;rw [hy'] at hq' hcq' hfew' hrg' hS;obtain ⟨R, hR⟩ : ∃ R, same (atY a b) (tyK a) (tyK b) i j = R := ⟨_, rfl⟩;rw [hR] at hS ⊢;have e0 : W1.cell? ⟨bb, off + i * 6, none⟩ = some (.int .i64 x.kind) := (hB1.cell (p := ⟨bb, off + i * 6, none⟩) hbb).trans (hcq 0 _ rfl);have e1 : W1.cell? ⟨bb, off + i * 6 + 1, none⟩ = some (.int .i64 x.pos) := (hB1.cell (p := ⟨bb, off + i * 6 + 1, none⟩) hbb).trans (hcq 1 _ rfl);have e2 : W1.cell? ⟨bb, off + i * 6 + 2, none⟩ = some (.string x.name) := (hB1.cell (p := ⟨bb, off + i * 6 + 2, none⟩) hbb).trans (hcq 2 _ rfl);have e3 : W1.cell? ⟨bb, off + i * 6 + 3, none⟩ = some (.slice p3 x.names.length q3) := (hB1.cell (p := ⟨bb, off + i * 6 + 3, none⟩) hbb).trans (hcq 3 _ rfl);have e4 : W1.cell? ⟨bb, off + i * 6 + 4, none⟩ = some (.slice p4 x.kids.length q4) := (hB1.cell (p := ⟨bb, off + i * 6 + 4, none⟩) hbb).trans (hcq 4 _ rfl);have e5 : W1.cell? ⟨bb, off + i * 6 + 5, none⟩ = some (.bool x.opn) := (hB1.cell (p := ⟨bb, off + i * 6 + 5, none⟩) hbb).trans (hcq 5 _ rfl);have l0 : W1.cell? ⟨be, oe + j * 6, none⟩ = some (.int .i64 y.kind) := (hB1.cell (p := ⟨be, oe + j * 6, none⟩) hbe).trans (hcq' 0 _ rfl);have l1 : W1.cell? ⟨be, oe + j * 6 + 1, none⟩ = some (.int .i64 y.pos) := (hB1.cell (p := ⟨be, oe + j * 6 + 1, none⟩) hbe).trans (hcq' 1 _ rfl);have l2 : W1.cell? ⟨be, oe + j * 6 + 2, none⟩ = some (.string y.name) := (hB1.cell (p := ⟨be, oe + j * 6 + 2, none⟩) hbe).trans (hcq' 2 _ rfl);have l3 : W1.cell? ⟨be, oe + j * 6 + 3, none⟩ = some (.slice s3 y.names.length t3) := (hB1.cell (p := ⟨be, oe + j * 6 + 3, none⟩) hbe).trans (hcq' 3 _ rfl);have l4 : W1.cell? ⟨be, oe + j * 6 + 4, none⟩ = some (.slice s4 y.kids.length t4) := (hB1.cell (p := ⟨be, oe + j * 6 + 4, none⟩) hbe).trans (hcq' 4 _ rfl);have l5 : W1.cell? ⟨be, oe + j * 6 + 5, none⟩ = some (.bool y.opn) := (hB1.cell (p := ⟨be, oe + j * 6 + 5, none⟩) hbe).trans (hcq' 5 _ rfl);have HK : Hid (SlAt (Lt w.heap.size) w p4 x.kids.length (x.kids.map iv)) := zJv hq.2;have HK' : Hid (SlAt (Lt w.heap.size) w s4 y.kids.length (y.kids.map iv)) := zJv hq'.2;have HN : Hid (SlAt (Lt w.heap.size) w p3 x.names.length (x.names.map .string)) := zJv hq.1;have HN' : Hid (SlAt (Lt w.heap.size) w s3 y.names.length (y.names.map .string)) := zJv hq'.1;have hkl := hfew.2;have hkl' := hfew'.2;have hnl := hfew.1;have hnl' := hfew'.1;have HS := zJv hS;have HRG := zJv hrg;have HRG' := zJv hrg';have i1 : (0 : Int) ≤ (i : Int) := by omega
  have i2 : (i : Int) < (a.types.length : Int) := by omega
  have j1 : (0 : Int) ≤ (j : Int) := by omega
  have j2 : (j : Int) < (b.types.length : Int) := by omega
  clear hX hY hTa hTb hcell hcq hcell' hcq' hq hq' hx hy hx' hy' hfew hfew' hS hR hrg hrg' tT uT hA hKa hKb;go_enter Tryz.func14, Tryz.ntmps14
  go_wp2
  clear hW1
  have HSS : Hid (∀ W, Below W1.heap.size W1 W → (fun W => W.cell? ⟨bb, off + i * 6, none⟩ = some (.int .i64 x.kind) ∧ W.cell? ⟨bb, off + i * 6 + 1, none⟩ = some (.int .i64 x.pos) ∧ W.cell? ⟨bb, off + i * 6 + 2, none⟩ = some (.string x.name) ∧ W.cell? ⟨bb, off + i * 6 + 3, none⟩ = some (.slice p3 x.names.length q3) ∧ W.cell? ⟨bb, off + i * 6 + 4, none⟩ = some (.slice p4 x.kids.length q4) ∧ W.cell? ⟨bb, off + i * 6 + 5, none⟩ = some (.bool x.opn) ∧ W.cell? ⟨be, oe + j * 6, none⟩ = some (.int .i64 y.kind) ∧ W.cell? ⟨be, oe + j * 6 + 1, none⟩ = some (.int .i64 y.pos) ∧ W.cell? ⟨be, oe + j * 6 + 2, none⟩ = some (.string y.name) ∧ W.cell? ⟨be, oe + j * 6 + 3, none⟩ = some (.slice s3 y.names.length t3) ∧ W.cell? ⟨be, oe + j * 6 + 4, none⟩ = some (.slice s4 y.kids.length t4) ∧ W.cell? ⟨be, oe + j * 6 + 5, none⟩ = some (.bool y.opn) ∧ W.cell? ⟨w.heap.size, 1, none⟩ = some (.slice (some ⟨bb, off, none⟩) a.types.length c2) ∧ W.cell? ⟨w.heap.size + 1, 1, none⟩ = some (.slice (some ⟨be, oe, none⟩) b.types.length d2)) W) := zJv fun W hW => by
   have hl := hB1.size;refine ⟨(hW.cell (p := ⟨bb, _, none⟩) (zJy hbb hl)).trans e0, (hW.cell (p := ⟨bb, _, none⟩) (zJy hbb hl)).trans e1, (hW.cell (p := ⟨bb, _, none⟩) (zJy hbb hl)).trans e2, (hW.cell (p := ⟨bb, _, none⟩) (zJy hbb hl)).trans e3, (hW.cell (p := ⟨bb, _, none⟩) (zJy hbb hl)).trans e4, (hW.cell (p := ⟨bb, _, none⟩) (zJy hbb hl)).trans e5, (hW.cell (p := ⟨be, _, none⟩) (zJy hbe hl)).trans l0, (hW.cell (p := ⟨be, _, none⟩) (zJy hbe hl)).trans l1, (hW.cell (p := ⟨be, _, none⟩) (zJy hbe hl)).trans l2, (hW.cell (p := ⟨be, _, none⟩) (zJy hbe hl)).trans l3, (hW.cell (p := ⟨be, _, none⟩) (zJy hbe hl)).trans l4, (hW.cell (p := ⟨be, _, none⟩) (zJy hbe hl)).trans l5, (hW.cell (p := ⟨_, _, none⟩) hzX).trans x1, (hW.cell (p := ⟨_, _, none⟩) hzY).trans y1⟩
  go_cut [9, 10] from 11 (fun v9 v10 wx => ∃ B9 B10, v9 = .pointer (some ⟨B9, 0, none⟩) ∧ v10 = .pointer (some ⟨B10, 0, none⟩) ∧ Hid (Blk wx B9 40 #[.int .i64 x.kind, .int .i64 x.pos, .string x.name, .slice p3 x.names.length q3, .slice p4 x.kids.length q4, .bool x.opn]) ∧ Hid (Blk wx B10 40 #[.int .i64 y.kind, .int .i64 y.pos, .string y.name, .slice s3 y.names.length t3, .slice s4 y.kids.length t4, .bool y.opn]) ∧ Below W1.heap.size W1 wx)
  case first =>
   clear e0 e1 e2 e3 e4 e5 l0 l1 l2 l3 l4 l5 x1 y1;refine wp_region_noPanic ?_;refine wp_region_held_drew (S := fun W => W.cell? ⟨bb, off + i * 6, none⟩ = some (.int .i64 x.kind) ∧ W.cell? ⟨bb, off + i * 6 + 1, none⟩ = some (.int .i64 x.pos) ∧ W.cell? ⟨bb, off + i * 6 + 2, none⟩ = some (.string x.name) ∧ W.cell? ⟨bb, off + i * 6 + 3, none⟩ = some (.slice p3 x.names.length q3) ∧ W.cell? ⟨bb, off + i * 6 + 4, none⟩ = some (.slice p4 x.kids.length q4) ∧ W.cell? ⟨bb, off + i * 6 + 5, none⟩ = some (.bool x.opn) ∧ W.cell? ⟨be, oe + j * 6, none⟩ = some (.int .i64 y.kind) ∧ W.cell? ⟨be, oe + j * 6 + 1, none⟩ = some (.int .i64 y.pos) ∧ W.cell? ⟨be, oe + j * 6 + 2, none⟩ = some (.string y.name) ∧ W.cell? ⟨be, oe + j * 6 + 3, none⟩ = some (.slice s3 y.names.length t3) ∧ W.cell? ⟨be, oe + j * 6 + 4, none⟩ = some (.slice s4 y.kids.length t4) ∧ W.cell? ⟨be, oe + j * 6 + 5, none⟩ = some (.bool y.opn) ∧ W.cell? ⟨w.heap.size, 1, none⟩ = some (.slice (some ⟨bb, off, none⟩) a.types.length c2) ∧ W.cell? ⟨w.heap.size + 1, 1, none⟩ = some (.slice (some ⟨be, oe, none⟩) b.types.length d2)) (by kernel_rfl) (HSS.out _ (Below.drew (zJx _ _))) (fun hHeld => ?_);refine tkH 0 ?_;try simp only [Act.put, sA, sB, sC]
   refine tkH 1 ?_;try simp only [Act.put, sA, sB, sC]
   refine tkH 2 ?_;try simp only [Act.put, sA, sB, sC]
   refine tkH 3 ?_;try simp only [Act.put, sA, sB, sC]
   refine tkH 4 ?_;try simp only [Act.put, sA, sB, sC]
   refine tkH 5 ?_;try simp only [Act.put, sA, sB, sC]
   refine tkH 6 ?_;try simp only [Act.put, sA, sB, sC]
   refine tkH 7 ?_;try simp only [Act.put, sA, sB, sC]
   refine wpAnyH_take (i := 8) (v := ?v9) (by simp only [gA, gB, gC]; rfl) (by kernel_rfl) (by kernel_rfl) (by kernel_rfl) (fun _ _ _ h => h) (Or.inl ⟨by rfl, ?hy9⟩) (by assumption) ?rest9
   case hy9 => (intro w hSw; (try dsimp only at hSw); go_simp; try with_reducible rfl)
   try simp only [Act.put, sA, sB, sC]
   refine wpAnyH_take (i := 9) (v := ?v10) (by simp only [gA, gB, gC]; rfl) (by kernel_rfl) (by kernel_rfl) (by kernel_rfl) (fun _ _ _ h => h) (Or.inl ⟨by rfl, ?hy10⟩) (by assumption) ?rest10
   case hy10 => (intro w hSw; (try dsimp only at hSw); go_simp; try with_reducible rfl)
   try simp only [Act.put, sA, sB, sC]
   refine wpAnyH_ready (rs := [10, 11]) (by kernel_rfl) (by simp) ?_;refine (AllReadyH.cons (by simp only [gA, gB, gC]; rfl) (fun K hK => ?st11) (AllReadyH.cons (by simp only [gA, gB, gC]; rfl) (fun K hK => ?st12) AllReadyH.nil))
   case st11 =>
    go_simp
    refine hK.out _ _ ?hS11 (fun hHeld => ?_)
    case hS11 => exact HSS.out _ (by repeat (first | (with_reducible exact zJx _ _) | (with_reducible refine Below.drew ?_) | (with_reducible refine Below.alloc ?_ (by simp) _)))
    clear hK K;try simp only [Act.put, sA, sB, sC]
    refine rdH 11 (fun K hK => ?st13)
    case st13 =>
     go_simp
     refine hK.out _ _ ?hS13 (fun hHeld => ?_)
     case hS13 => exact HSS.out _ (by repeat (first | (with_reducible exact zJx _ _) | (with_reducible refine Below.drew ?_) | (with_reducible refine Below.alloc ?_ (by simp) _)))
     clear hK K;try simp only [Act.put, sA, sB, sC]
     refine rdH 12 (fun K hK => ?st14)
     case st14 =>
      go_simp
      refine hK.out _ _ ?hS14 (fun hHeld => ?_)
      case hS14 => exact HSS.out _ (by repeat (first | (with_reducible exact zJx _ _) | (with_reducible refine Below.drew ?_) | (with_reducible refine Below.alloc ?_ (by simp) _)))
      clear hK K;try simp only [Act.put, sA, sB, sC]
      refine rdH 13 (fun K hK => ?st15)
      case st15 =>
       go_simp
       refine hK.out _ _ ?hS15 (fun hHeld => ?_)
       case hS15 => exact HSS.out _ (by repeat (first | (with_reducible exact zJx _ _) | (with_reducible refine Below.drew ?_) | (with_reducible refine Below.alloc ?_ (by simp) _)))
       clear hK K;try simp only [Act.put, sA, sB, sC]
       refine wpAnyH_done (by kernel_rfl) ?_ _;refine NoPanic.normal ?_;go_wp2_with fail
       go_meet
       case rel => exact ⟨_, _, rfl, rfl, zJv ((Blk.new W1 40 _).alloc _), zJv (by have := Blk.new (W1.alloc (.cells #[.int .i64 x.kind, .int .i64 x.pos, .string x.name, .slice p3 x.names.length q3, .slice p4 x.kids.length q4, .bool x.opn] 40)) 40 #[.int .i64 y.kind, .int .i64 y.pos, .string y.name, .slice s3 y.names.length t3, .slice s4 y.kids.length t4, .bool y.opn]; rwa [zKh] at this), (by repeat (first | (with_reducible exact zJx _ _) | (with_reducible refine Below.drew ?_) | (with_reducible refine Below.alloc ?_ (by simp) _)))⟩
   case st12 =>
    go_simp
    refine hK.out _ _ ?hS12 (fun hHeld => ?_)
    case hS12 => exact HSS.out _ (by repeat (first | (with_reducible exact zJx _ _) | (with_reducible refine Below.drew ?_) | (with_reducible refine Below.alloc ?_ (by simp) _)))
    clear hK K;try simp only [Act.put, sA, sB, sC]
    refine rdH 10 (fun K hK => ?st16)
    case st16 =>
     go_simp
     refine hK.out _ _ ?hS16 (fun hHeld => ?_)
     case hS16 => exact HSS.out _ (by repeat (first | (with_reducible exact zJx _ _) | (with_reducible refine Below.drew ?_) | (with_reducible refine Below.alloc ?_ (by simp) _)))
     clear hK K;try simp only [Act.put, sA, sB, sC]
     refine rdH 12 (fun K hK => ?st17)
     case st17 =>
      go_simp
      refine hK.out _ _ ?hS17 (fun hHeld => ?_)
      case hS17 => exact HSS.out _ (by repeat (first | (with_reducible exact zJx _ _) | (with_reducible refine Below.drew ?_) | (with_reducible refine Below.alloc ?_ (by simp) _)))
      clear hK K;try simp only [Act.put, sA, sB, sC]
      refine rdH 13 (fun K hK => ?st18)
      case st18 =>
       go_simp
       refine hK.out _ _ ?hS18 (fun hHeld => ?_)
       case hS18 => exact HSS.out _ (by repeat (first | (with_reducible exact zJx _ _) | (with_reducible refine Below.drew ?_) | (with_reducible refine Below.alloc ?_ (by simp) _)))
       clear hK K;try simp only [Act.put, sA, sB, sC]
       refine wpAnyH_done (by kernel_rfl) ?_ _;refine NoPanic.normal ?_;go_wp2_with fail
       go_meet
       case rel => exact ⟨_, _, rfl, rfl, zJv (by have := Blk.new (W1.alloc (.cells #[.int .i64 y.kind, .int .i64 y.pos, .string y.name, .slice s3 y.names.length t3, .slice s4 y.kids.length t4, .bool y.opn] 40)) 40 #[.int .i64 x.kind, .int .i64 x.pos, .string x.name, .slice p3 x.names.length q3, .slice p4 x.kids.length q4, .bool x.opn]; rwa [zKh] at this), zJv ((Blk.new W1 40 _).alloc _), (by repeat (first | (with_reducible exact zJx _ _) | (with_reducible refine Below.drew ?_) | (with_reducible refine Below.alloc ?_ (by simp) _)))⟩
  case rest =>
   obtain ⟨B9, B10, rfl, rfl, HX9, HX10, hBc⟩ := hcut;have hBw : Below w.heap.size w wc := hB1.trans (hBc.mono hB1.size);have h9 := HX9.out.lt;have h10 := HX10.out.lt;have hszc := hBc.size;clear e0 e1 e2 e3 e4 e5 l0 l1 l2 l3 l4 l5 x1 y1 HSS;have m0 := HX9.out.cell 0;have m1 := HX9.out.cell 1;have m2 := HX9.out.cell 2;have m3 := HX9.out.cell 3;have m4 := HX9.out.cell 4;have m5 := HX9.out.cell 5;simp only [gA, gB, gC] at m0 m1 m2 m3 m4 m5;have u0 := HX10.out.cell 0;have u1 := HX10.out.cell 1;have u2 := HX10.out.cell 2;have u3 := HX10.out.cell 3;have u4 := HX10.out.cell 4;have u5 := HX10.out.cell 5;simp only [gA, gB, gC] at u0 u1 u2 u3 u4 u5;have k67 : Hid (∀ W, Below wc.heap.size wc W → Calls Tryz.prog 27 #[.slice p3 x.names.length q3, .slice s3 y.names.length t3] W fun e w' => e = .returned (.bool (decide (x.names = y.names))) ∧ Below W.heap.size W w') := zJv fun W hW => zqg p3 s3 q3 t3 x.names y.names W (zjx HN.out (hBw.trans (hW.mono (by have := hBw.size; omega)))) (zjx HN'.out (hBw.trans (hW.mono (by have := hBw.size; omega)))) (by omega) (by omega);obtain ⟨n3, hn3⟩ : ∃ c, decide (x.names = y.names) = c := ⟨_, rfl⟩;have hp3 : (x.names = y.names) ↔ n3 = true := by rw [← hn3, zKq]
   rw [hn3] at k67;obtain ⟨n0, hn0⟩ : ∃ c, (x.kind != y.kind) = c := ⟨_, rfl⟩;have hq0 : (x.kind == y.kind) = !n0 := by rw [← hn0]; first | (simp only [bne, Bool.not_not]) | (cases ((x.kind != y.kind)) <;> rfl)
   have hp0 : (x.kind = y.kind) ↔ n0 = false := by rw [← hn0, bne_eq_false_iff_eq]
   obtain ⟨n1, hn1⟩ : ∃ c, (x.name.toList != y.name.toList) = c := ⟨_, rfl⟩;have hq1 : (x.name.toList == y.name.toList) = !n1 := by rw [← hn1]; first | (simp only [bne, Bool.not_not]) | (cases ((x.name.toList != y.name.toList)) <;> rfl)
   have hp1 : (x.name = y.name) ↔ n1 = false := by rw [← hn1, bne_eq_false_iff_eq]; exact ⟨fun e => by rw [e], toList_inj⟩
   obtain ⟨n2, hn2⟩ : ∃ c, (x.opn != y.opn) = c := ⟨_, rfl⟩;have hq2 : (x.opn == y.opn) = !n2 := by rw [← hn2]; first | (simp only [bne, Bool.not_not]) | (cases ((x.opn != y.opn)) <;> rfl)
   have hp2 : (x.opn = y.opn) ↔ n2 = false := by rw [← hn2, bne_eq_false_iff_eq]
   have hRR : R = (!n0 && !n1 && !n2 && n3 && all2 (same (atY a b) (tyK a) (tyK b)) (nats x.kids) (nats y.kids)) := by
    rw [HS.out];congr 1
    unfold smY;simp only [hp0, hp1, hp2, hp3, Bool.decide_and, Bool.and_assoc];cases n0 <;> cases n1 <;> cases n2 <;> cases n3 <;> rfl
   have HRR := zJv hRR;clear hRR hp0 hp1 hp2 hp3 hn3;cases n0
   case true =>
    simp only [Bool.not_true] at hq0;have hf : R = false := by rw [HRR.out]; simp
    subst hf;clear HRR HS;go_wp2
    go_ret;exact ⟨rfl, hBw⟩
   case false =>
    simp only [Bool.not_false] at hq0;cases n1
    case true =>
     simp only [Bool.not_true] at hq1;have hf : R = false := by rw [HRR.out]; simp
     subst hf;clear HRR HS;go_wp2
     go_ret;exact ⟨rfl, hBw⟩
    case false =>
     simp only [Bool.not_false] at hq1;cases n2
     case true =>
      simp only [Bool.not_true] at hq2;have hf : R = false := by rw [HRR.out]; simp
      subst hf;clear HRR HS;go_wp2
      go_ret;exact ⟨rfl, hBw⟩
     case false =>
      simp only [Bool.not_false] at hq2;cases n3
      case false =>
       have hf : R = false := by rw [HRR.out]; simp
       subst hf;clear HRR HS;go_wp2_with (go_at_call 27; refine (k67.out _ (by exact zJx _ _)).mono ?_; rintro e w3 ⟨rfl, hb3⟩; have hB3 := hBw.trans (hb3.mono (by have := hBw.size; omega)))
       go_ret;exact ⟨rfl, hB3⟩
      case true =>
       by_cases hlen : x.kids.length = y.kids.length
       case neg =>
        have hf : R = false := by rw [HRR.out, zjr (by unfold nats; rw [zKd, zKd]; exact hlen)]; simp
        subst hf;have hne : ((x.kids.length : Int) != (y.kids.length : Int)) = true := by rw [bne_iff_ne]; omega
        clear HRR HS;go_wp2_with (go_at_call 27; refine (k67.out _ (by exact zJx _ _)).mono ?_; rintro e w3 ⟨rfl, hb3⟩; have hB3 := hBw.trans (hb3.mono (by have := hBw.size; omega)); have m4 := (hb3.cell (p := ⟨B9, 4, none⟩) h9).trans m4; have u4 := (hb3.cell (p := ⟨B10, 4, none⟩) h10).trans u4; clear hb3)
        go_ret;exact ⟨rfl, hB3⟩
       case pos =>
        have hne : ((x.kids.length : Int) != (y.kids.length : Int)) = false := by rw [bne_eq_false_iff_eq]; omega
        have HLEN := zJv hlen;have HRF : Hid (R = all2 (same (atY a b) (tyK a) (tyK b)) (nats x.kids) (nats y.kids)) := zJv (by rw [HRR.out]; rfl);have HX4 := zJv (HX.out.below hBc hzX);have HY4 := zJv (HY.out.below hBc hzY);clear hlen HRR HS;go_wp2_with (go_at_call 27; refine (k67.out _ (by exact zJx _ _)).mono ?_; rintro e w3 ⟨rfl, hb3⟩; have hB3 := hBw.trans (hb3.mono (by have := hBw.size; omega)); have hBz := hBc.trans (hb3.mono hszc); have HM := zJv (HX9.out.below hb3 h9); have HU := zJv (HX10.out.below hb3 h10); have HXc := zJv (HX4.out.below hb3 (zJy hzX hszc)); have HYc := zJv (HY4.out.below hb3 (zJy hzY hszc)); have m4 := (hb3.cell (p := ⟨B9, 4, none⟩) h9).trans m4; have u4 := (hb3.cell (p := ⟨B10, 4, none⟩) h10).trans u4; have k9 := zJy h9 hb3.size; have k10 := zJy h10 hb3.size; clear hb3)
        have hz3 := hB3.size;obtain ⟨WS, hWS⟩ : ∃ WS, WS = w3 := ⟨w3, rfl⟩;subst hWS;go_loopw [11, 61] (fun _ k0 wr => ∃ (k : Nat), k ≤ x.kids.length ∧ k0 = .int .i64 k ∧ Hid (all2 (same (atY a b) (tyK a) (tyK b)) ((nats x.kids).take k) ((nats y.kids).take k) = true) ∧ Below WS.heap.size WS wr) (fun _ k0 _ => x.kids.length - (intOf k0).toNat)
        case atStart => exact ⟨0, zK8 _, rfl, zJv (by simp [all2]), zJx _ _⟩
        case round =>
         obtain ⟨k, hk, rfl, HT, hB⟩ := hrel;have hBr : Below w.heap.size w wr := hB3.trans (hB.mono hz3);have hzr := hB.size;by_cases hlt : k < x.kids.length
         · have hlt' : k < y.kids.length := by have := HLEN.out; omega
           have lx : k < (nats x.kids).length := by unfold nats; rw [zKd]; exact hlt
           have ly : k < (nats y.kids).length := by unfold nats; rw [zKd]; exact hlt'
           have gx : (nats x.kids)[k] = (x.kids[k]).toNat := by simp [nats]
           have gy : (nats y.kids)[k] = (y.kids[k]).toNat := by simp [nats]
           have HGOOD := zJv (zha lx ly HT.out);have HBAD := zJv (ziq (f := (same (atY a b) (tyK a) (tyK b))) lx ly);rw [gx, gy] at HGOOD HBAD;obtain ⟨bx, ox, rfl, hwx, hcx⟩ := HK.out.at_ hlt;obtain ⟨by_, oy, rfl, hwy, hcy⟩ := HK'.out.at_ hlt';have f1 := (hBr.cell (p := ⟨bx, ox + k, none⟩) hwx).trans (hcx k (iv x.kids[k]) (by simp [hlt]));have f2 := (hBr.cell (p := ⟨by_, oy + k, none⟩) hwy).trans (hcy k (iv y.kids[k]) (by simp [hlt']));unfold iv at f1 f2;have hlx : bx < wr.heap.size := zJy hwx hBr.size;have hly : by_ < wr.heap.size := zJy hwy hBr.size;have hz1 := HRG.out _ (zKe hlt);have hz2 := HRG'.out _ (zKe hlt');obtain ⟨z, hz⟩ : ∃ z, x.kids[k] = z := ⟨_, rfl⟩;obtain ⟨z', hz'⟩ : ∃ z, y.kids[k] = z := ⟨_, rfl⟩;rw [hz] at f1 hz1;rw [hz'] at f2 hz2;rw [hz, hz'] at HGOOD HBAD;obtain ⟨k1, hk1⟩ : ∃ n : Nat, z = (n : Int) := ⟨z.toNat, by omega⟩;obtain ⟨k2, hk2⟩ : ∃ n : Nat, z' = (n : Int) := ⟨z'.toNat, by omega⟩;subst hk1;subst hk2;rw [Int.toNat_natCast, Int.toNat_natCast] at HGOOD HBAD;have kI : Hid (∀ W, Below wr.heap.size wr W → Calls Tryz.prog 14 #[treeV a ⟨a1, c1, (some ⟨bb, off, none⟩), c2, a3, c3⟩, .int .i64 (k1 : Int), treeV b ⟨b1, d1, (some ⟨be, oe, none⟩), d2, b3, d3⟩, .int .i64 (k2 : Int)] W fun e w' => e = .returned (.bool ((same (atY a b) (tyK a) (tyK b)) k1 k2)) ∧ Below W.heap.size W w') := zJv fun W hW => IH.out k1 k2 (by omega) (by omega) (by omega) W (zc7 HTa.out (hBr.trans (hW.mono hBr.size))) (zc7 HTb.out (hBr.trans (hW.mono hBr.size)));obtain ⟨Q, hQ⟩ : ∃ Q, (same (atY a b) (tyK a) (tyK b)) k1 k2 = Q := ⟨_, rfl⟩;rw [hQ] at kI HGOOD HBAD;unfold treeV at kI;dsimp only at kI;have HXr := zJv (HXc.out.below hB HXc.out.lt);have HYr := zJv (HYc.out.below hB HYc.out.lt);have HMr := zJv (HM.out.below hB k9);have HUr := zJv (HU.out.below hB k10);have xl := HXr.out.lt;have yl := HYr.out.lt;have ml := HMr.out.lt;have ul := HUr.out.lt
           have HSS : Hid (∀ W, Below wr.heap.size wr W → (fun W : World => W.cell? ⟨w.heap.size, 0, none⟩ = some (.slice a1 a.nodes.length c1) ∧ W.cell? ⟨w.heap.size, 1, none⟩ = some (.slice (some ⟨bb, off, none⟩) a.types.length c2) ∧ W.cell? ⟨w.heap.size, 2, none⟩ = some (.slice a3 a.aliases.length c3) ∧ W.cell? ⟨w.heap.size + 1, 0, none⟩ = some (.slice b1 b.nodes.length d1) ∧ W.cell? ⟨w.heap.size + 1, 1, none⟩ = some (.slice (some ⟨be, oe, none⟩) b.types.length d2) ∧ W.cell? ⟨w.heap.size + 1, 2, none⟩ = some (.slice b3 b.aliases.length d3) ∧ W.cell? ⟨B9, 4, none⟩ = some (.slice (some ⟨bx, ox, none⟩) x.kids.length q4) ∧ W.cell? ⟨B10, 4, none⟩ = some (.slice (some ⟨by_, oy, none⟩) y.kids.length t4) ∧ W.cell? ⟨bx, ox + k, none⟩ = some (.int .i64 (k1 : Int)) ∧ W.cell? ⟨by_, oy + k, none⟩ = some (.int .i64 (k2 : Int)) ∧ Below wr.heap.size wr W) W) := zJv fun W hW => by
            have A := HXr.out.below hW xl;have B := HYr.out.below hW yl;have C := HMr.out.below hW ml;have D := HUr.out.below hW ul;have A0 := A.cell 0;have A1 := A.cell 1;have A2 := A.cell 2;have B0 := B.cell 0;have B1 := B.cell 1;have B2 := B.cell 2;have C4 := C.cell 4;have D4 := D.cell 4;simp only [gA, gB, gC] at A0 A1 A2 B0 B1 B2 C4 D4;exact ⟨A0, A1, A2, B0, B1, B2, C4, D4, (hW.cell (p := ⟨bx, _, none⟩) hlx).trans f1, (hW.cell (p := ⟨by_, _, none⟩) hly).trans f2, hW⟩
           have i1 : (0 : Int) ≤ (k : Int) := by omega
           have i2 : (k : Int) < (x.kids.length : Int) := by omega
           have i3 : (k : Int) < (y.kids.length : Int) := by omega
           have hB0 := zJx wr.heap.size wr;clear hz hz' hQ f1 f2 gx gy lx ly m4 u4 hwx hwy hcx hcy;go_wp2_with fail
           refine wp_region_noPanic ?_;refine wp_region_held_drew (S := fun W => W.cell? ⟨w.heap.size, 0, none⟩ = some (.slice a1 a.nodes.length c1) ∧ W.cell? ⟨w.heap.size, 1, none⟩ = some (.slice (some ⟨bb, off, none⟩) a.types.length c2) ∧ W.cell? ⟨w.heap.size, 2, none⟩ = some (.slice a3 a.aliases.length c3) ∧ W.cell? ⟨w.heap.size + 1, 0, none⟩ = some (.slice b1 b.nodes.length d1) ∧ W.cell? ⟨w.heap.size + 1, 1, none⟩ = some (.slice (some ⟨be, oe, none⟩) b.types.length d2) ∧ W.cell? ⟨w.heap.size + 1, 2, none⟩ = some (.slice b3 b.aliases.length d3) ∧ W.cell? ⟨B9, 4, none⟩ = some (.slice (some ⟨bx, ox, none⟩) x.kids.length q4) ∧ W.cell? ⟨B10, 4, none⟩ = some (.slice (some ⟨by_, oy, none⟩) y.kids.length t4) ∧ W.cell? ⟨bx, ox + k, none⟩ = some (.int .i64 (k1 : Int)) ∧ W.cell? ⟨by_, oy + k, none⟩ = some (.int .i64 (k2 : Int)) ∧ Below wr.heap.size wr W) (by kernel_rfl) (HSS.out _ (Below.drew hB0)) (fun hHeld => ?_);refine tkH 0 ?_;try simp only [Act.put, sA, sB, sC]
           refine tkH 1 ?_;try simp only [Act.put, sA, sB, sC]
           refine tkH 2 ?_;try simp only [Act.put, sA, sB, sC]
           refine tkH 3 ?_;try simp only [Act.put, sA, sB, sC]
           refine tkH 4 ?_;try simp only [Act.put, sA, sB, sC]
           refine tkH 5 ?_;try simp only [Act.put, sA, sB, sC]
           refine tkH 6 ?_;try simp only [Act.put, sA, sB, sC]
           refine tkH 7 ?_;try simp only [Act.put, sA, sB, sC]
           refine tkH 8 ?_;try simp only [Act.put, sA, sB, sC]
           refine tkH 9 ?_;try simp only [Act.put, sA, sB, sC]
           refine tkH 10 ?_;try simp only [Act.put, sA, sB, sC]
           refine tkH 11 ?_;try simp only [Act.put, sA, sB, sC]
           refine rdH 12 (fun K hK => ?_);go_simp; go_at_call 14; (with_reducible refine (kI.out _ (Below.drew hB0)).mono ?_); rintro e w6 ⟨rfl, b6'⟩; have b6 := (Below.drew hB0).trans (b6'.mono (by exact zJw _))
           go_wp2_with fail
           refine hK.out _ _ ?hSq13 (fun hHeld => ?_)
           case hSq13 => exact HSS.out _ b6
           clear hK K;try simp only [Act.put, sA, sB, sC]
           refine tkH 13 ?_;try simp only [Act.put, sA, sB, sC]
           refine wpAnyH_done (by kernel_rfl) ?_ _;refine NoPanic.normal ?_;cases Q
           · have hRf := HBAD.out rfl
             have HF : Hid (R = false) := zJv (by rw [HRF.out]; exact hRf);clear hRf HBAD HGOOD HRF;go_wp2
             go_ret;exact ⟨za7 HF.out.symm, hBr.trans (b6.mono hBr.size)⟩
           · have HG := zJv (HGOOD.out rfl)
             clear HBAD HGOOD;go_wp2
             go_roundw
             case rel => exact ⟨k + 1, by omega, by go_num, HG, hB.trans (b6.mono hzr)⟩
             case measure => simp [intOf]; omega
         · obtain rfl : k = x.kids.length := by omega
           go_wp2
           go_ret;exact ⟨za7 (by rw [HRF.out]; have h := HT.out; rw [List.take_of_length_le (by unfold nats; rw [zKd]; omega), List.take_of_length_le (by unfold nats; rw [zKd]; have := HLEN.out; omega)] at h; exact h.symm), hBr⟩
end Go.Proofs.YtidmeodmkcomlaaGreatDoor
