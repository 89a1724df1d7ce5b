/- How often numbers stand in the rows of a tree, as the document reckons it. -/
import Derived.Test.YtidmeodmkcomlaaGreatDoorK26
import Derived.Test.YtidmeodmkcomlaaGreatDoorK32
import Derived.Test.YtidmeodmkcomlaaGreatDoorK33
set_option linter.unusedSimpArgs false
set_option linter.unusedVariables false
namespace Go.Proofs.YtidmeodmkcomlaaGreatDoor
open Go Go.Proofs Go.RowKit
set_option maxHeartbeats 4000000
def zyg (Pb : Nat → Prop) (w : World) (A : Option Addr) (rows : List (List Int)) : Prop :=
 rows = [] ∨ ∃ b off, A = some ⟨b, off, none⟩ ∧ Pb b ∧ ∀ i row, rows[i]? = some row → ∃ A' c', w.cell? ⟨b, off + i, none⟩ = some (.slice A' row.length c') ∧ SlAt Pb w A' row.length (row.map iv)
def tick (us : List Int) (k : Int) : List Int := if 0 ≤ k ∧ k < us.length then us.set k.toNat (us.getD k.toNat 0 + 1) else us
def ticks (us ks : List Int) : List Int := ks.foldl tick us
theorem zji (us a b : List Int) : ticks us (a ++ b) = ticks (ticks us a) b := List.foldl_append
theorem zl0 (us : List Int) (k : Int) : (tick us k).length = us.length := by unfold tick; split <;> simp
theorem zhg : ∀ (ks us : List Int), (ticks us ks).length = us.length
 | [], _ => rfl
 | k :: ks, us => by
  show (ticks (tick us k) ks).length = _
  rw [zhg ks, zl0]
theorem zDo (us : List Int) (k : Int) (j : Nat) (hj : j < us.length) : (tick us k).getD j 0 = us.getD j 0 + (if k = (j : Int) then 1 else 0) := by
 unfold tick;split
 · rename_i h
   have hk : k.toNat < us.length := by omega
   simp only [zK3, List.getElem?_set];by_cases e : k = (j : Int)
   · subst e
     simp [hj]
   · rw [if_neg (by omega), if_neg e, Int.add_zero]
 · rename_i h
   rw [if_neg (by omega), Int.add_zero]
theorem zpj : ∀ (ks us : List Int) (j : Nat), j < us.length → (ticks us ks).getD j 0 = us.getD j 0 + (ks.count (j : Int) : Int)
 | [], us, j, _ => by simp [ticks]
 | k :: ks, us, j, h => by
  show (ticks (tick us k) ks).getD j 0 = _
  rw [zpj ks _ j (by rw [zl0]; exact h), zDo us k j h, List.count_cons];by_cases e : k = (j : Int)
  · simp [e]; omega
  · have : (k == (j : Int)) = false := by simpa using e
    simp [e, this]
def Upto (us : List Int) (m : Nat) : Prop := ∀ u ∈ us, 0 ≤ u ∧ u ≤ (m : Int)
theorem Upto.tick {us : List Int} {m : Nat} (h : Upto us m) (k : Int) : Upto (tick us k) (m + 1) := fun u hu => by
 unfold Go.Proofs.YtidmeodmkcomlaaGreatDoor.tick at hu;split at hu
 · rename_i hk
   rcases List.mem_or_eq_of_mem_set hu with hu | rfl
   · have := h u hu; omega
   · have hl : k.toNat < us.length := by omega
     have := h (us.getD k.toNat 0) (by rw [zK3, zK1 hl]; exact zKe hl);omega
 · have := h u hu; omega
theorem Upto.zero (n m : Nat) : Upto (List.replicate n 0) m := fun u hu => by rw [List.eq_of_mem_replicate hu]; omega
theorem zvx (n : Nat) (hn : n ≤ 65536) (W : World) : (Instr.makeSlice 36 (.int .i64 (n : Int)) (.int .i64 (n : Int))).run Tryz.prog W = .ok (.slice (some ⟨W.heap.size, 0, none⟩) n n) (W.alloc (.cells (ivs (List.replicate n 0)) 3)) := by
 obtain ⟨i0, hi, hz0, hz1, hz2⟩ := info_parts info3;have := run_make (P := Tryz.prog) W 36 3 i0 (.int .i64 0) Tryz.underlying36 hi hz0 .i64 .i64 (n : Int) (n : Int) (by omega) (by omega) (by rw [hz2]; omega) (by omega);rw [this, hz1];simp only [Int.toNat_natCast, Nat.mul_one];have e : (Value.int IntKind.i64 0).cells = #[.int .i64 0] := rfl;rw [e, zE8]
theorem zBw (us : List Int) (j : Nat) (u : Int) : (ivs us).setIfInBounds j (.int .i64 u) = ivs (us.set j u) := by
 simp [ivs, List.map_set]
set_option maxRecDepth 100000 in
theorem zqk (n : Nat) (A : Option Addr) (c : Nat) (rows : List (List Int)) (w : World) (h : zyg (Lt w.heap.size) w A rows) (hn : n ≤ 1000) (hm : rows.length ≤ 100000) (hl : ∀ row ∈ rows, row.length ≤ 1000) :
 Calls Tryz.prog 34 #[.int .i64 (n : Int), .slice A rows.length c] w fun e w' => e = .returned (.slice (some ⟨w.heap.size, 0, none⟩) n n) ∧ Blk w' w.heap.size 3 (ivs (ticks (List.replicate n 0) rows.flatten)) ∧ Below w.heap.size w w' := by
 have kM := zvx n (by omega) w;obtain ⟨W1, hW1⟩ : ∃ W1, w.alloc (.cells (ivs (List.replicate n 0)) 3) = W1 := ⟨_, rfl⟩;have hB1 : Below w.heap.size w W1 := by rw [← hW1]; exact (zJx _ _).alloc (zJw _) _
 have hX1 : Blk W1 w.heap.size 3 (ivs (List.replicate n 0)) := by rw [← hW1]; exact Blk.new w 3 _
 have H := zJv h;have HL := zJv hl;clear h hl;go_enter Tryz.func34, Tryz.ntmps34
 rw [hW1] at kM;go_wp2
 clear kM hW1;go_loopw [7, 9, 14] (fun _ _ i wr => ∃ (k : Nat) (cur : List Int), k ≤ rows.length ∧ i = .int .i64 k ∧ cur.length = n ∧ Hid (Upto cur (k * 1000)) ∧ Hid (cur = ticks (List.replicate n 0) (rows.take k).flatten) ∧ Hid (Blk wr w.heap.size 3 (ivs cur)) ∧ Below w.heap.size w wr) (fun _ _ i _ => rows.length - (intOf i).toNat)
 case atStart => exact ⟨0, _, zK8 _, rfl, by simp, zJv (Upto.zero _ _), zJv (by simp [ticks]), zJv hX1, hB1⟩
 case round =>
  obtain ⟨k, cur, hk, rfl, hcl, HU, HC, HX, hB⟩ := hrel;by_cases hlt : k < rows.length
  · rcases H.out with he | ⟨b, off, hA, hb, hcell⟩
    · rw [he] at hlt; simp at hlt
    · obtain ⟨A', c', e1, hS⟩ := hcell k _ (zK1 hlt)
      have f1 := (hB.cell (p := ⟨b, off + k, none⟩) hb).trans e1;have hrl := HL.out _ (zKe hlt);have htk : (rows.take (k + 1)).flatten = (rows.take k).flatten ++ rows[k] := by rw [zK9 hlt, List.flatten_append]; simp
      obtain ⟨row, hrow⟩ : ∃ row, rows[k] = row := ⟨_, rfl⟩;rw [hrow] at f1 hS hrl htk;subst hA;have HTK := zJv htk;have HS := zJv hS;have hB0 := hB;have HX0 := HX;have HU0 := HU;have hcl0 := hcl;clear e1 hcell hrow htk hS HX HU hcl hB;go_wp2
      go_loopw [9, 20] (fun _ i W => ∃ (j : Nat) (now : List Int), j ≤ row.length ∧ i = .int .i64 j ∧ now.length = n ∧ Hid (Upto now (k * 1000 + j)) ∧ Hid (now = ticks cur (row.take j)) ∧ Hid (Blk W w.heap.size 3 (ivs now)) ∧ Below w.heap.size w W) (fun _ i _ => row.length - (intOf i).toNat)
      case atStart => exact ⟨0, cur, zK8 _, rfl, hcl0, HU0, zJv (by simp [ticks]), HX0, hB0⟩
      case round =>
       obtain ⟨j, now, hj, rfl, hcl, HU, HN, HX, hB⟩ := hrel;have hzX := HX.out.lt;by_cases hjl : j < row.length
       · obtain ⟨b2, off2, rfl, e2⟩ := rd_at (RdAt.of_sl (HS.out.keep (zaa hB))) hjl
         have hjk : row.take (j + 1) = row.take j ++ [row[j]] := zK9 hjl;obtain ⟨z, hz⟩ : ∃ z, row[j] = z := ⟨_, rfl⟩;rw [hz] at e2 hjk;have hup := HU.out.tick z;have hnow : tick now z = ticks cur (row.take (j + 1)) := by rw [hjk, zji, ← HN.out]; rfl
         have hln := zl0 now z;have HUP := zJv hup;have HNOW := zJv hnow;clear hz hjk hup hnow;by_cases hr : 0 ≤ z ∧ z < (n : Int)
         · obtain ⟨q, hq⟩ : ∃ q : Nat, z = (q : Int) := ⟨z.toNat, by omega⟩
           subst hq;have hqn : q < now.length := by omega
           have e3 := (HX.out.cell q).trans (zn2 _ _ hqn);have g3 := HX.out.frozen q;have hb3 := HU.out now[q] (zKe hqn)
           have htv : tick now (q : Int) = now.set q (now[q] + 1) := by
            unfold tick;rw [if_pos (by omega), Int.toNat_natCast, zK3, zK1 hqn];rfl
           obtain ⟨y, hy⟩ : ∃ y, now[q] = y := ⟨_, rfl⟩;rw [hy] at e3 hb3 htv;obtain ⟨hb3, hb4⟩ := hb3;have hyb : y ≤ 1000000000 := by omega
           have hwr : IntKind.i64.wrap (y + 1) = y + 1 := IntWalk.i64_in _ (by omega);have hXn := HX.out.set_ q (.int .i64 (y + 1));rw [zBw, ← htv] at hXn;have HXN := zJv hXn;have hBn := hB.setCell (p := ⟨w.heap.size, q, none⟩) (zJw _) (.int .i64 (y + 1));have i1 : (0 : Int) ≤ (q : Int) := by omega
           have i2 : (q : Int) < (n : Int) := by omega
           have d1 : decide ((0 : Int) ≤ (q : Int)) = true := by simp
           clear hb4 htv hy hXn hr;go_wp2
           go_roundw
           case rel => exact ⟨j + 1, _, by omega, by go_num, by rw [hln]; exact hcl, HUP, HNOW, HXN, hBn⟩
           case measure => simp [intOf]; omega
         · have htv : tick now z = now := by unfold tick; rw [if_neg (by rw [hcl]; exact hr)]
           rw [htv] at HUP HNOW;by_cases h0 : 0 ≤ z
           · have d1 : decide ((0 : Int) ≤ z) = true := by simpa using h0
             have d2 : decide (z < (n : Int)) = false := by simp; omega
             clear htv hr h0;go_wp2
             go_roundw
             case rel => exact ⟨j + 1, now, by omega, by go_num, hcl, HUP, HNOW, HX, hB⟩
             case measure => simp [intOf]; omega
           · have d1 : decide ((0 : Int) ≤ z) = false := by simpa using h0
             clear htv hr h0;go_wp2
             go_roundw
             case rel => exact ⟨j + 1, now, by omega, by go_num, hcl, HUP, HNOW, HX, hB⟩
             case measure => simp [intOf]; omega
       · obtain rfl : j = row.length := by omega
         have hcn : now = ticks (List.replicate n 0) (rows.take (k + 1)).flatten := by rw [HTK.out, zji, ← HC.out, HN.out, List.take_length]
         have HCN := zJv hcn;have HU2 : Hid (Upto now ((k + 1) * 1000)) := zJv fun u hu => by have := HU.out u hu; omega
         clear hcn;go_wp2
         go_roundw
         case rel => exact ⟨k + 1, now, by omega, by go_num, hcl, HU2, HCN, HX, hB⟩
         case measure => simp [intOf]; omega
  · obtain rfl : k = rows.length := by omega
    rw [List.take_length] at HC;have HXF : Hid (Blk wr w.heap.size 3 (ivs (ticks (List.replicate n 0) rows.flatten))) := zJv (by rw [← HC.out]; exact HX.out);go_wp2
    go_ret;exact ⟨rfl, HXF.out, hB⟩
end Go.Proofs.YtidmeodmkcomlaaGreatDoor
namespace Go.Proofs.YtidmeodmkcomlaaGreatDoor
open Go Go.Proofs Go.RowKit
abbrev RowP := Option Addr × Nat × List Int
def rowV (x : RowP) : Value := .slice x.1 x.2.2.length x.2.1
def RowOk (B : Nat) (W : World) (x : RowP) : Prop := x.2.2 = [] ∨ ∃ b off, x.1 = some ⟨b, off, none⟩ ∧ b < W.heap.size ∧ (b < B ∨ ∃ cs, W.heap[b]? = some (.cells cs 3 (0, 0))) ∧ ∀ j u, (x.2.2.map iv)[j]? = some u → W.cell? ⟨b, off + j, none⟩ = some u
theorem RowOk.below {B : Nat} {W W' : World} {x : RowP} (h : RowOk B W x) (hb : Below W.heap.size W W') : RowOk B W' x := by
 rcases h with h | ⟨b, off, h1, h2, h3, h4⟩
 · exact .inl h
 · refine .inr ⟨b, off, h1, zJy h2 hb.size, h3.imp id (fun ⟨cs, h⟩ => ⟨cs, (hb.block b h2).trans h⟩), fun j u hu => (hb.cell (p := ⟨b, _, none⟩) h2).trans (h4 j u hu)⟩
theorem RowOk.grown {B : Nat} {W W' : World} {x : RowP} {v : Value} {n : Nat} {xs : List Value} (h : RowOk B W x) (ho : W.ownsRow B 36 1 v n xs) (hg : W.grownBy W' v.ownBlock) : RowOk B W' x := by
 rcases h with h | ⟨b, off, h1, h2, h3, h4⟩
 · exact .inl h
 · have hne : some b ≠ v.ownBlock := fun e => by
    rcases h3 with h3 | ⟨cs, h3⟩
    · have := (zls ho e.symm).2
      omega
    · obtain ⟨cur, hc⟩ := zs7 ho e.symm
      rw [h3] at hc;cases hc
   have hk := hg.block b h2 hne;exact .inr ⟨b, off, h1, zJy h2 hg.size, h3.imp id (fun ⟨cs, h⟩ => ⟨cs, hk.trans h⟩), fun j u hu => (zKb (a := ⟨b, off + j, none⟩) hk).trans (h4 j u hu)⟩
theorem RowOk.of_sl {B : Nat} {W : World} {A : Option Addr} {c : Nat} {ks : List Int} {Pb : Nat → Prop} (h : SlAt Pb W A ks.length (ks.map iv)) (hP : ∀ b, Pb b → b < B ∧ b < W.heap.size) : RowOk B W (A, c, ks) := by
 rcases Nat.eq_zero_or_pos ks.length with h0 | h0
 · exact .inl (List.length_eq_zero_iff.1 h0)
 · obtain ⟨b, off, hA, hb, hc⟩ := h.2 h0
   exact .inr ⟨b, off, hA, (hP b hb).2, .inl (hP b hb).1, hc⟩
theorem RowOk.one {B : Nat} {W : World} (z : Int) : RowOk B (W.alloc (.cells #[.int .i64 z] 3)) (some ⟨W.heap.size, 0, none⟩, 1, [z]) :=
 .inr ⟨_, _, rfl, by simp, .inr ⟨_, Blk.new W 3 _⟩, fun j u hu => by
  rcases zeh W (.int .i64 z) 3 with h | ⟨b, off, e, h⟩
  · cases h
  · cases e
    exact h j u hu⟩
structure TwoR (W : World) (B : Nat) (v3 v4 : Value) (L3 L4 : List RowP) : Prop where
 o3 : W.ownsRow B 36 1 v3 L3.length (L3.map rowV)
 o4 : W.ownsRow B 36 1 v4 L4.length (L4.map rowV)
 ne : ∀ g, v3.ownBlock = some g → v4.ownBlock ≠ some g
 k3 : ∀ x ∈ L3, RowOk B W x
 k4 : ∀ x ∈ L4, RowOk B W x
theorem TwoR.swap {W : World} {B : Nat} {v3 v4 : Value} {L3 L4 : List RowP} (h : TwoR W B v3 v4 L3 L4) : TwoR W B v4 v3 L4 L3 :=
 ⟨h.o4, h.o3, fun g h4 h3 => h.ne g h3 h4, h.k4, h.k3⟩
theorem TwoR.below {W W' : World} {B : Nat} {v3 v4 : Value} {L3 L4 : List RowP} (h : TwoR W B v3 v4 L3 L4) (hb : Below W.heap.size W W') : TwoR W' B v3 v4 L3 L4 :=
 ⟨zaj h.o3 hb, zaj h.o4 hb, h.ne, fun x hx => (h.k3 x hx).below hb, fun x hx => (h.k4 x hx).below hb⟩
theorem TwoR.push {W W' : World} {B : Nat} {v3 v4 v' : Value} {L3 L4 : List RowP} {x : RowP} (h : TwoR W B v3 v4 L3 L4) (hx : RowOk B W x) (hs : B ≤ W.heap.size)
 (ho : W'.ownsRow B 36 1 v' (L3.length + 1) (L3.map rowV ++ [rowV x])) (hg : W.grownBy W' v3.ownBlock) (hl : v'.ownBlock = v3.ownBlock ∨ v'.ownBlock = some W.heap.size) :
 TwoR W' B v' v4 (L3 ++ [x]) L4 ∧ Below B W W' := by
 have hb : Below B W W' := zg5 (zJx B W) h.o3 hg (zJw _) hs;refine ⟨⟨?_, h.o4.kept hg ?_, ?_, ?_, fun y hy => (h.k4 y hy).grown h.o3 hg⟩, hb⟩
 · rw [zK5, List.map_append]
   exact ho
 · cases h4 : v4.ownBlock with
   | none => exact .inl rfl
   | some g => exact .inr fun e => h.ne g e.symm h4
 · intro g hg' h4
   rcases hl with hl | hl
   · exact h.ne g (hl ▸ hg') h4
   · rw [hl] at hg'
     cases hg'
     have := (zls h.o4 h4).1;omega
 · intro y hy
   rcases List.mem_append.1 hy with hy | hy
   · exact (h.k3 y hy).grown h.o3 hg
   · simp only [zK7] at hy
     subst hy;exact hx.grown h.o3 hg
theorem TwoR.rows {W : World} {B : Nat} {v3 v4 : Value} {L3 L4 : List RowP} (h : TwoR W B v3 v4 L3 L4) : ∃ A c, v3 = .slice A L3.length c ∧ zyg (Lt W.heap.size) W A (L3.map fun x => x.2.2) := by
 obtain ⟨A, c, hv, _, hS⟩ := SlAt.of_own h.o3;refine ⟨A, c, hv, ?_⟩;rcases Nat.eq_zero_or_pos L3.length with h0 | h0
 · left
   rw [List.length_eq_zero_iff.1 h0];rfl
 · obtain ⟨b, off, hA, hb, hc⟩ := hS.2 h0
   refine .inr ⟨b, off, hA, hb.2, fun i row hi => ?_⟩;rw [List.getElem?_map] at hi
   cases hx : L3[i]? with
   | none => rw [hx] at hi; cases hi
   | some x =>
    rw [hx] at hi;cases hi
    refine ⟨x.1, x.2.1, hc i (rowV x) (by rw [List.getElem?_map, hx]; rfl), ?_⟩;rcases h.k3 x (List.mem_of_getElem? hx) with he | ⟨b2, off2, e1, e2, _, e4⟩
    · dsimp only
      rw [he];exact ⟨rfl, fun h => absurd h (by simp)⟩
    · exact ⟨by simp, fun _ => ⟨b2, off2, e1, e2, e4⟩⟩
def Ones (n : Nat) (ks : List Int) : Prop := ∀ j, j < n → ks.count (j : Int) = 1
theorem zpw (n : Nat) (ks : List Int) : (∀ u ∈ ticks (List.replicate n 0) ks, u = 1) ↔ Ones n ks := by
 have hl : (ticks (List.replicate n 0) ks).length = n := by rw [zhg]; simp
 have hg : ∀ j (h : j < n), (ticks (List.replicate n 0) ks)[j]'(by omega) = (ks.count (j : Int) : Int) := fun j h => by
  have := zpj ks (List.replicate n 0) j (by simpa using h);rw [get0, Int.zero_add, zK3, zK1 (by omega)] at this;exact this
 constructor
 · intro h j hj
   have := h _ (zKe (by omega : j < (ticks (List.replicate n 0) ks).length));rw [hg j hj] at this;omega
 · intro h u hu
   obtain ⟨j, hj, rfl⟩ := zKo hu;rw [hg j (by omega), h j (by omega)];rfl
theorem zim {ks : List Int} (hr : ∀ k ∈ ks, 0 ≤ k) (j : Nat) : (nats ks).count j = ks.count (j : Int) := by
 induction ks with
 | nil => rfl
 | cons k ks ih =>
  have hk := hr k (by simp);unfold nats at *;rw [List.map_cons, List.count_cons, List.count_cons, ih (fun x hx => hr x (by simp [hx]))]
  have : (k.toNat == j) = (k == (j : Int)) := by
   rw [zJz, beq_iff_eq, beq_iff_eq];omega
  rw [this]
theorem zof {n : Nat} {ks : List Int} (hr : InR ks n) : Ones n ks ↔ (nats ks).Nodup ∧ ∀ j, j < n → j ∈ nats ks := by
 have hr0 : ∀ k ∈ ks, 0 ≤ k := fun k hk => (hr k hk).1;constructor
 · intro h
   refine ⟨?_, fun j hj => ?_⟩
   · rw [List.nodup_iff_count]
     intro j;by_cases hm : j ∈ nats ks
     · obtain ⟨z, hz, rfl⟩ := List.mem_map.1 hm
       have := hr z hz;rw [zim hr0, h _ (by omega)];exact zJw _
     · rw [List.count_eq_zero_of_not_mem hm]
       omega
   · have := h j hj
     rw [← zim hr0] at this;exact List.count_pos_iff.1 (by omega)
 · rintro ⟨h1, h2⟩ j hj
   rw [← zim hr0];have h3 := List.nodup_iff_count.1 h1 j;have h4 := List.count_pos_iff.2 (h2 j hj);omega
end Go.Proofs.YtidmeodmkcomlaaGreatDoor
namespace Go.Proofs.YtidmeodmkcomlaaGreatDoor
open Go Go.Proofs Go.RowKit
theorem zI7 : (Tryz.prog.info? 36).map (fun i => (i.zero, i.size, i.bytes)) = some (some (.slice none 0 0), 1, 24) := by kernel_rfl
def NodOk (t : TreeD) (k : Nat) : Prop := ∀ (j : Nat) (x : TermD), j < k → t.nodes[j]? = some x → InR x.kids j ∧ InR x.types t.types.length ∧ termB x = true
def zia (t : TreeD) (k : Nat) : Prop := ∀ (j : Nat) (x : TypD), j < k → t.types[j]? = some x → InR x.kids j ∧ typB x = true
def zi9 (t : TreeD) (k : Nat) : Prop := ∀ (j : Nat) (x : AliD), j < k → t.aliases[j]? = some x → zbo (tl x.name) = true ∧ InR [x.type] t.types.length
theorem zDe {t : TreeD} (h : zbq t = true) : NodOk t t.nodes.length := fun j x _ hx => (Rng.of h).nod j x hx
theorem zyz {t : TreeD} (h : zbq t = true) : zia t t.types.length := fun j x _ hx => (Rng.of h).typ j x hx
theorem zB1 {t : TreeD} (h : zbq t = true) : zi9 t t.aliases.length := fun j x _ hx => by
 have := (Rng.of h).ali x (List.mem_of_getElem? hx);exact ⟨this.2.2, fun k hk => by simp only [zK7] at hk; subst hk; exact ⟨this.1, this.2.1⟩⟩
theorem zvi {t : TreeD} {k : Nat} {x : TermD} (h : NodOk t k) (hx : t.nodes[k]? = some x) (h1 : InR x.kids k) (h2 : InR x.types t.types.length) (h3 : termB x = true) : NodOk t (k + 1) := fun j y hj hy => by
 by_cases e : j = k
 · subst e; rw [hx] at hy; cases hy; exact ⟨h1, h2, h3⟩
 · exact h j y (by omega) hy
theorem zt8 {t : TreeD} {k : Nat} {x : TypD} (h : zia t k) (hx : t.types[k]? = some x) (h1 : InR x.kids k) (h3 : typB x = true) : zia t (k + 1) := fun j y hj hy => by
 by_cases e : j = k
 · subst e; rw [hx] at hy; cases hy; exact ⟨h1, h3⟩
 · exact h j y (by omega) hy
theorem zt7 {t : TreeD} {k : Nat} {x : AliD} (h : zi9 t k) (hx : t.aliases[k]? = some x) (h1 : zbo (tl x.name) = true) (h3 : InR [x.type] t.types.length) : zi9 t (k + 1) := fun j y hj hy => by
 by_cases e : j = k
 · subst e; rw [hx] at hy; cases hy; exact ⟨h1, h3⟩
 · exact h j y (by omega) hy
theorem zGi {t : TreeD} (h : NodOk t t.nodes.length) : ∀ k ∈ zcb t, 0 ≤ k ∧ k < (t.nodes.length : Int) - 1 := fun k hk => by
 obtain ⟨x, hx, hk⟩ := List.mem_flatMap.1 hk;obtain ⟨j, hj, rfl⟩ := zKo hx;have := (h j _ hj (zK1 hj)).1 k hk;omega
theorem zH4 {t : TreeD} (h : NodOk t t.nodes.length) (h2 : zia t t.types.length) (h3 : zi9 t t.aliases.length) : InR (zbn t) t.types.length := fun k hk => by
 unfold zbn at hk;rcases List.mem_append.1 hk with hk | hk
 · obtain ⟨x, hx, hk⟩ := List.mem_flatMap.1 hk
   obtain ⟨j, hj, rfl⟩ := zKo hx;exact (h j _ hj (zK1 hj)).2.1 k hk
 · rcases List.mem_append.1 hk with hk | hk
   · obtain ⟨x, hx, hk⟩ := List.mem_flatMap.1 hk
     obtain ⟨j, hj, rfl⟩ := zKo hx;have := (h2 j _ hj (zK1 hj)).1 k hk;omega
   · obtain ⟨x, hx, rfl⟩ := List.mem_map.1 hk
     obtain ⟨j, hj, rfl⟩ := zKo hx;exact (h3 j _ hj (zK1 hj)).2 _ (by simp)
theorem zz3 {t : TreeD} (hn : 1 ≤ t.nodes.length) (hb1 : t.nodes.length ≤ 1000) (hb2 : t.types.length ≤ 1000) (h1 : NodOk t t.nodes.length) (h2 : zia t t.types.length) (h3 : zi9 t t.aliases.length) :
 zbq t = true ↔ Ones t.nodes.length (((t.nodes.length - 1 : Nat) : Int) :: zcb t) ∧ Ones t.types.length (zbn t) := by
 have hk := zGi h1;have hu := zH4 h1 h2 h3
 have hk2 : InR (((t.nodes.length - 1 : Nat) : Int) :: zcb t) t.nodes.length := fun k hk' => by
  rcases List.mem_cons.1 hk' with rfl | hk'
  · omega
  · have := hk k hk'; omega
 rw [zof hk2, zof hu, ze0]
 have hno : (t.nodes.length - 1) ∉ nats (zcb t) := fun hm => by
  obtain ⟨z, hz, e⟩ := List.mem_map.1 hm;have := hk z hz;omega
 have hc : nats (((t.nodes.length - 1 : Nat) : Int) :: zcb t) = (t.nodes.length - 1) :: nats (zcb t) := by
  unfold nats;rw [List.map_cons, Int.toNat_natCast]
 rw [hc, List.nodup_cons];constructor
 · intro hW
   refine ⟨⟨⟨hno, hW.onceN⟩, fun j hj => ?_⟩, hW.onceT, hW.allT⟩;by_cases e : j = t.nodes.length - 1
   · rw [e]; exact List.mem_cons_self
   · exact List.mem_cons_of_mem _ (hW.allN j (by omega))
 · rintro ⟨⟨⟨_, g1⟩, g2⟩, g3, g4⟩
   refine ⟨⟨hn, fun j x hx => ?_, fun j x hx => ?_, fun x hx => ?_⟩, by omega, by omega, g1, g3, fun j hj => ?_, g4⟩
   · exact h1 j x (List.getElem?_eq_some_iff.1 hx).1 hx
   · exact h2 j x (List.getElem?_eq_some_iff.1 hx).1 hx
   · obtain ⟨j, hj, rfl⟩ := zKo hx
     have := h3 j _ hj (zK1 hj);have h4 := this.2 t.aliases[j].type (by simp);exact ⟨h4.1, h4.2, this.1⟩
   · rcases List.mem_cons.1 (g2 j (by omega)) with e | h
     · omega
     · exact h
end Go.Proofs.YtidmeodmkcomlaaGreatDoor
