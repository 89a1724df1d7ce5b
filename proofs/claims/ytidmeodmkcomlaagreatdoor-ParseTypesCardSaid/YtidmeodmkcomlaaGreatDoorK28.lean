/- The document's answer for the first sign, and for all signs, at every list of bytes. The document's answer for all signs of a text, with their places, at every -/
import Derived.Test.YtidmeodmkcomlaaGreatDoorK27
import Derived.Test.YtidmeodmkcomlaaGreatDoorK25
set_option linter.unusedSimpArgs false
set_option linter.unusedVariables false
namespace Go.Proofs.YtidmeodmkcomlaaGreatDoor
open Go Go.Proofs Go.RowKit Go.Shelf
set_option maxHeartbeats 4000000
def ze4 (l : List UInt8) : Int × Int := if isBad l then (0, 0) else ((D l).1, (D l).2)
theorem zl7 {k : IntKind} {a b c d : Int} (h : a = c) (h' : b = d) : Ending.returned (.tuple #[.int k a, .int k b]) = .returned (.tuple #[.int k c, .int k d]) := by rw [h, h']
theorem zux {W X : World} {b off n cap : Nat} {l : List UInt8} (hn : n ≤ l.length) (hh : Holds W b off l) (hX : X.heap = W.heap) :
 (convert 33 9 (.slice (some ⟨b, off, none⟩) n cap)).run Tryz.prog X = .ok (.string ⟨(l.take n).toArray⟩) X := by
 have hl : (l.take n).length = n := by simp; omega
 have := run_convert_bytes_back (P := Tryz.prog) X 33 9 5 ⟨b, off, none⟩ cap (l.take n) Tryz.underlying33 Tryz.underlying5 Tryz.underlying9 (fun j hj => by
  rw [hl] at hj;rw [zdo];have h1 := hh j (by omega);have h2 : X.cell? ⟨b, off + j, none⟩ = W.cell? ⟨b, off + j, none⟩ := by simp only [World.cell?, hX]
  rw [h2, h1]
  simp [zK3, zK1 (show j < l.length by omega)])
 rwa [hl] at this
set_option maxRecDepth 100000 in
theorem zv2 (b off cap : Nat) (l : List UInt8) (h0 : 0 < l.length) (hlen : l.length ≤ 140737488351232) (hcap : l.length ≤ cap) (w : World) (hb : b < w.heap.size) (hh : Holds w b off l) :
 Calls Tryz.prog 83 #[.slice (some ⟨b, off, none⟩) l.length cap] w fun e w' => e = .returned (.tuple #[.int .i64 (ze4 l).1, .int .i64 (ze4 l).2]) ∧ Below w.heap.size w w' := by
 have mixed : Tryz.prog.follows .mixedOrders = true := by kernel_rfl
 have HF := zJv (fun n hn h => zDh l n hn h);have HG := zJv (zD1 l h0);have HD := zJv (zbl l h0);have HH := zJv hh;clear hh;go_enter Tryz.func83, Tryz.ntmps83
 go_wp2
 go_loopw [4] (fun i wr => ∃ n : Nat, 1 ≤ n ∧ n ≤ 5 ∧ n ≤ l.length + 1 ∧ i = .int .i64 n ∧ Hid (∀ k, 1 ≤ k → k < n → ¬ fit l k) ∧ Below w.heap.size w wr)
  (fun i _ => 5 - (intOf i).toNat)
 case atStart => exact ⟨1, zJw _, by omega, by omega, rfl, zJv (fun k h1 h2 => absurd h1 (by omega)), zJx _ _⟩
 case round =>
  obtain ⟨n, hn1, hn5, hnl, rfl, HN, hB⟩ := hrel;by_cases c4 : n ≤ 4
  · by_cases cl : n ≤ l.length
    · have hhr : Holds wr b off l := HH.out.below hb hB
      have cV := zz0 l b off cap n hn1 c4 cl wr hhr;have HHR := zJv hhr;clear hhr;have hcn : n ≤ cap := by omega
      obtain ⟨r, hr⟩ : ∃ r, valL l n = r := ⟨_, rfl⟩;rw [hr] at cV;have HR := zJv hr;clear hr;by_cases hs : zgo r
      · have cE := zyy r hs
        unfold zlx at cE;go_wp2_with (first | (go_at_call 121; refine cV.mono ?_; rintro e w1 ⟨rfl, hb1⟩) | (go_at_call 122; refine (cE _).mono ?_; rintro e w2 ⟨rfl, rfl⟩))
        have hbX : Below w.heap.size w (w1.alloc (.cells (zai (encB r)).toArray 5)) := (hB.trans (hb1.mono hB.size)).alloc (by have := hB.size; have := hb1.size; omega) _;have hhX : Holds (w1.alloc (.cells (zai (encB r)).toArray 5)) b off l := HH.out.below hb hbX
        have hhE : Holds (w1.alloc (.cells (zai (encB r)).toArray 5)) w1.heap.size 0 (encB r) := by
         intro j hj;have hnw := World.alloc_heap_new w1 (.cells (zai (encB r)).toArray 5);simp only [World.cell?, hnw];simp [zai, zK3, zK1 hj]
        obtain ⟨X, hX⟩ : ∃ X, w1.alloc (.cells (zai (encB r)).toArray 5) = X := ⟨_, rfl⟩;rw [hX] at hbX hhX hhE ⊢;have k1 := fun N => zux (X := X.drewN N) (cap := (encB r).length) (zJw _) hhE rfl;have k2 := fun N => zux (X := X.drewN N) (cap := cap) cl hhX rfl;rw [List.take_length] at k1;obtain ⟨s1, hs1⟩ : ∃ s1, (⟨(encB r).toArray⟩ : ByteArray) = s1 := ⟨_, rfl⟩;obtain ⟨s2, hs2⟩ : ∃ s2, (⟨(l.take n).toArray⟩ : ByteArray) = s2 := ⟨_, rfl⟩
        have hiff : s1 = s2 ↔ fit l n := by
         rw [← hs1, ← hs2];unfold fit;rw [HR.out];constructor
         · intro e
           have e2 : (encB r).toArray = (l.take n).toArray := congrArg ByteArray.data e;exact ⟨hs, by simpa using congrArg Array.toList e2⟩
         · intro e
           rw [e.2]
        have HI := zJv hiff;simp only [hs1] at k1;simp only [hs2] at k2;have HBX := zJv hbX;clear hs1 hs2 hhX hhE hX hiff cV cE hbX hs;by_cases heq : s1 = s2
        · subst heq
          have hfit := HI.out.1 rfl;have HA := zJv (HF.out n cl hfit);clear hfit;go_quiet (fail)
          go_wp2
          go_ret2
          refine ⟨zl7 ?_ ?_, HBX.out.trans ((ze7 X _).mono HBX.out.size)⟩
          · unfold ze4
            rw [if_neg HA.out.1];rw [← HR.out, ← HA.out.2.2]
          · unfold ze4
            rw [if_neg HA.out.1, HA.out.2.1]
        · have hne : (s1.toList == s2.toList) = false := by
           rw [zKr];intro e;rw [ByteArray.toList_eq, ByteArray.toList_eq] at e;exact heq (ByteArray.ext (Array.toList_inj.mp e))
          have HE := zJv heq;clear heq;go_quiet (fail)
          go_wp2
          go_roundw
          case rel =>
           refine ⟨n + 1, by omega, by omega, by omega, by go_num, zJv (fun k h1 h2 hf => ?_), HBX.out.trans ((ze7 X _).mono HBX.out.size)⟩;by_cases hk : k < n
           · exact HN.out k h1 hk hf
           · obtain rfl : k = n := by omega
             exact HE.out (HI.out.2 hf)
          case measure => simp [intOf]; omega
      · have cE := zvs r hs
        have HS := zJv hs;clear hs;go_wp2_with (first | (go_at_call 121; refine cV.mono ?_; rintro e w1 ⟨rfl, hb1⟩) | (go_at_call 122; refine (cE _).mono ?_; rintro e w2 ⟨rfl, rfl⟩))
        have hbX := hB.trans (hb1.mono hB.size);have HBX := zJv hbX;clear hbX cV cE;go_quiet (fail)
        go_wp2
        go_roundw
        case rel =>
         refine ⟨n + 1, by omega, by omega, by omega, by go_num, zJv (fun k h1 h2 hf => ?_), HBX.out.trans ((ze7 _ _).mono HBX.out.size)⟩;by_cases hk : k < n
         · exact HN.out k h1 hk hf
         · obtain rfl : k = n := by omega
           exact HS.out (by rw [← HR.out]; exact hf.1)
        case measure => simp [intOf]; omega
    · have hfr : isBad l := by
       rcases Classical.em (isBad l) with h | h
       · exact h
       · exact absurd (HG.out h) (HN.out _ HD.out.1 (by have := HD.out.2.2.1; omega))
      have HFR := zJv hfr;clear hfr;go_wp2
      go_ret2
      refine ⟨zl7 ?_ ?_, hB⟩
      · unfold ze4
        rw [if_pos HFR.out]
      · unfold ze4
        rw [if_pos HFR.out]
  · have hfr : isBad l := by
     rcases Classical.em (isBad l) with h | h
     · exact h
     · exact absurd (HG.out h) (HN.out _ HD.out.1 (by have := HD.out.2.1; omega))
    have HFR := zJv hfr;clear hfr;go_wp2
    go_ret2
    refine ⟨zl7 ?_ ?_, hB⟩
    · unfold ze4
      rw [if_pos HFR.out]
    · unfold ze4
      rw [if_pos HFR.out]
set_option maxHeartbeats 4000000
def zi0 (xs : List (Nat × Nat)) : List Value := xs.map fun x => Value.int .i64 (x.1 : Int)
def zjf (xs : List (Nat × Nat)) : List Value := xs.map fun x => Value.int .i64 (x.2 : Int)
def TwoRows (B : Nat) (W : World) (v1 v2 : Value) (xs : List (Nat × Nat)) : Prop :=
 W.ownsRow B 3 1 v1 xs.length (zi0 xs) ∧ W.ownsRow B 3 1 v2 xs.length (zjf xs) ∧ v1.ownBlock ≠ v2.ownBlock
def zor (l : List UInt8) (w : World) (e : Ending) (w' : World) : Prop :=
 ∃ v1 v2, e = .returned (.tuple #[v1, v2, .int .i64 (bd l 0 : Nat)]) ∧ TwoRows w.heap.size w' v1 v2 (sg l 0) ∧ Below w.heap.size w w'
theorem zfj {W W' : World} {B : Nat} {v : Value} {n : Nat} {xs : List Value} {row : Option Nat} (h : W.ownsRow B 3 1 v n xs) (hg : W.grownBy W' row) (hne : v.ownBlock ≠ row ∨ v.ownBlock = none) : W'.ownsRow B 3 1 v n xs := by
 refine ⟨h.1, ?_⟩;rcases h.2 with e | ⟨g, cap, cur, e, hb, hg2, rest⟩
 · exact .inl e
 · refine .inr ⟨g, cap, cur, e, hb, ?_, rest⟩
   rw [hg.block g (Array.getElem?_eq_some_iff.1 hg2).1 (by subst e; rcases hne with h | h; exact h; cases h)];exact hg2
theorem zh9 {W : World} {B : Nat} {v : Value} {n : Nat} {xs : List Value} (h : W.ownsRow B 3 1 v n xs) (o : Obj) : (W.alloc o).ownsRow B 3 1 v n xs := by
 refine zfj h (World.grownBy_alloc _ _ none) ?_;rcases hv : v.ownBlock with _ | g
 · exact Or.inr rfl
 · exact Or.inl (by simp)
theorem TwoRows.below {W W' : World} {B : Nat} {v1 v2 : Value} {xs : List (Nat × Nat)} (h : TwoRows B W v1 v2 xs) (hb : Below W.heap.size W W') : TwoRows B W' v1 v2 xs := by
 have hg := zfh hb;refine ⟨zfj h.1 hg ?_, zfj h.2.1 hg ?_, h.2.2⟩
 · rcases hv : v1.ownBlock with _ | g
   · exact Or.inr rfl
   · exact Or.inl (by simp)
 · rcases hv : v2.ownBlock with _ | g
   · exact Or.inr rfl
   · exact Or.inl (by simp)
set_option maxRecDepth 100000 in
theorem zA9 (a : Option Addr) (len cap : Nat) (l : List UInt8) (hlen : l.length ≤ 1048576) (w : World) (hI : TextAt w.heap.size w (.slice a len cap) l) :
 Calls Tryz.prog 50 #[.slice a len cap] w (zor l w) := by
 have hll : len = l.length := by
  rcases hI with ⟨_, _, _, e, rfl⟩ | ⟨_, _, _, e, _⟩
  · cases e; rfl
  · cases e; rfl
 subst hll;have HI := zJv hI;clear hI;go_enter Tryz.func50, Tryz.ntmps50
 go_wp2
 go_loopw [5, 6, 7] (fun s5 s6 i wr => ∃ (k : Nat) (pre : List (Nat × Nat)), k ≤ l.length ∧ i = .int .i64 k ∧ pre.length ≤ k ∧ Hid (sg l 0 = pre ++ sg (l.drop k) k ∧ bd l 0 = bd (l.drop k) k) ∧ Hid (TwoRows w.heap.size wr s5 s6 pre) ∧ Below w.heap.size w wr)
  (fun _ _ i _ => l.length - (intOf i).toNat)
 case atStart =>
  refine ⟨0, [], zK8 _, rfl, zJw _, zJv ⟨by simp, by simp⟩, zJv ⟨?_, ?_, ?_⟩, ((zJx _ w).alloc (zJw _) _).alloc (by simp) _⟩
  · exact zfj (World.ownsRow_made w #[] 0 (zJw _) (zK8 _) (by simp)) (World.grownBy_alloc _ _ none) (Or.inl (by simp [Value.ownBlock]))
  · have := World.ownsRow_made (base := w.heap.size) (e := 3) (size := 1) (w.alloc (.cells #[] 3)) #[] 0 (by simp) (zK8 _) (by simp)
    simpa [zi0, zjf] using this
  · simp [Value.ownBlock]
 case round =>
  obtain ⟨k, pre, hk, rfl, hpk, HS, HR, hB⟩ := hrel;by_cases hlt : k < l.length
  · have hI2 := HI.out.below hB
    rcases hI2 with ⟨_, _, _, e, rfl⟩ | ⟨b, off, cap', e, hb, hcap, hh⟩
    · simp at hlt
    · cases e
      have hbW : b < w.heap.size := hb;have cF := zv2 b (off + k) (cap - k) (l.drop k) (by simp; omega) (by simp; omega) (by simp; omega) wr (by have := hB.size; omega) (hh.drop k);rw [zKa] at cF;have hD := zbl (l.drop k) (by simp; omega);rw [zKa] at hD;have hkc : k < cap := by omega
      by_cases hbad : isBad (l.drop k)
      · have hf : ze4 (l.drop k) = (0, 0) := by unfold ze4; rw [if_pos hbad]
        rw [hf] at cF;have HE := zJv (zhy (l.drop k) k hbad);have HE2 := zJv (zfe (l.drop k) k hbad);clear hf hbad hh hb;go_wp2_with (go_at_call 83; refine cF.mono ?_; rintro e w1 ⟨rfl, hb1⟩)
        go_ret3
        have hpre : sg l 0 = pre := by rw [HS.out.1, HE.out, List.append_nil]
        have hbd : bd l 0 = k := by rw [HS.out.2, HE2.out]
        refine ⟨u5, u6, by rw [hbd]; rfl, by rw [hpre]; exact HR.out.below hb1, hB.trans (hb1.mono hB.size)⟩
      · have hf : ze4 (l.drop k) = (((D (l.drop k)).1 : Int), ((D (l.drop k)).2 : Int)) := by unfold ze4; rw [if_neg hbad]
        rw [hf] at cF;have HE := zJv (zex (l.drop k) k (by simp; omega) hbad);have HE2 := zJv (zd3 (l.drop k) k (by simp; omega) hbad);obtain ⟨r, hr⟩ : ∃ r, (D (l.drop k)).1 = r := ⟨_, rfl⟩;obtain ⟨m, hm⟩ : ∃ m, (D (l.drop k)).2 = m := ⟨_, rfl⟩;rw [hr, hm] at hD HE;rw [hm] at HE2;dsimp only at cF;rw [hr, hm] at cF;clear hf hbad hh hb hr hm;have hm0 : ((m : Int) == 0) = false := by simp; omega
        obtain ⟨i3, hi, hz0, hz1, hz2⟩ := info_parts info3;have hB' := hB.size;go_wp2_with (first | (go_at_call 83; refine cF.mono ?_; rintro e w1 ⟨rfl, hb1⟩) | (at_builtin; refine wpList_append_own_at _ rfl _ _ 36 rfl w.heap.size 3 i3 (.int .i64 0) 1 8 Tryz.underlying36 hi hz0 hz1 hz2 rfl (by decide) _ pre.length (zi0 pre) rfl ?qa0 ⟨w1.heap.size, 0, none⟩ 1 1 [.int .i64 (k : Int)] rfl rfl (cell_one_new _ _ _) (by simp [Value.oneCell']) ?qa1 ?qa2 ?qa3 ?_))
        case qa0 => exact zh9 (HR.out.below hb1).1 _
        case qa1 => unfold maxLen; omega
        case qa2 => omega
        case qa3 => have := hb1.size; simp; omega
        have hR1 := HR.out.below hb1;intro v1 W1 hown1 hg1 _ hat1;have hsz1 := hb1.size;have hbX : Below w.heap.size w (w1.alloc (.cells #[.int .i64 (k : Int)] 3)) := (hB.trans (hb1.mono hB.size)).alloc (by omega) _;have hbW1 : Below w.heap.size w W1 := hbX.grown hg1 hbX.size (fun g hg => (hR1.1.lt g hg).1);have r2 : W1.ownsRow w.heap.size 3 1 u6 pre.length (zjf pre) := zfj (zh9 hR1.2.1 _) hg1 (Or.inl (fun e => hR1.2.2 e.symm))
        have hne1 : v1.ownBlock ≠ u6.ownBlock ∨ u6.ownBlock = none := by
         rcases hu : u6.ownBlock with _ | g
         · exact Or.inr rfl
         · left
           have hlt6 := (hR1.2.1.lt g hu).2;rcases hat1 with h | h
           · rw [h, ← hu]; exact hR1.2.2
           · rw [h]
             intro e;simp only [zKt] at e;omega
        have HR1 := zJv hR1;have HO1 := zJv hown1;have HO2 := zJv r2;have HN1 := zJv hne1;have hsW1 := hbW1.size;clear hR1 hown1 r2 hne1 hg1 hat1 hbX;go_wp2_with (at_builtin; refine wpList_append_own_at _ rfl _ _ 36 rfl w.heap.size 3 i3 (.int .i64 0) 1 8 Tryz.underlying36 hi hz0 hz1 hz2 rfl (by decide) _ pre.length (zjf pre) rfl ?qb0 ⟨W1.heap.size, 0, none⟩ 1 1 [.int .i64 (r : Int)] rfl rfl (cell_one_new _ _ _) (by simp [Value.oneCell']) ?qb1 ?qb2 ?qb3 ?_)
        case qb0 => exact zh9 HO2.out _
        case qb1 => unfold maxLen; omega
        case qb2 => omega
        case qb3 => simp; omega
        intro v2 W2 hown2 hg2 _ hat2
        have HN2 : v1.ownBlock ≠ v2.ownBlock := by
         obtain ⟨g, c1, hv1⟩ := ownsRow_succ HO1.out;have hg1 : v1.ownBlock = some g := by rw [hv1]; rfl
         have hglt := (HO1.out.lt g hg1).2;rcases hat2 with h | h
         · rw [h]
           rcases HN1.out with hn | hn
           · exact hn
           · rw [hn, hg1]; simp
         · rw [h, hg1]
           intro e;simp only [zKt] at e;omega
        have r1 : W2.ownsRow w.heap.size 3 1 v1 (pre.length + 1) (zi0 pre ++ [.int .i64 (k : Int)]) := zfj (zh9 HO1.out _) hg2 (by
         rcases HN1.out with hn | hn
         · exact Or.inl hn
         · rw [hn]
           rcases hv : v1.ownBlock with _ | g
           · exact Or.inr rfl
           · exact Or.inl (by simp))
        have hbW2 : Below w.heap.size w W2 := (hbW1.alloc hbW1.size _).grown hg2 (by simp; omega) (fun g hg => (HO2.out.lt g hg).1);have HT2 : Hid (TwoRows w.heap.size W2 v1 v2 (pre ++ [(k, r)])) := zJv ⟨by simpa [zi0] using r1, by simpa [zjf] using hown2, HN2⟩;clear HN2 r1 hown2 hg2 hat2 HO1 HO2 HN1 HR1 cF;go_wp2
        go_roundw
        case rel =>
         refine ⟨k + m, pre ++ [(k, r)], by omega, by go_num, by simp; omega, zJv ⟨?_, ?_⟩, HT2, hbW2⟩
         · rw [HS.out.1, HE.out, List.drop_drop]; simp
         · rw [HS.out.2, HE2.out, List.drop_drop]
        case measure => simp [intOf]; omega
  · obtain rfl : k = l.length := by omega
    go_wp2
    go_ret3
    have hpre : sg l 0 = pre := by rw [HS.out.1, zdq _ _ (by simp), List.append_nil]
    have hbd : bd l 0 = l.length := by rw [HS.out.2, zcw _ _ (by simp)]
    exact ⟨u5, u6, by rw [hbd]; rfl, by rw [hpre]; exact HR.out, hB⟩
end Go.Proofs.YtidmeodmkcomlaaGreatDoor
namespace Go.Proofs.YtidmeodmkcomlaaGreatDoor
open Go Go.Proofs Go.RowKit
set_option maxHeartbeats 4000000
def sP (x : Nat) : Bool := ((x : Int) / 9223372036854775808 == 1)
def eP (x : Nat) : Int := if x / 4503599627370496 % 2048 = 2047 then 0 else if x / 4503599627370496 % 2048 = 0 then -1074 else ((x / 4503599627370496 % 2048 : Nat) : Int) - 1075
def mP (x : Nat) : Nat := if x / 4503599627370496 % 2048 = 2047 then 0 else if x / 4503599627370496 % 2048 = 0 then x % 4503599627370496 else x % 4503599627370496 + 4503599627370496
def iP (x : Nat) : Bool := decide (x / 4503599627370496 % 2048 = 2047) && decide (x % 4503599627370496 = 0)
def nP (x : Nat) : Bool := decide (x / 4503599627370496 % 2048 = 2047) && !decide (x % 4503599627370496 = 0)
theorem ret5 {a a' : Bool} {b b' : Int} {c c' : Int} {d d' e e' : Bool} (h1 : a = a') (h2 : b = b') (h3 : c = c') (h4 : d = d') (h5 : e = e') :
 Ending.returned (.tuple #[.bool a, .int .i64 b, .int .u64 c, .bool d, .bool e]) = Ending.returned (.tuple #[.bool a', .int .i64 b', .int .u64 c', .bool d', .bool e']) := by
 rw [h1, h2, h3, h4, h5]
theorem zje (x : Nat) : (((x : Int) % 4503599627370496 == 0) : Bool) = decide (x % 4503599627370496 = 0) := by
 rw [zJz]; simp; omega
theorem zps (x : Nat) : (((x : Int) % 4503599627370496 != 0) : Bool) = !decide (x % 4503599627370496 = 0) := by
 rw [bne, zje]
theorem zsz (a : Int) (h : 0 ≤ a) (h2 : a < 18446744073709551616) : IntKind.u64.wrap a = a := by
 simp only [IntKind.wrap, IntKind.bits, IntKind.signed];have : (2:Int) ^ 64 = 18446744073709551616 := by decide
 simp [this]
 exact Int.emod_eq_of_lt h h2
theorem zB0 (x : Nat) (w : World) : Calls Tryz.prog 61 #[.int .u64 (x : Int)] w fun e w' => e = .returned (.tuple #[.bool (sP x), .int .i64 (eP x), .int .u64 (mP x : Nat), .bool (iP x), .bool (nP x)]) ∧ w = w' := by
 have hm0 : 0 ≤ (x : Int) % 4503599627370496 := by omega
 have hm1 : (x : Int) % 4503599627370496 < 4503599627370496 := by omega
 have e1 := zJv (zje x);have e2 := zJv (zps x)
 have e3 : Hid (IntKind.u64.wrap ((x : Int) % 4503599627370496 + 4503599627370496) = ((x % 4503599627370496 + 4503599627370496 : Nat) : Int)) := by
  refine zJv ?_;rw [zsz _ (by omega) (by omega)]; omega
 have e4 : Hid (((x % 4503599627370496 : Nat) : Int) = (x : Int) % 4503599627370496) := zJv (by omega);go_enter Tryz.func61, Tryz.ntmps61
 generalize hA : (4503599627370496 : Int) = A at hm0 hm1 ⊢;have hA2 : 0 < A := by omega
 have HA := zJv hA;clear hA;go_wp2
 · have hc : x / 4503599627370496 % 2048 = 2047 := by simp_all; omega
   refine bodyPost_ret (v := .tuple #[.bool ((x : Int) / 9223372036854775808 == 1), .int .i64 0, .int .u64 0, .bool ((x : Int) % A == 0), .bool ((x : Int) % A != 0)]) (by simp [results, Tryz.results61, go_sem]) rfl ⟨ret5 rfl ?_ ?_ ?_ ?_, rfl⟩
   · unfold eP; rw [if_pos hc]
   · unfold mP; rw [if_pos hc]; rfl
   · unfold iP; rw [← HA.out, e1.out]; simp [hc]
   · unfold nP; rw [← HA.out, e2.out]; simp [hc]
 · have hc : ¬ x / 4503599627370496 % 2048 = 2047 := by simp_all; omega
   have hd : x / 4503599627370496 % 2048 = 0 := by simp_all; omega
   refine bodyPost_ret (v := .tuple #[.bool ((x : Int) / 9223372036854775808 == 1), .int .i64 (-1074), .int .u64 ((x : Int) % A), .bool false, .bool false]) (by simp [results, Tryz.results61, go_sem]) rfl ⟨ret5 rfl ?_ ?_ ?_ ?_, rfl⟩
   · unfold eP; rw [if_neg hc, if_pos hd]
   · unfold mP; rw [if_neg hc, if_pos hd, ← HA.out, e4.out]
   · unfold iP; simp [hc]
   · unfold nP; simp [hc]
 · have hc : ¬ x / 4503599627370496 % 2048 = 2047 := by simp_all; omega
   have hd : ¬ x / 4503599627370496 % 2048 = 0 := by simp_all; omega
   refine bodyPost_ret (v := .tuple #[.bool ((x : Int) / 9223372036854775808 == 1), .int .i64 ((x : Int) / 4503599627370496 % 2048 - 1075), .int .u64 (IntKind.u64.wrap ((x : Int) % A + A)), .bool false, .bool false]) (by simp [results, Tryz.results61, go_sem]) rfl ⟨ret5 rfl ?_ ?_ ?_ ?_, rfl⟩
   · unfold eP; rw [if_neg hc, if_neg hd]; omega
   · unfold mP; rw [if_neg hc, if_neg hd, ← HA.out, e3.out]
   · unfold iP; simp [hc]
   · unfold nP; simp [hc]
theorem zwm (x : Nat) : Ieee.double.read x = if nP x then .nan (x / 9223372036854775808 % 2 == 1) (x % 4503599627370496) else if iP x then .infinity (x / 9223372036854775808 % 2 == 1) else .number (x / 9223372036854775808 % 2 == 1) (mP x) (eP x) := by
 unfold Ieee.Format.read nP iP mP eP;dsimp only;rw [show Ieee.double.signWeight = 9223372036854775808 by decide, show Ieee.double.binade = 4503599627370496 by decide, show Ieee.double.infRung = 9218868437227405312 by decide, show Ieee.double.leastPlace = -1074 by decide];split
 · rename_i h
   have h1 : ¬ x / 4503599627370496 % 2048 = 2047 := by omega
   have h2 : x / 4503599627370496 % 2048 = 0 := by omega
   have h3 : x % 9223372036854775808 = x % 4503599627370496 := by omega
   simp [h2, h3]
 · split
   · rename_i h
     have h1 : ¬ x / 4503599627370496 % 2048 = 2047 := by omega
     have h2 : ¬ x / 4503599627370496 % 2048 = 0 := by omega
     have h3 : 4503599627370496 + x % 9223372036854775808 % 4503599627370496 = x % 4503599627370496 + 4503599627370496 := by omega
     have h4 : (-1074 : Int) + ((x % 9223372036854775808 / 4503599627370496 - 1 : Nat) : Int) = ((x / 4503599627370496 % 2048 : Nat) : Int) - 1075 := by omega
     rw [h3, h4];simp [h1, h2]
   · split
     · have h1 : x / 4503599627370496 % 2048 = 2047 := by omega
       have h2 : x % 4503599627370496 = 0 := by omega
       simp [h1, h2]
     · have h1 : x / 4503599627370496 % 2048 = 2047 := by omega
       have h2 : ¬ x % 4503599627370496 = 0 := by omega
       have h3 : x % 9223372036854775808 - 9218868437227405312 = x % 4503599627370496 := by omega
       simp [h1, h2, h3]
theorem zBb (x : Nat) : isN x = nP x := by
 unfold isN;rw [zwm]
 cases h : nP x with
 | true => rfl
 | false =>
  rw [if_neg (by simp)];split <;> rfl
theorem zri (x : Nat) : zgs x = (!nP x || ((x : Int) == 9221120237041090561)) := by
 unfold zgs norm noneB;rw [zBb]
 cases nP x with
 | true =>
  rw [if_pos rfl, zJz];simp
  omega
 | false => simp
theorem zIn (s : ByteArray) (i : Nat) : s.get! i = (tl s).getD i 0 := by
 have h := zma (tl s) i;rwa [← mk_tl s] at h
theorem zw1 (s : ByteArray) (pos : Nat) : lowR (Utf8.decode s pos).1 = lowR ((tl s).getD pos 0).toNat ∧ 1 ≤ (Utf8.decode s pos).2 ∧ ∀ k, 1 ≤ k → k < (Utf8.decode s pos).2 → 128 ≤ ((tl s).getD (pos + k) 0).toNat := by
 have hbig : ∀ x, 128 ≤ x → lowR x = false := fun x h => by simp [lowR]; omega
 unfold Utf8.decode;simp only [zIn, Nat.add_zero];split
 · exact ⟨rfl, zJw _, fun k h1 h2 => by omega⟩
 · rename_i h0
   have hb0 : lowR ((tl s).getD pos 0).toNat = false := hbig _ (by omega);rw [hb0];have he : lowR Utf8.runeError = false := by decide
   split
   · rename_i hc
     simp only [zK6, beq_iff_eq] at hc;split
     · exact ⟨hbig _ (by omega), by simp, fun k h1 h2 => by
        obtain rfl : k = 1 := by simp at h2; omega
        omega⟩
     · exact ⟨he, by simp, fun k h1 h2 => by simp at h2; omega⟩
   · split
     · rename_i hc
       simp only [zK6, beq_iff_eq] at hc;split
       · rename_i hd
         exact ⟨hbig _ (by simp only [zK6, zKq] at hd; omega), by simp, fun k h1 h2 => by
          have : k = 1 ∨ k = 2 := by simp at h2; omega
          rcases this with rfl | rfl <;> omega⟩
       · exact ⟨he, by simp, fun k h1 h2 => by simp at h2; omega⟩
     · split
       · rename_i hc
         simp only [zK6, beq_iff_eq] at hc;split
         · rename_i hd
           exact ⟨hbig _ (by simp only [zK6, zKq] at hd; omega), by simp, fun k h1 h2 => by
            have : k = 1 ∨ k = 2 ∨ k = 3 := by simp at h2; omega
            rcases this with rfl | rfl | rfl <;> omega⟩
         · exact ⟨he, by simp, fun k h1 h2 => by simp at h2; omega⟩
       · exact ⟨he, by simp, fun k h1 h2 => by simp at h2; omega⟩
theorem ztd (s : ByteArray) : ∀ (f pos : Nat), s.size ≤ pos + f → (0 ≤ Lib.idxFuncFrom lowR true s f pos ↔ ∃ j, pos ≤ j ∧ j < s.size ∧ lowR ((tl s).getD j 0).toNat = true)
 | 0, pos, h => by
  constructor
  · intro h0
    simp [Lib.idxFuncFrom] at h0
  · rintro ⟨j, h1, h2, _⟩
    omega
 | f + 1, pos, h => by
  unfold Lib.idxFuncFrom;obtain ⟨d1, d2, d3⟩ := zw1 s pos;split
  · rename_i hp
    split
    · rename_i hl
      constructor
      · intro _
        exact ⟨pos, zJw _, hp, by rw [← d1]; exact hl⟩
      · intro _
        omega
    · rename_i hl
      rw [ztd s f _ (by omega)];constructor
      · rintro ⟨j, h1, h2, h3⟩
        exact ⟨j, by omega, h2, h3⟩
      · rintro ⟨j, h1, h2, h3⟩
        refine ⟨j, ?_, h2, h3⟩;refine Decidable.byContradiction fun hlt => ?_;by_cases e : j = pos
        · subst e
          rw [← d1] at h3;exact hl h3
        · have := d3 (j - pos) (by omega) (by omega)
          rw [show pos + (j - pos) = j by omega] at this;have hbig : ∀ x, 128 ≤ x → lowR x = false := fun x h => by simp [lowR]; omega
          rw [hbig _ this] at h3;cases h3
  · constructor
    · intro h0
      omega
    · rintro ⟨j, h1, h2, _⟩
      omega
def textB (s : ByteArray) : Bool := decide (bd (tl s) 0 = s.size) && decide (∀ j (h : j < s.size), lowR s[j].toNat = false)
theorem zx1 (s : ByteArray) : lineB s = textB s := by
 unfold lineB textB;have hle := bd_le (tl s).length (tl s) 0 (zJw _);have hl := zab s
 have h1 : decide (badOf (tl s) < 0) = decide (bd (tl s) 0 = s.size) := by
  unfold badOf;rw [hl];split
  · rename_i h
    simp [h]
  · rename_i h
    simp [h]
 rw [h1];congr 1
 rw [zJz];simp only [Bool.not_eq_true', zKs, zKq];have := ztd s s.size 0 (by omega);unfold Lib.idxFunc;rw [this];constructor
 · intro h j hj
   cases hb : lowR s[j].toNat with
   | false => rfl
   | true =>
    refine absurd ⟨j, zK8 _, hj, ?_⟩ h;rw [zK3, zK1 (by rw [hl]; exact hj)];exact hb
 · rintro h ⟨j, _, hj, hb⟩
   rw [zK3, zK1 (by rw [hl]; exact hj)] at hb;have := h j hj;have e : (tl s)[j]'(by rw [hl]; exact hj) = s[j] := rfl;simp only [Option.getD_some, e] at hb;rw [this] at hb;cases hb
set_option maxRecDepth 100000 in
theorem zxv (s : ByteArray) (hs : s.size ≤ 1000) (w : World) : Calls Tryz.prog 60 #[.string s] w fun e w' => e = .returned (.bool (lineB s)) ∧ Below w.heap.size w w' := by
 rw [zx1];have kc := fun (w : World) (s : ByteArray) => Lib.run_convert_string_bytes (P := Tryz.prog) w 9 33 5 s Tryz.underlying9 Tryz.underlying33 Tryz.underlying5;have hb2 : Below w.heap.size w (Lib.bytesWorld w 5 s) := Go.Joins.below_bytesWorld _ _ _ _ (zJw _);have hs2 : (Lib.bytesWorld w 5 s).heap.size = w.heap.size + 1 := Lib.bytesWorld_size _ _ _;have cS := zA9 (some ⟨w.heap.size, 0, none⟩) s.size (grownCap w s.size 0 5) (tl s) (by rw [zab]; omega) (Lib.bytesWorld w 5 s) (by rw [hs2]; exact zga w s);have hle := bd_le (tl s).length (tl s) 0 (zJw _);rw [Nat.zero_add, zab] at hle;obtain ⟨R, hR⟩ : ∃ R, textB s = R := ⟨_, rfl⟩;rw [hR];have HR := zJv hR;have HS := zJv hs2;have HB2 := zJv hb2;unfold zor at cS;obtain ⟨b, hb⟩ : ∃ b, bd (tl s) 0 = b := ⟨_, rfl⟩;rw [hb] at cS hle;have HBD := zJv hb;clear hR hs2 hb hb2;go_enter Tryz.func60, Tryz.ntmps60
 go_wp2_with fail
 refine cS.mono ?_;rintro e w3 ⟨v1, v2, rfl, _, hb3⟩;have hB3 : Below w.heap.size w w3 := HB2.out.trans (hb3.mono (by rw [HS.out]; omega));clear cS hb3 kc;by_cases hlt : b < s.size
 · have HF : Hid (R = false) := zJv (by
    rw [← HR.out];unfold textB
    rw [HBD.out, decide_eq_false (by omega), Bool.false_and])
   go_wp2
   go_ret;exact ⟨za7 HF.out.symm, hB3⟩
 · obtain rfl : b = s.size := by omega
   clear hlt hle
   have hR2 : R = decide (∀ j (h : j < s.size), lowR s[j].toNat = false) := by
    rw [← HR.out];unfold textB;rw [HBD.out, decide_eq_true rfl, Bool.true_and]
   have HR2 := zJv hR2;clear hR2 HR HBD;go_wp2
   go_loop [6] (fun i => ∃ k : Nat, k ≤ s.size ∧ i = .int .i64 k ∧ Hid (∀ j (h : j < s.size), j < k → lowR s[j].toNat = false)) (fun i => s.size - (intOf i).toNat)
   case atStart => exact ⟨0, zK8 _, rfl, zJv fun j _ h => absurd h (by omega)⟩
   case round =>
    obtain ⟨k, hk, rfl, HA⟩ := hrel;by_cases hlt : k < s.size
    · have hc := s[k].toNat_lt
      have hstep : lowR s[k].toNat = false → ∀ j (h : j < s.size), j < k + 1 → lowR s[j].toNat = false := fun hA j hj hjk => by
       by_cases e : j = k
       · subst e; exact hA
       · exact HA.out j hj (by omega)
      have hbad : lowR s[k].toNat = true → R = false := fun hA => by
       rw [HR2.out, zKs];intro h;rw [h k hlt] at hA;cases hA
      obtain ⟨c, hcs⟩ : ∃ c, s[k] = c := ⟨_, rfl⟩;rw [hcs] at hc hstep hbad;have HC := zJv hcs;have HST := zJv hstep;have HBA := zJv hbad;clear hstep hbad;by_cases h1 : c.toNat < 32
      · have d1 : decide ((c.toNat : Int) < 32) = true := by simp; omega
        by_cases h2 : c.toNat = 10
        · have d2 : ((c.toNat : Int) != 10) = false := by simp; omega
          have d3 : ((c.toNat : Int) == 10) = true := by simp; omega
          have h3 := zJv (HST.out (by simp [lowR, h2]));clear h1 h2;go_wp2
          all_goals
           go_round
           case rel => exact ⟨k + 1, by omega, by go_num, h3⟩
           case measure => simp [intOf]; omega
        · have d2 : ((c.toNat : Int) != 10) = true := by simp; omega
          have d3 : ((c.toNat : Int) == 10) = false := by simp; omega
          have h3 := zJv (HBA.out (by simp [lowR, h1, h2]));clear h1 h2;go_wp2
          all_goals
           go_ret;exact ⟨za7 h3.out.symm, hB3⟩
      · have d1 : decide ((c.toNat : Int) < 32) = false := by simp; omega
        have h3 := zJv (HST.out (by simp [lowR, h1]));clear h1;go_wp2
        all_goals
         go_round
         case rel => exact ⟨k + 1, by omega, by go_num, h3⟩
         case measure => simp [intOf]; omega
    · obtain rfl : k = s.size := by omega
      have HF : Hid (R = true) := zJv (by rw [HR2.out, zKq]; exact fun j hj => HA.out j hj hj);go_wp2
      go_ret;exact ⟨za7 HF.out.symm, hB3⟩
end Go.Proofs.YtidmeodmkcomlaaGreatDoor
