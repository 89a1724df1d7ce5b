/- The document's answer for a term of a kind with a list of names, and for any term: of a bounded size. -/
import Derived.Test.YtidmeodmkcomlaaGreatDoorK29
import Derived.Test.YtidmeodmkcomlaaGreatDoorK30
import Derived.Test.YtidmeodmkcomlaaGreatDoorK31
import Derived.IntWalk
set_option linter.unusedSimpArgs false
set_option linter.unusedVariables false
namespace Go.Proofs.YtidmeodmkcomlaaGreatDoor
open Go Go.Proofs Go.RowKit
set_option maxHeartbeats 8000000
theorem tb12 (pos n : Int) (nm : ByteArray) (bits : Nat) (names : List ByteArray) (kids types : List Int) : termB ⟨12, pos, nm, n, bits, names, kids, types⟩ = (nm.toList.isEmpty && (decide (n = 0) && (decide (bits = 0) && (decide (types.length = 0) && (decide (names.length = kids.length) && (zes names && decide names.Nodup)))))) := by
 show za6 0 (names.length : Int) 0 0 n kids.length types.length (nm.toList.isEmpty) (onceB zac names) (decide (bits = 0)) = _
 rw [zJz];unfold za6 onceB zes;simp only [zK6, zKq];constructor
 · rintro ⟨⟨h1, h2, h3, h4, h5⟩, h6, h7, h8⟩
   exact ⟨h6, by omega, h8, by omega, by omega, h7.1, h7.2⟩
 · rintro ⟨h1, h2, h3, h4, h5, h6, h7⟩
   exact ⟨⟨by omega, by omega, by omega, by omega, by omega⟩, h1, ⟨h6, h7⟩, h3⟩
set_option maxRecDepth 100000 in
theorem zy6 (pos n : Int) (nm : ByteArray) (bits : Nat) (names : List ByteArray) (kids types : List Int) (p : Ptr3) (w : World) (hS : SlAt (Lt w.heap.size) w p.a5 names.length (names.map .string)) (hn : names.length ≤ 1000) (hsz : ∀ s ∈ names, s.size ≤ 1000) :
 Calls Tryz.prog 30 #[.agg (za1 ⟨12, pos, nm, n, bits, names, kids, types⟩ p).toArray] w fun e w' => e = .returned (.bool (termB ⟨12, pos, nm, n, bits, names, kids, types⟩)) ∧ Below w.heap.size w w' := by
 rw [tb12];have kN := fun W (hW : Below w.heap.size w W) => zlp p.a5 p.c5 names W (RdAt.of_sl (hS.keep (zaa hW))) hn hsz;have kO := fun W (hW : Below w.heap.size w W) => zhb p.a5 p.c5 names W (RdAt.of_sl (hS.keep (zaa hW))) hn;have hB := (zJx w.heap.size w).alloc (zJw _) (.cells (za1 ⟨12, pos, nm, n, bits, names, kids, types⟩ p).toArray 38);have hX := Blk.new w 38 (za1 ⟨12, pos, nm, n, bits, names, kids, types⟩ p).toArray;obtain ⟨l5, hl5⟩ : ∃ l, names.length = l := ⟨_, rfl⟩;obtain ⟨l6, hl6⟩ : ∃ l, kids.length = l := ⟨_, rfl⟩;obtain ⟨l7, hl7⟩ : ∃ l, types.length = l := ⟨_, rfl⟩;unfold za1 at hB hX ⊢;dsimp only at hB hX ⊢;rw [hl5, hl6, hl7] at hB hX;rw [hl5] at kN kO;rw [hl5, hl6, hl7];obtain ⟨c0, hc0⟩ : ∃ c, (nm.toList == []) = c := ⟨_, rfl⟩;have he0 : nm.toList.isEmpty = c0 := by rw [← hc0]; cases nm.toList <;> rfl
 rw [he0];clear he0;obtain ⟨c1, hc1⟩ : ∃ c, (n == 0) = c := ⟨_, rfl⟩;have he1 : decide (n = 0) = c1 := by rw [← hc1]; rfl
 rw [he1];clear he1;obtain ⟨c2, hc2⟩ : ∃ c, ((bits : Int) == 0) = c := ⟨_, rfl⟩;have he2 : decide (bits = 0) = c2 := by rw [← hc2, zJz]; simp
 rw [he2];clear he2;obtain ⟨c3, hc3⟩ : ∃ c, ((l7 : Int) == 0) = c := ⟨_, rfl⟩;have he3 : decide (l7 = 0) = c3 := by rw [← hc3, zJz]; simp; try omega
 rw [he3];clear he3;obtain ⟨c4, hc4⟩ : ∃ c, ((l5 : Int) == (l6 : Int)) = c := ⟨_, rfl⟩;have he4 : decide (l5 = l6) = c4 := by rw [← hc4, zJz]; simp; try omega
 rw [he4];obtain ⟨c5, hc5⟩ : ∃ c, zes names = c := ⟨_, rfl⟩;rw [hc5] at kN;rw [hc5];obtain ⟨c6, hc6⟩ : ∃ c, decide names.Nodup = c := ⟨_, rfl⟩;rw [hc6] at kO;rw [hc6];obtain ⟨r, hr⟩ : ∃ r, (c0 && (c1 && (c2 && (c3 && (c4 && (c5 && c6)))))) = r := ⟨_, rfl⟩;rw [hr];obtain ⟨W1, hW1⟩ : ∃ W1, w.alloc (.cells #[.int .i64 12, .int .i64 pos, .string nm, .int .i64 n, .int .u64 (bits : Int), .slice p.a5 l5 p.c5, .slice p.a6 l6 p.c6, .slice p.a7 l7 p.c7] 38) = W1 := ⟨_, rfl⟩;rw [hW1] at hB hX;have HB := zJv hB;have HX := zJv hX;have hzX := hX.lt;have x0 := (hX.cell 0).trans rfl;have x2 := (hX.cell 2).trans rfl;have x3 := (hX.cell 3).trans rfl;have x4 := (hX.cell 4).trans rfl;have x5 := (hX.cell 5).trans rfl;have x6 := (hX.cell 6).trans rfl;have x7 := (hX.cell 7).trans rfl;clear hB hX;have KN := zJv kN;have KO := zJv kO;clear he4 hc5 hc6 hS hn hsz kN kO hl5 hl6 hl7;cases c0
 · skip
   obtain rfl : r = false := by rw [← hr]; simp
   clear hr;go_enter Tryz.func30, Tryz.ntmps30
   try dsimp only [List.append]
   go_wp2
   all_goals
    go_ret;exact ⟨rfl, HB.out⟩
 · skip
   cases c1
   · skip
     obtain rfl : r = false := by rw [← hr]; simp
     clear hr;go_enter Tryz.func30, Tryz.ntmps30
     try dsimp only [List.append]
     go_wp2
     all_goals
      go_ret;exact ⟨rfl, HB.out⟩
   · skip
     cases c2
     · skip
       obtain rfl : r = false := by rw [← hr]; simp
       clear hr;go_enter Tryz.func30, Tryz.ntmps30
       try dsimp only [List.append]
       go_wp2
       all_goals
        go_ret;exact ⟨rfl, HB.out⟩
     · skip
       cases c3
       · skip
         obtain rfl : r = false := by rw [← hr]; simp
         clear hr;go_enter Tryz.func30, Tryz.ntmps30
         try dsimp only [List.append]
         go_wp2
         all_goals
          go_ret;exact ⟨rfl, HB.out⟩
       · skip
         cases c4
         · skip
           obtain rfl : r = false := by rw [← hr]; simp
           clear hr;go_enter Tryz.func30, Tryz.ntmps30
           try dsimp only [List.append]
           go_wp2
           all_goals
            go_ret;exact ⟨rfl, HB.out⟩
         · skip
           cases c5
           · skip
             obtain rfl : r = false := by rw [← hr]; simp
             clear hr;go_enter Tryz.func30, Tryz.ntmps30
             try dsimp only [List.append]
             have kN := KN.out W1 HB.out;go_wp2_with (go_at_call 64; refine kN.mono ?_; rintro e w2 ⟨rfl, rfl⟩)
             go_ret;exact ⟨rfl, HB.out⟩
           · skip
             cases c6
             · skip
               obtain rfl : r = false := by rw [← hr]; simp
               clear hr;go_enter Tryz.func30, Tryz.ntmps30
               try dsimp only [List.append]
               have kN := KN.out W1 HB.out;go_wp2_with fail
               refine kN.mono ?_;rintro e w2 ⟨rfl, rfl⟩;clear kN;have kO := KO.out W1 HB.out;go_wp2_with (go_at_call 65; refine kO.mono ?_; rintro e w3 ⟨rfl, hb3⟩)
               go_ret;exact ⟨rfl, HB.out.trans (hb3.mono HB.out.size)⟩
             · skip
               obtain rfl : r = true := by rw [← hr]; simp
               clear hr;go_enter Tryz.func30, Tryz.ntmps30
               try dsimp only [List.append]
               have kN := KN.out W1 HB.out;go_wp2_with fail
               refine kN.mono ?_;rintro e w2 ⟨rfl, rfl⟩;clear kN;have kO := KO.out W1 HB.out;go_wp2_with (go_at_call 65; refine kO.mono ?_; rintro e w3 ⟨rfl, hb3⟩)
               go_ret;exact ⟨rfl, HB.out.trans (hb3.mono HB.out.size)⟩
def evs : List ByteArray → List ByteArray
 | [] => []
 | [a] => [a]
 | a :: _ :: r => a :: evs r
def ods : List ByteArray → List ByteArray
 | [] => []
 | [_] => []
 | _ :: b :: r => b :: ods r
theorem zgr : ∀ (l : List ByteArray) (x : ByteArray), evs (l ++ [x]) = (if l.length % 2 = 0 then evs l ++ [x] else evs l) ∧ ods (l ++ [x]) = (if l.length % 2 = 0 then ods l else ods l ++ [x])
 | [], x => by simp [evs, ods]
 | [a], x => by simp [evs, ods]
 | a :: b :: r, x => by
  have h := zgr r x;have e : (a :: b :: r).length % 2 = r.length % 2 := by simp only [zK2]; omega
  simp only [zKj, evs, ods, e, h.1, h.2];split <;> simp
theorem zk5 : ∀ (l : List ByteArray), (evs l).length = (l.length + 1) / 2
 | [] => rfl
 | [_] => by simp [evs]
 | a :: b :: r => by
  have := zk5 r;simp only [evs, zK2, this];omega
theorem zih : ∀ (l : List ByteArray), l.length % 2 = 0 → evs l = evens l ∧ ods l = odds l
 | [], _ => ⟨rfl, rfl⟩
 | [_], h => by simp at h
 | a :: b :: r, h => by
  have := zih r (by simp only [zK2] at h; omega);simp only [evs, ods, evens, odds, this.1, this.2, and_self]
theorem zFj (l : List ByteArray) : ∀ (n : Nat) (m : List ByteArray), m.length = n → (∀ x ∈ evs l, x ∈ evs (l ++ m)) ∧ (∀ x ∈ ods l, x ∈ ods (l ++ m)) := by
 intro n
 induction n with
 | zero => intro m hm; obtain rfl := List.length_eq_zero_iff.1 hm; simp
 | succ n ih =>
  intro m hm;rcases List.eq_nil_or_concat m with rfl | ⟨m', y, rfl⟩
  · simp at hm
  · rw [List.concat_eq_append] at hm ⊢
    have := ih m' (by simpa using hm);have hs := zgr (l ++ m') y;rw [← List.append_assoc, hs.1, hs.2];constructor
    · intro x hx
      have := this.1 x hx;split <;> simp [this]
    · intro x hx
      have := this.2 x hx;split <;> simp [this]
theorem zCk {names : List ByteArray} {k : Nat} (hk : k < names.length) (h : if k % 2 = 0 then nmB (tl names[k]) = false else zac (tl names[k]) = false) : armsB names = false := by
 have hsub := zFj (names.take (k + 1)) _ (names.drop (k + 1)) rfl;rw [List.take_append_drop] at hsub;have htk : names.take (k + 1) = names.take k ++ [names[k]] := zK9 hk;have hs := zgr (names.take k) names[k];rw [← htk, zKi, Nat.min_eq_left (by omega)] at hs;unfold armsB;by_cases he : names.length % 2 = 0
 · obtain ⟨e1, e2⟩ := zih names he
   by_cases hk2 : k % 2 = 0
   · rw [if_pos hk2] at h hs
     have hm : names[k] ∈ evens names := by rw [← e1]; exact hsub.1 _ (by rw [hs.1]; simp)
     have : onceB tagB (evens names) = false := by
      unfold onceB;rw [zKs];intro hh;have := hh.1 _ hm;rw [zjs, h] at this;cases this
     rw [this, Bool.and_false, Bool.and_false]
   · rw [if_neg hk2] at h
     simp only [if_neg hk2] at hs;have hm : names[k] ∈ odds names := by rw [← e2]; exact hsub.2 _ (by rw [hs.2]; simp)
     have : decide (∀ s ∈ odds names, zac (tl s) = true) = false := by
      rw [zKs];intro hh;have := hh _ hm;rw [h] at this;cases this
     rw [this, Bool.false_and, Bool.and_false]
 · rw [decide_eq_false he, Bool.false_and]
def zhz (names : List ByteArray) (k : Nat) : Prop := (∀ s ∈ evs (names.take k), tagB (tl s) = true) ∧ (∀ s ∈ ods (names.take k), zac (tl s) = true)
theorem zAt {names : List ByteArray} {k : Nat} (hk : k < names.length) (hA : zhz names k) (h : if k % 2 = 0 then nmB (tl names[k]) = true else zac (tl names[k]) = true) : zhz names (k + 1) := by
 have htk : names.take (k + 1) = names.take k ++ [names[k]] := zK9 hk;have hs := zgr (names.take k) names[k];rw [zKi, Nat.min_eq_left (by omega)] at hs;unfold zhz;rw [htk, hs.1, hs.2];by_cases hk2 : k % 2 = 0
 · rw [if_pos hk2] at h ⊢
   rw [if_pos hk2];refine ⟨fun s hs => ?_, hA.2⟩;rcases List.mem_append.1 hs with hs | hs
   · exact hA.1 s hs
   · simp only [zK7] at hs
     subst hs;rw [zjs];exact h
 · rw [if_neg hk2] at h ⊢
   rw [if_neg hk2];refine ⟨hA.1, fun s hs => ?_⟩;rcases List.mem_append.1 hs with hs | hs
   · exact hA.2 s hs
   · simp only [zK7] at hs
     subst hs;exact h
theorem zCm (pos n : Int) (nm : ByteArray) (bits : Nat) (names : List ByteArray) (kids types : List Int) (h : armsB names = false) : termB ⟨10, pos, nm, n, bits, names, kids, types⟩ = false := by
 show za6 0 (1 + (names.length : Int) / 2) 1 0 n kids.length types.length (nm.toList.isEmpty) (armsB names) (decide (bits = 0)) = _
 unfold za6;rw [h];simp
theorem tb10 (pos n : Int) (nm : ByteArray) (bits : Nat) (names : List ByteArray) (kids types : List Int) (hA : zhz names names.length) : termB ⟨10, pos, nm, n, bits, names, kids, types⟩ = (nm.toList.isEmpty && (decide (n = 0) && (decide (bits = 0) && (decide (types.length = 0) && (decide (names.length % 2 = 0) && ((decide ((kids.length : Int) - (evs names).length = 1) || decide ((kids.length : Int) - (evs names).length = 2)) && decide (evs names).Nodup)))))) := by
 show za6 0 (1 + (names.length : Int) / 2) 1 0 n kids.length types.length (nm.toList.isEmpty) (armsB names) (decide (bits = 0)) = _
 have hl := zk5 names;obtain ⟨hA1, hA2⟩ := hA;rw [List.take_length] at hA1 hA2;rw [zJz];unfold za6 armsB;simp only [zK6, Bool.or_eq_true, zKq];constructor
 · rintro ⟨⟨h1, h2, h3, h4, h5⟩, h6, ⟨h7, h8, h9⟩, h10⟩
   obtain ⟨e1, _⟩ := zih names h7;unfold onceB at h9;rw [zKq] at h9;exact ⟨h6, by omega, h10, by omega, h7, by omega, by rw [e1]; exact h9.2⟩
 · rintro ⟨h1, h2, h3, h4, h5, h6, h7⟩
   obtain ⟨e1, e2⟩ := zih names h5;refine ⟨⟨by omega, by omega, by omega, by omega, by omega⟩, h1, ⟨h5, by rw [← e2]; exact hA2, ?_⟩, h3⟩;unfold onceB;rw [zKq, ← e1];exact ⟨hA1, h7⟩
set_option maxRecDepth 100000 in
theorem zyx (pos n : Int) (nm : ByteArray) (bits : Nat) (names : List ByteArray) (kids types : List Int) (p : Ptr3) (w : World) (hS : SlAt (Lt w.heap.size) w p.a5 names.length (names.map .string)) (hn : names.length ≤ 1000) (hk1 : kids.length ≤ 1000) (hsz : ∀ s ∈ names, s.size ≤ 1000) :
 Calls Tryz.prog 30 #[.agg (za1 ⟨10, pos, nm, n, bits, names, kids, types⟩ p).toArray] w fun e w' => e = .returned (.bool (termB ⟨10, pos, nm, n, bits, names, kids, types⟩)) ∧ Below w.heap.size w w' := by
 obtain ⟨i0, hi, hz0, hz1, hz2⟩ := info_parts info9;obtain ⟨A5, C5, A6, C6, A7, C7⟩ := p;dsimp only at hS;have hbadR := fun k (hk : k < names.length) h => zCm pos n nm bits names kids types (zCk (k := k) hk h);have hgoodR := tb10 pos n nm bits names kids types;obtain ⟨r, hr⟩ : ∃ r, termB ⟨10, pos, nm, n, bits, names, kids, types⟩ = r := ⟨_, rfl⟩;rw [hr] at hbadR hgoodR;rw [hr];have HBAD := zJv hbadR;have HGOOD := zJv hgoodR;clear hr hbadR hgoodR;have hB := (zJx w.heap.size w).alloc (zJw _) (.cells (za1 ⟨10, pos, nm, n, bits, names, kids, types⟩ ⟨A5, C5, A6, C6, A7, C7⟩).toArray 38);have hX := Blk.new w 38 (za1 ⟨10, pos, nm, n, bits, names, kids, types⟩ ⟨A5, C5, A6, C6, A7, C7⟩).toArray;obtain ⟨l5, hl5⟩ : ∃ l, names.length = l := ⟨_, rfl⟩;obtain ⟨l6, hl6⟩ : ∃ l, kids.length = l := ⟨_, rfl⟩;obtain ⟨l7, hl7⟩ : ∃ l, types.length = l := ⟨_, rfl⟩;unfold za1 at hB hX ⊢;dsimp only at hB hX ⊢;rw [hl5, hl6, hl7] at hB hX;rw [hl5, hl6, hl7];have HSZ := zJv hsz;obtain ⟨W1, hW1⟩ : ∃ W1, w.alloc (.cells #[.int .i64 10, .int .i64 pos, .string nm, .int .i64 n, .int .u64 (bits : Int), .slice A5 l5 C5, .slice A6 l6 C6, .slice A7 l7 C7] 38) = W1 := ⟨_, rfl⟩;rw [hW1] at hB hX;have HB := zJv hB;have HX := zJv hX;have hzX := hX.lt;have x0 := (hX.cell 0).trans rfl;have x2 := (hX.cell 2).trans rfl;have x3 := (hX.cell 3).trans rfl;have x4 := (hX.cell 4).trans rfl;have x5 := (hX.cell 5).trans rfl;have x6 := (hX.cell 6).trans rfl;have x7 := (hX.cell 7).trans rfl;clear hB hX;have HRd := zJv hS;have HL := zJv hl5;have HL6 := zJv hl6;have HL7 := zJv hl7;have hn5 : l5 ≤ 1000 := by omega
 have hk6 : l6 ≤ 1000 := by omega
 clear hS hsz hl5 hl6 hl7 hn hk1;go_enter Tryz.func30, Tryz.ntmps30
 try dsimp only [List.append]
 go_wp2
 clear hW1;obtain ⟨W2, hW2⟩ : ∃ W2, W1.alloc (.cells #[] 9) = W2 := ⟨_, rfl⟩
 have hO2 : W2.ownsRow W1.heap.size 9 1 (.slice (some ⟨W1.heap.size, 0, none⟩) 0 0) 0 [] := by
  rw [← hW2];exact World.ownsRow_made W1 #[] 0 (zJw _) (zK8 _) (by simp)
 have hB2 : Below W1.heap.size W1 W2 := by rw [← hW2]; exact (zJx _ _).alloc (zJw _) _
 have HO2 := zJv hO2;have HB2 := zJv hB2;rw [hW2];clear hO2 hB2 hW2 x0 x2 x3 x4 x5 x6 x7;go_loopw [13, 14, 134] (fun v _ i wr => ∃ k : Nat, k ≤ l5 ∧ i = .int .i64 k ∧ Hid (wr.ownsRow W1.heap.size 9 1 v (evs (names.take k)).length ((evs (names.take k)).map .string)) ∧ Hid (zhz names k) ∧ Below W1.heap.size W1 wr) (fun _ _ i _ => l5 - (intOf i).toNat)
 case atStart => exact ⟨0, zK8 _, rfl, zJv (by simpa [evs] using HO2.out), zJv ⟨by simp [evs], by simp [ods]⟩, HB2.out⟩
 case round =>
  obtain ⟨k, hk, rfl, HO, HA, hBr⟩ := hrel;have hzr := hBr.size;have hBw := HB.out.trans (hBr.mono HB.out.size);have hXr := HX.out.below hBr hzX;have x0 := (hXr.cell 0).trans rfl;have x2 := (hXr.cell 2).trans rfl;have x3 := (hXr.cell 3).trans rfl;have x4 := (hXr.cell 4).trans rfl;have x5 := (hXr.cell 5).trans rfl;have x6 := (hXr.cell 6).trans rfl;have x7 := (hXr.cell 7).trans rfl;clear hXr;by_cases hlt : k < l5
  · have hltn : k < names.length := by rw [HL.out]; exact hlt
    obtain ⟨b, off, rfl, e1⟩ := zgh (RdAt.of_sl (HRd.out.keep (zaa hBw))) hltn;have hbad := HBAD.out k hltn;have hgood := zAt hltn HA.out;have htk : names.take (k + 1) = names.take k ++ [names[k]] := zK9 hltn;have hs := zgr (names.take k) names[k];rw [← htk, zKi, Nat.min_eq_left (by omega)] at hs;have hel := zk5 (names.take k);rw [zKi, Nat.min_eq_left (by omega)] at hel;have hssz := HSZ.out _ (zKe hltn);obtain ⟨s, hss⟩ : ∃ s, names[k] = s := ⟨_, rfl⟩;rw [hss] at e1 hbad hgood hs hssz;obtain ⟨EV, hEV⟩ : ∃ EV, evs (names.take k) = EV := ⟨_, rfl⟩;rw [hEV] at HO hs hel;obtain ⟨A13, d13, hv13⟩ := za8 HO.out;subst hv13;have HBD := zJv hbad;have HGD := zJv hgood;have HS1 := zJv hs.1;have hevb : EV.length ≤ 1000 := by omega
    clear hss htk hbad hgood hs hEV hltn hel;have i1 : (0 : Int) ≤ (k : Int) := by omega
    have i2 : (k : Int) < (l5 : Int) := by omega
    by_cases hk2 : k % 2 = 0
    · have d1 : ((k : Int) % 2 == 0) = true := by simp; omega
      have d2 : (Int.tmod (k : Int) 2 == 0) = true := by rw [beq_iff_eq, Int.tmod_eq_emod_of_nonneg (by omega)]; omega
      have kT := fun W => zid s hssz W;obtain ⟨B, hB⟩ : ∃ B, nmB (tl s) = B := ⟨_, rfl⟩;rw [hB] at kT;have HBB := zJv hB;have HS2 : Hid (evs (names.take (k + 1)) = EV ++ [s]) := zJv (by rw [HS1.out, if_pos hk2]);have HK2 := zJv hk2;have HRD := zJv (zeh wr (.string s) 9)
      have hbl : b < W1.heap.size := by
       obtain ⟨b', off', hA', hb', _⟩ := HRd.out.2 (by rw [HL.out]; omega);cases hA'
       have := HB.out.size;omega
      have HCL : Hid (∀ V, Below W1.heap.size W1 V → V.cell? ⟨w.heap.size, 5, none⟩ = some (.slice (some ⟨b, off, none⟩) l5 C5) ∧ V.cell? ⟨b, off + k, none⟩ = some (.string s)) := zJv fun V hV => ⟨((HX.out.below hV hzX).cell 5).trans rfl, ((hV.cell (p := ⟨b, _, none⟩) hbl).trans (hBr.cell (p := ⟨b, _, none⟩) hbl).symm).trans e1⟩;clear hB hk2 hbl;go_wp2_with (at_builtin; refine zca _ rfl _ _ 35 rfl W1.heap.size 9 i0 (.string ByteArray.empty) 1 16 Tryz.underlying35 hi hz0 hz1 hz2 rfl (by decide) (.slice A13 EV.length d13) EV.length (EV.map .string) rfl (HO.out.alloc _) (some ⟨wr.heap.size, 0, none⟩) 1 1 [.string s] rfl rfl HRD.out (by simp [Value.oneCell']) (by unfold maxLen; omega) (by omega) (by simp; omega) ?_; intro v' w2 hown2 hgrow2 hloc2; have hB2 := zg5 (hBr.alloc hzr (.cells #[.string s] 9)) (HO.out.alloc (.cells #[.string s] 9)) hgrow2 (zJw _) (by simp; omega); have y5 := (HCL.out w2 hB2).1; have ye := (HCL.out w2 hB2).2; have HO2' : Hid (w2.ownsRow W1.heap.size 9 1 v' (evs (names.take (k + 1))).length ((evs (names.take (k + 1))).map .string)) := zJv (by rw [HS2.out, zK5, List.map_append]; exact hown2); clear hgrow2 hloc2 hown2)
      cases B
      · have HF := zJv (HBD.out (by rw [if_pos HK2.out]; exact HBB.out))
        go_wp2_with (go_at_call 62; refine (kT _).mono ?_; rintro e w' ⟨rfl, rfl⟩)
        go_ret;exact ⟨za7 HF.out.symm, HB.out.trans (hB2.mono HB.out.size)⟩
      · have HG := zJv (HGD.out (by rw [if_pos HK2.out]; exact HBB.out))
        go_wp2_with (go_at_call 62; refine (kT _).mono ?_; rintro e w' ⟨rfl, rfl⟩)
        go_roundw
        case rel => exact ⟨k + 1, by omega, by go_num, HO2', HG, hB2⟩
        case measure => simp [intOf]; omega
    · have d1 : ((k : Int) % 2 == 0) = false := by rw [zKr]; omega
      have d2 : (Int.tmod (k : Int) 2 == 0) = false := by rw [zKr, Int.tmod_eq_emod_of_nonneg (by omega)]; omega
      have kT := fun W => zej s hssz W;obtain ⟨B, hB⟩ : ∃ B, zac (tl s) = B := ⟨_, rfl⟩;rw [hB] at kT;have HBB := zJv hB;have HS2 : Hid (evs (names.take (k + 1)) = EV) := zJv (by rw [HS1.out, if_neg hk2]);have HO2' : Hid (wr.ownsRow W1.heap.size 9 1 (.slice A13 EV.length d13) (evs (names.take (k + 1))).length ((evs (names.take (k + 1))).map .string)) := zJv (by rw [HS2.out]; exact HO.out);have HK2 := zJv hk2;clear hB hk2;cases B
      · have HF := zJv (HBD.out (by rw [if_neg HK2.out]; exact HBB.out))
        go_wp2_with (go_at_call 59; refine (kT _).mono ?_; rintro e w' ⟨rfl, rfl⟩)
        go_ret;exact ⟨za7 HF.out.symm, hBw⟩
      · have HG := zJv (HGD.out (by rw [if_neg HK2.out]; exact HBB.out))
        go_wp2_with (go_at_call 59; refine (kT _).mono ?_; rintro e w' ⟨rfl, rfl⟩)
        go_roundw
        case rel => exact ⟨k + 1, by omega, by go_num, HO2', HG, hBr⟩
        case measure => simp [intOf]; omega
  · obtain rfl : k = l5 := by omega
    have hAf : zhz names names.length := by rw [HL.out]; exact HA.out
    have hr := HGOOD.out hAf;have hel := zk5 names;rw [HL.out] at hel hr;rw [HL6.out, HL7.out] at hr;have hO := HO.out;rw [← HL.out, List.take_length] at hO;obtain ⟨A13, d13, hv13, _, hS13⟩ := SlAt.of_own hO;subst hv13;obtain ⟨EV, hEV⟩ : ∃ EV, evs names = EV := ⟨_, rfl⟩;rw [hEV] at hr hel hS13;have kO := fun W (hW : Below wr.heap.size wr W) => zhb A13 d13 EV W (RdAt.of_sl (hS13.keep (fun b o hb => hW.cell (p := ⟨b, o, none⟩) hb.2))) (by omega);rw [hEV];clear hO HO HA hAf hEV hS13 hlt;obtain ⟨m, hm⟩ : ∃ m, EV.length = m := ⟨_, rfl⟩;rw [hm] at hr hel kO;rw [hm];have hmb : m ≤ 1000 := by omega
    clear hel hm;obtain ⟨c0, hc0⟩ : ∃ c, (nm.toList == []) = c := ⟨_, rfl⟩;have he0 : nm.toList.isEmpty = c0 := by rw [← hc0]; cases nm.toList <;> rfl
    rw [he0] at hr;clear he0;obtain ⟨c1, hc1⟩ : ∃ c, (n == 0) = c := ⟨_, rfl⟩;have he1 : decide (n = 0) = c1 := by rw [← hc1]; rfl
    rw [he1] at hr;clear he1;obtain ⟨c2, hc2⟩ : ∃ c, ((bits : Int) == 0) = c := ⟨_, rfl⟩;have he2 : decide (bits = 0) = c2 := by rw [← hc2, zJz]; simp
    rw [he2] at hr;clear he2;obtain ⟨c3, hc3⟩ : ∃ c, ((l7 : Int) == 0) = c := ⟨_, rfl⟩;have he3 : decide (l7 = 0) = c3 := by rw [← hc3, zJz]; simp; try omega
    rw [he3] at hr;clear he3;obtain ⟨c4, hc4⟩ : ∃ c, decide (k % 2 = 0) = c := ⟨_, rfl⟩;have g4 : ((k : Int) % 2 == 0) = c4 := by rw [← hc4, zJz]; simp; omega
    have g5 : (Int.tmod (k : Int) 2 == 0) = c4 := by rw [← hc4, zJz, beq_iff_eq, Int.tmod_eq_emod_of_nonneg (by omega), zKq]; omega
    rw [hc4] at hr;obtain ⟨x15, hx15⟩ : ∃ x : Int, (l6 : Int) - (m : Int) = x := ⟨_, rfl⟩;have hsub : IntKind.i64.wrap ((l6 : Int) - (m : Int)) = x15 := by rw [IntWalk.i64_in _ (by omega)]; exact hx15
    rw [hx15] at hr;obtain ⟨c5, hc5⟩ : ∃ c, (x15 == 1) = c := ⟨_, rfl⟩;obtain ⟨c6, hc6⟩ : ∃ c, (x15 == 2) = c := ⟨_, rfl⟩;have g6 : decide (x15 = 1) = c5 := by rw [← hc5]; rfl
    have g7 : decide (x15 = 2) = c6 := by rw [← hc6]; rfl
    rw [g6, g7] at hr;obtain ⟨c7, hc7⟩ : ∃ c, decide EV.Nodup = c := ⟨_, rfl⟩;rw [hc7] at hr kO;have HXX := zJv hx15;clear hc4 g6 g7 hc7 hx15;cases c0
    · skip
      obtain rfl : r = false := by rw [hr]; simp
      clear hr;go_wp2
      all_goals
       go_ret;exact ⟨rfl, hBw⟩
    · skip
      cases c1
      · skip
        obtain rfl : r = false := by rw [hr]; simp
        clear hr;go_wp2
        all_goals
         go_ret;exact ⟨rfl, hBw⟩
      · skip
        cases c2
        · skip
          obtain rfl : r = false := by rw [hr]; simp
          clear hr;go_wp2
          all_goals
           go_ret;exact ⟨rfl, hBw⟩
        · skip
          cases c3
          · skip
            obtain rfl : r = false := by rw [hr]; simp
            clear hr;go_wp2
            all_goals
             go_ret;exact ⟨rfl, hBw⟩
          · skip
            cases c4
            · skip
              obtain rfl : r = false := by rw [hr]; simp
              clear hr;go_wp2
              all_goals
               go_ret;exact ⟨rfl, hBw⟩
            · skip
              cases c5
              · cases c6
                · skip
                  obtain rfl : r = false := by rw [hr]; simp
                  clear hr;go_wp2
                  all_goals
                   go_ret;exact ⟨rfl, hBw⟩
                · skip
                  cases c7
                  · skip
                    obtain rfl : r = false := by rw [hr]; simp
                    clear hr;go_wp2_with (go_at_call 65; refine (kO _ (zJx _ _)).mono ?_; rintro e w3 ⟨rfl, hb3⟩)
                    go_ret;exact ⟨rfl, hBw.trans (hb3.mono hBw.size)⟩
                  · skip
                    obtain rfl : r = true := by rw [hr]; simp
                    clear hr;go_wp2_with (go_at_call 65; refine (kO _ (zJx _ _)).mono ?_; rintro e w3 ⟨rfl, hb3⟩)
                    go_ret;exact ⟨rfl, hBw.trans (hb3.mono hBw.size)⟩
              · skip
                cases c7
                · skip
                  obtain rfl : r = false := by rw [hr]; simp
                  clear hr;go_wp2_with (go_at_call 65; refine (kO _ (zJx _ _)).mono ?_; rintro e w3 ⟨rfl, hb3⟩)
                  go_ret;exact ⟨rfl, hBw.trans (hb3.mono hBw.size)⟩
                · skip
                  obtain rfl : r = true := by rw [hr]; simp
                  clear hr;go_wp2_with (go_at_call 65; refine (kO _ (zJx _ _)).mono ?_; rintro e w3 ⟨rfl, hb3⟩)
                  go_ret;exact ⟨rfl, hBw.trans (hb3.mono hBw.size)⟩
set_option maxRecDepth 100000 in
theorem zCp (kd pos n : Int) (nm : ByteArray) (bits : Nat) (names : List ByteArray) (kids types : List Int) (p : Ptr3) (w : World) (hk : ¬ (0 ≤ kd ∧ kd ≤ 16)) :
 Calls Tryz.prog 30 #[.agg (za1 ⟨kd, pos, nm, n, bits, names, kids, types⟩ p).toArray] w fun e w' => e = .returned (.bool (termB ⟨kd, pos, nm, n, bits, names, kids, types⟩)) ∧ Below w.heap.size w w' := by
 have hF : termB ⟨kd, pos, nm, n, bits, names, kids, types⟩ = false := by
  unfold termB;dsimp only;repeat rw [if_neg (by omega)]
 rw [hF];have hB := (zJx w.heap.size w).alloc (zJw _) (.cells (za1 ⟨kd, pos, nm, n, bits, names, kids, types⟩ p).toArray 38);have HB := zJv hB;have d0 : (kd == 0) = false := by rw [zKr]; omega
 have d1 : (kd == 1) = false := by rw [zKr]; omega
 have d2 : (kd == 2) = false := by rw [zKr]; omega
 have d3 : (kd == 3) = false := by rw [zKr]; omega
 have d4 : (kd == 4) = false := by rw [zKr]; omega
 have d5 : (kd == 5) = false := by rw [zKr]; omega
 have d6 : (kd == 6) = false := by rw [zKr]; omega
 have d7 : (kd == 7) = false := by rw [zKr]; omega
 have d8 : (kd == 8) = false := by rw [zKr]; omega
 have d9 : (kd == 9) = false := by rw [zKr]; omega
 have d10 : (kd == 10) = false := by rw [zKr]; omega
 have d11 : (kd == 11) = false := by rw [zKr]; omega
 have d12 : (kd == 12) = false := by rw [zKr]; omega
 have d13 : (kd == 13) = false := by rw [zKr]; omega
 have d14 : (kd == 14) = false := by rw [zKr]; omega
 have d15 : (kd == 15) = false := by rw [zKr]; omega
 have d16 : (kd == 16) = false := by rw [zKr]; omega
 clear hB hF hk;unfold za1 at HB ⊢;go_enter Tryz.func30, Tryz.ntmps30
 try dsimp only [List.append]
 go_wp2
 go_ret;exact ⟨rfl, HB.out⟩
theorem zyk (t : TermD) (p : Ptr3) (w : World) (hF : zbb t) (hM : t.int ≤ 9223372036854775807) (hP : TermOk (Lt w.heap.size) w t p) :
 Calls Tryz.prog 30 #[.agg (za1 t p).toArray] w fun e w' => e = .returned (.bool (termB t)) ∧ Below w.heap.size w w' := by
 obtain ⟨kd, pos, nm, n, bits, names, kids, types⟩ := t;obtain ⟨h1, h2, h3, h4, h5⟩ := hF;by_cases hk : 0 ≤ kd ∧ kd ≤ 16
 · have : kd = 0 ∨ kd = 1 ∨ kd = 2 ∨ kd = 3 ∨ kd = 4 ∨ kd = 5 ∨ kd = 6 ∨ kd = 7 ∨ kd = 8 ∨ kd = 9 ∨ kd = 10 ∨ kd = 11 ∨ kd = 12 ∨ kd = 13 ∨ kd = 14 ∨ kd = 15 ∨ kd = 16 := by omega
   rcases this with rfl | rfl | rfl | rfl | rfl | rfl | rfl | rfl | rfl | rfl | rfl | rfl | rfl | rfl | rfl | rfl | rfl
   · exact zCb pos n nm bits names kids types p w h1
   · exact zBj pos n nm bits names kids types p w hM
   · exact zC8 pos n nm bits names kids types p w
   · exact zBi pos n nm bits names kids types p w h1
   · exact zC1 pos n nm bits names kids types p w
   · exact zC3 pos n nm bits names kids types p w h1
   · exact zE3 pos n nm bits names kids types p w
   · exact zE6 pos n nm bits names kids types p w h1
   · exact zCz pos n nm bits names kids types p w h1
   · exact zCv pos n nm bits names kids types p w
   · exact zyx pos n nm bits names kids types p w hP.1 h2 h4 h3
   · exact zAc pos n nm bits names kids types p w h1
   · exact zy6 pos n nm bits names kids types p w hP.1 h2 h3
   · exact zBa pos n nm bits names kids types p w h1
   · exact zy5 pos n nm bits names kids types p w
   · exact zzr pos n nm bits names kids types p w
   · exact zxx pos n nm bits names kids types p w
 · exact zCp kd pos n nm bits names kids types p w hk
end Go.Proofs.YtidmeodmkcomlaaGreatDoor
