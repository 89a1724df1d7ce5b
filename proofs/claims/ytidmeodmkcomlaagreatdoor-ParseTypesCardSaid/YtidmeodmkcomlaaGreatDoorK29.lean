/- The document's answer for a term of a kind without lists of names: at every term of a bounded size. -/
import Derived.Test.YtidmeodmkcomlaaGreatDoorK28
set_option linter.unusedSimpArgs false
set_option linter.unusedVariables false
namespace Go.Proofs.YtidmeodmkcomlaaGreatDoor
open Go Go.Proofs Go.RowKit
set_option maxHeartbeats 8000000
theorem zHy : ∀ x ∈ words, nmB x = true := by decide
theorem zjs (l : List UInt8) : tagB l = nmB l := by
 unfold tagB;rw [zo6]
 cases hw : isW l with
 | false => simp
 | true =>
  have : nmB l = true := zHy l (by simpa [isW] using hw);simp [this]
theorem tb0 (pos n : Int) (nm : ByteArray) (bits : Nat) (names : List ByteArray) (kids types : List Int) : termB ⟨0, pos, nm, n, bits, names, kids, types⟩ = (zac (tl nm) && (decide (n = 0) && (decide (bits = 0) && (names.isEmpty && (decide (kids.length = 0) && (decide (types.length = 0))))))) := by
 show za6 0 0 0 0 n kids.length types.length (zac (tl nm)) names.isEmpty (decide (bits = 0)) = _
 rw [zJz];unfold za6;simp only [zK6, zKq];constructor
 · rintro ⟨⟨h1, h2, h3, h4, h5⟩, h6, h7, h8⟩
   exact ⟨h6, by omega, h8, h7, by omega, by omega⟩
 · rintro ⟨h1, h2, h3, h4, h5, h6⟩
   exact ⟨⟨by omega, by omega, by omega, by omega, by omega⟩, h1, h4, h3⟩
set_option maxRecDepth 100000 in
theorem zCb (pos n : Int) (nm : ByteArray) (bits : Nat) (names : List ByteArray) (kids types : List Int) (p : Ptr3) (w : World) (hs : nm.size ≤ 1000) :
 Calls Tryz.prog 30 #[.agg (za1 ⟨0, pos, nm, n, bits, names, kids, types⟩ p).toArray] w fun e w' => e = .returned (.bool (termB ⟨0, pos, nm, n, bits, names, kids, types⟩)) ∧ Below w.heap.size w w' := by
 rw [tb0];have hB := (zJx w.heap.size w).alloc (zJw _) (.cells (za1 ⟨0, pos, nm, n, bits, names, kids, types⟩ p).toArray 38);have hX := Blk.new w 38 (za1 ⟨0, pos, nm, n, bits, names, kids, types⟩ p).toArray;obtain ⟨l5, hl5⟩ : ∃ l, names.length = l := ⟨_, rfl⟩;obtain ⟨l6, hl6⟩ : ∃ l, kids.length = l := ⟨_, rfl⟩;obtain ⟨l7, hl7⟩ : ∃ l, types.length = l := ⟨_, rfl⟩;unfold za1 at hB hX ⊢;dsimp only at hB hX ⊢;have h5 : names.isEmpty = ((l5 : Int) == 0) := by rw [← hl5]; cases names <;> simp; try omega
 rw [hl5, hl6, hl7] at hB hX;simp only [hl5, hl6, hl7, h5];clear hl5 hl6 hl7 h5;have kN : ∀ W, Calls Tryz.prog 59 #[.string nm] W fun e w' => e = .returned (.bool (zac (tl nm))) ∧ Below W.heap.size W w' := fun W => (zej nm hs W).mono fun e w' h => ⟨h.1, h.2 ▸ zJx _ _⟩;obtain ⟨c0, hc0⟩ : ∃ c, zac (tl nm) = c := ⟨_, rfl⟩;rw [hc0] at kN;rw [hc0];clear hc0;obtain ⟨c1, hc1⟩ : ∃ c, (n == 0) = c := ⟨_, rfl⟩;have hd1 : (n != 0) = !c1 := by rw [bne, hc1]
 have he1 : decide (n = 0) = c1 := by rw [← hc1]; rfl
 rw [he1];clear he1;obtain ⟨c2, hc2⟩ : ∃ c, ((bits : Int) == 0) = c := ⟨_, rfl⟩;have hd2 : ((bits : Int) != 0) = !c2 := by rw [bne, hc2]
 have he2 : decide (bits = 0) = c2 := by rw [← hc2, zJz]; simp
 rw [he2];clear he2;obtain ⟨c3, hc3⟩ : ∃ c, ((l5 : Int) == 0) = c := ⟨_, rfl⟩;rw [hc3];obtain ⟨c4, hc4⟩ : ∃ c, ((l6 : Int) == 0) = c := ⟨_, rfl⟩;have he4 : decide (l6 = 0) = c4 := by rw [← hc4, zJz]; simp; try omega
 rw [he4];clear he4;obtain ⟨c5, hc5⟩ : ∃ c, ((l7 : Int) == 0) = c := ⟨_, rfl⟩;have he5 : decide (l7 = 0) = c5 := by rw [← hc5, zJz]; simp; try omega
 rw [he5];clear he5;obtain ⟨r, hr⟩ : ∃ r, (c0 && (c1 && (c2 && (c3 && (c4 && (c5)))))) = r := ⟨_, rfl⟩;rw [hr];obtain ⟨W1, hW1⟩ : ∃ W1, w.alloc (.cells #[.int .i64 0, .int .i64 pos, .string nm, .int .i64 n, .int .u64 (bits : Int), .slice p.a5 l5 p.c5, .slice p.a6 l6 p.c6, .slice p.a7 l7 p.c7] 38) = W1 := ⟨_, rfl⟩;rw [hW1] at hB hX;have HB := zJv hB;have HX := zJv hX;have hzX := hX.lt;have x0 := (hX.cell 0).trans rfl;have x2 := (hX.cell 2).trans rfl;have x3 := (hX.cell 3).trans rfl;have x4 := (hX.cell 4).trans rfl;have x5 := (hX.cell 5).trans rfl;have x6 := (hX.cell 6).trans rfl;have x7 := (hX.cell 7).trans rfl;clear hB hX hs;rcases sp6 c0 c1 c2 c3 c4 c5 with rfl | ⟨rfl, rfl | ⟨rfl, rfl | ⟨rfl, rfl | ⟨rfl, rfl | ⟨rfl, rfl | rfl⟩⟩⟩⟩⟩
 all_goals
  subst hr;go_enter Tryz.func30, Tryz.ntmps30
  try dsimp only [List.append]
  go_wp2_with fail
  refine (kN _).mono ?_;rintro e w2 ⟨rfl, hb2⟩;have HB2 := zJv (HB.out.trans (hb2.mono HB.out.size));have hX2 := HX.out.below hb2 hzX;clear x0 x2 x3 x4 x5 x6 x7 hb2 kN hW1;have x0 := (hX2.cell 0).trans rfl;have x2 := (hX2.cell 2).trans rfl;have x3 := (hX2.cell 3).trans rfl;have x4 := (hX2.cell 4).trans rfl;have x5 := (hX2.cell 5).trans rfl;have x6 := (hX2.cell 6).trans rfl;have x7 := (hX2.cell 7).trans rfl;clear hX2;go_wp2
  all_goals
   go_ret;exact ⟨rfl, HB2.out⟩
theorem tb1 (pos n : Int) (nm : ByteArray) (bits : Nat) (names : List ByteArray) (kids types : List Int) (hM : n ≤ 9223372036854775807) : termB ⟨1, pos, nm, n, bits, names, kids, types⟩ = (nm.toList.isEmpty && (decide (0 ≤ n) && (decide (bits = 0) && (names.isEmpty && (decide (kids.length = 0) && (decide (types.length = 0))))))) := by
 show za6 9223372036854775807 0 0 0 n kids.length types.length (nm.toList.isEmpty) names.isEmpty (decide (bits = 0)) = _
 rw [zJz];unfold za6;simp only [zK6, zKq];constructor
 · rintro ⟨⟨h1, h2, h3, h4, h5⟩, h6, h7, h8⟩
   exact ⟨h6, by omega, h8, h7, by omega, by omega⟩
 · rintro ⟨h1, h2, h3, h4, h5, h6⟩
   exact ⟨⟨by omega, by omega, by omega, by omega, by omega⟩, h1, h4, h3⟩
set_option maxRecDepth 100000 in
theorem zBj (pos n : Int) (nm : ByteArray) (bits : Nat) (names : List ByteArray) (kids types : List Int) (p : Ptr3) (w : World) (hM : n ≤ 9223372036854775807) :
 Calls Tryz.prog 30 #[.agg (za1 ⟨1, pos, nm, n, bits, names, kids, types⟩ p).toArray] w fun e w' => e = .returned (.bool (termB ⟨1, pos, nm, n, bits, names, kids, types⟩)) ∧ Below w.heap.size w w' := by
 rw [tb1 _ _ _ _ _ _ _ hM];have hB := (zJx w.heap.size w).alloc (zJw _) (.cells (za1 ⟨1, pos, nm, n, bits, names, kids, types⟩ p).toArray 38);have hX := Blk.new w 38 (za1 ⟨1, pos, nm, n, bits, names, kids, types⟩ p).toArray;obtain ⟨l5, hl5⟩ : ∃ l, names.length = l := ⟨_, rfl⟩;obtain ⟨l6, hl6⟩ : ∃ l, kids.length = l := ⟨_, rfl⟩;obtain ⟨l7, hl7⟩ : ∃ l, types.length = l := ⟨_, rfl⟩;unfold za1 at hB hX ⊢;dsimp only at hB hX ⊢;have h5 : names.isEmpty = ((l5 : Int) == 0) := by rw [← hl5]; cases names <;> simp; try omega
 rw [hl5, hl6, hl7] at hB hX;simp only [hl5, hl6, hl7, h5];clear hl5 hl6 hl7 h5;obtain ⟨c0, hc0⟩ : ∃ c, (nm.toList == []) = c := ⟨_, rfl⟩;have hd0 : (nm.toList != []) = !c0 := by rw [bne, hc0]
 have he0 : nm.toList.isEmpty = c0 := by rw [← hc0]; cases nm.toList <;> rfl
 rw [he0];clear he0;obtain ⟨c1, hc1⟩ : ∃ c, decide (0 ≤ n) = c := ⟨_, rfl⟩;rw [hc1];obtain ⟨c2, hc2⟩ : ∃ c, ((bits : Int) == 0) = c := ⟨_, rfl⟩;have hd2 : ((bits : Int) != 0) = !c2 := by rw [bne, hc2]
 have he2 : decide (bits = 0) = c2 := by rw [← hc2, zJz]; simp
 rw [he2];clear he2;obtain ⟨c3, hc3⟩ : ∃ c, ((l5 : Int) == 0) = c := ⟨_, rfl⟩;rw [hc3];obtain ⟨c4, hc4⟩ : ∃ c, ((l6 : Int) == 0) = c := ⟨_, rfl⟩;have he4 : decide (l6 = 0) = c4 := by rw [← hc4, zJz]; simp; try omega
 rw [he4];clear he4;obtain ⟨c5, hc5⟩ : ∃ c, ((l7 : Int) == 0) = c := ⟨_, rfl⟩;have he5 : decide (l7 = 0) = c5 := by rw [← hc5, zJz]; simp; try omega
 rw [he5];clear he5;obtain ⟨r, hr⟩ : ∃ r, (c0 && (c1 && (c2 && (c3 && (c4 && (c5)))))) = r := ⟨_, rfl⟩;rw [hr];obtain ⟨W1, hW1⟩ : ∃ W1, w.alloc (.cells #[.int .i64 1, .int .i64 pos, .string nm, .int .i64 n, .int .u64 (bits : Int), .slice p.a5 l5 p.c5, .slice p.a6 l6 p.c6, .slice p.a7 l7 p.c7] 38) = W1 := ⟨_, rfl⟩;rw [hW1] at hB hX;have HB := zJv hB;have HX := zJv hX;have hzX := hX.lt;have x0 := (hX.cell 0).trans rfl;have x2 := (hX.cell 2).trans rfl;have x3 := (hX.cell 3).trans rfl;have x4 := (hX.cell 4).trans rfl;have x5 := (hX.cell 5).trans rfl;have x6 := (hX.cell 6).trans rfl;have x7 := (hX.cell 7).trans rfl;clear hB hX;rcases sp6 c0 c1 c2 c3 c4 c5 with rfl | ⟨rfl, rfl | ⟨rfl, rfl | ⟨rfl, rfl | ⟨rfl, rfl | ⟨rfl, rfl | rfl⟩⟩⟩⟩⟩
 all_goals
  subst hr;go_enter Tryz.func30, Tryz.ntmps30
  try dsimp only [List.append]
  go_wp2
  all_goals
   go_ret;exact ⟨rfl, HB.out⟩
theorem tb2 (pos n : Int) (nm : ByteArray) (bits : Nat) (names : List ByteArray) (kids types : List Int) : termB ⟨2, pos, nm, n, bits, names, kids, types⟩ = (nm.toList.isEmpty && ((decide (n = 0) || decide (n = 1)) && (decide (bits = 0) && (names.isEmpty && (decide (kids.length = 0) && (decide (types.length = 0))))))) := by
 show za6 1 0 0 0 n kids.length types.length (nm.toList.isEmpty) names.isEmpty (decide (bits = 0)) = _
 rw [zJz];unfold za6;simp only [zK6, zKq, Bool.or_eq_true];constructor
 · rintro ⟨⟨h1, h2, h3, h4, h5⟩, h6, h7, h8⟩
   exact ⟨h6, by omega, h8, h7, by omega, by omega⟩
 · rintro ⟨h1, h2, h3, h4, h5, h6⟩
   exact ⟨⟨by omega, by omega, by omega, by omega, by omega⟩, h1, h4, h3⟩
set_option maxRecDepth 100000 in
theorem zC8 (pos n : Int) (nm : ByteArray) (bits : Nat) (names : List ByteArray) (kids types : List Int) (p : Ptr3) (w : World) :
 Calls Tryz.prog 30 #[.agg (za1 ⟨2, pos, nm, n, bits, names, kids, types⟩ p).toArray] w fun e w' => e = .returned (.bool (termB ⟨2, pos, nm, n, bits, names, kids, types⟩)) ∧ Below w.heap.size w w' := by
 rw [tb2];have hB := (zJx w.heap.size w).alloc (zJw _) (.cells (za1 ⟨2, pos, nm, n, bits, names, kids, types⟩ p).toArray 38);have hX := Blk.new w 38 (za1 ⟨2, pos, nm, n, bits, names, kids, types⟩ p).toArray;obtain ⟨l5, hl5⟩ : ∃ l, names.length = l := ⟨_, rfl⟩;obtain ⟨l6, hl6⟩ : ∃ l, kids.length = l := ⟨_, rfl⟩;obtain ⟨l7, hl7⟩ : ∃ l, types.length = l := ⟨_, rfl⟩;unfold za1 at hB hX ⊢;dsimp only at hB hX ⊢;have h5 : names.isEmpty = ((l5 : Int) == 0) := by rw [← hl5]; cases names <;> simp; try omega
 rw [hl5, hl6, hl7] at hB hX;simp only [hl5, hl6, hl7, h5];clear hl5 hl6 hl7 h5;obtain ⟨c0, hc0⟩ : ∃ c, (nm.toList == []) = c := ⟨_, rfl⟩;have hd0 : (nm.toList != []) = !c0 := by rw [bne, hc0]
 have he0 : nm.toList.isEmpty = c0 := by rw [← hc0]; cases nm.toList <;> rfl
 rw [he0];clear he0;obtain ⟨a1, ha1⟩ : ∃ c, (n == 0) = c := ⟨_, rfl⟩;obtain ⟨a2, ha2⟩ : ∃ c, (n == 1) = c := ⟨_, rfl⟩;have g1 : decide (n = 0) = a1 := by rw [← ha1]; rfl
 have g2 : decide (n = 1) = a2 := by rw [← ha2]; rfl
 rw [g1, g2];obtain ⟨c1, hc1⟩ : ∃ c, (a1 || a2) = c := ⟨_, rfl⟩;rw [hc1];clear g1 g2;obtain ⟨c2, hc2⟩ : ∃ c, ((bits : Int) == 0) = c := ⟨_, rfl⟩;have hd2 : ((bits : Int) != 0) = !c2 := by rw [bne, hc2]
 have he2 : decide (bits = 0) = c2 := by rw [← hc2, zJz]; simp
 rw [he2];clear he2;obtain ⟨c3, hc3⟩ : ∃ c, ((l5 : Int) == 0) = c := ⟨_, rfl⟩;rw [hc3];obtain ⟨c4, hc4⟩ : ∃ c, ((l6 : Int) == 0) = c := ⟨_, rfl⟩;have he4 : decide (l6 = 0) = c4 := by rw [← hc4, zJz]; simp; try omega
 rw [he4];clear he4;obtain ⟨c5, hc5⟩ : ∃ c, ((l7 : Int) == 0) = c := ⟨_, rfl⟩;have he5 : decide (l7 = 0) = c5 := by rw [← hc5, zJz]; simp; try omega
 rw [he5];clear he5;obtain ⟨r, hr⟩ : ∃ r, (c0 && (c1 && (c2 && (c3 && (c4 && (c5)))))) = r := ⟨_, rfl⟩;rw [hr];obtain ⟨W1, hW1⟩ : ∃ W1, w.alloc (.cells #[.int .i64 2, .int .i64 pos, .string nm, .int .i64 n, .int .u64 (bits : Int), .slice p.a5 l5 p.c5, .slice p.a6 l6 p.c6, .slice p.a7 l7 p.c7] 38) = W1 := ⟨_, rfl⟩;rw [hW1] at hB hX;have HB := zJv hB;have HX := zJv hX;have hzX := hX.lt;have x0 := (hX.cell 0).trans rfl;have x2 := (hX.cell 2).trans rfl;have x3 := (hX.cell 3).trans rfl;have x4 := (hX.cell 4).trans rfl;have x5 := (hX.cell 5).trans rfl;have x6 := (hX.cell 6).trans rfl;have x7 := (hX.cell 7).trans rfl;clear hB hX;cases c0
 · obtain rfl : r = false := by rw [← hr]; simp
   clear hr;go_enter Tryz.func30, Tryz.ntmps30
   try dsimp only [List.append]
   go_wp2
   all_goals
    go_ret;exact ⟨rfl, HB.out⟩
 · skip
   cases a1
   · cases a2
     · obtain rfl : c1 = false := hc1.symm
       obtain rfl : r = false := by rw [← hr]; simp
       clear hr hc1;go_enter Tryz.func30, Tryz.ntmps30
       try dsimp only [List.append]
       go_wp2
       all_goals
        go_ret;exact ⟨rfl, HB.out⟩
     · obtain rfl : c1 = true := hc1.symm
       clear hc1;cases c2
       · obtain rfl : r = false := by rw [← hr]; simp
         clear hr;go_enter Tryz.func30, Tryz.ntmps30
         try dsimp only [List.append]
         go_wp2
         all_goals
          go_ret;exact ⟨rfl, HB.out⟩
       · skip
         cases c3
         · obtain rfl : r = false := by rw [← hr]; simp
           clear hr;go_enter Tryz.func30, Tryz.ntmps30
           try dsimp only [List.append]
           go_wp2
           all_goals
            go_ret;exact ⟨rfl, HB.out⟩
         · skip
           cases c4
           · obtain rfl : r = false := by rw [← hr]; simp
             clear hr;go_enter Tryz.func30, Tryz.ntmps30
             try dsimp only [List.append]
             go_wp2
             all_goals
              go_ret;exact ⟨rfl, HB.out⟩
           · skip
             cases c5
             · obtain rfl : r = false := by rw [← hr]; simp
               clear hr;go_enter Tryz.func30, Tryz.ntmps30
               try dsimp only [List.append]
               go_wp2
               all_goals
                go_ret;exact ⟨rfl, HB.out⟩
             · obtain rfl : r = true := by rw [← hr]; rfl
               clear hr;go_enter Tryz.func30, Tryz.ntmps30
               try dsimp only [List.append]
               go_wp2
               all_goals
                go_ret;exact ⟨rfl, HB.out⟩
   · obtain rfl : c1 = true := by rw [← hc1]; rfl
     clear hc1;cases c2
     · obtain rfl : r = false := by rw [← hr]; simp
       clear hr;go_enter Tryz.func30, Tryz.ntmps30
       try dsimp only [List.append]
       go_wp2
       all_goals
        go_ret;exact ⟨rfl, HB.out⟩
     · skip
       cases c3
       · obtain rfl : r = false := by rw [← hr]; simp
         clear hr;go_enter Tryz.func30, Tryz.ntmps30
         try dsimp only [List.append]
         go_wp2
         all_goals
          go_ret;exact ⟨rfl, HB.out⟩
       · skip
         cases c4
         · obtain rfl : r = false := by rw [← hr]; simp
           clear hr;go_enter Tryz.func30, Tryz.ntmps30
           try dsimp only [List.append]
           go_wp2
           all_goals
            go_ret;exact ⟨rfl, HB.out⟩
         · skip
           cases c5
           · obtain rfl : r = false := by rw [← hr]; simp
             clear hr;go_enter Tryz.func30, Tryz.ntmps30
             try dsimp only [List.append]
             go_wp2
             all_goals
              go_ret;exact ⟨rfl, HB.out⟩
           · obtain rfl : r = true := by rw [← hr]; rfl
             clear hr;go_enter Tryz.func30, Tryz.ntmps30
             try dsimp only [List.append]
             go_wp2
             all_goals
              go_ret;exact ⟨rfl, HB.out⟩
theorem tb3 (pos n : Int) (nm : ByteArray) (bits : Nat) (names : List ByteArray) (kids types : List Int) : termB ⟨3, pos, nm, n, bits, names, kids, types⟩ = (lineB nm && (decide (n = 0) && (decide (bits = 0) && (names.isEmpty && (decide (kids.length = 0) && (decide (types.length = 0))))))) := by
 show za6 0 0 0 0 n kids.length types.length (lineB nm) names.isEmpty (decide (bits = 0)) = _
 rw [zJz];unfold za6;simp only [zK6, zKq];constructor
 · rintro ⟨⟨h1, h2, h3, h4, h5⟩, h6, h7, h8⟩
   exact ⟨h6, by omega, h8, h7, by omega, by omega⟩
 · rintro ⟨h1, h2, h3, h4, h5, h6⟩
   exact ⟨⟨by omega, by omega, by omega, by omega, by omega⟩, h1, h4, h3⟩
set_option maxRecDepth 100000 in
theorem zBi (pos n : Int) (nm : ByteArray) (bits : Nat) (names : List ByteArray) (kids types : List Int) (p : Ptr3) (w : World) (hs : nm.size ≤ 1000) :
 Calls Tryz.prog 30 #[.agg (za1 ⟨3, pos, nm, n, bits, names, kids, types⟩ p).toArray] w fun e w' => e = .returned (.bool (termB ⟨3, pos, nm, n, bits, names, kids, types⟩)) ∧ Below w.heap.size w w' := by
 rw [tb3];have hB := (zJx w.heap.size w).alloc (zJw _) (.cells (za1 ⟨3, pos, nm, n, bits, names, kids, types⟩ p).toArray 38);have hX := Blk.new w 38 (za1 ⟨3, pos, nm, n, bits, names, kids, types⟩ p).toArray;obtain ⟨l5, hl5⟩ : ∃ l, names.length = l := ⟨_, rfl⟩;obtain ⟨l6, hl6⟩ : ∃ l, kids.length = l := ⟨_, rfl⟩;obtain ⟨l7, hl7⟩ : ∃ l, types.length = l := ⟨_, rfl⟩;unfold za1 at hB hX ⊢;dsimp only at hB hX ⊢;have h5 : names.isEmpty = ((l5 : Int) == 0) := by rw [← hl5]; cases names <;> simp; try omega
 rw [hl5, hl6, hl7] at hB hX;simp only [hl5, hl6, hl7, h5];clear hl5 hl6 hl7 h5;have kN : ∀ W, Calls Tryz.prog 60 #[.string nm] W fun e w' => e = .returned (.bool (lineB nm)) ∧ Below W.heap.size W w' := fun W => zxv nm hs W;obtain ⟨c0, hc0⟩ : ∃ c, lineB nm = c := ⟨_, rfl⟩;rw [hc0] at kN;rw [hc0];clear hc0;obtain ⟨c1, hc1⟩ : ∃ c, (n == 0) = c := ⟨_, rfl⟩;have hd1 : (n != 0) = !c1 := by rw [bne, hc1]
 have he1 : decide (n = 0) = c1 := by rw [← hc1]; rfl
 rw [he1];clear he1;obtain ⟨c2, hc2⟩ : ∃ c, ((bits : Int) == 0) = c := ⟨_, rfl⟩;have hd2 : ((bits : Int) != 0) = !c2 := by rw [bne, hc2]
 have he2 : decide (bits = 0) = c2 := by rw [← hc2, zJz]; simp
 rw [he2];clear he2;obtain ⟨c3, hc3⟩ : ∃ c, ((l5 : Int) == 0) = c := ⟨_, rfl⟩;rw [hc3];obtain ⟨c4, hc4⟩ : ∃ c, ((l6 : Int) == 0) = c := ⟨_, rfl⟩;have he4 : decide (l6 = 0) = c4 := by rw [← hc4, zJz]; simp; try omega
 rw [he4];clear he4;obtain ⟨c5, hc5⟩ : ∃ c, ((l7 : Int) == 0) = c := ⟨_, rfl⟩;have he5 : decide (l7 = 0) = c5 := by rw [← hc5, zJz]; simp; try omega
 rw [he5];clear he5;obtain ⟨r, hr⟩ : ∃ r, (c0 && (c1 && (c2 && (c3 && (c4 && (c5)))))) = r := ⟨_, rfl⟩;rw [hr];obtain ⟨W1, hW1⟩ : ∃ W1, w.alloc (.cells #[.int .i64 3, .int .i64 pos, .string nm, .int .i64 n, .int .u64 (bits : Int), .slice p.a5 l5 p.c5, .slice p.a6 l6 p.c6, .slice p.a7 l7 p.c7] 38) = W1 := ⟨_, rfl⟩;rw [hW1] at hB hX;have HB := zJv hB;have HX := zJv hX;have hzX := hX.lt;have x0 := (hX.cell 0).trans rfl;have x2 := (hX.cell 2).trans rfl;have x3 := (hX.cell 3).trans rfl;have x4 := (hX.cell 4).trans rfl;have x5 := (hX.cell 5).trans rfl;have x6 := (hX.cell 6).trans rfl;have x7 := (hX.cell 7).trans rfl;clear hB hX hs;rcases sp6 c0 c1 c2 c3 c4 c5 with rfl | ⟨rfl, rfl | ⟨rfl, rfl | ⟨rfl, rfl | ⟨rfl, rfl | ⟨rfl, rfl | rfl⟩⟩⟩⟩⟩
 all_goals
  subst hr;go_enter Tryz.func30, Tryz.ntmps30
  try dsimp only [List.append]
  go_wp2_with fail
  refine (kN _).mono ?_;rintro e w2 ⟨rfl, hb2⟩;have HB2 := zJv (HB.out.trans (hb2.mono HB.out.size));have hX2 := HX.out.below hb2 hzX;clear x0 x2 x3 x4 x5 x6 x7 hb2 kN hW1;have x0 := (hX2.cell 0).trans rfl;have x2 := (hX2.cell 2).trans rfl;have x3 := (hX2.cell 3).trans rfl;have x4 := (hX2.cell 4).trans rfl;have x5 := (hX2.cell 5).trans rfl;have x6 := (hX2.cell 6).trans rfl;have x7 := (hX2.cell 7).trans rfl;clear hX2;go_wp2
  all_goals
   go_ret;exact ⟨rfl, HB2.out⟩
theorem tb11 (pos n : Int) (nm : ByteArray) (bits : Nat) (names : List ByteArray) (kids types : List Int) : termB ⟨11, pos, nm, n, bits, names, kids, types⟩ = (tagB (tl nm) && (decide (n = 0) && (decide (bits = 0) && (names.isEmpty && (decide (kids.length = 1) && (decide (types.length = 0))))))) := by
 show za6 0 1 0 0 n kids.length types.length (tagB (tl nm)) names.isEmpty (decide (bits = 0)) = _
 rw [zJz];unfold za6;simp only [zK6, zKq];constructor
 · rintro ⟨⟨h1, h2, h3, h4, h5⟩, h6, h7, h8⟩
   exact ⟨h6, by omega, h8, h7, by omega, by omega⟩
 · rintro ⟨h1, h2, h3, h4, h5, h6⟩
   exact ⟨⟨by omega, by omega, by omega, by omega, by omega⟩, h1, h4, h3⟩
set_option maxRecDepth 100000 in
theorem zAc (pos n : Int) (nm : ByteArray) (bits : Nat) (names : List ByteArray) (kids types : List Int) (p : Ptr3) (w : World) (hs : nm.size ≤ 1000) :
 Calls Tryz.prog 30 #[.agg (za1 ⟨11, pos, nm, n, bits, names, kids, types⟩ p).toArray] w fun e w' => e = .returned (.bool (termB ⟨11, pos, nm, n, bits, names, kids, types⟩)) ∧ Below w.heap.size w w' := by
 rw [tb11];have hB := (zJx w.heap.size w).alloc (zJw _) (.cells (za1 ⟨11, pos, nm, n, bits, names, kids, types⟩ p).toArray 38);have hX := Blk.new w 38 (za1 ⟨11, pos, nm, n, bits, names, kids, types⟩ p).toArray;obtain ⟨l5, hl5⟩ : ∃ l, names.length = l := ⟨_, rfl⟩;obtain ⟨l6, hl6⟩ : ∃ l, kids.length = l := ⟨_, rfl⟩;obtain ⟨l7, hl7⟩ : ∃ l, types.length = l := ⟨_, rfl⟩;unfold za1 at hB hX ⊢;dsimp only at hB hX ⊢;have h5 : names.isEmpty = ((l5 : Int) == 0) := by rw [← hl5]; cases names <;> simp; try omega
 rw [hl5, hl6, hl7] at hB hX;simp only [hl5, hl6, hl7, h5];clear hl5 hl6 hl7 h5;have kN : ∀ W, Calls Tryz.prog 62 #[.string nm] W fun e w' => e = .returned (.bool (nmB (tl nm))) ∧ Below W.heap.size W w' := fun W => (zid nm hs W).mono fun e w' h => ⟨h.1, h.2 ▸ zJx _ _⟩;obtain ⟨c0, hc0⟩ : ∃ c, nmB (tl nm) = c := ⟨_, rfl⟩;rw [hc0] at kN;have ht : tagB (tl nm) = c0 := (zjs _).trans hc0;rw [ht];clear hc0 ht;obtain ⟨c1, hc1⟩ : ∃ c, (n == 0) = c := ⟨_, rfl⟩;have hd1 : (n != 0) = !c1 := by rw [bne, hc1]
 have he1 : decide (n = 0) = c1 := by rw [← hc1]; rfl
 rw [he1];clear he1;obtain ⟨c2, hc2⟩ : ∃ c, ((bits : Int) == 0) = c := ⟨_, rfl⟩;have hd2 : ((bits : Int) != 0) = !c2 := by rw [bne, hc2]
 have he2 : decide (bits = 0) = c2 := by rw [← hc2, zJz]; simp
 rw [he2];clear he2;obtain ⟨c3, hc3⟩ : ∃ c, ((l5 : Int) == 0) = c := ⟨_, rfl⟩;rw [hc3];obtain ⟨c4, hc4⟩ : ∃ c, ((l6 : Int) == 1) = c := ⟨_, rfl⟩;have he4 : decide (l6 = 1) = c4 := by rw [← hc4, zJz]; simp; try omega
 rw [he4];clear he4;obtain ⟨c5, hc5⟩ : ∃ c, ((l7 : Int) == 0) = c := ⟨_, rfl⟩;have he5 : decide (l7 = 0) = c5 := by rw [← hc5, zJz]; simp; try omega
 rw [he5];clear he5;obtain ⟨r, hr⟩ : ∃ r, (c0 && (c1 && (c2 && (c3 && (c4 && (c5)))))) = r := ⟨_, rfl⟩;rw [hr];obtain ⟨W1, hW1⟩ : ∃ W1, w.alloc (.cells #[.int .i64 11, .int .i64 pos, .string nm, .int .i64 n, .int .u64 (bits : Int), .slice p.a5 l5 p.c5, .slice p.a6 l6 p.c6, .slice p.a7 l7 p.c7] 38) = W1 := ⟨_, rfl⟩;rw [hW1] at hB hX;have HB := zJv hB;have HX := zJv hX;have hzX := hX.lt;have x0 := (hX.cell 0).trans rfl;have x2 := (hX.cell 2).trans rfl;have x3 := (hX.cell 3).trans rfl;have x4 := (hX.cell 4).trans rfl;have x5 := (hX.cell 5).trans rfl;have x6 := (hX.cell 6).trans rfl;have x7 := (hX.cell 7).trans rfl;clear hB hX hs;rcases sp6 c0 c1 c2 c3 c4 c5 with rfl | ⟨rfl, rfl | ⟨rfl, rfl | ⟨rfl, rfl | ⟨rfl, rfl | ⟨rfl, rfl | rfl⟩⟩⟩⟩⟩
 all_goals
  subst hr;go_enter Tryz.func30, Tryz.ntmps30
  try dsimp only [List.append]
  go_wp2_with fail
  refine (kN _).mono ?_;rintro e w2 ⟨rfl, hb2⟩;have HB2 := zJv (HB.out.trans (hb2.mono HB.out.size));have hX2 := HX.out.below hb2 hzX;clear x0 x2 x3 x4 x5 x6 x7 hb2 kN hW1;have x0 := (hX2.cell 0).trans rfl;have x2 := (hX2.cell 2).trans rfl;have x3 := (hX2.cell 3).trans rfl;have x4 := (hX2.cell 4).trans rfl;have x5 := (hX2.cell 5).trans rfl;have x6 := (hX2.cell 6).trans rfl;have x7 := (hX2.cell 7).trans rfl;clear hX2;go_wp2
  all_goals
   go_ret;exact ⟨rfl, HB2.out⟩
end Go.Proofs.YtidmeodmkcomlaaGreatDoor
