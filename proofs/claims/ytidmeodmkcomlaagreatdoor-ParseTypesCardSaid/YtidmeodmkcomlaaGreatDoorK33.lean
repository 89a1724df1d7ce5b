/- The document's answer for a type, at every type of a bounded size. -/
import Derived.Test.YtidmeodmkcomlaaGreatDoorK29
set_option linter.unusedSimpArgs false
set_option linter.unusedVariables false
namespace Go.Proofs.YtidmeodmkcomlaaGreatDoor
open Go Go.Proofs Go.RowKit
set_option maxHeartbeats 8000000
theorem ybS (kd : Int) (h : (kd = 0 ∨ kd = 1 ∨ kd = 2 ∨ kd = 3 ∨ kd = 4 ∨ kd = 5 ∨ kd = 6)) (pos : Int) (nm : ByteArray) (names : List ByteArray) (kids : List Int) (opn : Bool) : typB ⟨kd, pos, nm, names, kids, opn⟩ = (nm.toList.isEmpty && (!opn && (names.isEmpty && decide (kids.length = 0)))) := by
 have e : typB ⟨kd, pos, nm, names, kids, opn⟩ = (za6 0 0 0 0 0 kids.length 0 (nm.toList.isEmpty) names.isEmpty true && !opn) := by rcases h with rfl | rfl | rfl | rfl | rfl | rfl | rfl <;> rfl
 rw [e];rw [zJz];unfold za6;simp only [zK6, zKq];constructor
 · rintro ⟨⟨⟨h1, h2, h3, h4, h5⟩, h6, h7, h8⟩, h9⟩
   exact ⟨h6, h9, h7, by omega⟩
 · rintro ⟨h1, h2, h3, h4⟩
   exact ⟨⟨⟨by omega, by omega, by omega, by omega, by omega⟩, h1, h3, trivial⟩, h2⟩
set_option maxRecDepth 100000 in
theorem zfk (kd : Int) (h : (kd = 0 ∨ kd = 1 ∨ kd = 2 ∨ kd = 3 ∨ kd = 4 ∨ kd = 5 ∨ kd = 6)) (pos : Int) (nm : ByteArray) (names : List ByteArray) (kids : List Int) (opn : Bool) (p : Ptr2) (w : World) :
 Calls Tryz.prog 32 #[.agg (za4 ⟨kd, pos, nm, names, kids, opn⟩ p).toArray] w fun e w' => e = .returned (.bool (typB ⟨kd, pos, nm, names, kids, opn⟩)) ∧ Below w.heap.size w w' := by
 rw [ybS kd h];have hB := (zJx w.heap.size w).alloc (zJw _) (.cells (za4 ⟨kd, pos, nm, names, kids, opn⟩ p).toArray 40);have hX := Blk.new w 40 (za4 ⟨kd, pos, nm, names, kids, opn⟩ p).toArray;obtain ⟨l3, hl3⟩ : ∃ l, names.length = l := ⟨_, rfl⟩;obtain ⟨l4, hl4⟩ : ∃ l, kids.length = l := ⟨_, rfl⟩;unfold za4 at hB hX ⊢;dsimp only at hB hX ⊢;have h5 : names.isEmpty = ((l3 : Int) == 0) := by rw [← hl3]; cases names <;> simp; omega
 rw [hl3, hl4] at hB hX;simp only [hl3, hl4, h5];clear h5;obtain ⟨c0, hc0⟩ : ∃ c, (nm.toList == []) = c := ⟨_, rfl⟩;have hd0 : (nm.toList != []) = !c0 := by rw [bne, hc0]
 have he0 : nm.toList.isEmpty = c0 := by rw [← hc0]; cases nm.toList <;> rfl
 rw [he0];clear he0;obtain ⟨c2, hc2⟩ : ∃ c, ((l3 : Int) == 0) = c := ⟨_, rfl⟩;rw [hc2];obtain ⟨c3, hc3⟩ : ∃ c, ((l4 : Int) == 0) = c := ⟨_, rfl⟩;have he3 : decide (l4 = 0) = c3 := by rw [← hc3, zJz]; simp; try omega
 rw [he3];clear he3;obtain ⟨r, hr⟩ : ∃ r, (c0 && (!opn && (c2 && c3))) = r := ⟨_, rfl⟩;rw [hr];obtain ⟨W1, hW1⟩ : ∃ W1, w.alloc (.cells #[.int .i64 kd, .int .i64 pos, .string nm, .slice p.a3 l3 p.c3, .slice p.a4 l4 p.c4, .bool opn] 40) = W1 := ⟨_, rfl⟩;rw [hW1] at hB hX;have HB := zJv hB;have HX := zJv hX;have hzX := hX.lt;have x0 := (hX.cell 0).trans rfl;have x2 := (hX.cell 2).trans rfl;have x3 := (hX.cell 3).trans rfl;have x4 := (hX.cell 4).trans rfl;have x5 := (hX.cell 5).trans rfl;clear hB hX;rcases sp4 c0 opn c2 c3 with rfl | ⟨rfl, rfl | ⟨rfl, rfl | ⟨rfl, rfl | rfl⟩⟩⟩
 all_goals
  subst hr;rcases h with rfl | rfl | rfl | rfl | rfl | rfl | rfl
  all_goals
   go_enter Tryz.func32, Tryz.ntmps32
   try dsimp only [List.append]
   go_wp2
   all_goals
    go_ret;exact ⟨rfl, HB.out⟩
theorem yb7 (pos : Int) (nm : ByteArray) (names : List ByteArray) (kids : List Int) (opn : Bool) : typB ⟨7, pos, nm, names, kids, opn⟩ = (nm.toList.isEmpty && (!opn && (names.isEmpty && decide (kids.length = 2)))) := by
 show (za6 0 2 0 0 0 kids.length 0 (nm.toList.isEmpty) names.isEmpty true && !opn) = _
 rw [zJz];unfold za6;simp only [zK6, zKq];constructor
 · rintro ⟨⟨⟨h1, h2, h3, h4, h5⟩, h6, h7, h8⟩, h9⟩
   exact ⟨h6, h9, h7, by omega⟩
 · rintro ⟨h1, h2, h3, h4⟩
   exact ⟨⟨⟨by omega, by omega, by omega, by omega, by omega⟩, h1, h3, trivial⟩, h2⟩
set_option maxRecDepth 100000 in
theorem zF5 (pos : Int) (nm : ByteArray) (names : List ByteArray) (kids : List Int) (opn : Bool) (p : Ptr2) (w : World) :
 Calls Tryz.prog 32 #[.agg (za4 ⟨7, pos, nm, names, kids, opn⟩ p).toArray] w fun e w' => e = .returned (.bool (typB ⟨7, pos, nm, names, kids, opn⟩)) ∧ Below w.heap.size w w' := by
 rw [yb7];have hB := (zJx w.heap.size w).alloc (zJw _) (.cells (za4 ⟨7, pos, nm, names, kids, opn⟩ p).toArray 40);have hX := Blk.new w 40 (za4 ⟨7, pos, nm, names, kids, opn⟩ p).toArray;obtain ⟨l3, hl3⟩ : ∃ l, names.length = l := ⟨_, rfl⟩;obtain ⟨l4, hl4⟩ : ∃ l, kids.length = l := ⟨_, rfl⟩;unfold za4 at hB hX ⊢;dsimp only at hB hX ⊢;have h5 : names.isEmpty = ((l3 : Int) == 0) := by rw [← hl3]; cases names <;> simp; omega
 rw [hl3, hl4] at hB hX;simp only [hl3, hl4, h5];clear h5;obtain ⟨c0, hc0⟩ : ∃ c, (nm.toList == []) = c := ⟨_, rfl⟩;have hd0 : (nm.toList != []) = !c0 := by rw [bne, hc0]
 have he0 : nm.toList.isEmpty = c0 := by rw [← hc0]; cases nm.toList <;> rfl
 rw [he0];clear he0;obtain ⟨c2, hc2⟩ : ∃ c, ((l3 : Int) == 0) = c := ⟨_, rfl⟩;rw [hc2];obtain ⟨c3, hc3⟩ : ∃ c, ((l4 : Int) == 2) = c := ⟨_, rfl⟩;have he3 : decide (l4 = 2) = c3 := by rw [← hc3, zJz]; simp; try omega
 rw [he3];clear he3;obtain ⟨r, hr⟩ : ∃ r, (c0 && (!opn && (c2 && c3))) = r := ⟨_, rfl⟩;rw [hr];obtain ⟨W1, hW1⟩ : ∃ W1, w.alloc (.cells #[.int .i64 7, .int .i64 pos, .string nm, .slice p.a3 l3 p.c3, .slice p.a4 l4 p.c4, .bool opn] 40) = W1 := ⟨_, rfl⟩;rw [hW1] at hB hX;have HB := zJv hB;have HX := zJv hX;have hzX := hX.lt;have x0 := (hX.cell 0).trans rfl;have x2 := (hX.cell 2).trans rfl;have x3 := (hX.cell 3).trans rfl;have x4 := (hX.cell 4).trans rfl;have x5 := (hX.cell 5).trans rfl;clear hB hX;cases c0
 · skip
   obtain rfl : r = false := by rw [← hr]; simp
   clear hr;go_enter Tryz.func32, Tryz.ntmps32
   try dsimp only [List.append]
   go_wp2
   all_goals
    go_ret;exact ⟨rfl, HB.out⟩
 · cases opn
   case true =>
    obtain rfl : r = false := by rw [← hr]; simp
    clear hr;go_enter Tryz.func32, Tryz.ntmps32
    try dsimp only [List.append]
    go_wp2
    all_goals
     go_ret;exact ⟨rfl, HB.out⟩
   case false =>
    cases c2
    · skip
      obtain rfl : r = false := by rw [← hr]; simp
      clear hr;go_enter Tryz.func32, Tryz.ntmps32
      try dsimp only [List.append]
      go_wp2
      all_goals
       go_ret;exact ⟨rfl, HB.out⟩
    · cases c3
      · skip
        obtain rfl : r = false := by rw [← hr]; simp
        clear hr;go_enter Tryz.func32, Tryz.ntmps32
        try dsimp only [List.append]
        go_wp2
        all_goals
         go_ret;exact ⟨rfl, HB.out⟩
      · skip
        obtain rfl : r = true := by rw [← hr]; simp
        clear hr;go_enter Tryz.func32, Tryz.ntmps32
        try dsimp only [List.append]
        go_wp2
        all_goals
         go_ret;exact ⟨rfl, HB.out⟩
theorem yb8 (pos : Int) (nm : ByteArray) (names : List ByteArray) (kids : List Int) (opn : Bool) : typB ⟨8, pos, nm, names, kids, opn⟩ = (nm.toList.isEmpty && (!opn && (zes names && (decide names.Nodup && decide (kids.length = names.length))))) := by
 show (za6 0 (names.length : Int) 0 0 0 kids.length 0 (nm.toList.isEmpty) (onceB zac names) true && !opn) = _
 rw [zJz];unfold za6 onceB zes;simp only [zK6, zKq];constructor
 · rintro ⟨⟨⟨h1, h2, h3, h4, h5⟩, h6, h7, h8⟩, h9⟩
   exact ⟨h6, h9, h7.1, h7.2, by omega⟩
 · rintro ⟨h1, h2, h3, h4, h5⟩
   exact ⟨⟨⟨by omega, by omega, by omega, by omega, by omega⟩, h1, ⟨h3, h4⟩, trivial⟩, h2⟩
set_option maxRecDepth 100000 in
theorem zHh (pos : Int) (nm : ByteArray) (names : List ByteArray) (kids : List Int) (opn : Bool) (p : Ptr2) (w : World) (hS : SlAt (Lt w.heap.size) w p.a3 names.length (names.map .string)) (hn : names.length ≤ 1000) (hsz : ∀ s ∈ names, s.size ≤ 1000) :
 Calls Tryz.prog 32 #[.agg (za4 ⟨8, pos, nm, names, kids, opn⟩ p).toArray] w fun e w' => e = .returned (.bool (typB ⟨8, pos, nm, names, kids, opn⟩)) ∧ Below w.heap.size w w' := by
 rw [yb8];have kN := fun W (hW : Below w.heap.size w W) => zlp p.a3 p.c3 names W (RdAt.of_sl (hS.keep (zaa hW))) hn hsz;have kO := fun W (hW : Below w.heap.size w W) => zhb p.a3 p.c3 names W (RdAt.of_sl (hS.keep (zaa hW))) hn;have hB := (zJx w.heap.size w).alloc (zJw _) (.cells (za4 ⟨8, pos, nm, names, kids, opn⟩ p).toArray 40);have hX := Blk.new w 40 (za4 ⟨8, pos, nm, names, kids, opn⟩ p).toArray;obtain ⟨l3, hl3⟩ : ∃ l, names.length = l := ⟨_, rfl⟩;obtain ⟨l4, hl4⟩ : ∃ l, kids.length = l := ⟨_, rfl⟩;unfold za4 at hB hX ⊢;dsimp only at hB hX ⊢;rw [hl3, hl4] at hB hX;simp only [hl3, hl4];obtain ⟨c0, hc0⟩ : ∃ c, (nm.toList == []) = c := ⟨_, rfl⟩;have hd0 : (nm.toList != []) = !c0 := by rw [bne, hc0]
 have he0 : nm.toList.isEmpty = c0 := by rw [← hc0]; cases nm.toList <;> rfl
 rw [he0];clear he0;rw [hl3] at kN kO;obtain ⟨c2, hc2⟩ : ∃ c, zes names = c := ⟨_, rfl⟩;rw [hc2] at kN;rw [hc2];obtain ⟨c3, hc3⟩ : ∃ c, decide names.Nodup = c := ⟨_, rfl⟩;rw [hc3] at kO;rw [hc3];obtain ⟨c4, hc4⟩ : ∃ c, ((l4 : Int) == (l3 : Int)) = c := ⟨_, rfl⟩;have he4 : decide (l4 = l3) = c4 := by rw [← hc4, zJz]; simp; try omega
 rw [he4];obtain ⟨r, hr⟩ : ∃ r, (c0 && (!opn && (c2 && (c3 && c4)))) = r := ⟨_, rfl⟩;rw [hr];obtain ⟨W1, hW1⟩ : ∃ W1, w.alloc (.cells #[.int .i64 8, .int .i64 pos, .string nm, .slice p.a3 l3 p.c3, .slice p.a4 l4 p.c4, .bool opn] 40) = W1 := ⟨_, rfl⟩;rw [hW1] at hB hX;have HB := zJv hB;have HX := zJv hX;have hzX := hX.lt;have x0 := (hX.cell 0).trans rfl;have x2 := (hX.cell 2).trans rfl;have x3 := (hX.cell 3).trans rfl;have x4 := (hX.cell 4).trans rfl;have x5 := (hX.cell 5).trans rfl;clear hB hX;have KN := zJv kN;have KO := zJv kO;clear he4 hl3 hl4 hc2 hc3 hS hn hsz kN kO;cases c0
 · skip
   obtain rfl : r = false := by rw [← hr]; simp
   clear hr;go_enter Tryz.func32, Tryz.ntmps32
   try dsimp only [List.append]
   go_wp2
   all_goals
    go_ret;exact ⟨rfl, HB.out⟩
 · cases opn
   case true =>
    obtain rfl : r = false := by rw [← hr]; simp
    clear hr;go_enter Tryz.func32, Tryz.ntmps32
    try dsimp only [List.append]
    go_wp2
    all_goals
     go_ret;exact ⟨rfl, HB.out⟩
   case false =>
    cases c2
    · skip
      obtain rfl : r = false := by rw [← hr]; simp
      clear hr;go_enter Tryz.func32, Tryz.ntmps32
      try dsimp only [List.append]
      have kN := KN.out W1 HB.out;go_wp2_with (go_at_call 64; refine kN.mono ?_; rintro e w2 ⟨rfl, rfl⟩)
      go_ret;exact ⟨rfl, HB.out⟩
    · cases c3
      · skip
        obtain rfl : r = false := by rw [← hr]; simp
        clear hr;go_enter Tryz.func32, Tryz.ntmps32
        try dsimp only [List.append]
        have kN := KN.out W1 HB.out;go_wp2_with fail
        refine kN.mono ?_;rintro e w2 ⟨rfl, rfl⟩;clear kN;have kO := KO.out W1 HB.out;go_wp2_with fail
        refine kO.mono ?_;rintro e w2 ⟨rfl, hb2⟩;have HB2 := zJv (HB.out.trans (hb2.mono HB.out.size));have hX2 := HX.out.below hb2 hzX;clear x0 x2 x3 x4 x5 hb2 kO hW1;have x0 := (hX2.cell 0).trans rfl;have x2 := (hX2.cell 2).trans rfl;have x3 := (hX2.cell 3).trans rfl;have x4 := (hX2.cell 4).trans rfl;have x5 := (hX2.cell 5).trans rfl;clear hX2;go_wp2
        all_goals
         go_ret;exact ⟨rfl, HB2.out⟩
      · cases c4
        · skip
          obtain rfl : r = false := by rw [← hr]; simp
          clear hr;go_enter Tryz.func32, Tryz.ntmps32
          try dsimp only [List.append]
          have kN := KN.out W1 HB.out;go_wp2_with fail
          refine kN.mono ?_;rintro e w2 ⟨rfl, rfl⟩;clear kN;have kO := KO.out W1 HB.out;go_wp2_with fail
          refine kO.mono ?_;rintro e w2 ⟨rfl, hb2⟩;have HB2 := zJv (HB.out.trans (hb2.mono HB.out.size));have hX2 := HX.out.below hb2 hzX;clear x0 x2 x3 x4 x5 hb2 kO hW1;have x0 := (hX2.cell 0).trans rfl;have x2 := (hX2.cell 2).trans rfl;have x3 := (hX2.cell 3).trans rfl;have x4 := (hX2.cell 4).trans rfl;have x5 := (hX2.cell 5).trans rfl;clear hX2;go_wp2
          all_goals
           go_ret;exact ⟨rfl, HB2.out⟩
        · skip
          obtain rfl : r = true := by rw [← hr]; simp
          clear hr;go_enter Tryz.func32, Tryz.ntmps32
          try dsimp only [List.append]
          have kN := KN.out W1 HB.out;go_wp2_with fail
          refine kN.mono ?_;rintro e w2 ⟨rfl, rfl⟩;clear kN;have kO := KO.out W1 HB.out;go_wp2_with fail
          refine kO.mono ?_;rintro e w2 ⟨rfl, hb2⟩;have HB2 := zJv (HB.out.trans (hb2.mono HB.out.size));have hX2 := HX.out.below hb2 hzX;clear x0 x2 x3 x4 x5 hb2 kO hW1;have x0 := (hX2.cell 0).trans rfl;have x2 := (hX2.cell 2).trans rfl;have x3 := (hX2.cell 3).trans rfl;have x4 := (hX2.cell 4).trans rfl;have x5 := (hX2.cell 5).trans rfl;clear hX2;go_wp2
          all_goals
           go_ret;exact ⟨rfl, HB2.out⟩
theorem yb10 (pos : Int) (nm : ByteArray) (names : List ByteArray) (kids : List Int) (opn : Bool) : typB ⟨10, pos, nm, names, kids, opn⟩ = (zbo (tl nm) && (!opn && (names.isEmpty && decide (kids.length = 0)))) := by
 show (za6 0 0 0 0 0 kids.length 0 (zbo (tl nm)) names.isEmpty true && !opn) = _
 rw [zJz];unfold za6;simp only [zK6, zKq];constructor
 · rintro ⟨⟨⟨h1, h2, h3, h4, h5⟩, h6, h7, h8⟩, h9⟩
   exact ⟨h6, h9, h7, by omega⟩
 · rintro ⟨h1, h2, h3, h4⟩
   exact ⟨⟨⟨by omega, by omega, by omega, by omega, by omega⟩, h1, h3, trivial⟩, h2⟩
set_option maxRecDepth 100000 in
theorem zDp (pos : Int) (nm : ByteArray) (names : List ByteArray) (kids : List Int) (opn : Bool) (p : Ptr2) (w : World) (hs : nm.size ≤ 1000) :
 Calls Tryz.prog 32 #[.agg (za4 ⟨10, pos, nm, names, kids, opn⟩ p).toArray] w fun e w' => e = .returned (.bool (typB ⟨10, pos, nm, names, kids, opn⟩)) ∧ Below w.heap.size w w' := by
 rw [yb10];have kN := fun W => zm5 nm hs W;have hB := (zJx w.heap.size w).alloc (zJw _) (.cells (za4 ⟨10, pos, nm, names, kids, opn⟩ p).toArray 40);have hX := Blk.new w 40 (za4 ⟨10, pos, nm, names, kids, opn⟩ p).toArray;obtain ⟨l3, hl3⟩ : ∃ l, names.length = l := ⟨_, rfl⟩;obtain ⟨l4, hl4⟩ : ∃ l, kids.length = l := ⟨_, rfl⟩;unfold za4 at hB hX ⊢;dsimp only at hB hX ⊢;have h5 : names.isEmpty = ((l3 : Int) == 0) := by rw [← hl3]; cases names <;> simp; omega
 rw [hl3, hl4] at hB hX;simp only [hl3, hl4, h5];clear h5;obtain ⟨c0, hc0⟩ : ∃ c, zbo (tl nm) = c := ⟨_, rfl⟩;rw [hc0] at kN;rw [hc0];obtain ⟨c2, hc2⟩ : ∃ c, ((l3 : Int) == 0) = c := ⟨_, rfl⟩;rw [hc2];obtain ⟨c3, hc3⟩ : ∃ c, ((l4 : Int) == 0) = c := ⟨_, rfl⟩;have he3 : decide (l4 = 0) = c3 := by rw [← hc3, zJz]; simp; try omega
 rw [he3];obtain ⟨r, hr⟩ : ∃ r, (c0 && (!opn && (c2 && c3))) = r := ⟨_, rfl⟩;rw [hr];obtain ⟨W1, hW1⟩ : ∃ W1, w.alloc (.cells #[.int .i64 10, .int .i64 pos, .string nm, .slice p.a3 l3 p.c3, .slice p.a4 l4 p.c4, .bool opn] 40) = W1 := ⟨_, rfl⟩;rw [hW1] at hB hX;have HB := zJv hB;have HX := zJv hX;have hzX := hX.lt;have x0 := (hX.cell 0).trans rfl;have x2 := (hX.cell 2).trans rfl;have x3 := (hX.cell 3).trans rfl;have x4 := (hX.cell 4).trans rfl;have x5 := (hX.cell 5).trans rfl;clear hB hX;clear he3 hc0 hs hl3 hl4;cases c0
 · skip
   obtain rfl : r = false := by rw [← hr]; simp
   clear hr;go_enter Tryz.func32, Tryz.ntmps32
   try dsimp only [List.append]
   go_wp2_with (go_at_call 33; refine (kN _).mono ?_; rintro e w2 ⟨rfl, rfl⟩)
   all_goals
    go_ret;exact ⟨rfl, HB.out⟩
 · cases opn
   case true =>
    obtain rfl : r = false := by rw [← hr]; simp
    clear hr;go_enter Tryz.func32, Tryz.ntmps32
    try dsimp only [List.append]
    go_wp2_with (go_at_call 33; refine (kN _).mono ?_; rintro e w2 ⟨rfl, rfl⟩)
    all_goals
     go_ret;exact ⟨rfl, HB.out⟩
   case false =>
    cases c2
    · skip
      obtain rfl : r = false := by rw [← hr]; simp
      clear hr;go_enter Tryz.func32, Tryz.ntmps32
      try dsimp only [List.append]
      go_wp2_with (go_at_call 33; refine (kN _).mono ?_; rintro e w2 ⟨rfl, rfl⟩)
      all_goals
       go_ret;exact ⟨rfl, HB.out⟩
    · cases c3
      · skip
        obtain rfl : r = false := by rw [← hr]; simp
        clear hr;go_enter Tryz.func32, Tryz.ntmps32
        try dsimp only [List.append]
        go_wp2_with (go_at_call 33; refine (kN _).mono ?_; rintro e w2 ⟨rfl, rfl⟩)
        all_goals
         go_ret;exact ⟨rfl, HB.out⟩
      · skip
        obtain rfl : r = true := by rw [← hr]; simp
        clear hr;go_enter Tryz.func32, Tryz.ntmps32
        try dsimp only [List.append]
        go_wp2_with (go_at_call 33; refine (kN _).mono ?_; rintro e w2 ⟨rfl, rfl⟩)
        all_goals
         go_ret;exact ⟨rfl, HB.out⟩
def tagsB (ss : List ByteArray) : Bool := decide (∀ s ∈ ss, tagB (tl s) = true)
theorem yb9 (pos : Int) (nm : ByteArray) (names : List ByteArray) (kids : List Int) (opn : Bool) : typB ⟨9, pos, nm, names, kids, opn⟩ = (tagsB names && (nm.toList.isEmpty && (decide names.Nodup && decide (kids.length = names.length)))) := by
 show za6 0 (names.length : Int) 0 0 0 kids.length 0 (nm.toList.isEmpty) (onceB tagB names) true = _
 rw [zJz];unfold za6 onceB tagsB;simp only [zK6, zKq];constructor
 · rintro ⟨⟨h1, h2, h3, h4, h5⟩, h6, h7, h8⟩
   exact ⟨h7.1, h6, h7.2, by omega⟩
 · rintro ⟨h1, h2, h3, h4⟩
   exact ⟨⟨by omega, by omega, by omega, by omega, by omega⟩, h2, ⟨h1, h3⟩, trivial⟩
set_option maxRecDepth 100000 in
theorem zHv (pos : Int) (nm : ByteArray) (names : List ByteArray) (kids : List Int) (opn : Bool) (p : Ptr2) (w : World) (hS : SlAt (Lt w.heap.size) w p.a3 names.length (names.map .string)) (hn : names.length ≤ 1000) (hsz : ∀ s ∈ names, s.size ≤ 1000) :
 Calls Tryz.prog 32 #[.agg (za4 ⟨9, pos, nm, names, kids, opn⟩ p).toArray] w fun e w' => e = .returned (.bool (typB ⟨9, pos, nm, names, kids, opn⟩)) ∧ Below w.heap.size w w' := by
 rw [yb9];obtain ⟨A3, C3, A4, C4⟩ := p;dsimp only at hS;have kO := fun W (hW : Below w.heap.size w W) => zhb A3 C3 names W (RdAt.of_sl (hS.keep (zaa hW))) hn;have hB := (zJx w.heap.size w).alloc (zJw _) (.cells (za4 ⟨9, pos, nm, names, kids, opn⟩ ⟨A3, C3, A4, C4⟩).toArray 40);have hX := Blk.new w 40 (za4 ⟨9, pos, nm, names, kids, opn⟩ ⟨A3, C3, A4, C4⟩).toArray;obtain ⟨l3, hl3⟩ : ∃ l, names.length = l := ⟨_, rfl⟩;obtain ⟨l4, hl4⟩ : ∃ l, kids.length = l := ⟨_, rfl⟩;unfold za4 at hB hX ⊢;dsimp only at hB hX ⊢;rw [hl3, hl4] at hB hX;simp only [hl3, hl4];obtain ⟨c0, hc0⟩ : ∃ c, (nm.toList == []) = c := ⟨_, rfl⟩;have hd0 : (nm.toList != []) = !c0 := by rw [bne, hc0]
 have he0 : nm.toList.isEmpty = c0 := by rw [← hc0]; cases nm.toList <;> rfl
 rw [he0];clear he0;rw [hl3] at kO;obtain ⟨c3, hc3⟩ : ∃ c, decide names.Nodup = c := ⟨_, rfl⟩;rw [hc3] at kO;rw [hc3];obtain ⟨c4, hc4⟩ : ∃ c, ((l4 : Int) == (l3 : Int)) = c := ⟨_, rfl⟩;have he4 : decide (l4 = l3) = c4 := by rw [← hc4, zJz]; simp; try omega
 rw [he4];obtain ⟨r, hr⟩ : ∃ r, (tagsB names && (c0 && (c3 && c4))) = r := ⟨_, rfl⟩;rw [hr];have HSZ := zJv hsz;obtain ⟨W1, hW1⟩ : ∃ W1, w.alloc (.cells #[.int .i64 9, .int .i64 pos, .string nm, .slice A3 l3 C3, .slice A4 l4 C4, .bool opn] 40) = W1 := ⟨_, rfl⟩;rw [hW1] at hB hX;have HB := zJv hB;have HX := zJv hX;have hzX := hX.lt;have x0 := (hX.cell 0).trans rfl;have x2 := (hX.cell 2).trans rfl;have x3 := (hX.cell 3).trans rfl;have x4 := (hX.cell 4).trans rfl;have x5 := (hX.cell 5).trans rfl;clear hB hX;have hRd := RdAt.of_sl (hS.keep (zaa HB.out));have HR := zJv hr;have KO := zJv kO;have HL := zJv hl3;clear he4 hl4 hc3 hS hsz kO hr;rw [hl3] at hn;clear hl3;go_enter Tryz.func32, Tryz.ntmps32
 try dsimp only [List.append]
 go_wp2
 go_loop [4, 91] (fun _ i => ∃ k : Nat, k ≤ l3 ∧ i = .int .i64 k ∧ Hid (∀ s ∈ names.take k, tagB (tl s) = true)) (fun _ i => l3 - (intOf i).toNat)
 case atStart => exact ⟨0, zK8 _, rfl, zJv (by simp)⟩
 case round =>
  obtain ⟨k, hk, rfl, HT⟩ := hrel;by_cases hlt : k < l3
  · have hltn : k < names.length := by rw [HL.out]; exact hlt
    obtain ⟨b, off, rfl, e1⟩ := zgh hRd hltn;have htk : names.take (k + 1) = names.take k ++ [names[k]] := zK9 hltn;have kN := zid names[k] (HSZ.out _ (zKe hltn)) W1
    have hbad : nmB (tl names[k]) = false → r = false := fun h => by
     rw [← HR.out]
     have : tagsB names = false := by
      unfold tagsB;rw [zKs];intro ha;rw [← zjs, ha _ (zKe hltn)] at h;cases h
     rw [this, Bool.false_and]
    obtain ⟨s, hs⟩ : ∃ s, names[k] = s := ⟨_, rfl⟩;rw [hs] at e1 htk kN hbad;obtain ⟨B, hB⟩ : ∃ B, nmB (tl s) = B := ⟨_, rfl⟩;rw [hB] at kN hbad;have HTK := zJv htk;have HBD := zJv hbad;have HBB := zJv hB;clear hs htk hbad hB hRd hltn;cases B
    · have HF := zJv (HBD.out rfl)
      go_wp2_with (go_at_call 62; refine kN.mono ?_; rintro e w' ⟨rfl, rfl⟩)
      go_ret;exact ⟨za7 HF.out.symm, HB.out⟩
    · go_wp2_with (go_at_call 62; refine kN.mono ?_; rintro e w' ⟨rfl, rfl⟩)
      go_round
      case rel => exact ⟨k + 1, by omega, by go_num, zJv fun y hy => by
       rw [HTK.out] at hy;rcases List.mem_append.1 hy with hy | hy
       · exact HT.out y hy
       · simp only [zK7] at hy; subst hy; rw [zjs]; exact HBB.out⟩
      case measure => simp [intOf]; omega
  · obtain rfl : k = l3 := by omega
    have hall : tagsB names = true := by
     unfold tagsB;rw [zKq];exact fun s hs => HT.out s (by rw [← HL.out, List.take_length]; exact hs)
    have hr : (c0 && (c3 && c4)) = r := by rw [← HR.out, hall, Bool.true_and]
    clear hall HT HR hRd;cases c0
    · skip
      obtain rfl : r = false := by rw [← hr]; simp
      clear hr;go_wp2
      all_goals
       go_ret;exact ⟨rfl, HB.out⟩
    · cases c3
      · skip
        obtain rfl : r = false := by rw [← hr]; simp
        clear hr;have kO := KO.out W1 HB.out;go_wp2_with fail
        refine kO.mono ?_;rintro e w2 ⟨rfl, hb2⟩;have HB2 := zJv (HB.out.trans (hb2.mono HB.out.size));have hX2 := HX.out.below hb2 hzX;clear x0 x2 x3 x4 x5 hb2 kO hW1;have x0 := (hX2.cell 0).trans rfl;have x2 := (hX2.cell 2).trans rfl;have x3 := (hX2.cell 3).trans rfl;have x4 := (hX2.cell 4).trans rfl;have x5 := (hX2.cell 5).trans rfl;clear hX2;go_wp2
        all_goals
         go_ret;exact ⟨rfl, HB2.out⟩
      · cases c4
        · skip
          obtain rfl : r = false := by rw [← hr]; simp
          clear hr;have kO := KO.out W1 HB.out;go_wp2_with fail
          refine kO.mono ?_;rintro e w2 ⟨rfl, hb2⟩;have HB2 := zJv (HB.out.trans (hb2.mono HB.out.size));have hX2 := HX.out.below hb2 hzX;clear x0 x2 x3 x4 x5 hb2 kO hW1;have x0 := (hX2.cell 0).trans rfl;have x2 := (hX2.cell 2).trans rfl;have x3 := (hX2.cell 3).trans rfl;have x4 := (hX2.cell 4).trans rfl;have x5 := (hX2.cell 5).trans rfl;clear hX2;go_wp2
          all_goals
           go_ret;exact ⟨rfl, HB2.out⟩
        · skip
          obtain rfl : r = true := by rw [← hr]; simp
          clear hr;have kO := KO.out W1 HB.out;go_wp2_with fail
          refine kO.mono ?_;rintro e w2 ⟨rfl, hb2⟩;have HB2 := zJv (HB.out.trans (hb2.mono HB.out.size));have hX2 := HX.out.below hb2 hzX;clear x0 x2 x3 x4 x5 hb2 kO hW1;have x0 := (hX2.cell 0).trans rfl;have x2 := (hX2.cell 2).trans rfl;have x3 := (hX2.cell 3).trans rfl;have x4 := (hX2.cell 4).trans rfl;have x5 := (hX2.cell 5).trans rfl;clear hX2;go_wp2
          all_goals
           go_ret;exact ⟨rfl, HB2.out⟩
set_option maxRecDepth 100000 in
theorem zHw (kd pos : Int) (nm : ByteArray) (names : List ByteArray) (kids : List Int) (opn : Bool) (p : Ptr2) (w : World) (hk : ¬ (0 ≤ kd ∧ kd ≤ 10)) :
 Calls Tryz.prog 32 #[.agg (za4 ⟨kd, pos, nm, names, kids, opn⟩ p).toArray] w fun e w' => e = .returned (.bool (typB ⟨kd, pos, nm, names, kids, opn⟩)) ∧ Below w.heap.size w w' := by
 have hF : typB ⟨kd, pos, nm, names, kids, opn⟩ = false := by
  unfold typB;dsimp only;rw [if_neg (by omega), if_neg (by omega), if_neg (by omega), if_neg (by omega), if_neg (by omega)]
 rw [hF];have hB := (zJx w.heap.size w).alloc (zJw _) (.cells (za4 ⟨kd, pos, nm, names, kids, opn⟩ p).toArray 40);have HB := zJv hB;have d0 : (kd == 0) = false := by rw [zKr]; omega
 have d1 : (kd == 1) = false := by rw [zKr]; omega
 have d2 : (kd == 2) = false := by rw [zKr]; omega
 have d3 : (kd == 3) = false := by rw [zKr]; omega
 have d4 : (kd == 4) = false := by rw [zKr]; omega
 have d5 : (kd == 5) = false := by rw [zKr]; omega
 have d6 : (kd == 6) = false := by rw [zKr]; omega
 have d7 : (kd == 7) = false := by rw [zKr]; omega
 have d8 : (kd == 8) = false := by rw [zKr]; omega
 have d9 : (kd == 9) = false := by rw [zKr]; omega
 have d10 : (kd == 10) = false := by rw [zKr]; omega
 clear hB hF hk;unfold za4 at HB ⊢;go_enter Tryz.func32, Tryz.ntmps32
 try dsimp only [List.append]
 go_wp2
 go_ret;exact ⟨rfl, HB.out⟩
theorem zCt (t : TypD) (p : Ptr2) (w : World) (hF : zfg t) (hP : TypOk (Lt w.heap.size) w t p) :
 Calls Tryz.prog 32 #[.agg (za4 t p).toArray] w fun e w' => e = .returned (.bool (typB t)) ∧ Below w.heap.size w w' := by
 obtain ⟨kd, pos, nm, names, kids, opn⟩ := t;by_cases hk : 0 ≤ kd ∧ kd ≤ 10
 · have : kd = 0 ∨ kd = 1 ∨ kd = 2 ∨ kd = 3 ∨ kd = 4 ∨ kd = 5 ∨ kd = 6 ∨ kd = 7 ∨ kd = 8 ∨ kd = 9 ∨ kd = 10 := by omega
   rcases this with rfl | rfl | rfl | rfl | rfl | rfl | rfl | rfl | rfl | rfl | rfl
   · exact zfk _ (by decide) pos nm names kids opn p w
   · exact zfk _ (by decide) pos nm names kids opn p w
   · exact zfk _ (by decide) pos nm names kids opn p w
   · exact zfk _ (by decide) pos nm names kids opn p w
   · exact zfk _ (by decide) pos nm names kids opn p w
   · exact zfk _ (by decide) pos nm names kids opn p w
   · exact zfk _ (by decide) pos nm names kids opn p w
   · exact zF5 pos nm names kids opn p w
   · exact zHh pos nm names kids opn p w hP.1 hF.2.1 hF.2.2.1
   · exact zHv pos nm names kids opn p w hP.1 hF.2.1 hF.2.2.1
   · exact zDp pos nm names kids opn p w hF.1
 · exact zHw kd pos nm names kids opn p w hk
end Go.Proofs.YtidmeodmkcomlaaGreatDoor
