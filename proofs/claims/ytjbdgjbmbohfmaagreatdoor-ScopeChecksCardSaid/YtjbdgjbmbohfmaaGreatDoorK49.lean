/- The document's answer for a type, at every type of a bounded size. -/
import Derived.Test.YtjbdgjbmbohfmaaGreatDoorK45
namespace Go.Proofs.YtjbdgjbmbohfmaaGreatDoor
open Go Go.Proofs Go.RowKit
theorem yb0 (pos : Int) (nm : ByteArray) (names : List ByteArray) (kids : List Int) (opn : Bool) : typB ⟨0, pos, nm, names, kids, opn⟩ = (nm.toList.isEmpty && (!opn && (names.isEmpty && decide (kids.length = 0)))) := by
 show (holdsB 0 0 0 0 0 kids.length 0 (nm.toList.isEmpty) names.isEmpty true && !opn) = _
 rw [Bool.eq_iff_iff]
 unfold holdsB
 simp only [Bool.and_eq_true, decide_eq_true_eq]
 constructor
 ·rintro ⟨⟨⟨h1, h2, h3, h4, h5⟩, h6, h7, h8⟩, h9⟩
  exact ⟨h6, h9, h7, by omega⟩
 ·rintro ⟨h1, h2, h3, h4⟩
  exact ⟨⟨⟨by omega, by omega, by omega, by omega, by omega⟩, h1, h3, trivial⟩, h2⟩

set_option maxRecDepth 100000 in
set_option maxHeartbeats 8000000 in
theorem rtyp_k0 (pos : Int) (nm : ByteArray) (names : List ByteArray) (kids : List Int) (opn : Bool) (p : Ptr2) (w : World) :
 Calls Tryz.prog 52 #[.agg (typCells ⟨0, pos, nm, names, kids, opn⟩ p).toArray] w fun e w' => e = .returned (.bool (typB ⟨0, pos, nm, names, kids, opn⟩)) ∧ Below w.heap.size w w' := by
 rw [yb0]
 have hB := (Below.refl w.heap.size w).alloc (Nat.le_refl _) (.cells (typCells ⟨0, pos, nm, names, kids, opn⟩ p).toArray 51)
 have hX := Blk.new w 51 (typCells ⟨0, pos, nm, names, kids, opn⟩ p).toArray
 obtain ⟨l3, hl3⟩ : ∃ l, names.length = l := ⟨_, rfl⟩
 obtain ⟨l4, hl4⟩ : ∃ l, kids.length = l := ⟨_, rfl⟩
 unfold typCells at hB hX ⊢
 dsimp only at hB hX ⊢
 have h5 : names.isEmpty = ((l3 : Int) == 0) := by rw [← hl3]; cases names <;> simp; omega
 rw [hl3, hl4] at hB hX
 simp only [hl3, hl4, h5]
 clear h5
 obtain ⟨c0, hc0⟩ : ∃ c, (nm.toList == []) = c := ⟨_, rfl⟩
 have hd0 : (nm.toList != []) = !c0 := by rw [bne, hc0]
 have he0 : nm.toList.isEmpty = c0 := by rw [← hc0]; cases nm.toList <;> rfl
 rw [he0]
 clear he0
 obtain ⟨c2, hc2⟩ : ∃ c, ((l3 : Int) == 0) = c := ⟨_, rfl⟩
 rw [hc2]
 obtain ⟨c3, hc3⟩ : ∃ c, ((l4 : Int) == 0) = c := ⟨_, rfl⟩
 have he3 : decide (l4 = 0) = c3 := by rw [← hc3, Bool.eq_iff_iff]; simp; try omega
 rw [he3]
 clear he3
 obtain ⟨r, hr⟩ : ∃ r, (c0 && (!opn && (c2 && c3))) = r := ⟨_, rfl⟩
 rw [hr]
 obtain ⟨W1, hW1⟩ : ∃ W1, w.alloc (.cells #[.int .i64 0, .int .i64 pos, .string nm, .slice p.a3 l3 p.c3, .slice p.a4 l4 p.c4, .bool opn] 51) = W1 := ⟨_, rfl⟩
 rw [hW1] at hB hX
 have HB := Lib.hid hB
 have HX := Lib.hid hX
 have hzX := hX.lt
 have x0 := (hX.cell 0).trans rfl
 have x2 := (hX.cell 2).trans rfl
 have x3 := (hX.cell 3).trans rfl
 have x4 := (hX.cell 4).trans rfl
 have x5 := (hX.cell 5).trans rfl
 clear hB hX
 cases c0
 ·skip
  obtain rfl : r = false := by rw [← hr]; simp
  clear hr
  go_enter Tryz.func52, Tryz.ntmps52
  try dsimp only [List.append]
  go_wp2
  all_goals
   go_ret
   exact ⟨rfl, HB.out⟩
 ·cases opn
  case true =>
   obtain rfl : r = false := by rw [← hr]; simp
   clear hr
   go_enter Tryz.func52, Tryz.ntmps52
   try dsimp only [List.append]
   go_wp2
   all_goals
    go_ret
    exact ⟨rfl, HB.out⟩
  case false =>
   cases c2
   ·skip
    obtain rfl : r = false := by rw [← hr]; simp
    clear hr
    go_enter Tryz.func52, Tryz.ntmps52
    try dsimp only [List.append]
    go_wp2
    all_goals
     go_ret
     exact ⟨rfl, HB.out⟩
   ·cases c3
    ·skip
     obtain rfl : r = false := by rw [← hr]; simp
     clear hr
     go_enter Tryz.func52, Tryz.ntmps52
     try dsimp only [List.append]
     go_wp2
     all_goals
      go_ret
      exact ⟨rfl, HB.out⟩
    ·skip
     obtain rfl : r = true := by rw [← hr]; simp
     clear hr
     go_enter Tryz.func52, Tryz.ntmps52
     try dsimp only [List.append]
     go_wp2
     all_goals
      go_ret
      exact ⟨rfl, HB.out⟩

theorem yb1 (pos : Int) (nm : ByteArray) (names : List ByteArray) (kids : List Int) (opn : Bool) : typB ⟨1, pos, nm, names, kids, opn⟩ = (nm.toList.isEmpty && (!opn && (names.isEmpty && decide (kids.length = 0)))) := by
 show (holdsB 0 0 0 0 0 kids.length 0 (nm.toList.isEmpty) names.isEmpty true && !opn) = _
 rw [Bool.eq_iff_iff]
 unfold holdsB
 simp only [Bool.and_eq_true, decide_eq_true_eq]
 constructor
 ·rintro ⟨⟨⟨h1, h2, h3, h4, h5⟩, h6, h7, h8⟩, h9⟩
  exact ⟨h6, h9, h7, by omega⟩
 ·rintro ⟨h1, h2, h3, h4⟩
  exact ⟨⟨⟨by omega, by omega, by omega, by omega, by omega⟩, h1, h3, trivial⟩, h2⟩

set_option maxRecDepth 100000 in
set_option maxHeartbeats 8000000 in
theorem rtyp_k1 (pos : Int) (nm : ByteArray) (names : List ByteArray) (kids : List Int) (opn : Bool) (p : Ptr2) (w : World) :
 Calls Tryz.prog 52 #[.agg (typCells ⟨1, pos, nm, names, kids, opn⟩ p).toArray] w fun e w' => e = .returned (.bool (typB ⟨1, pos, nm, names, kids, opn⟩)) ∧ Below w.heap.size w w' := by
 rw [yb1]
 have hB := (Below.refl w.heap.size w).alloc (Nat.le_refl _) (.cells (typCells ⟨1, pos, nm, names, kids, opn⟩ p).toArray 51)
 have hX := Blk.new w 51 (typCells ⟨1, pos, nm, names, kids, opn⟩ p).toArray
 obtain ⟨l3, hl3⟩ : ∃ l, names.length = l := ⟨_, rfl⟩
 obtain ⟨l4, hl4⟩ : ∃ l, kids.length = l := ⟨_, rfl⟩
 unfold typCells at hB hX ⊢
 dsimp only at hB hX ⊢
 have h5 : names.isEmpty = ((l3 : Int) == 0) := by rw [← hl3]; cases names <;> simp; omega
 rw [hl3, hl4] at hB hX
 simp only [hl3, hl4, h5]
 clear h5
 obtain ⟨c0, hc0⟩ : ∃ c, (nm.toList == []) = c := ⟨_, rfl⟩
 have hd0 : (nm.toList != []) = !c0 := by rw [bne, hc0]
 have he0 : nm.toList.isEmpty = c0 := by rw [← hc0]; cases nm.toList <;> rfl
 rw [he0]
 clear he0
 obtain ⟨c2, hc2⟩ : ∃ c, ((l3 : Int) == 0) = c := ⟨_, rfl⟩
 rw [hc2]
 obtain ⟨c3, hc3⟩ : ∃ c, ((l4 : Int) == 0) = c := ⟨_, rfl⟩
 have he3 : decide (l4 = 0) = c3 := by rw [← hc3, Bool.eq_iff_iff]; simp; try omega
 rw [he3]
 clear he3
 obtain ⟨r, hr⟩ : ∃ r, (c0 && (!opn && (c2 && c3))) = r := ⟨_, rfl⟩
 rw [hr]
 obtain ⟨W1, hW1⟩ : ∃ W1, w.alloc (.cells #[.int .i64 1, .int .i64 pos, .string nm, .slice p.a3 l3 p.c3, .slice p.a4 l4 p.c4, .bool opn] 51) = W1 := ⟨_, rfl⟩
 rw [hW1] at hB hX
 have HB := Lib.hid hB
 have HX := Lib.hid hX
 have hzX := hX.lt
 have x0 := (hX.cell 0).trans rfl
 have x2 := (hX.cell 2).trans rfl
 have x3 := (hX.cell 3).trans rfl
 have x4 := (hX.cell 4).trans rfl
 have x5 := (hX.cell 5).trans rfl
 clear hB hX
 cases c0
 ·skip
  obtain rfl : r = false := by rw [← hr]; simp
  clear hr
  go_enter Tryz.func52, Tryz.ntmps52
  try dsimp only [List.append]
  go_wp2
  all_goals
   go_ret
   exact ⟨rfl, HB.out⟩
 ·cases opn
  case true =>
   obtain rfl : r = false := by rw [← hr]; simp
   clear hr
   go_enter Tryz.func52, Tryz.ntmps52
   try dsimp only [List.append]
   go_wp2
   all_goals
    go_ret
    exact ⟨rfl, HB.out⟩
  case false =>
   cases c2
   ·skip
    obtain rfl : r = false := by rw [← hr]; simp
    clear hr
    go_enter Tryz.func52, Tryz.ntmps52
    try dsimp only [List.append]
    go_wp2
    all_goals
     go_ret
     exact ⟨rfl, HB.out⟩
   ·cases c3
    ·skip
     obtain rfl : r = false := by rw [← hr]; simp
     clear hr
     go_enter Tryz.func52, Tryz.ntmps52
     try dsimp only [List.append]
     go_wp2
     all_goals
      go_ret
      exact ⟨rfl, HB.out⟩
    ·skip
     obtain rfl : r = true := by rw [← hr]; simp
     clear hr
     go_enter Tryz.func52, Tryz.ntmps52
     try dsimp only [List.append]
     go_wp2
     all_goals
      go_ret
      exact ⟨rfl, HB.out⟩

theorem yb2 (pos : Int) (nm : ByteArray) (names : List ByteArray) (kids : List Int) (opn : Bool) : typB ⟨2, pos, nm, names, kids, opn⟩ = (nm.toList.isEmpty && (!opn && (names.isEmpty && decide (kids.length = 0)))) := by
 show (holdsB 0 0 0 0 0 kids.length 0 (nm.toList.isEmpty) names.isEmpty true && !opn) = _
 rw [Bool.eq_iff_iff]
 unfold holdsB
 simp only [Bool.and_eq_true, decide_eq_true_eq]
 constructor
 ·rintro ⟨⟨⟨h1, h2, h3, h4, h5⟩, h6, h7, h8⟩, h9⟩
  exact ⟨h6, h9, h7, by omega⟩
 ·rintro ⟨h1, h2, h3, h4⟩
  exact ⟨⟨⟨by omega, by omega, by omega, by omega, by omega⟩, h1, h3, trivial⟩, h2⟩

set_option maxRecDepth 100000 in
set_option maxHeartbeats 8000000 in
theorem rtyp_k2 (pos : Int) (nm : ByteArray) (names : List ByteArray) (kids : List Int) (opn : Bool) (p : Ptr2) (w : World) :
 Calls Tryz.prog 52 #[.agg (typCells ⟨2, pos, nm, names, kids, opn⟩ p).toArray] w fun e w' => e = .returned (.bool (typB ⟨2, pos, nm, names, kids, opn⟩)) ∧ Below w.heap.size w w' := by
 rw [yb2]
 have hB := (Below.refl w.heap.size w).alloc (Nat.le_refl _) (.cells (typCells ⟨2, pos, nm, names, kids, opn⟩ p).toArray 51)
 have hX := Blk.new w 51 (typCells ⟨2, pos, nm, names, kids, opn⟩ p).toArray
 obtain ⟨l3, hl3⟩ : ∃ l, names.length = l := ⟨_, rfl⟩
 obtain ⟨l4, hl4⟩ : ∃ l, kids.length = l := ⟨_, rfl⟩
 unfold typCells at hB hX ⊢
 dsimp only at hB hX ⊢
 have h5 : names.isEmpty = ((l3 : Int) == 0) := by rw [← hl3]; cases names <;> simp; omega
 rw [hl3, hl4] at hB hX
 simp only [hl3, hl4, h5]
 clear h5
 obtain ⟨c0, hc0⟩ : ∃ c, (nm.toList == []) = c := ⟨_, rfl⟩
 have hd0 : (nm.toList != []) = !c0 := by rw [bne, hc0]
 have he0 : nm.toList.isEmpty = c0 := by rw [← hc0]; cases nm.toList <;> rfl
 rw [he0]
 clear he0
 obtain ⟨c2, hc2⟩ : ∃ c, ((l3 : Int) == 0) = c := ⟨_, rfl⟩
 rw [hc2]
 obtain ⟨c3, hc3⟩ : ∃ c, ((l4 : Int) == 0) = c := ⟨_, rfl⟩
 have he3 : decide (l4 = 0) = c3 := by rw [← hc3, Bool.eq_iff_iff]; simp; try omega
 rw [he3]
 clear he3
 obtain ⟨r, hr⟩ : ∃ r, (c0 && (!opn && (c2 && c3))) = r := ⟨_, rfl⟩
 rw [hr]
 obtain ⟨W1, hW1⟩ : ∃ W1, w.alloc (.cells #[.int .i64 2, .int .i64 pos, .string nm, .slice p.a3 l3 p.c3, .slice p.a4 l4 p.c4, .bool opn] 51) = W1 := ⟨_, rfl⟩
 rw [hW1] at hB hX
 have HB := Lib.hid hB
 have HX := Lib.hid hX
 have hzX := hX.lt
 have x0 := (hX.cell 0).trans rfl
 have x2 := (hX.cell 2).trans rfl
 have x3 := (hX.cell 3).trans rfl
 have x4 := (hX.cell 4).trans rfl
 have x5 := (hX.cell 5).trans rfl
 clear hB hX
 cases c0
 ·skip
  obtain rfl : r = false := by rw [← hr]; simp
  clear hr
  go_enter Tryz.func52, Tryz.ntmps52
  try dsimp only [List.append]
  go_wp2
  all_goals
   go_ret
   exact ⟨rfl, HB.out⟩
 ·cases opn
  case true =>
   obtain rfl : r = false := by rw [← hr]; simp
   clear hr
   go_enter Tryz.func52, Tryz.ntmps52
   try dsimp only [List.append]
   go_wp2
   all_goals
    go_ret
    exact ⟨rfl, HB.out⟩
  case false =>
   cases c2
   ·skip
    obtain rfl : r = false := by rw [← hr]; simp
    clear hr
    go_enter Tryz.func52, Tryz.ntmps52
    try dsimp only [List.append]
    go_wp2
    all_goals
     go_ret
     exact ⟨rfl, HB.out⟩
   ·cases c3
    ·skip
     obtain rfl : r = false := by rw [← hr]; simp
     clear hr
     go_enter Tryz.func52, Tryz.ntmps52
     try dsimp only [List.append]
     go_wp2
     all_goals
      go_ret
      exact ⟨rfl, HB.out⟩
    ·skip
     obtain rfl : r = true := by rw [← hr]; simp
     clear hr
     go_enter Tryz.func52, Tryz.ntmps52
     try dsimp only [List.append]
     go_wp2
     all_goals
      go_ret
      exact ⟨rfl, HB.out⟩

theorem yb3 (pos : Int) (nm : ByteArray) (names : List ByteArray) (kids : List Int) (opn : Bool) : typB ⟨3, pos, nm, names, kids, opn⟩ = (nm.toList.isEmpty && (!opn && (names.isEmpty && decide (kids.length = 0)))) := by
 show (holdsB 0 0 0 0 0 kids.length 0 (nm.toList.isEmpty) names.isEmpty true && !opn) = _
 rw [Bool.eq_iff_iff]
 unfold holdsB
 simp only [Bool.and_eq_true, decide_eq_true_eq]
 constructor
 ·rintro ⟨⟨⟨h1, h2, h3, h4, h5⟩, h6, h7, h8⟩, h9⟩
  exact ⟨h6, h9, h7, by omega⟩
 ·rintro ⟨h1, h2, h3, h4⟩
  exact ⟨⟨⟨by omega, by omega, by omega, by omega, by omega⟩, h1, h3, trivial⟩, h2⟩

set_option maxRecDepth 100000 in
set_option maxHeartbeats 8000000 in
theorem rtyp_k3 (pos : Int) (nm : ByteArray) (names : List ByteArray) (kids : List Int) (opn : Bool) (p : Ptr2) (w : World) :
 Calls Tryz.prog 52 #[.agg (typCells ⟨3, pos, nm, names, kids, opn⟩ p).toArray] w fun e w' => e = .returned (.bool (typB ⟨3, pos, nm, names, kids, opn⟩)) ∧ Below w.heap.size w w' := by
 rw [yb3]
 have hB := (Below.refl w.heap.size w).alloc (Nat.le_refl _) (.cells (typCells ⟨3, pos, nm, names, kids, opn⟩ p).toArray 51)
 have hX := Blk.new w 51 (typCells ⟨3, pos, nm, names, kids, opn⟩ p).toArray
 obtain ⟨l3, hl3⟩ : ∃ l, names.length = l := ⟨_, rfl⟩
 obtain ⟨l4, hl4⟩ : ∃ l, kids.length = l := ⟨_, rfl⟩
 unfold typCells at hB hX ⊢
 dsimp only at hB hX ⊢
 have h5 : names.isEmpty = ((l3 : Int) == 0) := by rw [← hl3]; cases names <;> simp; omega
 rw [hl3, hl4] at hB hX
 simp only [hl3, hl4, h5]
 clear h5
 obtain ⟨c0, hc0⟩ : ∃ c, (nm.toList == []) = c := ⟨_, rfl⟩
 have hd0 : (nm.toList != []) = !c0 := by rw [bne, hc0]
 have he0 : nm.toList.isEmpty = c0 := by rw [← hc0]; cases nm.toList <;> rfl
 rw [he0]
 clear he0
 obtain ⟨c2, hc2⟩ : ∃ c, ((l3 : Int) == 0) = c := ⟨_, rfl⟩
 rw [hc2]
 obtain ⟨c3, hc3⟩ : ∃ c, ((l4 : Int) == 0) = c := ⟨_, rfl⟩
 have he3 : decide (l4 = 0) = c3 := by rw [← hc3, Bool.eq_iff_iff]; simp; try omega
 rw [he3]
 clear he3
 obtain ⟨r, hr⟩ : ∃ r, (c0 && (!opn && (c2 && c3))) = r := ⟨_, rfl⟩
 rw [hr]
 obtain ⟨W1, hW1⟩ : ∃ W1, w.alloc (.cells #[.int .i64 3, .int .i64 pos, .string nm, .slice p.a3 l3 p.c3, .slice p.a4 l4 p.c4, .bool opn] 51) = W1 := ⟨_, rfl⟩
 rw [hW1] at hB hX
 have HB := Lib.hid hB
 have HX := Lib.hid hX
 have hzX := hX.lt
 have x0 := (hX.cell 0).trans rfl
 have x2 := (hX.cell 2).trans rfl
 have x3 := (hX.cell 3).trans rfl
 have x4 := (hX.cell 4).trans rfl
 have x5 := (hX.cell 5).trans rfl
 clear hB hX
 cases c0
 ·skip
  obtain rfl : r = false := by rw [← hr]; simp
  clear hr
  go_enter Tryz.func52, Tryz.ntmps52
  try dsimp only [List.append]
  go_wp2
  all_goals
   go_ret
   exact ⟨rfl, HB.out⟩
 ·cases opn
  case true =>
   obtain rfl : r = false := by rw [← hr]; simp
   clear hr
   go_enter Tryz.func52, Tryz.ntmps52
   try dsimp only [List.append]
   go_wp2
   all_goals
    go_ret
    exact ⟨rfl, HB.out⟩
  case false =>
   cases c2
   ·skip
    obtain rfl : r = false := by rw [← hr]; simp
    clear hr
    go_enter Tryz.func52, Tryz.ntmps52
    try dsimp only [List.append]
    go_wp2
    all_goals
     go_ret
     exact ⟨rfl, HB.out⟩
   ·cases c3
    ·skip
     obtain rfl : r = false := by rw [← hr]; simp
     clear hr
     go_enter Tryz.func52, Tryz.ntmps52
     try dsimp only [List.append]
     go_wp2
     all_goals
      go_ret
      exact ⟨rfl, HB.out⟩
    ·skip
     obtain rfl : r = true := by rw [← hr]; simp
     clear hr
     go_enter Tryz.func52, Tryz.ntmps52
     try dsimp only [List.append]
     go_wp2
     all_goals
      go_ret
      exact ⟨rfl, HB.out⟩

theorem yb4 (pos : Int) (nm : ByteArray) (names : List ByteArray) (kids : List Int) (opn : Bool) : typB ⟨4, pos, nm, names, kids, opn⟩ = (nm.toList.isEmpty && (!opn && (names.isEmpty && decide (kids.length = 0)))) := by
 show (holdsB 0 0 0 0 0 kids.length 0 (nm.toList.isEmpty) names.isEmpty true && !opn) = _
 rw [Bool.eq_iff_iff]
 unfold holdsB
 simp only [Bool.and_eq_true, decide_eq_true_eq]
 constructor
 ·rintro ⟨⟨⟨h1, h2, h3, h4, h5⟩, h6, h7, h8⟩, h9⟩
  exact ⟨h6, h9, h7, by omega⟩
 ·rintro ⟨h1, h2, h3, h4⟩
  exact ⟨⟨⟨by omega, by omega, by omega, by omega, by omega⟩, h1, h3, trivial⟩, h2⟩

set_option maxRecDepth 100000 in
set_option maxHeartbeats 8000000 in
theorem rtyp_k4 (pos : Int) (nm : ByteArray) (names : List ByteArray) (kids : List Int) (opn : Bool) (p : Ptr2) (w : World) :
 Calls Tryz.prog 52 #[.agg (typCells ⟨4, pos, nm, names, kids, opn⟩ p).toArray] w fun e w' => e = .returned (.bool (typB ⟨4, pos, nm, names, kids, opn⟩)) ∧ Below w.heap.size w w' := by
 rw [yb4]
 have hB := (Below.refl w.heap.size w).alloc (Nat.le_refl _) (.cells (typCells ⟨4, pos, nm, names, kids, opn⟩ p).toArray 51)
 have hX := Blk.new w 51 (typCells ⟨4, pos, nm, names, kids, opn⟩ p).toArray
 obtain ⟨l3, hl3⟩ : ∃ l, names.length = l := ⟨_, rfl⟩
 obtain ⟨l4, hl4⟩ : ∃ l, kids.length = l := ⟨_, rfl⟩
 unfold typCells at hB hX ⊢
 dsimp only at hB hX ⊢
 have h5 : names.isEmpty = ((l3 : Int) == 0) := by rw [← hl3]; cases names <;> simp; omega
 rw [hl3, hl4] at hB hX
 simp only [hl3, hl4, h5]
 clear h5
 obtain ⟨c0, hc0⟩ : ∃ c, (nm.toList == []) = c := ⟨_, rfl⟩
 have hd0 : (nm.toList != []) = !c0 := by rw [bne, hc0]
 have he0 : nm.toList.isEmpty = c0 := by rw [← hc0]; cases nm.toList <;> rfl
 rw [he0]
 clear he0
 obtain ⟨c2, hc2⟩ : ∃ c, ((l3 : Int) == 0) = c := ⟨_, rfl⟩
 rw [hc2]
 obtain ⟨c3, hc3⟩ : ∃ c, ((l4 : Int) == 0) = c := ⟨_, rfl⟩
 have he3 : decide (l4 = 0) = c3 := by rw [← hc3, Bool.eq_iff_iff]; simp; try omega
 rw [he3]
 clear he3
 obtain ⟨r, hr⟩ : ∃ r, (c0 && (!opn && (c2 && c3))) = r := ⟨_, rfl⟩
 rw [hr]
 obtain ⟨W1, hW1⟩ : ∃ W1, w.alloc (.cells #[.int .i64 4, .int .i64 pos, .string nm, .slice p.a3 l3 p.c3, .slice p.a4 l4 p.c4, .bool opn] 51) = W1 := ⟨_, rfl⟩
 rw [hW1] at hB hX
 have HB := Lib.hid hB
 have HX := Lib.hid hX
 have hzX := hX.lt
 have x0 := (hX.cell 0).trans rfl
 have x2 := (hX.cell 2).trans rfl
 have x3 := (hX.cell 3).trans rfl
 have x4 := (hX.cell 4).trans rfl
 have x5 := (hX.cell 5).trans rfl
 clear hB hX
 cases c0
 ·skip
  obtain rfl : r = false := by rw [← hr]; simp
  clear hr
  go_enter Tryz.func52, Tryz.ntmps52
  try dsimp only [List.append]
  go_wp2
  all_goals
   go_ret
   exact ⟨rfl, HB.out⟩
 ·cases opn
  case true =>
   obtain rfl : r = false := by rw [← hr]; simp
   clear hr
   go_enter Tryz.func52, Tryz.ntmps52
   try dsimp only [List.append]
   go_wp2
   all_goals
    go_ret
    exact ⟨rfl, HB.out⟩
  case false =>
   cases c2
   ·skip
    obtain rfl : r = false := by rw [← hr]; simp
    clear hr
    go_enter Tryz.func52, Tryz.ntmps52
    try dsimp only [List.append]
    go_wp2
    all_goals
     go_ret
     exact ⟨rfl, HB.out⟩
   ·cases c3
    ·skip
     obtain rfl : r = false := by rw [← hr]; simp
     clear hr
     go_enter Tryz.func52, Tryz.ntmps52
     try dsimp only [List.append]
     go_wp2
     all_goals
      go_ret
      exact ⟨rfl, HB.out⟩
    ·skip
     obtain rfl : r = true := by rw [← hr]; simp
     clear hr
     go_enter Tryz.func52, Tryz.ntmps52
     try dsimp only [List.append]
     go_wp2
     all_goals
      go_ret
      exact ⟨rfl, HB.out⟩

theorem yb5 (pos : Int) (nm : ByteArray) (names : List ByteArray) (kids : List Int) (opn : Bool) : typB ⟨5, pos, nm, names, kids, opn⟩ = (nm.toList.isEmpty && (!opn && (names.isEmpty && decide (kids.length = 0)))) := by
 show (holdsB 0 0 0 0 0 kids.length 0 (nm.toList.isEmpty) names.isEmpty true && !opn) = _
 rw [Bool.eq_iff_iff]
 unfold holdsB
 simp only [Bool.and_eq_true, decide_eq_true_eq]
 constructor
 ·rintro ⟨⟨⟨h1, h2, h3, h4, h5⟩, h6, h7, h8⟩, h9⟩
  exact ⟨h6, h9, h7, by omega⟩
 ·rintro ⟨h1, h2, h3, h4⟩
  exact ⟨⟨⟨by omega, by omega, by omega, by omega, by omega⟩, h1, h3, trivial⟩, h2⟩

set_option maxRecDepth 100000 in
set_option maxHeartbeats 8000000 in
theorem rtyp_k5 (pos : Int) (nm : ByteArray) (names : List ByteArray) (kids : List Int) (opn : Bool) (p : Ptr2) (w : World) :
 Calls Tryz.prog 52 #[.agg (typCells ⟨5, pos, nm, names, kids, opn⟩ p).toArray] w fun e w' => e = .returned (.bool (typB ⟨5, pos, nm, names, kids, opn⟩)) ∧ Below w.heap.size w w' := by
 rw [yb5]
 have hB := (Below.refl w.heap.size w).alloc (Nat.le_refl _) (.cells (typCells ⟨5, pos, nm, names, kids, opn⟩ p).toArray 51)
 have hX := Blk.new w 51 (typCells ⟨5, pos, nm, names, kids, opn⟩ p).toArray
 obtain ⟨l3, hl3⟩ : ∃ l, names.length = l := ⟨_, rfl⟩
 obtain ⟨l4, hl4⟩ : ∃ l, kids.length = l := ⟨_, rfl⟩
 unfold typCells at hB hX ⊢
 dsimp only at hB hX ⊢
 have h5 : names.isEmpty = ((l3 : Int) == 0) := by rw [← hl3]; cases names <;> simp; omega
 rw [hl3, hl4] at hB hX
 simp only [hl3, hl4, h5]
 clear h5
 obtain ⟨c0, hc0⟩ : ∃ c, (nm.toList == []) = c := ⟨_, rfl⟩
 have hd0 : (nm.toList != []) = !c0 := by rw [bne, hc0]
 have he0 : nm.toList.isEmpty = c0 := by rw [← hc0]; cases nm.toList <;> rfl
 rw [he0]
 clear he0
 obtain ⟨c2, hc2⟩ : ∃ c, ((l3 : Int) == 0) = c := ⟨_, rfl⟩
 rw [hc2]
 obtain ⟨c3, hc3⟩ : ∃ c, ((l4 : Int) == 0) = c := ⟨_, rfl⟩
 have he3 : decide (l4 = 0) = c3 := by rw [← hc3, Bool.eq_iff_iff]; simp; try omega
 rw [he3]
 clear he3
 obtain ⟨r, hr⟩ : ∃ r, (c0 && (!opn && (c2 && c3))) = r := ⟨_, rfl⟩
 rw [hr]
 obtain ⟨W1, hW1⟩ : ∃ W1, w.alloc (.cells #[.int .i64 5, .int .i64 pos, .string nm, .slice p.a3 l3 p.c3, .slice p.a4 l4 p.c4, .bool opn] 51) = W1 := ⟨_, rfl⟩
 rw [hW1] at hB hX
 have HB := Lib.hid hB
 have HX := Lib.hid hX
 have hzX := hX.lt
 have x0 := (hX.cell 0).trans rfl
 have x2 := (hX.cell 2).trans rfl
 have x3 := (hX.cell 3).trans rfl
 have x4 := (hX.cell 4).trans rfl
 have x5 := (hX.cell 5).trans rfl
 clear hB hX
 cases c0
 ·skip
  obtain rfl : r = false := by rw [← hr]; simp
  clear hr
  go_enter Tryz.func52, Tryz.ntmps52
  try dsimp only [List.append]
  go_wp2
  all_goals
   go_ret
   exact ⟨rfl, HB.out⟩
 ·cases opn
  case true =>
   obtain rfl : r = false := by rw [← hr]; simp
   clear hr
   go_enter Tryz.func52, Tryz.ntmps52
   try dsimp only [List.append]
   go_wp2
   all_goals
    go_ret
    exact ⟨rfl, HB.out⟩
  case false =>
   cases c2
   ·skip
    obtain rfl : r = false := by rw [← hr]; simp
    clear hr
    go_enter Tryz.func52, Tryz.ntmps52
    try dsimp only [List.append]
    go_wp2
    all_goals
     go_ret
     exact ⟨rfl, HB.out⟩
   ·cases c3
    ·skip
     obtain rfl : r = false := by rw [← hr]; simp
     clear hr
     go_enter Tryz.func52, Tryz.ntmps52
     try dsimp only [List.append]
     go_wp2
     all_goals
      go_ret
      exact ⟨rfl, HB.out⟩
    ·skip
     obtain rfl : r = true := by rw [← hr]; simp
     clear hr
     go_enter Tryz.func52, Tryz.ntmps52
     try dsimp only [List.append]
     go_wp2
     all_goals
      go_ret
      exact ⟨rfl, HB.out⟩

theorem yb6 (pos : Int) (nm : ByteArray) (names : List ByteArray) (kids : List Int) (opn : Bool) : typB ⟨6, pos, nm, names, kids, opn⟩ = (nm.toList.isEmpty && (!opn && (names.isEmpty && decide (kids.length = 0)))) := by
 show (holdsB 0 0 0 0 0 kids.length 0 (nm.toList.isEmpty) names.isEmpty true && !opn) = _
 rw [Bool.eq_iff_iff]
 unfold holdsB
 simp only [Bool.and_eq_true, decide_eq_true_eq]
 constructor
 ·rintro ⟨⟨⟨h1, h2, h3, h4, h5⟩, h6, h7, h8⟩, h9⟩
  exact ⟨h6, h9, h7, by omega⟩
 ·rintro ⟨h1, h2, h3, h4⟩
  exact ⟨⟨⟨by omega, by omega, by omega, by omega, by omega⟩, h1, h3, trivial⟩, h2⟩

set_option maxRecDepth 100000 in
set_option maxHeartbeats 8000000 in
theorem rtyp_k6 (pos : Int) (nm : ByteArray) (names : List ByteArray) (kids : List Int) (opn : Bool) (p : Ptr2) (w : World) :
 Calls Tryz.prog 52 #[.agg (typCells ⟨6, pos, nm, names, kids, opn⟩ p).toArray] w fun e w' => e = .returned (.bool (typB ⟨6, pos, nm, names, kids, opn⟩)) ∧ Below w.heap.size w w' := by
 rw [yb6]
 have hB := (Below.refl w.heap.size w).alloc (Nat.le_refl _) (.cells (typCells ⟨6, pos, nm, names, kids, opn⟩ p).toArray 51)
 have hX := Blk.new w 51 (typCells ⟨6, pos, nm, names, kids, opn⟩ p).toArray
 obtain ⟨l3, hl3⟩ : ∃ l, names.length = l := ⟨_, rfl⟩
 obtain ⟨l4, hl4⟩ : ∃ l, kids.length = l := ⟨_, rfl⟩
 unfold typCells at hB hX ⊢
 dsimp only at hB hX ⊢
 have h5 : names.isEmpty = ((l3 : Int) == 0) := by rw [← hl3]; cases names <;> simp; omega
 rw [hl3, hl4] at hB hX
 simp only [hl3, hl4, h5]
 clear h5
 obtain ⟨c0, hc0⟩ : ∃ c, (nm.toList == []) = c := ⟨_, rfl⟩
 have hd0 : (nm.toList != []) = !c0 := by rw [bne, hc0]
 have he0 : nm.toList.isEmpty = c0 := by rw [← hc0]; cases nm.toList <;> rfl
 rw [he0]
 clear he0
 obtain ⟨c2, hc2⟩ : ∃ c, ((l3 : Int) == 0) = c := ⟨_, rfl⟩
 rw [hc2]
 obtain ⟨c3, hc3⟩ : ∃ c, ((l4 : Int) == 0) = c := ⟨_, rfl⟩
 have he3 : decide (l4 = 0) = c3 := by rw [← hc3, Bool.eq_iff_iff]; simp; try omega
 rw [he3]
 clear he3
 obtain ⟨r, hr⟩ : ∃ r, (c0 && (!opn && (c2 && c3))) = r := ⟨_, rfl⟩
 rw [hr]
 obtain ⟨W1, hW1⟩ : ∃ W1, w.alloc (.cells #[.int .i64 6, .int .i64 pos, .string nm, .slice p.a3 l3 p.c3, .slice p.a4 l4 p.c4, .bool opn] 51) = W1 := ⟨_, rfl⟩
 rw [hW1] at hB hX
 have HB := Lib.hid hB
 have HX := Lib.hid hX
 have hzX := hX.lt
 have x0 := (hX.cell 0).trans rfl
 have x2 := (hX.cell 2).trans rfl
 have x3 := (hX.cell 3).trans rfl
 have x4 := (hX.cell 4).trans rfl
 have x5 := (hX.cell 5).trans rfl
 clear hB hX
 cases c0
 ·skip
  obtain rfl : r = false := by rw [← hr]; simp
  clear hr
  go_enter Tryz.func52, Tryz.ntmps52
  try dsimp only [List.append]
  go_wp2
  all_goals
   go_ret
   exact ⟨rfl, HB.out⟩
 ·cases opn
  case true =>
   obtain rfl : r = false := by rw [← hr]; simp
   clear hr
   go_enter Tryz.func52, Tryz.ntmps52
   try dsimp only [List.append]
   go_wp2
   all_goals
    go_ret
    exact ⟨rfl, HB.out⟩
  case false =>
   cases c2
   ·skip
    obtain rfl : r = false := by rw [← hr]; simp
    clear hr
    go_enter Tryz.func52, Tryz.ntmps52
    try dsimp only [List.append]
    go_wp2
    all_goals
     go_ret
     exact ⟨rfl, HB.out⟩
   ·cases c3
    ·skip
     obtain rfl : r = false := by rw [← hr]; simp
     clear hr
     go_enter Tryz.func52, Tryz.ntmps52
     try dsimp only [List.append]
     go_wp2
     all_goals
      go_ret
      exact ⟨rfl, HB.out⟩
    ·skip
     obtain rfl : r = true := by rw [← hr]; simp
     clear hr
     go_enter Tryz.func52, Tryz.ntmps52
     try dsimp only [List.append]
     go_wp2
     all_goals
      go_ret
      exact ⟨rfl, HB.out⟩

theorem yb7 (pos : Int) (nm : ByteArray) (names : List ByteArray) (kids : List Int) (opn : Bool) : typB ⟨7, pos, nm, names, kids, opn⟩ = (nm.toList.isEmpty && (!opn && (names.isEmpty && decide (kids.length = 2)))) := by
 show (holdsB 0 2 0 0 0 kids.length 0 (nm.toList.isEmpty) names.isEmpty true && !opn) = _
 rw [Bool.eq_iff_iff]
 unfold holdsB
 simp only [Bool.and_eq_true, decide_eq_true_eq]
 constructor
 ·rintro ⟨⟨⟨h1, h2, h3, h4, h5⟩, h6, h7, h8⟩, h9⟩
  exact ⟨h6, h9, h7, by omega⟩
 ·rintro ⟨h1, h2, h3, h4⟩
  exact ⟨⟨⟨by omega, by omega, by omega, by omega, by omega⟩, h1, h3, trivial⟩, h2⟩

set_option maxRecDepth 100000 in
set_option maxHeartbeats 8000000 in
theorem rtyp_k7 (pos : Int) (nm : ByteArray) (names : List ByteArray) (kids : List Int) (opn : Bool) (p : Ptr2) (w : World) :
 Calls Tryz.prog 52 #[.agg (typCells ⟨7, pos, nm, names, kids, opn⟩ p).toArray] w fun e w' => e = .returned (.bool (typB ⟨7, pos, nm, names, kids, opn⟩)) ∧ Below w.heap.size w w' := by
 rw [yb7]
 have hB := (Below.refl w.heap.size w).alloc (Nat.le_refl _) (.cells (typCells ⟨7, pos, nm, names, kids, opn⟩ p).toArray 51)
 have hX := Blk.new w 51 (typCells ⟨7, pos, nm, names, kids, opn⟩ p).toArray
 obtain ⟨l3, hl3⟩ : ∃ l, names.length = l := ⟨_, rfl⟩
 obtain ⟨l4, hl4⟩ : ∃ l, kids.length = l := ⟨_, rfl⟩
 unfold typCells at hB hX ⊢
 dsimp only at hB hX ⊢
 have h5 : names.isEmpty = ((l3 : Int) == 0) := by rw [← hl3]; cases names <;> simp; omega
 rw [hl3, hl4] at hB hX
 simp only [hl3, hl4, h5]
 clear h5
 obtain ⟨c0, hc0⟩ : ∃ c, (nm.toList == []) = c := ⟨_, rfl⟩
 have hd0 : (nm.toList != []) = !c0 := by rw [bne, hc0]
 have he0 : nm.toList.isEmpty = c0 := by rw [← hc0]; cases nm.toList <;> rfl
 rw [he0]
 clear he0
 obtain ⟨c2, hc2⟩ : ∃ c, ((l3 : Int) == 0) = c := ⟨_, rfl⟩
 rw [hc2]
 obtain ⟨c3, hc3⟩ : ∃ c, ((l4 : Int) == 2) = c := ⟨_, rfl⟩
 have he3 : decide (l4 = 2) = c3 := by rw [← hc3, Bool.eq_iff_iff]; simp; try omega
 rw [he3]
 clear he3
 obtain ⟨r, hr⟩ : ∃ r, (c0 && (!opn && (c2 && c3))) = r := ⟨_, rfl⟩
 rw [hr]
 obtain ⟨W1, hW1⟩ : ∃ W1, w.alloc (.cells #[.int .i64 7, .int .i64 pos, .string nm, .slice p.a3 l3 p.c3, .slice p.a4 l4 p.c4, .bool opn] 51) = W1 := ⟨_, rfl⟩
 rw [hW1] at hB hX
 have HB := Lib.hid hB
 have HX := Lib.hid hX
 have hzX := hX.lt
 have x0 := (hX.cell 0).trans rfl
 have x2 := (hX.cell 2).trans rfl
 have x3 := (hX.cell 3).trans rfl
 have x4 := (hX.cell 4).trans rfl
 have x5 := (hX.cell 5).trans rfl
 clear hB hX
 cases c0
 ·skip
  obtain rfl : r = false := by rw [← hr]; simp
  clear hr
  go_enter Tryz.func52, Tryz.ntmps52
  try dsimp only [List.append]
  go_wp2
  all_goals
   go_ret
   exact ⟨rfl, HB.out⟩
 ·cases opn
  case true =>
   obtain rfl : r = false := by rw [← hr]; simp
   clear hr
   go_enter Tryz.func52, Tryz.ntmps52
   try dsimp only [List.append]
   go_wp2
   all_goals
    go_ret
    exact ⟨rfl, HB.out⟩
  case false =>
   cases c2
   ·skip
    obtain rfl : r = false := by rw [← hr]; simp
    clear hr
    go_enter Tryz.func52, Tryz.ntmps52
    try dsimp only [List.append]
    go_wp2
    all_goals
     go_ret
     exact ⟨rfl, HB.out⟩
   ·cases c3
    ·skip
     obtain rfl : r = false := by rw [← hr]; simp
     clear hr
     go_enter Tryz.func52, Tryz.ntmps52
     try dsimp only [List.append]
     go_wp2
     all_goals
      go_ret
      exact ⟨rfl, HB.out⟩
    ·skip
     obtain rfl : r = true := by rw [← hr]; simp
     clear hr
     go_enter Tryz.func52, Tryz.ntmps52
     try dsimp only [List.append]
     go_wp2
     all_goals
      go_ret
      exact ⟨rfl, HB.out⟩

theorem yb8 (pos : Int) (nm : ByteArray) (names : List ByteArray) (kids : List Int) (opn : Bool) : typB ⟨8, pos, nm, names, kids, opn⟩ = (nm.toList.isEmpty && (!opn && (namesB names && (decide names.Nodup && decide (kids.length = names.length))))) := by
 show (holdsB 0 (names.length : Int) 0 0 0 kids.length 0 (nm.toList.isEmpty) (onceB isName names) true && !opn) = _
 rw [Bool.eq_iff_iff]
 unfold holdsB onceB namesB
 simp only [Bool.and_eq_true, decide_eq_true_eq]
 constructor
 ·rintro ⟨⟨⟨h1, h2, h3, h4, h5⟩, h6, h7, h8⟩, h9⟩
  exact ⟨h6, h9, h7.1, h7.2, by omega⟩
 ·rintro ⟨h1, h2, h3, h4, h5⟩
  exact ⟨⟨⟨by omega, by omega, by omega, by omega, by omega⟩, h1, ⟨h3, h4⟩, trivial⟩, h2⟩

set_option maxRecDepth 100000 in
set_option maxHeartbeats 8000000 in
theorem rtyp_k8 (pos : Int) (nm : ByteArray) (names : List ByteArray) (kids : List Int) (opn : Bool) (p : Ptr2) (w : World) (hS : SlAt (Lt w.heap.size) w p.a3 names.length (names.map .string)) (hn : names.length ≤ 1000) (hsz : ∀ s ∈ names, s.size ≤ 1000) :
 Calls Tryz.prog 52 #[.agg (typCells ⟨8, pos, nm, names, kids, opn⟩ p).toArray] w fun e w' => e = .returned (.bool (typB ⟨8, pos, nm, names, kids, opn⟩)) ∧ Below w.heap.size w w' := by
 rw [yb8]
 have kN := fun W (hW : Below w.heap.size w W) => rnames_any p.a3 p.c3 names W (RdAt.of_sl (hS.keep (keep_below hW))) hn hsz
 have kO := fun W (hW : Below w.heap.size w W) => ronce_any p.a3 p.c3 names W (RdAt.of_sl (hS.keep (keep_below hW))) hn
 have hB := (Below.refl w.heap.size w).alloc (Nat.le_refl _) (.cells (typCells ⟨8, pos, nm, names, kids, opn⟩ p).toArray 51)
 have hX := Blk.new w 51 (typCells ⟨8, pos, nm, names, kids, opn⟩ p).toArray
 obtain ⟨l3, hl3⟩ : ∃ l, names.length = l := ⟨_, rfl⟩
 obtain ⟨l4, hl4⟩ : ∃ l, kids.length = l := ⟨_, rfl⟩
 unfold typCells at hB hX ⊢
 dsimp only at hB hX ⊢
 rw [hl3, hl4] at hB hX
 simp only [hl3, hl4]
 obtain ⟨c0, hc0⟩ : ∃ c, (nm.toList == []) = c := ⟨_, rfl⟩
 have hd0 : (nm.toList != []) = !c0 := by rw [bne, hc0]
 have he0 : nm.toList.isEmpty = c0 := by rw [← hc0]; cases nm.toList <;> rfl
 rw [he0]
 clear he0
 rw [hl3] at kN kO
 obtain ⟨c2, hc2⟩ : ∃ c, namesB names = c := ⟨_, rfl⟩
 rw [hc2] at kN
 rw [hc2]
 obtain ⟨c3, hc3⟩ : ∃ c, decide names.Nodup = c := ⟨_, rfl⟩
 rw [hc3] at kO
 rw [hc3]
 obtain ⟨c4, hc4⟩ : ∃ c, ((l4 : Int) == (l3 : Int)) = c := ⟨_, rfl⟩
 have he4 : decide (l4 = l3) = c4 := by rw [← hc4, Bool.eq_iff_iff]; simp; try omega
 rw [he4]
 obtain ⟨r, hr⟩ : ∃ r, (c0 && (!opn && (c2 && (c3 && c4)))) = r := ⟨_, rfl⟩
 rw [hr]
 obtain ⟨W1, hW1⟩ : ∃ W1, w.alloc (.cells #[.int .i64 8, .int .i64 pos, .string nm, .slice p.a3 l3 p.c3, .slice p.a4 l4 p.c4, .bool opn] 51) = W1 := ⟨_, rfl⟩
 rw [hW1] at hB hX
 have HB := Lib.hid hB
 have HX := Lib.hid hX
 have hzX := hX.lt
 have x0 := (hX.cell 0).trans rfl
 have x2 := (hX.cell 2).trans rfl
 have x3 := (hX.cell 3).trans rfl
 have x4 := (hX.cell 4).trans rfl
 have x5 := (hX.cell 5).trans rfl
 clear hB hX
 have KN := Lib.hid kN
 have KO := Lib.hid kO
 clear he4 hl3 hl4 hc2 hc3 hS hn hsz kN kO
 cases c0
 ·skip
  obtain rfl : r = false := by rw [← hr]; simp
  clear hr
  go_enter Tryz.func52, Tryz.ntmps52
  try dsimp only [List.append]
  go_wp2
  all_goals
   go_ret
   exact ⟨rfl, HB.out⟩
 ·cases opn
  case true =>
   obtain rfl : r = false := by rw [← hr]; simp
   clear hr
   go_enter Tryz.func52, Tryz.ntmps52
   try dsimp only [List.append]
   go_wp2
   all_goals
    go_ret
    exact ⟨rfl, HB.out⟩
  case false =>
   cases c2
   ·skip
    obtain rfl : r = false := by rw [← hr]; simp
    clear hr
    go_enter Tryz.func52, Tryz.ntmps52
    try dsimp only [List.append]
    have kN := KN.out W1 HB.out
    go_wp2_with (go_at_call 109; refine kN.mono ?_; rintro e w2 ⟨rfl, rfl⟩)
    go_ret
    exact ⟨rfl, HB.out⟩
   ·cases c3
    ·skip
     obtain rfl : r = false := by rw [← hr]; simp
     clear hr
     go_enter Tryz.func52, Tryz.ntmps52
     try dsimp only [List.append]
     have kN := KN.out W1 HB.out
     go_wp2_with fail
     refine kN.mono ?_
     rintro e w2 ⟨rfl, rfl⟩
     clear kN
     have kO := KO.out W1 HB.out
     go_wp2_with fail
     refine kO.mono ?_
     rintro e w2 ⟨rfl, hb2⟩
     have HB2 := Lib.hid (HB.out.trans (hb2.mono HB.out.size))
     have hX2 := HX.out.below hb2 hzX
     clear x0 x2 x3 x4 x5 hb2 kO hW1
     have x0 := (hX2.cell 0).trans rfl
     have x2 := (hX2.cell 2).trans rfl
     have x3 := (hX2.cell 3).trans rfl
     have x4 := (hX2.cell 4).trans rfl
     have x5 := (hX2.cell 5).trans rfl
     clear hX2
     go_wp2
     all_goals
      go_ret
      exact ⟨rfl, HB2.out⟩
    ·cases c4
     ·skip
      obtain rfl : r = false := by rw [← hr]; simp
      clear hr
      go_enter Tryz.func52, Tryz.ntmps52
      try dsimp only [List.append]
      have kN := KN.out W1 HB.out
      go_wp2_with fail
      refine kN.mono ?_
      rintro e w2 ⟨rfl, rfl⟩
      clear kN
      have kO := KO.out W1 HB.out
      go_wp2_with fail
      refine kO.mono ?_
      rintro e w2 ⟨rfl, hb2⟩
      have HB2 := Lib.hid (HB.out.trans (hb2.mono HB.out.size))
      have hX2 := HX.out.below hb2 hzX
      clear x0 x2 x3 x4 x5 hb2 kO hW1
      have x0 := (hX2.cell 0).trans rfl
      have x2 := (hX2.cell 2).trans rfl
      have x3 := (hX2.cell 3).trans rfl
      have x4 := (hX2.cell 4).trans rfl
      have x5 := (hX2.cell 5).trans rfl
      clear hX2
      go_wp2
      all_goals
       go_ret
       exact ⟨rfl, HB2.out⟩
     ·skip
      obtain rfl : r = true := by rw [← hr]; simp
      clear hr
      go_enter Tryz.func52, Tryz.ntmps52
      try dsimp only [List.append]
      have kN := KN.out W1 HB.out
      go_wp2_with fail
      refine kN.mono ?_
      rintro e w2 ⟨rfl, rfl⟩
      clear kN
      have kO := KO.out W1 HB.out
      go_wp2_with fail
      refine kO.mono ?_
      rintro e w2 ⟨rfl, hb2⟩
      have HB2 := Lib.hid (HB.out.trans (hb2.mono HB.out.size))
      have hX2 := HX.out.below hb2 hzX
      clear x0 x2 x3 x4 x5 hb2 kO hW1
      have x0 := (hX2.cell 0).trans rfl
      have x2 := (hX2.cell 2).trans rfl
      have x3 := (hX2.cell 3).trans rfl
      have x4 := (hX2.cell 4).trans rfl
      have x5 := (hX2.cell 5).trans rfl
      clear hX2
      go_wp2
      all_goals
       go_ret
       exact ⟨rfl, HB2.out⟩

theorem yb10 (pos : Int) (nm : ByteArray) (names : List ByteArray) (kids : List Int) (opn : Bool) : typB ⟨10, pos, nm, names, kids, opn⟩ = (aliasB (tl nm) && (!opn && (names.isEmpty && decide (kids.length = 0)))) := by
 show (holdsB 0 0 0 0 0 kids.length 0 (aliasB (tl nm)) names.isEmpty true && !opn) = _
 rw [Bool.eq_iff_iff]
 unfold holdsB
 simp only [Bool.and_eq_true, decide_eq_true_eq]
 constructor
 ·rintro ⟨⟨⟨h1, h2, h3, h4, h5⟩, h6, h7, h8⟩, h9⟩
  exact ⟨h6, h9, h7, by omega⟩
 ·rintro ⟨h1, h2, h3, h4⟩
  exact ⟨⟨⟨by omega, by omega, by omega, by omega, by omega⟩, h1, h3, trivial⟩, h2⟩

set_option maxRecDepth 100000 in
set_option maxHeartbeats 8000000 in
theorem rtyp_k10 (pos : Int) (nm : ByteArray) (names : List ByteArray) (kids : List Int) (opn : Bool) (p : Ptr2) (w : World) (hs : nm.size ≤ 1000) :
 Calls Tryz.prog 52 #[.agg (typCells ⟨10, pos, nm, names, kids, opn⟩ p).toArray] w fun e w' => e = .returned (.bool (typB ⟨10, pos, nm, names, kids, opn⟩)) ∧ Below w.heap.size w w' := by
 rw [yb10]
 have kN := fun W => ralias_any nm hs W
 have hB := (Below.refl w.heap.size w).alloc (Nat.le_refl _) (.cells (typCells ⟨10, pos, nm, names, kids, opn⟩ p).toArray 51)
 have hX := Blk.new w 51 (typCells ⟨10, pos, nm, names, kids, opn⟩ p).toArray
 obtain ⟨l3, hl3⟩ : ∃ l, names.length = l := ⟨_, rfl⟩
 obtain ⟨l4, hl4⟩ : ∃ l, kids.length = l := ⟨_, rfl⟩
 unfold typCells at hB hX ⊢
 dsimp only at hB hX ⊢
 have h5 : names.isEmpty = ((l3 : Int) == 0) := by rw [← hl3]; cases names <;> simp; omega
 rw [hl3, hl4] at hB hX
 simp only [hl3, hl4, h5]
 clear h5
 obtain ⟨c0, hc0⟩ : ∃ c, aliasB (tl nm) = c := ⟨_, rfl⟩
 rw [hc0] at kN
 rw [hc0]
 obtain ⟨c2, hc2⟩ : ∃ c, ((l3 : Int) == 0) = c := ⟨_, rfl⟩
 rw [hc2]
 obtain ⟨c3, hc3⟩ : ∃ c, ((l4 : Int) == 0) = c := ⟨_, rfl⟩
 have he3 : decide (l4 = 0) = c3 := by rw [← hc3, Bool.eq_iff_iff]; simp; try omega
 rw [he3]
 obtain ⟨r, hr⟩ : ∃ r, (c0 && (!opn && (c2 && c3))) = r := ⟨_, rfl⟩
 rw [hr]
 obtain ⟨W1, hW1⟩ : ∃ W1, w.alloc (.cells #[.int .i64 10, .int .i64 pos, .string nm, .slice p.a3 l3 p.c3, .slice p.a4 l4 p.c4, .bool opn] 51) = W1 := ⟨_, rfl⟩
 rw [hW1] at hB hX
 have HB := Lib.hid hB
 have HX := Lib.hid hX
 have hzX := hX.lt
 have x0 := (hX.cell 0).trans rfl
 have x2 := (hX.cell 2).trans rfl
 have x3 := (hX.cell 3).trans rfl
 have x4 := (hX.cell 4).trans rfl
 have x5 := (hX.cell 5).trans rfl
 clear hB hX
 clear he3 hc0 hs hl3 hl4
 cases c0
 ·skip
  obtain rfl : r = false := by rw [← hr]; simp
  clear hr
  go_enter Tryz.func52, Tryz.ntmps52
  try dsimp only [List.append]
  go_wp2_with (go_at_call 53; refine (kN _).mono ?_; rintro e w2 ⟨rfl, rfl⟩)
  all_goals
   go_ret
   exact ⟨rfl, HB.out⟩
 ·cases opn
  case true =>
   obtain rfl : r = false := by rw [← hr]; simp
   clear hr
   go_enter Tryz.func52, Tryz.ntmps52
   try dsimp only [List.append]
   go_wp2_with (go_at_call 53; refine (kN _).mono ?_; rintro e w2 ⟨rfl, rfl⟩)
   all_goals
    go_ret
    exact ⟨rfl, HB.out⟩
  case false =>
   cases c2
   ·skip
    obtain rfl : r = false := by rw [← hr]; simp
    clear hr
    go_enter Tryz.func52, Tryz.ntmps52
    try dsimp only [List.append]
    go_wp2_with (go_at_call 53; refine (kN _).mono ?_; rintro e w2 ⟨rfl, rfl⟩)
    all_goals
     go_ret
     exact ⟨rfl, HB.out⟩
   ·cases c3
    ·skip
     obtain rfl : r = false := by rw [← hr]; simp
     clear hr
     go_enter Tryz.func52, Tryz.ntmps52
     try dsimp only [List.append]
     go_wp2_with (go_at_call 53; refine (kN _).mono ?_; rintro e w2 ⟨rfl, rfl⟩)
     all_goals
      go_ret
      exact ⟨rfl, HB.out⟩
    ·skip
     obtain rfl : r = true := by rw [← hr]; simp
     clear hr
     go_enter Tryz.func52, Tryz.ntmps52
     try dsimp only [List.append]
     go_wp2_with (go_at_call 53; refine (kN _).mono ?_; rintro e w2 ⟨rfl, rfl⟩)
     all_goals
      go_ret
      exact ⟨rfl, HB.out⟩

/-- All tags. -/
def tagsB (ss : List ByteArray) : Bool := decide (∀ s ∈ ss, tagB (tl s) = true)
theorem yb9 (pos : Int) (nm : ByteArray) (names : List ByteArray) (kids : List Int) (opn : Bool) : typB ⟨9, pos, nm, names, kids, opn⟩ = (tagsB names && (nm.toList.isEmpty && (decide names.Nodup && decide (kids.length = names.length)))) := by
 show holdsB 0 (names.length : Int) 0 0 0 kids.length 0 (nm.toList.isEmpty) (onceB tagB names) true = _
 rw [Bool.eq_iff_iff]
 unfold holdsB onceB tagsB
 simp only [Bool.and_eq_true, decide_eq_true_eq]
 constructor
 ·rintro ⟨⟨h1, h2, h3, h4, h5⟩, h6, h7, h8⟩
  exact ⟨h7.1, h6, h7.2, by omega⟩
 ·rintro ⟨h1, h2, h3, h4⟩
  exact ⟨⟨by omega, by omega, by omega, by omega, by omega⟩, h2, ⟨h1, h3⟩, trivial⟩

set_option maxRecDepth 100000 in
set_option maxHeartbeats 8000000 in
theorem rtyp_k9 (pos : Int) (nm : ByteArray) (names : List ByteArray) (kids : List Int) (opn : Bool) (p : Ptr2) (w : World) (hS : SlAt (Lt w.heap.size) w p.a3 names.length (names.map .string)) (hn : names.length ≤ 1000) (hsz : ∀ s ∈ names, s.size ≤ 1000) :
 Calls Tryz.prog 52 #[.agg (typCells ⟨9, pos, nm, names, kids, opn⟩ p).toArray] w fun e w' => e = .returned (.bool (typB ⟨9, pos, nm, names, kids, opn⟩)) ∧ Below w.heap.size w w' := by
 rw [yb9]
 obtain ⟨A3, C3, A4, C4⟩ := p
 dsimp only at hS
 have kO := fun W (hW : Below w.heap.size w W) => ronce_any A3 C3 names W (RdAt.of_sl (hS.keep (keep_below hW))) hn
 have hB := (Below.refl w.heap.size w).alloc (Nat.le_refl _) (.cells (typCells ⟨9, pos, nm, names, kids, opn⟩ ⟨A3, C3, A4, C4⟩).toArray 51)
 have hX := Blk.new w 51 (typCells ⟨9, pos, nm, names, kids, opn⟩ ⟨A3, C3, A4, C4⟩).toArray
 obtain ⟨l3, hl3⟩ : ∃ l, names.length = l := ⟨_, rfl⟩
 obtain ⟨l4, hl4⟩ : ∃ l, kids.length = l := ⟨_, rfl⟩
 unfold typCells at hB hX ⊢
 dsimp only at hB hX ⊢
 rw [hl3, hl4] at hB hX
 simp only [hl3, hl4]
 obtain ⟨c0, hc0⟩ : ∃ c, (nm.toList == []) = c := ⟨_, rfl⟩
 have hd0 : (nm.toList != []) = !c0 := by rw [bne, hc0]
 have he0 : nm.toList.isEmpty = c0 := by rw [← hc0]; cases nm.toList <;> rfl
 rw [he0]
 clear he0
 rw [hl3] at kO
 obtain ⟨c3, hc3⟩ : ∃ c, decide names.Nodup = c := ⟨_, rfl⟩
 rw [hc3] at kO
 rw [hc3]
 obtain ⟨c4, hc4⟩ : ∃ c, ((l4 : Int) == (l3 : Int)) = c := ⟨_, rfl⟩
 have he4 : decide (l4 = l3) = c4 := by rw [← hc4, Bool.eq_iff_iff]; simp; try omega
 rw [he4]
 obtain ⟨r, hr⟩ : ∃ r, (tagsB names && (c0 && (c3 && c4))) = r := ⟨_, rfl⟩
 rw [hr]
 have HSZ := Lib.hid hsz
 obtain ⟨W1, hW1⟩ : ∃ W1, w.alloc (.cells #[.int .i64 9, .int .i64 pos, .string nm, .slice A3 l3 C3, .slice A4 l4 C4, .bool opn] 51) = W1 := ⟨_, rfl⟩
 rw [hW1] at hB hX
 have HB := Lib.hid hB
 have HX := Lib.hid hX
 have hzX := hX.lt
 have x0 := (hX.cell 0).trans rfl
 have x2 := (hX.cell 2).trans rfl
 have x3 := (hX.cell 3).trans rfl
 have x4 := (hX.cell 4).trans rfl
 have x5 := (hX.cell 5).trans rfl
 clear hB hX
 have hRd := RdAt.of_sl (hS.keep (keep_below HB.out))
 have HR := Lib.hid hr
 have KO := Lib.hid kO
 have HL := Lib.hid hl3
 clear he4 hl4 hc3 hS hsz kO hr
 rw [hl3] at hn
 clear hl3
 go_enter Tryz.func52, Tryz.ntmps52
 try dsimp only [List.append]
 go_wp2
 go_loop [4, 91] (fun _ i => ∃ k : Nat, k ≤ l3 ∧ i = .int .i64 k ∧ Hid (∀ s ∈ names.take k, tagB (tl s) = true)) (fun _ i => l3 - (intOf i).toNat)
 case atStart => exact ⟨0, Nat.zero_le _, rfl, Lib.hid (by simp)⟩
 case round =>
  obtain ⟨k, hk, rfl, HT⟩ := hrel
  by_cases hlt : k < l3
  ·have hltn : k < names.length := by rw [HL.out]; exact hlt
   obtain ⟨b, off, rfl, e1⟩ := rrds_at hRd hltn
   have htk : names.take (k + 1) = names.take k ++ [names[k]] := List.take_succ_eq_append_getElem hltn
   have kN := rtag_any names[k] (HSZ.out _ (List.getElem_mem hltn)) W1
   have hbad : nmB (tl names[k]) = false → r = false := fun h => by
    rw [← HR.out]
    have : tagsB names = false := by
     unfold tagsB
     rw [decide_eq_false_iff_not]
     intro ha
     rw [← tag_nm, ha _ (List.getElem_mem hltn)] at h
     cases h
    rw [this, Bool.false_and]
   obtain ⟨s, hs⟩ : ∃ s, names[k] = s := ⟨_, rfl⟩
   rw [hs] at e1 htk kN hbad
   obtain ⟨B, hB⟩ : ∃ B, nmB (tl s) = B := ⟨_, rfl⟩
   rw [hB] at kN hbad
   have HTK := Lib.hid htk
   have HBD := Lib.hid hbad
   have HBB := Lib.hid hB
   clear hs htk hbad hB hRd hltn
   cases B
   ·have HF := Lib.hid (HBD.out rfl)
    go_wp2_with (go_at_call 85; refine kN.mono ?_; rintro e w' ⟨rfl, rfl⟩)
    go_ret
    exact ⟨ret_bool HF.out.symm, HB.out⟩
   ·go_wp2_with (go_at_call 85; refine kN.mono ?_; rintro e w' ⟨rfl, rfl⟩)
    go_round
    case rel => exact ⟨k + 1, by omega, by go_num, Lib.hid fun y hy => by
     rw [HTK.out] at hy
     rcases List.mem_append.1 hy with hy | hy
     ·exact HT.out y hy
     ·simp only [List.mem_singleton] at hy; subst hy; rw [tag_nm]; exact HBB.out⟩
    case measure => simp [intOf]; omega
  ·obtain rfl : k = l3 := by omega
   have hall : tagsB names = true := by
    unfold tagsB
    rw [decide_eq_true_eq]
    exact fun s hs => HT.out s (by rw [← HL.out, List.take_length]; exact hs)
   have hr : (c0 && (c3 && c4)) = r := by rw [← HR.out, hall, Bool.true_and]
   clear hall HT HR hRd
   cases c0
   ·skip
    obtain rfl : r = false := by rw [← hr]; simp
    clear hr
    go_wp2
    all_goals
     go_ret
     exact ⟨rfl, HB.out⟩
   ·cases c3
    ·skip
     obtain rfl : r = false := by rw [← hr]; simp
     clear hr
     have kO := KO.out W1 HB.out
     go_wp2_with fail
     refine kO.mono ?_
     rintro e w2 ⟨rfl, hb2⟩
     have HB2 := Lib.hid (HB.out.trans (hb2.mono HB.out.size))
     have hX2 := HX.out.below hb2 hzX
     clear x0 x2 x3 x4 x5 hb2 kO hW1
     have x0 := (hX2.cell 0).trans rfl
     have x2 := (hX2.cell 2).trans rfl
     have x3 := (hX2.cell 3).trans rfl
     have x4 := (hX2.cell 4).trans rfl
     have x5 := (hX2.cell 5).trans rfl
     clear hX2
     go_wp2
     all_goals
      go_ret
      exact ⟨rfl, HB2.out⟩
    ·cases c4
     ·skip
      obtain rfl : r = false := by rw [← hr]; simp
      clear hr
      have kO := KO.out W1 HB.out
      go_wp2_with fail
      refine kO.mono ?_
      rintro e w2 ⟨rfl, hb2⟩
      have HB2 := Lib.hid (HB.out.trans (hb2.mono HB.out.size))
      have hX2 := HX.out.below hb2 hzX
      clear x0 x2 x3 x4 x5 hb2 kO hW1
      have x0 := (hX2.cell 0).trans rfl
      have x2 := (hX2.cell 2).trans rfl
      have x3 := (hX2.cell 3).trans rfl
      have x4 := (hX2.cell 4).trans rfl
      have x5 := (hX2.cell 5).trans rfl
      clear hX2
      go_wp2
      all_goals
       go_ret
       exact ⟨rfl, HB2.out⟩
     ·skip
      obtain rfl : r = true := by rw [← hr]; simp
      clear hr
      have kO := KO.out W1 HB.out
      go_wp2_with fail
      refine kO.mono ?_
      rintro e w2 ⟨rfl, hb2⟩
      have HB2 := Lib.hid (HB.out.trans (hb2.mono HB.out.size))
      have hX2 := HX.out.below hb2 hzX
      clear x0 x2 x3 x4 x5 hb2 kO hW1
      have x0 := (hX2.cell 0).trans rfl
      have x2 := (hX2.cell 2).trans rfl
      have x3 := (hX2.cell 3).trans rfl
      have x4 := (hX2.cell 4).trans rfl
      have x5 := (hX2.cell 5).trans rfl
      clear hX2
      go_wp2
      all_goals
       go_ret
       exact ⟨rfl, HB2.out⟩

set_option maxRecDepth 100000 in
set_option maxHeartbeats 8000000 in
theorem rtyp_no (kd pos : Int) (nm : ByteArray) (names : List ByteArray) (kids : List Int) (opn : Bool) (p : Ptr2) (w : World) (hk : ¬ (0 ≤ kd ∧ kd ≤ 10)) :
 Calls Tryz.prog 52 #[.agg (typCells ⟨kd, pos, nm, names, kids, opn⟩ p).toArray] w fun e w' => e = .returned (.bool (typB ⟨kd, pos, nm, names, kids, opn⟩)) ∧ Below w.heap.size w w' := by
 have hF : typB ⟨kd, pos, nm, names, kids, opn⟩ = false := by
  unfold typB
  dsimp only
  rw [if_neg (by omega), if_neg (by omega), if_neg (by omega), if_neg (by omega), if_neg (by omega)]
 rw [hF]
 have hB := (Below.refl w.heap.size w).alloc (Nat.le_refl _) (.cells (typCells ⟨kd, pos, nm, names, kids, opn⟩ p).toArray 51)
 have HB := Lib.hid hB
 have d0 : (kd == 0) = false := by rw [beq_eq_false_iff_ne]; omega
 have d1 : (kd == 1) = false := by rw [beq_eq_false_iff_ne]; omega
 have d2 : (kd == 2) = false := by rw [beq_eq_false_iff_ne]; omega
 have d3 : (kd == 3) = false := by rw [beq_eq_false_iff_ne]; omega
 have d4 : (kd == 4) = false := by rw [beq_eq_false_iff_ne]; omega
 have d5 : (kd == 5) = false := by rw [beq_eq_false_iff_ne]; omega
 have d6 : (kd == 6) = false := by rw [beq_eq_false_iff_ne]; omega
 have d7 : (kd == 7) = false := by rw [beq_eq_false_iff_ne]; omega
 have d8 : (kd == 8) = false := by rw [beq_eq_false_iff_ne]; omega
 have d9 : (kd == 9) = false := by rw [beq_eq_false_iff_ne]; omega
 have d10 : (kd == 10) = false := by rw [beq_eq_false_iff_ne]; omega
 clear hB hF hk
 unfold typCells at HB ⊢
 go_enter Tryz.func52, Tryz.ntmps52
 try dsimp only [List.append]
 go_wp2
 go_ret
 exact ⟨rfl, HB.out⟩

theorem rtyp_any (t : TypD) (p : Ptr2) (w : World) (hF : TypFew t) (hP : TypOk (Lt w.heap.size) w t p) :
 Calls Tryz.prog 52 #[.agg (typCells t p).toArray] w fun e w' => e = .returned (.bool (typB t)) ∧ Below w.heap.size w w' := by
 obtain ⟨kd, pos, nm, names, kids, opn⟩ := t
 by_cases hk : 0 ≤ kd ∧ kd ≤ 10
 ·have : kd = 0 ∨ kd = 1 ∨ kd = 2 ∨ kd = 3 ∨ kd = 4 ∨ kd = 5 ∨ kd = 6 ∨ kd = 7 ∨ kd = 8 ∨ kd = 9 ∨ kd = 10 := by omega
  rcases this with rfl | rfl | rfl | rfl | rfl | rfl | rfl | rfl | rfl | rfl | rfl
  ·exact rtyp_k0 pos nm names kids opn p w
  ·exact rtyp_k1 pos nm names kids opn p w
  ·exact rtyp_k2 pos nm names kids opn p w
  ·exact rtyp_k3 pos nm names kids opn p w
  ·exact rtyp_k4 pos nm names kids opn p w
  ·exact rtyp_k5 pos nm names kids opn p w
  ·exact rtyp_k6 pos nm names kids opn p w
  ·exact rtyp_k7 pos nm names kids opn p w
  ·exact rtyp_k8 pos nm names kids opn p w hP.1 hF.2.1 hF.2.2.1
  ·exact rtyp_k9 pos nm names kids opn p w hP.1 hF.2.1 hF.2.2.1
  ·exact rtyp_k10 pos nm names kids opn p w hF.1
 ·exact rtyp_no kd pos nm names kids opn p w hk
end Go.Proofs.YtjbdgjbmbohfmaaGreatDoor
