/- The document's answer for a term of a kind with a list of names, and for any term: of a bounded size. -/
import Derived.Test.YtjbdgjbmbohfmaaGreatDoorK45
import Derived.Test.YtjbdgjbmbohfmaaGreatDoorK46
import Derived.Test.YtjbdgjbmbohfmaaGreatDoorK47
namespace Go.Proofs.YtjbdgjbmbohfmaaGreatDoor
open Go Go.Proofs Go.RowKit
theorem tb12 (pos n : Int) (nm : ByteArray) (bits : Nat) (names : List ByteArray) (kids types : List Int) : termB ⟨12, pos, nm, n, bits, names, kids, types⟩ = (nm.toList.isEmpty && (decide (n = 0) && (decide (bits = 0) && (decide (types.length = 0) && (decide (names.length = kids.length) && (namesB names && decide names.Nodup)))))) := by
 show holdsB 0 (names.length : Int) 0 0 n kids.length types.length (nm.toList.isEmpty) (onceB isName names) (decide (bits = 0)) = _
 rw [Bool.eq_iff_iff]
 unfold holdsB onceB namesB
 simp only [Bool.and_eq_true, decide_eq_true_eq]
 constructor
 ·rintro ⟨⟨h1, h2, h3, h4, h5⟩, h6, h7, h8⟩
  exact ⟨h6, by omega, h8, by omega, by omega, h7.1, h7.2⟩
 ·rintro ⟨h1, h2, h3, h4, h5, h6, h7⟩
  exact ⟨⟨by omega, by omega, by omega, by omega, by omega⟩, h1, ⟨h6, h7⟩, h3⟩

set_option maxRecDepth 100000 in
set_option maxHeartbeats 8000000 in
theorem rterm_k12 (pos n : Int) (nm : ByteArray) (bits : Nat) (names : List ByteArray) (kids types : List Int) (p : Ptr3) (w : World) (hS : SlAt (Lt w.heap.size) w p.a5 names.length (names.map .string)) (hn : names.length ≤ 1000) (hsz : ∀ s ∈ names, s.size ≤ 1000) :
 Calls Tryz.prog 50 #[.agg (termCells ⟨12, pos, nm, n, bits, names, kids, types⟩ p).toArray] w fun e w' => e = .returned (.bool (termB ⟨12, pos, nm, n, bits, names, kids, types⟩)) ∧ Below w.heap.size w w' := by
 rw [tb12]
 have kN := fun W (hW : Below w.heap.size w W) => rnames_any p.a5 p.c5 names W (RdAt.of_sl (hS.keep (keep_below hW))) hn hsz
 have kO := fun W (hW : Below w.heap.size w W) => ronce_any p.a5 p.c5 names W (RdAt.of_sl (hS.keep (keep_below hW))) hn
 have hB := (Below.refl w.heap.size w).alloc (Nat.le_refl _) (.cells (termCells ⟨12, pos, nm, n, bits, names, kids, types⟩ p).toArray 60)
 have hX := Blk.new w 60 (termCells ⟨12, pos, nm, n, bits, names, kids, types⟩ p).toArray
 obtain ⟨l5, hl5⟩ : ∃ l, names.length = l := ⟨_, rfl⟩
 obtain ⟨l6, hl6⟩ : ∃ l, kids.length = l := ⟨_, rfl⟩
 obtain ⟨l7, hl7⟩ : ∃ l, types.length = l := ⟨_, rfl⟩
 unfold termCells at hB hX ⊢
 dsimp only at hB hX ⊢
 rw [hl5, hl6, hl7] at hB hX
 rw [hl5] at kN kO
 rw [hl5, hl6, hl7]
 obtain ⟨c0, hc0⟩ : ∃ c, (nm.toList == []) = c := ⟨_, rfl⟩
 have he0 : nm.toList.isEmpty = c0 := by rw [← hc0]; cases nm.toList <;> rfl
 rw [he0]
 clear he0
 obtain ⟨c1, hc1⟩ : ∃ c, (n == 0) = c := ⟨_, rfl⟩
 have he1 : decide (n = 0) = c1 := by rw [← hc1]; rfl
 rw [he1]
 clear he1
 obtain ⟨c2, hc2⟩ : ∃ c, ((bits : Int) == 0) = c := ⟨_, rfl⟩
 have he2 : decide (bits = 0) = c2 := by rw [← hc2, Bool.eq_iff_iff]; simp
 rw [he2]
 clear he2
 obtain ⟨c3, hc3⟩ : ∃ c, ((l7 : Int) == 0) = c := ⟨_, rfl⟩
 have he3 : decide (l7 = 0) = c3 := by rw [← hc3, Bool.eq_iff_iff]; simp; try omega
 rw [he3]
 clear he3
 obtain ⟨c4, hc4⟩ : ∃ c, ((l5 : Int) == (l6 : Int)) = c := ⟨_, rfl⟩
 have he4 : decide (l5 = l6) = c4 := by rw [← hc4, Bool.eq_iff_iff]; simp; try omega
 rw [he4]
 obtain ⟨c5, hc5⟩ : ∃ c, namesB names = c := ⟨_, rfl⟩
 rw [hc5] at kN
 rw [hc5]
 obtain ⟨c6, hc6⟩ : ∃ c, decide names.Nodup = c := ⟨_, rfl⟩
 rw [hc6] at kO
 rw [hc6]
 obtain ⟨r, hr⟩ : ∃ r, (c0 && (c1 && (c2 && (c3 && (c4 && (c5 && c6)))))) = r := ⟨_, rfl⟩
 rw [hr]
 obtain ⟨W1, hW1⟩ : ∃ W1, w.alloc (.cells #[.int .i64 12, .int .i64 pos, .string nm, .int .i64 n, .int .u64 (bits : Int), .slice p.a5 l5 p.c5, .slice p.a6 l6 p.c6, .slice p.a7 l7 p.c7] 60) = W1 := ⟨_, rfl⟩
 rw [hW1] at hB hX
 have HB := Lib.hid hB
 have HX := Lib.hid hX
 have hzX := hX.lt
 have x0 := (hX.cell 0).trans rfl
 have x2 := (hX.cell 2).trans rfl
 have x3 := (hX.cell 3).trans rfl
 have x4 := (hX.cell 4).trans rfl
 have x5 := (hX.cell 5).trans rfl
 have x6 := (hX.cell 6).trans rfl
 have x7 := (hX.cell 7).trans rfl
 clear hB hX
 have KN := Lib.hid kN
 have KO := Lib.hid kO
 clear he4 hc5 hc6 hS hn hsz kN kO hl5 hl6 hl7
 cases c0
 ·skip
  obtain rfl : r = false := by rw [← hr]; simp
  clear hr
  go_enter Tryz.func50, Tryz.ntmps50
  try dsimp only [List.append]
  go_wp2
  all_goals
   go_ret
   exact ⟨rfl, HB.out⟩
 ·skip
  cases c1
  ·skip
   obtain rfl : r = false := by rw [← hr]; simp
   clear hr
   go_enter Tryz.func50, Tryz.ntmps50
   try dsimp only [List.append]
   go_wp2
   all_goals
    go_ret
    exact ⟨rfl, HB.out⟩
  ·skip
   cases c2
   ·skip
    obtain rfl : r = false := by rw [← hr]; simp
    clear hr
    go_enter Tryz.func50, Tryz.ntmps50
    try dsimp only [List.append]
    go_wp2
    all_goals
     go_ret
     exact ⟨rfl, HB.out⟩
   ·skip
    cases c3
    ·skip
     obtain rfl : r = false := by rw [← hr]; simp
     clear hr
     go_enter Tryz.func50, Tryz.ntmps50
     try dsimp only [List.append]
     go_wp2
     all_goals
      go_ret
      exact ⟨rfl, HB.out⟩
    ·skip
     cases c4
     ·skip
      obtain rfl : r = false := by rw [← hr]; simp
      clear hr
      go_enter Tryz.func50, Tryz.ntmps50
      try dsimp only [List.append]
      go_wp2
      all_goals
       go_ret
       exact ⟨rfl, HB.out⟩
     ·skip
      cases c5
      ·skip
       obtain rfl : r = false := by rw [← hr]; simp
       clear hr
       go_enter Tryz.func50, Tryz.ntmps50
       try dsimp only [List.append]
       have kN := KN.out W1 HB.out
       go_wp2_with (go_at_call 109; refine kN.mono ?_; rintro e w2 ⟨rfl, rfl⟩)
       go_ret
       exact ⟨rfl, HB.out⟩
      ·skip
       cases c6
       ·skip
        obtain rfl : r = false := by rw [← hr]; simp
        clear hr
        go_enter Tryz.func50, Tryz.ntmps50
        try dsimp only [List.append]
        have kN := KN.out W1 HB.out
        go_wp2_with fail
        refine kN.mono ?_
        rintro e w2 ⟨rfl, rfl⟩
        clear kN
        have kO := KO.out W1 HB.out
        go_wp2_with (go_at_call 110; refine kO.mono ?_; rintro e w3 ⟨rfl, hb3⟩)
        go_ret
        exact ⟨rfl, HB.out.trans (hb3.mono HB.out.size)⟩
       ·skip
        obtain rfl : r = true := by rw [← hr]; simp
        clear hr
        go_enter Tryz.func50, Tryz.ntmps50
        try dsimp only [List.append]
        have kN := KN.out W1 HB.out
        go_wp2_with fail
        refine kN.mono ?_
        rintro e w2 ⟨rfl, rfl⟩
        clear kN
        have kO := KO.out W1 HB.out
        go_wp2_with (go_at_call 110; refine kO.mono ?_; rintro e w3 ⟨rfl, hb3⟩)
        go_ret
        exact ⟨rfl, HB.out.trans (hb3.mono HB.out.size)⟩

/-- Those at even places, at odd ones. -/
def evs : List ByteArray → List ByteArray
 | [] => []
 | [a] => [a]
 | a :: _ :: r => a :: evs r
def ods : List ByteArray → List ByteArray
 | [] => []
 | [_] => []
 | _ :: b :: r => b :: ods r
theorem evs_snoc : ∀ (l : List ByteArray) (x : ByteArray), evs (l ++ [x]) = (if l.length % 2 = 0 then evs l ++ [x] else evs l) ∧ ods (l ++ [x]) = (if l.length % 2 = 0 then ods l else ods l ++ [x])
 | [], x => by simp [evs, ods]
 | [a], x => by simp [evs, ods]
 | a :: b :: r, x => by
  have h := evs_snoc r x
  have e : (a :: b :: r).length % 2 = r.length % 2 := by simp only [List.length_cons]; omega
  simp only [List.cons_append, evs, ods, e, h.1, h.2]
  split <;> simp
theorem evs_len : ∀ (l : List ByteArray), (evs l).length = (l.length + 1) / 2
 | [] => rfl
 | [_] => by simp [evs]
 | a :: b :: r => by
  have := evs_len r
  simp only [evs, List.length_cons, this]
  omega
theorem evs_even : ∀ (l : List ByteArray), l.length % 2 = 0 → evs l = evens l ∧ ods l = odds l
 | [], _ => ⟨rfl, rfl⟩
 | [_], h => by simp at h
 | a :: b :: r, h => by
  have := evs_even r (by simp only [List.length_cons] at h; omega)
  simp only [evs, ods, evens, odds, this.1, this.2, and_self]
theorem evs_sub (l : List ByteArray) : ∀ (n : Nat) (m : List ByteArray), m.length = n → (∀ x ∈ evs l, x ∈ evs (l ++ m)) ∧ (∀ x ∈ ods l, x ∈ ods (l ++ m)) := by
 intro n
 induction n with
 | zero => intro m hm; obtain rfl := List.length_eq_zero_iff.1 hm; simp
 | succ n ih =>
  intro m hm
  rcases List.eq_nil_or_concat m with rfl | ⟨m', y, rfl⟩
  ·simp at hm
  ·rw [List.concat_eq_append] at hm ⊢
   have := ih m' (by simpa using hm)
   have hs := evs_snoc (l ++ m') y
   rw [← List.append_assoc, hs.1, hs.2]
   constructor
   ·intro x hx
    have := this.1 x hx
    split <;> simp [this]
   ·intro x hx
    have := this.2 x hx
    split <;> simp [this]
/-- A tag that is none, a name that is none: then the arms may not be. -/
theorem arms_bad {names : List ByteArray} {k : Nat} (hk : k < names.length) (h : if k % 2 = 0 then nmB (tl names[k]) = false else isName (tl names[k]) = false) : armsB names = false := by
 have hsub := evs_sub (names.take (k + 1)) _ (names.drop (k + 1)) rfl
 rw [List.take_append_drop] at hsub
 have htk : names.take (k + 1) = names.take k ++ [names[k]] := List.take_succ_eq_append_getElem hk
 have hs := evs_snoc (names.take k) names[k]
 rw [← htk, List.length_take, Nat.min_eq_left (by omega)] at hs
 unfold armsB
 by_cases he : names.length % 2 = 0
 ·obtain ⟨e1, e2⟩ := evs_even names he
  by_cases hk2 : k % 2 = 0
  ·rw [if_pos hk2] at h hs
   have hm : names[k] ∈ evens names := by rw [← e1]; exact hsub.1 _ (by rw [hs.1]; simp)
   have : onceB tagB (evens names) = false := by
    unfold onceB
    rw [decide_eq_false_iff_not]
    intro hh
    have := hh.1 _ hm
    rw [tag_nm, h] at this
    cases this
   rw [this, Bool.and_false, Bool.and_false]
  ·rw [if_neg hk2] at h
   simp only [if_neg hk2] at hs
   have hm : names[k] ∈ odds names := by rw [← e2]; exact hsub.2 _ (by rw [hs.2]; simp)
   have : decide (∀ s ∈ odds names, isName (tl s) = true) = false := by
    rw [decide_eq_false_iff_not]
    intro hh
    have := hh _ hm
    rw [h] at this
    cases this
   rw [this, Bool.false_and, Bool.and_false]
 ·rw [decide_eq_false he, Bool.false_and]

def ArmsOk (names : List ByteArray) (k : Nat) : Prop := (∀ s ∈ evs (names.take k), tagB (tl s) = true) ∧ (∀ s ∈ ods (names.take k), isName (tl s) = true)
theorem arms_step {names : List ByteArray} {k : Nat} (hk : k < names.length) (hA : ArmsOk names k) (h : if k % 2 = 0 then nmB (tl names[k]) = true else isName (tl names[k]) = true) : ArmsOk names (k + 1) := by
 have htk : names.take (k + 1) = names.take k ++ [names[k]] := List.take_succ_eq_append_getElem hk
 have hs := evs_snoc (names.take k) names[k]
 rw [List.length_take, Nat.min_eq_left (by omega)] at hs
 unfold ArmsOk
 rw [htk, hs.1, hs.2]
 by_cases hk2 : k % 2 = 0
 ·rw [if_pos hk2] at h ⊢
  rw [if_pos hk2]
  refine ⟨fun s hs => ?_, hA.2⟩
  rcases List.mem_append.1 hs with hs | hs
  ·exact hA.1 s hs
  ·simp only [List.mem_singleton] at hs
   subst hs
   rw [tag_nm]
   exact h
 ·rw [if_neg hk2] at h ⊢
  rw [if_neg hk2]
  refine ⟨hA.1, fun s hs => ?_⟩
  rcases List.mem_append.1 hs with hs | hs
  ·exact hA.2 s hs
  ·simp only [List.mem_singleton] at hs
   subst hs
   exact h
theorem tb10_bad (pos n : Int) (nm : ByteArray) (bits : Nat) (names : List ByteArray) (kids types : List Int) (h : armsB names = false) : termB ⟨10, pos, nm, n, bits, names, kids, types⟩ = false := by
 show holdsB 0 (1 + (names.length : Int) / 2) 1 0 n kids.length types.length (nm.toList.isEmpty) (armsB names) (decide (bits = 0)) = _
 unfold holdsB
 rw [h]
 simp
theorem tb10 (pos n : Int) (nm : ByteArray) (bits : Nat) (names : List ByteArray) (kids types : List Int) (hA : ArmsOk names names.length) : termB ⟨10, pos, nm, n, bits, names, kids, types⟩ = (nm.toList.isEmpty && (decide (n = 0) && (decide (bits = 0) && (decide (types.length = 0) && (decide (names.length % 2 = 0) && ((decide ((kids.length : Int) - (evs names).length = 1) || decide ((kids.length : Int) - (evs names).length = 2)) && decide (evs names).Nodup)))))) := by
 show holdsB 0 (1 + (names.length : Int) / 2) 1 0 n kids.length types.length (nm.toList.isEmpty) (armsB names) (decide (bits = 0)) = _
 have hl := evs_len names
 obtain ⟨hA1, hA2⟩ := hA
 rw [List.take_length] at hA1 hA2
 rw [Bool.eq_iff_iff]
 unfold holdsB armsB
 simp only [Bool.and_eq_true, Bool.or_eq_true, decide_eq_true_eq]
 constructor
 ·rintro ⟨⟨h1, h2, h3, h4, h5⟩, h6, ⟨h7, h8, h9⟩, h10⟩
  obtain ⟨e1, _⟩ := evs_even names h7
  unfold onceB at h9
  rw [decide_eq_true_eq] at h9
  exact ⟨h6, by omega, h10, by omega, h7, by omega, by rw [e1]; exact h9.2⟩
 ·rintro ⟨h1, h2, h3, h4, h5, h6, h7⟩
  obtain ⟨e1, e2⟩ := evs_even names h5
  refine ⟨⟨by omega, by omega, by omega, by omega, by omega⟩, h1, ⟨h5, by rw [← e2]; exact hA2, ?_⟩, h3⟩
  unfold onceB
  rw [decide_eq_true_eq, ← e1]
  exact ⟨hA1, h7⟩

set_option maxRecDepth 100000 in
set_option maxHeartbeats 8000000 in
theorem rterm_k10 (pos n : Int) (nm : ByteArray) (bits : Nat) (names : List ByteArray) (kids types : List Int) (p : Ptr3) (w : World) (hS : SlAt (Lt w.heap.size) w p.a5 names.length (names.map .string)) (hn : names.length ≤ 1000) (hk1 : kids.length ≤ 1000) (hsz : ∀ s ∈ names, s.size ≤ 1000) :
 Calls Tryz.prog 50 #[.agg (termCells ⟨10, pos, nm, n, bits, names, kids, types⟩ p).toArray] w fun e w' => e = .returned (.bool (termB ⟨10, pos, nm, n, bits, names, kids, types⟩)) ∧ Below w.heap.size w w' := by
 obtain ⟨i0, hi, hz0, hz1, hz2⟩ := info_parts info9
 obtain ⟨A5, C5, A6, C6, A7, C7⟩ := p
 dsimp only at hS
 have hbadR := fun k (hk : k < names.length) h => tb10_bad pos n nm bits names kids types (arms_bad (k := k) hk h)
 have hgoodR := tb10 pos n nm bits names kids types
 obtain ⟨r, hr⟩ : ∃ r, termB ⟨10, pos, nm, n, bits, names, kids, types⟩ = r := ⟨_, rfl⟩
 rw [hr] at hbadR hgoodR
 rw [hr]
 have HBAD := Lib.hid hbadR
 have HGOOD := Lib.hid hgoodR
 clear hr hbadR hgoodR
 have hB := (Below.refl w.heap.size w).alloc (Nat.le_refl _) (.cells (termCells ⟨10, pos, nm, n, bits, names, kids, types⟩ ⟨A5, C5, A6, C6, A7, C7⟩).toArray 60)
 have hX := Blk.new w 60 (termCells ⟨10, pos, nm, n, bits, names, kids, types⟩ ⟨A5, C5, A6, C6, A7, C7⟩).toArray
 obtain ⟨l5, hl5⟩ : ∃ l, names.length = l := ⟨_, rfl⟩
 obtain ⟨l6, hl6⟩ : ∃ l, kids.length = l := ⟨_, rfl⟩
 obtain ⟨l7, hl7⟩ : ∃ l, types.length = l := ⟨_, rfl⟩
 unfold termCells at hB hX ⊢
 dsimp only at hB hX ⊢
 rw [hl5, hl6, hl7] at hB hX
 rw [hl5, hl6, hl7]
 have HSZ := Lib.hid hsz
 obtain ⟨W1, hW1⟩ : ∃ W1, w.alloc (.cells #[.int .i64 10, .int .i64 pos, .string nm, .int .i64 n, .int .u64 (bits : Int), .slice A5 l5 C5, .slice A6 l6 C6, .slice A7 l7 C7] 60) = W1 := ⟨_, rfl⟩
 rw [hW1] at hB hX
 have HB := Lib.hid hB
 have HX := Lib.hid hX
 have hzX := hX.lt
 have x0 := (hX.cell 0).trans rfl
 have x2 := (hX.cell 2).trans rfl
 have x3 := (hX.cell 3).trans rfl
 have x4 := (hX.cell 4).trans rfl
 have x5 := (hX.cell 5).trans rfl
 have x6 := (hX.cell 6).trans rfl
 have x7 := (hX.cell 7).trans rfl
 clear hB hX
 have HRd := Lib.hid hS
 have HL := Lib.hid hl5
 have HL6 := Lib.hid hl6
 have HL7 := Lib.hid hl7
 have hn5 : l5 ≤ 1000 := by omega
 have hk6 : l6 ≤ 1000 := by omega
 clear hS hsz hl5 hl6 hl7 hn hk1
 go_enter Tryz.func50, Tryz.ntmps50
 try dsimp only [List.append]
 go_wp2
 clear hW1
 obtain ⟨W2, hW2⟩ : ∃ W2, W1.alloc (.cells #[] 9) = W2 := ⟨_, rfl⟩
 have hO2 : W2.ownsRow W1.heap.size 9 1 (.slice (some ⟨W1.heap.size, 0, none⟩) 0 0) 0 [] := by
  rw [← hW2]
  exact World.ownsRow_made W1 #[] 0 (Nat.le_refl _) (Nat.zero_le _) (by simp)
 have hB2 : Below W1.heap.size W1 W2 := by rw [← hW2]; exact (Below.refl _ _).alloc (Nat.le_refl _) _
 have HO2 := Lib.hid hO2
 have HB2 := Lib.hid hB2
 rw [hW2]
 clear hO2 hB2 hW2 x0 x2 x3 x4 x5 x6 x7
 go_loopw [13, 14, 134] (fun v _ i wr => ∃ k : Nat, k ≤ l5 ∧ i = .int .i64 k ∧ Hid (wr.ownsRow W1.heap.size 9 1 v (evs (names.take k)).length ((evs (names.take k)).map .string)) ∧ Hid (ArmsOk names k) ∧ Below W1.heap.size W1 wr) (fun _ _ i _ => l5 - (intOf i).toNat)
 case atStart => exact ⟨0, Nat.zero_le _, rfl, Lib.hid (by simpa [evs] using HO2.out), Lib.hid ⟨by simp [evs], by simp [ods]⟩, HB2.out⟩
 case round =>
  obtain ⟨k, hk, rfl, HO, HA, hBr⟩ := hrel
  have hzr := hBr.size
  have hBw := HB.out.trans (hBr.mono HB.out.size)
  have hXr := HX.out.below hBr hzX
  have x0 := (hXr.cell 0).trans rfl
  have x2 := (hXr.cell 2).trans rfl
  have x3 := (hXr.cell 3).trans rfl
  have x4 := (hXr.cell 4).trans rfl
  have x5 := (hXr.cell 5).trans rfl
  have x6 := (hXr.cell 6).trans rfl
  have x7 := (hXr.cell 7).trans rfl
  clear hXr
  by_cases hlt : k < l5
  ·have hltn : k < names.length := by rw [HL.out]; exact hlt
   obtain ⟨b, off, rfl, e1⟩ := rrds_at (RdAt.of_sl (HRd.out.keep (keep_below hBw))) hltn
   have hbad := HBAD.out k hltn
   have hgood := arms_step hltn HA.out
   have htk : names.take (k + 1) = names.take k ++ [names[k]] := List.take_succ_eq_append_getElem hltn
   have hs := evs_snoc (names.take k) names[k]
   rw [← htk, List.length_take, Nat.min_eq_left (by omega)] at hs
   have hel := evs_len (names.take k)
   rw [List.length_take, Nat.min_eq_left (by omega)] at hel
   have hssz := HSZ.out _ (List.getElem_mem hltn)
   obtain ⟨s, hss⟩ : ∃ s, names[k] = s := ⟨_, rfl⟩
   rw [hss] at e1 hbad hgood hs hssz
   obtain ⟨EV, hEV⟩ : ∃ EV, evs (names.take k) = EV := ⟨_, rfl⟩
   rw [hEV] at HO hs hel
   obtain ⟨A13, d13, hv13⟩ := own_form HO.out
   subst hv13
   have HBD := Lib.hid hbad
   have HGD := Lib.hid hgood
   have HS1 := Lib.hid hs.1
   have hevb : EV.length ≤ 1000 := by omega
   clear hss htk hbad hgood hs hEV hltn hel
   have i1 : (0 : Int) ≤ (k : Int) := by omega
   have i2 : (k : Int) < (l5 : Int) := by omega
   by_cases hk2 : k % 2 = 0
   ·have d1 : ((k : Int) % 2 == 0) = true := by simp; omega
    have d2 : (Int.tmod (k : Int) 2 == 0) = true := by rw [beq_iff_eq, Int.tmod_eq_emod_of_nonneg (by omega)]; omega
    have kT := fun W => rtag_any s hssz W
    obtain ⟨B, hB⟩ : ∃ B, nmB (tl s) = B := ⟨_, rfl⟩
    rw [hB] at kT
    have HBB := Lib.hid hB
    have HS2 : Hid (evs (names.take (k + 1)) = EV ++ [s]) := Lib.hid (by rw [HS1.out, if_pos hk2])
    have HK2 := Lib.hid hk2
    have HRD := Lib.hid (rd_one wr (.string s) 9)
    have hbl : b < W1.heap.size := by
     obtain ⟨b', off', hA', hb', _⟩ := HRd.out.2 (by rw [HL.out]; omega)
     cases hA'
     have := HB.out.size
     omega
    have HCL : Hid (∀ V, Below W1.heap.size W1 V → V.cell? ⟨w.heap.size, 5, none⟩ = some (.slice (some ⟨b, off, none⟩) l5 C5) ∧ V.cell? ⟨b, off + k, none⟩ = some (.string s)) := Lib.hid fun V hV => ⟨((HX.out.below hV hzX).cell 5).trans rfl, ((hV.cell (p := ⟨b, _, none⟩) hbl).trans (hBr.cell (p := ⟨b, _, none⟩) hbl).symm).trans e1⟩
    clear hB hk2 hbl
    go_wp2_with (at_builtin; refine wpList_app _ rfl _ _ 48 rfl W1.heap.size 9 i0 (.string ByteArray.empty) 1 16 Tryz.underlying48 hi hz0 hz1 hz2 rfl (by decide) (.slice A13 EV.length d13) EV.length (EV.map .string) rfl (HO.out.alloc _) (some ⟨wr.heap.size, 0, none⟩) 1 1 [.string s] rfl rfl HRD.out (by simp [Value.oneCell']) (by unfold maxLen; omega) (by omega) (by simp; omega) ?_; intro v' w2 hown2 hgrow2 hloc2; have hB2 := own_grown (hBr.alloc hzr (.cells #[.string s] 9)) (HO.out.alloc (.cells #[.string s] 9)) hgrow2 (Nat.le_refl _) (by simp; omega); have y5 := (HCL.out w2 hB2).1; have ye := (HCL.out w2 hB2).2; have HO2' : Hid (w2.ownsRow W1.heap.size 9 1 v' (evs (names.take (k + 1))).length ((evs (names.take (k + 1))).map .string)) := Lib.hid (by rw [HS2.out, List.length_append, List.map_append]; exact hown2); clear hgrow2 hloc2 hown2)
    cases B
    ·have HF := Lib.hid (HBD.out (by rw [if_pos HK2.out]; exact HBB.out))
     go_wp2_with (go_at_call 85; refine (kT _).mono ?_; rintro e w' ⟨rfl, rfl⟩)
     go_ret
     exact ⟨ret_bool HF.out.symm, HB.out.trans (hB2.mono HB.out.size)⟩
    ·have HG := Lib.hid (HGD.out (by rw [if_pos HK2.out]; exact HBB.out))
     go_wp2_with (go_at_call 85; refine (kT _).mono ?_; rintro e w' ⟨rfl, rfl⟩)
     go_roundw
     case rel => exact ⟨k + 1, by omega, by go_num, HO2', HG, hB2⟩
     case measure => simp [intOf]; omega
   ·have d1 : ((k : Int) % 2 == 0) = false := by rw [beq_eq_false_iff_ne]; omega
    have d2 : (Int.tmod (k : Int) 2 == 0) = false := by rw [beq_eq_false_iff_ne, Int.tmod_eq_emod_of_nonneg (by omega)]; omega
    have kT := fun W => rname_any s hssz W
    obtain ⟨B, hB⟩ : ∃ B, isName (tl s) = B := ⟨_, rfl⟩
    rw [hB] at kT
    have HBB := Lib.hid hB
    have HS2 : Hid (evs (names.take (k + 1)) = EV) := Lib.hid (by rw [HS1.out, if_neg hk2])
    have HO2' : Hid (wr.ownsRow W1.heap.size 9 1 (.slice A13 EV.length d13) (evs (names.take (k + 1))).length ((evs (names.take (k + 1))).map .string)) := Lib.hid (by rw [HS2.out]; exact HO.out)
    have HK2 := Lib.hid hk2
    clear hB hk2
    cases B
    ·have HF := Lib.hid (HBD.out (by rw [if_neg HK2.out]; exact HBB.out))
     go_wp2_with (go_at_call 42; refine (kT _).mono ?_; rintro e w' ⟨rfl, rfl⟩)
     go_ret
     exact ⟨ret_bool HF.out.symm, hBw⟩
    ·have HG := Lib.hid (HGD.out (by rw [if_neg HK2.out]; exact HBB.out))
     go_wp2_with (go_at_call 42; refine (kT _).mono ?_; rintro e w' ⟨rfl, rfl⟩)
     go_roundw
     case rel => exact ⟨k + 1, by omega, by go_num, HO2', HG, hBr⟩
     case measure => simp [intOf]; omega
  ·obtain rfl : k = l5 := by omega
   have hAf : ArmsOk names names.length := by rw [HL.out]; exact HA.out
   have hr := HGOOD.out hAf
   have hel := evs_len names
   rw [HL.out] at hel hr
   rw [HL6.out, HL7.out] at hr
   have hO := HO.out
   rw [← HL.out, List.take_length] at hO
   obtain ⟨A13, d13, hv13, _, hS13⟩ := SlAt.of_own hO
   subst hv13
   obtain ⟨EV, hEV⟩ : ∃ EV, evs names = EV := ⟨_, rfl⟩
   rw [hEV] at hr hel hS13
   have kO := fun W (hW : Below wr.heap.size wr W) => ronce_any A13 d13 EV W (RdAt.of_sl (hS13.keep (fun b o hb => hW.cell (p := ⟨b, o, none⟩) hb.2))) (by omega)
   rw [hEV]
   clear hO HO HA hAf hEV hS13 hlt
   obtain ⟨m, hm⟩ : ∃ m, EV.length = m := ⟨_, rfl⟩
   rw [hm] at hr hel kO
   rw [hm]
   have hmb : m ≤ 1000 := by omega
   clear hel hm
   obtain ⟨c0, hc0⟩ : ∃ c, (nm.toList == []) = c := ⟨_, rfl⟩
   have he0 : nm.toList.isEmpty = c0 := by rw [← hc0]; cases nm.toList <;> rfl
   rw [he0] at hr
   clear he0
   obtain ⟨c1, hc1⟩ : ∃ c, (n == 0) = c := ⟨_, rfl⟩
   have he1 : decide (n = 0) = c1 := by rw [← hc1]; rfl
   rw [he1] at hr
   clear he1
   obtain ⟨c2, hc2⟩ : ∃ c, ((bits : Int) == 0) = c := ⟨_, rfl⟩
   have he2 : decide (bits = 0) = c2 := by rw [← hc2, Bool.eq_iff_iff]; simp
   rw [he2] at hr
   clear he2
   obtain ⟨c3, hc3⟩ : ∃ c, ((l7 : Int) == 0) = c := ⟨_, rfl⟩
   have he3 : decide (l7 = 0) = c3 := by rw [← hc3, Bool.eq_iff_iff]; simp; try omega
   rw [he3] at hr
   clear he3
   obtain ⟨c4, hc4⟩ : ∃ c, decide (k % 2 = 0) = c := ⟨_, rfl⟩
   have g4 : ((k : Int) % 2 == 0) = c4 := by rw [← hc4, Bool.eq_iff_iff]; simp; omega
   have g5 : (Int.tmod (k : Int) 2 == 0) = c4 := by rw [← hc4, Bool.eq_iff_iff, beq_iff_eq, Int.tmod_eq_emod_of_nonneg (by omega), decide_eq_true_eq]; omega
   rw [hc4] at hr
   obtain ⟨x15, hx15⟩ : ∃ x : Int, (l6 : Int) - (m : Int) = x := ⟨_, rfl⟩
   have hsub : IntKind.i64.wrap ((l6 : Int) - (m : Int)) = x15 := by rw [IntWalk.i64_in _ (by omega)]; exact hx15
   rw [hx15] at hr
   obtain ⟨c5, hc5⟩ : ∃ c, (x15 == 1) = c := ⟨_, rfl⟩
   obtain ⟨c6, hc6⟩ : ∃ c, (x15 == 2) = c := ⟨_, rfl⟩
   have g6 : decide (x15 = 1) = c5 := by rw [← hc5]; rfl
   have g7 : decide (x15 = 2) = c6 := by rw [← hc6]; rfl
   rw [g6, g7] at hr
   obtain ⟨c7, hc7⟩ : ∃ c, decide EV.Nodup = c := ⟨_, rfl⟩
   rw [hc7] at hr kO
   have HXX := Lib.hid hx15
   clear hc4 g6 g7 hc7 hx15
   cases c0
   ·skip
    obtain rfl : r = false := by rw [hr]; simp
    clear hr
    go_wp2
    all_goals
     go_ret
     exact ⟨rfl, hBw⟩
   ·skip
    cases c1
    ·skip
     obtain rfl : r = false := by rw [hr]; simp
     clear hr
     go_wp2
     all_goals
      go_ret
      exact ⟨rfl, hBw⟩
    ·skip
     cases c2
     ·skip
      obtain rfl : r = false := by rw [hr]; simp
      clear hr
      go_wp2
      all_goals
       go_ret
       exact ⟨rfl, hBw⟩
     ·skip
      cases c3
      ·skip
       obtain rfl : r = false := by rw [hr]; simp
       clear hr
       go_wp2
       all_goals
        go_ret
        exact ⟨rfl, hBw⟩
      ·skip
       cases c4
       ·skip
        obtain rfl : r = false := by rw [hr]; simp
        clear hr
        go_wp2
        all_goals
         go_ret
         exact ⟨rfl, hBw⟩
       ·skip
        cases c5
        ·cases c6
         ·skip
          obtain rfl : r = false := by rw [hr]; simp
          clear hr
          go_wp2
          all_goals
           go_ret
           exact ⟨rfl, hBw⟩
         ·skip
          cases c7
          ·skip
           obtain rfl : r = false := by rw [hr]; simp
           clear hr
           go_wp2_with (go_at_call 110; refine (kO _ (Below.refl _ _)).mono ?_; rintro e w3 ⟨rfl, hb3⟩)
           go_ret
           exact ⟨rfl, hBw.trans (hb3.mono hBw.size)⟩
          ·skip
           obtain rfl : r = true := by rw [hr]; simp
           clear hr
           go_wp2_with (go_at_call 110; refine (kO _ (Below.refl _ _)).mono ?_; rintro e w3 ⟨rfl, hb3⟩)
           go_ret
           exact ⟨rfl, hBw.trans (hb3.mono hBw.size)⟩
        ·skip
         cases c7
         ·skip
          obtain rfl : r = false := by rw [hr]; simp
          clear hr
          go_wp2_with (go_at_call 110; refine (kO _ (Below.refl _ _)).mono ?_; rintro e w3 ⟨rfl, hb3⟩)
          go_ret
          exact ⟨rfl, hBw.trans (hb3.mono hBw.size)⟩
         ·skip
          obtain rfl : r = true := by rw [hr]; simp
          clear hr
          go_wp2_with (go_at_call 110; refine (kO _ (Below.refl _ _)).mono ?_; rintro e w3 ⟨rfl, hb3⟩)
          go_ret
          exact ⟨rfl, hBw.trans (hb3.mono hBw.size)⟩

set_option maxRecDepth 100000 in
set_option maxHeartbeats 8000000 in
theorem rterm_no (kd pos n : Int) (nm : ByteArray) (bits : Nat) (names : List ByteArray) (kids types : List Int) (p : Ptr3) (w : World) (hk : ¬ (0 ≤ kd ∧ kd ≤ 16)) :
 Calls Tryz.prog 50 #[.agg (termCells ⟨kd, pos, nm, n, bits, names, kids, types⟩ p).toArray] w fun e w' => e = .returned (.bool (termB ⟨kd, pos, nm, n, bits, names, kids, types⟩)) ∧ Below w.heap.size w w' := by
 have hF : termB ⟨kd, pos, nm, n, bits, names, kids, types⟩ = false := by
  unfold termB
  dsimp only
  repeat rw [if_neg (by omega)]
 rw [hF]
 have hB := (Below.refl w.heap.size w).alloc (Nat.le_refl _) (.cells (termCells ⟨kd, pos, nm, n, bits, names, kids, types⟩ p).toArray 60)
 have HB := Lib.hid hB
 have d0 : (kd == 0) = false := by rw [beq_eq_false_iff_ne]; omega
 have d1 : (kd == 1) = false := by rw [beq_eq_false_iff_ne]; omega
 have d2 : (kd == 2) = false := by rw [beq_eq_false_iff_ne]; omega
 have d3 : (kd == 3) = false := by rw [beq_eq_false_iff_ne]; omega
 have d4 : (kd == 4) = false := by rw [beq_eq_false_iff_ne]; omega
 have d5 : (kd == 5) = false := by rw [beq_eq_false_iff_ne]; omega
 have d6 : (kd == 6) = false := by rw [beq_eq_false_iff_ne]; omega
 have d7 : (kd == 7) = false := by rw [beq_eq_false_iff_ne]; omega
 have d8 : (kd == 8) = false := by rw [beq_eq_false_iff_ne]; omega
 have d9 : (kd == 9) = false := by rw [beq_eq_false_iff_ne]; omega
 have d10 : (kd == 10) = false := by rw [beq_eq_false_iff_ne]; omega
 have d11 : (kd == 11) = false := by rw [beq_eq_false_iff_ne]; omega
 have d12 : (kd == 12) = false := by rw [beq_eq_false_iff_ne]; omega
 have d13 : (kd == 13) = false := by rw [beq_eq_false_iff_ne]; omega
 have d14 : (kd == 14) = false := by rw [beq_eq_false_iff_ne]; omega
 have d15 : (kd == 15) = false := by rw [beq_eq_false_iff_ne]; omega
 have d16 : (kd == 16) = false := by rw [beq_eq_false_iff_ne]; omega
 clear hB hF hk
 unfold termCells at HB ⊢
 go_enter Tryz.func50, Tryz.ntmps50
 try dsimp only [List.append]
 go_wp2
 go_ret
 exact ⟨rfl, HB.out⟩

theorem rterm_any (t : TermD) (p : Ptr3) (w : World) (hF : TermFew t) (hM : t.int ≤ 9223372036854775807) (hP : TermOk (Lt w.heap.size) w t p) :
 Calls Tryz.prog 50 #[.agg (termCells t p).toArray] w fun e w' => e = .returned (.bool (termB t)) ∧ Below w.heap.size w w' := by
 obtain ⟨kd, pos, nm, n, bits, names, kids, types⟩ := t
 obtain ⟨h1, h2, h3, h4, h5⟩ := hF
 by_cases hk : 0 ≤ kd ∧ kd ≤ 16
 ·have : kd = 0 ∨ kd = 1 ∨ kd = 2 ∨ kd = 3 ∨ kd = 4 ∨ kd = 5 ∨ kd = 6 ∨ kd = 7 ∨ kd = 8 ∨ kd = 9 ∨ kd = 10 ∨ kd = 11 ∨ kd = 12 ∨ kd = 13 ∨ kd = 14 ∨ kd = 15 ∨ kd = 16 := by omega
  rcases this with rfl | rfl | rfl | rfl | rfl | rfl | rfl | rfl | rfl | rfl | rfl | rfl | rfl | rfl | rfl | rfl | rfl
  ·exact rterm_k0 pos n nm bits names kids types p w h1
  ·exact rterm_k1 pos n nm bits names kids types p w hM
  ·exact rterm_k2 pos n nm bits names kids types p w
  ·exact rterm_k3 pos n nm bits names kids types p w h1
  ·exact rterm_k4 pos n nm bits names kids types p w
  ·exact rterm_k5 pos n nm bits names kids types p w h1
  ·exact rterm_k6 pos n nm bits names kids types p w
  ·exact rterm_k7 pos n nm bits names kids types p w h1
  ·exact rterm_k8 pos n nm bits names kids types p w h1
  ·exact rterm_k9 pos n nm bits names kids types p w
  ·exact rterm_k10 pos n nm bits names kids types p w hP.1 h2 h4 h3
  ·exact rterm_k11 pos n nm bits names kids types p w h1
  ·exact rterm_k12 pos n nm bits names kids types p w hP.1 h2 h3
  ·exact rterm_k13 pos n nm bits names kids types p w h1
  ·exact rterm_k14 pos n nm bits names kids types p w
  ·exact rterm_k15 pos n nm bits names kids types p w
  ·exact rterm_k16 pos n nm bits names kids types p w
 ·exact rterm_no kd pos n nm bits names kids types p w hk
end Go.Proofs.YtjbdgjbmbohfmaaGreatDoor
