/- Two rows of names, two terms, two types, two aliases: are they the same, but for places and numbers? -/
import Derived.Test.YtinajnkjfhbmkaaDoorSameM
import Derived.Test.YtinajnkjfhbmkaaDoorSame
namespace Go.Proofs.YtinajnkjfhbmkaaDoor
open Go Go.Proofs Go.RowKit

theorem rds_at {w : World} {A : Option Addr} {xs : List ByteArray} {k : Nat} (h : RdAt w A (xs.map .string)) (hk : k < xs.length) : ∃ b off, A = some ⟨b, off, none⟩ ∧ w.cell? ⟨b, off + k, none⟩ = some (.string xs[k]) := by
  rcases h with h | ⟨b, off, e, h⟩
  · have : xs = [] := by simpa using h
    subst this
    simp at hk
  · exact ⟨b, off, e, h k _ (by simp [hk])⟩
theorem toList_inj {a b : ByteArray} (h : a.toList = b.toList) : a = b := by
  rw [ByteArray.toList_eq, ByteArray.toList_eq] at h
  exact ByteArray.ext (Array.toList_inj.1 h)

set_option maxRecDepth 100000 in
set_option maxHeartbeats 2000000 in
theorem seq_any (A1 A2 : Option Addr) (c1 c2 : Nat) (xs ys : List ByteArray) (w : World) (h1 : RdAt w A1 (xs.map .string)) (h2 : RdAt w A2 (ys.map .string)) (hx : xs.length ≤ 140737488351232) (hy : ys.length ≤ 140737488351232) :
    Calls Tryd.prog 53 #[.slice A1 xs.length c1, .slice A2 ys.length c2] w fun e w' => e = .returned (.bool (decide (xs = ys))) ∧ Below w.heap.size w w' := by
  obtain ⟨r, hr⟩ : ∃ r, decide (xs = ys) = r := ⟨_, rfl⟩
  rw [hr]
  have HR := Lib.hid hr
  clear hr
  by_cases hlen : xs.length = ys.length
  · obtain ⟨n, hn⟩ : ∃ n, ys.length = n := ⟨_, rfl⟩
    rw [hn] at hlen hy ⊢
    rw [hlen] at hx ⊢
    have HX := Lib.hid hlen
    have HY := Lib.hid hn
    clear hlen hn
    have hne : ((n : Int) != (n : Int)) = false := by simp
    have hB0 := Below.refl w.heap.size w
    go_enter Tryd.func53, Tryd.ntmps53
    go_wp2
    go_loopw [5, 13] (fun _ i wr => ∃ k : Nat, k ≤ n ∧ i = .int .i64 k ∧ Hid (xs.take k = ys.take k) ∧ Below w.heap.size w wr ∧ ∃ d, wr = w.drewN d) (fun _ i _ => n - (intOf i).toNat)
    case atStart => exact ⟨0, Nat.zero_le _, rfl, Lib.hid (by simp), hB0, 0, rfl⟩
    case round =>
      obtain ⟨k, hk, rfl, HT, hB, d, hwr⟩ := hrel
      by_cases hlt : k < n
      · have lx : k < xs.length := by rw [HX.out]; exact hlt
        have ly : k < ys.length := by rw [HY.out]; exact hlt
        obtain ⟨b, off, rfl, e1⟩ := rds_at h1 lx
        obtain ⟨b', off', rfl, e2⟩ := rds_at h2 ly
        have f1 : wr.cell? ⟨b, off + k, none⟩ = some (.string xs[k]) := by rw [hwr]; exact e1
        have f2 : wr.cell? ⟨b', off' + k, none⟩ = some (.string ys[k]) := by rw [hwr]; exact e2
        have htx : xs.take (k + 1) = xs.take k ++ [xs[k]] := List.take_succ_eq_append_getElem lx
        have hty : ys.take (k + 1) = ys.take k ++ [ys[k]] := List.take_succ_eq_append_getElem ly
        have hbad : xs[k] ≠ ys[k] → r = false := fun h => by
          rw [← HR.out, decide_eq_false_iff_not]
          intro he
          subst he
          exact h rfl
        obtain ⟨x, hxk⟩ : ∃ x, xs[k] = x := ⟨_, rfl⟩
        obtain ⟨y, hyk⟩ : ∃ y, ys[k] = y := ⟨_, rfl⟩
        rw [hxk] at f1 htx hbad
        rw [hyk] at f2 hty hbad
        have HTX := Lib.hid htx
        have HTY := Lib.hid hty
        have HBAD := Lib.hid hbad
        have HW := Lib.hid hwr
        clear hxk hyk htx hty hbad e1 e2 hwr h1 h2
        have i1 : (0 : Int) ≤ (k : Int) := by omega
        have i2 : (k : Int) < (n : Int) := by omega
        by_cases hxy : x = y
        · subst hxy
          have hq : (x.toList != x.toList) = false := by simp
          go_wp2
          go_quiet (fail)
          go_wp2
          go_roundw
          case rel => exact ⟨k + 1, by omega, by go_num, Lib.hid (by rw [HTX.out, HTY.out, HT.out]), hB.trans (below_drewN _ _ _), by have := HW.out; subst this; exact ⟨_, drewN_two _ _ _⟩⟩
          case measure => simp [intOf]; omega
        · have hq : (x.toList == y.toList) = false := by rw [beq_eq_false_iff_ne]; exact fun h => hxy (toList_inj h)
          have HF := Lib.hid (HBAD.out hxy)
          go_wp2
          go_quiet (fail)
          go_wp2
          go_ret
          exact ⟨ret_bool HF.out.symm, hB.trans (below_drewN _ _ _)⟩
      · obtain rfl : k = n := by omega
        have hT : r = true := by
          rw [← HR.out, decide_eq_true_eq]
          have := HT.out
          rwa [List.take_of_length_le (Nat.le_of_eq HX.out), List.take_of_length_le (Nat.le_of_eq HY.out)] at this
        have HF := Lib.hid hT
        clear hT hwr
        go_wp2
        go_ret
        exact ⟨ret_bool HF.out.symm, hB⟩
  · have hF : r = false := by
      rw [← HR.out, decide_eq_false_iff_not]
      intro he
      subst he
      exact hlen rfl
    have HF := Lib.hid hF
    clear hF
    have hne : ((xs.length : Int) != (ys.length : Int)) = true := by rw [bne_iff_ne]; omega
    go_enter Tryd.func53, Tryd.ntmps53
    go_wp2
    go_ret
    exact ⟨ret_bool HF.out.symm, Below.refl _ _⟩

theorem rd_kept {w W : World} {A : Option Addr} {n : Nat} {xs : List Value} (h : SlAt (Lt w.heap.size) w A n xs) (hb : Below w.heap.size w W) : RdAt W A xs :=
  RdAt.of_sl (h.keep (keep_below hb))

set_option maxRecDepth 100000 in
set_option maxHeartbeats 4000000 in
theorem smA_any (x y : AliD) (w : World) : Calls Tryd.prog 38 #[.agg (aliCells x).toArray, .agg (aliCells y).toArray] w fun e w' => e = .returned (.bool (smA x y)) ∧ Below w.heap.size w w' := by
  have hB := ((Below.refl w.heap.size w).alloc (Nat.le_refl _) (.cells (aliCells x).toArray 52)).alloc (by simp) (.cells (aliCells y).toArray 52)
  obtain ⟨r, hr⟩ : ∃ r, smA x y = r := ⟨_, rfl⟩
  have hc : (x.name.toList == y.name.toList) = r := by
    rw [← hr]
    unfold smA
    by_cases h : x.name = y.name
    · rw [h]; simp
    · rw [decide_eq_false h, beq_eq_false_iff_ne]; exact fun e => h (toList_inj e)
  rw [hr]
  clear hr
  have HB := Lib.hid hB
  clear hB
  unfold aliCells at HB ⊢
  go_enter Tryd.func38, Tryd.ntmps38
  go_wp2
  go_ret
  exact ⟨rfl, HB.out⟩

set_option maxRecDepth 100000 in
set_option maxHeartbeats 4000000 in
theorem smT_any (x y : TermD) (p q : Ptr3) (w : World) (hx : SlAt (Lt w.heap.size) w p.a5 x.names.length (x.names.map .string)) (hy : SlAt (Lt w.heap.size) w q.a5 y.names.length (y.names.map .string)) (bx : x.names.length ≤ 65536) (bz : y.names.length ≤ 65536) :
    Calls Tryd.prog 36 #[.agg (termCells x p).toArray, .agg (termCells y q).toArray] w fun e w' => e = .returned (.bool (smT x y)) ∧ Below w.heap.size w w' := by
  have hB := ((Below.refl w.heap.size w).alloc (Nat.le_refl _) (.cells (termCells x p).toArray 33)).alloc (by simp) (.cells (termCells y q).toArray 33)
  obtain ⟨r, hr⟩ : ∃ r, smT x y = r := ⟨_, rfl⟩
  rw [hr]
  have k53 := fun W (hW : Below w.heap.size w W) => seq_any p.a5 q.a5 p.c5 q.c5 x.names y.names W (rd_kept hx hW) (rd_kept hy hW) (by omega) (by omega)
  obtain ⟨c0, h0⟩ : ∃ c, (x.kind == y.kind) = c := ⟨_, rfl⟩
  have g0 : (x.kind = y.kind) ↔ c0 = true := by rw [← h0, beq_iff_eq]
  obtain ⟨c1, h1⟩ : ∃ c, (x.name.toList == y.name.toList) = c := ⟨_, rfl⟩
  have g1 : (x.name = y.name) ↔ c1 = true := by rw [← h1, beq_iff_eq]; exact ⟨fun e => by rw [e], toList_inj⟩
  obtain ⟨c2, h2⟩ : ∃ c, (x.int == y.int) = c := ⟨_, rfl⟩
  have g2 : (x.int = y.int) ↔ c2 = true := by rw [← h2, beq_iff_eq]
  obtain ⟨c3, h3⟩ : ∃ c, ((x.bits : Int) == (y.bits : Int)) = c := ⟨_, rfl⟩
  have g3 : (x.bits = y.bits) ↔ c3 = true := by rw [← h3, beq_iff_eq]; omega
  obtain ⟨c4, h4⟩ : ∃ c, decide (x.names = y.names) = c := ⟨_, rfl⟩
  rw [h4] at k53
  have g4 : (x.names = y.names) ↔ c4 = true := by rw [← h4, decide_eq_true_eq]
  obtain ⟨c5, h5⟩ : ∃ c, ((x.kids.length : Int) == (y.kids.length : Int)) = c := ⟨_, rfl⟩
  have g5 : (x.kids.length = y.kids.length) ↔ c5 = true := by rw [← h5, beq_iff_eq]; omega
  have hR : r = (c0 && c1 && c2 && c3 && c4 && c5) := by
    rw [← hr]
    unfold smT
    simp only [g0, g1, g2, g3, g4, g5, Bool.decide_and, Bool.decide_eq_true, Bool.and_assoc]
  have HX := Lib.hid ((Blk.new w 33 (termCells x p).toArray).alloc (.cells (termCells y q).toArray 33))
  have hY := Blk.new (w.alloc (.cells (termCells x p).toArray 33)) 33 (termCells y q).toArray
  rw [World.size_alloc] at hY
  have HY := Lib.hid hY
  have HB := Lib.hid hB
  clear hB hY hr hx hy g0 g1 g2 g3 g4 g5
  unfold termCells at HB HX HY ⊢
  cases c0
  · have hf : r = false := by rw [hR]; simp
    subst hf
    clear hR
    go_enter Tryd.func36, Tryd.ntmps36
    go_wp2
    go_ret
    exact ⟨rfl, HB.out⟩
  · skip
    cases c1
    · have hf : r = false := by rw [hR]; simp
      subst hf
      clear hR
      go_enter Tryd.func36, Tryd.ntmps36
      go_wp2
      go_ret
      exact ⟨rfl, HB.out⟩
    · skip
      cases c2
      · have hf : r = false := by rw [hR]; simp
        subst hf
        clear hR
        go_enter Tryd.func36, Tryd.ntmps36
        go_wp2
        go_ret
        exact ⟨rfl, HB.out⟩
      · skip
        cases c3
        · have hf : r = false := by rw [hR]; simp
          subst hf
          clear hR
          go_enter Tryd.func36, Tryd.ntmps36
          go_wp2
          go_ret
          exact ⟨rfl, HB.out⟩
        · skip
          cases c4
          · have hf : r = false := by rw [hR]; simp
            subst hf
            clear hR
            go_enter Tryd.func36, Tryd.ntmps36
            go_wp2_with (go_at_call 53; refine (k53 _ (by exact HB.out)).mono ?_; rintro e w3 ⟨rfl, hb3⟩; have hb4 := HB.out.trans (hb3.mono (by simp; omega)); clear hb3)
            go_ret
            exact ⟨rfl, hb4⟩
          · skip
            cases c5
            · have hf : r = false := by rw [hR]; simp
              subst hf
              clear hR
              go_enter Tryd.func36, Tryd.ntmps36
              go_wp2_with fail
              refine (k53 _ HB.out).mono ?_
              rintro e w3 ⟨rfl, hb3⟩
              have hb4 := HB.out.trans (hb3.mono (by simp; omega))
              have q6 := ((HX.out.below hb3 (by simp; omega)).cell 6).trans rfl
              have r6 := ((HY.out.below hb3 (by simp)).cell 6).trans rfl
              clear hb3 k53
              go_wp2
              go_ret
              exact ⟨rfl, hb4⟩
            · have hf : r = true := by rw [hR]; rfl
              subst hf
              clear hR
              go_enter Tryd.func36, Tryd.ntmps36
              go_wp2_with fail
              refine (k53 _ HB.out).mono ?_
              rintro e w3 ⟨rfl, hb3⟩
              have hb4 := HB.out.trans (hb3.mono (by simp; omega))
              have q6 := ((HX.out.below hb3 (by simp; omega)).cell 6).trans rfl
              have r6 := ((HY.out.below hb3 (by simp)).cell 6).trans rfl
              clear hb3 k53
              go_wp2
              go_ret
              exact ⟨rfl, hb4⟩

set_option maxRecDepth 100000 in
set_option maxHeartbeats 4000000 in
theorem smY_any (x y : TypD) (p q : Ptr2) (w : World) (hx : SlAt (Lt w.heap.size) w p.a3 x.names.length (x.names.map .string)) (hy : SlAt (Lt w.heap.size) w q.a3 y.names.length (y.names.map .string)) (bx : x.names.length ≤ 65536) (bz : y.names.length ≤ 65536) :
    Calls Tryd.prog 41 #[.agg (typCells x p).toArray, .agg (typCells y q).toArray] w fun e w' => e = .returned (.bool (smY x y)) ∧ Below w.heap.size w w' := by
  have hB := ((Below.refl w.heap.size w).alloc (Nat.le_refl _) (.cells (typCells x p).toArray 47)).alloc (by simp) (.cells (typCells y q).toArray 47)
  obtain ⟨r, hr⟩ : ∃ r, smY x y = r := ⟨_, rfl⟩
  rw [hr]
  have k53 := fun W (hW : Below w.heap.size w W) => seq_any p.a3 q.a3 p.c3 q.c3 x.names y.names W (rd_kept hx hW) (rd_kept hy hW) (by omega) (by omega)
  obtain ⟨c0, h0⟩ : ∃ c, (x.kind == y.kind) = c := ⟨_, rfl⟩
  have g0 : (x.kind = y.kind) ↔ c0 = true := by rw [← h0, beq_iff_eq]
  obtain ⟨c1, h1⟩ : ∃ c, (x.name.toList == y.name.toList) = c := ⟨_, rfl⟩
  have g1 : (x.name = y.name) ↔ c1 = true := by rw [← h1, beq_iff_eq]; exact ⟨fun e => by rw [e], toList_inj⟩
  obtain ⟨c2, h2⟩ : ∃ c, (x.opn == y.opn) = c := ⟨_, rfl⟩
  have g2 : (x.opn = y.opn) ↔ c2 = true := by rw [← h2, beq_iff_eq]
  obtain ⟨c3, h3⟩ : ∃ c, decide (x.names = y.names) = c := ⟨_, rfl⟩
  rw [h3] at k53
  have g3 : (x.names = y.names) ↔ c3 = true := by rw [← h3, decide_eq_true_eq]
  have hR : r = (c0 && c1 && c2 && c3) := by
    rw [← hr]
    unfold smY
    simp only [g0, g1, g2, g3, Bool.decide_and, Bool.decide_eq_true, Bool.and_assoc]
  have HB := Lib.hid hB
  clear hB hr hx hy g0 g1 g2 g3
  unfold typCells at HB ⊢
  cases c0
  · have hf : r = false := by rw [hR]; simp
    subst hf
    clear hR
    go_enter Tryd.func41, Tryd.ntmps41
    go_wp2
    go_ret
    exact ⟨rfl, HB.out⟩
  · skip
    cases c1
    · have hf : r = false := by rw [hR]; simp
      subst hf
      clear hR
      go_enter Tryd.func41, Tryd.ntmps41
      go_wp2
      go_ret
      exact ⟨rfl, HB.out⟩
    · skip
      cases c2
      · have hf : r = false := by rw [hR]; simp
        subst hf
        clear hR
        go_enter Tryd.func41, Tryd.ntmps41
        go_wp2
        go_ret
        exact ⟨rfl, HB.out⟩
      · skip
        cases c3
        · have hf : r = false := by rw [hR]; simp
          subst hf
          clear hR
          go_enter Tryd.func41, Tryd.ntmps41
          go_wp2_with (go_at_call 53; refine (k53 _ (by exact HB.out)).mono ?_; rintro e w3 ⟨rfl, hb3⟩; have hb4 := HB.out.trans (hb3.mono (by simp; omega)); clear hb3)
          go_ret
          exact ⟨rfl, hb4⟩
        · have hf : r = true := by rw [hR]; rfl
          subst hf
          clear hR
          go_enter Tryd.func41, Tryd.ntmps41
          go_wp2_with (go_at_call 53; refine (k53 _ (by exact HB.out)).mono ?_; rintro e w3 ⟨rfl, hb3⟩; have hb4 := HB.out.trans (hb3.mono (by simp; omega)); clear hb3)
          go_ret
          exact ⟨rfl, hb4⟩
end Go.Proofs.YtinajnkjfhbmkaaDoor
