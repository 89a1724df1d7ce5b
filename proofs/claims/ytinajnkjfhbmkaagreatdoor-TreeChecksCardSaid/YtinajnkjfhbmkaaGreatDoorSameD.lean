/- Same, at every two trees of parts of a bounded size: rows of parts, side by side. -/
import Derived.Test.YtinajnkjfhbmkaaGreatDoorOnce
import Derived.Test.YtinajnkjfhbmkaaGreatDoorSame
import Derived.Test.YtinajnkjfhbmkaaGreatDoorWalk
import Derived.Deep.RegionHeld3
namespace Go.Proofs.YtinajnkjfhbmkaaGreatDoor
open Go Go.Proofs Go.RowKit

/-- Two terms, two types, but for places and numbers. -/
def smT (x y : TermD) : Bool := decide (x.kind = y.kind ∧ x.name = y.name ∧ x.int = y.int ∧ x.bits = y.bits ∧ x.names = y.names ∧ x.kids.length = y.kids.length)
def smY (x y : TypD) : Bool := decide (x.kind = y.kind ∧ x.name = y.name ∧ x.opn = y.opn ∧ x.names = y.names)
def smA (x y : AliD) : Bool := decide (x.name = y.name)
def atT (a b : TreeD) (i j : Nat) : Bool := match a.nodes[i]?, b.nodes[j]? with | some x, some y => smT x y | _, _ => false
def atY (a b : TreeD) (i j : Nat) : Bool := match a.types[i]?, b.types[j]? with | some x, some y => smY x y | _, _ => false
/-- All terms, all types, each ahead of its kids. -/
def termsL (t : TreeD) : List Nat := walk (tmK t) (t.nodes.length - 1)
def typesIn (t : TreeD) (i : Nat) : List Int := match t.nodes[i]? with | some x => x.types | none => []
def rootsL (t : TreeD) (l : List Nat) : List Int := l.flatMap (typesIn t) ++ t.aliases.map (·.type)
def typesL (t : TreeD) (l : List Nat) : List Nat := (nats (rootsL t l)).flatMap (walk (tyK t))
def sameB (a b : TreeD) : Bool :=
  checkF a && (checkF b && (all2 (atT a b) (termsL a) (termsL b) && (all2 smA a.aliases b.aliases && all2 (atY a b) (typesL a (termsL a)) (typesL b (termsL b)))))

theorem smT_refl (x : TermD) : smT x x = true := by simp [smT]
theorem smY_refl (x : TypD) : smY x x = true := by simp [smY]
theorem smA_refl (x : AliD) : smA x x = true := by simp [smA]

theorem walk_lt {kids : Nat → List Nat} {n i : Nat} (hd : Dn kids n) (hi : i < n) : ∀ j ∈ walk kids i, j < n := fun j hj => by
  have := walk_le hd (i + 1) i (by omega) hi j hj
  omega
theorem termsL_lt {t : TreeD} (h : Rng t) : ∀ i ∈ termsL t, i < t.nodes.length := walk_lt h.dnN (by have := h.one; omega)
theorem typesIn_lt {t : TreeD} (h : Rng t) (i : Nat) : ∀ k ∈ typesIn t i, 0 ≤ k ∧ k < (t.types.length : Int) := fun k hk => by
  unfold typesIn at hk
  split at hk
  · rename_i x hx
    exact (h.nod i x hx).2.1 k hk
  · cases hk
theorem rootsL_lt {t : TreeD} (h : Rng t) (l : List Nat) : ∀ k ∈ rootsL t l, 0 ≤ k ∧ k < (t.types.length : Int) := fun k hk => by
  unfold rootsL at hk
  rcases List.mem_append.1 hk with hk | hk
  · obtain ⟨i, _, hk⟩ := List.mem_flatMap.1 hk
    exact typesIn_lt h i k hk
  · obtain ⟨x, hx, rfl⟩ := List.mem_map.1 hk
    exact ⟨(h.ali x hx).1, (h.ali x hx).2.1⟩
theorem typesL_lt {t : TreeD} (h : Rng t) (l : List Nat) : ∀ j ∈ typesL t l, j < t.types.length := fun j hj => by
  unfold typesL at hj
  obtain ⟨r, hr, hj⟩ := List.mem_flatMap.1 hj
  obtain ⟨k, hk, rfl⟩ := List.mem_map.1 hr
  have := rootsL_lt h l k hk
  exact walk_lt h.dnT (by omega) j hj

theorem flat_le {α β : Type} {f : α → List β} {c : Nat} : ∀ {l : List α}, (∀ a ∈ l, (f a).length ≤ c) → (l.flatMap f).length ≤ l.length * c
  | [], _ => by simp
  | a :: l, h => by
    rw [List.flatMap_cons, List.length_append, List.length_cons, Nat.add_mul]
    have := h a (by simp)
    have := flat_le (f := f) (c := c) (l := l) (fun b hb => h b (by simp [hb]))
    omega
theorem typesIn_len {t : TreeD} (hF : TreeFew t) (i : Nat) : (typesIn t i).length ≤ 1000 := by
  unfold typesIn
  split
  · rename_i x hx
    exact (hF.1 x (List.mem_of_getElem? hx)).2.2.2.2
  · simp
theorem rootsL_len {t : TreeD} (hF : TreeFew t) {l : List Nat} (hl : l.length ≤ 1000) : (rootsL t l).length ≤ 1001000 := by
  unfold rootsL
  have h1 : (l.flatMap (typesIn t)).length ≤ l.length * 1000 := flat_le fun i _ => typesIn_len hF i
  have := hF.2.2.2.1
  simp only [List.length_append, List.length_map]
  omega
theorem walks_len {t : TreeD} (h : Whole t) (hF : TreeFew t) : ∀ (l : List Nat), (∀ k ∈ l, k < t.types.length) → (l.flatMap (walk (tyK t))).length ≤ l.length * 1000 := fun l hl =>
  flat_le fun k hk => by have := h.walkT (hl k hk); have := hF.2.2.2.2.2; omega
theorem termsL_len {t : TreeD} (h : Whole t) (hF : TreeFew t) : (termsL t).length ≤ 1000 := by
  have := h.walkN (i := t.nodes.length - 1) (by have := h.rng.one; omega)
  have := hF.2.2.2.2.1
  unfold termsL
  omega
theorem typesL_len {t : TreeD} (h : Whole t) (hF : TreeFew t) {l : List Nat} (hl : l.length ≤ 1000) : (typesL t l).length ≤ 1001000000 := by
  have h1 := rootsL_len hF hl
  have h2 : (nats (rootsL t l)).length = (rootsL t l).length := List.length_map _
  have h3 := walks_len h hF (nats (rootsL t l)) (fun k hk => by
    obtain ⟨z, hz, rfl⟩ := List.mem_map.1 hk
    have := rootsL_lt h.rng l z hz
    omega)
  unfold typesL
  omega

theorem sameB_refl {t : TreeD} (h : checkF t = true) : sameB t t = true := by
  have hR := Rng.of h
  unfold sameB
  rw [h, all2_refl (r := atT t t) (fun i hi => by
    have hl := termsL_lt hR i hi
    unfold atT
    rw [List.getElem?_eq_getElem hl]
    exact smT_refl _), all2_refl (r := smA) (fun x _ => smA_refl x), all2_refl (r := atY t t) (fun i hi => by
    have hl := typesL_lt hR _ i hi
    unfold atY
    rw [List.getElem?_eq_getElem hl]
    exact smY_refl _)]
  rfl
end Go.Proofs.YtinajnkjfhbmkaaGreatDoor

namespace Go.Proofs.YtinajnkjfhbmkaaGreatDoor
open Go Go.Proofs Go.RowKit

theorem rds_at {w : World} {A : Option Addr} {xs : List ByteArray} {k : Nat} (h : RdAt w A (xs.map .string)) (hk : k < xs.length) : ∃ b off, A = some ⟨b, off, none⟩ ∧ w.cell? ⟨b, off + k, none⟩ = some (.string xs[k]) := by
  rcases h with h | ⟨b, off, e, h⟩
  · have : xs = [] := by simpa using h
    subst this
    simp at hk
  · exact ⟨b, off, e, h k _ (by simp [hk])⟩
theorem toList_inj {a b : ByteArray} (h : a.toList = b.toList) : a = b := by
  rw [ByteArray.toList_eq, ByteArray.toList_eq] at h
  exact ByteArray.ext (Array.toList_inj.1 h)

set_option maxRecDepth 100000 in
set_option maxHeartbeats 2000000 in
theorem seq_any (A1 A2 : Option Addr) (c1 c2 : Nat) (xs ys : List ByteArray) (w : World) (h1 : RdAt w A1 (xs.map .string)) (h2 : RdAt w A2 (ys.map .string)) (hx : xs.length ≤ 140737488351232) (hy : ys.length ≤ 140737488351232) :
    Calls Tryz.prog 65 #[.slice A1 xs.length c1, .slice A2 ys.length c2] w fun e w' => e = .returned (.bool (decide (xs = ys))) ∧ Below w.heap.size w w' := by
  obtain ⟨r, hr⟩ : ∃ r, decide (xs = ys) = r := ⟨_, rfl⟩
  rw [hr]
  have HR := Lib.hid hr
  clear hr
  by_cases hlen : xs.length = ys.length
  · obtain ⟨n, hn⟩ : ∃ n, ys.length = n := ⟨_, rfl⟩
    rw [hn] at hlen hy ⊢
    rw [hlen] at hx ⊢
    have HX := Lib.hid hlen
    have HY := Lib.hid hn
    clear hlen hn
    have hne : ((n : Int) != (n : Int)) = false := by simp
    have hB0 := Below.refl w.heap.size w
    go_enter Tryz.func65, Tryz.ntmps65
    go_wp2
    go_loopw [5, 13] (fun _ i wr => ∃ k : Nat, k ≤ n ∧ i = .int .i64 k ∧ Hid (xs.take k = ys.take k) ∧ Below w.heap.size w wr ∧ ∃ d, wr = w.drewN d) (fun _ i _ => n - (intOf i).toNat)
    case atStart => exact ⟨0, Nat.zero_le _, rfl, Lib.hid (by simp), hB0, 0, rfl⟩
    case round =>
      obtain ⟨k, hk, rfl, HT, hB, d, hwr⟩ := hrel
      by_cases hlt : k < n
      · have lx : k < xs.length := by rw [HX.out]; exact hlt
        have ly : k < ys.length := by rw [HY.out]; exact hlt
        obtain ⟨b, off, rfl, e1⟩ := rds_at h1 lx
        obtain ⟨b', off', rfl, e2⟩ := rds_at h2 ly
        have f1 : wr.cell? ⟨b, off + k, none⟩ = some (.string xs[k]) := by rw [hwr]; exact e1
        have f2 : wr.cell? ⟨b', off' + k, none⟩ = some (.string ys[k]) := by rw [hwr]; exact e2
        have htx : xs.take (k + 1) = xs.take k ++ [xs[k]] := List.take_succ_eq_append_getElem lx
        have hty : ys.take (k + 1) = ys.take k ++ [ys[k]] := List.take_succ_eq_append_getElem ly
        have hbad : xs[k] ≠ ys[k] → r = false := fun h => by
          rw [← HR.out, decide_eq_false_iff_not]
          intro he
          subst he
          exact h rfl
        obtain ⟨x, hxk⟩ : ∃ x, xs[k] = x := ⟨_, rfl⟩
        obtain ⟨y, hyk⟩ : ∃ y, ys[k] = y := ⟨_, rfl⟩
        rw [hxk] at f1 htx hbad
        rw [hyk] at f2 hty hbad
        have HTX := Lib.hid htx
        have HTY := Lib.hid hty
        have HBAD := Lib.hid hbad
        have HW := Lib.hid hwr
        clear hxk hyk htx hty hbad e1 e2 hwr h1 h2
        have i1 : (0 : Int) ≤ (k : Int) := by omega
        have i2 : (k : Int) < (n : Int) := by omega
        by_cases hxy : x = y
        · subst hxy
          have hq : (x.toList != x.toList) = false := by simp
          go_wp2
          go_quiet (fail)
          go_wp2
          go_roundw
          case rel => exact ⟨k + 1, by omega, by go_num, Lib.hid (by rw [HTX.out, HTY.out, HT.out]), hB.trans (below_drewN _ _ _), by have := HW.out; subst this; exact ⟨_, drewN_two _ _ _⟩⟩
          case measure => simp [intOf]; omega
        · have hq : (x.toList == y.toList) = false := by rw [beq_eq_false_iff_ne]; exact fun h => hxy (toList_inj h)
          have HF := Lib.hid (HBAD.out hxy)
          go_wp2
          go_quiet (fail)
          go_wp2
          go_ret
          exact ⟨ret_bool HF.out.symm, hB.trans (below_drewN _ _ _)⟩
      · obtain rfl : k = n := by omega
        have hT : r = true := by
          rw [← HR.out, decide_eq_true_eq]
          have := HT.out
          rwa [List.take_of_length_le (Nat.le_of_eq HX.out), List.take_of_length_le (Nat.le_of_eq HY.out)] at this
        have HF := Lib.hid hT
        clear hT hwr
        go_wp2
        go_ret
        exact ⟨ret_bool HF.out.symm, hB⟩
  · have hF : r = false := by
      rw [← HR.out, decide_eq_false_iff_not]
      intro he
      subst he
      exact hlen rfl
    have HF := Lib.hid hF
    clear hF
    have hne : ((xs.length : Int) != (ys.length : Int)) = true := by rw [bne_iff_ne]; omega
    go_enter Tryz.func65, Tryz.ntmps65
    go_wp2
    go_ret
    exact ⟨ret_bool HF.out.symm, Below.refl _ _⟩

theorem rd_kept {w W : World} {A : Option Addr} {n : Nat} {xs : List Value} (h : SlAt (Lt w.heap.size) w A n xs) (hb : Below w.heap.size w W) : RdAt W A xs :=
  RdAt.of_sl (h.keep (keep_below hb))

set_option maxRecDepth 100000 in
set_option maxHeartbeats 4000000 in
theorem smA_any (x y : AliD) (w : World) : Calls Tryz.prog 39 #[.agg (aliCells x).toArray, .agg (aliCells y).toArray] w fun e w' => e = .returned (.bool (smA x y)) ∧ Below w.heap.size w w' := by
  have hB := ((Below.refl w.heap.size w).alloc (Nat.le_refl _) (.cells (aliCells x).toArray 55)).alloc (by simp) (.cells (aliCells y).toArray 55)
  obtain ⟨r, hr⟩ : ∃ r, smA x y = r := ⟨_, rfl⟩
  have hc : (x.name.toList == y.name.toList) = r := by
    rw [← hr]
    unfold smA
    by_cases h : x.name = y.name
    · rw [h]; simp
    · rw [decide_eq_false h, beq_eq_false_iff_ne]; exact fun e => h (toList_inj e)
  rw [hr]
  clear hr
  have HB := Lib.hid hB
  clear hB
  unfold aliCells at HB ⊢
  go_enter Tryz.func39, Tryz.ntmps39
  go_wp2
  go_ret
  exact ⟨rfl, HB.out⟩

set_option maxRecDepth 100000 in
set_option maxHeartbeats 4000000 in
theorem smT_any (x y : TermD) (p q : Ptr3) (w : World) (hx : SlAt (Lt w.heap.size) w p.a5 x.names.length (x.names.map .string)) (hy : SlAt (Lt w.heap.size) w q.a5 y.names.length (y.names.map .string)) (bx : x.names.length ≤ 65536) (bz : y.names.length ≤ 65536) :
    Calls Tryz.prog 37 #[.agg (termCells x p).toArray, .agg (termCells y q).toArray] w fun e w' => e = .returned (.bool (smT x y)) ∧ Below w.heap.size w w' := by
  have hB := ((Below.refl w.heap.size w).alloc (Nat.le_refl _) (.cells (termCells x p).toArray 45)).alloc (by simp) (.cells (termCells y q).toArray 45)
  obtain ⟨r, hr⟩ : ∃ r, smT x y = r := ⟨_, rfl⟩
  rw [hr]
  have k53 := fun W (hW : Below w.heap.size w W) => seq_any p.a5 q.a5 p.c5 q.c5 x.names y.names W (rd_kept hx hW) (rd_kept hy hW) (by omega) (by omega)
  obtain ⟨c0, h0⟩ : ∃ c, (x.kind == y.kind) = c := ⟨_, rfl⟩
  have g0 : (x.kind = y.kind) ↔ c0 = true := by rw [← h0, beq_iff_eq]
  obtain ⟨c1, h1⟩ : ∃ c, (x.name.toList == y.name.toList) = c := ⟨_, rfl⟩
  have g1 : (x.name = y.name) ↔ c1 = true := by rw [← h1, beq_iff_eq]; exact ⟨fun e => by rw [e], toList_inj⟩
  obtain ⟨c2, h2⟩ : ∃ c, (x.int == y.int) = c := ⟨_, rfl⟩
  have g2 : (x.int = y.int) ↔ c2 = true := by rw [← h2, beq_iff_eq]
  obtain ⟨c3, h3⟩ : ∃ c, ((x.bits : Int) == (y.bits : Int)) = c := ⟨_, rfl⟩
  have g3 : (x.bits = y.bits) ↔ c3 = true := by rw [← h3, beq_iff_eq]; omega
  obtain ⟨c4, h4⟩ : ∃ c, decide (x.names = y.names) = c := ⟨_, rfl⟩
  rw [h4] at k53
  have g4 : (x.names = y.names) ↔ c4 = true := by rw [← h4, decide_eq_true_eq]
  obtain ⟨c5, h5⟩ : ∃ c, ((x.kids.length : Int) == (y.kids.length : Int)) = c := ⟨_, rfl⟩
  have g5 : (x.kids.length = y.kids.length) ↔ c5 = true := by rw [← h5, beq_iff_eq]; omega
  have hR : r = (c0 && c1 && c2 && c3 && c4 && c5) := by
    rw [← hr]
    unfold smT
    simp only [g0, g1, g2, g3, g4, g5, Bool.decide_and, Bool.decide_eq_true, Bool.and_assoc]
  have HX := Lib.hid ((Blk.new w 45 (termCells x p).toArray).alloc (.cells (termCells y q).toArray 45))
  have hY := Blk.new (w.alloc (.cells (termCells x p).toArray 45)) 45 (termCells y q).toArray
  rw [World.size_alloc] at hY
  have HY := Lib.hid hY
  have HB := Lib.hid hB
  clear hB hY hr hx hy g0 g1 g2 g3 g4 g5
  unfold termCells at HB HX HY ⊢
  cases c0
  · have hf : r = false := by rw [hR]; simp
    subst hf
    clear hR
    go_enter Tryz.func37, Tryz.ntmps37
    go_wp2
    go_ret
    exact ⟨rfl, HB.out⟩
  · skip
    cases c1
    · have hf : r = false := by rw [hR]; simp
      subst hf
      clear hR
      go_enter Tryz.func37, Tryz.ntmps37
      go_wp2
      go_ret
      exact ⟨rfl, HB.out⟩
    · skip
      cases c2
      · have hf : r = false := by rw [hR]; simp
        subst hf
        clear hR
        go_enter Tryz.func37, Tryz.ntmps37
        go_wp2
        go_ret
        exact ⟨rfl, HB.out⟩
      · skip
        cases c3
        · have hf : r = false := by rw [hR]; simp
          subst hf
          clear hR
          go_enter Tryz.func37, Tryz.ntmps37
          go_wp2
          go_ret
          exact ⟨rfl, HB.out⟩
        · skip
          cases c4
          · have hf : r = false := by rw [hR]; simp
            subst hf
            clear hR
            go_enter Tryz.func37, Tryz.ntmps37
            go_wp2_with (go_at_call 65; refine (k53 _ (by exact HB.out)).mono ?_; rintro e w3 ⟨rfl, hb3⟩; have hb4 := HB.out.trans (hb3.mono (by simp; omega)); clear hb3)
            go_ret
            exact ⟨rfl, hb4⟩
          · skip
            cases c5
            · have hf : r = false := by rw [hR]; simp
              subst hf
              clear hR
              go_enter Tryz.func37, Tryz.ntmps37
              go_wp2_with fail
              refine (k53 _ HB.out).mono ?_
              rintro e w3 ⟨rfl, hb3⟩
              have hb4 := HB.out.trans (hb3.mono (by simp; omega))
              have q6 := ((HX.out.below hb3 (by simp; omega)).cell 6).trans rfl
              have r6 := ((HY.out.below hb3 (by simp)).cell 6).trans rfl
              clear hb3 k53
              go_wp2
              go_ret
              exact ⟨rfl, hb4⟩
            · have hf : r = true := by rw [hR]; rfl
              subst hf
              clear hR
              go_enter Tryz.func37, Tryz.ntmps37
              go_wp2_with fail
              refine (k53 _ HB.out).mono ?_
              rintro e w3 ⟨rfl, hb3⟩
              have hb4 := HB.out.trans (hb3.mono (by simp; omega))
              have q6 := ((HX.out.below hb3 (by simp; omega)).cell 6).trans rfl
              have r6 := ((HY.out.below hb3 (by simp)).cell 6).trans rfl
              clear hb3 k53
              go_wp2
              go_ret
              exact ⟨rfl, hb4⟩

set_option maxRecDepth 100000 in
set_option maxHeartbeats 4000000 in
theorem smY_any (x y : TypD) (p q : Ptr2) (w : World) (hx : SlAt (Lt w.heap.size) w p.a3 x.names.length (x.names.map .string)) (hy : SlAt (Lt w.heap.size) w q.a3 y.names.length (y.names.map .string)) (bx : x.names.length ≤ 65536) (bz : y.names.length ≤ 65536) :
    Calls Tryz.prog 42 #[.agg (typCells x p).toArray, .agg (typCells y q).toArray] w fun e w' => e = .returned (.bool (smY x y)) ∧ Below w.heap.size w w' := by
  have hB := ((Below.refl w.heap.size w).alloc (Nat.le_refl _) (.cells (typCells x p).toArray 47)).alloc (by simp) (.cells (typCells y q).toArray 47)
  obtain ⟨r, hr⟩ : ∃ r, smY x y = r := ⟨_, rfl⟩
  rw [hr]
  have k53 := fun W (hW : Below w.heap.size w W) => seq_any p.a3 q.a3 p.c3 q.c3 x.names y.names W (rd_kept hx hW) (rd_kept hy hW) (by omega) (by omega)
  obtain ⟨c0, h0⟩ : ∃ c, (x.kind == y.kind) = c := ⟨_, rfl⟩
  have g0 : (x.kind = y.kind) ↔ c0 = true := by rw [← h0, beq_iff_eq]
  obtain ⟨c1, h1⟩ : ∃ c, (x.name.toList == y.name.toList) = c := ⟨_, rfl⟩
  have g1 : (x.name = y.name) ↔ c1 = true := by rw [← h1, beq_iff_eq]; exact ⟨fun e => by rw [e], toList_inj⟩
  obtain ⟨c2, h2⟩ : ∃ c, (x.opn == y.opn) = c := ⟨_, rfl⟩
  have g2 : (x.opn = y.opn) ↔ c2 = true := by rw [← h2, beq_iff_eq]
  obtain ⟨c3, h3⟩ : ∃ c, decide (x.names = y.names) = c := ⟨_, rfl⟩
  rw [h3] at k53
  have g3 : (x.names = y.names) ↔ c3 = true := by rw [← h3, decide_eq_true_eq]
  have hR : r = (c0 && c1 && c2 && c3) := by
    rw [← hr]
    unfold smY
    simp only [g0, g1, g2, g3, Bool.decide_and, Bool.decide_eq_true, Bool.and_assoc]
  have HB := Lib.hid hB
  clear hB hr hx hy g0 g1 g2 g3
  unfold typCells at HB ⊢
  cases c0
  · have hf : r = false := by rw [hR]; simp
    subst hf
    clear hR
    go_enter Tryz.func42, Tryz.ntmps42
    go_wp2
    go_ret
    exact ⟨rfl, HB.out⟩
  · skip
    cases c1
    · have hf : r = false := by rw [hR]; simp
      subst hf
      clear hR
      go_enter Tryz.func42, Tryz.ntmps42
      go_wp2
      go_ret
      exact ⟨rfl, HB.out⟩
    · skip
      cases c2
      · have hf : r = false := by rw [hR]; simp
        subst hf
        clear hR
        go_enter Tryz.func42, Tryz.ntmps42
        go_wp2
        go_ret
        exact ⟨rfl, HB.out⟩
      · skip
        cases c3
        · have hf : r = false := by rw [hR]; simp
          subst hf
          clear hR
          go_enter Tryz.func42, Tryz.ntmps42
          go_wp2_with (go_at_call 65; refine (k53 _ (by exact HB.out)).mono ?_; rintro e w3 ⟨rfl, hb3⟩; have hb4 := HB.out.trans (hb3.mono (by simp; omega)); clear hb3)
          go_ret
          exact ⟨rfl, hb4⟩
        · have hf : r = true := by rw [hR]; rfl
          subst hf
          clear hR
          go_enter Tryz.func42, Tryz.ntmps42
          go_wp2_with (go_at_call 65; refine (k53 _ (by exact HB.out)).mono ?_; rintro e w3 ⟨rfl, hb3⟩; have hb4 := HB.out.trans (hb3.mono (by simp; omega)); clear hb3)
          go_ret
          exact ⟨rfl, hb4⟩
end Go.Proofs.YtinajnkjfhbmkaaGreatDoor

namespace Go.Proofs.YtinajnkjfhbmkaaGreatDoor
open Go Go.Proofs Go.RowKit

theorem all2_get {α β : Type} {f : α → β → Bool} : ∀ {xs : List α} {ys : List β}, all2 f xs ys = true → ∀ (k : Nat) (hx : k < xs.length) (hy : k < ys.length), f xs[k] ys[k] = true
  | [], _, _, k, hx, _ => absurd hx (by simp)
  | _ :: _, [], _, k, _, hy => absurd hy (by simp)
  | x :: xs, y :: ys, h, 0, _, _ => by simp only [all2, Bool.and_eq_true] at h; exact h.1
  | x :: xs, y :: ys, h, k + 1, hx, hy => by
    simp only [all2, Bool.and_eq_true] at h
    exact all2_get h.2 k (by simpa using hx) (by simpa using hy)
theorem all2_take {α β : Type} {f : α → β → Bool} {xs : List α} {ys : List β} {k : Nat} (hx : k < xs.length) (hy : k < ys.length) (h : all2 f (xs.take k) (ys.take k) = true) (hf : f xs[k] ys[k] = true) : all2 f (xs.take (k + 1)) (ys.take (k + 1)) = true := by
  rw [List.take_succ_eq_append_getElem hx, List.take_succ_eq_append_getElem hy, all2_append (by simp; omega), h]
  simp [all2, hf]
theorem all2_bad {α β : Type} {f : α → β → Bool} {xs : List α} {ys : List β} {k : Nat} (hx : k < xs.length) (hy : k < ys.length) (hf : f xs[k] ys[k] = false) : all2 f xs ys = false := by
  cases h : all2 f xs ys with
  | false => rfl
  | true => rw [all2_get h k hx hy] at hf; cases hf
theorem all2_long {α β : Type} {f : α → β → Bool} {xs : List α} {ys : List β} (h : xs.length ≠ ys.length) : all2 f xs ys = false := by
  cases h' : all2 f xs ys with
  | false => rfl
  | true => exact absurd (all2_length h') h

theorem nz_at {W : World} {A : Option Addr} {xs : List Nat} {k : Nat} (h : RdAt W A ((nz xs).map iv)) (hk : k < xs.length) : ∃ b off, A = some ⟨b, off, none⟩ ∧ W.cell? ⟨b, off + k, none⟩ = some (.int .i64 (xs[k] : Int)) := by
  obtain ⟨b, off, e, hc⟩ := rd_at h (k := k) (by simpa using hk)
  exact ⟨b, off, e, by rw [hc]; simp⟩

set_option maxRecDepth 100000 in
set_option maxHeartbeats 4000000 in
theorem eqF_any (fk : Nat) (hfk : fk = 36 ∨ fk = 41) (d1 d2 : Value) (f : Nat → Nat → Bool) (A1 A2 : Option Addr) (k1 k2 : Nat) (xs ys : List Nat) (w : World)
    (hx : SlAt (Lt w.heap.size) w A1 xs.length ((nz xs).map iv)) (hy : SlAt (Lt w.heap.size) w A2 ys.length ((nz ys).map iv)) (bx : xs.length ≤ 140737488351232) (bz : ys.length ≤ 140737488351232)
    (hk : ∀ i ∈ xs, ∀ j ∈ ys, ∀ W, Below w.heap.size w W → Calls Tryz.prog fk #[.int .i64 (i : Int), .int .i64 (j : Int), d1, d2] W fun e W' => e = .returned (.bool (f i j)) ∧ Below W.heap.size W W') :
    Calls Tryz.prog 35 #[.slice A1 xs.length k1, .slice A2 ys.length k2, .func (.func fk) #[] #[d1, d2]] w fun e w' => e = .returned (.bool (all2 f xs ys)) ∧ Below w.heap.size w w' := by
  obtain ⟨r, hr⟩ : ∃ r, all2 f xs ys = r := ⟨_, rfl⟩
  rw [hr]
  have HR := Lib.hid hr
  have HK := Lib.hid hk
  have HX := Lib.hid hx
  have HY := Lib.hid hy
  have hB0 := Below.refl w.heap.size w
  clear hr hk hx hy
  by_cases hlen : xs.length = ys.length
  · obtain ⟨n, hn⟩ : ∃ n, ys.length = n := ⟨_, rfl⟩
    rw [hn] at hlen bz ⊢
    rw [hlen] at bx ⊢
    have HLX := Lib.hid hlen
    have HLY := Lib.hid hn
    clear hlen hn
    have hne : ((n : Int) != (n : Int)) = false := by simp
    go_enter Tryz.func35, Tryz.ntmps35
    go_wp2
    go_loopw [7, 8, 9, 17] (fun _ _ _ i wr => ∃ k : Nat, k ≤ n ∧ i = .int .i64 k ∧ Hid (all2 f (xs.take k) (ys.take k) = true) ∧ Below w.heap.size w wr) (fun _ _ _ i _ => n - (intOf i).toNat)
    case atStart => exact ⟨0, Nat.zero_le _, rfl, Lib.hid (by simp [all2]), hB0⟩
    case round =>
      obtain ⟨k, hk, rfl, HT, hB⟩ := hrel
      by_cases hlt : k < n
      · have lx : k < xs.length := by rw [HLX.out]; exact hlt
        have ly : k < ys.length := by rw [HLY.out]; exact hlt
        obtain ⟨b, off, rfl, f1⟩ := nz_at (rd_kept HX.out hB) lx
        obtain ⟨b', off', rfl, f2⟩ := nz_at (rd_kept HY.out hB) ly
        have kC := HK.out _ (List.getElem_mem lx) _ (List.getElem_mem ly) wr hB
        have hgood := Lib.hid (all2_take lx ly HT.out)
        have hbad := Lib.hid (all2_bad (f := f) lx ly)
        obtain ⟨x, hxk⟩ : ∃ x, xs[k] = x := ⟨_, rfl⟩
        obtain ⟨y, hyk⟩ : ∃ y, ys[k] = y := ⟨_, rfl⟩
        rw [hxk] at f1 kC hgood hbad
        rw [hyk] at f2 kC hgood hbad
        obtain ⟨c, hc⟩ : ∃ c, f x y = c := ⟨_, rfl⟩
        rw [hc] at kC hgood hbad
        have i1 : (0 : Int) ≤ (k : Int) := by omega
        have i2 : (k : Int) < (n : Int) := by omega
        clear hxk hyk hc
        cases c
        · have HF := Lib.hid (HR.out.symm.trans (hbad.out rfl))
          rcases hfk with rfl | rfl
          all_goals
            go_wp2_with fail
            refine kC.mono ?_
            rintro e w3 ⟨rfl, hb3⟩
            have hB3 := hB.trans (hb3.mono hB.size)
            clear kC hb3
            go_wp2
            go_ret
            exact ⟨ret_bool HF.out.symm, hB3⟩
        · have HG := Lib.hid (hgood.out rfl)
          rcases hfk with rfl | rfl
          all_goals
            go_wp2_with fail
            refine kC.mono ?_
            rintro e w3 ⟨rfl, hb3⟩
            have hB3 := hB.trans (hb3.mono hB.size)
            clear kC hb3
            go_wp2
            go_roundw
            case rel => exact ⟨k + 1, by omega, by go_num, HG, hB3⟩
            case measure => simp [intOf]; omega
      · obtain rfl : k = n := by omega
        have hT : r = true := by
          rw [← HR.out]
          have := HT.out
          rwa [List.take_of_length_le (Nat.le_of_eq HLX.out), List.take_of_length_le (Nat.le_of_eq HLY.out)] at this
        have HF := Lib.hid hT
        clear hT
        go_wp2
        go_ret
        exact ⟨ret_bool HF.out.symm, hB⟩
  · have HF := Lib.hid (HR.out.symm.trans (all2_long (f := f) hlen))
    have hne : ((xs.length : Int) != (ys.length : Int)) = true := by rw [bne_iff_ne]; omega
    go_enter Tryz.func35, Tryz.ntmps35
    go_wp2
    go_ret
    exact ⟨ret_bool HF.out.symm, hB0⟩

set_option maxRecDepth 100000 in
set_option maxHeartbeats 4000000 in
theorem eqA_any (A1 A2 : Option Addr) (k1 k2 : Nat) (xs ys : List AliD) (w : World)
    (hx : AlisAt (Lt w.heap.size) w A1 xs) (hy : AlisAt (Lt w.heap.size) w A2 ys) (bx : xs.length ≤ 140737488351232) (bz : ys.length ≤ 140737488351232) :
    Calls Tryz.prog 38 #[.slice A1 xs.length k1, .slice A2 ys.length k2, .func (.func 39) #[] #[]] w fun e w' => e = .returned (.bool (all2 smA xs ys)) ∧ Below w.heap.size w w' := by
  obtain ⟨r, hr⟩ : ∃ r, all2 smA xs ys = r := ⟨_, rfl⟩
  rw [hr]
  have HR := Lib.hid hr
  have HX := Lib.hid hx
  have HY := Lib.hid hy
  have hB0 := Below.refl w.heap.size w
  clear hr hx hy
  by_cases hlen : xs.length = ys.length
  · obtain ⟨n, hn⟩ : ∃ n, ys.length = n := ⟨_, rfl⟩
    rw [hn] at hlen bz ⊢
    rw [hlen] at bx ⊢
    have HLX := Lib.hid hlen
    have HLY := Lib.hid hn
    clear hlen hn
    have hne : ((n : Int) != (n : Int)) = false := by simp
    go_enter Tryz.func38, Tryz.ntmps38
    go_wp2
    go_loopw [7, 8, 9, 17] (fun _ _ _ i wr => ∃ k : Nat, k ≤ n ∧ i = .int .i64 k ∧ Hid (all2 smA (xs.take k) (ys.take k) = true) ∧ Below w.heap.size w wr) (fun _ _ _ i _ => n - (intOf i).toNat)
    case atStart => exact ⟨0, Nat.zero_le _, rfl, Lib.hid (by simp [all2]), hB0⟩
    case round =>
      obtain ⟨k, hk, rfl, HT, hB⟩ := hrel
      have hzr := hB.size
      by_cases hlt : k < n
      · have lx : k < xs.length := by rw [HLX.out]; exact hlt
        have ly : k < ys.length := by rw [HLY.out]; exact hlt
        obtain ⟨b, off, rfl, hb, hcx⟩ := HX.out (by omega)
        obtain ⟨b', off', rfl, hb', hcy⟩ := HY.out (by omega)
        have hqx := hcx k _ (List.getElem?_eq_getElem lx)
        have hqy := hcy k _ (List.getElem?_eq_getElem ly)
        have hgood := Lib.hid (all2_take lx ly HT.out)
        have hbad := Lib.hid (all2_bad (f := smA) lx ly)
        obtain ⟨x, hxk⟩ : ∃ x, xs[k] = x := ⟨_, rfl⟩
        obtain ⟨y, hyk⟩ : ∃ y, ys[k] = y := ⟨_, rfl⟩
        rw [hxk] at hqx hgood hbad
        rw [hyk] at hqy hgood hbad
        have e0 := (hB.cell (p := ⟨b, off + k * 3, none⟩) hb).trans (hqx 0 _ rfl)
        have e1 := (hB.cell (p := ⟨b, off + k * 3 + 1, none⟩) hb).trans (hqx 1 _ rfl)
        have e2 := (hB.cell (p := ⟨b, off + k * 3 + 2, none⟩) hb).trans (hqx 2 _ rfl)
        have g0 := (hB.cell (p := ⟨b', off' + k * 3, none⟩) hb').trans (hqy 0 _ rfl)
        have g1 := (hB.cell (p := ⟨b', off' + k * 3 + 1, none⟩) hb').trans (hqy 1 _ rfl)
        have g2 := (hB.cell (p := ⟨b', off' + k * 3 + 2, none⟩) hb').trans (hqy 2 _ rfl)
        have lb1 : b < wr.heap.size := Nat.lt_of_lt_of_le hb hzr
        have lb2 : b' < wr.heap.size := Nat.lt_of_lt_of_le hb' hzr
        clear hcx hcy hqx hqy hxk hyk
        have kC := fun W => smA_any x y W
        obtain ⟨c, hc⟩ : ∃ c, smA x y = c := ⟨_, rfl⟩
        rw [hc] at kC hgood hbad
        unfold aliCells at kC
        have i1 : (0 : Int) ≤ (k : Int) := by omega
        have i2 : (k : Int) < (n : Int) := by omega
        clear hc
        cases c
        · have HF := Lib.hid (HR.out.symm.trans (hbad.out rfl))
          go_wp2_with fail
          refine (kC _).mono ?_
          rintro e w3 ⟨rfl, hb3⟩
          have hB3 : Below w.heap.size w w3 := ((hB.alloc (by omega) _).alloc (by simp; omega) _).trans (hb3.mono (by simp; omega))
          clear kC hb3 e0 e1 e2 g0 g1 g2
          go_wp2
          go_ret
          exact ⟨ret_bool HF.out.symm, hB3⟩
        · have HG := Lib.hid (hgood.out rfl)
          go_wp2_with fail
          refine (kC _).mono ?_
          rintro e w3 ⟨rfl, hb3⟩
          have hB3 : Below w.heap.size w w3 := ((hB.alloc (by omega) _).alloc (by simp; omega) _).trans (hb3.mono (by simp; omega))
          clear kC hb3 e0 e1 e2 g0 g1 g2
          go_wp2
          go_roundw
          case rel => exact ⟨k + 1, by omega, by go_num, HG, hB3⟩
          case measure => simp [intOf]; omega
      · obtain rfl : k = n := by omega
        have hT : r = true := by
          rw [← HR.out]
          have := HT.out
          rwa [List.take_of_length_le (Nat.le_of_eq HLX.out), List.take_of_length_le (Nat.le_of_eq HLY.out)] at this
        have HF := Lib.hid hT
        clear hT
        go_wp2
        go_ret
        exact ⟨ret_bool HF.out.symm, hB⟩
  · have HF := Lib.hid (HR.out.symm.trans (all2_long (f := smA) hlen))
    have hne : ((xs.length : Int) != (ys.length : Int)) = true := by rw [bne_iff_ne]; omega
    go_enter Tryz.func38, Tryz.ntmps38
    go_wp2
    go_ret
    exact ⟨ret_bool HF.out.symm, hB0⟩

set_option maxRecDepth 100000 in
set_option maxHeartbeats 4000000 in
theorem cl35_any (a b : TreeD) (p q : Ptr6) (Ba Bb i j : Nat) (W : World) (hA : Blk W Ba 26 #[.slice p.a1 a.nodes.length p.c1, .slice p.a2 a.types.length p.c2, .slice p.a3 a.aliases.length p.c3]) (hB : Blk W Bb 26 #[.slice q.a1 b.nodes.length q.c1, .slice q.a2 b.types.length q.c2, .slice q.a3 b.aliases.length q.c3])
    (hN : NodesAt (Lt W.heap.size) W p.a1 a.nodes) (hM : NodesAt (Lt W.heap.size) W q.a1 b.nodes) (hi : i < a.nodes.length) (hj : j < b.nodes.length) (bi : a.nodes.length ≤ 1000) (bj : b.nodes.length ≤ 1000)
    (fa : ∀ x ∈ a.nodes, x.names.length ≤ 1000) (fb : ∀ x ∈ b.nodes, x.names.length ≤ 1000) :
    Calls Tryz.prog 36 #[.int .i64 (i : Int), .int .i64 (j : Int), .pointer (some ⟨Ba, 0, none⟩), .pointer (some ⟨Bb, 0, none⟩)] W fun e W' => e = .returned (.bool (atT a b i j)) ∧ Below W.heap.size W W' := by
  obtain ⟨b1, off, hp, hb, hcell⟩ := hN (by omega)
  obtain ⟨b2, off', hq, hb', hcell'⟩ := hM (by omega)
  have hx := List.getElem?_eq_getElem hi
  have hy := List.getElem?_eq_getElem hj
  obtain ⟨u, hu, hcu⟩ := hcell i _ hx
  obtain ⟨v, hv, hcv⟩ := hcell' j _ hy
  have fx := fa _ (List.getElem_mem hi)
  have fy := fb _ (List.getElem_mem hj)
  have hat : atT a b i j = smT a.nodes[i] b.nodes[j] := by unfold atT; rw [hx, hy]
  rw [hat]
  have x0 := hA.cell 0
  have y0 := hB.cell 0
  simp only [List.getElem?_toArray, List.getElem?_cons_zero] at x0 y0
  rw [hp] at x0
  rw [hq] at y0
  obtain ⟨x, hx'⟩ : ∃ x, a.nodes[i] = x := ⟨_, rfl⟩
  obtain ⟨y, hy'⟩ : ∃ y, b.nodes[j] = y := ⟨_, rfl⟩
  rw [hx'] at hu hcu fx ⊢
  rw [hy'] at hv hcv fy ⊢
  have kC : ∀ w, Below W.heap.size W w → Calls Tryz.prog 37 #[.agg (termCells x u).toArray, .agg (termCells y v).toArray] w fun e w' => e = .returned (.bool (smT x y)) ∧ Below W.heap.size W w' := fun w hw =>
    (smT_any x y u v w ((hu.1.keep (keep_below hw)).imp (lt_mono hw.size)) ((hv.1.keep (keep_below hw)).imp (lt_mono hw.size)) (by omega) (by omega)).mono fun e w' h => ⟨h.1, hw.trans (h.2.mono hw.size)⟩
  unfold termCells at kC
  have e0 := hcu 0 _ rfl
  have g0 := hcv 0 _ rfl
  have e1 := hcu 1 _ rfl
  have g1 := hcv 1 _ rfl
  have e2 := hcu 2 _ rfl
  have g2 := hcv 2 _ rfl
  have e3 := hcu 3 _ rfl
  have g3 := hcv 3 _ rfl
  have e4 := hcu 4 _ rfl
  have g4 := hcv 4 _ rfl
  have e5 := hcu 5 _ rfl
  have g5 := hcv 5 _ rfl
  have e6 := hcu 6 _ rfl
  have g6 := hcv 6 _ rfl
  have e7 := hcu 7 _ rfl
  have g7 := hcv 7 _ rfl
  have hB0 := Below.refl W.heap.size W
  have i1 : (0 : Int) ≤ (i : Int) := by omega
  have i2 : (i : Int) < (a.nodes.length : Int) := by omega
  have j1 : (0 : Int) ≤ (j : Int) := by omega
  have j2 : (j : Int) < (b.nodes.length : Int) := by omega
  have hs : (fun w' : World => w'.cell? ⟨Ba, 0, none⟩ = some (.slice (some ⟨b1, off, none⟩) a.nodes.length p.c1) ∧ w'.cell? ⟨Bb, 0, none⟩ = some (.slice (some ⟨b2, off', none⟩) b.nodes.length q.c1) ∧ w'.cell? ⟨b1, off + i * 8, none⟩ = some (.int .i64 x.kind) ∧ w'.cell? ⟨b1, off + i * 8 + 1, none⟩ = some (.int .i64 x.pos) ∧ w'.cell? ⟨b1, off + i * 8 + 2, none⟩ = some (.string x.name) ∧ w'.cell? ⟨b1, off + i * 8 + 3, none⟩ = some (.int .i64 x.int) ∧ w'.cell? ⟨b1, off + i * 8 + 4, none⟩ = some (.int .u64 (x.bits : Int)) ∧ w'.cell? ⟨b1, off + i * 8 + 5, none⟩ = some (.slice u.a5 x.names.length u.c5) ∧ w'.cell? ⟨b1, off + i * 8 + 6, none⟩ = some (.slice u.a6 x.kids.length u.c6) ∧ w'.cell? ⟨b1, off + i * 8 + 7, none⟩ = some (.slice u.a7 x.types.length u.c7) ∧ w'.cell? ⟨b2, off' + j * 8, none⟩ = some (.int .i64 y.kind) ∧ w'.cell? ⟨b2, off' + j * 8 + 1, none⟩ = some (.int .i64 y.pos) ∧ w'.cell? ⟨b2, off' + j * 8 + 2, none⟩ = some (.string y.name) ∧ w'.cell? ⟨b2, off' + j * 8 + 3, none⟩ = some (.int .i64 y.int) ∧ w'.cell? ⟨b2, off' + j * 8 + 4, none⟩ = some (.int .u64 (y.bits : Int)) ∧ w'.cell? ⟨b2, off' + j * 8 + 5, none⟩ = some (.slice v.a5 y.names.length v.c5) ∧ w'.cell? ⟨b2, off' + j * 8 + 6, none⟩ = some (.slice v.a6 y.kids.length v.c6) ∧ w'.cell? ⟨b2, off' + j * 8 + 7, none⟩ = some (.slice v.a7 y.types.length v.c7) ∧ Below W.heap.size W w') W := ⟨x0, y0, e0, e1, e2, e3, e4, e5, e6, e7, g0, g1, g2, g3, g4, g5, g6, g7, hB0⟩
  have hlA := hA.lt
  have hlB := hB.lt
  have HK := Lib.hid kC
  have hkeep : ∀ w, Below W.heap.size W w → (fun w' : World => w'.cell? ⟨Ba, 0, none⟩ = some (.slice (some ⟨b1, off, none⟩) a.nodes.length p.c1) ∧ w'.cell? ⟨Bb, 0, none⟩ = some (.slice (some ⟨b2, off', none⟩) b.nodes.length q.c1) ∧ w'.cell? ⟨b1, off + i * 8, none⟩ = some (.int .i64 x.kind) ∧ w'.cell? ⟨b1, off + i * 8 + 1, none⟩ = some (.int .i64 x.pos) ∧ w'.cell? ⟨b1, off + i * 8 + 2, none⟩ = some (.string x.name) ∧ w'.cell? ⟨b1, off + i * 8 + 3, none⟩ = some (.int .i64 x.int) ∧ w'.cell? ⟨b1, off + i * 8 + 4, none⟩ = some (.int .u64 (x.bits : Int)) ∧ w'.cell? ⟨b1, off + i * 8 + 5, none⟩ = some (.slice u.a5 x.names.length u.c5) ∧ w'.cell? ⟨b1, off + i * 8 + 6, none⟩ = some (.slice u.a6 x.kids.length u.c6) ∧ w'.cell? ⟨b1, off + i * 8 + 7, none⟩ = some (.slice u.a7 x.types.length u.c7) ∧ w'.cell? ⟨b2, off' + j * 8, none⟩ = some (.int .i64 y.kind) ∧ w'.cell? ⟨b2, off' + j * 8 + 1, none⟩ = some (.int .i64 y.pos) ∧ w'.cell? ⟨b2, off' + j * 8 + 2, none⟩ = some (.string y.name) ∧ w'.cell? ⟨b2, off' + j * 8 + 3, none⟩ = some (.int .i64 y.int) ∧ w'.cell? ⟨b2, off' + j * 8 + 4, none⟩ = some (.int .u64 (y.bits : Int)) ∧ w'.cell? ⟨b2, off' + j * 8 + 5, none⟩ = some (.slice v.a5 y.names.length v.c5) ∧ w'.cell? ⟨b2, off' + j * 8 + 6, none⟩ = some (.slice v.a6 y.kids.length v.c6) ∧ w'.cell? ⟨b2, off' + j * 8 + 7, none⟩ = some (.slice v.a7 y.types.length v.c7) ∧ Below W.heap.size W w') w := fun w hw => ⟨(hw.cell (p := ⟨Ba, 0, none⟩) hlA).trans x0, (hw.cell (p := ⟨Bb, 0, none⟩) hlB).trans y0, (hw.cell (p := ⟨b1, _, none⟩) hb).trans e0, (hw.cell (p := ⟨b1, _, none⟩) hb).trans e1, (hw.cell (p := ⟨b1, _, none⟩) hb).trans e2, (hw.cell (p := ⟨b1, _, none⟩) hb).trans e3, (hw.cell (p := ⟨b1, _, none⟩) hb).trans e4, (hw.cell (p := ⟨b1, _, none⟩) hb).trans e5, (hw.cell (p := ⟨b1, _, none⟩) hb).trans e6, (hw.cell (p := ⟨b1, _, none⟩) hb).trans e7, (hw.cell (p := ⟨b2, _, none⟩) hb').trans g0, (hw.cell (p := ⟨b2, _, none⟩) hb').trans g1, (hw.cell (p := ⟨b2, _, none⟩) hb').trans g2, (hw.cell (p := ⟨b2, _, none⟩) hb').trans g3, (hw.cell (p := ⟨b2, _, none⟩) hb').trans g4, (hw.cell (p := ⟨b2, _, none⟩) hb').trans g5, (hw.cell (p := ⟨b2, _, none⟩) hb').trans g6, (hw.cell (p := ⟨b2, _, none⟩) hb').trans g7, hw⟩
  have HS := Lib.hid hkeep
  clear hA hB hN hM hcell hcell' hu hv hcu hcv hx hy hat fx fy fa fb hp hq hx' hy' hs hkeep kC e0 g0 e1 g1 e2 g2 e3 g3 e4 g4 e5 g5 e6 g6 e7 g7
  go_enter Tryz.func36, Tryz.ntmps36
  go_wp2_with fail
  go_region_held3 (fun w' => w'.cell? ⟨Ba, 0, none⟩ = some (.slice (some ⟨b1, off, none⟩) a.nodes.length p.c1) ∧ w'.cell? ⟨Bb, 0, none⟩ = some (.slice (some ⟨b2, off', none⟩) b.nodes.length q.c1) ∧ w'.cell? ⟨b1, off + i * 8, none⟩ = some (.int .i64 x.kind) ∧ w'.cell? ⟨b1, off + i * 8 + 1, none⟩ = some (.int .i64 x.pos) ∧ w'.cell? ⟨b1, off + i * 8 + 2, none⟩ = some (.string x.name) ∧ w'.cell? ⟨b1, off + i * 8 + 3, none⟩ = some (.int .i64 x.int) ∧ w'.cell? ⟨b1, off + i * 8 + 4, none⟩ = some (.int .u64 (x.bits : Int)) ∧ w'.cell? ⟨b1, off + i * 8 + 5, none⟩ = some (.slice u.a5 x.names.length u.c5) ∧ w'.cell? ⟨b1, off + i * 8 + 6, none⟩ = some (.slice u.a6 x.kids.length u.c6) ∧ w'.cell? ⟨b1, off + i * 8 + 7, none⟩ = some (.slice u.a7 x.types.length u.c7) ∧ w'.cell? ⟨b2, off' + j * 8, none⟩ = some (.int .i64 y.kind) ∧ w'.cell? ⟨b2, off' + j * 8 + 1, none⟩ = some (.int .i64 y.pos) ∧ w'.cell? ⟨b2, off' + j * 8 + 2, none⟩ = some (.string y.name) ∧ w'.cell? ⟨b2, off' + j * 8 + 3, none⟩ = some (.int .i64 y.int) ∧ w'.cell? ⟨b2, off' + j * 8 + 4, none⟩ = some (.int .u64 (y.bits : Int)) ∧ w'.cell? ⟨b2, off' + j * 8 + 5, none⟩ = some (.slice v.a5 y.names.length v.c5) ∧ w'.cell? ⟨b2, off' + j * 8 + 6, none⟩ = some (.slice v.a6 y.kids.length v.c6) ∧ w'.cell? ⟨b2, off' + j * 8 + 7, none⟩ = some (.slice v.a7 y.types.length v.c7) ∧ Below W.heap.size W w')
    (exact HS.out _ (by repeat (first | exact hb6 | exact hB0 | refine Below.drew ?_)))
    (first | (go_at_call 37; (with_reducible refine (HK.out _ (by repeat (first | exact hB0 | refine Below.drew ?_))).mono ?_); rintro e w6 ⟨rfl, hb6⟩))
  go_wp2
  go_ret
  exact ⟨rfl, hb6⟩

set_option maxRecDepth 100000 in
set_option maxHeartbeats 4000000 in
theorem cl40_any (a b : TreeD) (p q : Ptr6) (Ba Bb i j : Nat) (W : World) (hA : Blk W Ba 26 #[.slice p.a1 a.nodes.length p.c1, .slice p.a2 a.types.length p.c2, .slice p.a3 a.aliases.length p.c3]) (hB : Blk W Bb 26 #[.slice q.a1 b.nodes.length q.c1, .slice q.a2 b.types.length q.c2, .slice q.a3 b.aliases.length q.c3])
    (hN : TypsAt (Lt W.heap.size) W p.a2 a.types) (hM : TypsAt (Lt W.heap.size) W q.a2 b.types) (hi : i < a.types.length) (hj : j < b.types.length) (bi : a.types.length ≤ 1000) (bj : b.types.length ≤ 1000)
    (fa : ∀ x ∈ a.types, x.names.length ≤ 1000) (fb : ∀ x ∈ b.types, x.names.length ≤ 1000) :
    Calls Tryz.prog 41 #[.int .i64 (i : Int), .int .i64 (j : Int), .pointer (some ⟨Ba, 0, none⟩), .pointer (some ⟨Bb, 0, none⟩)] W fun e W' => e = .returned (.bool (atY a b i j)) ∧ Below W.heap.size W W' := by
  obtain ⟨b1, off, hp, hb, hcell⟩ := hN (by omega)
  obtain ⟨b2, off', hq, hb', hcell'⟩ := hM (by omega)
  have hx := List.getElem?_eq_getElem hi
  have hy := List.getElem?_eq_getElem hj
  obtain ⟨u, hu, hcu⟩ := hcell i _ hx
  obtain ⟨v, hv, hcv⟩ := hcell' j _ hy
  have fx := fa _ (List.getElem_mem hi)
  have fy := fb _ (List.getElem_mem hj)
  have hat : atY a b i j = smY a.types[i] b.types[j] := by unfold atY; rw [hx, hy]
  rw [hat]
  have x0 := hA.cell 1
  have y0 := hB.cell 1
  simp only [List.getElem?_toArray, List.getElem?_cons_zero, List.getElem?_cons_succ] at x0 y0
  rw [hp] at x0
  rw [hq] at y0
  obtain ⟨x, hx'⟩ : ∃ x, a.types[i] = x := ⟨_, rfl⟩
  obtain ⟨y, hy'⟩ : ∃ y, b.types[j] = y := ⟨_, rfl⟩
  rw [hx'] at hu hcu fx ⊢
  rw [hy'] at hv hcv fy ⊢
  have kC : ∀ w, Below W.heap.size W w → Calls Tryz.prog 42 #[.agg (typCells x u).toArray, .agg (typCells y v).toArray] w fun e w' => e = .returned (.bool (smY x y)) ∧ Below W.heap.size W w' := fun w hw =>
    (smY_any x y u v w ((hu.1.keep (keep_below hw)).imp (lt_mono hw.size)) ((hv.1.keep (keep_below hw)).imp (lt_mono hw.size)) (by omega) (by omega)).mono fun e w' h => ⟨h.1, hw.trans (h.2.mono hw.size)⟩
  unfold typCells at kC
  have e0 := hcu 0 _ rfl
  have g0 := hcv 0 _ rfl
  have e1 := hcu 1 _ rfl
  have g1 := hcv 1 _ rfl
  have e2 := hcu 2 _ rfl
  have g2 := hcv 2 _ rfl
  have e3 := hcu 3 _ rfl
  have g3 := hcv 3 _ rfl
  have e4 := hcu 4 _ rfl
  have g4 := hcv 4 _ rfl
  have e5 := hcu 5 _ rfl
  have g5 := hcv 5 _ rfl
  have hB0 := Below.refl W.heap.size W
  have i1 : (0 : Int) ≤ (i : Int) := by omega
  have i2 : (i : Int) < (a.types.length : Int) := by omega
  have j1 : (0 : Int) ≤ (j : Int) := by omega
  have j2 : (j : Int) < (b.types.length : Int) := by omega
  have hs : (fun w' : World => w'.cell? ⟨Ba, 1, none⟩ = some (.slice (some ⟨b1, off, none⟩) a.types.length p.c2) ∧ w'.cell? ⟨Bb, 1, none⟩ = some (.slice (some ⟨b2, off', none⟩) b.types.length q.c2) ∧ w'.cell? ⟨b1, off + i * 6, none⟩ = some (.int .i64 x.kind) ∧ w'.cell? ⟨b1, off + i * 6 + 1, none⟩ = some (.int .i64 x.pos) ∧ w'.cell? ⟨b1, off + i * 6 + 2, none⟩ = some (.string x.name) ∧ w'.cell? ⟨b1, off + i * 6 + 3, none⟩ = some (.slice u.a3 x.names.length u.c3) ∧ w'.cell? ⟨b1, off + i * 6 + 4, none⟩ = some (.slice u.a4 x.kids.length u.c4) ∧ w'.cell? ⟨b1, off + i * 6 + 5, none⟩ = some (.bool x.opn) ∧ w'.cell? ⟨b2, off' + j * 6, none⟩ = some (.int .i64 y.kind) ∧ w'.cell? ⟨b2, off' + j * 6 + 1, none⟩ = some (.int .i64 y.pos) ∧ w'.cell? ⟨b2, off' + j * 6 + 2, none⟩ = some (.string y.name) ∧ w'.cell? ⟨b2, off' + j * 6 + 3, none⟩ = some (.slice v.a3 y.names.length v.c3) ∧ w'.cell? ⟨b2, off' + j * 6 + 4, none⟩ = some (.slice v.a4 y.kids.length v.c4) ∧ w'.cell? ⟨b2, off' + j * 6 + 5, none⟩ = some (.bool y.opn) ∧ Below W.heap.size W w') W := ⟨x0, y0, e0, e1, e2, e3, e4, e5, g0, g1, g2, g3, g4, g5, hB0⟩
  have hlA := hA.lt
  have hlB := hB.lt
  have HK := Lib.hid kC
  have hkeep : ∀ w, Below W.heap.size W w → (fun w' : World => w'.cell? ⟨Ba, 1, none⟩ = some (.slice (some ⟨b1, off, none⟩) a.types.length p.c2) ∧ w'.cell? ⟨Bb, 1, none⟩ = some (.slice (some ⟨b2, off', none⟩) b.types.length q.c2) ∧ w'.cell? ⟨b1, off + i * 6, none⟩ = some (.int .i64 x.kind) ∧ w'.cell? ⟨b1, off + i * 6 + 1, none⟩ = some (.int .i64 x.pos) ∧ w'.cell? ⟨b1, off + i * 6 + 2, none⟩ = some (.string x.name) ∧ w'.cell? ⟨b1, off + i * 6 + 3, none⟩ = some (.slice u.a3 x.names.length u.c3) ∧ w'.cell? ⟨b1, off + i * 6 + 4, none⟩ = some (.slice u.a4 x.kids.length u.c4) ∧ w'.cell? ⟨b1, off + i * 6 + 5, none⟩ = some (.bool x.opn) ∧ w'.cell? ⟨b2, off' + j * 6, none⟩ = some (.int .i64 y.kind) ∧ w'.cell? ⟨b2, off' + j * 6 + 1, none⟩ = some (.int .i64 y.pos) ∧ w'.cell? ⟨b2, off' + j * 6 + 2, none⟩ = some (.string y.name) ∧ w'.cell? ⟨b2, off' + j * 6 + 3, none⟩ = some (.slice v.a3 y.names.length v.c3) ∧ w'.cell? ⟨b2, off' + j * 6 + 4, none⟩ = some (.slice v.a4 y.kids.length v.c4) ∧ w'.cell? ⟨b2, off' + j * 6 + 5, none⟩ = some (.bool y.opn) ∧ Below W.heap.size W w') w := fun w hw => ⟨(hw.cell (p := ⟨Ba, 1, none⟩) hlA).trans x0, (hw.cell (p := ⟨Bb, 1, none⟩) hlB).trans y0, (hw.cell (p := ⟨b1, _, none⟩) hb).trans e0, (hw.cell (p := ⟨b1, _, none⟩) hb).trans e1, (hw.cell (p := ⟨b1, _, none⟩) hb).trans e2, (hw.cell (p := ⟨b1, _, none⟩) hb).trans e3, (hw.cell (p := ⟨b1, _, none⟩) hb).trans e4, (hw.cell (p := ⟨b1, _, none⟩) hb).trans e5, (hw.cell (p := ⟨b2, _, none⟩) hb').trans g0, (hw.cell (p := ⟨b2, _, none⟩) hb').trans g1, (hw.cell (p := ⟨b2, _, none⟩) hb').trans g2, (hw.cell (p := ⟨b2, _, none⟩) hb').trans g3, (hw.cell (p := ⟨b2, _, none⟩) hb').trans g4, (hw.cell (p := ⟨b2, _, none⟩) hb').trans g5, hw⟩
  have HS := Lib.hid hkeep
  clear hA hB hN hM hcell hcell' hu hv hcu hcv hx hy hat fx fy fa fb hp hq hx' hy' hs hkeep kC e0 g0 e1 g1 e2 g2 e3 g3 e4 g4 e5 g5
  go_enter Tryz.func41, Tryz.ntmps41
  go_wp2_with fail
  go_region_held3 (fun w' => w'.cell? ⟨Ba, 1, none⟩ = some (.slice (some ⟨b1, off, none⟩) a.types.length p.c2) ∧ w'.cell? ⟨Bb, 1, none⟩ = some (.slice (some ⟨b2, off', none⟩) b.types.length q.c2) ∧ w'.cell? ⟨b1, off + i * 6, none⟩ = some (.int .i64 x.kind) ∧ w'.cell? ⟨b1, off + i * 6 + 1, none⟩ = some (.int .i64 x.pos) ∧ w'.cell? ⟨b1, off + i * 6 + 2, none⟩ = some (.string x.name) ∧ w'.cell? ⟨b1, off + i * 6 + 3, none⟩ = some (.slice u.a3 x.names.length u.c3) ∧ w'.cell? ⟨b1, off + i * 6 + 4, none⟩ = some (.slice u.a4 x.kids.length u.c4) ∧ w'.cell? ⟨b1, off + i * 6 + 5, none⟩ = some (.bool x.opn) ∧ w'.cell? ⟨b2, off' + j * 6, none⟩ = some (.int .i64 y.kind) ∧ w'.cell? ⟨b2, off' + j * 6 + 1, none⟩ = some (.int .i64 y.pos) ∧ w'.cell? ⟨b2, off' + j * 6 + 2, none⟩ = some (.string y.name) ∧ w'.cell? ⟨b2, off' + j * 6 + 3, none⟩ = some (.slice v.a3 y.names.length v.c3) ∧ w'.cell? ⟨b2, off' + j * 6 + 4, none⟩ = some (.slice v.a4 y.kids.length v.c4) ∧ w'.cell? ⟨b2, off' + j * 6 + 5, none⟩ = some (.bool y.opn) ∧ Below W.heap.size W w')
    (exact HS.out _ (by repeat (first | exact hb6 | exact hB0 | refine Below.drew ?_)))
    (first | (go_at_call 42; (with_reducible refine (HK.out _ (by repeat (first | exact hB0 | refine Below.drew ?_))).mono ?_); rintro e w6 ⟨rfl, hb6⟩))
  go_wp2
  go_ret
  exact ⟨rfl, hb6⟩
end Go.Proofs.YtinajnkjfhbmkaaGreatDoor

namespace Go.Proofs.YtinajnkjfhbmkaaGreatDoor
open Go Go.Proofs Go.RowKit

theorem ownIs {w : World} {base : Nat} {v : Value} {n m : Nat} {xs ys : List Value} (h : w.ownsRow base 3 1 v n xs) (hn : n = m) (hx : xs = ys) : w.ownsRow base 3 1 v m ys := by subst hn; subst hx; exact h

set_option maxRecDepth 100000 in
set_option maxHeartbeats 8000000 in
theorem typesOf_any (t : TreeD) (p : Ptr6) (A : Option Addr) (cp : Nat) (l : List Nat) (w : World) (hT : TreeAt (Lt w.heap.size) w t p) (hF : TreeFew t) (hW : Whole t) (hA : SlAt (Lt w.heap.size) w A l.length ((nz l).map iv)) (hl : ∀ i ∈ l, i < t.nodes.length) (hll : l.length ≤ 1000) :
    Calls Tryz.prog 40 #[treeV t p, .slice A l.length cp] w (CopyPost w (typesL t l).length ((nz (typesL t l)).map iv)) := by
  obtain ⟨i0, hi, hz0, hz1, hz2⟩ := info_parts info3
  obtain ⟨a1, c1, a2, c2, a3, c3⟩ := p
  have hTT := hT
  obtain ⟨tN, tT, tA⟩ := hT
  dsimp only at tN tT tA
  have hn : t.nodes.length ≤ 1000 := hF.2.2.2.2.1
  have hty : t.types.length ≤ 1000 := hF.2.2.2.2.2
  have hal : t.aliases.length ≤ 1000 := hF.2.2.2.1
  obtain ⟨W1, hW1⟩ : ∃ W1, w.alloc (.cells #[.slice a1 t.nodes.length c1, .slice a2 t.types.length c2, .slice a3 t.aliases.length c3] 26) = W1 := ⟨_, rfl⟩
  have hB1 : Below w.heap.size w W1 := by rw [← hW1]; exact (Below.refl _ _).alloc (Nat.le_refl _) _
  have hX : Blk W1 w.heap.size 26 #[.slice a1 t.nodes.length c1, .slice a2 t.types.length c2, .slice a3 t.aliases.length c3] := by rw [← hW1]; exact Blk.new w 26 _
  have x0 := hX.cell 0
  have x1 := hX.cell 1
  have x2 := hX.cell 2
  simp only [List.getElem?_toArray, List.getElem?_cons_zero, List.getElem?_cons_succ] at x0 x1 x2
  have hzX := hX.lt
  have hz1' : W1.heap.size = w.heap.size + 1 := by rw [← hW1]; simp
  have HZ1 := Lib.hid hz1'
  have HX := Lib.hid hX
  have HA := Lib.hid hA
  have HTT := Lib.hid hTT
  have HWH := Lib.hid hW
  have HF := Lib.hid hF
  clear hX hA hTT hW hF hz1'
  go_enter Tryz.func40, Tryz.ntmps40
  go_wp2
  clear hW1
  go_loopw [5, 8, 15] (fun v _ i wr => ∃ k : Nat, k ≤ l.length ∧ i = .int .i64 k ∧ Hid (wr.ownsRow W1.heap.size 3 1 v ((l.take k).flatMap (typesIn t)).length (((l.take k).flatMap (typesIn t)).map iv)) ∧ Below W1.heap.size W1 wr) (fun _ _ i _ => l.length - (intOf i).toNat)
  case atStart => exact ⟨0, Nat.zero_le _, rfl, Lib.hid (by simpa using World.ownsRow_nil _ _ _ _), Below.refl _ _⟩
  case round =>
    obtain ⟨k, hk, rfl, HO, hB⟩ := hrel
    have hzr := hB.size
    have hBw : Below w.heap.size w wr := hB1.trans (hB.mono (by omega))
    have hXr := HX.out.below hB hzX
    have y0 := hXr.cell 0
    have y1 := hXr.cell 1
    have y2 := hXr.cell 2
    simp only [List.getElem?_toArray, List.getElem?_cons_zero, List.getElem?_cons_succ] at y0 y1 y2
    by_cases hlt : k < l.length
    · obtain ⟨bA, oA, rfl, fA⟩ := nz_at (rd_kept HA.out hBw) hlt
      have hin := hl _ (List.getElem_mem hlt)
      have htk : l.take (k + 1) = l.take k ++ [l[k]] := List.take_succ_eq_append_getElem hlt
      obtain ⟨i, hii⟩ : ∃ i, l[k] = i := ⟨_, rfl⟩
      rw [hii] at fA hin htk
      obtain ⟨b, off, rfl, hb, hcell⟩ := tN (by omega)
      have hx := List.getElem?_eq_getElem hin
      obtain ⟨q, hq, hcq⟩ := hcell i _ hx
      have htin : typesIn t i = t.nodes[i].types := by unfold typesIn; rw [hx]
      have e7 := (hBw.cell (p := ⟨b, off + i * 8 + 7, none⟩) hb).trans (hcq 7 _ rfl)
      have hrd := RdAt.of_sl (hq.2.2.keep (keep_below hBw))
      have hfw := HF.out.1 _ (List.getElem_mem hin)
      have hflat : (l.take (k + 1)).flatMap (typesIn t) = (l.take k).flatMap (typesIn t) ++ t.nodes[i].types := by rw [htk, List.flatMap_append, ← htin]; simp
      have hlen : ((l.take k).flatMap (typesIn t)).length ≤ 1000000 := by
        have h1 := flat_le (f := typesIn t) (c := 1000) (l := l.take k) (fun j _ => typesIn_len HF.out j)
        have h2 : (l.take k).length ≤ 1000 := by rw [List.length_take]; omega
        omega
      obtain ⟨x, hx'⟩ : ∃ x, t.nodes[i] = x := ⟨_, rfl⟩
      rw [hx'] at e7 hrd hfw hflat
      have hf5 := hfw.2.2.2.2
      obtain ⟨R, hR⟩ : ∃ R, (l.take k).flatMap (typesIn t) = R := ⟨_, rfl⟩
      rw [hR] at HO hflat hlen
      obtain ⟨A5, d5, hv5⟩ := own_form HO.out
      have HFL := Lib.hid hflat
      have HRD := Lib.hid hrd
      subst hv5
      have i1 : (0 : Int) ≤ (i : Int) := by omega
      have i2 : (i : Int) < (t.nodes.length : Int) := by omega
      clear hcell hcq hq hx hx' htin hii htk hflat hrd hfw hR hXr
      go_wp2_with (at_builtin; refine wpList_app _ rfl _ _ 32 rfl W1.heap.size 3 i0 (.int .i64 0) 1 8 Tryz.underlying32 hi hz0 hz1 hz2 rfl (by decide) (.slice A5 R.length d5) R.length (R.map iv) rfl HO.out q.a7 x.types.length q.c7 (x.types.map iv) rfl (by simp) HRD.out (by intro u hu; obtain ⟨s, _, rfl⟩ := List.mem_map.1 hu; rfl) (by unfold maxLen; omega) (by omega) hzr ?_; intro v' w2 hown2 hgrow2 hloc2; have hB2 := own_grown hB HO.out hgrow2 (Nat.le_refl _) hzr; clear hgrow2 hloc2)
      have HO2 : Hid (w2.ownsRow W1.heap.size 3 1 v' ((l.take (k + 1)).flatMap (typesIn t)).length (((l.take (k + 1)).flatMap (typesIn t)).map iv)) := Lib.hid (ownIs hown2 (by rw [HFL.out, List.length_append]) (by rw [HFL.out, List.map_append]))
      clear hown2
      go_roundw
      case rel => exact ⟨k + 1, by omega, by go_num, HO2, hB2⟩
      case measure => simp [intOf]; omega
    · obtain rfl : k = l.length := by omega
      rw [List.take_length] at HO
      have hlen1 : (l.flatMap (typesIn t)).length ≤ 1000000 := by
        have h1 := flat_le (f := typesIn t) (c := 1000) (l := l) (fun j _ => typesIn_len HF.out j)
        omega
      obtain ⟨R1, hR1⟩ : ∃ R1, l.flatMap (typesIn t) = R1 := ⟨_, rfl⟩
      rw [hR1] at HO hlen1
      have HR1 := Lib.hid hR1
      have HBE := hB
      clear hXr hR1 hlt
      go_wp2
      go_loopw [5, 10, 31] (fun v _ i W => ∃ k : Nat, k ≤ t.aliases.length ∧ i = .int .i64 k ∧ Hid (W.ownsRow W1.heap.size 3 1 v (R1 ++ (t.aliases.take k).map (·.type)).length ((R1 ++ (t.aliases.take k).map (·.type)).map iv)) ∧ Below W1.heap.size W1 W) (fun _ _ i _ => t.aliases.length - (intOf i).toNat)
      case atStart => exact ⟨0, Nat.zero_le _, rfl, Lib.hid (by simpa using HO.out), HBE⟩
      case round =>
        obtain ⟨k, hk, rfl, HO, hB⟩ := hrel
        have hzr := hB.size
        have hBw : Below w.heap.size w wr := hB1.trans (hB.mono (by omega))
        have hXr := HX.out.below hB hzX
        have y0 := hXr.cell 0
        have y1 := hXr.cell 1
        have y2 := hXr.cell 2
        simp only [List.getElem?_toArray, List.getElem?_cons_zero, List.getElem?_cons_succ] at y0 y1 y2
        by_cases hlt : k < t.aliases.length
        · obtain ⟨b, off, rfl, hb, hcell⟩ := tA (by omega)
          have hcq := hcell k _ (List.getElem?_eq_getElem hlt)
          have htk : t.aliases.take (k + 1) = t.aliases.take k ++ [t.aliases[k]] := List.take_succ_eq_append_getElem hlt
          obtain ⟨x, hx'⟩ : ∃ x, t.aliases[k] = x := ⟨_, rfl⟩
          rw [hx'] at hcq htk
          have e0 := (hBw.cell (p := ⟨b, off + k * 3, none⟩) hb).trans (hcq 0 _ rfl)
          have e1 := (hBw.cell (p := ⟨b, off + k * 3 + 1, none⟩) hb).trans (hcq 1 _ rfl)
          have e2 := (hBw.cell (p := ⟨b, off + k * 3 + 2, none⟩) hb).trans (hcq 2 _ rfl)
          have hflat : R1 ++ (t.aliases.take (k + 1)).map (·.type) = (R1 ++ (t.aliases.take k).map (·.type)) ++ [x.type] := by rw [htk]; simp
          have hlen : (R1 ++ (t.aliases.take k).map (·.type)).length ≤ 1001000 := by simp; omega
          obtain ⟨R, hR⟩ : ∃ R, R1 ++ (t.aliases.take k).map (·.type) = R := ⟨_, rfl⟩
          rw [hR] at HO hflat hlen
          obtain ⟨A5, d5, hv5⟩ := own_form HO.out
          have HFL := Lib.hid hflat
          subst hv5
          obtain ⟨Wn, hWn⟩ : ∃ Wn, wr.alloc (.cells #[.string x.name, .int .i64 x.type, .int .i64 x.pos] 55) = Wn := ⟨_, rfl⟩
          have hBn : Below wr.heap.size wr Wn := by rw [← hWn]; exact (Below.refl _ _).alloc (Nat.le_refl _) _
          have hXn : Blk Wn wr.heap.size 55 #[.string x.name, .int .i64 x.type, .int .i64 x.pos] := by rw [← hWn]; exact Blk.new wr 55 _
          have p1 := hXn.cell 1
          simp only [List.getElem?_toArray, List.getElem?_cons_zero, List.getElem?_cons_succ] at p1
          have hzn : Wn.heap.size = wr.heap.size + 1 := by rw [← hWn]; simp
          have HRD := Lib.hid (rd_one Wn (.int .i64 x.type) 3)
          have HON := Lib.hid ((own_below HO.out hBn).alloc (.cells #[.int .i64 x.type] 3))
          have HBN : Hid (Below W1.heap.size W1 (Wn.alloc (.cells #[.int .i64 x.type] 3))) := Lib.hid ((hB.trans (hBn.mono hzr)).alloc (by omega) _)
          have HZN := Lib.hid hzn
          clear hcell hcq hx' htk hflat hR hXr hXn hBn hzn
          go_wp2_with (at_builtin; refine wpList_app _ rfl _ _ 32 rfl W1.heap.size 3 i0 (.int .i64 0) 1 8 Tryz.underlying32 hi hz0 hz1 hz2 rfl (by decide) (.slice A5 R.length d5) R.length (R.map iv) rfl HON.out (some ⟨Wn.heap.size, 0, none⟩) 1 1 [.int .i64 x.type] rfl rfl HRD.out (by simp [Value.oneCell']) (by unfold maxLen; omega) (by omega) (by have := HZN.out; simp; omega) ?_; intro v' w2 hown2 hgrow2 hloc2; have hB2 := own_grown HBN.out HON.out hgrow2 (Nat.le_refl _) (by have := HZN.out; simp; omega); clear hgrow2 hloc2)
          have HO2 : Hid (w2.ownsRow W1.heap.size 3 1 v' (R1 ++ (t.aliases.take (k + 1)).map (·.type)).length ((R1 ++ (t.aliases.take (k + 1)).map (·.type)).map iv)) := Lib.hid (ownIs hown2 (by rw [HFL.out]; simp) (by rw [HFL.out]; simp))
          clear hown2
          go_roundw
          case rel => exact ⟨k + 1, by omega, by go_num, HO2, hB2⟩
          case measure => simp [intOf]; omega
        · obtain rfl : k = t.aliases.length := by omega
          rw [List.take_length] at HO
          have hroots : R1 ++ t.aliases.map (·.type) = rootsL t l := by unfold rootsL; rw [HR1.out]
          rw [hroots] at HO
          obtain ⟨A5, d5, hv5, _, hs5⟩ := SlAt.of_own HO.out
          subst hv5
          have hrl := rootsL_len HF.out hll
          have hrr := rootsL_lt HWH.out.rng l
          have HS5 : Hid (SlAt (Lt wr.heap.size) wr A5 (rootsL t l).length ((rootsL t l).map iv)) := Lib.hid (hs5.imp fun b hb => hb.2)
          obtain ⟨RL, hRL⟩ : ∃ RL, rootsL t l = RL := ⟨_, rfl⟩
          rw [hRL] at hrl hrr HS5
          have HRL := Lib.hid hRL
          rw [hRL]
          have HBE := hB
          obtain ⟨WE, hWE⟩ : ∃ WE, WE = wr := ⟨wr, rfl⟩
          rw [← hWE] at HS5 HBE
          have hzE : W1.heap.size ≤ WE.heap.size := by rw [hWE]; exact hzr
          clear hXr hRL hlt hs5 HO hroots HR1
          go_wp2
          go_loopw [6, 12, 43] (fun v _ i W => ∃ k : Nat, k ≤ RL.length ∧ i = .int .i64 k ∧ Hid (W.ownsRow WE.heap.size 3 1 v ((nats (RL.take k)).flatMap (walk (tyK t))).length ((nz ((nats (RL.take k)).flatMap (walk (tyK t)))).map iv)) ∧ Below WE.heap.size WE W) (fun _ _ i _ => RL.length - (intOf i).toNat)
          case atStart => exact ⟨0, Nat.zero_le _, rfl, Lib.hid (by simpa [nats] using World.ownsRow_nil _ _ _ _), by rw [hWE]; exact Below.refl _ _⟩
          case round =>
            obtain ⟨k, hk, rfl, HO, hB⟩ := hrel
            have hzr := hB.size
            have hBw : Below w.heap.size w wr := hB1.trans ((HBE.trans (hB.mono hzE)).mono (by omega))
            have hXr := (HX.out.below HBE hzX).below hB (by omega)
            have y0 := hXr.cell 0
            have y1 := hXr.cell 1
            have y2 := hXr.cell 2
            simp only [List.getElem?_toArray, List.getElem?_cons_zero, List.getElem?_cons_succ] at y0 y1 y2
            by_cases hlt : k < RL.length
            · obtain ⟨bA, oA, rfl, fA'⟩ := rd_at (RdAt.of_sl (HS5.out.keep (keep_below hB))) hlt
              have fA := fA'
              have hrk := hrr _ (List.getElem_mem hlt)
              have htk : RL.take (k + 1) = RL.take k ++ [RL[k]] := List.take_succ_eq_append_getElem hlt
              obtain ⟨z, hz'⟩ : ∃ z, RL[k] = z := ⟨_, rfl⟩
              rw [hz'] at fA hrk htk
              obtain ⟨r, hr⟩ : ∃ r : Nat, z = (r : Int) := ⟨z.toNat, by omega⟩
              subst hr
              have hrn : r < t.types.length := by omega
              have hflat : (nats (RL.take (k + 1))).flatMap (walk (tyK t)) = (nats (RL.take k)).flatMap (walk (tyK t)) ++ walk (tyK t) r := by rw [htk, nats_append, List.flatMap_append]; simp [nats]
              have hlen : ((nats (RL.take k)).flatMap (walk (tyK t))).length ≤ 1001000000 := by
                have h1 := walks_len HWH.out HF.out (nats (RL.take k)) (fun j hj => by
                  obtain ⟨y, hy, rfl⟩ := List.mem_map.1 hj
                  have := hrr y (List.mem_of_mem_take hy)
                  omega)
                have h2 : (nats (RL.take k)).length ≤ 1001000 := by unfold nats; rw [List.length_map, List.length_take]; omega
                omega
              have hwl := HWH.out.walkT hrn
              obtain ⟨L, hL⟩ : ∃ L, walk (tyK t) r = L := ⟨_, rfl⟩
              rw [hL] at hflat hwl
              obtain ⟨R, hR⟩ : ∃ R, (nats (RL.take k)).flatMap (walk (tyK t)) = R := ⟨_, rfl⟩
              rw [hR] at HO hflat hlen
              obtain ⟨A6, d6, hv6⟩ := own_form HO.out
              subst hv6
              have hTr : TreeAt (Lt wr.heap.size) wr t ⟨a1, c1, a2, c2, a3, c3⟩ := (HTT.out.keep (keep_below hBw)).imp (lt_mono hBw.size)
              have kM := mkKidY_any t ⟨a1, c1, a2, c2, a3, c3⟩ wr
              obtain ⟨W3, hW3⟩ : ∃ W3, wr.alloc (.cells #[.slice a1 t.nodes.length c1, .slice a2 t.types.length c2, .slice a3 t.aliases.length c3] 26) = W3 := ⟨_, rfl⟩
              dsimp only at kM
              rw [hW3] at kM
              have hB3 : Below wr.heap.size wr W3 := by rw [← hW3]; exact (Below.refl _ _).alloc (Nat.le_refl _) _
              have hX3 : Blk W3 wr.heap.size 26 #[.slice a1 t.nodes.length c1, .slice a2 t.types.length c2, .slice a3 t.aliases.length c3] := by rw [← hW3]; exact Blk.new wr 26 _
              have hT3 : TreeAt (Lt W3.heap.size) W3 t ⟨a1, c1, a2, c2, a3, c3⟩ := (hTr.keep (keep_below hB3)).imp (lt_mono hB3.size)
              have hz3 := hX3.lt
              have kA := ahead_any 77 (.inr rfl) (.pointer (some ⟨wr.heap.size, 0, none⟩)) (tyK t) t.types.length r W3 HWH.out.rng.dnT hrn L hL (by omega) (by omega) (fun i W hi hW => by
                exact kidY_any t ⟨a1, c1, a2, c2, a3, c3⟩ W3.heap.size wr.heap.size i W (hX3.below hW hz3) (hT3.2.1.keep (keep_below hW)) hi hty HWH.out.rng)
              have HFL := Lib.hid hflat
              have HB3 := Lib.hid hB3
              unfold treeV at kM
              dsimp only at kM
              clear hflat hL hR hz' htk fA' hTr hT3 hX3 hW3 hB3 hXr hrk
              go_wp2_with fail
              refine kM.mono ?_
              rintro e W4 ⟨rfl, rfl⟩
              clear kM
              go_wp2_with fail
              refine kA.mono ?_
              rintro e w4 ⟨A7, c7, rfl, hS7, hb7⟩
              have hz7 := hb7.size
              have hzw := HB3.out.size
              have hB4 : Below WE.heap.size WE w4 := hB.trans ((HB3.out.mono hzr).trans (hb7.mono (by omega)))
              have HB4 := Lib.hid hB4
              have HO4 := Lib.hid (own_below (own_below HO.out HB3.out) hb7)
              have HRD := Lib.hid (RdAt.of_sl hS7)
              have hnl : (nz L).length = L.length := List.length_map _
              clear kA hS7 hb7 hB4
              go_wp2_with (at_builtin; refine wpList_app _ rfl _ _ 32 rfl WE.heap.size 3 i0 (.int .i64 0) 1 8 Tryz.underlying32 hi hz0 hz1 hz2 rfl (by decide) (.slice A6 R.length d6) R.length ((nz R).map iv) rfl HO4.out A7 L.length c7 ((nz L).map iv) rfl (by simp) HRD.out (by intro u hu; obtain ⟨s, _, rfl⟩ := List.mem_map.1 hu; rfl) (by unfold maxLen; omega) (by omega) (by omega) ?_; intro v' w5 hown5 hgrow5 hloc5; have hB5 := own_grown HB4.out HO4.out hgrow5 (Nat.le_refl _) (by omega); clear hgrow5 hloc5)
              have HO5 : Hid (w5.ownsRow WE.heap.size 3 1 v' ((nats (RL.take (k + 1))).flatMap (walk (tyK t))).length ((nz ((nats (RL.take (k + 1))).flatMap (walk (tyK t)))).map iv)) := Lib.hid (ownIs hown5 (by rw [HFL.out, List.length_append]) (by rw [HFL.out]; simp))
              clear hown5
              go_roundw
              case rel => exact ⟨k + 1, by omega, by go_num, HO5, hB5⟩
              case measure => simp [intOf]; omega
            · obtain rfl : k = RL.length := by omega
              rw [List.take_length] at HO
              have htl : (nats RL).flatMap (walk (tyK t)) = typesL t l := by unfold typesL; rw [HRL.out]
              rw [htl] at HO
              obtain ⟨A6, d6, hv6, _, hs6⟩ := SlAt.of_own HO.out
              subst hv6
              have HS6 := Lib.hid hs6
              clear hs6 htl hXr
              go_wp2
              go_ret
              exact ⟨A6, d6, rfl, HS6.out.imp fun b hb => ⟨by have := hb.1; omega, hb.2⟩, hBw⟩
end Go.Proofs.YtinajnkjfhbmkaaGreatDoor

namespace Go.Proofs.YtinajnkjfhbmkaaGreatDoor
open Go Go.Proofs Go.RowKit

theorem tree_up {w W : World} {t : TreeD} {p : Ptr6} (hT : TreeAt (Lt w.heap.size) w t p) (hb : Below w.heap.size w W) : TreeAt (Lt W.heap.size) W t p := (hT.keep (keep_below hb)).imp (lt_mono hb.size)

attribute [local irreducible] Blk

set_option maxRecDepth 100000 in
set_option maxHeartbeats 8000000 in
theorem same19_any (a b : TreeD) (p q : Ptr6) (w : World) (hE : Env w) (hTa : TreeAt (Lt w.heap.size) w a p) (hTb : TreeAt (Lt w.heap.size) w b q) (hFa : TreeFew a) (hFb : TreeFew b) :
    Calls Tryz.prog 12 #[treeV a p, treeV b q] w fun e w' => e = .returned (.bool (sameB a b)) ∧ Below w.heap.size w w' := by
  obtain ⟨W1, hW1⟩ : ∃ W1, (w.alloc (.cells #[.slice p.a1 a.nodes.length p.c1, .slice p.a2 a.types.length p.c2, .slice p.a3 a.aliases.length p.c3] 26)).alloc (.cells #[.slice q.a1 b.nodes.length q.c1, .slice q.a2 b.types.length q.c2, .slice q.a3 b.aliases.length q.c3] 26) = W1 := ⟨_, rfl⟩
  have hB1 : Below w.heap.size w W1 := by rw [← hW1]; exact ((Below.refl _ _).alloc (Nat.le_refl _) _).alloc (by simp) _
  have hX : Blk W1 w.heap.size 26 #[.slice p.a1 a.nodes.length p.c1, .slice p.a2 a.types.length p.c2, .slice p.a3 a.aliases.length p.c3] := by rw [← hW1]; exact (Blk.new w 26 _).alloc _
  have hY : Blk W1 (w.heap.size + 1) 26 #[.slice q.a1 b.nodes.length q.c1, .slice q.a2 b.types.length q.c2, .slice q.a3 b.aliases.length q.c3] := by
    rw [← hW1]
    have := Blk.new (w.alloc (.cells #[.slice p.a1 a.nodes.length p.c1, .slice p.a2 a.types.length p.c2, .slice p.a3 a.aliases.length p.c3] 26)) 26 #[.slice q.a1 b.nodes.length q.c1, .slice q.a2 b.types.length q.c2, .slice q.a3 b.aliases.length q.c3]
    rwa [World.size_alloc] at this
  have hzX := hX.lt
  have hzY := hY.lt
  have hTa1 := tree_up hTa hB1
  have hTb1 := tree_up hTb hB1
  have kCa := check_any a p W1 (hE.on hB1) hTa1 hFa
  have x0 := hX.cell 0
  have x1 := hX.cell 1
  have x2 := hX.cell 2
  simp only [List.getElem?_toArray, List.getElem?_cons_zero, List.getElem?_cons_succ] at x0 x1 x2
  obtain ⟨r, hr⟩ : ∃ r, sameB a b = r := ⟨_, rfl⟩
  rw [hr]
  have HR := Lib.hid hr
  have HX := Lib.hid hX
  have HY := Lib.hid hY
  have HTa := Lib.hid hTa1
  have HTb := Lib.hid hTb1
  have HE := Lib.hid hE
  have HFa := Lib.hid hFa
  have HFb := Lib.hid hFb
  clear hr hX hY hTa hTb hTa1 hTb1 hE hFa hFb
  by_cases hca : checkF a = true
  case neg =>
    rw [if_neg hca] at kCa
    have hrf : r = false := by rw [← HR.out]; unfold sameB; simp [hca]
    subst hrf
    clear hca HR
    go_enter Tryz.func12, Tryz.ntmps12
    go_wp2_with (go_at_call 8; refine kCa.mono ?_; rintro e w2 ⟨rfl, hb2⟩)
    go_ret
    exact ⟨rfl, hB1.trans (hb2.mono hB1.size)⟩
  case pos =>
    rw [if_pos hca] at kCa
    have HCa := Lib.hid hca
    clear hca
    go_enter Tryz.func12, Tryz.ntmps12
    go_wp2_with fail
    refine kCa.mono ?_
    rintro e w2 ⟨rfl, hb2⟩
    have hB2 : Below w.heap.size w w2 := hB1.trans (hb2.mono hB1.size)
    have HX2 := Lib.hid (HX.out.below hb2 hzX)
    have HY2 := Lib.hid (HY.out.below hb2 hzY)
    have HTa2 := Lib.hid (tree_up HTa.out hb2)
    have HTb2 := Lib.hid (tree_up HTb.out hb2)
    have kCb := check_any b q w2 (HE.out.on hB2) HTb2.out HFb.out
    have x0 := HX2.out.cell 0
    have x1 := HX2.out.cell 1
    have x2 := HX2.out.cell 2
    have y0 := HY2.out.cell 0
    have y1 := HY2.out.cell 1
    have y2 := HY2.out.cell 2
    simp only [List.getElem?_toArray, List.getElem?_cons_zero, List.getElem?_cons_succ] at x0 x1 x2 y0 y1 y2
    have hzX2 := HX2.out.lt
    have hzY2 := HY2.out.lt
    clear kCa HX HY HTa HTb hb2 hzX hzY hW1
    by_cases hcb : checkF b = true
    case neg =>
      rw [if_neg hcb] at kCb
      have hrf : r = false := by rw [← HR.out]; unfold sameB; simp [hcb]
      subst hrf
      clear hcb HR
      go_wp2_with (go_at_call 8; refine kCb.mono ?_; rintro e w3 ⟨rfl, hb3⟩)
      go_ret
      exact ⟨rfl, hB2.trans (hb3.mono hB2.size)⟩
    case pos =>
      rw [if_pos hcb] at kCb
      have hrr : r = (all2 (atT a b) (termsL a) (termsL b) && (all2 smA a.aliases b.aliases && all2 (atY a b) (typesL a (termsL a)) (typesL b (termsL b)))) := by
        rw [← HR.out]; unfold sameB; rw [HCa.out, hcb]; rfl
      have HCb := Lib.hid hcb
      have HRR := Lib.hid hrr
      clear hcb hrr HR
      go_wp2_with fail
      refine kCb.mono ?_
      rintro e w3 ⟨rfl, hb3⟩
      have hB3 : Below w.heap.size w w3 := hB2.trans (hb3.mono hB2.size)
      have HX3 := Lib.hid (HX2.out.below hb3 hzX2)
      have HY3 := Lib.hid (HY2.out.below hb3 hzY2)
      have HTa3 := Lib.hid (tree_up HTa2.out hb3)
      have HTb3 := Lib.hid (tree_up HTb2.out hb3)
      have hzX3 := HX3.out.lt
      have hzY3 := HY3.out.lt
      clear kCb HX2 HY2 HTa2 HTb2 hb3 hzX2 hzY2 x0 x1 x2 y0 y1 y2
      have HWa := Lib.hid ((checkF_iff a).1 HCa.out)
      have HWb := Lib.hid ((checkF_iff b).1 HCb.out)
      have HS : Hid (∀ W, Below w3.heap.size w3 W → (fun W : World => W.cell? ⟨w.heap.size, 0, none⟩ = some (.slice p.a1 a.nodes.length p.c1) ∧ W.cell? ⟨w.heap.size, 1, none⟩ = some (.slice p.a2 a.types.length p.c2) ∧ W.cell? ⟨w.heap.size, 2, none⟩ = some (.slice p.a3 a.aliases.length p.c3) ∧ W.cell? ⟨w.heap.size + 1, 0, none⟩ = some (.slice q.a1 b.nodes.length q.c1) ∧ W.cell? ⟨w.heap.size + 1, 1, none⟩ = some (.slice q.a2 b.types.length q.c2) ∧ W.cell? ⟨w.heap.size + 1, 2, none⟩ = some (.slice q.a3 b.aliases.length q.c3) ∧ Below w3.heap.size w3 W) W) := Lib.hid fun W hW => by
        have x0 := (HX3.out.below hW hzX3).cell 0
        have x1 := (HX3.out.below hW hzX3).cell 1
        have x2 := (HX3.out.below hW hzX3).cell 2
        have y0 := (HY3.out.below hW hzY3).cell 0
        have y1 := (HY3.out.below hW hzY3).cell 1
        have y2 := (HY3.out.below hW hzY3).cell 2
        simp only [List.getElem?_toArray, List.getElem?_cons_zero, List.getElem?_cons_succ] at x0 x1 x2 y0 y1 y2
        exact ⟨x0, x1, x2, y0, y1, y2, hW⟩
      have KWa : Hid (∀ W, Below w3.heap.size w3 W → Calls Tryz.prog 29 #[.agg #[.slice p.a1 a.nodes.length p.c1, .slice p.a2 a.types.length p.c2, .slice p.a3 a.aliases.length p.c3]] W fun e w' => e = .returned (.int .i64 ((a.nodes.length - 1 : Nat) : Int)) ∧ Below W.heap.size W w' ∧ Below w3.heap.size w3 w') := Lib.hid fun W hW =>
        (whole_any a p W HWa.out.rng.one HWa.out.big).mono fun e w' h => ⟨h.1, h.2, hW.trans (h.2.mono hW.size)⟩
      have KMa : Hid (∀ W, Below w3.heap.size w3 W → Calls Tryz.prog 33 #[.agg #[.slice p.a1 a.nodes.length p.c1, .slice p.a2 a.types.length p.c2, .slice p.a3 a.aliases.length p.c3]] W fun e w' => ∃ T, e = .returned (.func (.func 63) #[] #[.pointer (some ⟨T, 0, none⟩)]) ∧ Blk w' T 26 #[.slice p.a1 a.nodes.length p.c1, .slice p.a2 a.types.length p.c2, .slice p.a3 a.aliases.length p.c3] ∧ Below W.heap.size W w' ∧ Below w3.heap.size w3 w') := Lib.hid fun W hW =>
        (mkKidT_any a p W).mono fun e w' h => ⟨W.heap.size, h.1, by rw [h.2]; exact Blk.new W 26 _, by rw [h.2]; exact (Below.refl _ W).alloc (Nat.le_refl _) _, by rw [h.2]; exact hW.alloc hW.size _⟩
      have KAa : Hid (∀ T W, Blk W T 26 #[.slice p.a1 a.nodes.length p.c1, .slice p.a2 a.types.length p.c2, .slice p.a3 a.aliases.length p.c3] → Below w3.heap.size w3 W → Calls Tryz.prog 32 #[.int .i64 ((a.nodes.length - 1 : Nat) : Int), .func (.func 63) #[] #[.pointer (some ⟨T, 0, none⟩)]] W fun e w' => ∃ A c, e = .returned (.slice A (termsL a).length c) ∧ SlAt (Lt w'.heap.size) w' A (termsL a).length ((nz (termsL a)).map iv) ∧ Below W.heap.size W w' ∧ Below w3.heap.size w3 w') := Lib.hid fun T W hT hW => by
        have hTW := tree_up HTa3.out hW
        have hlt := hT.lt
        have hone := HWa.out.rng.one
        have hf : a.nodes.length ≤ 1000 := HFa.out.2.2.2.2.1
        have hll := termsL_len HWa.out HFa.out
        refine (ahead_any 63 (.inl rfl) (.pointer (some ⟨T, 0, none⟩)) (tmK a) a.nodes.length (a.nodes.length - 1) W HWa.out.rng.dnN (by omega) (termsL a) rfl (by omega) (by omega) (fun i V hi hV => ?_)).mono fun e w' h => ?_
        · exact kidT_any a p W.heap.size T i V (hT.below hV hlt) (hTW.1.keep (keep_below hV)) hi hf HWa.out.rng
        · obtain ⟨A, c, h1, h2, h3⟩ := h
          exact ⟨A, c, h1, h2.imp fun b hb => hb.2, h3, hW.trans (h3.mono hW.size)⟩
      have KWb : Hid (∀ W, Below w3.heap.size w3 W → Calls Tryz.prog 29 #[.agg #[.slice q.a1 b.nodes.length q.c1, .slice q.a2 b.types.length q.c2, .slice q.a3 b.aliases.length q.c3]] W fun e w' => e = .returned (.int .i64 ((b.nodes.length - 1 : Nat) : Int)) ∧ Below W.heap.size W w' ∧ Below w3.heap.size w3 w') := Lib.hid fun W hW =>
        (whole_any b q W HWb.out.rng.one HWb.out.big).mono fun e w' h => ⟨h.1, h.2, hW.trans (h.2.mono hW.size)⟩
      have KMb : Hid (∀ W, Below w3.heap.size w3 W → Calls Tryz.prog 33 #[.agg #[.slice q.a1 b.nodes.length q.c1, .slice q.a2 b.types.length q.c2, .slice q.a3 b.aliases.length q.c3]] W fun e w' => ∃ T, e = .returned (.func (.func 63) #[] #[.pointer (some ⟨T, 0, none⟩)]) ∧ Blk w' T 26 #[.slice q.a1 b.nodes.length q.c1, .slice q.a2 b.types.length q.c2, .slice q.a3 b.aliases.length q.c3] ∧ Below W.heap.size W w' ∧ Below w3.heap.size w3 w') := Lib.hid fun W hW =>
        (mkKidT_any b q W).mono fun e w' h => ⟨W.heap.size, h.1, by rw [h.2]; exact Blk.new W 26 _, by rw [h.2]; exact (Below.refl _ W).alloc (Nat.le_refl _) _, by rw [h.2]; exact hW.alloc hW.size _⟩
      have KAb : Hid (∀ T W, Blk W T 26 #[.slice q.a1 b.nodes.length q.c1, .slice q.a2 b.types.length q.c2, .slice q.a3 b.aliases.length q.c3] → Below w3.heap.size w3 W → Calls Tryz.prog 32 #[.int .i64 ((b.nodes.length - 1 : Nat) : Int), .func (.func 63) #[] #[.pointer (some ⟨T, 0, none⟩)]] W fun e w' => ∃ A c, e = .returned (.slice A (termsL b).length c) ∧ SlAt (Lt w'.heap.size) w' A (termsL b).length ((nz (termsL b)).map iv) ∧ Below W.heap.size W w' ∧ Below w3.heap.size w3 w') := Lib.hid fun T W hT hW => by
        have hTW := tree_up HTb3.out hW
        have hlt := hT.lt
        have hone := HWb.out.rng.one
        have hf : b.nodes.length ≤ 1000 := HFb.out.2.2.2.2.1
        have hll := termsL_len HWb.out HFb.out
        refine (ahead_any 63 (.inl rfl) (.pointer (some ⟨T, 0, none⟩)) (tmK b) b.nodes.length (b.nodes.length - 1) W HWb.out.rng.dnN (by omega) (termsL b) rfl (by omega) (by omega) (fun i V hi hV => ?_)).mono fun e w' h => ?_
        · exact kidT_any b q W.heap.size T i V (hT.below hV hlt) (hTW.1.keep (keep_below hV)) hi hf HWb.out.rng
        · obtain ⟨A, c, h1, h2, h3⟩ := h
          exact ⟨A, c, h1, h2.imp fun b hb => hb.2, h3, hW.trans (h3.mono hW.size)⟩
      have hB0 := Below.refl w3.heap.size w3
      go_wp2_with fail
      refine wp_region_noPanic ?_
      refine wp_region_held_drew (S := fun W => W.cell? ⟨w.heap.size, 0, none⟩ = some (.slice p.a1 a.nodes.length p.c1) ∧ W.cell? ⟨w.heap.size, 1, none⟩ = some (.slice p.a2 a.types.length p.c2) ∧ W.cell? ⟨w.heap.size, 2, none⟩ = some (.slice p.a3 a.aliases.length p.c3) ∧ W.cell? ⟨w.heap.size + 1, 0, none⟩ = some (.slice q.a1 b.nodes.length q.c1) ∧ W.cell? ⟨w.heap.size + 1, 1, none⟩ = some (.slice q.a2 b.types.length q.c2) ∧ W.cell? ⟨w.heap.size + 1, 2, none⟩ = some (.slice q.a3 b.aliases.length q.c3) ∧ Below w3.heap.size w3 W) (by kernel_rfl) (HS.out _ (Below.drew hB0)) (fun hHeld => ?_)
      refine wpAnyH_take (i := 0) (v := ?va1) (by simp only [List.getElem?_toArray, List.getElem?_cons_zero]; rfl) (by kernel_rfl) (by kernel_rfl) (by kernel_rfl) (fun _ _ _ h => h) (Or.inl ⟨by rfl, ?hya1⟩) (by assumption) ?resta1
      case hya1 => (intro w hSw; (try dsimp only at hSw); go_simp; try with_reducible rfl)
      try simp only [Act.put, List.setIfInBounds_toArray, List.set_cons_zero, List.set_cons_succ]
      refine wpAnyH_take (i := 2) (v := ?va2) (by simp only [List.getElem?_toArray, List.getElem?_cons_zero, List.getElem?_cons_succ]; rfl) (by kernel_rfl) (by kernel_rfl) (by kernel_rfl) (fun _ _ _ h => h) (Or.inl ⟨by rfl, ?hya2⟩) (by assumption) ?resta2
      case hya2 => (intro w hSw; (try dsimp only at hSw); go_simp; try with_reducible rfl)
      try simp only [Act.put, List.setIfInBounds_toArray, List.set_cons_zero, List.set_cons_succ]
      refine wpAnyH_take (i := 5) (v := ?va3) (by simp only [List.getElem?_toArray, List.getElem?_cons_zero, List.getElem?_cons_succ]; rfl) (by kernel_rfl) (by kernel_rfl) (by kernel_rfl) (fun _ _ _ h => h) (Or.inl ⟨by rfl, ?hya3⟩) (by assumption) ?resta3
      case hya3 => (intro w hSw; (try dsimp only at hSw); go_simp; try with_reducible rfl)
      try simp only [Act.put, List.setIfInBounds_toArray, List.set_cons_zero, List.set_cons_succ]
      refine wpAnyH_take (i := 7) (v := ?va4) (by simp only [List.getElem?_toArray, List.getElem?_cons_zero, List.getElem?_cons_succ]; rfl) (by kernel_rfl) (by kernel_rfl) (by kernel_rfl) (fun _ _ _ h => h) (Or.inl ⟨by rfl, ?hya4⟩) (by assumption) ?resta4
      case hya4 => (intro w hSw; (try dsimp only at hSw); go_simp; try with_reducible rfl)
      try simp only [Act.put, List.setIfInBounds_toArray, List.set_cons_zero, List.set_cons_succ]
      refine wpAnyH_ready (rs := [1]) (by kernel_rfl) (by simp) ?_
      refine AllReadyH.cons (by simp only [List.getElem?_toArray, List.getElem?_cons_zero, List.getElem?_cons_succ]; rfl) (fun K hK => ?stepa5) AllReadyH.nil
      go_simp; go_at_call 29; (with_reducible refine (KWa.out _ (Below.drew hB0)).mono ?_); rintro e w4 ⟨rfl, _, b4⟩
      go_wp2_with fail
      refine hK.out _ _ ?hSa5 (fun hHeld => ?_)
      case hSa5 => exact HS.out _ b4
      clear hK K
      try simp only [Act.put, List.setIfInBounds_toArray, List.set_cons_zero, List.set_cons_succ]
      refine wpAnyH_ready (rs := [3]) (by kernel_rfl) (by simp) ?_
      refine AllReadyH.cons (by simp only [List.getElem?_toArray, List.getElem?_cons_zero, List.getElem?_cons_succ]; rfl) (fun K hK => ?stepa6) AllReadyH.nil
      go_simp; go_at_call 33; (with_reducible refine (KMa.out _ b4).mono ?_); rintro e w5 ⟨T5, rfl, h5, _, b5⟩
      go_wp2_with fail
      refine hK.out _ _ ?hSa6 (fun hHeld => ?_)
      case hSa6 => exact HS.out _ b5
      clear hK K
      try simp only [Act.put, List.setIfInBounds_toArray, List.set_cons_zero, List.set_cons_succ]
      refine wpAnyH_ready (rs := [4]) (by kernel_rfl) (by simp) ?_
      refine AllReadyH.cons (by simp only [List.getElem?_toArray, List.getElem?_cons_zero, List.getElem?_cons_succ]; rfl) (fun K hK => ?stepa7) AllReadyH.nil
      go_simp; go_at_call 32; (with_reducible refine (KAa.out T5 _ h5 b5).mono ?_); rintro e w6 ⟨A6, c6, rfl, h6, _, b6⟩; clear h5; have H6 := Lib.hid h6; clear h6
      go_wp2_with fail
      refine hK.out _ _ ?hSa7 (fun hHeld => ?_)
      case hSa7 => exact HS.out _ b6
      clear hK K
      try simp only [Act.put, List.setIfInBounds_toArray, List.set_cons_zero, List.set_cons_succ]
      refine wpAnyH_ready (rs := [6]) (by kernel_rfl) (by simp) ?_
      refine AllReadyH.cons (by simp only [List.getElem?_toArray, List.getElem?_cons_zero, List.getElem?_cons_succ]; rfl) (fun K hK => ?stepa8) AllReadyH.nil
      go_simp; go_at_call 29; (with_reducible refine (KWb.out _ b6).mono ?_); rintro e w7 ⟨rfl, m7, b7⟩
      go_wp2_with fail
      refine hK.out _ _ ?hSa8 (fun hHeld => ?_)
      case hSa8 => exact HS.out _ b7
      clear hK K
      try simp only [Act.put, List.setIfInBounds_toArray, List.set_cons_zero, List.set_cons_succ]
      refine wpAnyH_ready (rs := [8]) (by kernel_rfl) (by simp) ?_
      refine AllReadyH.cons (by simp only [List.getElem?_toArray, List.getElem?_cons_zero, List.getElem?_cons_succ]; rfl) (fun K hK => ?stepa9) AllReadyH.nil
      go_simp; go_at_call 33; (with_reducible refine (KMb.out _ b7).mono ?_); rintro e w8 ⟨T8, rfl, h8, m8, b8⟩
      go_wp2_with fail
      refine hK.out _ _ ?hSa9 (fun hHeld => ?_)
      case hSa9 => exact HS.out _ b8
      clear hK K
      try simp only [Act.put, List.setIfInBounds_toArray, List.set_cons_zero, List.set_cons_succ]
      refine wpAnyH_ready (rs := [9]) (by kernel_rfl) (by simp) ?_
      refine AllReadyH.cons (by simp only [List.getElem?_toArray, List.getElem?_cons_zero, List.getElem?_cons_succ]; rfl) (fun K hK => ?stepa10) AllReadyH.nil
      go_simp; go_at_call 32; (with_reducible refine (KAb.out T8 _ h8 b8).mono ?_); rintro e w9 ⟨A9, c9, rfl, h9, m9, b9⟩; clear h8; have H9 := Lib.hid h9; clear h9
      go_wp2_with fail
      refine hK.out _ _ ?hSa10 (fun hHeld => ?_)
      case hSa10 => exact HS.out _ b9
      clear hK K
      try simp only [Act.put, List.setIfInBounds_toArray, List.set_cons_zero, List.set_cons_succ]
      refine wpAnyH_take (i := 10) (v := ?va11) (by simp only [List.getElem?_toArray, List.getElem?_cons_zero, List.getElem?_cons_succ]; rfl) (by kernel_rfl) (by kernel_rfl) (by kernel_rfl) (fun _ _ _ h => h) (Or.inl ⟨by rfl, ?hya11⟩) (by assumption) ?resta11
      case hya11 => (intro w hSw; (try dsimp only at hSw); go_simp; try with_reducible rfl)
      try simp only [Act.put, List.setIfInBounds_toArray, List.set_cons_zero, List.set_cons_succ]
      refine wpAnyH_take (i := 11) (v := ?va12) (by simp only [List.getElem?_toArray, List.getElem?_cons_zero, List.getElem?_cons_succ]; rfl) (by kernel_rfl) (by kernel_rfl) (by kernel_rfl) (fun _ _ _ h => h) (Or.inl ⟨by rfl, ?hya12⟩) (by assumption) ?resta12
      case hya12 => (intro w hSw; (try dsimp only at hSw); go_simp; try with_reducible rfl)
      try simp only [Act.put, List.setIfInBounds_toArray, List.set_cons_zero, List.set_cons_succ]
      refine wpAnyH_done (by kernel_rfl) ?_ _
      refine NoPanic.normal ?_
      have M9 := m7.trans ((m8.mono m7.size).trans (m9.mono (Nat.le_trans m7.size m8.size)))
      have H6' : Hid (SlAt (Lt w9.heap.size) w9 A6 (termsL a).length ((nz (termsL a)).map iv)) := Lib.hid ((H6.out.keep (keep_below M9)).imp (lt_mono M9.size))
      have hB9 : Below w.heap.size w w9 := hB3.trans (b9.mono hB3.size)
      have HX9 := Lib.hid (HX3.out.below b9 hzX3)
      have HY9 := Lib.hid (HY3.out.below b9 hzY3)
      have HTa9 := Lib.hid (tree_up HTa3.out b9)
      have HTb9 := Lib.hid (tree_up HTb3.out b9)
      have hzX9 := HX9.out.lt
      have hzY9 := HY9.out.lt
      have hla := termsL_len HWa.out HFa.out
      have hlb := termsL_len HWb.out HFb.out
      clear M9 m7 m8 m9 b4 b5 b6 b7 b8 b9 H6 HX3 HY3 HTa3 HTb3 hzX3 hzY3 HS KWa KWb KMa KMb KAa KAb hHeld
      have hL1 := termsL_lt HWa.out.rng
      have hL2 := termsL_lt HWb.out.rng
      obtain ⟨La, hLa⟩ : ∃ La, termsL a = La := ⟨_, rfl⟩
      obtain ⟨Lb, hLb⟩ : ∃ Lb, termsL b = Lb := ⟨_, rfl⟩
      rw [hLa] at hla H6' hL1
      rw [hLb] at hlb H9 hL2
      have hrr := HRR.out
      rw [hLa, hLb] at hrr
      have HRR2 := Lib.hid hrr
      rw [hLa, hLb]
      clear hrr HRR hLa hLb
      have HS : Hid (∀ W, Below w9.heap.size w9 W → (fun W : World => W.cell? ⟨w.heap.size, 0, none⟩ = some (.slice p.a1 a.nodes.length p.c1) ∧ W.cell? ⟨w.heap.size, 1, none⟩ = some (.slice p.a2 a.types.length p.c2) ∧ W.cell? ⟨w.heap.size, 2, none⟩ = some (.slice p.a3 a.aliases.length p.c3) ∧ W.cell? ⟨w.heap.size + 1, 0, none⟩ = some (.slice q.a1 b.nodes.length q.c1) ∧ W.cell? ⟨w.heap.size + 1, 1, none⟩ = some (.slice q.a2 b.types.length q.c2) ∧ W.cell? ⟨w.heap.size + 1, 2, none⟩ = some (.slice q.a3 b.aliases.length q.c3) ∧ Below w9.heap.size w9 W) W) := Lib.hid fun W hW => by
        have x0 := (HX9.out.below hW hzX9).cell 0
        have x1 := (HX9.out.below hW hzX9).cell 1
        have x2 := (HX9.out.below hW hzX9).cell 2
        have y0 := (HY9.out.below hW hzY9).cell 0
        have y1 := (HY9.out.below hW hzY9).cell 1
        have y2 := (HY9.out.below hW hzY9).cell 2
        simp only [List.getElem?_toArray, List.getElem?_cons_zero, List.getElem?_cons_succ] at x0 x1 x2 y0 y1 y2
        exact ⟨x0, x1, x2, y0, y1, y2, hW⟩
      have KE1 : Hid (∀ W, Below w9.heap.size w9 W → Calls Tryz.prog 35 #[.slice A6 La.length c6, .slice A9 Lb.length c9, .func (.func 36) #[] #[.pointer (some ⟨w.heap.size, 0, none⟩), .pointer (some ⟨w.heap.size + 1, 0, none⟩)]] W fun e w' => e = .returned (.bool (all2 (atT a b) La Lb)) ∧ Below W.heap.size W w' ∧ Below w9.heap.size w9 w') := Lib.hid fun W hW => by
        have hTa := tree_up HTa9.out hW
        have hTb := tree_up HTb9.out hW
        have bX := HX9.out.below hW hzX9
        have bY := HY9.out.below hW hzY9
        refine (eqF_any 36 (.inl rfl) _ _ (atT a b) A6 A9 c6 c9 La Lb W ((H6'.out.keep (keep_below hW)).imp (lt_mono hW.size)) ((H9.out.keep (keep_below hW)).imp (lt_mono hW.size)) (by omega) (by omega) (fun i hi j hj V hV => ?_)).mono fun e w' h => ⟨h.1, h.2, hW.trans (h.2.mono hW.size)⟩
        exact cl35_any a b p q w.heap.size (w.heap.size + 1) i j V (bX.below hV bX.lt) (bY.below hV bY.lt) (tree_up hTa hV).1 (tree_up hTb hV).1 (hL1 i hi) (hL2 j hj) HFa.out.2.2.2.2.1 HFb.out.2.2.2.2.1 (fun x hx => (HFa.out.1 x hx).2.1) (fun x hx => (HFb.out.1 x hx).2.1)
      have KEA : Hid (∀ W, Below w9.heap.size w9 W → Calls Tryz.prog 38 #[.slice p.a3 a.aliases.length p.c3, .slice q.a3 b.aliases.length q.c3, .func (.func 39) #[] #[]] W fun e w' => e = .returned (.bool (all2 smA a.aliases b.aliases)) ∧ Below W.heap.size W w' ∧ Below w9.heap.size w9 w') := Lib.hid fun W hW => by
        have f1 := HFa.out.2.2.2.1
        have f2 := HFb.out.2.2.2.1
        exact (eqA_any p.a3 q.a3 p.c3 q.c3 a.aliases b.aliases W (tree_up HTa9.out hW).2.2 (tree_up HTb9.out hW).2.2 (by omega) (by omega)).mono fun e w' h => ⟨h.1, h.2, hW.trans (h.2.mono hW.size)⟩
      have KTa : Hid (∀ W, Below w9.heap.size w9 W → Calls Tryz.prog 40 #[.agg #[.slice p.a1 a.nodes.length p.c1, .slice p.a2 a.types.length p.c2, .slice p.a3 a.aliases.length p.c3], .slice A6 La.length c6] W fun e w' => ∃ A c, e = .returned (.slice A (typesL a La).length c) ∧ SlAt (Lt w'.heap.size) w' A (typesL a La).length ((nz (typesL a La)).map iv) ∧ Below W.heap.size W w' ∧ Below w9.heap.size w9 w') := Lib.hid fun W hW => by
        refine (typesOf_any a p A6 c6 La W (tree_up HTa9.out hW) HFa.out HWa.out ((H6'.out.keep (keep_below hW)).imp (lt_mono hW.size)) hL1 hla).mono fun e w' h => ?_
        obtain ⟨A, c, h1, h2, h3⟩ := h
        exact ⟨A, c, h1, h2.imp fun b hb => hb.2, h3, hW.trans (h3.mono hW.size)⟩
      have KTb : Hid (∀ W, Below w9.heap.size w9 W → Calls Tryz.prog 40 #[.agg #[.slice q.a1 b.nodes.length q.c1, .slice q.a2 b.types.length q.c2, .slice q.a3 b.aliases.length q.c3], .slice A9 Lb.length c9] W fun e w' => ∃ A c, e = .returned (.slice A (typesL b Lb).length c) ∧ SlAt (Lt w'.heap.size) w' A (typesL b Lb).length ((nz (typesL b Lb)).map iv) ∧ Below W.heap.size W w' ∧ Below w9.heap.size w9 w') := Lib.hid fun W hW => by
        refine (typesOf_any b q A9 c9 Lb W (tree_up HTb9.out hW) HFb.out HWb.out ((H9.out.keep (keep_below hW)).imp (lt_mono hW.size)) hL2 hlb).mono fun e w' h => ?_
        obtain ⟨A, c, h1, h2, h3⟩ := h
        exact ⟨A, c, h1, h2.imp fun b hb => hb.2, h3, hW.trans (h3.mono hW.size)⟩
      have KE3 : Hid (∀ A A' c c' W, SlAt (Lt W.heap.size) W A (typesL a La).length ((nz (typesL a La)).map iv) → SlAt (Lt W.heap.size) W A' (typesL b Lb).length ((nz (typesL b Lb)).map iv) → Below w9.heap.size w9 W → Calls Tryz.prog 35 #[.slice A (typesL a La).length c, .slice A' (typesL b Lb).length c', .func (.func 41) #[] #[.pointer (some ⟨w.heap.size, 0, none⟩), .pointer (some ⟨w.heap.size + 1, 0, none⟩)]] W fun e w' => e = .returned (.bool (all2 (atY a b) (typesL a La) (typesL b Lb))) ∧ Below W.heap.size W w' ∧ Below w9.heap.size w9 w') := Lib.hid fun A A' c c' W hA hA' hW => by
        have hTa := tree_up HTa9.out hW
        have hTb := tree_up HTb9.out hW
        have bX := HX9.out.below hW hzX9
        have bY := HY9.out.below hW hzY9
        have g1 := typesL_len HWa.out HFa.out hla
        have g2 := typesL_len HWb.out HFb.out hlb
        refine (eqF_any 41 (.inr rfl) _ _ (atY a b) A A' c c' (typesL a La) (typesL b Lb) W hA hA' (by omega) (by omega) (fun i hi j hj V hV => ?_)).mono fun e w' h => ⟨h.1, h.2, hW.trans (h.2.mono hW.size)⟩
        exact cl40_any a b p q w.heap.size (w.heap.size + 1) i j V (bX.below hV bX.lt) (bY.below hV bY.lt) (tree_up hTa hV).2.1 (tree_up hTb hV).2.1 (typesL_lt HWa.out.rng _ i hi) (typesL_lt HWb.out.rng _ j hj) HFa.out.2.2.2.2.2 HFb.out.2.2.2.2.2 (fun x hx => (HFa.out.2.1 x hx).2.1) (fun x hx => (HFb.out.2.1 x hx).2.1)
      obtain ⟨B1, hB1'⟩ : ∃ B1, all2 (atT a b) La Lb = B1 := ⟨_, rfl⟩
      obtain ⟨B2, hB2'⟩ : ∃ B2, all2 smA a.aliases b.aliases = B2 := ⟨_, rfl⟩
      obtain ⟨Ya, hYa⟩ : ∃ Ya, typesL a La = Ya := ⟨_, rfl⟩
      obtain ⟨Yb, hYb⟩ : ∃ Yb, typesL b Lb = Yb := ⟨_, rfl⟩
      obtain ⟨B3, hB3'⟩ : ∃ B3, all2 (atY a b) (typesL a La) (typesL b Lb) = B3 := ⟨_, rfl⟩
      have hrr := HRR2.out
      rw [hB1', hB2', hB3'] at hrr
      rw [hB1'] at KE1
      rw [hB2'] at KEA
      rw [hB3'] at KE3
      rw [hYa] at KTa KE3
      rw [hYb] at KTb KE3
      clear hB1' hB2' hB3' hYa hYb HRR2 hL1 hL2
      have hB0 := Below.refl w9.heap.size w9
      cases B1
      case false =>
        have hrf : r = false := by rw [hrr]; rfl
        subst hrf
        clear hrr
        go_wp2_with fail
        refine wp_region_noPanic ?_
        refine wp_region_held_drew (S := fun W => W.cell? ⟨w.heap.size, 0, none⟩ = some (.slice p.a1 a.nodes.length p.c1) ∧ W.cell? ⟨w.heap.size, 1, none⟩ = some (.slice p.a2 a.types.length p.c2) ∧ W.cell? ⟨w.heap.size, 2, none⟩ = some (.slice p.a3 a.aliases.length p.c3) ∧ W.cell? ⟨w.heap.size + 1, 0, none⟩ = some (.slice q.a1 b.nodes.length q.c1) ∧ W.cell? ⟨w.heap.size + 1, 1, none⟩ = some (.slice q.a2 b.types.length q.c2) ∧ W.cell? ⟨w.heap.size + 1, 2, none⟩ = some (.slice q.a3 b.aliases.length q.c3) ∧ Below w9.heap.size w9 W) (by kernel_rfl) (HS.out _ (Below.drew hB0)) (fun hHeld => ?_)
        refine wpAnyH_take (i := 0) (v := ?vb1) (by simp only [List.getElem?_toArray, List.getElem?_cons_zero]; rfl) (by kernel_rfl) (by kernel_rfl) (by kernel_rfl) (fun _ _ _ h => h) (Or.inl ⟨by rfl, ?hyb1⟩) (by assumption) ?restb1
        case hyb1 => (intro w hSw; (try dsimp only at hSw); go_simp; try with_reducible rfl)
        try simp only [Act.put, List.setIfInBounds_toArray, List.set_cons_zero, List.set_cons_succ]
        refine wpAnyH_take (i := 1) (v := ?vb2) (by simp only [List.getElem?_toArray, List.getElem?_cons_zero, List.getElem?_cons_succ]; rfl) (by kernel_rfl) (by kernel_rfl) (by kernel_rfl) (fun _ _ _ h => h) (Or.inl ⟨by rfl, ?hyb2⟩) (by assumption) ?restb2
        case hyb2 => (intro w hSw; (try dsimp only at hSw); go_simp; try with_reducible rfl)
        try simp only [Act.put, List.setIfInBounds_toArray, List.set_cons_zero, List.set_cons_succ]
        refine wpAnyH_take (i := 2) (v := ?vb3) (by simp only [List.getElem?_toArray, List.getElem?_cons_zero, List.getElem?_cons_succ]; rfl) (by kernel_rfl) (by kernel_rfl) (by kernel_rfl) (fun _ _ _ h => h) (Or.inl ⟨by rfl, ?hyb3⟩) (by assumption) ?restb3
        case hyb3 => (intro w hSw; (try dsimp only at hSw); go_simp; try with_reducible rfl)
        try simp only [Act.put, List.setIfInBounds_toArray, List.set_cons_zero, List.set_cons_succ]
        refine wpAnyH_ready (rs := [3]) (by kernel_rfl) (by simp) ?_
        refine AllReadyH.cons (by simp only [List.getElem?_toArray, List.getElem?_cons_zero, List.getElem?_cons_succ]; rfl) (fun K hK => ?stepb4) AllReadyH.nil
        go_simp; go_at_call 35; (with_reducible refine (KE1.out _ (Below.drew hB0)).mono ?_); rintro e w10 ⟨rfl, _, m10⟩
        go_wp2_with fail
        refine hK.out _ _ ?hSb4 (fun hHeld => ?_)
        case hSb4 => exact HS.out _ m10
        clear hK K
        try simp only [Act.put, List.setIfInBounds_toArray, List.set_cons_zero, List.set_cons_succ]
        refine wpAnyH_take (i := 4) (v := ?vb5) (by simp only [List.getElem?_toArray, List.getElem?_cons_zero, List.getElem?_cons_succ]; rfl) (by kernel_rfl) (by kernel_rfl) (by kernel_rfl) (fun _ _ _ h => h) (Or.inl ⟨by rfl, ?hyb5⟩) (by assumption) ?restb5
        case hyb5 => (intro w hSw; (try dsimp only at hSw); go_simp; try with_reducible rfl)
        try simp only [Act.put, List.setIfInBounds_toArray, List.set_cons_zero, List.set_cons_succ]
        refine wpAnyH_take (i := 5) (v := undef) (by simp only [List.getElem?_toArray, List.getElem?_cons_zero, List.getElem?_cons_succ]; rfl) (by kernel_rfl) (by kernel_rfl) (by kernel_rfl) (fun _ _ _ h => h) (Or.inr ⟨by rfl, rfl⟩) (by assumption) ?restb6
        try simp only [Act.put, List.setIfInBounds_toArray, List.set_cons_zero, List.set_cons_succ]
        refine wpAnyH_take (i := 6) (v := undef) (by simp only [List.getElem?_toArray, List.getElem?_cons_zero, List.getElem?_cons_succ]; rfl) (by kernel_rfl) (by kernel_rfl) (by kernel_rfl) (fun _ _ _ h => h) (Or.inr ⟨by rfl, rfl⟩) (by assumption) ?restb7
        try simp only [Act.put, List.setIfInBounds_toArray, List.set_cons_zero, List.set_cons_succ]
        refine wpAnyH_take (i := 7) (v := undef) (by simp only [List.getElem?_toArray, List.getElem?_cons_zero, List.getElem?_cons_succ]; rfl) (by kernel_rfl) (by kernel_rfl) (by kernel_rfl) (fun _ _ _ h => h) (Or.inr ⟨by rfl, rfl⟩) (by assumption) ?restb8
        try simp only [Act.put, List.setIfInBounds_toArray, List.set_cons_zero, List.set_cons_succ]
        refine wpAnyH_take (i := 8) (v := undef) (by simp only [List.getElem?_toArray, List.getElem?_cons_zero, List.getElem?_cons_succ]; rfl) (by kernel_rfl) (by kernel_rfl) (by kernel_rfl) (fun _ _ _ h => h) (Or.inr ⟨by rfl, rfl⟩) (by assumption) ?restb9
        try simp only [Act.put, List.setIfInBounds_toArray, List.set_cons_zero, List.set_cons_succ]
        refine wpAnyH_take (i := 9) (v := undef) (by simp only [List.getElem?_toArray, List.getElem?_cons_zero, List.getElem?_cons_succ]; rfl) (by kernel_rfl) (by kernel_rfl) (by kernel_rfl) (fun _ _ _ h => h) (Or.inr ⟨by rfl, rfl⟩) (by assumption) ?restb10
        try simp only [Act.put, List.setIfInBounds_toArray, List.set_cons_zero, List.set_cons_succ]
        refine wpAnyH_take (i := 10) (v := ?vb11) (by simp only [List.getElem?_toArray, List.getElem?_cons_zero, List.getElem?_cons_succ]; rfl) (by kernel_rfl) (by kernel_rfl) (by kernel_rfl) (fun _ _ _ h => h) (Or.inl ⟨by rfl, ?hyb11⟩) (by assumption) ?restb11
        case hyb11 => (intro w hSw; (try dsimp only at hSw); go_simp; try with_reducible rfl)
        try simp only [Act.put, List.setIfInBounds_toArray, List.set_cons_zero, List.set_cons_succ]
        refine wpAnyH_take (i := 11) (v := ?vb12) (by simp only [List.getElem?_toArray, List.getElem?_cons_zero, List.getElem?_cons_succ]; rfl) (by kernel_rfl) (by kernel_rfl) (by kernel_rfl) (fun _ _ _ h => h) (Or.inl ⟨by rfl, ?hyb12⟩) (by assumption) ?restb12
        case hyb12 => (intro w hSw; (try dsimp only at hSw); go_simp; try with_reducible rfl)
        try simp only [Act.put, List.setIfInBounds_toArray, List.set_cons_zero, List.set_cons_succ]
        refine wpAnyH_take (i := 12) (v := undef) (by simp only [List.getElem?_toArray, List.getElem?_cons_zero, List.getElem?_cons_succ]; rfl) (by kernel_rfl) (by kernel_rfl) (by kernel_rfl) (fun _ _ _ h => h) (Or.inr ⟨by rfl, rfl⟩) (by assumption) ?restb13
        try simp only [Act.put, List.setIfInBounds_toArray, List.set_cons_zero, List.set_cons_succ]
        refine wpAnyH_take (i := 13) (v := undef) (by simp only [List.getElem?_toArray, List.getElem?_cons_zero, List.getElem?_cons_succ]; rfl) (by kernel_rfl) (by kernel_rfl) (by kernel_rfl) (fun _ _ _ h => h) (Or.inr ⟨by rfl, rfl⟩) (by assumption) ?restb14
        try simp only [Act.put, List.setIfInBounds_toArray, List.set_cons_zero, List.set_cons_succ]
        refine wpAnyH_take (i := 14) (v := undef) (by simp only [List.getElem?_toArray, List.getElem?_cons_zero, List.getElem?_cons_succ]; rfl) (by kernel_rfl) (by kernel_rfl) (by kernel_rfl) (fun _ _ _ h => h) (Or.inr ⟨by rfl, rfl⟩) (by assumption) ?restb15
        try simp only [Act.put, List.setIfInBounds_toArray, List.set_cons_zero, List.set_cons_succ]
        refine wpAnyH_take (i := 15) (v := undef) (by simp only [List.getElem?_toArray, List.getElem?_cons_zero, List.getElem?_cons_succ]; rfl) (by kernel_rfl) (by kernel_rfl) (by kernel_rfl) (fun _ _ _ h => h) (Or.inr ⟨by rfl, rfl⟩) (by assumption) ?restb16
        try simp only [Act.put, List.setIfInBounds_toArray, List.set_cons_zero, List.set_cons_succ]
        refine wpAnyH_take (i := 16) (v := undef) (by simp only [List.getElem?_toArray, List.getElem?_cons_zero, List.getElem?_cons_succ]; rfl) (by kernel_rfl) (by kernel_rfl) (by kernel_rfl) (fun _ _ _ h => h) (Or.inr ⟨by rfl, rfl⟩) (by assumption) ?restb17
        try simp only [Act.put, List.setIfInBounds_toArray, List.set_cons_zero, List.set_cons_succ]
        refine wpAnyH_take (i := 17) (v := undef) (by simp only [List.getElem?_toArray, List.getElem?_cons_zero, List.getElem?_cons_succ]; rfl) (by kernel_rfl) (by kernel_rfl) (by kernel_rfl) (fun _ _ _ h => h) (Or.inr ⟨by rfl, rfl⟩) (by assumption) ?restb18
        try simp only [Act.put, List.setIfInBounds_toArray, List.set_cons_zero, List.set_cons_succ]
        refine wpAnyH_take (i := 18) (v := undef) (by simp only [List.getElem?_toArray, List.getElem?_cons_zero, List.getElem?_cons_succ]; rfl) (by kernel_rfl) (by kernel_rfl) (by kernel_rfl) (fun _ _ _ h => h) (Or.inr ⟨by rfl, rfl⟩) (by assumption) ?restb19
        try simp only [Act.put, List.setIfInBounds_toArray, List.set_cons_zero, List.set_cons_succ]
        refine wpAnyH_take (i := 19) (v := undef) (by simp only [List.getElem?_toArray, List.getElem?_cons_zero, List.getElem?_cons_succ]; rfl) (by kernel_rfl) (by kernel_rfl) (by kernel_rfl) (fun _ _ _ h => h) (Or.inr ⟨by rfl, rfl⟩) (by assumption) ?restb20
        try simp only [Act.put, List.setIfInBounds_toArray, List.set_cons_zero, List.set_cons_succ]
        refine wpAnyH_take (i := 20) (v := ?vb21) (by simp only [List.getElem?_toArray, List.getElem?_cons_zero, List.getElem?_cons_succ]; rfl) (by kernel_rfl) (by kernel_rfl) (by kernel_rfl) (fun _ _ _ h => h) (Or.inl ⟨by rfl, ?hyb21⟩) (by assumption) ?restb21
        case hyb21 => (intro w hSw; (try dsimp only at hSw); go_simp; try with_reducible rfl)
        try simp only [Act.put, List.setIfInBounds_toArray, List.set_cons_zero, List.set_cons_succ]
        refine wpAnyH_take (i := 21) (v := ?vb22) (by simp only [List.getElem?_toArray, List.getElem?_cons_zero, List.getElem?_cons_succ]; rfl) (by kernel_rfl) (by kernel_rfl) (by kernel_rfl) (fun _ _ _ h => h) (Or.inl ⟨by rfl, ?hyb22⟩) (by assumption) ?restb22
        case hyb22 => (intro w hSw; (try dsimp only at hSw); go_simp; try with_reducible rfl)
        try simp only [Act.put, List.setIfInBounds_toArray, List.set_cons_zero, List.set_cons_succ]
        refine wpAnyH_done (by kernel_rfl) ?_ _
        refine NoPanic.normal ?_
        go_wp2
        go_ret
        exact ⟨rfl, hB9.trans (m10.mono hB9.size)⟩
      case true =>
        cases B2
        case false =>
          have hrf : r = false := by rw [hrr]; rfl
          subst hrf
          clear hrr
          go_wp2_with fail
          refine wp_region_noPanic ?_
          refine wp_region_held_drew (S := fun W => W.cell? ⟨w.heap.size, 0, none⟩ = some (.slice p.a1 a.nodes.length p.c1) ∧ W.cell? ⟨w.heap.size, 1, none⟩ = some (.slice p.a2 a.types.length p.c2) ∧ W.cell? ⟨w.heap.size, 2, none⟩ = some (.slice p.a3 a.aliases.length p.c3) ∧ W.cell? ⟨w.heap.size + 1, 0, none⟩ = some (.slice q.a1 b.nodes.length q.c1) ∧ W.cell? ⟨w.heap.size + 1, 1, none⟩ = some (.slice q.a2 b.types.length q.c2) ∧ W.cell? ⟨w.heap.size + 1, 2, none⟩ = some (.slice q.a3 b.aliases.length q.c3) ∧ Below w9.heap.size w9 W) (by kernel_rfl) (HS.out _ (Below.drew hB0)) (fun hHeld => ?_)
          refine wpAnyH_take (i := 0) (v := ?vc1) (by simp only [List.getElem?_toArray, List.getElem?_cons_zero]; rfl) (by kernel_rfl) (by kernel_rfl) (by kernel_rfl) (fun _ _ _ h => h) (Or.inl ⟨by rfl, ?hyc1⟩) (by assumption) ?restc1
          case hyc1 => (intro w hSw; (try dsimp only at hSw); go_simp; try with_reducible rfl)
          try simp only [Act.put, List.setIfInBounds_toArray, List.set_cons_zero, List.set_cons_succ]
          refine wpAnyH_take (i := 1) (v := ?vc2) (by simp only [List.getElem?_toArray, List.getElem?_cons_zero, List.getElem?_cons_succ]; rfl) (by kernel_rfl) (by kernel_rfl) (by kernel_rfl) (fun _ _ _ h => h) (Or.inl ⟨by rfl, ?hyc2⟩) (by assumption) ?restc2
          case hyc2 => (intro w hSw; (try dsimp only at hSw); go_simp; try with_reducible rfl)
          try simp only [Act.put, List.setIfInBounds_toArray, List.set_cons_zero, List.set_cons_succ]
          refine wpAnyH_take (i := 2) (v := ?vc3) (by simp only [List.getElem?_toArray, List.getElem?_cons_zero, List.getElem?_cons_succ]; rfl) (by kernel_rfl) (by kernel_rfl) (by kernel_rfl) (fun _ _ _ h => h) (Or.inl ⟨by rfl, ?hyc3⟩) (by assumption) ?restc3
          case hyc3 => (intro w hSw; (try dsimp only at hSw); go_simp; try with_reducible rfl)
          try simp only [Act.put, List.setIfInBounds_toArray, List.set_cons_zero, List.set_cons_succ]
          refine wpAnyH_ready (rs := [3]) (by kernel_rfl) (by simp) ?_
          refine AllReadyH.cons (by simp only [List.getElem?_toArray, List.getElem?_cons_zero, List.getElem?_cons_succ]; rfl) (fun K hK => ?stepc4) AllReadyH.nil
          go_simp; go_at_call 35; (with_reducible refine (KE1.out _ (Below.drew hB0)).mono ?_); rintro e w10 ⟨rfl, _, m10⟩
          go_wp2_with fail
          refine hK.out _ _ ?hSc4 (fun hHeld => ?_)
          case hSc4 => exact HS.out _ m10
          clear hK K
          try simp only [Act.put, List.setIfInBounds_toArray, List.set_cons_zero, List.set_cons_succ]
          refine wpAnyH_take (i := 4) (v := ?vc5) (by simp only [List.getElem?_toArray, List.getElem?_cons_zero, List.getElem?_cons_succ]; rfl) (by kernel_rfl) (by kernel_rfl) (by kernel_rfl) (fun _ _ _ h => h) (Or.inl ⟨by rfl, ?hyc5⟩) (by assumption) ?restc5
          case hyc5 => (intro w hSw; (try dsimp only at hSw); go_simp; try with_reducible rfl)
          try simp only [Act.put, List.setIfInBounds_toArray, List.set_cons_zero, List.set_cons_succ]
          refine wpAnyH_take (i := 5) (v := ?vc6) (by simp only [List.getElem?_toArray, List.getElem?_cons_zero, List.getElem?_cons_succ]; rfl) (by kernel_rfl) (by kernel_rfl) (by kernel_rfl) (fun _ _ _ h => h) (Or.inl ⟨by rfl, ?hyc6⟩) (by assumption) ?restc6
          case hyc6 => (intro w hSw; (try dsimp only at hSw); go_simp; try with_reducible rfl)
          try simp only [Act.put, List.setIfInBounds_toArray, List.set_cons_zero, List.set_cons_succ]
          refine wpAnyH_take (i := 6) (v := ?vc7) (by simp only [List.getElem?_toArray, List.getElem?_cons_zero, List.getElem?_cons_succ]; rfl) (by kernel_rfl) (by kernel_rfl) (by kernel_rfl) (fun _ _ _ h => h) (Or.inl ⟨by rfl, ?hyc7⟩) (by assumption) ?restc7
          case hyc7 => (intro w hSw; (try dsimp only at hSw); go_simp; try with_reducible rfl)
          try simp only [Act.put, List.setIfInBounds_toArray, List.set_cons_zero, List.set_cons_succ]
          refine wpAnyH_take (i := 7) (v := ?vc8) (by simp only [List.getElem?_toArray, List.getElem?_cons_zero, List.getElem?_cons_succ]; rfl) (by kernel_rfl) (by kernel_rfl) (by kernel_rfl) (fun _ _ _ h => h) (Or.inl ⟨by rfl, ?hyc8⟩) (by assumption) ?restc8
          case hyc8 => (intro w hSw; (try dsimp only at hSw); go_simp; try with_reducible rfl)
          try simp only [Act.put, List.setIfInBounds_toArray, List.set_cons_zero, List.set_cons_succ]
          refine wpAnyH_take (i := 8) (v := ?vc9) (by simp only [List.getElem?_toArray, List.getElem?_cons_zero, List.getElem?_cons_succ]; rfl) (by kernel_rfl) (by kernel_rfl) (by kernel_rfl) (fun _ _ _ h => h) (Or.inl ⟨by rfl, ?hyc9⟩) (by assumption) ?restc9
          case hyc9 => (intro w hSw; (try dsimp only at hSw); go_simp; try with_reducible rfl)
          try simp only [Act.put, List.setIfInBounds_toArray, List.set_cons_zero, List.set_cons_succ]
          refine wpAnyH_ready (rs := [9]) (by kernel_rfl) (by simp) ?_
          refine AllReadyH.cons (by simp only [List.getElem?_toArray, List.getElem?_cons_zero, List.getElem?_cons_succ]; rfl) (fun K hK => ?stepc10) AllReadyH.nil
          go_simp; go_at_call 38; (with_reducible refine (KEA.out _ m10).mono ?_); rintro e w11 ⟨rfl, _, b11⟩
          go_wp2_with fail
          refine hK.out _ _ ?hSc10 (fun hHeld => ?_)
          case hSc10 => exact HS.out _ b11
          clear hK K
          try simp only [Act.put, List.setIfInBounds_toArray, List.set_cons_zero, List.set_cons_succ]
          refine wpAnyH_take (i := 10) (v := ?vc11) (by simp only [List.getElem?_toArray, List.getElem?_cons_zero, List.getElem?_cons_succ]; rfl) (by kernel_rfl) (by kernel_rfl) (by kernel_rfl) (fun _ _ _ h => h) (Or.inl ⟨by rfl, ?hyc11⟩) (by assumption) ?restc11
          case hyc11 => (intro w hSw; (try dsimp only at hSw); go_simp; try with_reducible rfl)
          try simp only [Act.put, List.setIfInBounds_toArray, List.set_cons_zero, List.set_cons_succ]
          refine wpAnyH_take (i := 11) (v := ?vc12) (by simp only [List.getElem?_toArray, List.getElem?_cons_zero, List.getElem?_cons_succ]; rfl) (by kernel_rfl) (by kernel_rfl) (by kernel_rfl) (fun _ _ _ h => h) (Or.inl ⟨by rfl, ?hyc12⟩) (by assumption) ?restc12
          case hyc12 => (intro w hSw; (try dsimp only at hSw); go_simp; try with_reducible rfl)
          try simp only [Act.put, List.setIfInBounds_toArray, List.set_cons_zero, List.set_cons_succ]
          refine wpAnyH_take (i := 12) (v := undef) (by simp only [List.getElem?_toArray, List.getElem?_cons_zero, List.getElem?_cons_succ]; rfl) (by kernel_rfl) (by kernel_rfl) (by kernel_rfl) (fun _ _ _ h => h) (Or.inr ⟨by rfl, rfl⟩) (by assumption) ?restc13
          try simp only [Act.put, List.setIfInBounds_toArray, List.set_cons_zero, List.set_cons_succ]
          refine wpAnyH_take (i := 13) (v := undef) (by simp only [List.getElem?_toArray, List.getElem?_cons_zero, List.getElem?_cons_succ]; rfl) (by kernel_rfl) (by kernel_rfl) (by kernel_rfl) (fun _ _ _ h => h) (Or.inr ⟨by rfl, rfl⟩) (by assumption) ?restc14
          try simp only [Act.put, List.setIfInBounds_toArray, List.set_cons_zero, List.set_cons_succ]
          refine wpAnyH_take (i := 14) (v := undef) (by simp only [List.getElem?_toArray, List.getElem?_cons_zero, List.getElem?_cons_succ]; rfl) (by kernel_rfl) (by kernel_rfl) (by kernel_rfl) (fun _ _ _ h => h) (Or.inr ⟨by rfl, rfl⟩) (by assumption) ?restc15
          try simp only [Act.put, List.setIfInBounds_toArray, List.set_cons_zero, List.set_cons_succ]
          refine wpAnyH_take (i := 15) (v := undef) (by simp only [List.getElem?_toArray, List.getElem?_cons_zero, List.getElem?_cons_succ]; rfl) (by kernel_rfl) (by kernel_rfl) (by kernel_rfl) (fun _ _ _ h => h) (Or.inr ⟨by rfl, rfl⟩) (by assumption) ?restc16
          try simp only [Act.put, List.setIfInBounds_toArray, List.set_cons_zero, List.set_cons_succ]
          refine wpAnyH_take (i := 16) (v := undef) (by simp only [List.getElem?_toArray, List.getElem?_cons_zero, List.getElem?_cons_succ]; rfl) (by kernel_rfl) (by kernel_rfl) (by kernel_rfl) (fun _ _ _ h => h) (Or.inr ⟨by rfl, rfl⟩) (by assumption) ?restc17
          try simp only [Act.put, List.setIfInBounds_toArray, List.set_cons_zero, List.set_cons_succ]
          refine wpAnyH_take (i := 17) (v := undef) (by simp only [List.getElem?_toArray, List.getElem?_cons_zero, List.getElem?_cons_succ]; rfl) (by kernel_rfl) (by kernel_rfl) (by kernel_rfl) (fun _ _ _ h => h) (Or.inr ⟨by rfl, rfl⟩) (by assumption) ?restc18
          try simp only [Act.put, List.setIfInBounds_toArray, List.set_cons_zero, List.set_cons_succ]
          refine wpAnyH_take (i := 18) (v := undef) (by simp only [List.getElem?_toArray, List.getElem?_cons_zero, List.getElem?_cons_succ]; rfl) (by kernel_rfl) (by kernel_rfl) (by kernel_rfl) (fun _ _ _ h => h) (Or.inr ⟨by rfl, rfl⟩) (by assumption) ?restc19
          try simp only [Act.put, List.setIfInBounds_toArray, List.set_cons_zero, List.set_cons_succ]
          refine wpAnyH_take (i := 19) (v := undef) (by simp only [List.getElem?_toArray, List.getElem?_cons_zero, List.getElem?_cons_succ]; rfl) (by kernel_rfl) (by kernel_rfl) (by kernel_rfl) (fun _ _ _ h => h) (Or.inr ⟨by rfl, rfl⟩) (by assumption) ?restc20
          try simp only [Act.put, List.setIfInBounds_toArray, List.set_cons_zero, List.set_cons_succ]
          refine wpAnyH_take (i := 20) (v := ?vc21) (by simp only [List.getElem?_toArray, List.getElem?_cons_zero, List.getElem?_cons_succ]; rfl) (by kernel_rfl) (by kernel_rfl) (by kernel_rfl) (fun _ _ _ h => h) (Or.inl ⟨by rfl, ?hyc21⟩) (by assumption) ?restc21
          case hyc21 => (intro w hSw; (try dsimp only at hSw); go_simp; try with_reducible rfl)
          try simp only [Act.put, List.setIfInBounds_toArray, List.set_cons_zero, List.set_cons_succ]
          refine wpAnyH_take (i := 21) (v := ?vc22) (by simp only [List.getElem?_toArray, List.getElem?_cons_zero, List.getElem?_cons_succ]; rfl) (by kernel_rfl) (by kernel_rfl) (by kernel_rfl) (fun _ _ _ h => h) (Or.inl ⟨by rfl, ?hyc22⟩) (by assumption) ?restc22
          case hyc22 => (intro w hSw; (try dsimp only at hSw); go_simp; try with_reducible rfl)
          try simp only [Act.put, List.setIfInBounds_toArray, List.set_cons_zero, List.set_cons_succ]
          refine wpAnyH_done (by kernel_rfl) ?_ _
          refine NoPanic.normal ?_
          go_wp2
          go_ret
          exact ⟨rfl, hB9.trans (b11.mono hB9.size)⟩
        case true =>
          have hrf : r = B3 := by rw [hrr]; cases B3 <;> rfl
          subst hrf
          clear hrr
          go_wp2_with fail
          refine wp_region_noPanic ?_
          refine wp_region_held_drew (S := fun W => W.cell? ⟨w.heap.size, 0, none⟩ = some (.slice p.a1 a.nodes.length p.c1) ∧ W.cell? ⟨w.heap.size, 1, none⟩ = some (.slice p.a2 a.types.length p.c2) ∧ W.cell? ⟨w.heap.size, 2, none⟩ = some (.slice p.a3 a.aliases.length p.c3) ∧ W.cell? ⟨w.heap.size + 1, 0, none⟩ = some (.slice q.a1 b.nodes.length q.c1) ∧ W.cell? ⟨w.heap.size + 1, 1, none⟩ = some (.slice q.a2 b.types.length q.c2) ∧ W.cell? ⟨w.heap.size + 1, 2, none⟩ = some (.slice q.a3 b.aliases.length q.c3) ∧ Below w9.heap.size w9 W) (by kernel_rfl) (HS.out _ (Below.drew hB0)) (fun hHeld => ?_)
          refine wpAnyH_take (i := 0) (v := ?vd1) (by simp only [List.getElem?_toArray, List.getElem?_cons_zero]; rfl) (by kernel_rfl) (by kernel_rfl) (by kernel_rfl) (fun _ _ _ h => h) (Or.inl ⟨by rfl, ?hyd1⟩) (by assumption) ?restd1
          case hyd1 => (intro w hSw; (try dsimp only at hSw); go_simp; try with_reducible rfl)
          try simp only [Act.put, List.setIfInBounds_toArray, List.set_cons_zero, List.set_cons_succ]
          refine wpAnyH_take (i := 1) (v := ?vd2) (by simp only [List.getElem?_toArray, List.getElem?_cons_zero, List.getElem?_cons_succ]; rfl) (by kernel_rfl) (by kernel_rfl) (by kernel_rfl) (fun _ _ _ h => h) (Or.inl ⟨by rfl, ?hyd2⟩) (by assumption) ?restd2
          case hyd2 => (intro w hSw; (try dsimp only at hSw); go_simp; try with_reducible rfl)
          try simp only [Act.put, List.setIfInBounds_toArray, List.set_cons_zero, List.set_cons_succ]
          refine wpAnyH_take (i := 2) (v := ?vd3) (by simp only [List.getElem?_toArray, List.getElem?_cons_zero, List.getElem?_cons_succ]; rfl) (by kernel_rfl) (by kernel_rfl) (by kernel_rfl) (fun _ _ _ h => h) (Or.inl ⟨by rfl, ?hyd3⟩) (by assumption) ?restd3
          case hyd3 => (intro w hSw; (try dsimp only at hSw); go_simp; try with_reducible rfl)
          try simp only [Act.put, List.setIfInBounds_toArray, List.set_cons_zero, List.set_cons_succ]
          refine wpAnyH_ready (rs := [3]) (by kernel_rfl) (by simp) ?_
          refine AllReadyH.cons (by simp only [List.getElem?_toArray, List.getElem?_cons_zero, List.getElem?_cons_succ]; rfl) (fun K hK => ?stepd4) AllReadyH.nil
          go_simp; go_at_call 35; (with_reducible refine (KE1.out _ (Below.drew hB0)).mono ?_); rintro e w10 ⟨rfl, _, m10⟩
          go_wp2_with fail
          refine hK.out _ _ ?hSd4 (fun hHeld => ?_)
          case hSd4 => exact HS.out _ m10
          clear hK K
          try simp only [Act.put, List.setIfInBounds_toArray, List.set_cons_zero, List.set_cons_succ]
          refine wpAnyH_take (i := 4) (v := ?vd5) (by simp only [List.getElem?_toArray, List.getElem?_cons_zero, List.getElem?_cons_succ]; rfl) (by kernel_rfl) (by kernel_rfl) (by kernel_rfl) (fun _ _ _ h => h) (Or.inl ⟨by rfl, ?hyd5⟩) (by assumption) ?restd5
          case hyd5 => (intro w hSw; (try dsimp only at hSw); go_simp; try with_reducible rfl)
          try simp only [Act.put, List.setIfInBounds_toArray, List.set_cons_zero, List.set_cons_succ]
          refine wpAnyH_take (i := 5) (v := ?vd6) (by simp only [List.getElem?_toArray, List.getElem?_cons_zero, List.getElem?_cons_succ]; rfl) (by kernel_rfl) (by kernel_rfl) (by kernel_rfl) (fun _ _ _ h => h) (Or.inl ⟨by rfl, ?hyd6⟩) (by assumption) ?restd6
          case hyd6 => (intro w hSw; (try dsimp only at hSw); go_simp; try with_reducible rfl)
          try simp only [Act.put, List.setIfInBounds_toArray, List.set_cons_zero, List.set_cons_succ]
          refine wpAnyH_take (i := 6) (v := ?vd7) (by simp only [List.getElem?_toArray, List.getElem?_cons_zero, List.getElem?_cons_succ]; rfl) (by kernel_rfl) (by kernel_rfl) (by kernel_rfl) (fun _ _ _ h => h) (Or.inl ⟨by rfl, ?hyd7⟩) (by assumption) ?restd7
          case hyd7 => (intro w hSw; (try dsimp only at hSw); go_simp; try with_reducible rfl)
          try simp only [Act.put, List.setIfInBounds_toArray, List.set_cons_zero, List.set_cons_succ]
          refine wpAnyH_take (i := 7) (v := ?vd8) (by simp only [List.getElem?_toArray, List.getElem?_cons_zero, List.getElem?_cons_succ]; rfl) (by kernel_rfl) (by kernel_rfl) (by kernel_rfl) (fun _ _ _ h => h) (Or.inl ⟨by rfl, ?hyd8⟩) (by assumption) ?restd8
          case hyd8 => (intro w hSw; (try dsimp only at hSw); go_simp; try with_reducible rfl)
          try simp only [Act.put, List.setIfInBounds_toArray, List.set_cons_zero, List.set_cons_succ]
          refine wpAnyH_take (i := 8) (v := ?vd9) (by simp only [List.getElem?_toArray, List.getElem?_cons_zero, List.getElem?_cons_succ]; rfl) (by kernel_rfl) (by kernel_rfl) (by kernel_rfl) (fun _ _ _ h => h) (Or.inl ⟨by rfl, ?hyd9⟩) (by assumption) ?restd9
          case hyd9 => (intro w hSw; (try dsimp only at hSw); go_simp; try with_reducible rfl)
          try simp only [Act.put, List.setIfInBounds_toArray, List.set_cons_zero, List.set_cons_succ]
          refine wpAnyH_ready (rs := [9]) (by kernel_rfl) (by simp) ?_
          refine AllReadyH.cons (by simp only [List.getElem?_toArray, List.getElem?_cons_zero, List.getElem?_cons_succ]; rfl) (fun K hK => ?stepd10) AllReadyH.nil
          go_simp; go_at_call 38; (with_reducible refine (KEA.out _ m10).mono ?_); rintro e w11 ⟨rfl, _, b11⟩
          go_wp2_with fail
          refine hK.out _ _ ?hSd10 (fun hHeld => ?_)
          case hSd10 => exact HS.out _ b11
          clear hK K
          try simp only [Act.put, List.setIfInBounds_toArray, List.set_cons_zero, List.set_cons_succ]
          refine wpAnyH_take (i := 10) (v := ?vd11) (by simp only [List.getElem?_toArray, List.getElem?_cons_zero, List.getElem?_cons_succ]; rfl) (by kernel_rfl) (by kernel_rfl) (by kernel_rfl) (fun _ _ _ h => h) (Or.inl ⟨by rfl, ?hyd11⟩) (by assumption) ?restd11
          case hyd11 => (intro w hSw; (try dsimp only at hSw); go_simp; try with_reducible rfl)
          try simp only [Act.put, List.setIfInBounds_toArray, List.set_cons_zero, List.set_cons_succ]
          refine wpAnyH_take (i := 11) (v := ?vd12) (by simp only [List.getElem?_toArray, List.getElem?_cons_zero, List.getElem?_cons_succ]; rfl) (by kernel_rfl) (by kernel_rfl) (by kernel_rfl) (fun _ _ _ h => h) (Or.inl ⟨by rfl, ?hyd12⟩) (by assumption) ?restd12
          case hyd12 => (intro w hSw; (try dsimp only at hSw); go_simp; try with_reducible rfl)
          try simp only [Act.put, List.setIfInBounds_toArray, List.set_cons_zero, List.set_cons_succ]
          refine wpAnyH_take (i := 12) (v := ?vd13) (by simp only [List.getElem?_toArray, List.getElem?_cons_zero, List.getElem?_cons_succ]; rfl) (by kernel_rfl) (by kernel_rfl) (by kernel_rfl) (fun _ _ _ h => h) (Or.inl ⟨by rfl, ?hyd13⟩) (by assumption) ?restd13
          case hyd13 => (intro w hSw; (try dsimp only at hSw); go_simp; try with_reducible rfl)
          try simp only [Act.put, List.setIfInBounds_toArray, List.set_cons_zero, List.set_cons_succ]
          refine wpAnyH_take (i := 13) (v := ?vd14) (by simp only [List.getElem?_toArray, List.getElem?_cons_zero, List.getElem?_cons_succ]; rfl) (by kernel_rfl) (by kernel_rfl) (by kernel_rfl) (fun _ _ _ h => h) (Or.inl ⟨by rfl, ?hyd14⟩) (by assumption) ?restd14
          case hyd14 => (intro w hSw; (try dsimp only at hSw); go_simp; try with_reducible rfl)
          try simp only [Act.put, List.setIfInBounds_toArray, List.set_cons_zero, List.set_cons_succ]
          refine wpAnyH_take (i := 15) (v := ?vd15) (by simp only [List.getElem?_toArray, List.getElem?_cons_zero, List.getElem?_cons_succ]; rfl) (by kernel_rfl) (by kernel_rfl) (by kernel_rfl) (fun _ _ _ h => h) (Or.inl ⟨by rfl, ?hyd15⟩) (by assumption) ?restd15
          case hyd15 => (intro w hSw; (try dsimp only at hSw); go_simp; try with_reducible rfl)
          try simp only [Act.put, List.setIfInBounds_toArray, List.set_cons_zero, List.set_cons_succ]
          refine wpAnyH_take (i := 16) (v := ?vd16) (by simp only [List.getElem?_toArray, List.getElem?_cons_zero, List.getElem?_cons_succ]; rfl) (by kernel_rfl) (by kernel_rfl) (by kernel_rfl) (fun _ _ _ h => h) (Or.inl ⟨by rfl, ?hyd16⟩) (by assumption) ?restd16
          case hyd16 => (intro w hSw; (try dsimp only at hSw); go_simp; try with_reducible rfl)
          try simp only [Act.put, List.setIfInBounds_toArray, List.set_cons_zero, List.set_cons_succ]
          refine wpAnyH_take (i := 18) (v := ?vd17) (by simp only [List.getElem?_toArray, List.getElem?_cons_zero, List.getElem?_cons_succ]; rfl) (by kernel_rfl) (by kernel_rfl) (by kernel_rfl) (fun _ _ _ h => h) (Or.inl ⟨by rfl, ?hyd17⟩) (by assumption) ?restd17
          case hyd17 => (intro w hSw; (try dsimp only at hSw); go_simp; try with_reducible rfl)
          try simp only [Act.put, List.setIfInBounds_toArray, List.set_cons_zero, List.set_cons_succ]
          refine wpAnyH_ready (rs := [14]) (by kernel_rfl) (by simp) ?_
          refine AllReadyH.cons (by simp only [List.getElem?_toArray, List.getElem?_cons_zero, List.getElem?_cons_succ]; rfl) (fun K hK => ?stepd18) AllReadyH.nil
          go_simp; go_at_call 40; (with_reducible refine (KTa.out _ b11).mono ?_); rintro e w12 ⟨A12, c12, rfl, h12, _, b12⟩; have H12 := Lib.hid h12; clear h12
          go_wp2_with fail
          refine hK.out _ _ ?hSd18 (fun hHeld => ?_)
          case hSd18 => exact HS.out _ b12
          clear hK K
          try simp only [Act.put, List.setIfInBounds_toArray, List.set_cons_zero, List.set_cons_succ]
          refine wpAnyH_ready (rs := [17]) (by kernel_rfl) (by simp) ?_
          refine AllReadyH.cons (by simp only [List.getElem?_toArray, List.getElem?_cons_zero, List.getElem?_cons_succ]; rfl) (fun K hK => ?stepd19) AllReadyH.nil
          go_simp; go_at_call 40; (with_reducible refine (KTb.out _ b12).mono ?_); rintro e w13 ⟨A13, c13, rfl, h13, m13, b13⟩; have H13 := Lib.hid h13; clear h13; have H12' := Lib.hid ((H12.out.keep (keep_below m13)).imp (lt_mono m13.size)); clear H12
          go_wp2_with fail
          refine hK.out _ _ ?hSd19 (fun hHeld => ?_)
          case hSd19 => exact HS.out _ b13
          clear hK K
          try simp only [Act.put, List.setIfInBounds_toArray, List.set_cons_zero, List.set_cons_succ]
          refine wpAnyH_ready (rs := [19]) (by kernel_rfl) (by simp) ?_
          refine AllReadyH.cons (by simp only [List.getElem?_toArray, List.getElem?_cons_zero, List.getElem?_cons_succ]; rfl) (fun K hK => ?stepd20) AllReadyH.nil
          go_simp; go_at_call 35; (with_reducible refine (KE3.out A12 A13 c12 c13 _ H12'.out H13.out b13).mono ?_); rintro e w14 ⟨rfl, _, b14⟩
          go_wp2_with fail
          refine hK.out _ _ ?hSd20 (fun hHeld => ?_)
          case hSd20 => exact HS.out _ b14
          clear hK K
          try simp only [Act.put, List.setIfInBounds_toArray, List.set_cons_zero, List.set_cons_succ]
          refine wpAnyH_take (i := 20) (v := ?vd21) (by simp only [List.getElem?_toArray, List.getElem?_cons_zero, List.getElem?_cons_succ]; rfl) (by kernel_rfl) (by kernel_rfl) (by kernel_rfl) (fun _ _ _ h => h) (Or.inl ⟨by rfl, ?hyd21⟩) (by assumption) ?restd21
          case hyd21 => (intro w hSw; (try dsimp only at hSw); go_simp; try with_reducible rfl)
          try simp only [Act.put, List.setIfInBounds_toArray, List.set_cons_zero, List.set_cons_succ]
          refine wpAnyH_take (i := 21) (v := ?vd22) (by simp only [List.getElem?_toArray, List.getElem?_cons_zero, List.getElem?_cons_succ]; rfl) (by kernel_rfl) (by kernel_rfl) (by kernel_rfl) (fun _ _ _ h => h) (Or.inl ⟨by rfl, ?hyd22⟩) (by assumption) ?restd22
          case hyd22 => (intro w hSw; (try dsimp only at hSw); go_simp; try with_reducible rfl)
          try simp only [Act.put, List.setIfInBounds_toArray, List.set_cons_zero, List.set_cons_succ]
          refine wpAnyH_done (by kernel_rfl) ?_ _
          refine NoPanic.normal ?_
          go_wp2
          go_ret
          exact ⟨rfl, hB9.trans (b14.mono hB9.size)⟩
end Go.Proofs.YtinajnkjfhbmkaaGreatDoor
