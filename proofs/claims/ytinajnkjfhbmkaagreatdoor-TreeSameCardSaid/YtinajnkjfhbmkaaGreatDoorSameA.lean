/- Rows of parts, side by side: the mathematics, and the small rows. -/
import Derived.Test.YtinajnkjfhbmkaaGreatDoorOnce
import Derived.Test.YtinajnkjfhbmkaaGreatDoorAllU
namespace Go.Proofs.YtinajnkjfhbmkaaGreatDoor
open Go Go.Proofs Go.RowKit

/-- Two terms, two types, but for places and numbers. -/
def smT (x y : TermD) : Bool := decide (x.kind = y.kind ∧ x.name = y.name ∧ x.int = y.int ∧ x.bits = y.bits ∧ x.names = y.names ∧ x.kids.length = y.kids.length)
def smY (x y : TypD) : Bool := decide (x.kind = y.kind ∧ x.name = y.name ∧ x.opn = y.opn ∧ x.names = y.names)
def smA (x y : AliD) : Bool := decide (x.name = y.name)
def atT (a b : TreeD) (i j : Nat) : Bool := match a.nodes[i]?, b.nodes[j]? with | some x, some y => smT x y | _, _ => false
def atY (a b : TreeD) (i j : Nat) : Bool := match a.types[i]?, b.types[j]? with | some x, some y => smY x y | _, _ => false
/-- All terms, all types, each ahead of its kids. -/
def termsL (t : TreeD) : List Nat := walk (tmK t) (t.nodes.length - 1)
def typesIn (t : TreeD) (i : Nat) : List Int := match t.nodes[i]? with | some x => x.types | none => []
def rootsL (t : TreeD) (l : List Nat) : List Int := l.flatMap (typesIn t) ++ t.aliases.map (·.type)
def typesL (t : TreeD) (l : List Nat) : List Nat := (nats (rootsL t l)).flatMap (walk (tyK t))
def sameB (a b : TreeD) : Bool :=
  checkF a && (checkF b && (all2 (atT a b) (termsL a) (termsL b) && (all2 smA a.aliases b.aliases && all2 (atY a b) (typesL a (termsL a)) (typesL b (termsL b)))))

theorem smT_refl (x : TermD) : smT x x = true := by simp [smT]
theorem smY_refl (x : TypD) : smY x x = true := by simp [smY]
theorem smA_refl (x : AliD) : smA x x = true := by simp [smA]

theorem walk_lt {kids : Nat → List Nat} {n i : Nat} (hd : Dn kids n) (hi : i < n) : ∀ j ∈ walk kids i, j < n := fun j hj => by
  have := walk_le hd (i + 1) i (by omega) hi j hj
  omega
theorem termsL_lt {t : TreeD} (h : Rng t) : ∀ i ∈ termsL t, i < t.nodes.length := walk_lt h.dnN (by have := h.one; omega)
theorem typesIn_lt {t : TreeD} (h : Rng t) (i : Nat) : ∀ k ∈ typesIn t i, 0 ≤ k ∧ k < (t.types.length : Int) := fun k hk => by
  unfold typesIn at hk
  split at hk
  · rename_i x hx
    exact (h.nod i x hx).2.1 k hk
  · cases hk
theorem rootsL_lt {t : TreeD} (h : Rng t) (l : List Nat) : ∀ k ∈ rootsL t l, 0 ≤ k ∧ k < (t.types.length : Int) := fun k hk => by
  unfold rootsL at hk
  rcases List.mem_append.1 hk with hk | hk
  · obtain ⟨i, _, hk⟩ := List.mem_flatMap.1 hk
    exact typesIn_lt h i k hk
  · obtain ⟨x, hx, rfl⟩ := List.mem_map.1 hk
    exact ⟨(h.ali x hx).1, (h.ali x hx).2.1⟩
theorem typesL_lt {t : TreeD} (h : Rng t) (l : List Nat) : ∀ j ∈ typesL t l, j < t.types.length := fun j hj => by
  unfold typesL at hj
  obtain ⟨r, hr, hj⟩ := List.mem_flatMap.1 hj
  obtain ⟨k, hk, rfl⟩ := List.mem_map.1 hr
  have := rootsL_lt h l k hk
  exact walk_lt h.dnT (by omega) j hj

theorem flat_le {α β : Type} {f : α → List β} {c : Nat} : ∀ {l : List α}, (∀ a ∈ l, (f a).length ≤ c) → (l.flatMap f).length ≤ l.length * c
  | [], _ => by simp
  | a :: l, h => by
    rw [List.flatMap_cons, List.length_append, List.length_cons, Nat.add_mul]
    have := h a (by simp)
    have := flat_le (f := f) (c := c) (l := l) (fun b hb => h b (by simp [hb]))
    omega
theorem typesIn_len {t : TreeD} (hF : TreeFew t) (i : Nat) : (typesIn t i).length ≤ 1000 := by
  unfold typesIn
  split
  · rename_i x hx
    exact (hF.1 x (List.mem_of_getElem? hx)).2.2.2.2
  · simp
theorem rootsL_len {t : TreeD} (hF : TreeFew t) {l : List Nat} (hl : l.length ≤ 1000) : (rootsL t l).length ≤ 1001000 := by
  unfold rootsL
  have h1 : (l.flatMap (typesIn t)).length ≤ l.length * 1000 := flat_le fun i _ => typesIn_len hF i
  have := hF.2.2.2.1
  simp only [List.length_append, List.length_map]
  omega
theorem walks_len {t : TreeD} (h : Whole t) (hF : TreeFew t) : ∀ (l : List Nat), (∀ k ∈ l, k < t.types.length) → (l.flatMap (walk (tyK t))).length ≤ l.length * 1000 := fun l hl =>
  flat_le fun k hk => by have := h.walkT (hl k hk); have := hF.2.2.2.2.2; omega
theorem termsL_len {t : TreeD} (h : Whole t) (hF : TreeFew t) : (termsL t).length ≤ 1000 := by
  have := h.walkN (i := t.nodes.length - 1) (by have := h.rng.one; omega)
  have := hF.2.2.2.2.1
  unfold termsL
  omega
theorem typesL_len {t : TreeD} (h : Whole t) (hF : TreeFew t) {l : List Nat} (hl : l.length ≤ 1000) : (typesL t l).length ≤ 1001000000 := by
  have h1 := rootsL_len hF hl
  have h2 : (nats (rootsL t l)).length = (rootsL t l).length := List.length_map _
  have h3 := walks_len h hF (nats (rootsL t l)) (fun k hk => by
    obtain ⟨z, hz, rfl⟩ := List.mem_map.1 hk
    have := rootsL_lt h.rng l z hz
    omega)
  unfold typesL
  omega

theorem sameB_refl {t : TreeD} (h : checkF t = true) : sameB t t = true := by
  have hR := Rng.of h
  unfold sameB
  rw [h, all2_refl (r := atT t t) (fun i hi => by
    have hl := termsL_lt hR i hi
    unfold atT
    rw [List.getElem?_eq_getElem hl]
    exact smT_refl _), all2_refl (r := smA) (fun x _ => smA_refl x), all2_refl (r := atY t t) (fun i hi => by
    have hl := typesL_lt hR _ i hi
    unfold atY
    rw [List.getElem?_eq_getElem hl]
    exact smY_refl _)]
  rfl
end Go.Proofs.YtinajnkjfhbmkaaGreatDoor

namespace Go.Proofs.YtinajnkjfhbmkaaGreatDoor
open Go Go.Proofs Go.RowKit

theorem rds_at {w : World} {A : Option Addr} {xs : List ByteArray} {k : Nat} (h : RdAt w A (xs.map .string)) (hk : k < xs.length) : ∃ b off, A = some ⟨b, off, none⟩ ∧ w.cell? ⟨b, off + k, none⟩ = some (.string xs[k]) := by
  rcases h with h | ⟨b, off, e, h⟩
  · have : xs = [] := by simpa using h
    subst this
    simp at hk
  · exact ⟨b, off, e, h k _ (by simp [hk])⟩
theorem toList_inj {a b : ByteArray} (h : a.toList = b.toList) : a = b := by
  rw [ByteArray.toList_eq, ByteArray.toList_eq] at h
  exact ByteArray.ext (Array.toList_inj.1 h)

set_option maxRecDepth 100000 in
set_option maxHeartbeats 2000000 in
theorem seq_any (A1 A2 : Option Addr) (c1 c2 : Nat) (xs ys : List ByteArray) (w : World) (h1 : RdAt w A1 (xs.map .string)) (h2 : RdAt w A2 (ys.map .string)) (hx : xs.length ≤ 140737488351232) (hy : ys.length ≤ 140737488351232) :
    Calls Tryz.prog 65 #[.slice A1 xs.length c1, .slice A2 ys.length c2] w fun e w' => e = .returned (.bool (decide (xs = ys))) ∧ Below w.heap.size w w' := by
  obtain ⟨r, hr⟩ : ∃ r, decide (xs = ys) = r := ⟨_, rfl⟩
  rw [hr]
  have HR := Lib.hid hr
  clear hr
  by_cases hlen : xs.length = ys.length
  · obtain ⟨n, hn⟩ : ∃ n, ys.length = n := ⟨_, rfl⟩
    rw [hn] at hlen hy ⊢
    rw [hlen] at hx ⊢
    have HX := Lib.hid hlen
    have HY := Lib.hid hn
    clear hlen hn
    have hne : ((n : Int) != (n : Int)) = false := by simp
    have hB0 := Below.refl w.heap.size w
    go_enter Tryz.func65, Tryz.ntmps65
    go_wp2
    go_loopw [5, 13] (fun _ i wr => ∃ k : Nat, k ≤ n ∧ i = .int .i64 k ∧ Hid (xs.take k = ys.take k) ∧ Below w.heap.size w wr ∧ ∃ d, wr = w.drewN d) (fun _ i _ => n - (intOf i).toNat)
    case atStart => exact ⟨0, Nat.zero_le _, rfl, Lib.hid (by simp), hB0, 0, rfl⟩
    case round =>
      obtain ⟨k, hk, rfl, HT, hB, d, hwr⟩ := hrel
      by_cases hlt : k < n
      · have lx : k < xs.length := by rw [HX.out]; exact hlt
        have ly : k < ys.length := by rw [HY.out]; exact hlt
        obtain ⟨b, off, rfl, e1⟩ := rds_at h1 lx
        obtain ⟨b', off', rfl, e2⟩ := rds_at h2 ly
        have f1 : wr.cell? ⟨b, off + k, none⟩ = some (.string xs[k]) := by rw [hwr]; exact e1
        have f2 : wr.cell? ⟨b', off' + k, none⟩ = some (.string ys[k]) := by rw [hwr]; exact e2
        have htx : xs.take (k + 1) = xs.take k ++ [xs[k]] := List.take_succ_eq_append_getElem lx
        have hty : ys.take (k + 1) = ys.take k ++ [ys[k]] := List.take_succ_eq_append_getElem ly
        have hbad : xs[k] ≠ ys[k] → r = false := fun h => by
          rw [← HR.out, decide_eq_false_iff_not]
          intro he
          subst he
          exact h rfl
        obtain ⟨x, hxk⟩ : ∃ x, xs[k] = x := ⟨_, rfl⟩
        obtain ⟨y, hyk⟩ : ∃ y, ys[k] = y := ⟨_, rfl⟩
        rw [hxk] at f1 htx hbad
        rw [hyk] at f2 hty hbad
        have HTX := Lib.hid htx
        have HTY := Lib.hid hty
        have HBAD := Lib.hid hbad
        have HW := Lib.hid hwr
        clear hxk hyk htx hty hbad e1 e2 hwr h1 h2
        have i1 : (0 : Int) ≤ (k : Int) := by omega
        have i2 : (k : Int) < (n : Int) := by omega
        by_cases hxy : x = y
        · subst hxy
          have hq : (x.toList != x.toList) = false := by simp
          go_wp2
          go_quiet (fail)
          go_wp2
          go_roundw
          case rel => exact ⟨k + 1, by omega, by go_num, Lib.hid (by rw [HTX.out, HTY.out, HT.out]), hB.trans (below_drewN _ _ _), by have := HW.out; subst this; exact ⟨_, drewN_two _ _ _⟩⟩
          case measure => simp [intOf]; omega
        · have hq : (x.toList == y.toList) = false := by rw [beq_eq_false_iff_ne]; exact fun h => hxy (toList_inj h)
          have HF := Lib.hid (HBAD.out hxy)
          go_wp2
          go_quiet (fail)
          go_wp2
          go_ret
          exact ⟨ret_bool HF.out.symm, hB.trans (below_drewN _ _ _)⟩
      · obtain rfl : k = n := by omega
        have hT : r = true := by
          rw [← HR.out, decide_eq_true_eq]
          have := HT.out
          rwa [List.take_of_length_le (Nat.le_of_eq HX.out), List.take_of_length_le (Nat.le_of_eq HY.out)] at this
        have HF := Lib.hid hT
        clear hT hwr
        go_wp2
        go_ret
        exact ⟨ret_bool HF.out.symm, hB⟩
  · have hF : r = false := by
      rw [← HR.out, decide_eq_false_iff_not]
      intro he
      subst he
      exact hlen rfl
    have HF := Lib.hid hF
    clear hF
    have hne : ((xs.length : Int) != (ys.length : Int)) = true := by rw [bne_iff_ne]; omega
    go_enter Tryz.func65, Tryz.ntmps65
    go_wp2
    go_ret
    exact ⟨ret_bool HF.out.symm, Below.refl _ _⟩

theorem rd_kept {w W : World} {A : Option Addr} {n : Nat} {xs : List Value} (h : SlAt (Lt w.heap.size) w A n xs) (hb : Below w.heap.size w W) : RdAt W A xs :=
  RdAt.of_sl (h.keep (keep_below hb))

set_option maxRecDepth 100000 in
set_option maxHeartbeats 4000000 in
theorem smA_any (x y : AliD) (w : World) : Calls Tryz.prog 39 #[.agg (aliCells x).toArray, .agg (aliCells y).toArray] w fun e w' => e = .returned (.bool (smA x y)) ∧ Below w.heap.size w w' := by
  have hB := ((Below.refl w.heap.size w).alloc (Nat.le_refl _) (.cells (aliCells x).toArray 55)).alloc (by simp) (.cells (aliCells y).toArray 55)
  obtain ⟨r, hr⟩ : ∃ r, smA x y = r := ⟨_, rfl⟩
  have hc : (x.name.toList == y.name.toList) = r := by
    rw [← hr]
    unfold smA
    by_cases h : x.name = y.name
    · rw [h]; simp
    · rw [decide_eq_false h, beq_eq_false_iff_ne]; exact fun e => h (toList_inj e)
  rw [hr]
  clear hr
  have HB := Lib.hid hB
  clear hB
  unfold aliCells at HB ⊢
  go_enter Tryz.func39, Tryz.ntmps39
  go_wp2
  go_ret
  exact ⟨rfl, HB.out⟩

set_option maxRecDepth 100000 in
set_option maxHeartbeats 4000000 in
theorem smT_any (x y : TermD) (p q : Ptr3) (w : World) (hx : SlAt (Lt w.heap.size) w p.a5 x.names.length (x.names.map .string)) (hy : SlAt (Lt w.heap.size) w q.a5 y.names.length (y.names.map .string)) (bx : x.names.length ≤ 65536) (bz : y.names.length ≤ 65536) :
    Calls Tryz.prog 37 #[.agg (termCells x p).toArray, .agg (termCells y q).toArray] w fun e w' => e = .returned (.bool (smT x y)) ∧ Below w.heap.size w w' := by
  have hB := ((Below.refl w.heap.size w).alloc (Nat.le_refl _) (.cells (termCells x p).toArray 45)).alloc (by simp) (.cells (termCells y q).toArray 45)
  obtain ⟨r, hr⟩ : ∃ r, smT x y = r := ⟨_, rfl⟩
  rw [hr]
  have k53 := fun W (hW : Below w.heap.size w W) => seq_any p.a5 q.a5 p.c5 q.c5 x.names y.names W (rd_kept hx hW) (rd_kept hy hW) (by omega) (by omega)
  obtain ⟨c0, h0⟩ : ∃ c, (x.kind == y.kind) = c := ⟨_, rfl⟩
  have g0 : (x.kind = y.kind) ↔ c0 = true := by rw [← h0, beq_iff_eq]
  obtain ⟨c1, h1⟩ : ∃ c, (x.name.toList == y.name.toList) = c := ⟨_, rfl⟩
  have g1 : (x.name = y.name) ↔ c1 = true := by rw [← h1, beq_iff_eq]; exact ⟨fun e => by rw [e], toList_inj⟩
  obtain ⟨c2, h2⟩ : ∃ c, (x.int == y.int) = c := ⟨_, rfl⟩
  have g2 : (x.int = y.int) ↔ c2 = true := by rw [← h2, beq_iff_eq]
  obtain ⟨c3, h3⟩ : ∃ c, ((x.bits : Int) == (y.bits : Int)) = c := ⟨_, rfl⟩
  have g3 : (x.bits = y.bits) ↔ c3 = true := by rw [← h3, beq_iff_eq]; omega
  obtain ⟨c4, h4⟩ : ∃ c, decide (x.names = y.names) = c := ⟨_, rfl⟩
  rw [h4] at k53
  have g4 : (x.names = y.names) ↔ c4 = true := by rw [← h4, decide_eq_true_eq]
  obtain ⟨c5, h5⟩ : ∃ c, ((x.kids.length : Int) == (y.kids.length : Int)) = c := ⟨_, rfl⟩
  have g5 : (x.kids.length = y.kids.length) ↔ c5 = true := by rw [← h5, beq_iff_eq]; omega
  have hR : r = (c0 && c1 && c2 && c3 && c4 && c5) := by
    rw [← hr]
    unfold smT
    simp only [g0, g1, g2, g3, g4, g5, Bool.decide_and, Bool.decide_eq_true, Bool.and_assoc]
  have HX := Lib.hid ((Blk.new w 45 (termCells x p).toArray).alloc (.cells (termCells y q).toArray 45))
  have hY := Blk.new (w.alloc (.cells (termCells x p).toArray 45)) 45 (termCells y q).toArray
  rw [World.size_alloc] at hY
  have HY := Lib.hid hY
  have HB := Lib.hid hB
  clear hB hY hr hx hy g0 g1 g2 g3 g4 g5
  unfold termCells at HB HX HY ⊢
  cases c0
  · have hf : r = false := by rw [hR]; simp
    subst hf
    clear hR
    go_enter Tryz.func37, Tryz.ntmps37
    go_wp2
    go_ret
    exact ⟨rfl, HB.out⟩
  · skip
    cases c1
    · have hf : r = false := by rw [hR]; simp
      subst hf
      clear hR
      go_enter Tryz.func37, Tryz.ntmps37
      go_wp2
      go_ret
      exact ⟨rfl, HB.out⟩
    · skip
      cases c2
      · have hf : r = false := by rw [hR]; simp
        subst hf
        clear hR
        go_enter Tryz.func37, Tryz.ntmps37
        go_wp2
        go_ret
        exact ⟨rfl, HB.out⟩
      · skip
        cases c3
        · have hf : r = false := by rw [hR]; simp
          subst hf
          clear hR
          go_enter Tryz.func37, Tryz.ntmps37
          go_wp2
          go_ret
          exact ⟨rfl, HB.out⟩
        · skip
          cases c4
          · have hf : r = false := by rw [hR]; simp
            subst hf
            clear hR
            go_enter Tryz.func37, Tryz.ntmps37
            go_wp2_with (go_at_call 65; refine (k53 _ (by exact HB.out)).mono ?_; rintro e w3 ⟨rfl, hb3⟩; have hb4 := HB.out.trans (hb3.mono (by simp; omega)); clear hb3)
            go_ret
            exact ⟨rfl, hb4⟩
          · skip
            cases c5
            · have hf : r = false := by rw [hR]; simp
              subst hf
              clear hR
              go_enter Tryz.func37, Tryz.ntmps37
              go_wp2_with fail
              refine (k53 _ HB.out).mono ?_
              rintro e w3 ⟨rfl, hb3⟩
              have hb4 := HB.out.trans (hb3.mono (by simp; omega))
              have q6 := ((HX.out.below hb3 (by simp; omega)).cell 6).trans rfl
              have r6 := ((HY.out.below hb3 (by simp)).cell 6).trans rfl
              clear hb3 k53
              go_wp2
              go_ret
              exact ⟨rfl, hb4⟩
            · have hf : r = true := by rw [hR]; rfl
              subst hf
              clear hR
              go_enter Tryz.func37, Tryz.ntmps37
              go_wp2_with fail
              refine (k53 _ HB.out).mono ?_
              rintro e w3 ⟨rfl, hb3⟩
              have hb4 := HB.out.trans (hb3.mono (by simp; omega))
              have q6 := ((HX.out.below hb3 (by simp; omega)).cell 6).trans rfl
              have r6 := ((HY.out.below hb3 (by simp)).cell 6).trans rfl
              clear hb3 k53
              go_wp2
              go_ret
              exact ⟨rfl, hb4⟩

set_option maxRecDepth 100000 in
set_option maxHeartbeats 4000000 in
theorem smY_any (x y : TypD) (p q : Ptr2) (w : World) (hx : SlAt (Lt w.heap.size) w p.a3 x.names.length (x.names.map .string)) (hy : SlAt (Lt w.heap.size) w q.a3 y.names.length (y.names.map .string)) (bx : x.names.length ≤ 65536) (bz : y.names.length ≤ 65536) :
    Calls Tryz.prog 42 #[.agg (typCells x p).toArray, .agg (typCells y q).toArray] w fun e w' => e = .returned (.bool (smY x y)) ∧ Below w.heap.size w w' := by
  have hB := ((Below.refl w.heap.size w).alloc (Nat.le_refl _) (.cells (typCells x p).toArray 47)).alloc (by simp) (.cells (typCells y q).toArray 47)
  obtain ⟨r, hr⟩ : ∃ r, smY x y = r := ⟨_, rfl⟩
  rw [hr]
  have k53 := fun W (hW : Below w.heap.size w W) => seq_any p.a3 q.a3 p.c3 q.c3 x.names y.names W (rd_kept hx hW) (rd_kept hy hW) (by omega) (by omega)
  obtain ⟨c0, h0⟩ : ∃ c, (x.kind == y.kind) = c := ⟨_, rfl⟩
  have g0 : (x.kind = y.kind) ↔ c0 = true := by rw [← h0, beq_iff_eq]
  obtain ⟨c1, h1⟩ : ∃ c, (x.name.toList == y.name.toList) = c := ⟨_, rfl⟩
  have g1 : (x.name = y.name) ↔ c1 = true := by rw [← h1, beq_iff_eq]; exact ⟨fun e => by rw [e], toList_inj⟩
  obtain ⟨c2, h2⟩ : ∃ c, (x.opn == y.opn) = c := ⟨_, rfl⟩
  have g2 : (x.opn = y.opn) ↔ c2 = true := by rw [← h2, beq_iff_eq]
  obtain ⟨c3, h3⟩ : ∃ c, decide (x.names = y.names) = c := ⟨_, rfl⟩
  rw [h3] at k53
  have g3 : (x.names = y.names) ↔ c3 = true := by rw [← h3, decide_eq_true_eq]
  have hR : r = (c0 && c1 && c2 && c3) := by
    rw [← hr]
    unfold smY
    simp only [g0, g1, g2, g3, Bool.decide_and, Bool.decide_eq_true, Bool.and_assoc]
  have HB := Lib.hid hB
  clear hB hr hx hy g0 g1 g2 g3
  unfold typCells at HB ⊢
  cases c0
  · have hf : r = false := by rw [hR]; simp
    subst hf
    clear hR
    go_enter Tryz.func42, Tryz.ntmps42
    go_wp2
    go_ret
    exact ⟨rfl, HB.out⟩
  · skip
    cases c1
    · have hf : r = false := by rw [hR]; simp
      subst hf
      clear hR
      go_enter Tryz.func42, Tryz.ntmps42
      go_wp2
      go_ret
      exact ⟨rfl, HB.out⟩
    · skip
      cases c2
      · have hf : r = false := by rw [hR]; simp
        subst hf
        clear hR
        go_enter Tryz.func42, Tryz.ntmps42
        go_wp2
        go_ret
        exact ⟨rfl, HB.out⟩
      · skip
        cases c3
        · have hf : r = false := by rw [hR]; simp
          subst hf
          clear hR
          go_enter Tryz.func42, Tryz.ntmps42
          go_wp2_with (go_at_call 65; refine (k53 _ (by exact HB.out)).mono ?_; rintro e w3 ⟨rfl, hb3⟩; have hb4 := HB.out.trans (hb3.mono (by simp; omega)); clear hb3)
          go_ret
          exact ⟨rfl, hb4⟩
        · have hf : r = true := by rw [hR]; rfl
          subst hf
          clear hR
          go_enter Tryz.func42, Tryz.ntmps42
          go_wp2_with (go_at_call 65; refine (k53 _ (by exact HB.out)).mono ?_; rintro e w3 ⟨rfl, hb3⟩; have hb4 := HB.out.trans (hb3.mono (by simp; omega)); clear hb3)
          go_ret
          exact ⟨rfl, hb4⟩
end Go.Proofs.YtinajnkjfhbmkaaGreatDoor
