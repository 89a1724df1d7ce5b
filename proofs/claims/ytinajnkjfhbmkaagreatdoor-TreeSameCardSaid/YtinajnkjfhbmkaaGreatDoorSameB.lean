/- Rows of parts, side by side: slices.EqualFunc, and what it asks of two parts. -/
import Derived.Test.YtinajnkjfhbmkaaGreatDoorSameA
import Derived.Test.YtinajnkjfhbmkaaGreatDoorAhead
import Derived.Deep.RegionHeld3
namespace Go.Proofs.YtinajnkjfhbmkaaGreatDoor
open Go Go.Proofs Go.RowKit

theorem all2_get {α β : Type} {f : α → β → Bool} : ∀ {xs : List α} {ys : List β}, all2 f xs ys = true → ∀ (k : Nat) (hx : k < xs.length) (hy : k < ys.length), f xs[k] ys[k] = true
  | [], _, _, k, hx, _ => absurd hx (by simp)
  | _ :: _, [], _, k, _, hy => absurd hy (by simp)
  | x :: xs, y :: ys, h, 0, _, _ => by simp only [all2, Bool.and_eq_true] at h; exact h.1
  | x :: xs, y :: ys, h, k + 1, hx, hy => by
    simp only [all2, Bool.and_eq_true] at h
    exact all2_get h.2 k (by simpa using hx) (by simpa using hy)
theorem all2_take {α β : Type} {f : α → β → Bool} {xs : List α} {ys : List β} {k : Nat} (hx : k < xs.length) (hy : k < ys.length) (h : all2 f (xs.take k) (ys.take k) = true) (hf : f xs[k] ys[k] = true) : all2 f (xs.take (k + 1)) (ys.take (k + 1)) = true := by
  rw [List.take_succ_eq_append_getElem hx, List.take_succ_eq_append_getElem hy, all2_append (by simp; omega), h]
  simp [all2, hf]
theorem all2_bad {α β : Type} {f : α → β → Bool} {xs : List α} {ys : List β} {k : Nat} (hx : k < xs.length) (hy : k < ys.length) (hf : f xs[k] ys[k] = false) : all2 f xs ys = false := by
  cases h : all2 f xs ys with
  | false => rfl
  | true => rw [all2_get h k hx hy] at hf; cases hf
theorem all2_long {α β : Type} {f : α → β → Bool} {xs : List α} {ys : List β} (h : xs.length ≠ ys.length) : all2 f xs ys = false := by
  cases h' : all2 f xs ys with
  | false => rfl
  | true => exact absurd (all2_length h') h

theorem nz_at {W : World} {A : Option Addr} {xs : List Nat} {k : Nat} (h : RdAt W A ((nz xs).map iv)) (hk : k < xs.length) : ∃ b off, A = some ⟨b, off, none⟩ ∧ W.cell? ⟨b, off + k, none⟩ = some (.int .i64 (xs[k] : Int)) := by
  obtain ⟨b, off, e, hc⟩ := rd_at h (k := k) (by simpa using hk)
  exact ⟨b, off, e, by rw [hc]; simp⟩

set_option maxRecDepth 100000 in
set_option maxHeartbeats 4000000 in
theorem eqF_any (fk : Nat) (hfk : fk = 36 ∨ fk = 41) (d1 d2 : Value) (f : Nat → Nat → Bool) (A1 A2 : Option Addr) (k1 k2 : Nat) (xs ys : List Nat) (w : World)
    (hx : SlAt (Lt w.heap.size) w A1 xs.length ((nz xs).map iv)) (hy : SlAt (Lt w.heap.size) w A2 ys.length ((nz ys).map iv)) (bx : xs.length ≤ 140737488351232) (bz : ys.length ≤ 140737488351232)
    (hk : ∀ i ∈ xs, ∀ j ∈ ys, ∀ W, Below w.heap.size w W → Calls Tryz.prog fk #[.int .i64 (i : Int), .int .i64 (j : Int), d1, d2] W fun e W' => e = .returned (.bool (f i j)) ∧ Below W.heap.size W W') :
    Calls Tryz.prog 35 #[.slice A1 xs.length k1, .slice A2 ys.length k2, .func (.func fk) #[] #[d1, d2]] w fun e w' => e = .returned (.bool (all2 f xs ys)) ∧ Below w.heap.size w w' := by
  obtain ⟨r, hr⟩ : ∃ r, all2 f xs ys = r := ⟨_, rfl⟩
  rw [hr]
  have HR := Lib.hid hr
  have HK := Lib.hid hk
  have HX := Lib.hid hx
  have HY := Lib.hid hy
  have hB0 := Below.refl w.heap.size w
  clear hr hk hx hy
  by_cases hlen : xs.length = ys.length
  · obtain ⟨n, hn⟩ : ∃ n, ys.length = n := ⟨_, rfl⟩
    rw [hn] at hlen bz ⊢
    rw [hlen] at bx ⊢
    have HLX := Lib.hid hlen
    have HLY := Lib.hid hn
    clear hlen hn
    have hne : ((n : Int) != (n : Int)) = false := by simp
    go_enter Tryz.func35, Tryz.ntmps35
    go_wp2
    go_loopw [7, 8, 9, 17] (fun _ _ _ i wr => ∃ k : Nat, k ≤ n ∧ i = .int .i64 k ∧ Hid (all2 f (xs.take k) (ys.take k) = true) ∧ Below w.heap.size w wr) (fun _ _ _ i _ => n - (intOf i).toNat)
    case atStart => exact ⟨0, Nat.zero_le _, rfl, Lib.hid (by simp [all2]), hB0⟩
    case round =>
      obtain ⟨k, hk, rfl, HT, hB⟩ := hrel
      by_cases hlt : k < n
      · have lx : k < xs.length := by rw [HLX.out]; exact hlt
        have ly : k < ys.length := by rw [HLY.out]; exact hlt
        obtain ⟨b, off, rfl, f1⟩ := nz_at (rd_kept HX.out hB) lx
        obtain ⟨b', off', rfl, f2⟩ := nz_at (rd_kept HY.out hB) ly
        have kC := HK.out _ (List.getElem_mem lx) _ (List.getElem_mem ly) wr hB
        have hgood := Lib.hid (all2_take lx ly HT.out)
        have hbad := Lib.hid (all2_bad (f := f) lx ly)
        obtain ⟨x, hxk⟩ : ∃ x, xs[k] = x := ⟨_, rfl⟩
        obtain ⟨y, hyk⟩ : ∃ y, ys[k] = y := ⟨_, rfl⟩
        rw [hxk] at f1 kC hgood hbad
        rw [hyk] at f2 kC hgood hbad
        obtain ⟨c, hc⟩ : ∃ c, f x y = c := ⟨_, rfl⟩
        rw [hc] at kC hgood hbad
        have i1 : (0 : Int) ≤ (k : Int) := by omega
        have i2 : (k : Int) < (n : Int) := by omega
        clear hxk hyk hc
        cases c
        · have HF := Lib.hid (HR.out.symm.trans (hbad.out rfl))
          rcases hfk with rfl | rfl
          all_goals
            go_wp2_with fail
            refine kC.mono ?_
            rintro e w3 ⟨rfl, hb3⟩
            have hB3 := hB.trans (hb3.mono hB.size)
            clear kC hb3
            go_wp2
            go_ret
            exact ⟨ret_bool HF.out.symm, hB3⟩
        · have HG := Lib.hid (hgood.out rfl)
          rcases hfk with rfl | rfl
          all_goals
            go_wp2_with fail
            refine kC.mono ?_
            rintro e w3 ⟨rfl, hb3⟩
            have hB3 := hB.trans (hb3.mono hB.size)
            clear kC hb3
            go_wp2
            go_roundw
            case rel => exact ⟨k + 1, by omega, by go_num, HG, hB3⟩
            case measure => simp [intOf]; omega
      · obtain rfl : k = n := by omega
        have hT : r = true := by
          rw [← HR.out]
          have := HT.out
          rwa [List.take_of_length_le (Nat.le_of_eq HLX.out), List.take_of_length_le (Nat.le_of_eq HLY.out)] at this
        have HF := Lib.hid hT
        clear hT
        go_wp2
        go_ret
        exact ⟨ret_bool HF.out.symm, hB⟩
  · have HF := Lib.hid (HR.out.symm.trans (all2_long (f := f) hlen))
    have hne : ((xs.length : Int) != (ys.length : Int)) = true := by rw [bne_iff_ne]; omega
    go_enter Tryz.func35, Tryz.ntmps35
    go_wp2
    go_ret
    exact ⟨ret_bool HF.out.symm, hB0⟩

set_option maxRecDepth 100000 in
set_option maxHeartbeats 4000000 in
theorem eqA_any (A1 A2 : Option Addr) (k1 k2 : Nat) (xs ys : List AliD) (w : World)
    (hx : AlisAt (Lt w.heap.size) w A1 xs) (hy : AlisAt (Lt w.heap.size) w A2 ys) (bx : xs.length ≤ 140737488351232) (bz : ys.length ≤ 140737488351232) :
    Calls Tryz.prog 38 #[.slice A1 xs.length k1, .slice A2 ys.length k2, .func (.func 39) #[] #[]] w fun e w' => e = .returned (.bool (all2 smA xs ys)) ∧ Below w.heap.size w w' := by
  obtain ⟨r, hr⟩ : ∃ r, all2 smA xs ys = r := ⟨_, rfl⟩
  rw [hr]
  have HR := Lib.hid hr
  have HX := Lib.hid hx
  have HY := Lib.hid hy
  have hB0 := Below.refl w.heap.size w
  clear hr hx hy
  by_cases hlen : xs.length = ys.length
  · obtain ⟨n, hn⟩ : ∃ n, ys.length = n := ⟨_, rfl⟩
    rw [hn] at hlen bz ⊢
    rw [hlen] at bx ⊢
    have HLX := Lib.hid hlen
    have HLY := Lib.hid hn
    clear hlen hn
    have hne : ((n : Int) != (n : Int)) = false := by simp
    go_enter Tryz.func38, Tryz.ntmps38
    go_wp2
    go_loopw [7, 8, 9, 17] (fun _ _ _ i wr => ∃ k : Nat, k ≤ n ∧ i = .int .i64 k ∧ Hid (all2 smA (xs.take k) (ys.take k) = true) ∧ Below w.heap.size w wr) (fun _ _ _ i _ => n - (intOf i).toNat)
    case atStart => exact ⟨0, Nat.zero_le _, rfl, Lib.hid (by simp [all2]), hB0⟩
    case round =>
      obtain ⟨k, hk, rfl, HT, hB⟩ := hrel
      have hzr := hB.size
      by_cases hlt : k < n
      · have lx : k < xs.length := by rw [HLX.out]; exact hlt
        have ly : k < ys.length := by rw [HLY.out]; exact hlt
        obtain ⟨b, off, rfl, hb, hcx⟩ := HX.out (by omega)
        obtain ⟨b', off', rfl, hb', hcy⟩ := HY.out (by omega)
        have hqx := hcx k _ (List.getElem?_eq_getElem lx)
        have hqy := hcy k _ (List.getElem?_eq_getElem ly)
        have hgood := Lib.hid (all2_take lx ly HT.out)
        have hbad := Lib.hid (all2_bad (f := smA) lx ly)
        obtain ⟨x, hxk⟩ : ∃ x, xs[k] = x := ⟨_, rfl⟩
        obtain ⟨y, hyk⟩ : ∃ y, ys[k] = y := ⟨_, rfl⟩
        rw [hxk] at hqx hgood hbad
        rw [hyk] at hqy hgood hbad
        have e0 := (hB.cell (p := ⟨b, off + k * 3, none⟩) hb).trans (hqx 0 _ rfl)
        have e1 := (hB.cell (p := ⟨b, off + k * 3 + 1, none⟩) hb).trans (hqx 1 _ rfl)
        have e2 := (hB.cell (p := ⟨b, off + k * 3 + 2, none⟩) hb).trans (hqx 2 _ rfl)
        have g0 := (hB.cell (p := ⟨b', off' + k * 3, none⟩) hb').trans (hqy 0 _ rfl)
        have g1 := (hB.cell (p := ⟨b', off' + k * 3 + 1, none⟩) hb').trans (hqy 1 _ rfl)
        have g2 := (hB.cell (p := ⟨b', off' + k * 3 + 2, none⟩) hb').trans (hqy 2 _ rfl)
        have lb1 : b < wr.heap.size := Nat.lt_of_lt_of_le hb hzr
        have lb2 : b' < wr.heap.size := Nat.lt_of_lt_of_le hb' hzr
        clear hcx hcy hqx hqy hxk hyk
        have kC := fun W => smA_any x y W
        obtain ⟨c, hc⟩ : ∃ c, smA x y = c := ⟨_, rfl⟩
        rw [hc] at kC hgood hbad
        unfold aliCells at kC
        have i1 : (0 : Int) ≤ (k : Int) := by omega
        have i2 : (k : Int) < (n : Int) := by omega
        clear hc
        cases c
        · have HF := Lib.hid (HR.out.symm.trans (hbad.out rfl))
          go_wp2_with fail
          refine (kC _).mono ?_
          rintro e w3 ⟨rfl, hb3⟩
          have hB3 : Below w.heap.size w w3 := ((hB.alloc (by omega) _).alloc (by simp; omega) _).trans (hb3.mono (by simp; omega))
          clear kC hb3 e0 e1 e2 g0 g1 g2
          go_wp2
          go_ret
          exact ⟨ret_bool HF.out.symm, hB3⟩
        · have HG := Lib.hid (hgood.out rfl)
          go_wp2_with fail
          refine (kC _).mono ?_
          rintro e w3 ⟨rfl, hb3⟩
          have hB3 : Below w.heap.size w w3 := ((hB.alloc (by omega) _).alloc (by simp; omega) _).trans (hb3.mono (by simp; omega))
          clear kC hb3 e0 e1 e2 g0 g1 g2
          go_wp2
          go_roundw
          case rel => exact ⟨k + 1, by omega, by go_num, HG, hB3⟩
          case measure => simp [intOf]; omega
      · obtain rfl : k = n := by omega
        have hT : r = true := by
          rw [← HR.out]
          have := HT.out
          rwa [List.take_of_length_le (Nat.le_of_eq HLX.out), List.take_of_length_le (Nat.le_of_eq HLY.out)] at this
        have HF := Lib.hid hT
        clear hT
        go_wp2
        go_ret
        exact ⟨ret_bool HF.out.symm, hB⟩
  · have HF := Lib.hid (HR.out.symm.trans (all2_long (f := smA) hlen))
    have hne : ((xs.length : Int) != (ys.length : Int)) = true := by rw [bne_iff_ne]; omega
    go_enter Tryz.func38, Tryz.ntmps38
    go_wp2
    go_ret
    exact ⟨ret_bool HF.out.symm, hB0⟩

set_option maxRecDepth 100000 in
set_option maxHeartbeats 4000000 in
theorem cl35_any (a b : TreeD) (p q : Ptr6) (Ba Bb i j : Nat) (W : World) (hA : Blk W Ba 26 #[.slice p.a1 a.nodes.length p.c1, .slice p.a2 a.types.length p.c2, .slice p.a3 a.aliases.length p.c3]) (hB : Blk W Bb 26 #[.slice q.a1 b.nodes.length q.c1, .slice q.a2 b.types.length q.c2, .slice q.a3 b.aliases.length q.c3])
    (hN : NodesAt (Lt W.heap.size) W p.a1 a.nodes) (hM : NodesAt (Lt W.heap.size) W q.a1 b.nodes) (hi : i < a.nodes.length) (hj : j < b.nodes.length) (bi : a.nodes.length ≤ 1000) (bj : b.nodes.length ≤ 1000)
    (fa : ∀ x ∈ a.nodes, x.names.length ≤ 1000) (fb : ∀ x ∈ b.nodes, x.names.length ≤ 1000) :
    Calls Tryz.prog 36 #[.int .i64 (i : Int), .int .i64 (j : Int), .pointer (some ⟨Ba, 0, none⟩), .pointer (some ⟨Bb, 0, none⟩)] W fun e W' => e = .returned (.bool (atT a b i j)) ∧ Below W.heap.size W W' := by
  obtain ⟨b1, off, hp, hb, hcell⟩ := hN (by omega)
  obtain ⟨b2, off', hq, hb', hcell'⟩ := hM (by omega)
  have hx := List.getElem?_eq_getElem hi
  have hy := List.getElem?_eq_getElem hj
  obtain ⟨u, hu, hcu⟩ := hcell i _ hx
  obtain ⟨v, hv, hcv⟩ := hcell' j _ hy
  have fx := fa _ (List.getElem_mem hi)
  have fy := fb _ (List.getElem_mem hj)
  have hat : atT a b i j = smT a.nodes[i] b.nodes[j] := by unfold atT; rw [hx, hy]
  rw [hat]
  have x0 := hA.cell 0
  have y0 := hB.cell 0
  simp only [List.getElem?_toArray, List.getElem?_cons_zero] at x0 y0
  rw [hp] at x0
  rw [hq] at y0
  obtain ⟨x, hx'⟩ : ∃ x, a.nodes[i] = x := ⟨_, rfl⟩
  obtain ⟨y, hy'⟩ : ∃ y, b.nodes[j] = y := ⟨_, rfl⟩
  rw [hx'] at hu hcu fx ⊢
  rw [hy'] at hv hcv fy ⊢
  have kC : ∀ w, Below W.heap.size W w → Calls Tryz.prog 37 #[.agg (termCells x u).toArray, .agg (termCells y v).toArray] w fun e w' => e = .returned (.bool (smT x y)) ∧ Below W.heap.size W w' := fun w hw =>
    (smT_any x y u v w ((hu.1.keep (keep_below hw)).imp (lt_mono hw.size)) ((hv.1.keep (keep_below hw)).imp (lt_mono hw.size)) (by omega) (by omega)).mono fun e w' h => ⟨h.1, hw.trans (h.2.mono hw.size)⟩
  unfold termCells at kC
  have e0 := hcu 0 _ rfl
  have g0 := hcv 0 _ rfl
  have e1 := hcu 1 _ rfl
  have g1 := hcv 1 _ rfl
  have e2 := hcu 2 _ rfl
  have g2 := hcv 2 _ rfl
  have e3 := hcu 3 _ rfl
  have g3 := hcv 3 _ rfl
  have e4 := hcu 4 _ rfl
  have g4 := hcv 4 _ rfl
  have e5 := hcu 5 _ rfl
  have g5 := hcv 5 _ rfl
  have e6 := hcu 6 _ rfl
  have g6 := hcv 6 _ rfl
  have e7 := hcu 7 _ rfl
  have g7 := hcv 7 _ rfl
  have hB0 := Below.refl W.heap.size W
  have i1 : (0 : Int) ≤ (i : Int) := by omega
  have i2 : (i : Int) < (a.nodes.length : Int) := by omega
  have j1 : (0 : Int) ≤ (j : Int) := by omega
  have j2 : (j : Int) < (b.nodes.length : Int) := by omega
  have hs : (fun w' : World => w'.cell? ⟨Ba, 0, none⟩ = some (.slice (some ⟨b1, off, none⟩) a.nodes.length p.c1) ∧ w'.cell? ⟨Bb, 0, none⟩ = some (.slice (some ⟨b2, off', none⟩) b.nodes.length q.c1) ∧ w'.cell? ⟨b1, off + i * 8, none⟩ = some (.int .i64 x.kind) ∧ w'.cell? ⟨b1, off + i * 8 + 1, none⟩ = some (.int .i64 x.pos) ∧ w'.cell? ⟨b1, off + i * 8 + 2, none⟩ = some (.string x.name) ∧ w'.cell? ⟨b1, off + i * 8 + 3, none⟩ = some (.int .i64 x.int) ∧ w'.cell? ⟨b1, off + i * 8 + 4, none⟩ = some (.int .u64 (x.bits : Int)) ∧ w'.cell? ⟨b1, off + i * 8 + 5, none⟩ = some (.slice u.a5 x.names.length u.c5) ∧ w'.cell? ⟨b1, off + i * 8 + 6, none⟩ = some (.slice u.a6 x.kids.length u.c6) ∧ w'.cell? ⟨b1, off + i * 8 + 7, none⟩ = some (.slice u.a7 x.types.length u.c7) ∧ w'.cell? ⟨b2, off' + j * 8, none⟩ = some (.int .i64 y.kind) ∧ w'.cell? ⟨b2, off' + j * 8 + 1, none⟩ = some (.int .i64 y.pos) ∧ w'.cell? ⟨b2, off' + j * 8 + 2, none⟩ = some (.string y.name) ∧ w'.cell? ⟨b2, off' + j * 8 + 3, none⟩ = some (.int .i64 y.int) ∧ w'.cell? ⟨b2, off' + j * 8 + 4, none⟩ = some (.int .u64 (y.bits : Int)) ∧ w'.cell? ⟨b2, off' + j * 8 + 5, none⟩ = some (.slice v.a5 y.names.length v.c5) ∧ w'.cell? ⟨b2, off' + j * 8 + 6, none⟩ = some (.slice v.a6 y.kids.length v.c6) ∧ w'.cell? ⟨b2, off' + j * 8 + 7, none⟩ = some (.slice v.a7 y.types.length v.c7) ∧ Below W.heap.size W w') W := ⟨x0, y0, e0, e1, e2, e3, e4, e5, e6, e7, g0, g1, g2, g3, g4, g5, g6, g7, hB0⟩
  have hlA := hA.lt
  have hlB := hB.lt
  have HK := Lib.hid kC
  have hkeep : ∀ w, Below W.heap.size W w → (fun w' : World => w'.cell? ⟨Ba, 0, none⟩ = some (.slice (some ⟨b1, off, none⟩) a.nodes.length p.c1) ∧ w'.cell? ⟨Bb, 0, none⟩ = some (.slice (some ⟨b2, off', none⟩) b.nodes.length q.c1) ∧ w'.cell? ⟨b1, off + i * 8, none⟩ = some (.int .i64 x.kind) ∧ w'.cell? ⟨b1, off + i * 8 + 1, none⟩ = some (.int .i64 x.pos) ∧ w'.cell? ⟨b1, off + i * 8 + 2, none⟩ = some (.string x.name) ∧ w'.cell? ⟨b1, off + i * 8 + 3, none⟩ = some (.int .i64 x.int) ∧ w'.cell? ⟨b1, off + i * 8 + 4, none⟩ = some (.int .u64 (x.bits : Int)) ∧ w'.cell? ⟨b1, off + i * 8 + 5, none⟩ = some (.slice u.a5 x.names.length u.c5) ∧ w'.cell? ⟨b1, off + i * 8 + 6, none⟩ = some (.slice u.a6 x.kids.length u.c6) ∧ w'.cell? ⟨b1, off + i * 8 + 7, none⟩ = some (.slice u.a7 x.types.length u.c7) ∧ w'.cell? ⟨b2, off' + j * 8, none⟩ = some (.int .i64 y.kind) ∧ w'.cell? ⟨b2, off' + j * 8 + 1, none⟩ = some (.int .i64 y.pos) ∧ w'.cell? ⟨b2, off' + j * 8 + 2, none⟩ = some (.string y.name) ∧ w'.cell? ⟨b2, off' + j * 8 + 3, none⟩ = some (.int .i64 y.int) ∧ w'.cell? ⟨b2, off' + j * 8 + 4, none⟩ = some (.int .u64 (y.bits : Int)) ∧ w'.cell? ⟨b2, off' + j * 8 + 5, none⟩ = some (.slice v.a5 y.names.length v.c5) ∧ w'.cell? ⟨b2, off' + j * 8 + 6, none⟩ = some (.slice v.a6 y.kids.length v.c6) ∧ w'.cell? ⟨b2, off' + j * 8 + 7, none⟩ = some (.slice v.a7 y.types.length v.c7) ∧ Below W.heap.size W w') w := fun w hw => ⟨(hw.cell (p := ⟨Ba, 0, none⟩) hlA).trans x0, (hw.cell (p := ⟨Bb, 0, none⟩) hlB).trans y0, (hw.cell (p := ⟨b1, _, none⟩) hb).trans e0, (hw.cell (p := ⟨b1, _, none⟩) hb).trans e1, (hw.cell (p := ⟨b1, _, none⟩) hb).trans e2, (hw.cell (p := ⟨b1, _, none⟩) hb).trans e3, (hw.cell (p := ⟨b1, _, none⟩) hb).trans e4, (hw.cell (p := ⟨b1, _, none⟩) hb).trans e5, (hw.cell (p := ⟨b1, _, none⟩) hb).trans e6, (hw.cell (p := ⟨b1, _, none⟩) hb).trans e7, (hw.cell (p := ⟨b2, _, none⟩) hb').trans g0, (hw.cell (p := ⟨b2, _, none⟩) hb').trans g1, (hw.cell (p := ⟨b2, _, none⟩) hb').trans g2, (hw.cell (p := ⟨b2, _, none⟩) hb').trans g3, (hw.cell (p := ⟨b2, _, none⟩) hb').trans g4, (hw.cell (p := ⟨b2, _, none⟩) hb').trans g5, (hw.cell (p := ⟨b2, _, none⟩) hb').trans g6, (hw.cell (p := ⟨b2, _, none⟩) hb').trans g7, hw⟩
  have HS := Lib.hid hkeep
  clear hA hB hN hM hcell hcell' hu hv hcu hcv hx hy hat fx fy fa fb hp hq hx' hy' hs hkeep kC e0 g0 e1 g1 e2 g2 e3 g3 e4 g4 e5 g5 e6 g6 e7 g7
  go_enter Tryz.func36, Tryz.ntmps36
  go_wp2_with fail
  go_region_held3 (fun w' => w'.cell? ⟨Ba, 0, none⟩ = some (.slice (some ⟨b1, off, none⟩) a.nodes.length p.c1) ∧ w'.cell? ⟨Bb, 0, none⟩ = some (.slice (some ⟨b2, off', none⟩) b.nodes.length q.c1) ∧ w'.cell? ⟨b1, off + i * 8, none⟩ = some (.int .i64 x.kind) ∧ w'.cell? ⟨b1, off + i * 8 + 1, none⟩ = some (.int .i64 x.pos) ∧ w'.cell? ⟨b1, off + i * 8 + 2, none⟩ = some (.string x.name) ∧ w'.cell? ⟨b1, off + i * 8 + 3, none⟩ = some (.int .i64 x.int) ∧ w'.cell? ⟨b1, off + i * 8 + 4, none⟩ = some (.int .u64 (x.bits : Int)) ∧ w'.cell? ⟨b1, off + i * 8 + 5, none⟩ = some (.slice u.a5 x.names.length u.c5) ∧ w'.cell? ⟨b1, off + i * 8 + 6, none⟩ = some (.slice u.a6 x.kids.length u.c6) ∧ w'.cell? ⟨b1, off + i * 8 + 7, none⟩ = some (.slice u.a7 x.types.length u.c7) ∧ w'.cell? ⟨b2, off' + j * 8, none⟩ = some (.int .i64 y.kind) ∧ w'.cell? ⟨b2, off' + j * 8 + 1, none⟩ = some (.int .i64 y.pos) ∧ w'.cell? ⟨b2, off' + j * 8 + 2, none⟩ = some (.string y.name) ∧ w'.cell? ⟨b2, off' + j * 8 + 3, none⟩ = some (.int .i64 y.int) ∧ w'.cell? ⟨b2, off' + j * 8 + 4, none⟩ = some (.int .u64 (y.bits : Int)) ∧ w'.cell? ⟨b2, off' + j * 8 + 5, none⟩ = some (.slice v.a5 y.names.length v.c5) ∧ w'.cell? ⟨b2, off' + j * 8 + 6, none⟩ = some (.slice v.a6 y.kids.length v.c6) ∧ w'.cell? ⟨b2, off' + j * 8 + 7, none⟩ = some (.slice v.a7 y.types.length v.c7) ∧ Below W.heap.size W w')
    (exact HS.out _ (by repeat (first | exact hb6 | exact hB0 | refine Below.drew ?_)))
    (first | (go_at_call 37; (with_reducible refine (HK.out _ (by repeat (first | exact hB0 | refine Below.drew ?_))).mono ?_); rintro e w6 ⟨rfl, hb6⟩))
  go_wp2
  go_ret
  exact ⟨rfl, hb6⟩

set_option maxRecDepth 100000 in
set_option maxHeartbeats 4000000 in
theorem cl40_any (a b : TreeD) (p q : Ptr6) (Ba Bb i j : Nat) (W : World) (hA : Blk W Ba 26 #[.slice p.a1 a.nodes.length p.c1, .slice p.a2 a.types.length p.c2, .slice p.a3 a.aliases.length p.c3]) (hB : Blk W Bb 26 #[.slice q.a1 b.nodes.length q.c1, .slice q.a2 b.types.length q.c2, .slice q.a3 b.aliases.length q.c3])
    (hN : TypsAt (Lt W.heap.size) W p.a2 a.types) (hM : TypsAt (Lt W.heap.size) W q.a2 b.types) (hi : i < a.types.length) (hj : j < b.types.length) (bi : a.types.length ≤ 1000) (bj : b.types.length ≤ 1000)
    (fa : ∀ x ∈ a.types, x.names.length ≤ 1000) (fb : ∀ x ∈ b.types, x.names.length ≤ 1000) :
    Calls Tryz.prog 41 #[.int .i64 (i : Int), .int .i64 (j : Int), .pointer (some ⟨Ba, 0, none⟩), .pointer (some ⟨Bb, 0, none⟩)] W fun e W' => e = .returned (.bool (atY a b i j)) ∧ Below W.heap.size W W' := by
  obtain ⟨b1, off, hp, hb, hcell⟩ := hN (by omega)
  obtain ⟨b2, off', hq, hb', hcell'⟩ := hM (by omega)
  have hx := List.getElem?_eq_getElem hi
  have hy := List.getElem?_eq_getElem hj
  obtain ⟨u, hu, hcu⟩ := hcell i _ hx
  obtain ⟨v, hv, hcv⟩ := hcell' j _ hy
  have fx := fa _ (List.getElem_mem hi)
  have fy := fb _ (List.getElem_mem hj)
  have hat : atY a b i j = smY a.types[i] b.types[j] := by unfold atY; rw [hx, hy]
  rw [hat]
  have x0 := hA.cell 1
  have y0 := hB.cell 1
  simp only [List.getElem?_toArray, List.getElem?_cons_zero, List.getElem?_cons_succ] at x0 y0
  rw [hp] at x0
  rw [hq] at y0
  obtain ⟨x, hx'⟩ : ∃ x, a.types[i] = x := ⟨_, rfl⟩
  obtain ⟨y, hy'⟩ : ∃ y, b.types[j] = y := ⟨_, rfl⟩
  rw [hx'] at hu hcu fx ⊢
  rw [hy'] at hv hcv fy ⊢
  have kC : ∀ w, Below W.heap.size W w → Calls Tryz.prog 42 #[.agg (typCells x u).toArray, .agg (typCells y v).toArray] w fun e w' => e = .returned (.bool (smY x y)) ∧ Below W.heap.size W w' := fun w hw =>
    (smY_any x y u v w ((hu.1.keep (keep_below hw)).imp (lt_mono hw.size)) ((hv.1.keep (keep_below hw)).imp (lt_mono hw.size)) (by omega) (by omega)).mono fun e w' h => ⟨h.1, hw.trans (h.2.mono hw.size)⟩
  unfold typCells at kC
  have e0 := hcu 0 _ rfl
  have g0 := hcv 0 _ rfl
  have e1 := hcu 1 _ rfl
  have g1 := hcv 1 _ rfl
  have e2 := hcu 2 _ rfl
  have g2 := hcv 2 _ rfl
  have e3 := hcu 3 _ rfl
  have g3 := hcv 3 _ rfl
  have e4 := hcu 4 _ rfl
  have g4 := hcv 4 _ rfl
  have e5 := hcu 5 _ rfl
  have g5 := hcv 5 _ rfl
  have hB0 := Below.refl W.heap.size W
  have i1 : (0 : Int) ≤ (i : Int) := by omega
  have i2 : (i : Int) < (a.types.length : Int) := by omega
  have j1 : (0 : Int) ≤ (j : Int) := by omega
  have j2 : (j : Int) < (b.types.length : Int) := by omega
  have hs : (fun w' : World => w'.cell? ⟨Ba, 1, none⟩ = some (.slice (some ⟨b1, off, none⟩) a.types.length p.c2) ∧ w'.cell? ⟨Bb, 1, none⟩ = some (.slice (some ⟨b2, off', none⟩) b.types.length q.c2) ∧ w'.cell? ⟨b1, off + i * 6, none⟩ = some (.int .i64 x.kind) ∧ w'.cell? ⟨b1, off + i * 6 + 1, none⟩ = some (.int .i64 x.pos) ∧ w'.cell? ⟨b1, off + i * 6 + 2, none⟩ = some (.string x.name) ∧ w'.cell? ⟨b1, off + i * 6 + 3, none⟩ = some (.slice u.a3 x.names.length u.c3) ∧ w'.cell? ⟨b1, off + i * 6 + 4, none⟩ = some (.slice u.a4 x.kids.length u.c4) ∧ w'.cell? ⟨b1, off + i * 6 + 5, none⟩ = some (.bool x.opn) ∧ w'.cell? ⟨b2, off' + j * 6, none⟩ = some (.int .i64 y.kind) ∧ w'.cell? ⟨b2, off' + j * 6 + 1, none⟩ = some (.int .i64 y.pos) ∧ w'.cell? ⟨b2, off' + j * 6 + 2, none⟩ = some (.string y.name) ∧ w'.cell? ⟨b2, off' + j * 6 + 3, none⟩ = some (.slice v.a3 y.names.length v.c3) ∧ w'.cell? ⟨b2, off' + j * 6 + 4, none⟩ = some (.slice v.a4 y.kids.length v.c4) ∧ w'.cell? ⟨b2, off' + j * 6 + 5, none⟩ = some (.bool y.opn) ∧ Below W.heap.size W w') W := ⟨x0, y0, e0, e1, e2, e3, e4, e5, g0, g1, g2, g3, g4, g5, hB0⟩
  have hlA := hA.lt
  have hlB := hB.lt
  have HK := Lib.hid kC
  have hkeep : ∀ w, Below W.heap.size W w → (fun w' : World => w'.cell? ⟨Ba, 1, none⟩ = some (.slice (some ⟨b1, off, none⟩) a.types.length p.c2) ∧ w'.cell? ⟨Bb, 1, none⟩ = some (.slice (some ⟨b2, off', none⟩) b.types.length q.c2) ∧ w'.cell? ⟨b1, off + i * 6, none⟩ = some (.int .i64 x.kind) ∧ w'.cell? ⟨b1, off + i * 6 + 1, none⟩ = some (.int .i64 x.pos) ∧ w'.cell? ⟨b1, off + i * 6 + 2, none⟩ = some (.string x.name) ∧ w'.cell? ⟨b1, off + i * 6 + 3, none⟩ = some (.slice u.a3 x.names.length u.c3) ∧ w'.cell? ⟨b1, off + i * 6 + 4, none⟩ = some (.slice u.a4 x.kids.length u.c4) ∧ w'.cell? ⟨b1, off + i * 6 + 5, none⟩ = some (.bool x.opn) ∧ w'.cell? ⟨b2, off' + j * 6, none⟩ = some (.int .i64 y.kind) ∧ w'.cell? ⟨b2, off' + j * 6 + 1, none⟩ = some (.int .i64 y.pos) ∧ w'.cell? ⟨b2, off' + j * 6 + 2, none⟩ = some (.string y.name) ∧ w'.cell? ⟨b2, off' + j * 6 + 3, none⟩ = some (.slice v.a3 y.names.length v.c3) ∧ w'.cell? ⟨b2, off' + j * 6 + 4, none⟩ = some (.slice v.a4 y.kids.length v.c4) ∧ w'.cell? ⟨b2, off' + j * 6 + 5, none⟩ = some (.bool y.opn) ∧ Below W.heap.size W w') w := fun w hw => ⟨(hw.cell (p := ⟨Ba, 1, none⟩) hlA).trans x0, (hw.cell (p := ⟨Bb, 1, none⟩) hlB).trans y0, (hw.cell (p := ⟨b1, _, none⟩) hb).trans e0, (hw.cell (p := ⟨b1, _, none⟩) hb).trans e1, (hw.cell (p := ⟨b1, _, none⟩) hb).trans e2, (hw.cell (p := ⟨b1, _, none⟩) hb).trans e3, (hw.cell (p := ⟨b1, _, none⟩) hb).trans e4, (hw.cell (p := ⟨b1, _, none⟩) hb).trans e5, (hw.cell (p := ⟨b2, _, none⟩) hb').trans g0, (hw.cell (p := ⟨b2, _, none⟩) hb').trans g1, (hw.cell (p := ⟨b2, _, none⟩) hb').trans g2, (hw.cell (p := ⟨b2, _, none⟩) hb').trans g3, (hw.cell (p := ⟨b2, _, none⟩) hb').trans g4, (hw.cell (p := ⟨b2, _, none⟩) hb').trans g5, hw⟩
  have HS := Lib.hid hkeep
  clear hA hB hN hM hcell hcell' hu hv hcu hcv hx hy hat fx fy fa fb hp hq hx' hy' hs hkeep kC e0 g0 e1 g1 e2 g2 e3 g3 e4 g4 e5 g5
  go_enter Tryz.func41, Tryz.ntmps41
  go_wp2_with fail
  go_region_held3 (fun w' => w'.cell? ⟨Ba, 1, none⟩ = some (.slice (some ⟨b1, off, none⟩) a.types.length p.c2) ∧ w'.cell? ⟨Bb, 1, none⟩ = some (.slice (some ⟨b2, off', none⟩) b.types.length q.c2) ∧ w'.cell? ⟨b1, off + i * 6, none⟩ = some (.int .i64 x.kind) ∧ w'.cell? ⟨b1, off + i * 6 + 1, none⟩ = some (.int .i64 x.pos) ∧ w'.cell? ⟨b1, off + i * 6 + 2, none⟩ = some (.string x.name) ∧ w'.cell? ⟨b1, off + i * 6 + 3, none⟩ = some (.slice u.a3 x.names.length u.c3) ∧ w'.cell? ⟨b1, off + i * 6 + 4, none⟩ = some (.slice u.a4 x.kids.length u.c4) ∧ w'.cell? ⟨b1, off + i * 6 + 5, none⟩ = some (.bool x.opn) ∧ w'.cell? ⟨b2, off' + j * 6, none⟩ = some (.int .i64 y.kind) ∧ w'.cell? ⟨b2, off' + j * 6 + 1, none⟩ = some (.int .i64 y.pos) ∧ w'.cell? ⟨b2, off' + j * 6 + 2, none⟩ = some (.string y.name) ∧ w'.cell? ⟨b2, off' + j * 6 + 3, none⟩ = some (.slice v.a3 y.names.length v.c3) ∧ w'.cell? ⟨b2, off' + j * 6 + 4, none⟩ = some (.slice v.a4 y.kids.length v.c4) ∧ w'.cell? ⟨b2, off' + j * 6 + 5, none⟩ = some (.bool y.opn) ∧ Below W.heap.size W w')
    (exact HS.out _ (by repeat (first | exact hb6 | exact hB0 | refine Below.drew ?_)))
    (first | (go_at_call 42; (with_reducible refine (HK.out _ (by repeat (first | exact hB0 | refine Below.drew ?_))).mono ?_); rintro e w6 ⟨rfl, hb6⟩))
  go_wp2
  go_ret
  exact ⟨rfl, hb6⟩
end Go.Proofs.YtinajnkjfhbmkaaGreatDoor
