/- The types of terms and of aliases, each with all in it, as the program lists them. -/
import Derived.Test.YtinajnkjfhbmkaaGreatDoorSameB
import Derived.Test.YtinajnkjfhbmkaaGreatDoorAhead
namespace Go.Proofs.YtinajnkjfhbmkaaGreatDoor
open Go Go.Proofs Go.RowKit

theorem ownIs {w : World} {base : Nat} {v : Value} {n m : Nat} {xs ys : List Value} (h : w.ownsRow base 3 1 v n xs) (hn : n = m) (hx : xs = ys) : w.ownsRow base 3 1 v m ys := by subst hn; subst hx; exact h

set_option maxRecDepth 100000 in
set_option maxHeartbeats 8000000 in
theorem typesOf_any (t : TreeD) (p : Ptr6) (A : Option Addr) (cp : Nat) (l : List Nat) (w : World) (hT : TreeAt (Lt w.heap.size) w t p) (hF : TreeFew t) (hW : Whole t) (hA : SlAt (Lt w.heap.size) w A l.length ((nz l).map iv)) (hl : ∀ i ∈ l, i < t.nodes.length) (hll : l.length ≤ 1000) :
    Calls Tryz.prog 40 #[treeV t p, .slice A l.length cp] w (CopyPost w (typesL t l).length ((nz (typesL t l)).map iv)) := by
  obtain ⟨i0, hi, hz0, hz1, hz2⟩ := info_parts info3
  obtain ⟨a1, c1, a2, c2, a3, c3⟩ := p
  have hTT := hT
  obtain ⟨tN, tT, tA⟩ := hT
  dsimp only at tN tT tA
  have hn : t.nodes.length ≤ 1000 := hF.2.2.2.2.1
  have hty : t.types.length ≤ 1000 := hF.2.2.2.2.2
  have hal : t.aliases.length ≤ 1000 := hF.2.2.2.1
  obtain ⟨W1, hW1⟩ : ∃ W1, w.alloc (.cells #[.slice a1 t.nodes.length c1, .slice a2 t.types.length c2, .slice a3 t.aliases.length c3] 26) = W1 := ⟨_, rfl⟩
  have hB1 : Below w.heap.size w W1 := by rw [← hW1]; exact (Below.refl _ _).alloc (Nat.le_refl _) _
  have hX : Blk W1 w.heap.size 26 #[.slice a1 t.nodes.length c1, .slice a2 t.types.length c2, .slice a3 t.aliases.length c3] := by rw [← hW1]; exact Blk.new w 26 _
  have x0 := hX.cell 0
  have x1 := hX.cell 1
  have x2 := hX.cell 2
  simp only [List.getElem?_toArray, List.getElem?_cons_zero, List.getElem?_cons_succ] at x0 x1 x2
  have hzX := hX.lt
  have hz1' : W1.heap.size = w.heap.size + 1 := by rw [← hW1]; simp
  have HZ1 := Lib.hid hz1'
  have HX := Lib.hid hX
  have HA := Lib.hid hA
  have HTT := Lib.hid hTT
  have HWH := Lib.hid hW
  have HF := Lib.hid hF
  clear hX hA hTT hW hF hz1'
  go_enter Tryz.func40, Tryz.ntmps40
  go_wp2
  clear hW1
  go_loopw [5, 8, 15] (fun v _ i wr => ∃ k : Nat, k ≤ l.length ∧ i = .int .i64 k ∧ Hid (wr.ownsRow W1.heap.size 3 1 v ((l.take k).flatMap (typesIn t)).length (((l.take k).flatMap (typesIn t)).map iv)) ∧ Below W1.heap.size W1 wr) (fun _ _ i _ => l.length - (intOf i).toNat)
  case atStart => exact ⟨0, Nat.zero_le _, rfl, Lib.hid (by simpa using World.ownsRow_nil _ _ _ _), Below.refl _ _⟩
  case round =>
    obtain ⟨k, hk, rfl, HO, hB⟩ := hrel
    have hzr := hB.size
    have hBw : Below w.heap.size w wr := hB1.trans (hB.mono (by omega))
    have hXr := HX.out.below hB hzX
    have y0 := hXr.cell 0
    have y1 := hXr.cell 1
    have y2 := hXr.cell 2
    simp only [List.getElem?_toArray, List.getElem?_cons_zero, List.getElem?_cons_succ] at y0 y1 y2
    by_cases hlt : k < l.length
    · obtain ⟨bA, oA, rfl, fA⟩ := nz_at (rd_kept HA.out hBw) hlt
      have hin := hl _ (List.getElem_mem hlt)
      have htk : l.take (k + 1) = l.take k ++ [l[k]] := List.take_succ_eq_append_getElem hlt
      obtain ⟨i, hii⟩ : ∃ i, l[k] = i := ⟨_, rfl⟩
      rw [hii] at fA hin htk
      obtain ⟨b, off, rfl, hb, hcell⟩ := tN (by omega)
      have hx := List.getElem?_eq_getElem hin
      obtain ⟨q, hq, hcq⟩ := hcell i _ hx
      have htin : typesIn t i = t.nodes[i].types := by unfold typesIn; rw [hx]
      have e7 := (hBw.cell (p := ⟨b, off + i * 8 + 7, none⟩) hb).trans (hcq 7 _ rfl)
      have hrd := RdAt.of_sl (hq.2.2.keep (keep_below hBw))
      have hfw := HF.out.1 _ (List.getElem_mem hin)
      have hflat : (l.take (k + 1)).flatMap (typesIn t) = (l.take k).flatMap (typesIn t) ++ t.nodes[i].types := by rw [htk, List.flatMap_append, ← htin]; simp
      have hlen : ((l.take k).flatMap (typesIn t)).length ≤ 1000000 := by
        have h1 := flat_le (f := typesIn t) (c := 1000) (l := l.take k) (fun j _ => typesIn_len HF.out j)
        have h2 : (l.take k).length ≤ 1000 := by rw [List.length_take]; omega
        omega
      obtain ⟨x, hx'⟩ : ∃ x, t.nodes[i] = x := ⟨_, rfl⟩
      rw [hx'] at e7 hrd hfw hflat
      have hf5 := hfw.2.2.2.2
      obtain ⟨R, hR⟩ : ∃ R, (l.take k).flatMap (typesIn t) = R := ⟨_, rfl⟩
      rw [hR] at HO hflat hlen
      obtain ⟨A5, d5, hv5⟩ := own_form HO.out
      have HFL := Lib.hid hflat
      have HRD := Lib.hid hrd
      subst hv5
      have i1 : (0 : Int) ≤ (i : Int) := by omega
      have i2 : (i : Int) < (t.nodes.length : Int) := by omega
      clear hcell hcq hq hx hx' htin hii htk hflat hrd hfw hR hXr
      go_wp2_with (at_builtin; refine wpList_app _ rfl _ _ 32 rfl W1.heap.size 3 i0 (.int .i64 0) 1 8 Tryz.underlying32 hi hz0 hz1 hz2 rfl (by decide) (.slice A5 R.length d5) R.length (R.map iv) rfl HO.out q.a7 x.types.length q.c7 (x.types.map iv) rfl (by simp) HRD.out (by intro u hu; obtain ⟨s, _, rfl⟩ := List.mem_map.1 hu; rfl) (by unfold maxLen; omega) (by omega) hzr ?_; intro v' w2 hown2 hgrow2 hloc2; have hB2 := own_grown hB HO.out hgrow2 (Nat.le_refl _) hzr; clear hgrow2 hloc2)
      have HO2 : Hid (w2.ownsRow W1.heap.size 3 1 v' ((l.take (k + 1)).flatMap (typesIn t)).length (((l.take (k + 1)).flatMap (typesIn t)).map iv)) := Lib.hid (ownIs hown2 (by rw [HFL.out, List.length_append]) (by rw [HFL.out, List.map_append]))
      clear hown2
      go_roundw
      case rel => exact ⟨k + 1, by omega, by go_num, HO2, hB2⟩
      case measure => simp [intOf]; omega
    · obtain rfl : k = l.length := by omega
      rw [List.take_length] at HO
      have hlen1 : (l.flatMap (typesIn t)).length ≤ 1000000 := by
        have h1 := flat_le (f := typesIn t) (c := 1000) (l := l) (fun j _ => typesIn_len HF.out j)
        omega
      obtain ⟨R1, hR1⟩ : ∃ R1, l.flatMap (typesIn t) = R1 := ⟨_, rfl⟩
      rw [hR1] at HO hlen1
      have HR1 := Lib.hid hR1
      have HBE := hB
      clear hXr hR1 hlt
      go_wp2
      go_loopw [5, 10, 31] (fun v _ i W => ∃ k : Nat, k ≤ t.aliases.length ∧ i = .int .i64 k ∧ Hid (W.ownsRow W1.heap.size 3 1 v (R1 ++ (t.aliases.take k).map (·.type)).length ((R1 ++ (t.aliases.take k).map (·.type)).map iv)) ∧ Below W1.heap.size W1 W) (fun _ _ i _ => t.aliases.length - (intOf i).toNat)
      case atStart => exact ⟨0, Nat.zero_le _, rfl, Lib.hid (by simpa using HO.out), HBE⟩
      case round =>
        obtain ⟨k, hk, rfl, HO, hB⟩ := hrel
        have hzr := hB.size
        have hBw : Below w.heap.size w wr := hB1.trans (hB.mono (by omega))
        have hXr := HX.out.below hB hzX
        have y0 := hXr.cell 0
        have y1 := hXr.cell 1
        have y2 := hXr.cell 2
        simp only [List.getElem?_toArray, List.getElem?_cons_zero, List.getElem?_cons_succ] at y0 y1 y2
        by_cases hlt : k < t.aliases.length
        · obtain ⟨b, off, rfl, hb, hcell⟩ := tA (by omega)
          have hcq := hcell k _ (List.getElem?_eq_getElem hlt)
          have htk : t.aliases.take (k + 1) = t.aliases.take k ++ [t.aliases[k]] := List.take_succ_eq_append_getElem hlt
          obtain ⟨x, hx'⟩ : ∃ x, t.aliases[k] = x := ⟨_, rfl⟩
          rw [hx'] at hcq htk
          have e0 := (hBw.cell (p := ⟨b, off + k * 3, none⟩) hb).trans (hcq 0 _ rfl)
          have e1 := (hBw.cell (p := ⟨b, off + k * 3 + 1, none⟩) hb).trans (hcq 1 _ rfl)
          have e2 := (hBw.cell (p := ⟨b, off + k * 3 + 2, none⟩) hb).trans (hcq 2 _ rfl)
          have hflat : R1 ++ (t.aliases.take (k + 1)).map (·.type) = (R1 ++ (t.aliases.take k).map (·.type)) ++ [x.type] := by rw [htk]; simp
          have hlen : (R1 ++ (t.aliases.take k).map (·.type)).length ≤ 1001000 := by simp; omega
          obtain ⟨R, hR⟩ : ∃ R, R1 ++ (t.aliases.take k).map (·.type) = R := ⟨_, rfl⟩
          rw [hR] at HO hflat hlen
          obtain ⟨A5, d5, hv5⟩ := own_form HO.out
          have HFL := Lib.hid hflat
          subst hv5
          obtain ⟨Wn, hWn⟩ : ∃ Wn, wr.alloc (.cells #[.string x.name, .int .i64 x.type, .int .i64 x.pos] 55) = Wn := ⟨_, rfl⟩
          have hBn : Below wr.heap.size wr Wn := by rw [← hWn]; exact (Below.refl _ _).alloc (Nat.le_refl _) _
          have hXn : Blk Wn wr.heap.size 55 #[.string x.name, .int .i64 x.type, .int .i64 x.pos] := by rw [← hWn]; exact Blk.new wr 55 _
          have p1 := hXn.cell 1
          simp only [List.getElem?_toArray, List.getElem?_cons_zero, List.getElem?_cons_succ] at p1
          have hzn : Wn.heap.size = wr.heap.size + 1 := by rw [← hWn]; simp
          have HRD := Lib.hid (rd_one Wn (.int .i64 x.type) 3)
          have HON := Lib.hid ((own_below HO.out hBn).alloc (.cells #[.int .i64 x.type] 3))
          have HBN : Hid (Below W1.heap.size W1 (Wn.alloc (.cells #[.int .i64 x.type] 3))) := Lib.hid ((hB.trans (hBn.mono hzr)).alloc (by omega) _)
          have HZN := Lib.hid hzn
          clear hcell hcq hx' htk hflat hR hXr hXn hBn hzn
          go_wp2_with (at_builtin; refine wpList_app _ rfl _ _ 32 rfl W1.heap.size 3 i0 (.int .i64 0) 1 8 Tryz.underlying32 hi hz0 hz1 hz2 rfl (by decide) (.slice A5 R.length d5) R.length (R.map iv) rfl HON.out (some ⟨Wn.heap.size, 0, none⟩) 1 1 [.int .i64 x.type] rfl rfl HRD.out (by simp [Value.oneCell']) (by unfold maxLen; omega) (by omega) (by have := HZN.out; simp; omega) ?_; intro v' w2 hown2 hgrow2 hloc2; have hB2 := own_grown HBN.out HON.out hgrow2 (Nat.le_refl _) (by have := HZN.out; simp; omega); clear hgrow2 hloc2)
          have HO2 : Hid (w2.ownsRow W1.heap.size 3 1 v' (R1 ++ (t.aliases.take (k + 1)).map (·.type)).length ((R1 ++ (t.aliases.take (k + 1)).map (·.type)).map iv)) := Lib.hid (ownIs hown2 (by rw [HFL.out]; simp) (by rw [HFL.out]; simp))
          clear hown2
          go_roundw
          case rel => exact ⟨k + 1, by omega, by go_num, HO2, hB2⟩
          case measure => simp [intOf]; omega
        · obtain rfl : k = t.aliases.length := by omega
          rw [List.take_length] at HO
          have hroots : R1 ++ t.aliases.map (·.type) = rootsL t l := by unfold rootsL; rw [HR1.out]
          rw [hroots] at HO
          obtain ⟨A5, d5, hv5, _, hs5⟩ := SlAt.of_own HO.out
          subst hv5
          have hrl := rootsL_len HF.out hll
          have hrr := rootsL_lt HWH.out.rng l
          have HS5 : Hid (SlAt (Lt wr.heap.size) wr A5 (rootsL t l).length ((rootsL t l).map iv)) := Lib.hid (hs5.imp fun b hb => hb.2)
          obtain ⟨RL, hRL⟩ : ∃ RL, rootsL t l = RL := ⟨_, rfl⟩
          rw [hRL] at hrl hrr HS5
          have HRL := Lib.hid hRL
          rw [hRL]
          have HBE := hB
          obtain ⟨WE, hWE⟩ : ∃ WE, WE = wr := ⟨wr, rfl⟩
          rw [← hWE] at HS5 HBE
          have hzE : W1.heap.size ≤ WE.heap.size := by rw [hWE]; exact hzr
          clear hXr hRL hlt hs5 HO hroots HR1
          go_wp2
          go_loopw [6, 12, 43] (fun v _ i W => ∃ k : Nat, k ≤ RL.length ∧ i = .int .i64 k ∧ Hid (W.ownsRow WE.heap.size 3 1 v ((nats (RL.take k)).flatMap (walk (tyK t))).length ((nz ((nats (RL.take k)).flatMap (walk (tyK t)))).map iv)) ∧ Below WE.heap.size WE W) (fun _ _ i _ => RL.length - (intOf i).toNat)
          case atStart => exact ⟨0, Nat.zero_le _, rfl, Lib.hid (by simpa [nats] using World.ownsRow_nil _ _ _ _), by rw [hWE]; exact Below.refl _ _⟩
          case round =>
            obtain ⟨k, hk, rfl, HO, hB⟩ := hrel
            have hzr := hB.size
            have hBw : Below w.heap.size w wr := hB1.trans ((HBE.trans (hB.mono hzE)).mono (by omega))
            have hXr := (HX.out.below HBE hzX).below hB (by omega)
            have y0 := hXr.cell 0
            have y1 := hXr.cell 1
            have y2 := hXr.cell 2
            simp only [List.getElem?_toArray, List.getElem?_cons_zero, List.getElem?_cons_succ] at y0 y1 y2
            by_cases hlt : k < RL.length
            · obtain ⟨bA, oA, rfl, fA'⟩ := rd_at (RdAt.of_sl (HS5.out.keep (keep_below hB))) hlt
              have fA := fA'
              have hrk := hrr _ (List.getElem_mem hlt)
              have htk : RL.take (k + 1) = RL.take k ++ [RL[k]] := List.take_succ_eq_append_getElem hlt
              obtain ⟨z, hz'⟩ : ∃ z, RL[k] = z := ⟨_, rfl⟩
              rw [hz'] at fA hrk htk
              obtain ⟨r, hr⟩ : ∃ r : Nat, z = (r : Int) := ⟨z.toNat, by omega⟩
              subst hr
              have hrn : r < t.types.length := by omega
              have hflat : (nats (RL.take (k + 1))).flatMap (walk (tyK t)) = (nats (RL.take k)).flatMap (walk (tyK t)) ++ walk (tyK t) r := by rw [htk, nats_append, List.flatMap_append]; simp [nats]
              have hlen : ((nats (RL.take k)).flatMap (walk (tyK t))).length ≤ 1001000000 := by
                have h1 := walks_len HWH.out HF.out (nats (RL.take k)) (fun j hj => by
                  obtain ⟨y, hy, rfl⟩ := List.mem_map.1 hj
                  have := hrr y (List.mem_of_mem_take hy)
                  omega)
                have h2 : (nats (RL.take k)).length ≤ 1001000 := by unfold nats; rw [List.length_map, List.length_take]; omega
                omega
              have hwl := HWH.out.walkT hrn
              obtain ⟨L, hL⟩ : ∃ L, walk (tyK t) r = L := ⟨_, rfl⟩
              rw [hL] at hflat hwl
              obtain ⟨R, hR⟩ : ∃ R, (nats (RL.take k)).flatMap (walk (tyK t)) = R := ⟨_, rfl⟩
              rw [hR] at HO hflat hlen
              obtain ⟨A6, d6, hv6⟩ := own_form HO.out
              subst hv6
              have hTr : TreeAt (Lt wr.heap.size) wr t ⟨a1, c1, a2, c2, a3, c3⟩ := (HTT.out.keep (keep_below hBw)).imp (lt_mono hBw.size)
              have kM := mkKidY_any t ⟨a1, c1, a2, c2, a3, c3⟩ wr
              obtain ⟨W3, hW3⟩ : ∃ W3, wr.alloc (.cells #[.slice a1 t.nodes.length c1, .slice a2 t.types.length c2, .slice a3 t.aliases.length c3] 26) = W3 := ⟨_, rfl⟩
              dsimp only at kM
              rw [hW3] at kM
              have hB3 : Below wr.heap.size wr W3 := by rw [← hW3]; exact (Below.refl _ _).alloc (Nat.le_refl _) _
              have hX3 : Blk W3 wr.heap.size 26 #[.slice a1 t.nodes.length c1, .slice a2 t.types.length c2, .slice a3 t.aliases.length c3] := by rw [← hW3]; exact Blk.new wr 26 _
              have hT3 : TreeAt (Lt W3.heap.size) W3 t ⟨a1, c1, a2, c2, a3, c3⟩ := (hTr.keep (keep_below hB3)).imp (lt_mono hB3.size)
              have hz3 := hX3.lt
              have kA := ahead_any 77 (.inr rfl) (.pointer (some ⟨wr.heap.size, 0, none⟩)) (tyK t) t.types.length r W3 HWH.out.rng.dnT hrn L hL (by omega) (by omega) (fun i W hi hW => by
                exact kidY_any t ⟨a1, c1, a2, c2, a3, c3⟩ W3.heap.size wr.heap.size i W (hX3.below hW hz3) (hT3.2.1.keep (keep_below hW)) hi hty HWH.out.rng)
              have HFL := Lib.hid hflat
              have HB3 := Lib.hid hB3
              unfold treeV at kM
              dsimp only at kM
              clear hflat hL hR hz' htk fA' hTr hT3 hX3 hW3 hB3 hXr hrk
              go_wp2_with fail
              refine kM.mono ?_
              rintro e W4 ⟨rfl, rfl⟩
              clear kM
              go_wp2_with fail
              refine kA.mono ?_
              rintro e w4 ⟨A7, c7, rfl, hS7, hb7⟩
              have hz7 := hb7.size
              have hzw := HB3.out.size
              have hB4 : Below WE.heap.size WE w4 := hB.trans ((HB3.out.mono hzr).trans (hb7.mono (by omega)))
              have HB4 := Lib.hid hB4
              have HO4 := Lib.hid (own_below (own_below HO.out HB3.out) hb7)
              have HRD := Lib.hid (RdAt.of_sl hS7)
              have hnl : (nz L).length = L.length := List.length_map _
              clear kA hS7 hb7 hB4
              go_wp2_with (at_builtin; refine wpList_app _ rfl _ _ 32 rfl WE.heap.size 3 i0 (.int .i64 0) 1 8 Tryz.underlying32 hi hz0 hz1 hz2 rfl (by decide) (.slice A6 R.length d6) R.length ((nz R).map iv) rfl HO4.out A7 L.length c7 ((nz L).map iv) rfl (by simp) HRD.out (by intro u hu; obtain ⟨s, _, rfl⟩ := List.mem_map.1 hu; rfl) (by unfold maxLen; omega) (by omega) (by omega) ?_; intro v' w5 hown5 hgrow5 hloc5; have hB5 := own_grown HB4.out HO4.out hgrow5 (Nat.le_refl _) (by omega); clear hgrow5 hloc5)
              have HO5 : Hid (w5.ownsRow WE.heap.size 3 1 v' ((nats (RL.take (k + 1))).flatMap (walk (tyK t))).length ((nz ((nats (RL.take (k + 1))).flatMap (walk (tyK t)))).map iv)) := Lib.hid (ownIs hown5 (by rw [HFL.out, List.length_append]) (by rw [HFL.out]; simp))
              clear hown5
              go_roundw
              case rel => exact ⟨k + 1, by omega, by go_num, HO5, hB5⟩
              case measure => simp [intOf]; omega
            · obtain rfl : k = RL.length := by omega
              rw [List.take_length] at HO
              have htl : (nats RL).flatMap (walk (tyK t)) = typesL t l := by unfold typesL; rw [HRL.out]
              rw [htl] at HO
              obtain ⟨A6, d6, hv6, _, hs6⟩ := SlAt.of_own HO.out
              subst hv6
              have HS6 := Lib.hid hs6
              clear hs6 htl hXr
              go_wp2
              go_ret
              exact ⟨A6, d6, rfl, HS6.out.imp fun b hb => ⟨by have := hb.1; omega, hb.2⟩, hBw⟩
end Go.Proofs.YtinajnkjfhbmkaaGreatDoor
