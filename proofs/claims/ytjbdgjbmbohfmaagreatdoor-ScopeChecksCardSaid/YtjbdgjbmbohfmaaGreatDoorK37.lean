/- Which aliases come back to themselves: the walk. -/
import Derived.Test.YtjbdgjbmbohfmaaGreatDoorK36
namespace Go.Proofs.YtjbdgjbmbohfmaaGreatDoor
open Go Go.Proofs Go.RowKit
/-- How many places of a block hold a number. -/
noncomputable def howM (z n : Nat) (x : Int) (w : World) : Nat := by
 classical exact (List.range n).countP (fun j => decide (w.cell? ⟨z, j, none⟩ = some (.int .i64 x)))
theorem countP_lt {α : Type} {p q : α → Bool} : ∀ {L : List α}, (∀ j ∈ L, q j = true → p j = true) → (∃ a ∈ L, p a = true ∧ q a = false) → L.countP q < L.countP p
 | [], _, h => by obtain ⟨a, h, _⟩ := h; cases h
 | b :: L, h1, h2 => by
  have hle : L.countP q ≤ L.countP p := List.countP_mono_left (fun j hj => h1 j (by simp [hj]))
  rw [List.countP_cons, List.countP_cons]
  by_cases hb : p b = true ∧ q b = false
  ·rw [if_pos hb.1, if_neg (by rw [hb.2]; decide)]
   omega
  ·obtain ⟨a, ha, h3, h4⟩ := h2
   have hne : a ∈ L := by
    rcases List.mem_cons.1 ha with rfl | ha
    ·exact absurd ⟨h3, h4⟩ hb
    ·exact ha
   have := countP_lt (fun j hj => h1 j (by simp [hj])) ⟨a, hne, h3, h4⟩
   have hbb := h1 b (by simp)
   by_cases hq : q b = true
   ·rw [if_pos hq, if_pos (hbb hq)]
    omega
   ·rw [if_neg hq]
    split <;> omega
theorem howM_eq {z : Nat} {x : Int} {w : World} {ws : List Int} (h : Blk w z 3 (ivs ws)) (n : Nat) (hn : ws.length = n) : howM z n x w = (List.range n).countP (fun j => decide (mrk ws j = x)) := by
 classical
 unfold howM
 refine List.countP_congr fun j hj => ?_
 rw [List.mem_range] at hj
 rw [decide_eq_true_eq, decide_eq_true_eq, h.cell j, ivs_get ws j (by omega)]
 unfold mrk
 rw [List.getD_eq_getElem?_getD, List.getElem?_eq_getElem (by omega)]
 simp
theorem howM_set {z a n : Nat} {x v : Int} {w w' : World} {ws : List Int} (h : Blk w z 3 (ivs ws)) (h' : Blk w' z 3 (ivs (ws.set a v))) (hn : ws.length = n) (ha : a < n) (hx : mrk ws a = x) (hv : v ≠ x) : howM z n x w' < howM z n x w := by
 rw [howM_eq h n hn, howM_eq h' n (by rw [List.length_set]; exact hn)]
 have hs := mrk_set (w := ws) (i := a) (by omega) v
 refine countP_lt (fun j _ hj => ?_) ⟨a, List.mem_range.2 ha, by simp [hx], ?_⟩
 ·rw [decide_eq_true_eq, hs] at hj
  rw [decide_eq_true_eq]
  split at hj
  ·exact absurd hj hv
  ·exact hj
 ·rw [hs, if_pos rfl]
  simp [hv]
/-- A number as a place; below 0: none. -/
def ofI (v : Int) : Option Nat := if v < 0 then none else some v.toNat
theorem nx_ofI {l : List Int} {i : Nat} (h : i < l.length) : nx l i = ofI l[i] := by
 unfold nx ofI
 rw [List.getElem?_eq_getElem h]
theorem mrk_get {ws : List Int} {a : Nat} (h : a < ws.length) : mrk ws a = ws[a] := by
 unfold mrk
 rw [List.getD_eq_getElem?_getD, List.getElem?_eq_getElem h]
 rfl
abbrev nvsZ (l : List Nat) : List Value := l.map fun (i : Nat) => Value.int .i64 (i : Int)
theorem own_keepZ {w : World} {base : Nat} {e : TypeId} {size n : Nat} {v : Value} {xs : List Value} (h : w.ownsRow base e size v n xs) {p : Addr} (hp : p.block < base) (u : Value) : (w.setCell p u).ownsRow base e size v n xs :=
 h.kept (only_setCell (only_refl w (some p.block)) (.inl rfl) u) (.inr (fun e => by have := (own_atZ h _ e).1; omega))
def LoopPost (l : List Int) (w : World) (e : Ending) (w' : World) : Prop :=
 ∃ v out, e = .returned v ∧ w'.ownsRow w.heap.size 3 1 v out.length (nvsZ out) ∧ (∀ m, m ∈ out ↔ m < l.length ∧ Cyc l m) ∧ out.length ≤ l.length ∧ Below w.heap.size w w'

set_option maxRecDepth 100000 in
set_option maxHeartbeats 4000000 in
theorem looping_any (l : List Int) (g0 c0 : Nat) (w : World) (hB : Blk w g0 3 (ivs l)) (hl : l.length ≤ 1000) (hR : ∀ v ∈ l, v < (l.length : Int)) :
 Calls Tryz.prog 136 #[.slice (some ⟨g0, 0, none⟩) l.length c0] w (LoopPost l w) := by
 obtain ⟨i3, hi, hz0, hz1, hz2⟩ := info_parts info3s
 have hmk := made49 l.length (by omega)
 have hg0 := hB.lt
 obtain ⟨W0, hW0⟩ : ∃ W0, w.alloc (.cells (ivs (List.replicate l.length 0)) 3) = W0 := ⟨_, rfl⟩
 have hb0 : Below w.heap.size w W0 := by rw [← hW0]; exact (Below.refl _ w).alloc (Nat.le_refl _) _
 have hZ0 : Blk W0 w.heap.size 3 (ivs (List.replicate l.length 0)) := by rw [← hW0]; exact Blk.new w 3 _
 have hzW : W0.heap.size = w.heap.size + 1 := by rw [← hW0]; simp
 have hB0 : Blk W0 g0 3 (ivs l) := by rw [← hW0]; exact hB.alloc _
 obtain ⟨z, hz⟩ : ∃ z, w.heap.size = z := ⟨_, rfl⟩
 have HB := Lib.hid hb0
 have HZW := Lib.hid hzW
 have HRG := Lib.hid hR
 clear hb0 hzW hB hR
 go_enter Tryz.func136, Tryz.ntmps136
 go_wp2
 rw [hz] at hZ0 hg0
 clear hW0
 have HZ := Lib.hid hz
 clear hz
 go_loopw [3, 5, 6, 7, 13] (fun vl _ _ _ vc wr => ∃ (X : World) (V : Value) (i : Nat) (ws : List Int) (out : List Nat), X = wr ∧ V = vl ∧ i ≤ l.length ∧ vc = .int .i64 (i : Int) ∧ Hid (Mk l ws i out) ∧ Blk wr z 3 (ivs ws) ∧ Hid (wr.ownsRow (z + 1) 3 1 V out.length (nvsZ out)) ∧ W0.grownBy wr (some z)) (fun _ _ _ _ vc _ => l.length - (intOf vc).toNat)
 case atStart => exact ⟨_, _, 0, _, [], rfl, rfl, Nat.zero_le _, rfl, Lib.hid (Mk.zero l), hZ0, Lib.hid (World.ownsRow_nil _ _ _ _), only_refl _ _⟩
 case round =>
  obtain ⟨wr1, V, i, ws, out, rfl, rfl, hi1, rfl, HM, hBw, HO, hgr⟩ := hrel
  by_cases hlk : i < l.length
  ·go_wp2
   have HI := Lib.hid hlk
   go_loopw [7] (fun va wr => ∃ (X : World) (v : Int) (w2 : List Int), X = wr ∧ va = .int .i64 v ∧ v < (l.length : Int) ∧ Hid (MkA l ws w2 i (ofI v)) ∧ Blk wr z 3 (ivs w2) ∧ Hid (wr.ownsRow (z + 1) 3 1 V out.length (nvsZ out)) ∧ W0.grownBy wr (some z)) (fun _ wr => howM z l.length 0 wr)
   case atStart => exact ⟨_, (i : Int), ws, rfl, rfl, by omega, Lib.hid (by rw [show ofI (i : Int) = some i from by unfold ofI; rw [if_neg (by omega)]; rfl]; exact HM.out.start), hBw, HO, hgr⟩
   case round =>
    clear hBw HO hgr
    obtain ⟨wr1, v, w2, rfl, rfl, hv, HA, hB2, HO2, hg2⟩ := hrel
    have hlen := HA.out.len
    have HL := Lib.hid hlen
    clear hlen
    by_cases hneg : v < 0
    ·have HMn : Hid (Mk l w2 (i + 1) out) := Lib.hid (MkA.ended HM.out HA.out (.inl (by unfold ofI; rw [if_pos hneg])))
     go_wp2
     go_loopw [3, 7] (fun v3 va wx => v3 = V ∧ va = .int .i64 v ∧ Blk wx z 3 (ivs w2) ∧ Hid (wx.ownsRow (z + 1) 3 1 V out.length (nvsZ out)) ∧ W0.grownBy wx (some z)) (fun _ _ _ => 0)
     case atStart => exact ⟨rfl, rfl, hB2, HO2, hg2⟩
     case round =>
      obtain ⟨rfl, rfl, hB3, HO3, hg3⟩ := hrel
      go_wp2
      go_roundw
      case rel => exact ⟨_, _, i + 1, w2, out, rfl, rfl, by omega, by go_num, HMn, hB3, HO3, hg3⟩
      case measure => simp [intOf]; omega
    ·obtain ⟨a, rfl⟩ : ∃ a : Nat, v = (a : Int) := ⟨v.toNat, by omega⟩
     have hal : a < l.length := by omega
     have hofi : ofI (a : Int) = some a := by unfold ofI; rw [if_neg (by omega)]; rfl
     rw [hofi] at HA
     have haw : a < w2.length := by rw [HL.out]; exact hal
     have hc0 := (hB2.cell a).trans (ivs_get w2 a haw)
     have hf0 := hB2.frozen a
     have hmg := mrk_get haw
     obtain ⟨x, hx⟩ : ∃ x, w2[a] = x := ⟨_, rfl⟩
     rw [hx] at hc0 hmg
     have HMG := Lib.hid hmg
     have HAW := Lib.hid haw
     clear hmg hx hofi haw
     by_cases h0 : x = 0
     ·subst h0
      have hBg := hB0.grown hg2 (fun e => by injection e; omega)
      have hc1 := (hBg.cell a).trans (ivs_get l a hal)
      have hr := HRG.out l[a] (List.getElem_mem hal)
      have hst := HA.out.step hal HMG.out
      rw [nx_ofI hal, show ((i + 1 : Nat) : Int) = (i : Int) + 1 by omega] at hst
      obtain ⟨y, hy⟩ : ∃ y, l[a] = y := ⟨_, rfl⟩
      rw [hy] at hc1 hr hst
      have HST := Lib.hid hst
      have hBn : Blk (wr1.setCell ⟨z, a, none⟩ (.int .i64 ((i : Int) + 1))) z 3 (ivs (w2.set a ((i : Int) + 1))) := by rw [← ivs_set]; exact hB2.set_ a _
      have HBN := Lib.hid hBn
      have HON := Lib.hid (own_keepZ HO2.out (p := ⟨z, a, none⟩) (Nat.lt_succ_self z) (.int .i64 ((i : Int) + 1)))
      have HGN := Lib.hid (only_setCell hg2 (p := ⟨z, a, none⟩) (.inl rfl) (.int .i64 ((i : Int) + 1)))
      have HMS := Lib.hid (howM_set hB2 hBn HL.out hal HMG.out (by omega))
      have hgz : g0 ≠ z := by omega
      clear hst hy hBn hBg
      go_wp2
      go_roundw
      case rel => exact ⟨_, y, w2.set a ((i : Int) + 1), rfl, rfl, hr, HST, HBN.out, HON, HGN.out⟩
      case measure => exact HMS.out
     ·have hx0 : (x == 0) = false := by simp [h0]
      by_cases h1 : x = (i : Int) + 1
      ·subst h1
       have hms : mrk w2 a = ((i + 1 : Nat) : Int) := by rw [HMG.out]; omega
       have HMS := Lib.hid hms
       have hcy : Cyc l a := by
        obtain ⟨n, hn⟩ := HA.out.go a hms
        exact ⟨n, hn⟩
       have HCY := Lib.hid hcy
       clear hms hcy
       go_wp2
       go_loopw [3, 7] (fun v3 va wx => ∃ (X : World) (V3 : Value) (b : Nat) (w3 : List Int) (new : List Nat), X = wx ∧ V3 = v3 ∧ va = .int .i64 (b : Int) ∧ b < l.length ∧ Hid (MkB l w2 w3 i a new b) ∧ new.length ≤ 1000 ∧ Blk wx z 3 (ivs w3) ∧ Hid (wx.ownsRow (z + 1) 3 1 V3 (out ++ new).length (nvsZ (out ++ new))) ∧ W0.grownBy wx (some z)) (fun _ _ wx => howM z l.length ((i : Int) + 1) wx)
       case atStart => exact ⟨_, _, a, w2, [], rfl, rfl, rfl, hal, Lib.hid (MkB.start HL.out (fun _ _ => trivial)), by simp, hB2, by rw [List.append_nil]; exact HO2, hg2⟩
       case round =>
        obtain ⟨wx1, V3, b, w3, new, rfl, rfl, rfl, hbl, HB3, hnl, hB3, HO3, hg3⟩ := hrel
        have hL3 := HB3.out.len
        have HL3 := Lib.hid hL3
        have hbw : b < w3.length := by rw [hL3]; exact hbl
        clear hL3 hc0 hf0 hB2 HO2 hg2
        have hc0 := (hB3.cell b).trans (ivs_get w3 b hbw)
        have hf0 := hB3.frozen b
        have hmg := mrk_get hbw
        obtain ⟨x, hx⟩ : ∃ x, w3[b] = x := ⟨_, rfl⟩
        rw [hx] at hc0 hmg
        have HMG3 := Lib.hid hmg
        clear hmg hx hbw
        by_cases h1 : x = (i : Int) + 1
        ·subst h1
         have hcb : Cyc l b := by
          obtain ⟨n, hn⟩ := HB3.out.on
          exact cyc_steps HCY.out hn
         obtain ⟨b', hb'⟩ := cyc_some hcb
         have hst := HB3.out.step HCY.out hbl (by rw [HMG3.out]; omega) hb'
         have hnn := hst.nod
         have hBg := hB0.grown hg3 (fun e => by injection e; omega)
         have hc1 := (hBg.cell b).trans (ivs_get l b hbl)
         have hr := HRG.out l[b] (List.getElem_mem hbl)
         rw [nx_ofI hbl] at hb'
         obtain ⟨y, hy⟩ : ∃ y, l[b] = y := ⟨_, rfl⟩
         rw [hy] at hc1 hr hb'
         have hyb : y = (b' : Int) := by
          unfold ofI at hb'
          split at hb'
          ·cases hb'
          ·injection hb' with hb'; omega
         subst hyb
         have hnl2 : (new ++ [b]).length ≤ 1000 := by
          have := nodup_le (m := List.range l.length) hnn (fun m hm => by
           rw [List.mem_range]
           have h1 := ((hst.told m).1 hm).2
           refine Decidable.byContradiction fun hn => ?_
           unfold mrk at h1
           rw [List.getD_eq_getElem?_getD, List.getElem?_eq_none (by rw [hst.len]; omega)] at h1
           cases h1)
          rw [List.length_range] at this
          omega
         have hBn : Blk (wx1.setCell ⟨z, b, none⟩ (.int .i64 (-1))) z 3 (ivs (w3.set b (-1))) := by rw [← ivs_set]; exact hB3.set_ b _
         have HON := Lib.hid (own_keepZ HO3.out (p := ⟨z, b, none⟩) (Nat.lt_succ_self z) (.int .i64 (-1)))
         have HGN := Lib.hid (only_setCell hg3 (p := ⟨z, b, none⟩) (.inl rfl) (.int .i64 (-1)))
         have HST := Lib.hid hst
         have HNX := Lib.hid hy
         have HRB := Lib.hid hr
         have HNL := Lib.hid hnl2
         have hgz : g0 ≠ z := by omega
         have hol := HM.out.le
         have HOL := Lib.hid hol
         clear hst hy hb' hcb hnn hr hnl2 hol hBg hc1
         go_upto_region 12 with fail
         obtain ⟨W5, hW5⟩ : ∃ W5, wx1.setCell ⟨z, b, none⟩ (.int .i64 (-1)) = W5 := ⟨_, rfl⟩
         rw [hW5] at hBn HON HGN ⊢
         have HMS3 := Lib.hid (howM_set hB3 hBn HL3.out hbl HMG3.out (by omega))
         clear hW5 hc0 hf0
         have HGZ := Lib.hid (HGN.out.size)
         go_wp2_with (at_builtin; refine wpList_append_own_at _ rfl _ _ 49 rfl (z + 1) 3 i3 (.int .i64 0) 1 8 Tryz.underlying49 hi hz0 hz1 hz2 rfl (by decide) _ (out ++ new).length (nvsZ (out ++ new)) rfl ?ra0 ⟨W5.heap.size, 0, none⟩ 1 1 [.int .i64 (b : Int)] rfl rfl (cell_one_new _ _ _) (by simp [Value.oneCell']) ?ra1 ?ra2 ?ra3 ?_)
         case ra0 => exact HON.out.alloc _
         case ra1 => have := HOL.out; have := HNL.out; simp at this ⊢; unfold maxLen; omega
         case ra2 => have := HOL.out; have := HNL.out; simp at this ⊢; omega
         case ra3 => have := HGZ.out; have := HZW.out; have := HZ.out; simp; omega
         intro v1 W6 hown hg6 _ _
         have hG6 : W0.grownBy W6 (some z) := ⟨hg6.os.trans (only_alloc HGN.out (.cells #[.int .i64 (b : Int)] 3)).os, hg6.tape.trans (only_alloc HGN.out (.cells #[.int .i64 (b : Int)] 3)).tape, hg6.output.trans (only_alloc HGN.out (.cells #[.int .i64 (b : Int)] 3)).output, Nat.le_trans (only_alloc HGN.out (.cells #[.int .i64 (b : Int)] 3)).size hg6.size, fun k hk hne => (hg6.block k (Nat.lt_of_lt_of_le hk (only_alloc HGN.out (.cells #[.int .i64 (b : Int)] 3)).size) (fun e => by have := (own_atZ HON.out k e.symm).1; have := HZW.out; have := HZ.out; omega)).trans ((only_alloc HGN.out (.cells #[.int .i64 (b : Int)] 3)).block k hk hne)⟩
         have hB6 : Blk W6 z 3 (ivs (w3.set b (-1))) := (hBn.alloc _).grown hg6 (fun e => by have := (own_atZ HON.out z e.symm).1; omega)
         have hg0' : Blk W6 g0 3 (ivs l) := hB0.grown hG6 (fun e => by injection e; omega)
         have hc6 := (hg0'.cell b).trans (ivs_get l b hbl)
         have hLb : l[b] = (b' : Int) := by have := HNX.out; exact this
         rw [hLb] at hc6
         have HO6 : Hid (W6.ownsRow (z + 1) 3 1 v1 (out ++ (new ++ [b])).length (nvsZ (out ++ (new ++ [b])))) := Lib.hid (by simpa [nvsZ, Nat.add_assoc] using hown)
         have HMS6 : Hid (howM z l.length ((i : Int) + 1) W6 < howM z l.length ((i : Int) + 1) wx1) := Lib.hid (howM_set hB3 hB6 HL3.out hbl (by rw [HMG3.out]) (by omega))
         clear hown hg6 hLb hg0'
         go_wp2
         go_roundw
         case rel => exact ⟨_, _, b', w3.set b (-1), new ++ [b], rfl, rfl, rfl, by have := HRB.out; omega, HST, HNL.out, hB6, HO6, hG6⟩
         case measure => exact HMS6.out
        ·have hx1 : (x == (i : Int) + 1) = false := by simp [h1]
         have HMn : Hid (Mk l w3 (i + 1) (out ++ new)) := Lib.hid (MkB.ended HM.out HA.out HMS.out HB3.out (by rw [HMG3.out]; omega))
         go_wp2
         go_roundw
         case rel => exact ⟨_, _, i + 1, w3, out ++ new, rfl, rfl, by omega, by go_num, HMn, hB3, HO3, hg3⟩
         case measure => simp [intOf]; omega
      ·have HMn : Hid (Mk l w2 (i + 1) out) := Lib.hid (MkA.ended HM.out HA.out (.inr ⟨a, rfl, by rw [HMG.out]; exact h0, by rw [HMG.out]; omega⟩))
       have hx1 : (x == (i : Int) + 1) = false := by simp [h1]
       go_wp2
       go_loopw [3, 7] (fun v3 va wx => v3 = V ∧ va = .int .i64 (a : Int) ∧ Blk wx z 3 (ivs w2) ∧ wx.cell? ⟨z, a, none⟩ = some (.int .i64 x) ∧ Hid (wx.ownsRow (z + 1) 3 1 V out.length (nvsZ out)) ∧ W0.grownBy wx (some z)) (fun _ _ _ => 0)
       case atStart => exact ⟨rfl, rfl, hB2, hc0, HO2, hg2⟩
       case round =>
        obtain ⟨rfl, rfl, hB3, hc3, HO3, hg3⟩ := hrel
        go_wp2
        go_roundw
        case rel => exact ⟨_, _, i + 1, w2, out, rfl, rfl, by omega, by go_num, HMn, hB3, HO3, hg3⟩
        case measure => simp [intOf]; omega
  ·obtain rfl : i = l.length := by omega
   have hE : Below w.heap.size w wr1 := by
    rw [HZ.out]
    exact (HZ.out ▸ HB.out).grown hgr (by have := HZW.out; have := HZ.out; omega) (fun k e => by cases e; exact Nat.le_refl _)
   have HE := Lib.hid hE
   clear hE
   go_wp2
   go_ret
   exact ⟨_, out, rfl, own_baseZ HO.out (by have := HZ.out; omega), HM.out.all, HM.out.le, HE.out⟩
end Go.Proofs.YtjbdgjbmbohfmaaGreatDoor
