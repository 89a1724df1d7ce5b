/- How often each number stands in rows, as the document's answer counts it: at every row of rows of a bounded size. -/
import Derived.Test.YtjbdgjbmbohfmaaGreatDoorK40
import Derived.IntWalk
namespace Go.Proofs.YtjbdgjbmbohfmaaGreatDoor
open Go Go.Proofs Go.RowKit
/-- A slice of slices of numbers. -/
def RowsAt (Pb : Nat → Prop) (w : World) (A : Option Addr) (rows : List (List Int)) : Prop :=
 rows = [] ∨ ∃ b off, A = some ⟨b, off, none⟩ ∧ Pb b ∧ ∀ i row, rows[i]? = some row → ∃ A' c', w.cell? ⟨b, off + i, none⟩ = some (.slice A' row.length c') ∧ SlAt Pb w A' row.length (row.map iv)

/-- One number more. -/
def tick (us : List Int) (k : Int) : List Int := if 0 ≤ k ∧ k < us.length then us.set k.toNat (us.getD k.toNat 0 + 1) else us
def ticks (us ks : List Int) : List Int := ks.foldl tick us
theorem ticks_append (us a b : List Int) : ticks us (a ++ b) = ticks (ticks us a) b := List.foldl_append
theorem tick_len (us : List Int) (k : Int) : (tick us k).length = us.length := by unfold tick; split <;> simp
theorem ticks_len : ∀ (ks us : List Int), (ticks us ks).length = us.length
 | [], _ => rfl
 | k :: ks, us => by
  show (ticks (tick us k) ks).length = _
  rw [ticks_len ks, tick_len]
theorem tick_get (us : List Int) (k : Int) (j : Nat) (hj : j < us.length) : (tick us k).getD j 0 = us.getD j 0 + (if k = (j : Int) then 1 else 0) := by
 unfold tick
 split
 ·rename_i h
  have hk : k.toNat < us.length := by omega
  simp only [List.getD_eq_getElem?_getD, List.getElem?_set]
  by_cases e : k = (j : Int)
  ·subst e
   simp [hj]
  ·rw [if_neg (by omega), if_neg e, Int.add_zero]
 ·rename_i h
  rw [if_neg (by omega), Int.add_zero]
theorem ticks_get : ∀ (ks us : List Int) (j : Nat), j < us.length → (ticks us ks).getD j 0 = us.getD j 0 + (ks.count (j : Int) : Int)
 | [], us, j, _ => by simp [ticks]
 | k :: ks, us, j, h => by
  show (ticks (tick us k) ks).getD j 0 = _
  rw [ticks_get ks _ j (by rw [tick_len]; exact h), tick_get us k j h, List.count_cons]
  by_cases e : k = (j : Int)
  ·simp [e]; omega
  ·have : (k == (j : Int)) = false := by simpa using e
   simp [e, this]
/-- So many at most. -/
def Upto (us : List Int) (m : Nat) : Prop := ∀ u ∈ us, 0 ≤ u ∧ u ≤ (m : Int)
theorem Upto.tick {us : List Int} {m : Nat} (h : Upto us m) (k : Int) : Upto (tick us k) (m + 1) := fun u hu => by
 unfold Go.Proofs.YtjbdgjbmbohfmaaGreatDoor.tick at hu
 split at hu
 ·rename_i hk
  rcases List.mem_or_eq_of_mem_set hu with hu | rfl
  ·have := h u hu; omega
  ·have hl : k.toNat < us.length := by omega
   have := h (us.getD k.toNat 0) (by rw [List.getD_eq_getElem?_getD, List.getElem?_eq_getElem hl]; exact List.getElem_mem hl)
   omega
 ·have := h u hu; omega
theorem Upto.zero (n m : Nat) : Upto (List.replicate n 0) m := fun u hu => by rw [List.eq_of_mem_replicate hu]; omega

theorem made32_any (n : Nat) (hn : n ≤ 65536) (W : World) : (Instr.makeSlice 49 (.int .i64 (n : Int)) (.int .i64 (n : Int))).run Tryz.prog W = .ok (.slice (some ⟨W.heap.size, 0, none⟩) n n) (W.alloc (.cells (ivs (List.replicate n 0)) 3)) := by
 obtain ⟨i0, hi, hz0, hz1, hz2⟩ := info_parts info3
 have := run_make (P := Tryz.prog) W 49 3 i0 (.int .i64 0) Tryz.underlying49 hi hz0 .i64 .i64 (n : Int) (n : Int) (by omega) (by omega) (by rw [hz2]; omega) (by omega)
 rw [this, hz1]
 simp only [Int.toNat_natCast, Nat.mul_one]
 have e : (Value.int IntKind.i64 0).cells = #[.int .i64 0] := rfl
 rw [e, made_ivs]

theorem ivs_put9 (us : List Int) (j : Nat) (u : Int) : (ivs us).setIfInBounds j (.int .i64 u) = ivs (us.set j u) := by
 simp [ivs, List.map_set]

set_option maxRecDepth 100000 in
set_option maxHeartbeats 4000000 in
theorem uses_any (n : Nat) (A : Option Addr) (c : Nat) (rows : List (List Int)) (w : World) (h : RowsAt (Lt w.heap.size) w A rows) (hn : n ≤ 1000) (hm : rows.length ≤ 100000) (hl : ∀ row ∈ rows, row.length ≤ 1000) :
 Calls Tryz.prog 54 #[.int .i64 (n : Int), .slice A rows.length c] w fun e w' => e = .returned (.slice (some ⟨w.heap.size, 0, none⟩) n n) ∧ Blk w' w.heap.size 3 (ivs (ticks (List.replicate n 0) rows.flatten)) ∧ Below w.heap.size w w' := by
 have kM := made32_any n (by omega) w
 obtain ⟨W1, hW1⟩ : ∃ W1, w.alloc (.cells (ivs (List.replicate n 0)) 3) = W1 := ⟨_, rfl⟩
 have hB1 : Below w.heap.size w W1 := by rw [← hW1]; exact (Below.refl _ _).alloc (Nat.le_refl _) _
 have hX1 : Blk W1 w.heap.size 3 (ivs (List.replicate n 0)) := by rw [← hW1]; exact Blk.new w 3 _
 have H := Lib.hid h
 have HL := Lib.hid hl
 clear h hl
 go_enter Tryz.func54, Tryz.ntmps54
 rw [hW1] at kM
 go_wp2
 clear kM hW1
 go_loopw [7, 9, 14] (fun _ _ i wr => ∃ (k : Nat) (cur : List Int), k ≤ rows.length ∧ i = .int .i64 k ∧ cur.length = n ∧ Hid (Upto cur (k * 1000)) ∧ Hid (cur = ticks (List.replicate n 0) (rows.take k).flatten) ∧ Hid (Blk wr w.heap.size 3 (ivs cur)) ∧ Below w.heap.size w wr) (fun _ _ i _ => rows.length - (intOf i).toNat)
 case atStart => exact ⟨0, _, Nat.zero_le _, rfl, by simp, Lib.hid (Upto.zero _ _), Lib.hid (by simp [ticks]), Lib.hid hX1, hB1⟩
 case round =>
  obtain ⟨k, cur, hk, rfl, hcl, HU, HC, HX, hB⟩ := hrel
  by_cases hlt : k < rows.length
  ·rcases H.out with he | ⟨b, off, hA, hb, hcell⟩
   ·rw [he] at hlt; simp at hlt
   ·obtain ⟨A', c', e1, hS⟩ := hcell k _ (List.getElem?_eq_getElem hlt)
    have f1 := (hB.cell (p := ⟨b, off + k, none⟩) hb).trans e1
    have hrl := HL.out _ (List.getElem_mem hlt)
    have htk : (rows.take (k + 1)).flatten = (rows.take k).flatten ++ rows[k] := by rw [List.take_succ_eq_append_getElem hlt, List.flatten_append]; simp
    obtain ⟨row, hrow⟩ : ∃ row, rows[k] = row := ⟨_, rfl⟩
    rw [hrow] at f1 hS hrl htk
    subst hA
    have HTK := Lib.hid htk
    have HS := Lib.hid hS
    have hB0 := hB
    have HX0 := HX
    have HU0 := HU
    have hcl0 := hcl
    clear e1 hcell hrow htk hS HX HU hcl hB
    go_wp2
    go_loopw [9, 20] (fun _ i W => ∃ (j : Nat) (now : List Int), j ≤ row.length ∧ i = .int .i64 j ∧ now.length = n ∧ Hid (Upto now (k * 1000 + j)) ∧ Hid (now = ticks cur (row.take j)) ∧ Hid (Blk W w.heap.size 3 (ivs now)) ∧ Below w.heap.size w W) (fun _ i _ => row.length - (intOf i).toNat)
    case atStart => exact ⟨0, cur, Nat.zero_le _, rfl, hcl0, HU0, Lib.hid (by simp [ticks]), HX0, hB0⟩
    case round =>
     obtain ⟨j, now, hj, rfl, hcl, HU, HN, HX, hB⟩ := hrel
     have hzX := HX.out.lt
     by_cases hjl : j < row.length
     ·obtain ⟨b2, off2, rfl, e2⟩ := rd_at (RdAt.of_sl (HS.out.keep (keep_below hB))) hjl
      have hjk : row.take (j + 1) = row.take j ++ [row[j]] := List.take_succ_eq_append_getElem hjl
      obtain ⟨z, hz⟩ : ∃ z, row[j] = z := ⟨_, rfl⟩
      rw [hz] at e2 hjk
      have hup := HU.out.tick z
      have hnow : tick now z = ticks cur (row.take (j + 1)) := by rw [hjk, ticks_append, ← HN.out]; rfl
      have hln := tick_len now z
      have HUP := Lib.hid hup
      have HNOW := Lib.hid hnow
      clear hz hjk hup hnow
      by_cases hr : 0 ≤ z ∧ z < (n : Int)
      ·obtain ⟨q, hq⟩ : ∃ q : Nat, z = (q : Int) := ⟨z.toNat, by omega⟩
       subst hq
       have hqn : q < now.length := by omega
       have e3 := (HX.out.cell q).trans (ivs_get _ _ hqn)
       have g3 := HX.out.frozen q
       have hb3 := HU.out now[q] (List.getElem_mem hqn)
       have htv : tick now (q : Int) = now.set q (now[q] + 1) := by
        unfold tick
        rw [if_pos (by omega), Int.toNat_natCast, List.getD_eq_getElem?_getD, List.getElem?_eq_getElem hqn]
        rfl
       obtain ⟨y, hy⟩ : ∃ y, now[q] = y := ⟨_, rfl⟩
       rw [hy] at e3 hb3 htv
       obtain ⟨hb3, hb4⟩ := hb3
       have hyb : y ≤ 1000000000 := by omega
       have hwr : IntKind.i64.wrap (y + 1) = y + 1 := IntWalk.i64_in _ (by omega)
       have hXn := HX.out.set_ q (.int .i64 (y + 1))
       rw [ivs_put9, ← htv] at hXn
       have HXN := Lib.hid hXn
       have hBn := hB.setCell (p := ⟨w.heap.size, q, none⟩) (Nat.le_refl _) (.int .i64 (y + 1))
       have i1 : (0 : Int) ≤ (q : Int) := by omega
       have i2 : (q : Int) < (n : Int) := by omega
       have d1 : decide ((0 : Int) ≤ (q : Int)) = true := by simp
       clear hb4 htv hy hXn hr
       go_wp2
       go_roundw
       case rel => exact ⟨j + 1, _, by omega, by go_num, by rw [hln]; exact hcl, HUP, HNOW, HXN, hBn⟩
       case measure => simp [intOf]; omega
      ·have htv : tick now z = now := by unfold tick; rw [if_neg (by rw [hcl]; exact hr)]
       rw [htv] at HUP HNOW
       by_cases h0 : 0 ≤ z
       ·have d1 : decide ((0 : Int) ≤ z) = true := by simpa using h0
        have d2 : decide (z < (n : Int)) = false := by simp; omega
        clear htv hr h0
        go_wp2
        go_roundw
        case rel => exact ⟨j + 1, now, by omega, by go_num, hcl, HUP, HNOW, HX, hB⟩
        case measure => simp [intOf]; omega
       ·have d1 : decide ((0 : Int) ≤ z) = false := by simpa using h0
        clear htv hr h0
        go_wp2
        go_roundw
        case rel => exact ⟨j + 1, now, by omega, by go_num, hcl, HUP, HNOW, HX, hB⟩
        case measure => simp [intOf]; omega
     ·obtain rfl : j = row.length := by omega
      have hcn : now = ticks (List.replicate n 0) (rows.take (k + 1)).flatten := by rw [HTK.out, ticks_append, ← HC.out, HN.out, List.take_length]
      have HCN := Lib.hid hcn
      have HU2 : Hid (Upto now ((k + 1) * 1000)) := Lib.hid fun u hu => by have := HU.out u hu; omega
      clear hcn
      go_wp2
      go_roundw
      case rel => exact ⟨k + 1, now, by omega, by go_num, hcl, HU2, HCN, HX, hB⟩
      case measure => simp [intOf]; omega
  ·obtain rfl : k = rows.length := by omega
   rw [List.take_length] at HC
   have HXF : Hid (Blk wr w.heap.size 3 (ivs (ticks (List.replicate n 0) rows.flatten))) := Lib.hid (by rw [← HC.out]; exact HX.out)
   go_wp2
   go_ret
   exact ⟨rfl, HXF.out, hB⟩
end Go.Proofs.YtjbdgjbmbohfmaaGreatDoor
