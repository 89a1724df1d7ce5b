/- What the document answers for trees: how often numbers stand in rows, whether a tree may be, depth and walk; at every tree of parts of a bounded size. -/
import Derived.Test.YtinajnkjfhbmkaaGreatDoorRefA
import Derived.Test.YtinajnkjfhbmkaaGreatDoorCheck
import Derived.IntWalk
import Derived.Test.YtinajnkjfhbmkaaGreatDoorAhead
import Derived.Test.YtinajnkjfhbmkaaGreatDoorOnce
import Derived.Test.YtinajnkjfhbmkaaGreatDoorRefTd
import Derived.Test.YtinajnkjfhbmkaaGreatDoorOwn3
import Derived.Test.YtinajnkjfhbmkaaGreatDoorMayMath
import Derived.Test.YtinajnkjfhbmkaaGreatDoorSameD
namespace Go.Proofs.YtinajnkjfhbmkaaGreatDoor
open Go Go.Proofs Go.RowKit

/-- A slice of slices of numbers. -/
def RowsAt (Pb : Nat → Prop) (w : World) (A : Option Addr) (rows : List (List Int)) : Prop :=
  rows = [] ∨ ∃ b off, A = some ⟨b, off, none⟩ ∧ Pb b ∧ ∀ i row, rows[i]? = some row → ∃ A' c', w.cell? ⟨b, off + i, none⟩ = some (.slice A' row.length c') ∧ SlAt Pb w A' row.length (row.map iv)

/-- One number more. -/
def tick (us : List Int) (k : Int) : List Int := if 0 ≤ k ∧ k < us.length then us.set k.toNat (us.getD k.toNat 0 + 1) else us
def ticks (us ks : List Int) : List Int := ks.foldl tick us
theorem ticks_append (us a b : List Int) : ticks us (a ++ b) = ticks (ticks us a) b := List.foldl_append
theorem tick_len (us : List Int) (k : Int) : (tick us k).length = us.length := by unfold tick; split <;> simp
theorem ticks_len : ∀ (ks us : List Int), (ticks us ks).length = us.length
  | [], _ => rfl
  | k :: ks, us => by
    show (ticks (tick us k) ks).length = _
    rw [ticks_len ks, tick_len]
theorem tick_get (us : List Int) (k : Int) (j : Nat) (hj : j < us.length) : (tick us k).getD j 0 = us.getD j 0 + (if k = (j : Int) then 1 else 0) := by
  unfold tick
  split
  · rename_i h
    have hk : k.toNat < us.length := by omega
    simp only [List.getD_eq_getElem?_getD, List.getElem?_set]
    by_cases e : k = (j : Int)
    · subst e
      simp [hj]
    · rw [if_neg (by omega), if_neg e, Int.add_zero]
  · rename_i h
    rw [if_neg (by omega), Int.add_zero]
theorem ticks_get : ∀ (ks us : List Int) (j : Nat), j < us.length → (ticks us ks).getD j 0 = us.getD j 0 + (ks.count (j : Int) : Int)
  | [], us, j, _ => by simp [ticks]
  | k :: ks, us, j, h => by
    show (ticks (tick us k) ks).getD j 0 = _
    rw [ticks_get ks _ j (by rw [tick_len]; exact h), tick_get us k j h, List.count_cons]
    by_cases e : k = (j : Int)
    · simp [e]; omega
    · have : (k == (j : Int)) = false := by simpa using e
      simp [e, this]
/-- So many at most. -/
def Upto (us : List Int) (m : Nat) : Prop := ∀ u ∈ us, 0 ≤ u ∧ u ≤ (m : Int)
theorem Upto.tick {us : List Int} {m : Nat} (h : Upto us m) (k : Int) : Upto (tick us k) (m + 1) := fun u hu => by
  unfold Go.Proofs.YtinajnkjfhbmkaaGreatDoor.tick at hu
  split at hu
  · rename_i hk
    rcases List.mem_or_eq_of_mem_set hu with hu | rfl
    · have := h u hu; omega
    · have hl : k.toNat < us.length := by omega
      have := h (us.getD k.toNat 0) (by rw [List.getD_eq_getElem?_getD, List.getElem?_eq_getElem hl]; exact List.getElem_mem hl)
      omega
  · have := h u hu; omega
theorem Upto.zero (n m : Nat) : Upto (List.replicate n 0) m := fun u hu => by rw [List.eq_of_mem_replicate hu]; omega

theorem made32_any (n : Nat) (hn : n ≤ 65536) (W : World) : (Instr.makeSlice 32 (.int .i64 (n : Int)) (.int .i64 (n : Int))).run Tryz.prog W = .ok (.slice (some ⟨W.heap.size, 0, none⟩) n n) (W.alloc (.cells (ivs (List.replicate n 0)) 3)) := by
  obtain ⟨i0, hi, hz0, hz1, hz2⟩ := info_parts info3
  have := run_make (P := Tryz.prog) W 32 3 i0 (.int .i64 0) Tryz.underlying32 hi hz0 .i64 .i64 (n : Int) (n : Int) (by omega) (by omega) (by rw [hz2]; omega) (by omega)
  rw [this, hz1]
  simp only [Int.toNat_natCast, Nat.mul_one]
  have e : (Value.int IntKind.i64 0).cells = #[.int .i64 0] := rfl
  rw [e, made_ivs]

theorem ivs_put9 (us : List Int) (j : Nat) (u : Int) : (ivs us).setIfInBounds j (.int .i64 u) = ivs (us.set j u) := by
  simp [ivs, List.map_set]

set_option maxRecDepth 100000 in
set_option maxHeartbeats 4000000 in
theorem uses_any (n : Nat) (A : Option Addr) (c : Nat) (rows : List (List Int)) (w : World) (h : RowsAt (Lt w.heap.size) w A rows) (hn : n ≤ 1000) (hm : rows.length ≤ 100000) (hl : ∀ row ∈ rows, row.length ≤ 1000) :
    Calls Tryz.prog 25 #[.int .i64 (n : Int), .slice A rows.length c] w fun e w' => e = .returned (.slice (some ⟨w.heap.size, 0, none⟩) n n) ∧ Blk w' w.heap.size 3 (ivs (ticks (List.replicate n 0) rows.flatten)) ∧ Below w.heap.size w w' := by
  have kM := made32_any n (by omega) w
  obtain ⟨W1, hW1⟩ : ∃ W1, w.alloc (.cells (ivs (List.replicate n 0)) 3) = W1 := ⟨_, rfl⟩
  have hB1 : Below w.heap.size w W1 := by rw [← hW1]; exact (Below.refl _ _).alloc (Nat.le_refl _) _
  have hX1 : Blk W1 w.heap.size 3 (ivs (List.replicate n 0)) := by rw [← hW1]; exact Blk.new w 3 _
  have H := Lib.hid h
  have HL := Lib.hid hl
  clear h hl
  go_enter Tryz.func25, Tryz.ntmps25
  rw [hW1] at kM
  go_wp2
  clear kM hW1
  go_loopw [7, 9, 14] (fun _ _ i wr => ∃ (k : Nat) (cur : List Int), k ≤ rows.length ∧ i = .int .i64 k ∧ cur.length = n ∧ Hid (Upto cur (k * 1000)) ∧ Hid (cur = ticks (List.replicate n 0) (rows.take k).flatten) ∧ Hid (Blk wr w.heap.size 3 (ivs cur)) ∧ Below w.heap.size w wr) (fun _ _ i _ => rows.length - (intOf i).toNat)
  case atStart => exact ⟨0, _, Nat.zero_le _, rfl, by simp, Lib.hid (Upto.zero _ _), Lib.hid (by simp [ticks]), Lib.hid hX1, hB1⟩
  case round =>
    obtain ⟨k, cur, hk, rfl, hcl, HU, HC, HX, hB⟩ := hrel
    by_cases hlt : k < rows.length
    · rcases H.out with he | ⟨b, off, hA, hb, hcell⟩
      · rw [he] at hlt; simp at hlt
      · obtain ⟨A', c', e1, hS⟩ := hcell k _ (List.getElem?_eq_getElem hlt)
        have f1 := (hB.cell (p := ⟨b, off + k, none⟩) hb).trans e1
        have hrl := HL.out _ (List.getElem_mem hlt)
        have htk : (rows.take (k + 1)).flatten = (rows.take k).flatten ++ rows[k] := by rw [List.take_succ_eq_append_getElem hlt, List.flatten_append]; simp
        obtain ⟨row, hrow⟩ : ∃ row, rows[k] = row := ⟨_, rfl⟩
        rw [hrow] at f1 hS hrl htk
        subst hA
        have HTK := Lib.hid htk
        have HS := Lib.hid hS
        have hB0 := hB
        have HX0 := HX
        have HU0 := HU
        have hcl0 := hcl
        clear e1 hcell hrow htk hS HX HU hcl hB
        go_wp2
        go_loopw [9, 20] (fun _ i W => ∃ (j : Nat) (now : List Int), j ≤ row.length ∧ i = .int .i64 j ∧ now.length = n ∧ Hid (Upto now (k * 1000 + j)) ∧ Hid (now = ticks cur (row.take j)) ∧ Hid (Blk W w.heap.size 3 (ivs now)) ∧ Below w.heap.size w W) (fun _ i _ => row.length - (intOf i).toNat)
        case atStart => exact ⟨0, cur, Nat.zero_le _, rfl, hcl0, HU0, Lib.hid (by simp [ticks]), HX0, hB0⟩
        case round =>
          obtain ⟨j, now, hj, rfl, hcl, HU, HN, HX, hB⟩ := hrel
          have hzX := HX.out.lt
          by_cases hjl : j < row.length
          · obtain ⟨b2, off2, rfl, e2⟩ := rd_at (RdAt.of_sl (HS.out.keep (keep_below hB))) hjl
            have hjk : row.take (j + 1) = row.take j ++ [row[j]] := List.take_succ_eq_append_getElem hjl
            obtain ⟨z, hz⟩ : ∃ z, row[j] = z := ⟨_, rfl⟩
            rw [hz] at e2 hjk
            have hup := HU.out.tick z
            have hnow : tick now z = ticks cur (row.take (j + 1)) := by rw [hjk, ticks_append, ← HN.out]; rfl
            have hln := tick_len now z
            have HUP := Lib.hid hup
            have HNOW := Lib.hid hnow
            clear hz hjk hup hnow
            by_cases hr : 0 ≤ z ∧ z < (n : Int)
            · obtain ⟨q, hq⟩ : ∃ q : Nat, z = (q : Int) := ⟨z.toNat, by omega⟩
              subst hq
              have hqn : q < now.length := by omega
              have e3 := (HX.out.cell q).trans (ivs_get _ _ hqn)
              have g3 := HX.out.frozen q
              have hb3 := HU.out now[q] (List.getElem_mem hqn)
              have htv : tick now (q : Int) = now.set q (now[q] + 1) := by
                unfold tick
                rw [if_pos (by omega), Int.toNat_natCast, List.getD_eq_getElem?_getD, List.getElem?_eq_getElem hqn]
                rfl
              obtain ⟨y, hy⟩ : ∃ y, now[q] = y := ⟨_, rfl⟩
              rw [hy] at e3 hb3 htv
              obtain ⟨hb3, hb4⟩ := hb3
              have hyb : y ≤ 1000000000 := by omega
              have hwr : IntKind.i64.wrap (y + 1) = y + 1 := IntWalk.i64_in _ (by omega)
              have hXn := HX.out.set_ q (.int .i64 (y + 1))
              rw [ivs_put9, ← htv] at hXn
              have HXN := Lib.hid hXn
              have hBn := hB.setCell (p := ⟨w.heap.size, q, none⟩) (Nat.le_refl _) (.int .i64 (y + 1))
              have i1 : (0 : Int) ≤ (q : Int) := by omega
              have i2 : (q : Int) < (n : Int) := by omega
              have d1 : decide ((0 : Int) ≤ (q : Int)) = true := by simp
              clear hb4 htv hy hXn hr
              go_wp2
              go_roundw
              case rel => exact ⟨j + 1, _, by omega, by go_num, by rw [hln]; exact hcl, HUP, HNOW, HXN, hBn⟩
              case measure => simp [intOf]; omega
            · have htv : tick now z = now := by unfold tick; rw [if_neg (by rw [hcl]; exact hr)]
              rw [htv] at HUP HNOW
              by_cases h0 : 0 ≤ z
              · have d1 : decide ((0 : Int) ≤ z) = true := by simpa using h0
                have d2 : decide (z < (n : Int)) = false := by simp; omega
                clear htv hr h0
                go_wp2
                go_roundw
                case rel => exact ⟨j + 1, now, by omega, by go_num, hcl, HUP, HNOW, HX, hB⟩
                case measure => simp [intOf]; omega
              · have d1 : decide ((0 : Int) ≤ z) = false := by simpa using h0
                clear htv hr h0
                go_wp2
                go_roundw
                case rel => exact ⟨j + 1, now, by omega, by go_num, hcl, HUP, HNOW, HX, hB⟩
                case measure => simp [intOf]; omega
          · obtain rfl : j = row.length := by omega
            have hcn : now = ticks (List.replicate n 0) (rows.take (k + 1)).flatten := by rw [HTK.out, ticks_append, ← HC.out, HN.out, List.take_length]
            have HCN := Lib.hid hcn
            have HU2 : Hid (Upto now ((k + 1) * 1000)) := Lib.hid fun u hu => by have := HU.out u hu; omega
            clear hcn
            go_wp2
            go_roundw
            case rel => exact ⟨k + 1, now, by omega, by go_num, hcl, HU2, HCN, HX, hB⟩
            case measure => simp [intOf]; omega
    · obtain rfl : k = rows.length := by omega
      rw [List.take_length] at HC
      have HXF : Hid (Blk wr w.heap.size 3 (ivs (ticks (List.replicate n 0) rows.flatten))) := Lib.hid (by rw [← HC.out]; exact HX.out)
      go_wp2
      go_ret
      exact ⟨rfl, HXF.out, hB⟩
end Go.Proofs.YtinajnkjfhbmkaaGreatDoor

namespace Go.Proofs.YtinajnkjfhbmkaaGreatDoor
open Go Go.Proofs Go.RowKit

abbrev RowP := Option Addr × Nat × List Int
def rowV (x : RowP) : Value := .slice x.1 x.2.2.length x.2.1
/-- A row of numbers that lies below B, or in a block of numbers. -/
def RowOk (B : Nat) (W : World) (x : RowP) : Prop := x.2.2 = [] ∨ ∃ b off, x.1 = some ⟨b, off, none⟩ ∧ b < W.heap.size ∧ (b < B ∨ ∃ cs, W.heap[b]? = some (.cells cs 3 (0, 0))) ∧ ∀ j u, (x.2.2.map iv)[j]? = some u → W.cell? ⟨b, off + j, none⟩ = some u
theorem RowOk.below {B : Nat} {W W' : World} {x : RowP} (h : RowOk B W x) (hb : Below W.heap.size W W') : RowOk B W' x := by
  rcases h with h | ⟨b, off, h1, h2, h3, h4⟩
  · exact .inl h
  · refine .inr ⟨b, off, h1, Nat.lt_of_lt_of_le h2 hb.size, h3.imp id (fun ⟨cs, h⟩ => ⟨cs, (hb.block b h2).trans h⟩), fun j u hu => (hb.cell (p := ⟨b, _, none⟩) h2).trans (h4 j u hu)⟩
theorem RowOk.grown {B : Nat} {W W' : World} {x : RowP} {v : Value} {n : Nat} {xs : List Value} (h : RowOk B W x) (ho : W.ownsRow B 32 1 v n xs) (hg : W.grownBy W' v.ownBlock) : RowOk B W' x := by
  rcases h with h | ⟨b, off, h1, h2, h3, h4⟩
  · exact .inl h
  · have hne : some b ≠ v.ownBlock := fun e => by
      rcases h3 with h3 | ⟨cs, h3⟩
      · have := (own_lt ho e.symm).2
        omega
      · obtain ⟨cur, hc⟩ := own_ty ho e.symm
        rw [h3] at hc
        cases hc
    have hk := hg.block b h2 hne
    exact .inr ⟨b, off, h1, Nat.lt_of_lt_of_le h2 hg.size, h3.imp id (fun ⟨cs, h⟩ => ⟨cs, hk.trans h⟩), fun j u hu => (World.cell?_of_block (a := ⟨b, off + j, none⟩) hk).trans (h4 j u hu)⟩
theorem RowOk.of_sl {B : Nat} {W : World} {A : Option Addr} {c : Nat} {ks : List Int} {Pb : Nat → Prop} (h : SlAt Pb W A ks.length (ks.map iv)) (hP : ∀ b, Pb b → b < B ∧ b < W.heap.size) : RowOk B W (A, c, ks) := by
  rcases Nat.eq_zero_or_pos ks.length with h0 | h0
  · exact .inl (List.length_eq_zero_iff.1 h0)
  · obtain ⟨b, off, hA, hb, hc⟩ := h.2 h0
    exact .inr ⟨b, off, hA, (hP b hb).2, .inl (hP b hb).1, hc⟩
theorem RowOk.one {B : Nat} {W : World} (z : Int) : RowOk B (W.alloc (.cells #[.int .i64 z] 3)) (some ⟨W.heap.size, 0, none⟩, 1, [z]) :=
  .inr ⟨_, _, rfl, by simp, .inr ⟨_, Blk.new W 3 _⟩, fun j u hu => by
    rcases rd_one W (.int .i64 z) 3 with h | ⟨b, off, e, h⟩
    · cases h
    · cases e
      exact h j u hu⟩

structure TwoR (W : World) (B : Nat) (v3 v4 : Value) (L3 L4 : List RowP) : Prop where
  o3 : W.ownsRow B 32 1 v3 L3.length (L3.map rowV)
  o4 : W.ownsRow B 32 1 v4 L4.length (L4.map rowV)
  ne : ∀ g, v3.ownBlock = some g → v4.ownBlock ≠ some g
  k3 : ∀ x ∈ L3, RowOk B W x
  k4 : ∀ x ∈ L4, RowOk B W x
theorem TwoR.swap {W : World} {B : Nat} {v3 v4 : Value} {L3 L4 : List RowP} (h : TwoR W B v3 v4 L3 L4) : TwoR W B v4 v3 L4 L3 :=
  ⟨h.o4, h.o3, fun g h4 h3 => h.ne g h3 h4, h.k4, h.k3⟩
theorem TwoR.below {W W' : World} {B : Nat} {v3 v4 : Value} {L3 L4 : List RowP} (h : TwoR W B v3 v4 L3 L4) (hb : Below W.heap.size W W') : TwoR W' B v3 v4 L3 L4 :=
  ⟨own_below h.o3 hb, own_below h.o4 hb, h.ne, fun x hx => (h.k3 x hx).below hb, fun x hx => (h.k4 x hx).below hb⟩
theorem TwoR.push {W W' : World} {B : Nat} {v3 v4 v' : Value} {L3 L4 : List RowP} {x : RowP} (h : TwoR W B v3 v4 L3 L4) (hx : RowOk B W x) (hs : B ≤ W.heap.size)
    (ho : W'.ownsRow B 32 1 v' (L3.length + 1) (L3.map rowV ++ [rowV x])) (hg : W.grownBy W' v3.ownBlock) (hl : v'.ownBlock = v3.ownBlock ∨ v'.ownBlock = some W.heap.size) :
    TwoR W' B v' v4 (L3 ++ [x]) L4 ∧ Below B W W' := by
  have hb : Below B W W' := own_grown (Below.refl B W) h.o3 hg (Nat.le_refl _) hs
  refine ⟨⟨?_, h.o4.kept hg ?_, ?_, ?_, fun y hy => (h.k4 y hy).grown h.o3 hg⟩, hb⟩
  · rw [List.length_append, List.map_append]
    exact ho
  · cases h4 : v4.ownBlock with
    | none => exact .inl rfl
    | some g => exact .inr fun e => h.ne g e.symm h4
  · intro g hg' h4
    rcases hl with hl | hl
    · exact h.ne g (hl ▸ hg') h4
    · rw [hl] at hg'
      cases hg'
      have := (own_lt h.o4 h4).1
      omega
  · intro y hy
    rcases List.mem_append.1 hy with hy | hy
    · exact (h.k3 y hy).grown h.o3 hg
    · simp only [List.mem_singleton] at hy
      subst hy
      exact hx.grown h.o3 hg
/-- The rows, to be counted. -/
theorem TwoR.rows {W : World} {B : Nat} {v3 v4 : Value} {L3 L4 : List RowP} (h : TwoR W B v3 v4 L3 L4) : ∃ A c, v3 = .slice A L3.length c ∧ RowsAt (Lt W.heap.size) W A (L3.map fun x => x.2.2) := by
  obtain ⟨A, c, hv, _, hS⟩ := SlAt.of_own h.o3
  refine ⟨A, c, hv, ?_⟩
  rcases Nat.eq_zero_or_pos L3.length with h0 | h0
  · left
    rw [List.length_eq_zero_iff.1 h0]
    rfl
  · obtain ⟨b, off, hA, hb, hc⟩ := hS.2 h0
    refine .inr ⟨b, off, hA, hb.2, fun i row hi => ?_⟩
    rw [List.getElem?_map] at hi
    cases hx : L3[i]? with
    | none => rw [hx] at hi; cases hi
    | some x =>
      rw [hx] at hi
      cases hi
      refine ⟨x.1, x.2.1, hc i (rowV x) (by rw [List.getElem?_map, hx]; rfl), ?_⟩
      rcases h.k3 x (List.mem_of_getElem? hx) with he | ⟨b2, off2, e1, e2, _, e4⟩
      · dsimp only
        rw [he]
        exact ⟨rfl, fun h => absurd h (by simp)⟩
      · exact ⟨by simp, fun _ => ⟨b2, off2, e1, e2, e4⟩⟩

/-- Each number below n is told once. -/
def Ones (n : Nat) (ks : List Int) : Prop := ∀ j, j < n → ks.count (j : Int) = 1
theorem ones_iff (n : Nat) (ks : List Int) : (∀ u ∈ ticks (List.replicate n 0) ks, u = 1) ↔ Ones n ks := by
  have hl : (ticks (List.replicate n 0) ks).length = n := by rw [ticks_len]; simp
  have hg : ∀ j (h : j < n), (ticks (List.replicate n 0) ks)[j]'(by omega) = (ks.count (j : Int) : Int) := fun j h => by
    have := ticks_get ks (List.replicate n 0) j (by simpa using h)
    rw [get0, Int.zero_add, List.getD_eq_getElem?_getD, List.getElem?_eq_getElem (by omega)] at this
    exact this
  constructor
  · intro h j hj
    have := h _ (List.getElem_mem (by omega : j < (ticks (List.replicate n 0) ks).length))
    rw [hg j hj] at this
    omega
  · intro h u hu
    obtain ⟨j, hj, rfl⟩ := List.getElem_of_mem hu
    rw [hg j (by omega), h j (by omega)]
    rfl
theorem count_nats {ks : List Int} (hr : ∀ k ∈ ks, 0 ≤ k) (j : Nat) : (nats ks).count j = ks.count (j : Int) := by
  induction ks with
  | nil => rfl
  | cons k ks ih =>
    have hk := hr k (by simp)
    unfold nats at *
    rw [List.map_cons, List.count_cons, List.count_cons, ih (fun x hx => hr x (by simp [hx]))]
    have : (k.toNat == j) = (k == (j : Int)) := by
      rw [Bool.eq_iff_iff, beq_iff_eq, beq_iff_eq]
      omega
    rw [this]
theorem ones_nats {n : Nat} {ks : List Int} (hr : InR ks n) : Ones n ks ↔ (nats ks).Nodup ∧ ∀ j, j < n → j ∈ nats ks := by
  have hr0 : ∀ k ∈ ks, 0 ≤ k := fun k hk => (hr k hk).1
  constructor
  · intro h
    refine ⟨?_, fun j hj => ?_⟩
    · rw [List.nodup_iff_count]
      intro j
      by_cases hm : j ∈ nats ks
      · obtain ⟨z, hz, rfl⟩ := List.mem_map.1 hm
        have := hr z hz
        rw [count_nats hr0, h _ (by omega)]
        exact Nat.le_refl _
      · rw [List.count_eq_zero_of_not_mem hm]
        omega
    · have := h j hj
      rw [← count_nats hr0] at this
      exact List.count_pos_iff.1 (by omega)
  · rintro ⟨h1, h2⟩ j hj
    rw [← count_nats hr0]
    have h3 := List.nodup_iff_count.1 h1 j
    have h4 := List.count_pos_iff.2 (h2 j hj)
    omega
end Go.Proofs.YtinajnkjfhbmkaaGreatDoor

namespace Go.Proofs.YtinajnkjfhbmkaaGreatDoor
open Go Go.Proofs Go.RowKit

theorem info32 : (Tryz.prog.info? 32).map (fun i => (i.zero, i.size, i.bytes)) = some (some (.slice none 0 0), 1, 24) := by kernel_rfl

def NodOk (t : TreeD) (k : Nat) : Prop := ∀ (j : Nat) (x : TermD), j < k → t.nodes[j]? = some x → InR x.kids j ∧ InR x.types t.types.length ∧ termB x = true
def TypsOk (t : TreeD) (k : Nat) : Prop := ∀ (j : Nat) (x : TypD), j < k → t.types[j]? = some x → InR x.kids j ∧ typB x = true
def AlisOk (t : TreeD) (k : Nat) : Prop := ∀ (j : Nat) (x : AliD), j < k → t.aliases[j]? = some x → aliasB (tl x.name) = true ∧ InR [x.type] t.types.length
theorem nodOk_of {t : TreeD} (h : checkF t = true) : NodOk t t.nodes.length := fun j x _ hx => (Rng.of h).nod j x hx
theorem typsOk_of {t : TreeD} (h : checkF t = true) : TypsOk t t.types.length := fun j x _ hx => (Rng.of h).typ j x hx
theorem alisOk_of {t : TreeD} (h : checkF t = true) : AlisOk t t.aliases.length := fun j x _ hx => by
  have := (Rng.of h).ali x (List.mem_of_getElem? hx)
  exact ⟨this.2.2, fun k hk => by simp only [List.mem_singleton] at hk; subst hk; exact ⟨this.1, this.2.1⟩⟩
theorem nodOk_step {t : TreeD} {k : Nat} {x : TermD} (h : NodOk t k) (hx : t.nodes[k]? = some x) (h1 : InR x.kids k) (h2 : InR x.types t.types.length) (h3 : termB x = true) : NodOk t (k + 1) := fun j y hj hy => by
  by_cases e : j = k
  · subst e; rw [hx] at hy; cases hy; exact ⟨h1, h2, h3⟩
  · exact h j y (by omega) hy
theorem typsOk_step {t : TreeD} {k : Nat} {x : TypD} (h : TypsOk t k) (hx : t.types[k]? = some x) (h1 : InR x.kids k) (h3 : typB x = true) : TypsOk t (k + 1) := fun j y hj hy => by
  by_cases e : j = k
  · subst e; rw [hx] at hy; cases hy; exact ⟨h1, h3⟩
  · exact h j y (by omega) hy
theorem alisOk_step {t : TreeD} {k : Nat} {x : AliD} (h : AlisOk t k) (hx : t.aliases[k]? = some x) (h1 : aliasB (tl x.name) = true) (h3 : InR [x.type] t.types.length) : AlisOk t (k + 1) := fun j y hj hy => by
  by_cases e : j = k
  · subst e; rw [hx] at hy; cases hy; exact ⟨h1, h3⟩
  · exact h j y (by omega) hy

theorem kids_in {t : TreeD} (h : NodOk t t.nodes.length) : ∀ k ∈ kidsAll t, 0 ≤ k ∧ k < (t.nodes.length : Int) - 1 := fun k hk => by
  obtain ⟨x, hx, hk⟩ := List.mem_flatMap.1 hk
  obtain ⟨j, hj, rfl⟩ := List.getElem_of_mem hx
  have := (h j _ hj (List.getElem?_eq_getElem hj)).1 k hk
  omega
theorem uses_in {t : TreeD} (h : NodOk t t.nodes.length) (h2 : TypsOk t t.types.length) (h3 : AlisOk t t.aliases.length) : InR (usesAll t) t.types.length := fun k hk => by
  unfold usesAll at hk
  rcases List.mem_append.1 hk with hk | hk
  · obtain ⟨x, hx, hk⟩ := List.mem_flatMap.1 hk
    obtain ⟨j, hj, rfl⟩ := List.getElem_of_mem hx
    exact (h j _ hj (List.getElem?_eq_getElem hj)).2.1 k hk
  · rcases List.mem_append.1 hk with hk | hk
    · obtain ⟨x, hx, hk⟩ := List.mem_flatMap.1 hk
      obtain ⟨j, hj, rfl⟩ := List.getElem_of_mem hx
      have := (h2 j _ hj (List.getElem?_eq_getElem hj)).1 k hk
      omega
    · obtain ⟨x, hx, rfl⟩ := List.mem_map.1 hk
      obtain ⟨j, hj, rfl⟩ := List.getElem_of_mem hx
      exact (h3 j _ hj (List.getElem?_eq_getElem hj)).2 _ (by simp)

theorem right_iff {t : TreeD} (hn : 1 ≤ t.nodes.length) (hb1 : t.nodes.length ≤ 1000) (hb2 : t.types.length ≤ 1000) (h1 : NodOk t t.nodes.length) (h2 : TypsOk t t.types.length) (h3 : AlisOk t t.aliases.length) :
    checkF t = true ↔ Ones t.nodes.length (((t.nodes.length - 1 : Nat) : Int) :: kidsAll t) ∧ Ones t.types.length (usesAll t) := by
  have hk := kids_in h1
  have hu := uses_in h1 h2 h3
  have hk2 : InR (((t.nodes.length - 1 : Nat) : Int) :: kidsAll t) t.nodes.length := fun k hk' => by
    rcases List.mem_cons.1 hk' with rfl | hk'
    · omega
    · have := hk k hk'; omega
  rw [ones_nats hk2, ones_nats hu, checkF_iff]
  have hno : (t.nodes.length - 1) ∉ nats (kidsAll t) := fun hm => by
    obtain ⟨z, hz, e⟩ := List.mem_map.1 hm
    have := hk z hz
    omega
  have hc : nats (((t.nodes.length - 1 : Nat) : Int) :: kidsAll t) = (t.nodes.length - 1) :: nats (kidsAll t) := by
    unfold nats
    rw [List.map_cons, Int.toNat_natCast]
  rw [hc, List.nodup_cons]
  constructor
  · intro hW
    refine ⟨⟨⟨hno, hW.onceN⟩, fun j hj => ?_⟩, hW.onceT, hW.allT⟩
    by_cases e : j = t.nodes.length - 1
    · rw [e]; exact List.mem_cons_self
    · exact List.mem_cons_of_mem _ (hW.allN j (by omega))
  · rintro ⟨⟨⟨_, g1⟩, g2⟩, g3, g4⟩
    refine ⟨⟨hn, fun j x hx => ?_, fun j x hx => ?_, fun x hx => ?_⟩, by omega, by omega, g1, g3, fun j hj => ?_, g4⟩
    · exact h1 j x (List.getElem?_eq_some_iff.1 hx).1 hx
    · exact h2 j x (List.getElem?_eq_some_iff.1 hx).1 hx
    · obtain ⟨j, hj, rfl⟩ := List.getElem_of_mem hx
      have := h3 j _ hj (List.getElem?_eq_getElem hj)
      have h4 := this.2 t.aliases[j].type (by simp)
      exact ⟨h4.1, h4.2, this.1⟩
    · rcases List.mem_cons.1 (g2 j (by omega)) with e | h
      · omega
      · exact h
end Go.Proofs.YtinajnkjfhbmkaaGreatDoor

namespace Go.Proofs.YtinajnkjfhbmkaaGreatDoor
open Go Go.Proofs Go.RowKit

abbrev ksOf (L : List RowP) : List Int := (L.map fun x => x.2.2).flatten
def Short (L : List RowP) : Prop := ∀ x ∈ L, x.2.2.length ≤ 1000
theorem Short.push {L : List RowP} {x : RowP} (h : Short L) (hx : x.2.2.length ≤ 1000) : Short (L ++ [x]) := fun y hy => by
  rcases List.mem_append.1 hy with hy | hy
  · exact h y hy
  · simp only [List.mem_singleton] at hy; subst hy; exact hx
theorem ksOf_push (L : List RowP) (x : RowP) : ksOf (L ++ [x]) = ksOf L ++ x.2.2 := by simp [ksOf]

set_option maxRecDepth 100000 in
set_option maxHeartbeats 8000000 in
theorem right_none (t : TreeD) (p : Ptr6) (w : World) (h0 : t.nodes.length = 0) : Calls Tryz.prog 7 #[treeV t p] w fun e w' => e = .returned (.bool (checkF t)) ∧ Below w.heap.size w w' := by
  have hF : checkF t = false := by
    cases h : checkF t with
    | false => rfl
    | true => have := (Rng.of h).one; omega
  rw [hF]
  obtain ⟨a1, c1, a2, c2, a3, c3⟩ := p
  have hB := (Below.refl w.heap.size w).alloc (Nat.le_refl _) (.cells #[.slice a1 t.nodes.length c1, .slice a2 t.types.length c2, .slice a3 t.aliases.length c3] 26)
  have HB := Lib.hid hB
  have d1 : ((t.nodes.length : Int) == 0) = true := by rw [h0]; rfl
  have h1 : t.nodes.length ≤ 0 := by omega
  clear hB hF h0
  go_enter Tryz.func7, Tryz.ntmps7
  go_wp2
  all_goals
    go_ret
    exact ⟨rfl, HB.out⟩

set_option maxRecDepth 100000 in
set_option maxHeartbeats 40000000 in
theorem right_some (t : TreeD) (p : Ptr6) (w : World) (hT : TreeAt (Lt w.heap.size) w t p) (hF : TreeFew t) (hI : ∀ x ∈ t.nodes, x.int ≤ 9223372036854775807) (h1 : 1 ≤ t.nodes.length) :
    Calls Tryz.prog 7 #[treeV t p] w fun e w' => e = .returned (.bool (checkF t)) ∧ Below w.heap.size w w' := by
  obtain ⟨i0, hi, hz0, hz1, hz2⟩ := info_parts info32
  obtain ⟨F1, F2, F3, F4, F5, F6⟩ := hF
  obtain ⟨a1, c1, a2, c2, a3, c3⟩ := p
  obtain ⟨tN, tT, tA⟩ := id hT
  dsimp only at tN tT tA
  obtain ⟨r, hr⟩ : ∃ r, checkF t = r := ⟨_, rfl⟩
  have HFin := Lib.hid (fun g1 g2 g3 => right_iff h1 F5 F6 g1 g2 g3)
  have HN := Lib.hid (fun (h : r = true) => nodOk_of (hr.trans h))
  have HTY := Lib.hid (fun (h : r = true) => typsOk_of (hr.trans h))
  have HAL := Lib.hid (fun (h : r = true) => alisOk_of (hr.trans h))
  have HR := Lib.hid hr
  rw [hr]
  have HF1 := Lib.hid F1
  have HF2 := Lib.hid F2
  have HF3 := Lib.hid F3
  have HI := Lib.hid hI
  have HT := Lib.hid hT
  obtain ⟨W1, hW1⟩ : ∃ W1, w.alloc (.cells #[.slice a1 t.nodes.length c1, .slice a2 t.types.length c2, .slice a3 t.aliases.length c3] 26) = W1 := ⟨_, rfl⟩
  have hB1 : Below w.heap.size w W1 := by rw [← hW1]; exact (Below.refl _ _).alloc (Nat.le_refl _) _
  have hX : Blk W1 w.heap.size 26 #[.slice a1 t.nodes.length c1, .slice a2 t.types.length c2, .slice a3 t.aliases.length c3] := by rw [← hW1]; exact Blk.new w 26 _
  have hzX : w.heap.size < W1.heap.size := hX.lt
  have x0 := hX.cell 0
  have x1 := hX.cell 1
  have x2 := hX.cell 2
  simp only [List.getElem?_toArray, List.getElem?_cons_zero, List.getElem?_cons_succ] at x0 x1 x2
  have HX := Lib.hid hX
  have hX2 : Blk (((W1.alloc (.cells #[.int .i64 ((t.nodes.length - 1 : Nat) : Int)] 3)).alloc (.cells #[.slice (some ⟨W1.heap.size, 0, none⟩) 1 1] 32)).alloc (.cells #[] 32)) w.heap.size 26 #[.slice a1 t.nodes.length c1, .slice a2 t.types.length c2, .slice a3 t.aliases.length c3] := ((hX.alloc _).alloc _).alloc _
  have y0 := hX2.cell 0
  simp only [List.getElem?_toArray, List.getElem?_cons_zero] at y0
  have HX2 := Lib.hid hX2
  have d1 : ((t.nodes.length : Int) == 0) = false := by rw [beq_eq_false_iff_ne]; omega
  have d2 : decide ((65536 : Int) < t.nodes.length) = false := by simp; omega
  have d3 : decide ((65536 : Int) < t.types.length) = false := by simp; omega
  have hsub : IntKind.i64.wrap ((t.nodes.length : Int) - 1) = ((t.nodes.length - 1 : Nat) : Int) := by
    rw [IntWalk.i64_in _ (by omega)]; omega
  clear hX hX2 hr hI hT F1 F2 F3
  go_enter Tryz.func7, Tryz.ntmps7
  go_wp2
  clear hW1
  obtain ⟨W2, hW2⟩ : ∃ W2, (((W1.alloc (.cells #[.int .i64 ((t.nodes.length - 1 : Nat) : Int)] 3)).alloc (.cells #[.slice (some ⟨W1.heap.size, 0, none⟩) 1 1] 32)).alloc (.cells #[] 32)) = W2 := ⟨_, rfl⟩
  have hTw : TwoR W2 W1.heap.size (.slice (some ⟨W1.heap.size + 1, 0, none⟩) 1 1) (.slice (some ⟨W1.heap.size + 1 + 1, 0, none⟩) 0 0) [(some ⟨W1.heap.size, 0, none⟩, 1, [((t.nodes.length - 1 : Nat) : Int)])] [] := by
    have b1 := ((Blk.new W1 3 #[.int .i64 ((t.nodes.length - 1 : Nat) : Int)]).alloc (.cells #[.slice (some ⟨W1.heap.size, 0, none⟩) 1 1] 32)).alloc (.cells #[] 32)
    have b2 := (Blk.new (W1.alloc (.cells #[.int .i64 ((t.nodes.length - 1 : Nat) : Int)] 3)) 32 #[.slice (some ⟨W1.heap.size, 0, none⟩) 1 1]).alloc (.cells #[] 32)
    have b3 := Blk.new ((W1.alloc (.cells #[.int .i64 ((t.nodes.length - 1 : Nat) : Int)] 3)).alloc (.cells #[.slice (some ⟨W1.heap.size, 0, none⟩) 1 1] 32)) 32 #[]
    rw [hW2] at b1 b2 b3
    simp only [World.size_alloc] at b2 b3
    refine ⟨⟨rfl, .inr ⟨_, 1, #[.slice (some ⟨W1.heap.size, 0, none⟩) 1 1], rfl, by omega, b2, Nat.le_refl _, by decide, rfl, rfl⟩⟩, ⟨rfl, .inr ⟨_, 0, #[], rfl, by omega, b3, Nat.le_refl _, by decide, rfl, rfl⟩⟩, fun g h h' => ?_, fun x hx => ?_, fun _ h => by simp at h⟩
    · simp only [Value.ownBlock] at h h'
      simp at h h'
      omega
    · simp only [List.mem_singleton] at hx
      subst hx
      exact .inr ⟨_, _, rfl, b1.lt, .inr ⟨_, b1⟩, fun j u hu => by
        have hj : j = 0 := by
          cases j with
          | zero => rfl
          | succ j => simp at hu
        subst hj
        simp at hu
        subst hu
        exact (b1.cell 0).trans rfl⟩
  have hB2 : Below W1.heap.size W1 W2 := by rw [← hW2]; exact (((Below.refl _ _).alloc (Nat.le_refl _) _).alloc (by simp) _).alloc (by simp; omega) _
  have hBw2 : Below w.heap.size w W2 := hB1.trans (hB2.mono (by omega))
  have hzB2 : W1.heap.size ≤ W2.heap.size := hB2.size
  have hXB : Blk W2 w.heap.size 26 #[.slice a1 t.nodes.length c1, .slice a2 t.types.length c2, .slice a3 t.aliases.length c3] := by rw [← hW2]; exact HX2.out
  have HXB := Lib.hid hXB
  have HTw := Lib.hid hTw
  rw [hW2] at y0 ⊢
  clear hXB hTw hW2 HX2 HX x0 x1 x2 y0 hsub
  have hwB : w.heap.size < W1.heap.size := by omega
  go_loopw [3, 4, 5, 6, 41] (fun v3 v4 _ _ i wr => ∃ (k : Nat) (L3 L4 : List RowP), k ≤ t.nodes.length ∧ i = .int .i64 k ∧ L3.length = k + 1 ∧ L4.length = k ∧ Hid (TwoR wr W1.heap.size v3 v4 L3 L4) ∧ Hid (Short L3 ∧ Short L4) ∧ Hid (ksOf L3 = ((t.nodes.length - 1 : Nat) : Int) :: (t.nodes.take k).flatMap (·.kids) ∧ ksOf L4 = (t.nodes.take k).flatMap (·.types)) ∧ Hid (NodOk t k) ∧ Below W1.heap.size W2 wr) (fun _ _ _ _ i _ => t.nodes.length - (intOf i).toNat)
  case atStart =>
    refine ⟨0, [(some ⟨W1.heap.size, 0, none⟩, 1, [((t.nodes.length - 1 : Nat) : Int)])], [], Nat.zero_le _, rfl, rfl, rfl, ?_, Lib.hid ⟨?_, fun _ h => by simp at h⟩, Lib.hid ⟨by simp [ksOf], by simp [ksOf]⟩, Lib.hid (fun j x hj => by omega), Below.refl _ _⟩
    · exact HTw
    · intro x hx
      simp only [List.mem_singleton] at hx
      subst hx
      simp
  case round =>
    obtain ⟨k, L3, L4, hk, rfl, hl3, hl4, HTW, HSH, HKS, HNO, hBr⟩ := hrel
    have hzB : W1.heap.size ≤ wr.heap.size := Nat.le_trans hzB2 hBr.size
    have hBw : Below w.heap.size w wr := hBw2.trans (hBr.mono (by omega))
    by_cases hlt : k < t.nodes.length
    · obtain ⟨b, off, rfl, hb, hcell⟩ := tN (by omega)
      have hget := List.getElem?_eq_getElem hlt
      obtain ⟨q, hq, hcq⟩ := hcell k t.nodes[k] hget
      have htk : t.nodes.take (k + 1) = t.nodes.take k ++ [t.nodes[k]] := List.take_succ_eq_append_getElem hlt
      have hfew := HF1.out _ (List.getElem_mem hlt)
      have hint := HI.out _ (List.getElem_mem hlt)
      obtain ⟨x, hx⟩ : ∃ x, t.nodes[k] = x := ⟨_, rfl⟩
      rw [hx] at hq hcq hfew htk hget hint
      have e0 := (hBw.cell (p := ⟨b, off + k * 8, none⟩) hb).trans (hcq 0 _ rfl)
      have e1 := (hBw.cell (p := ⟨b, off + k * 8 + 1, none⟩) hb).trans (hcq 1 _ rfl)
      have e2 := (hBw.cell (p := ⟨b, off + k * 8 + 2, none⟩) hb).trans (hcq 2 _ rfl)
      have e3 := (hBw.cell (p := ⟨b, off + k * 8 + 3, none⟩) hb).trans (hcq 3 _ rfl)
      have e4 := (hBw.cell (p := ⟨b, off + k * 8 + 4, none⟩) hb).trans (hcq 4 _ rfl)
      have e5 := (hBw.cell (p := ⟨b, off + k * 8 + 5, none⟩) hb).trans (hcq 5 _ rfl)
      have e6 := (hBw.cell (p := ⟨b, off + k * 8 + 6, none⟩) hb).trans (hcq 6 _ rfl)
      have e7 := (hBw.cell (p := ⟨b, off + k * 8 + 7, none⟩) hb).trans (hcq 7 _ rfl)
      have HGET := Lib.hid hget
      have HTK := Lib.hid htk
      clear hcq hcell hx hget htk
      obtain ⟨Wn, hWn⟩ : ∃ Wn, wr.alloc (.cells #[.int .i64 x.kind, .int .i64 x.pos, .string x.name, .int .i64 x.int, .int .u64 (x.bits : Int), .slice q.a5 x.names.length q.c5, .slice q.a6 x.kids.length q.c6, .slice q.a7 x.types.length q.c7] 45) = Wn := ⟨_, rfl⟩
      have hBn : Below wr.heap.size wr Wn := by rw [← hWn]; exact (Below.refl _ _).alloc (Nat.le_refl _) _
      have hXn : Blk Wn wr.heap.size 45 (termCells x q).toArray := by rw [← hWn]; exact Blk.new wr 45 _
      have hzn := hXn.lt
      have hszn : Wn.heap.size = wr.heap.size + 1 := by rw [← hWn]; simp
      have hBnB : Below W1.heap.size W2 Wn := hBr.trans (hBn.mono hzB)
      have hBnw : Below w.heap.size w Wn := hBw.trans (hBn.mono (by omega))
      have hqn : TermOk (Lt w.heap.size) Wn x q := hq.keep (fun b o hb => hBnw.cell (p := ⟨b, o, none⟩) hb)
      have hqw : TermOk (Lt Wn.heap.size) Wn x q := hqn.imp (lt_mono hBnw.size)
      have kT := rterm_any x q Wn hfew hint hqw
      have hbadT : termB x = false → r = false := fun h => by
        cases r
        · rfl
        · have := (HN.out rfl k x hlt HGET.out).2.2
          rw [h] at this
          cases this
      have hbadK : ¬ InR x.kids k → r = false := fun h => by
        cases r
        · rfl
        · exact absurd (HN.out rfl k x hlt HGET.out).1 h
      have hbadY : ¬ InR x.types t.types.length → r = false := fun h => by
        cases r
        · rfl
        · exact absurd (HN.out rfl k x hlt HGET.out).2.1 h
      obtain ⟨Bt, hBt⟩ : ∃ Bt, termB x = Bt := ⟨_, rfl⟩
      rw [hBt] at kT hbadT
      have HBT := Lib.hid hBt
      have HBadT := Lib.hid hbadT
      have HBadK := Lib.hid hbadK
      have HBadY := Lib.hid hbadY
      have HQN := Lib.hid hqn
      have HXN := Lib.hid hXn
      have HTWn := Lib.hid (HTW.out.below hBn)
      have HXW := Lib.hid (HXB.out.below hBr hwB)
      have hfk := hfew.2.2.2.1
      have hfy := hfew.2.2.2.2
      have p0 := hXn.cell 0
      have p1 := hXn.cell 1
      have p2 := hXn.cell 2
      have p3 := hXn.cell 3
      have p4 := hXn.cell 4
      have p5 := hXn.cell 5
      have p6 := hXn.cell 6
      have p7 := hXn.cell 7
      unfold termCells at p0 p1 p2 p3 p4 p5 p6 p7 kT
      simp only [List.getElem?_toArray, List.getElem?_cons_zero, List.getElem?_cons_succ] at p0 p1 p2 p3 p4 p5 p6 p7
      clear hbadT hbadK hbadY hBt hqn hqw hXn hq hfew hint
      go_wp2_with fail
      refine kT.mono ?_
      rintro e w3 ⟨rfl, hb3⟩
      have hB3 : Below W1.heap.size W2 w3 := hBnB.trans (hb3.mono (by omega))
      have hB3w : Below w.heap.size w w3 := hBnw.trans (hb3.mono (by omega))
      have hz3 := hb3.size
      have HX3 := Lib.hid (HXN.out.below hb3 hzn)
      have HT3 := Lib.hid (HTWn.out.below hb3)
      have r6 := HX3.out.cell 6
      have r7 := HX3.out.cell 7
      unfold termCells at r6 r7
      simp only [List.getElem?_toArray, List.getElem?_cons_zero, List.getElem?_cons_succ] at r6 r7
      have s1 := ((HXB.out.below hB3 hwB).cell 1).trans rfl
      have RK := Lib.hid (RdAt.of_sl (HQN.out.2.1.keep (fun b o hb => (hb3.cell (p := ⟨b, o, none⟩) (Nat.lt_of_lt_of_le hb hBnw.size)))))
      have RY := Lib.hid (RdAt.of_sl (HQN.out.2.2.keep (fun b o hb => (hb3.cell (p := ⟨b, o, none⟩) (Nat.lt_of_lt_of_le hb hBnw.size)))))
      have kK := rbelow_any q.a6 q.c6 x.kids (k : Int) w3 RK.out hfk
      have kY := rbelow_any q.a7 q.c7 x.types (t.types.length : Int) w3 RY.out hfy
      clear kT p0 p1 p2 p3 p4 p5 p6 p7 e0 e1 e2 e3 e4 e5 e6 e7 hb3 hWn
      cases Bt
      · have HF := Lib.hid (HBadT.out rfl)
        go_wp2
        go_ret
        exact ⟨ret_bool HF.out.symm, hB3w⟩
      · by_cases hKK : InR x.kids k
        · have hdk : decide (∀ z ∈ x.kids, 0 ≤ z ∧ z < (k : Int)) = true := decide_eq_true hKK
          rw [hdk] at kK
          by_cases hYY : InR x.types t.types.length
          · have hdy : decide (∀ z ∈ x.types, 0 ≤ z ∧ z < (t.types.length : Int)) = true := decide_eq_true hYY
            rw [hdy] at kY
            have HNO2 := Lib.hid (nodOk_step HNO.out HGET.out hKK hYY HBT.out)
            have okK : RowOk W1.heap.size w3 (q.a6, q.c6, x.kids) := RowOk.of_sl (HQN.out.2.1.keep (fun b o hb => (hB3w.cell (p := ⟨b, o, none⟩) hb).trans (hBnw.cell (p := ⟨b, o, none⟩) hb).symm)) (fun b hb => ⟨Nat.lt_trans hb hwB, Nat.lt_of_lt_of_le hb hB3w.size⟩)
            have okY : RowOk W1.heap.size w3 (q.a7, q.c7, x.types) := RowOk.of_sl (HQN.out.2.2.keep (fun b o hb => (hB3w.cell (p := ⟨b, o, none⟩) hb).trans (hBnw.cell (p := ⟨b, o, none⟩) hb).symm)) (fun b hb => ⟨Nat.lt_trans hb hwB, Nat.lt_of_lt_of_le hb hB3w.size⟩)
            have HOK := Lib.hid okK
            have HOY := Lib.hid okY
            obtain ⟨A3, d3, hv3⟩ := own_form HT3.out.o3
            obtain ⟨A4, d4, hv4⟩ := own_form HT3.out.o4
            subst hv3
            subst hv4
            rw [hl3] at HT3
            rw [hl4] at HT3
            clear hdk hdy hKK hYY okK okY
            have hfX3 : ∀ V, Below W1.heap.size w3 V → V.cell? ⟨w.heap.size, 1, none⟩ = w3.cell? ⟨w.heap.size, 1, none⟩ := fun V hV => hV.cell (p := ⟨w.heap.size, 1, none⟩) hwB
            have hz3B : W1.heap.size ≤ w3.heap.size := by omega
            have HZ3 := Lib.hid hz3B
            clear hfX3
            go_wp2_with (first
              | (go_at_call 22; first | ((with_reducible refine kK.mono ?_); rintro e w4 ⟨rfl, rfl⟩) | ((with_reducible refine kY.mono ?_); rintro e w4 ⟨rfl, rfl⟩))
              | (at_builtin; refine wpList_app _ rfl _ _ 56 rfl W1.heap.size 32 i0 (.slice none 0 0) 1 24 Tryz.underlying56 hi hz0 hz1 hz2 rfl (by decide) (.slice A3 (k + 1) d3) L3.length (L3.map rowV) (by rfl) (HT3.out.o3.alloc _) (some ⟨w3.heap.size, 0, none⟩) 1 1 [.slice q.a6 x.kids.length q.c6] (by rfl) rfl (rd_one _ _ _) (by intro u hu; simp at hu; subst hu; rfl) (by unfold maxLen; omega) (by omega) (by simp; omega) ?_; intro v5 w5 hown5 hgrow5 hloc5; have hP5 := TwoR.push (x := (q.a6, q.c6, x.kids)) (HT3.out.below ((Below.refl _ _).alloc (Nat.le_refl _) (.cells #[.slice q.a6 x.kids.length q.c6] 32))) (HOK.out.below ((Below.refl _ _).alloc (Nat.le_refl _) _)) (by simp; omega) hown5 hgrow5 hloc5; have hX5 := (HX3.out.alloc (.cells #[.slice q.a6 x.kids.length q.c6] 32)).grown hgrow5 (fun e => own_blk_ne (HT3.out.o3) HX3.out (by decide) e.symm); have t7 : w5.cell? ⟨wr.heap.size, 7, none⟩ = some (.slice q.a7 x.types.length q.c7) := (hX5.cell 7).trans rfl; have HP5 := Lib.hid hP5.1; have HB5 := Lib.hid hP5.2; have HOY5 := Lib.hid ((HOY.out.below ((Below.refl _ _).alloc (Nat.le_refl _) (.cells #[.slice q.a6 x.kids.length q.c6] 32))).grown (HT3.out.o3.alloc (.cells #[.slice q.a6 x.kids.length q.c6] 32)) hgrow5); have hz5 := hgrow5.size; rw [World.size_alloc] at hz5; obtain ⟨A5, d5, hv5⟩ := own_form hP5.1.o3; subst hv5; clear hP5 hown5 hgrow5 hloc5 hX5)
              | (at_builtin; refine wpList_app _ rfl _ _ 56 rfl W1.heap.size 32 i0 (.slice none 0 0) 1 24 Tryz.underlying56 hi hz0 hz1 hz2 rfl (by decide) (.slice A4 k d4) L4.length (L4.map rowV) (by rfl) (HP5.out.o4.alloc _) (some ⟨w5.heap.size, 0, none⟩) 1 1 [.slice q.a7 x.types.length q.c7] (by rfl) rfl (rd_one _ _ _) (by intro u hu; simp at hu; subst hu; rfl) (by unfold maxLen; omega) (by omega) (by simp; omega) ?_; intro v6 w6 hown6 hgrow6 hloc6; have hP6 := TwoR.push (x := (q.a7, q.c7, x.types)) (HP5.out.swap.below ((Below.refl _ _).alloc (Nat.le_refl _) (.cells #[.slice q.a7 x.types.length q.c7] 32))) (HOY5.out.below ((Below.refl _ _).alloc (Nat.le_refl _) _)) (by simp; omega) hown6 hgrow6 hloc6; have HP6 := Lib.hid hP6.1.swap; have HB6 := Lib.hid hP6.2; clear hP6 hown6 hgrow6 hloc6))
            have hB6 : Below W1.heap.size W2 w6 := ((hB3.alloc (by omega) _).trans HB5.out).trans (((Below.refl W1.heap.size w5).alloc (by omega) (.cells #[.slice q.a7 x.types.length q.c7] 32)).trans HB6.out)
            have HSH2 : Hid (Short (L3 ++ [(q.a6, q.c6, x.kids)]) ∧ Short (L4 ++ [(q.a7, q.c7, x.types)])) := Lib.hid ⟨HSH.out.1.push hfk, HSH.out.2.push hfy⟩
            have HKS2 : Hid (ksOf (L3 ++ [(q.a6, q.c6, x.kids)]) = ((t.nodes.length - 1 : Nat) : Int) :: (t.nodes.take (k + 1)).flatMap (·.kids) ∧ ksOf (L4 ++ [(q.a7, q.c7, x.types)]) = (t.nodes.take (k + 1)).flatMap (·.types)) := Lib.hid (by
              rw [ksOf_push, ksOf_push, HKS.out.1, HKS.out.2, HTK.out, List.flatMap_append, List.flatMap_append]
              simp)
            have HP6' : Hid (TwoR w6 W1.heap.size (.slice A5 (k + 1 + 1) d5) v6 (L3 ++ [(q.a6, q.c6, x.kids)]) (L4 ++ [(q.a7, q.c7, x.types)])) := Lib.hid (by have h := HP6.out; rwa [List.length_append, List.length_singleton, hl3] at h)
            go_roundw
            case rel => exact ⟨k + 1, _, _, by omega, by go_num, by simp [hl3], by simp [hl4], HP6', HSH2, HKS2, HNO2, hB6⟩
            case measure => simp [intOf]; omega
          · have hdy : decide (∀ z ∈ x.types, 0 ≤ z ∧ z < (t.types.length : Int)) = false := decide_eq_false hYY
            rw [hdy] at kY
            have HF := Lib.hid (HBadY.out hYY)
            clear hdk hdy
            go_wp2_with (go_at_call 22; first | ((with_reducible refine kK.mono ?_); rintro e w4 ⟨rfl, rfl⟩) | ((with_reducible refine kY.mono ?_); rintro e w4 ⟨rfl, rfl⟩))
            go_ret
            exact ⟨ret_bool HF.out.symm, hB3w⟩
        · have hdk : decide (∀ z ∈ x.kids, 0 ≤ z ∧ z < (k : Int)) = false := decide_eq_false hKK
          rw [hdk] at kK
          have HF := Lib.hid (HBadK.out hKK)
          clear hdk
          go_wp2_with (go_at_call 22; refine kK.mono ?_; rintro e w4 ⟨rfl, rfl⟩)
          go_ret
          exact ⟨ret_bool HF.out.symm, hB3w⟩
    · obtain rfl : k = t.nodes.length := by omega
      rw [List.take_length] at HKS
      have HXE := Lib.hid (HXB.out.below hBr hwB)
      have hBE := hBw
      have hzE := hzB
      have HT0 := HTW
      have HSH0 := HSH
      obtain ⟨w5, hw5⟩ : ∃ w5, w5 = wr := ⟨wr, rfl⟩
      rw [← hw5] at HT0 HXE hBE hzE
      have x1 := HXE.out.cell 1
      simp only [List.getElem?_toArray, List.getElem?_cons_zero, List.getElem?_cons_succ] at x1
      rw [hw5] at x1
      clear HTW HSH hBr hzB hBw hlt
      go_wp2
      go_loopw [4, 7, 8, 79] (fun v4 _ _ i wr => ∃ (k : Nat) (L5 : List RowP), k ≤ t.types.length ∧ i = .int .i64 k ∧ L5.length = t.nodes.length + k ∧ Hid (TwoR wr W1.heap.size u3 v4 L3 L5) ∧ Hid (Short L5) ∧ Hid (ksOf L5 = t.nodes.flatMap (·.types) ++ (t.types.take k).flatMap (·.kids)) ∧ Hid (TypsOk t k) ∧ Below W1.heap.size w5 wr) (fun _ _ _ i _ => t.types.length - (intOf i).toNat)
      case atStart => exact ⟨0, L4, Nat.zero_le _, rfl, hl4, hw5 ▸ HT0, Lib.hid HSH0.out.2, Lib.hid (by rw [HKS.out.2]; simp), Lib.hid (fun j x hj => by omega), by rw [hw5]; exact Below.refl _ _⟩
      case round =>
        clear hw5
        obtain ⟨k, L5, hk, rfl, hl5, HTW, HSH, HK5, HTO, hBr⟩ := hrel
        have HL5 := Lib.hid hl5
        have hl5b : L5.length ≤ 2000 := by omega
        clear hl5
        have hzB : W1.heap.size ≤ wr.heap.size := Nat.le_trans hzE hBr.size
        have hBw : Below w.heap.size w wr := hBE.trans (hBr.mono (by omega))
        by_cases hlt : k < t.types.length

        · obtain ⟨b, off, rfl, hb, hcell⟩ := tT (by omega)
          have hget := List.getElem?_eq_getElem hlt
          obtain ⟨q, hq, hcq⟩ := hcell k t.types[k] hget
          have htk : t.types.take (k + 1) = t.types.take k ++ [t.types[k]] := List.take_succ_eq_append_getElem hlt
          have hfew := HF2.out _ (List.getElem_mem hlt)
          obtain ⟨x, hx⟩ : ∃ x, t.types[k] = x := ⟨_, rfl⟩
          rw [hx] at hq hcq hfew htk hget
          have e0 := (hBw.cell (p := ⟨b, off + k * 6, none⟩) hb).trans (hcq 0 _ rfl)
          have e1 := (hBw.cell (p := ⟨b, off + k * 6 + 1, none⟩) hb).trans (hcq 1 _ rfl)
          have e2 := (hBw.cell (p := ⟨b, off + k * 6 + 2, none⟩) hb).trans (hcq 2 _ rfl)
          have e3 := (hBw.cell (p := ⟨b, off + k * 6 + 3, none⟩) hb).trans (hcq 3 _ rfl)
          have e4 := (hBw.cell (p := ⟨b, off + k * 6 + 4, none⟩) hb).trans (hcq 4 _ rfl)
          have e5 := (hBw.cell (p := ⟨b, off + k * 6 + 5, none⟩) hb).trans (hcq 5 _ rfl)
          have HGET := Lib.hid hget
          have HTK := Lib.hid htk
          clear hcq hcell hx hget htk
          obtain ⟨Wn, hWn⟩ : ∃ Wn, wr.alloc (.cells #[.int .i64 x.kind, .int .i64 x.pos, .string x.name, .slice q.a3 x.names.length q.c3, .slice q.a4 x.kids.length q.c4, .bool x.opn] 47) = Wn := ⟨_, rfl⟩
          have hBn : Below wr.heap.size wr Wn := by rw [← hWn]; exact (Below.refl _ _).alloc (Nat.le_refl _) _
          have hXn : Blk Wn wr.heap.size 47 (typCells x q).toArray := by rw [← hWn]; exact Blk.new wr 47 _
          have hzn := hXn.lt
          have hszn : Wn.heap.size = wr.heap.size + 1 := by rw [← hWn]; simp
          have hBnB : Below W1.heap.size w5 Wn := hBr.trans (hBn.mono hzB)
          have hBnw : Below w.heap.size w Wn := hBw.trans (hBn.mono (by omega))
          have hqn : TypOk (Lt w.heap.size) Wn x q := hq.keep (fun b o hb => hBnw.cell (p := ⟨b, o, none⟩) hb)
          have hqw : TypOk (Lt Wn.heap.size) Wn x q := hqn.imp (lt_mono hBnw.size)
          have kT := rtyp_any x q Wn hfew hqw
          have hbadT : typB x = false → r = false := fun h => by
            cases r
            · rfl
            · have := (HTY.out rfl k x hlt HGET.out).2
              rw [h] at this
              cases this
          have hbadK : ¬ InR x.kids k → r = false := fun h => by
            cases r
            · rfl
            · exact absurd (HTY.out rfl k x hlt HGET.out).1 h
          obtain ⟨Bt, hBt⟩ : ∃ Bt, typB x = Bt := ⟨_, rfl⟩
          rw [hBt] at kT hbadT
          have HBT := Lib.hid hBt
          have HBadT := Lib.hid hbadT
          have HBadK := Lib.hid hbadK
          have HQN := Lib.hid hqn
          have HXN := Lib.hid hXn
          have HTWn := Lib.hid (HTW.out.below hBn)
          have hfk := hfew.2.2.2
          have p0 := hXn.cell 0
          have p1 := hXn.cell 1
          have p2 := hXn.cell 2
          have p3 := hXn.cell 3
          have p4 := hXn.cell 4
          have p5 := hXn.cell 5
          unfold typCells at p0 p1 p2 p3 p4 p5 kT
          simp only [List.getElem?_toArray, List.getElem?_cons_zero, List.getElem?_cons_succ] at p0 p1 p2 p3 p4 p5
          clear hbadT hbadK hBt hqn hqw hXn hq hfew
          go_wp2_with fail
          refine kT.mono ?_
          rintro e w3 ⟨rfl, hb3⟩
          have hB3 : Below W1.heap.size w5 w3 := hBnB.trans (hb3.mono (by omega))
          have hB3w : Below w.heap.size w w3 := hBnw.trans (hb3.mono (by omega))
          have hz3 := hb3.size
          have HX3 := Lib.hid (HXN.out.below hb3 hzn)
          have HT3 := Lib.hid (HTWn.out.below hb3)
          have r4 := HX3.out.cell 4
          unfold typCells at r4
          simp only [List.getElem?_toArray, List.getElem?_cons_zero, List.getElem?_cons_succ] at r4
          have RK := Lib.hid (RdAt.of_sl (HQN.out.2.keep (fun b o hb => (hb3.cell (p := ⟨b, o, none⟩) (Nat.lt_of_lt_of_le hb hBnw.size)))))
          have kK := rbelow_any q.a4 q.c4 x.kids (k : Int) w3 RK.out hfk
          clear kT p0 p1 p2 p3 p4 p5 e0 e1 e2 e3 e4 e5 hb3 hWn
          cases Bt
          · have HF := Lib.hid (HBadT.out rfl)
            go_wp2
            go_ret
            exact ⟨ret_bool HF.out.symm, hB3w⟩
          · by_cases hKK : InR x.kids k
            · have hdk : decide (∀ z ∈ x.kids, 0 ≤ z ∧ z < (k : Int)) = true := decide_eq_true hKK
              rw [hdk] at kK
              have HTO2 := Lib.hid (typsOk_step HTO.out HGET.out hKK HBT.out)
              have HOK : Hid (RowOk W1.heap.size w3 (q.a4, q.c4, x.kids)) := Lib.hid (RowOk.of_sl (HQN.out.2.keep (fun b o hb => (hB3w.cell (p := ⟨b, o, none⟩) hb).trans (hBnw.cell (p := ⟨b, o, none⟩) hb).symm)) (fun b hb => ⟨Nat.lt_trans hb hwB, Nat.lt_of_lt_of_le hb hB3w.size⟩))
              obtain ⟨A4, d4, hv4⟩ := own_form HT3.out.o4
              subst hv4
              have hz3B : W1.heap.size ≤ w3.heap.size := by omega
              clear hdk hKK
              go_wp2_with (first
                | (go_at_call 22; (with_reducible refine kK.mono ?_); rintro e w4 ⟨rfl, rfl⟩)
                | (at_builtin; refine wpList_app _ rfl _ _ 56 rfl W1.heap.size 32 i0 (.slice none 0 0) 1 24 Tryz.underlying56 hi hz0 hz1 hz2 rfl (by decide) (.slice A4 L5.length d4) L5.length (L5.map rowV) (by rfl) (HT3.out.o4.alloc _) (some ⟨w3.heap.size, 0, none⟩) 1 1 [.slice q.a4 x.kids.length q.c4] (by rfl) rfl (rd_one _ _ _) (by intro u hu; simp at hu; subst hu; rfl) (by unfold maxLen; omega) (by omega) (by simp; omega) ?_; intro v6 w6 hown6 hgrow6 hloc6; have hP6 := TwoR.push (x := (q.a4, q.c4, x.kids)) (HT3.out.swap.below ((Below.refl _ _).alloc (Nat.le_refl _) (.cells #[.slice q.a4 x.kids.length q.c4] 32))) (HOK.out.below ((Below.refl _ _).alloc (Nat.le_refl _) _)) (by simp; omega) hown6 hgrow6 hloc6; have HP6 := Lib.hid hP6.1.swap; have HB6 := Lib.hid hP6.2; clear hP6 hown6 hgrow6 hloc6))
              have hB6 : Below W1.heap.size w5 w6 := (hB3.alloc (by omega) _).trans HB6.out
              have HSH2 : Hid (Short (L5 ++ [(q.a4, q.c4, x.kids)])) := Lib.hid (HSH.out.push hfk)
              have HK52 : Hid (ksOf (L5 ++ [(q.a4, q.c4, x.kids)]) = t.nodes.flatMap (·.types) ++ (t.types.take (k + 1)).flatMap (·.kids)) := Lib.hid (by
                rw [ksOf_push, HK5.out, HTK.out, List.flatMap_append]
                simp)
              go_roundw
              case rel => exact ⟨k + 1, _, by omega, by go_num, by rw [List.length_append, HL5.out]; simp; omega, HP6, HSH2, HK52, HTO2, hB6⟩
              case measure => simp [intOf]; omega
            · have hdk : decide (∀ z ∈ x.kids, 0 ≤ z ∧ z < (k : Int)) = false := decide_eq_false hKK
              rw [hdk] at kK
              have HF := Lib.hid (HBadK.out hKK)
              clear hdk
              go_wp2_with (go_at_call 22; (with_reducible refine kK.mono ?_); rintro e w4 ⟨rfl, rfl⟩)
              go_ret
              exact ⟨ret_bool HF.out.symm, hB3w⟩
        · obtain rfl : k = t.types.length := by omega
          rw [List.take_length] at HK5
          have HX6 := Lib.hid (HXE.out.below hBr hwB)
          have hB6 := hBw
          have hz6 := hzB
          have HT6 := HTW
          have HSH6 := HSH
          obtain ⟨w6, hw6⟩ : ∃ w6, w6 = wr := ⟨wr, rfl⟩
          rw [← hw6] at HT6 HX6 hB6 hz6
          have x2 := HX6.out.cell 2
          simp only [List.getElem?_toArray, List.getElem?_cons_zero, List.getElem?_cons_succ] at x2
          rw [hw6] at x2
          clear HTW HSH hBr hzB hBw hlt
          go_wp2
          go_loopw [4, 10, 103] (fun v4 _ i wr => ∃ (k : Nat) (L6 : List RowP), k ≤ t.aliases.length ∧ i = .int .i64 k ∧ L6.length ≤ 2000 + k ∧ Hid (TwoR wr W1.heap.size u3 v4 L3 L6) ∧ Hid (Short L6) ∧ Hid (ksOf L6 = (t.nodes.flatMap (·.types) ++ t.types.flatMap (·.kids)) ++ (t.aliases.take k).map (·.type)) ∧ Hid (AlisOk t k) ∧ Below W1.heap.size w6 wr) (fun _ _ i _ => t.aliases.length - (intOf i).toNat)
          case atStart => exact ⟨0, L5, Nat.zero_le _, rfl, by omega, hw6 ▸ HT6, HSH6, Lib.hid (by rw [HK5.out]; simp), Lib.hid (fun j x hj => by omega), by rw [hw6]; exact Below.refl _ _⟩
          case round =>
            clear hw6
            obtain ⟨k, L6, hk, rfl, hl6, HTW, HSH, HK6, HAO, hBr⟩ := hrel
            have hzB : W1.heap.size ≤ wr.heap.size := Nat.le_trans hz6 hBr.size
            have hBw : Below w.heap.size w wr := hB6.trans (hBr.mono (by omega))
            have hl6b : L6.length ≤ 4000 := by omega
            by_cases hlt : k < t.aliases.length

            · obtain ⟨b, off, rfl, hb, hcell⟩ := tA (by omega)
              have hget := List.getElem?_eq_getElem hlt
              have hcq := hcell k t.aliases[k] hget
              have htk : t.aliases.take (k + 1) = t.aliases.take k ++ [t.aliases[k]] := List.take_succ_eq_append_getElem hlt
              have hfew := HF3.out _ (List.getElem_mem hlt)
              obtain ⟨x, hx⟩ : ∃ x, t.aliases[k] = x := ⟨_, rfl⟩
              rw [hx] at hcq hfew htk hget
              have e0 := (hBw.cell (p := ⟨b, off + k * 3, none⟩) hb).trans (hcq 0 _ rfl)
              have e1 := (hBw.cell (p := ⟨b, off + k * 3 + 1, none⟩) hb).trans (hcq 1 _ rfl)
              have e2 := (hBw.cell (p := ⟨b, off + k * 3 + 2, none⟩) hb).trans (hcq 2 _ rfl)
              have HGET := Lib.hid hget
              have HTK := Lib.hid htk
              clear hcq hcell hx hget htk
              obtain ⟨Wn, hWn⟩ : ∃ Wn, wr.alloc (.cells #[.string x.name, .int .i64 x.type, .int .i64 x.pos] 55) = Wn := ⟨_, rfl⟩
              have hBn : Below wr.heap.size wr Wn := by rw [← hWn]; exact (Below.refl _ _).alloc (Nat.le_refl _) _
              have hXn : Blk Wn wr.heap.size 55 (aliCells x).toArray := by rw [← hWn]; exact Blk.new wr 55 _
              have hzn := hXn.lt
              have hszn : Wn.heap.size = wr.heap.size + 1 := by rw [← hWn]; simp
              have hBnB : Below W1.heap.size w6 Wn := hBr.trans (hBn.mono hzB)
              have hBnw : Below w.heap.size w Wn := hBw.trans (hBn.mono (by omega))
              have kT := ralias_any x.name hfew Wn
              have hbadT : aliasB (tl x.name) = false → r = false := fun h => by
                cases r
                · rfl
                · have := (HAL.out rfl k x hlt HGET.out).1
                  rw [h] at this
                  cases this
              have hbadK : ¬ InR [x.type] t.types.length → r = false := fun h => by
                cases r
                · rfl
                · exact absurd (HAL.out rfl k x hlt HGET.out).2 h
              obtain ⟨Bt, hBt⟩ : ∃ Bt, aliasB (tl x.name) = Bt := ⟨_, rfl⟩
              rw [hBt] at kT hbadT
              have HBT := Lib.hid hBt
              have HBadT := Lib.hid hbadT
              have HBadK := Lib.hid hbadK
              have HTWn := Lib.hid (HTW.out.below hBn)
              have p0 := hXn.cell 0
              have p1 := hXn.cell 1
              have p1' := (hXn.alloc (.cells #[.int .i64 x.type] 3)).cell 1
              have s1 := ((HX6.out.below hBnB hwB).alloc (.cells #[.int .i64 x.type] 3)).cell 1
              unfold aliCells at p0 p1 p1'
              simp only [List.getElem?_toArray, List.getElem?_cons_zero, List.getElem?_cons_succ] at p0 p1 p1' s1
              have kK := rbelow_any (some ⟨Wn.heap.size, 0, none⟩) 1 [x.type] (t.types.length : Int) (Wn.alloc (.cells #[.int .i64 x.type] 3)) (rd_one _ _ _) (by simp)
              simp only [List.length_cons, List.length_nil, Nat.zero_add] at kK
              have HOK : Hid (RowOk W1.heap.size ((Wn.alloc (.cells #[.int .i64 x.type] 3)).alloc (.cells #[.int .i64 x.type] 3)) (some ⟨Wn.heap.size + 1, 0, none⟩, 1, [x.type])) := Lib.hid (by
                have h := RowOk.one (B := W1.heap.size) (W := Wn.alloc (.cells #[.int .i64 x.type] 3)) x.type
                rwa [World.size_alloc] at h)
              clear hbadT hbadK hBt hXn hfew hszn
              cases Bt
              · have HF := Lib.hid (HBadT.out rfl)
                go_wp2_with (go_at_call 24; (with_reducible refine kT.mono ?_); rintro e w4 ⟨rfl, rfl⟩)
                go_ret
                exact ⟨ret_bool HF.out.symm, hBnw⟩
              · by_cases hKK : InR [x.type] t.types.length
                · have hdk : decide (∀ z ∈ [x.type], 0 ≤ z ∧ z < (t.types.length : Int)) = true := decide_eq_true hKK
                  rw [hdk] at kK
                  have HAO2 := Lib.hid (alisOk_step HAO.out HGET.out HBT.out hKK)
                  obtain ⟨A4, d4, hv4⟩ := own_form HTWn.out.o4
                  subst hv4
                  have hznB : W1.heap.size ≤ Wn.heap.size := by omega
                  clear hdk hKK
                  go_wp2_with (first
                    | (go_at_call 24; (with_reducible refine kT.mono ?_); rintro e w4 ⟨rfl, rfl⟩)
                    | (go_at_call 22; (with_reducible refine kK.mono ?_); rintro e w4 ⟨rfl, rfl⟩)
                    | (at_builtin; refine wpList_app _ rfl _ _ 56 rfl W1.heap.size 32 i0 (.slice none 0 0) 1 24 Tryz.underlying56 hi hz0 hz1 hz2 rfl (by decide) (.slice A4 L6.length d4) L6.length (L6.map rowV) (by rfl) (((HTWn.out.o4.alloc _).alloc _).alloc _) (some ⟨((Wn.alloc (.cells #[.int .i64 x.type] 3)).alloc (.cells #[.int .i64 x.type] 3)).heap.size, 0, none⟩) 1 1 [.slice (some ⟨Wn.heap.size + 1, 0, none⟩) 1 1] (by simp [Act.eval]) rfl (rd_one _ _ _) (by intro u hu; simp at hu; subst hu; rfl) (by unfold maxLen; omega) (by omega) (by simp; omega) ?_; intro v6 w7 hown6 hgrow6 hloc6; have hP6 := TwoR.push (x := (some ⟨Wn.heap.size + 1, 0, none⟩, 1, [x.type])) (((HTWn.out.swap.below ((Below.refl _ _).alloc (Nat.le_refl _) (.cells #[.int .i64 x.type] 3))).below ((Below.refl _ _).alloc (Nat.le_refl _) (.cells #[.int .i64 x.type] 3))).below ((Below.refl _ _).alloc (Nat.le_refl _) (.cells #[.slice (some ⟨Wn.heap.size + 1, 0, none⟩) 1 1] 32))) (HOK.out.below ((Below.refl _ _).alloc (Nat.le_refl _) _)) (by simp; omega) hown6 hgrow6 hloc6; have HP6 := Lib.hid hP6.1.swap; have HB6 := Lib.hid hP6.2; clear hP6 hown6 hgrow6 hloc6))
                  have hB7 : Below W1.heap.size w6 w7 := (((hBnB.alloc (by omega) (.cells #[.int .i64 x.type] 3)).alloc (by simp; omega) (.cells #[.int .i64 x.type] 3)).alloc (by simp; omega) (.cells #[.slice (some ⟨Wn.heap.size + 1, 0, none⟩) 1 1] 32)).trans HB6.out
                  have HSH2 : Hid (Short (L6 ++ [(some ⟨Wn.heap.size + 1, 0, none⟩, 1, [x.type])])) := Lib.hid (HSH.out.push (by simp))
                  have HK62 : Hid (ksOf (L6 ++ [(some ⟨Wn.heap.size + 1, 0, none⟩, 1, [x.type])]) = (t.nodes.flatMap (·.types) ++ t.types.flatMap (·.kids)) ++ (t.aliases.take (k + 1)).map (·.type)) := Lib.hid (by
                    rw [ksOf_push, HK6.out, HTK.out, List.map_append]
                    simp)
                  go_roundw
                  case rel => exact ⟨k + 1, _, by omega, by go_num, by simp; omega, HP6, HSH2, HK62, HAO2, hB7⟩
                  case measure => simp [intOf]; omega
                · have hdk : decide (∀ z ∈ [x.type], 0 ≤ z ∧ z < (t.types.length : Int)) = false := decide_eq_false hKK
                  rw [hdk] at kK
                  have HF := Lib.hid (HBadK.out hKK)
                  have hBf := hBnw.alloc (by have := hBnw.size; omega) (.cells #[.int .i64 x.type] 3)
                  clear hdk
                  go_wp2_with (first
                    | (go_at_call 24; (with_reducible refine kT.mono ?_); rintro e w4 ⟨rfl, rfl⟩)
                    | (go_at_call 22; (with_reducible refine kK.mono ?_); rintro e w4 ⟨rfl, rfl⟩))
                  go_ret
                  exact ⟨ret_bool HF.out.symm, hBf⟩
            · obtain rfl : k = t.aliases.length := by omega
              rw [List.take_length] at HK6
              obtain ⟨A3, d3, hv3, hR3⟩ := HTW.out.rows
              obtain ⟨A4, d4, hv4, hR4⟩ := HTW.out.swap.rows
              subst hv3
              subst hv4
              have kU := uses_any t.nodes.length A3 d3 (L3.map fun x => x.2.2) wr hR3 F5 (by rw [List.length_map]; omega) (fun row hrow => by
                obtain ⟨x, hx, rfl⟩ := List.mem_map.1 hrow
                exact HSH0.out.1 x hx)
              have hfl : (L3.map fun x => x.2.2).flatten = ((t.nodes.length - 1 : Nat) : Int) :: kidsAll t := by have h := HKS.out.1; exact h
              rw [List.length_map, hfl] at kU
              have HFIN : Hid (r = true ↔ Ones t.nodes.length (((t.nodes.length - 1 : Nat) : Int) :: kidsAll t) ∧ Ones t.types.length (usesAll t)) := Lib.hid (by
                have h := HFin.out HNO.out HTO.out HAO.out
                rwa [HR.out] at h)
              have hfl6 : ksOf L6 = usesAll t := by
                rw [HK6.out]
                unfold usesAll
                rw [List.append_assoc]
              have HFL6 := Lib.hid hfl6
              have HR4 := Lib.hid hR4
              have HSH6' := HSH
              have hx0 := ((HX6.out.below hBr hwB).cell 0)
              simp only [List.getElem?_toArray, List.getElem?_cons_zero] at hx0
              have HXX := Lib.hid (HX6.out.below hBr hwB)
              clear hlt hfl hfl6 hR3 hR4
              rw [hl3] at kU
              obtain ⟨us, hus⟩ : ∃ us, ticks (List.replicate t.nodes.length 0) (((t.nodes.length - 1 : Nat) : Int) :: kidsAll t) = us := ⟨_, rfl⟩
              have hul : us.length = t.nodes.length := by rw [← hus, ticks_len]; simp
              have hone := ones_iff t.nodes.length (((t.nodes.length - 1 : Nat) : Int) :: kidsAll t)
              rw [hus] at kU hone
              have HONE := Lib.hid hone
              have HUL := Lib.hid hul
              clear hus hone hul
              go_wp2_with fail
              refine kU.mono ?_
              rintro e w7 ⟨rfl, hX7, hb7⟩
              have hB7w : Below w.heap.size w w7 := hBw.trans (hb7.mono (by omega))
              have HX7 := Lib.hid hX7
              have HXX7 := Lib.hid (HXX.out.below hb7 (by omega))
              have hTW7 := HTW.out.below hb7
              have HTW7 := Lib.hid hTW7
              clear kU hX7 hTW7 hx0
              go_wp2
              go_loop [12, 134] (fun _ i => ∃ k : Nat, k ≤ t.nodes.length ∧ i = .int .i64 k ∧ Hid (∀ u ∈ us.take k, u = 1)) (fun _ i => t.nodes.length - (intOf i).toNat)
              case atStart => exact ⟨0, Nat.zero_le _, rfl, Lib.hid (by simp)⟩
              case round =>
                obtain ⟨k, hk, rfl, HU⟩ := hrel
                by_cases hlt : k < t.nodes.length
                · have hku : k < us.length := by rw [HUL.out]; exact hlt
                  have e1 := (HX7.out.cell k).trans (ivs_get _ _ hku)
                  have htk : us.take (k + 1) = us.take k ++ [us[k]] := List.take_succ_eq_append_getElem hku
                  have hbad : us[k] ≠ 1 → r = false := fun h => by
                    cases r
                    · rfl
                    · exact absurd (HONE.out.2 (HFIN.out.1 rfl).1 _ (List.getElem_mem hku)) h
                  obtain ⟨u, hu⟩ : ∃ u, us[k] = u := ⟨_, rfl⟩
                  rw [hu] at e1 htk hbad
                  have HTK := Lib.hid htk
                  have HBD := Lib.hid hbad
                  have i1 : (0 : Int) ≤ (k : Int) := by omega
                  have i2 : (k : Int) < (t.nodes.length : Int) := by omega
                  clear hu htk hbad hku
                  by_cases h1u : u = 1
                  · have d4' : (u != 1) = false := by rw [h1u]; rfl
                    have HU1 : Hid (∀ v ∈ us.take (k + 1), v = 1) := Lib.hid fun v hv => by
                      rw [HTK.out] at hv
                      rcases List.mem_append.1 hv with hv | hv
                      · exact HU.out v hv
                      · simp only [List.mem_singleton] at hv; subst hv; exact h1u
                    clear h1u
                    go_wp2
                    go_round
                    case rel => exact ⟨k + 1, by omega, by go_num, HU1⟩
                    case measure => simp [intOf]; omega
                  · have d4' : (u != 1) = true := by rw [bne_iff_ne]; exact h1u
                    have HF := Lib.hid (HBD.out h1u)
                    clear h1u
                    go_wp2
                    go_ret
                    exact ⟨ret_bool HF.out.symm, hB7w⟩
                · obtain rfl : k = t.nodes.length := by omega
                  have hO1 : Ones t.nodes.length (((t.nodes.length - 1 : Nat) : Int) :: kidsAll t) := HONE.out.1 fun u hu => HU.out u (by rw [← HUL.out, List.take_length]; exact hu)
                  have HFI2 : Hid (r = true ↔ Ones t.types.length (usesAll t)) := Lib.hid ⟨fun h => (HFIN.out.1 h).2, fun h => HFIN.out.2 ⟨hO1, h⟩⟩
                  obtain ⟨A4', d4', hv4', hR4'⟩ := HTW7.out.swap.rows
                  injection hv4' with g1 g2 g3
                  subst g1
                  subst g3
                  have kU := uses_any t.types.length A4 d4 (L6.map fun x => x.2.2) w7 hR4' F6 (by rw [List.length_map]; omega) (fun row hrow => by
                    obtain ⟨x, hx, rfl⟩ := List.mem_map.1 hrow
                    exact HSH6'.out x hx)
                  have hfl : (L6.map fun x => x.2.2).flatten = usesAll t := HFL6.out
                  rw [List.length_map, hfl] at kU
                  have hx1 := HXX7.out.cell 1
                  simp only [List.getElem?_toArray, List.getElem?_cons_zero, List.getElem?_cons_succ] at hx1
                  obtain ⟨us2, hus⟩ : ∃ us2, ticks (List.replicate t.types.length 0) (usesAll t) = us2 := ⟨_, rfl⟩
                  have hul : us2.length = t.types.length := by rw [← hus, ticks_len]; simp
                  have hone := ones_iff t.types.length (usesAll t)
                  rw [hus] at kU hone
                  have HONE2 := Lib.hid hone
                  have HUL2 := Lib.hid hul
                  clear hus hone hul hfl hO1 hR4' HU hlt
                  go_wp2_with fail
                  refine kU.mono ?_
                  rintro e w8 ⟨rfl, hX8, hb8⟩
                  have hB8w : Below w.heap.size w w8 := hB7w.trans (hb8.mono hB7w.size)
                  have HX8 := Lib.hid hX8
                  clear kU hX8 hx1 hb8
                  go_wp2
                  go_loop [14, 147] (fun _ i => ∃ k : Nat, k ≤ t.types.length ∧ i = .int .i64 k ∧ Hid (∀ u ∈ us2.take k, u = 1)) (fun _ i => t.types.length - (intOf i).toNat)
                  case atStart => exact ⟨0, Nat.zero_le _, rfl, Lib.hid (by simp)⟩
                  case round =>
                    obtain ⟨k, hk, rfl, HU⟩ := hrel
                    by_cases hlt : k < t.types.length
                    · have hku : k < us2.length := by rw [HUL2.out]; exact hlt
                      have e1 := (HX8.out.cell k).trans (ivs_get _ _ hku)
                      have htk : us2.take (k + 1) = us2.take k ++ [us2[k]] := List.take_succ_eq_append_getElem hku
                      have hbad : us2[k] ≠ 1 → r = false := fun h => by
                        cases r
                        · rfl
                        · exact absurd (HONE2.out.2 (HFI2.out.1 rfl) _ (List.getElem_mem hku)) h
                      obtain ⟨u, hu⟩ : ∃ u, us2[k] = u := ⟨_, rfl⟩
                      rw [hu] at e1 htk hbad
                      have HTK := Lib.hid htk
                      have HBD := Lib.hid hbad
                      have i1 : (0 : Int) ≤ (k : Int) := by omega
                      have i2 : (k : Int) < (t.types.length : Int) := by omega
                      clear hu htk hbad hku
                      by_cases h1u : u = 1
                      · have d5 : (u != 1) = false := by rw [h1u]; rfl
                        have HU1 : Hid (∀ v ∈ us2.take (k + 1), v = 1) := Lib.hid fun v hv => by
                          rw [HTK.out] at hv
                          rcases List.mem_append.1 hv with hv | hv
                          · exact HU.out v hv
                          · simp only [List.mem_singleton] at hv; subst hv; exact h1u
                        clear h1u
                        go_wp2
                        go_round
                        case rel => exact ⟨k + 1, by omega, by go_num, HU1⟩
                        case measure => simp [intOf]; omega
                      · have d5 : (u != 1) = true := by rw [bne_iff_ne]; exact h1u
                        have HF := Lib.hid (HBD.out h1u)
                        clear h1u
                        go_wp2
                        go_ret
                        exact ⟨ret_bool HF.out.symm, hB8w⟩
                    · obtain rfl : k = t.types.length := by omega
                      have HF : Hid (r = true) := Lib.hid (HFI2.out.2 (HONE2.out.1 fun u hu => HU.out u (by rw [← HUL2.out, List.take_length]; exact hu)))
                      go_wp2
                      go_ret
                      exact ⟨ret_bool HF.out.symm, hB8w⟩

theorem right_any (t : TreeD) (p : Ptr6) (w : World) (hT : TreeAt (Lt w.heap.size) w t p) (hF : TreeFew t) (hI : ∀ x ∈ t.nodes, x.int ≤ 9223372036854775807) :
    Calls Tryz.prog 7 #[treeV t p] w fun e w' => e = .returned (.bool (checkF t)) ∧ Below w.heap.size w w' := by
  by_cases h0 : t.nodes.length = 0
  · exact right_none t p w h0
  · exact right_some t p w hT hF hI (by omega)
end Go.Proofs.YtinajnkjfhbmkaaGreatDoor

namespace Go.Proofs.YtinajnkjfhbmkaaGreatDoor
open Go Go.Proofs Go.RowKit

set_option maxRecDepth 100000 in
set_option maxHeartbeats 4000000 in
theorem rdepthY_any (t : TreeD) (p : Ptr6) (hW : Whole t) (hF : TreeFew t) : ∀ (b i : Nat), i < b → i < t.types.length → ∀ (w : World), TreeAt (Lt w.heap.size) w t p →
    Calls Tryz.prog 44 #[treeV t p, .int .i64 (i : Int)] w fun e w' => e = .returned (.int .i64 (dTy t i : Nat)) ∧ Below w.heap.size w w'
  | 0, _, h, _, _, _ => by omega
  | b + 1, i, hb, hi, w, hT => by
    have IH := Lib.hid (fun (j : Nat) (hj : j < b) (hjn : j < t.types.length) (W : World) (hTW : TreeAt (Lt W.heap.size) W t p) => rdepthY_any t p hW hF b j hj hjn W hTW)
    obtain ⟨a1, c1, a2, c2, a3, c3⟩ := p
    obtain ⟨tN, tT, tA⟩ := id hT
    dsimp only at tN tT tA
    have f5 : t.nodes.length ≤ 1000 := hF.2.2.2.2.1
    have f6 : t.types.length ≤ 1000 := hF.2.2.2.2.2
    have f4 : t.aliases.length ≤ 1000 := hF.2.2.2.1
    obtain ⟨W1, hW1⟩ : ∃ W1, w.alloc (.cells #[.slice a1 t.nodes.length c1, .slice a2 t.types.length c2, .slice a3 t.aliases.length c3] 26) = W1 := ⟨_, rfl⟩
    have hB1 : Below w.heap.size w W1 := by rw [← hW1]; exact (Below.refl _ _).alloc (Nat.le_refl _) _
    have hX : Blk W1 w.heap.size 26 #[.slice a1 t.nodes.length c1, .slice a2 t.types.length c2, .slice a3 t.aliases.length c3] := by rw [← hW1]; exact Blk.new w 26 _
    have hzX : w.heap.size < W1.heap.size := hX.lt
    have x0 := hX.cell 0
    have x1 := hX.cell 1
    have x2 := hX.cell 2
    simp only [List.getElem?_toArray, List.getElem?_cons_zero, List.getElem?_cons_succ] at x0 x1 x2
    have HX := Lib.hid hX
    have HT := Lib.hid hT
    obtain ⟨bb, off, rfl, hbb, hcell⟩ := tT (by omega)
    have hx := List.getElem?_eq_getElem hi
    obtain ⟨⟨qa3, qc3, qa4, qc4⟩, hq, hcq⟩ := hcell i _ hx
    have hfew := hF.2.1 _ (List.getElem_mem hi)
    have hD := dTy_eq hW.rng i hi
    have hrg := (hW.rng.typ i _ hx).1
    have hle : ∀ z ∈ t.types[i].kids, dTy t z.toNat ≤ 2000 := fun z hz => by
      have := hrg z hz
      have := dTy_le hW.rng z.toNat (by omega)
      omega
    obtain ⟨x, hx'⟩ : ∃ x, t.types[i] = x := ⟨_, rfl⟩
    rw [hx'] at hq hcq hfew hD hrg hle
    have e4 : W1.cell? ⟨bb, off + i * 6 + 4, none⟩ = some (.slice qa4 x.kids.length qc4) := (hB1.cell (p := ⟨bb, off + i * 6 + 4, none⟩) hbb).trans (hcq 4 _ rfl)
    have HK : Hid (SlAt (Lt w.heap.size) w qa4 x.kids.length (x.kids.map iv)) := Lib.hid hq.2
    have hkl := hfew.2.2.2
    obtain ⟨DD, hDD⟩ : ∃ DD, dTy t i = DD := ⟨_, rfl⟩
    rw [hDD] at hD ⊢
    have HD := Lib.hid hD
    have HRG := Lib.hid hrg
    have HLE := Lib.hid hle
    have i1 : (0 : Int) ≤ (i : Int) := by omega
    have i2 : (i : Int) < (t.types.length : Int) := by omega
    clear hX hT hcell hcq hq hx hx' hfew hD hDD hrg hle tN tA
    go_enter Tryz.func44, Tryz.ntmps44
    go_wp2
    clear hW1
    go_loopw [5, 7, 15] (fun v _ k0 wr => ∃ (k : Nat), k ≤ x.kids.length ∧ k0 = .int .i64 k ∧ v = .int .i64 (most ((x.kids.take k).map fun z => dTy t z.toNat) : Nat) ∧ Below W1.heap.size W1 wr) (fun _ _ k0 _ => x.kids.length - (intOf k0).toNat)
    case atStart => exact ⟨0, Nat.zero_le _, rfl, rfl, Below.refl _ _⟩
    case round =>
      obtain ⟨k, hk, rfl, rfl, hB⟩ := hrel
      have hBw : Below w.heap.size w wr := hB1.trans (hB.mono (by omega))
      have hmb : most ((x.kids.take k).map fun z => dTy t z.toNat) ≤ 2000 := most_of_le fun a ha => by
        obtain ⟨z, hz, rfl⟩ := List.mem_map.1 ha
        exact HLE.out z (List.mem_of_mem_take hz)
      by_cases hlt : k < x.kids.length
      · obtain ⟨b2, off2, rfl, f1⟩ := rd_at (RdAt.of_sl (HK.out.keep (keep_below hBw))) hlt
        have hz1 := HRG.out _ (List.getElem_mem hlt)
        have hz2 := HLE.out _ (List.getElem_mem hlt)
        have hT2 := most_take (fun z => dTy t z.toNat) x.kids k hlt
        obtain ⟨z, hz⟩ : ∃ z, x.kids[k] = z := ⟨_, rfl⟩
        rw [hz] at f1 hz1 hz2 hT2
        obtain ⟨j, hj⟩ : ∃ j : Nat, z = (j : Int) := ⟨z.toNat, by omega⟩
        subst hj
        rw [Int.toNat_natCast] at hz2 hT2
        have hXr := HX.out.below hB hzX
        have y0 := hXr.cell 0
        have y1 := hXr.cell 1
        have y2 := hXr.cell 2
        simp only [List.getElem?_toArray, List.getElem?_cons_zero, List.getElem?_cons_succ] at y0 y1 y2
        have kI := IH.out j (by omega) (by omega) wr (tree_up HT.out hBw)
        unfold treeV at kI
        dsimp only at kI
        obtain ⟨Dj, hDj⟩ : ∃ Dj, dTy t j = Dj := ⟨_, rfl⟩
        obtain ⟨M, hM⟩ : ∃ M, most ((x.kids.take k).map fun z => dTy t z.toNat) = M := ⟨_, rfl⟩
        rw [hDj] at kI hz2 hT2
        rw [hM] at hT2 hmb ⊢
        have HT2 := Lib.hid hT2
        clear hDj hM hT2 hz hXr hz1 hi
        go_wp2_with (go_at_call 44; (with_reducible refine kI.mono ?_); rintro e w4 ⟨rfl, hb4⟩; have hB4 := hB.trans (hb4.mono (by have := hB.size; omega)); clear hb4)
        go_roundw
        case rel => exact ⟨k + 1, by omega, by go_num, by rw [HT2.out]; go_num, hB4⟩
        case measure => simp [intOf]; omega
      · obtain rfl : k = x.kids.length := by omega
        rw [List.take_length] at hmb ⊢
        obtain ⟨M, hM⟩ : ∃ M, most (x.kids.map fun z => dTy t z.toNat) = M := ⟨_, rfl⟩
        have hfin : DD = 1 + M := by rw [HD.out, hM]
        rw [hM] at hmb ⊢
        have HFI := Lib.hid hfin
        clear hM hi hfin
        go_wp2
        go_ret
        exact ⟨ret_int (by have := HFI.out; omega), hBw⟩

set_option maxRecDepth 100000 in
set_option maxHeartbeats 4000000 in
theorem rwalk_any (t : TreeD) (p : Ptr6) (hW : Whole t) (hF : TreeFew t) : ∀ (b i : Nat), i < b → i < t.nodes.length → ∀ (w : World), TreeAt (Lt w.heap.size) w t p →
    Calls Tryz.prog 13 #[treeV t p, .int .i64 (i : Int)] w (CopyPost w (walk (tmK t) i).length ((nz (walk (tmK t) i)).map iv))
  | 0, _, h, _, _, _ => by omega
  | b + 1, i, hb, hi, w, hT => by
    obtain ⟨i0, hi0, hz0, hz1, hz2⟩ := info_parts info3
    have IH := Lib.hid (fun (j : Nat) (hj : j < b) (hjn : j < t.nodes.length) (W : World) (hTW : TreeAt (Lt W.heap.size) W t p) => rwalk_any t p hW hF b j hj hjn W hTW)
    obtain ⟨a1, c1, a2, c2, a3, c3⟩ := p
    obtain ⟨tN, tT, tA⟩ := id hT
    dsimp only at tN tT tA
    have f5 : t.nodes.length ≤ 1000 := hF.2.2.2.2.1
    have f6 : t.types.length ≤ 1000 := hF.2.2.2.2.2
    have f4 : t.aliases.length ≤ 1000 := hF.2.2.2.1
    obtain ⟨W1, hW1⟩ : ∃ W1, w.alloc (.cells #[.slice a1 t.nodes.length c1, .slice a2 t.types.length c2, .slice a3 t.aliases.length c3] 26) = W1 := ⟨_, rfl⟩
    have hB1 : Below w.heap.size w W1 := by rw [← hW1]; exact (Below.refl _ _).alloc (Nat.le_refl _) _
    have hX : Blk W1 w.heap.size 26 #[.slice a1 t.nodes.length c1, .slice a2 t.types.length c2, .slice a3 t.aliases.length c3] := by rw [← hW1]; exact Blk.new w 26 _
    have hzX : w.heap.size < W1.heap.size := hX.lt
    have x0 := hX.cell 0
    have x1 := hX.cell 1
    have x2 := hX.cell 2
    simp only [List.getElem?_toArray, List.getElem?_cons_zero, List.getElem?_cons_succ] at x0 x1 x2
    have HX := Lib.hid hX
    have HT := Lib.hid hT
    obtain ⟨bb, off, rfl, hbb, hcell⟩ := tN (by omega)
    have hx := List.getElem?_eq_getElem hi
    obtain ⟨⟨qa5, qc5, qa6, qc6, qa7, qc7⟩, hq, hcq⟩ := hcell i _ hx
    have hfew := hF.1 _ (List.getElem_mem hi)
    obtain ⟨n1, n2⟩ := nz_tmK hW.rng hx
    have hWe := walk_eq hW.rng.dnN hi
    have hwl := hW.walkN hi
    have hdn := hW.rng.dnN i hi
    obtain ⟨x, hx'⟩ : ∃ x, t.nodes[i] = x := ⟨_, rfl⟩
    rw [hx'] at hq hcq hfew n1 n2
    obtain ⟨ks, hks⟩ : ∃ ks, tmK t i = ks := ⟨_, rfl⟩
    rw [hks] at n1 n2 hWe hdn
    have e6 : W1.cell? ⟨bb, off + i * 8 + 6, none⟩ = some (.slice qa6 ks.length qc6) := by
      rw [n2]
      exact (hB1.cell (p := ⟨bb, off + i * 8 + 6, none⟩) hbb).trans (hcq 6 _ rfl)
    have HK : Hid (SlAt (Lt w.heap.size) w qa6 ks.length ((nz ks).map iv)) := Lib.hid (by rw [n1, n2]; exact hq.2.1)
    have hkl : ks.length ≤ 1000 := by rw [n2]; exact hfew.2.2.2.1
    have hsubl : ∀ k, k ≤ ks.length → (i :: (ks.take k).flatMap (walk (tmK t))).length ≤ 1000 := fun k hk => by
      have h1 : (i :: ks.flatMap (walk (tmK t))).length ≤ 1000 := by rw [← hWe]; omega
      have h2 : ks.flatMap (walk (tmK t)) = (ks.take k).flatMap (walk (tmK t)) ++ (ks.drop k).flatMap (walk (tmK t)) := by rw [← List.flatMap_append, List.take_append_drop]
      rw [h2] at h1
      simp only [List.length_cons, List.length_append] at h1 ⊢
      omega
    obtain ⟨WL, hWL⟩ : ∃ WL, walk (tmK t) i = WL := ⟨_, rfl⟩
    rw [hWL] at hWe ⊢
    have HWE := Lib.hid hWe
    have HDN := Lib.hid hdn
    have HSL := Lib.hid hsubl
    have i1 : (0 : Int) ≤ (i : Int) := by omega
    have i2 : (i : Int) < (t.nodes.length : Int) := by omega
    have hXa := hX.alloc (.cells #[.int .i64 (i : Int)] 3)
    have z0 := hXa.cell 0
    have z1 := hXa.cell 1
    have z2 := hXa.cell 2
    simp only [List.getElem?_toArray, List.getElem?_cons_zero, List.getElem?_cons_succ] at z0 z1 z2
    have e6' : (W1.alloc (.cells #[.int .i64 (i : Int)] 3)).cell? ⟨bb, off + i * 8 + 6, none⟩ = some (.slice qa6 ks.length qc6) := by
      have hlt : bb < W1.heap.size := Nat.lt_of_lt_of_le hbb hB1.size
      rw [World.cell?_alloc_lt _ _ _ hlt]
      exact e6
    have hO0 : (W1.alloc (.cells #[.int .i64 (i : Int)] 3)).ownsRow W1.heap.size 3 1 (.slice (some ⟨W1.heap.size, 0, none⟩) 1 1) 1 [.int .i64 (i : Int)] :=
      ⟨rfl, .inr ⟨W1.heap.size, 1, #[.int .i64 (i : Int)], rfl, Nat.le_refl _, Blk.new W1 3 _, Nat.le_refl _, by decide, rfl, rfl⟩⟩
    have HO0 := Lib.hid hO0
    have hBa : Below W1.heap.size W1 (W1.alloc (.cells #[.int .i64 (i : Int)] 3)) := (Below.refl _ _).alloc (Nat.le_refl _) _
    clear hX hXa hO0 hT hcell hcq hq hx hx' hfew hWe hdn hsubl n1 n2 hks hWL tT tA hwl
    go_enter Tryz.func13, Tryz.ntmps13
    go_wp2
    clear hW1
    go_loopw [5, 7, 17] (fun v _ k0 wr => ∃ (k : Nat), k ≤ ks.length ∧ k0 = .int .i64 k ∧ Hid (wr.ownsRow W1.heap.size 3 1 v (i :: (ks.take k).flatMap (walk (tmK t))).length ((nz (i :: (ks.take k).flatMap (walk (tmK t)))).map iv)) ∧ Below W1.heap.size W1 wr) (fun _ _ k0 _ => ks.length - (intOf k0).toNat)
    case atStart => exact ⟨0, Nat.zero_le _, rfl, Lib.hid (by simpa using HO0.out), hBa⟩
    case round =>
      obtain ⟨k, hk, rfl, HO, hB⟩ := hrel
      have hBw : Below w.heap.size w wr := hB1.trans (hB.mono (by omega))
      by_cases hlt : k < ks.length
      · obtain ⟨b2, off2, rfl, f1⟩ := nz_at (RdAt.of_sl (HK.out.keep (keep_below hBw))) hlt
        have hjl := HDN.out _ (List.getElem_mem hlt)
        have hll := HSL.out k hk
        have hll2 := HSL.out (k + 1) hlt
        have hfl : (ks.take (k + 1)).flatMap (walk (tmK t)) = (ks.take k).flatMap (walk (tmK t)) ++ walk (tmK t) ks[k] := by rw [List.take_succ_eq_append_getElem hlt, List.flatMap_append]; simp
        obtain ⟨j, hj⟩ : ∃ j, ks[k] = j := ⟨_, rfl⟩
        rw [hj] at f1 hjl hfl
        have kI := IH.out j (by omega) (by omega) wr (tree_up HT.out hBw)
        unfold treeV at kI
        dsimp only at kI
        obtain ⟨Lj, hLj⟩ : ∃ Lj, walk (tmK t) j = Lj := ⟨_, rfl⟩
        rw [hLj] at kI hfl
        obtain ⟨R, hR⟩ : ∃ R, (ks.take k).flatMap (walk (tmK t)) = R := ⟨_, rfl⟩
        rw [hfl, hR] at hll2
        rw [hR] at HO hll hfl
        have hlj : (i :: R).length + Lj.length ≤ 1000 := by simp only [List.length_cons, List.length_append] at hll2 ⊢; omega
        obtain ⟨A5, d5, hv5⟩ := own_form HO.out
        subst hv5
        obtain ⟨m, hm⟩ : ∃ m, (i :: R).length = m := ⟨_, rfl⟩
        rw [hm] at HO hlj hll ⊢
        have HM := Lib.hid hm
        have HFL := Lib.hid hfl
        have hXr := HX.out.below hB hzX
        have y0 := hXr.cell 0
        have y1 := hXr.cell 1
        have y2 := hXr.cell 2
        simp only [List.getElem?_toArray, List.getElem?_cons_zero, List.getElem?_cons_succ] at y0 y1 y2
        clear hLj hR hfl hj hXr hjl hi hll2 z0 z1 z2 e6 e6' hm
        go_wp2_with fail
        refine kI.mono ?_
        rintro e w4 ⟨A7, c7, rfl, hS7, hb7⟩
        have hz7 := hb7.size
        have hzr := hB.size
        have hB4 := hB.trans (hb7.mono hzr)
        have HO4 := Lib.hid (own_below HO.out hb7)
        have HRD := Lib.hid (RdAt.of_sl hS7)
        have hnl : (nz Lj).length = Lj.length := List.length_map _
        clear kI hS7 hb7
        go_wp2_with (at_builtin; refine wpList_app _ rfl _ _ 32 rfl W1.heap.size 3 i0 (.int .i64 0) 1 8 Tryz.underlying32 hi0 hz0 hz1 hz2 rfl (by decide) (.slice A5 m d5) m ((nz (i :: R)).map iv) (by rfl) HO4.out A7 Lj.length c7 ((nz Lj).map iv) (by rfl) (by simp) HRD.out (by intro u hu; obtain ⟨s, _, rfl⟩ := List.mem_map.1 hu; rfl) (by unfold maxLen; omega) (by omega) (by omega) ?_; intro v' w5 hown5 hgrow5 hloc5; have hB5 := own_grown hB4 HO4.out hgrow5 (Nat.le_refl _) (by omega); clear hgrow5 hloc5)
        have HO5 : Hid (w5.ownsRow W1.heap.size 3 1 v' (i :: (ks.take (k + 1)).flatMap (walk (tmK t))).length ((nz (i :: (ks.take (k + 1)).flatMap (walk (tmK t)))).map iv)) := Lib.hid (by
          rw [HFL.out]
          refine ownIs hown5 ?_ ?_
          · have := HM.out
            simp only [List.length_cons, List.length_append] at this ⊢
            omega
          · simp)
        clear hown5
        go_roundw
        case rel => exact ⟨k + 1, by omega, by go_num, HO5, hB5⟩
        case measure => simp [intOf]; omega
      · obtain rfl : k = ks.length := by omega
        rw [List.take_length, ← HWE.out] at HO
        obtain ⟨A6, d6, hv6, _, hs6⟩ := SlAt.of_own HO.out
        subst hv6
        have HS6 := Lib.hid hs6
        clear hs6 HO z0 z1 z2 e6 e6' hi
        go_wp2
        go_ret
        exact ⟨A6, d6, rfl, HS6.out.imp fun b hb => ⟨by have := hb.1; omega, hb.2⟩, hBw⟩

set_option maxRecDepth 100000 in
set_option maxHeartbeats 4000000 in
theorem rdepthT_any (t : TreeD) (p : Ptr6) (hW : Whole t) (hF : TreeFew t) : ∀ (b i : Nat), i < b → i < t.nodes.length → ∀ (w : World), TreeAt (Lt w.heap.size) w t p →
    Calls Tryz.prog 43 #[treeV t p, .int .i64 (i : Int)] w fun e w' => e = .returned (.int .i64 (dTm t i : Nat)) ∧ Below w.heap.size w w'
  | 0, _, h, _, _, _ => by omega
  | b + 1, i, hb, hi, w, hT => by
    have IH := Lib.hid (fun (j : Nat) (hj : j < b) (hjn : j < t.nodes.length) (W : World) (hTW : TreeAt (Lt W.heap.size) W t p) => rdepthT_any t p hW hF b j hj hjn W hTW)
    have IHY := Lib.hid (fun (j : Nat) (hjn : j < t.types.length) (W : World) (hTW : TreeAt (Lt W.heap.size) W t p) => rdepthY_any t p hW hF (j + 1) j (by omega) hjn W hTW)
    obtain ⟨a1, c1, a2, c2, a3, c3⟩ := p
    obtain ⟨tN, tT, tA⟩ := id hT
    dsimp only at tN tT tA
    have f5 : t.nodes.length ≤ 1000 := hF.2.2.2.2.1
    have f6 : t.types.length ≤ 1000 := hF.2.2.2.2.2
    have f4 : t.aliases.length ≤ 1000 := hF.2.2.2.1
    obtain ⟨W1, hW1⟩ : ∃ W1, w.alloc (.cells #[.slice a1 t.nodes.length c1, .slice a2 t.types.length c2, .slice a3 t.aliases.length c3] 26) = W1 := ⟨_, rfl⟩
    have hB1 : Below w.heap.size w W1 := by rw [← hW1]; exact (Below.refl _ _).alloc (Nat.le_refl _) _
    have hX : Blk W1 w.heap.size 26 #[.slice a1 t.nodes.length c1, .slice a2 t.types.length c2, .slice a3 t.aliases.length c3] := by rw [← hW1]; exact Blk.new w 26 _
    have hzX : w.heap.size < W1.heap.size := hX.lt
    have x0 := hX.cell 0
    have x1 := hX.cell 1
    have x2 := hX.cell 2
    simp only [List.getElem?_toArray, List.getElem?_cons_zero, List.getElem?_cons_succ] at x0 x1 x2
    have HX := Lib.hid hX
    have HT := Lib.hid hT
    obtain ⟨bb, off, rfl, hbb, hcell⟩ := tN (by omega)
    have hx := List.getElem?_eq_getElem hi
    obtain ⟨⟨qa5, qc5, qa6, qc6, qa7, qc7⟩, hq, hcq⟩ := hcell i _ hx
    have hfew := hF.1 _ (List.getElem_mem hi)
    have hD := dTm_eq hW.rng i hi
    have hrg := (hW.rng.nod i _ hx).1
    have hrgY := (hW.rng.nod i _ hx).2.1
    have hle : ∀ z ∈ t.nodes[i].kids, dTm t z.toNat ≤ 2000 := fun z hz => by
      have := hrg z hz
      have := dTm_le hW.rng z.toNat (by omega)
      omega
    have hleY : ∀ z ∈ t.nodes[i].types, dTy t z.toNat ≤ 2000 := fun z hz => by
      have := hrgY z hz
      have := dTy_le hW.rng z.toNat (by omega)
      omega
    obtain ⟨x, hx'⟩ : ∃ x, t.nodes[i] = x := ⟨_, rfl⟩
    rw [hx'] at hq hcq hfew hD hrg hle hrgY hleY
    have e6 : W1.cell? ⟨bb, off + i * 8 + 6, none⟩ = some (.slice qa6 x.kids.length qc6) := (hB1.cell (p := ⟨bb, off + i * 8 + 6, none⟩) hbb).trans (hcq 6 _ rfl)
    have E7 : Hid (∀ V, Below W1.heap.size W1 V → V.cell? ⟨bb, off + i * 8 + 7, none⟩ = some (.slice qa7 x.types.length qc7)) := Lib.hid fun V hV => (hV.cell (p := ⟨bb, off + i * 8 + 7, none⟩) (Nat.lt_of_lt_of_le hbb hB1.size)).trans ((hB1.cell (p := ⟨bb, off + i * 8 + 7, none⟩) hbb).trans (hcq 7 _ rfl))
    have HK : Hid (SlAt (Lt w.heap.size) w qa6 x.kids.length (x.kids.map iv)) := Lib.hid hq.2.1
    have HKY : Hid (SlAt (Lt w.heap.size) w qa7 x.types.length (x.types.map iv)) := Lib.hid hq.2.2
    have hkl := hfew.2.2.2.1
    have hyl := hfew.2.2.2.2
    obtain ⟨DD, hDD⟩ : ∃ DD, dTm t i = DD := ⟨_, rfl⟩
    rw [hDD] at hD ⊢
    have HD := Lib.hid hD
    have HRG := Lib.hid hrg
    have HLE := Lib.hid hle
    have HRGY := Lib.hid hrgY
    have HLEY := Lib.hid hleY
    have i1 : (0 : Int) ≤ (i : Int) := by omega
    have i2 : (i : Int) < (t.nodes.length : Int) := by omega
    clear hX hT hcell hcq hq hx hx' hfew hD hDD hrg hle hrgY hleY tT tA
    go_enter Tryz.func43, Tryz.ntmps43
    go_wp2
    clear hW1
    go_loopw [5, 7, 17] (fun v _ k0 wr => ∃ (k : Nat), k ≤ x.kids.length ∧ k0 = .int .i64 k ∧ v = .int .i64 (most ((x.kids.take k).map fun z => dTm t z.toNat) : Nat) ∧ Below W1.heap.size W1 wr) (fun _ _ k0 _ => x.kids.length - (intOf k0).toNat)
    case atStart => exact ⟨0, Nat.zero_le _, rfl, rfl, Below.refl _ _⟩
    case round =>
      obtain ⟨k, hk, rfl, rfl, hB⟩ := hrel
      have hBw : Below w.heap.size w wr := hB1.trans (hB.mono (by omega))
      have hmb : most ((x.kids.take k).map fun z => dTm t z.toNat) ≤ 2000 := most_of_le fun a ha => by
        obtain ⟨z, hz, rfl⟩ := List.mem_map.1 ha
        exact HLE.out z (List.mem_of_mem_take hz)
      by_cases hlt : k < x.kids.length
      · obtain ⟨b2, off2, rfl, f1⟩ := rd_at (RdAt.of_sl (HK.out.keep (keep_below hBw))) hlt
        have hz1 := HRG.out _ (List.getElem_mem hlt)
        have hz2 := HLE.out _ (List.getElem_mem hlt)
        have hT2 := most_take (fun z => dTm t z.toNat) x.kids k hlt
        obtain ⟨z, hz⟩ : ∃ z, x.kids[k] = z := ⟨_, rfl⟩
        rw [hz] at f1 hz1 hz2 hT2
        obtain ⟨j, hj⟩ : ∃ j : Nat, z = (j : Int) := ⟨z.toNat, by omega⟩
        subst hj
        rw [Int.toNat_natCast] at hz2 hT2
        have hXr := HX.out.below hB hzX
        have y0 := hXr.cell 0
        have y1 := hXr.cell 1
        have y2 := hXr.cell 2
        simp only [List.getElem?_toArray, List.getElem?_cons_zero, List.getElem?_cons_succ] at y0 y1 y2
        have kI := IH.out j (by omega) (by omega) wr (tree_up HT.out hBw)
        unfold treeV at kI
        dsimp only at kI
        obtain ⟨Dj, hDj⟩ : ∃ Dj, dTm t j = Dj := ⟨_, rfl⟩
        obtain ⟨M, hM⟩ : ∃ M, most ((x.kids.take k).map fun z => dTm t z.toNat) = M := ⟨_, rfl⟩
        rw [hDj] at kI hz2 hT2
        rw [hM] at hT2 hmb ⊢
        have HT2 := Lib.hid hT2
        clear hDj hM hT2 hz hXr hz1 hi
        go_wp2_with (go_at_call 43; (with_reducible refine kI.mono ?_); rintro e w4 ⟨rfl, hb4⟩; have hB4 := hB.trans (hb4.mono (by have := hB.size; omega)); clear hb4)
        go_roundw
        case rel => exact ⟨k + 1, by omega, by go_num, by rw [HT2.out]; go_num, hB4⟩
        case measure => simp [intOf]; omega
      · obtain rfl : k = x.kids.length := by omega
        rw [List.take_length] at hmb ⊢
        obtain ⟨M1, hM1⟩ : ∃ M1, most (x.kids.map fun z => dTm t z.toNat) = M1 := ⟨_, rfl⟩
        have hfin : DD = 1 + max M1 (most (x.types.map fun z => dTy t z.toNat)) := by rw [HD.out, hM1]
        rw [hM1] at hmb ⊢
        have HFI := Lib.hid hfin
        have hXr := HX.out.below hB hzX
        have y0 := hXr.cell 0
        have y1 := hXr.cell 1
        have y2 := hXr.cell 2
        simp only [List.getElem?_toArray, List.getElem?_cons_zero, List.getElem?_cons_succ] at y0 y1 y2
        have e7 := E7.out wr hB
        have hB0 := hB
        have hM1b := hmb
        obtain ⟨wq, hwq⟩ : ∃ wq, wq = wr := ⟨wr, rfl⟩
        rw [← hwq] at hB0
        clear hM1 hi hfin hXr e6 x0 x1 x2 hmb hB hlt
        go_wp2
        go_loopw [5, 9, 34] (fun v _ k0 wr => ∃ (k : Nat), k ≤ x.types.length ∧ k0 = .int .i64 k ∧ v = .int .i64 (max M1 (most ((x.types.take k).map fun z => dTy t z.toNat)) : Nat) ∧ Below W1.heap.size W1 wr) (fun _ _ k0 _ => x.types.length - (intOf k0).toNat)
        case atStart => exact ⟨0, Nat.zero_le _, rfl, by simp [most], hwq ▸ hB0⟩
        case round =>
          clear y0 y1 y2 e7 hwq
          obtain ⟨k, hk, rfl, rfl, hB⟩ := hrel
          have hBw : Below w.heap.size w wr := hB1.trans (hB.mono (by omega))
          have hmb : most ((x.types.take k).map fun z => dTy t z.toNat) ≤ 2000 := most_of_le fun a ha => by
            obtain ⟨z, hz, rfl⟩ := List.mem_map.1 ha
            exact HLEY.out z (List.mem_of_mem_take hz)
          by_cases hlt : k < x.types.length
          · obtain ⟨b2, off2, rfl, f1⟩ := rd_at (RdAt.of_sl (HKY.out.keep (keep_below hBw))) hlt
            have hz1 := HRGY.out _ (List.getElem_mem hlt)
            have hz2 := HLEY.out _ (List.getElem_mem hlt)
            have hT2 := most_take (fun z => dTy t z.toNat) x.types k hlt
            obtain ⟨z, hz⟩ : ∃ z, x.types[k] = z := ⟨_, rfl⟩
            rw [hz] at f1 hz1 hz2 hT2
            obtain ⟨j, hj⟩ : ∃ j : Nat, z = (j : Int) := ⟨z.toNat, by omega⟩
            subst hj
            rw [Int.toNat_natCast] at hz2 hT2
            have hXr := HX.out.below hB hzX
            have y0 := hXr.cell 0
            have y1 := hXr.cell 1
            have y2 := hXr.cell 2
            simp only [List.getElem?_toArray, List.getElem?_cons_zero, List.getElem?_cons_succ] at y0 y1 y2
            have kI := IHY.out j (by omega) wr (tree_up HT.out hBw)
            unfold treeV at kI
            dsimp only at kI
            obtain ⟨Dj, hDj⟩ : ∃ Dj, dTy t j = Dj := ⟨_, rfl⟩
            obtain ⟨M, hM⟩ : ∃ M, most ((x.types.take k).map fun z => dTy t z.toNat) = M := ⟨_, rfl⟩
            rw [hDj] at kI hz2 hT2
            rw [hM] at hT2 hmb ⊢
            obtain ⟨MM, hMM⟩ : ∃ MM, max M1 M = MM := ⟨_, rfl⟩
            have hMMb : MM ≤ 2000 := by omega
            rw [hMM]
            have HMM := Lib.hid hMM
            clear hMM
            have HT2 := Lib.hid hT2
            clear hDj hM hT2 hz hXr hz1
            go_wp2_with (go_at_call 44; (with_reducible refine kI.mono ?_); rintro e w4 ⟨rfl, hb4⟩; have hB4 := hB.trans (hb4.mono (by have := hB.size; omega)); clear hb4)
            go_roundw
            case rel => exact ⟨k + 1, by omega, by go_num, by rw [HT2.out, ← Nat.max_assoc, HMM.out]; go_num, hB4⟩
            case measure => simp [intOf]; omega
          · obtain rfl : k = x.types.length := by omega
            rw [List.take_length] at hmb ⊢
            obtain ⟨MM, hMM⟩ : ∃ MM, max M1 (most (x.types.map fun z => dTy t z.toNat)) = MM := ⟨_, rfl⟩
            have hMMb : MM ≤ 2000 := by omega
            have hfin : DD = 1 + MM := by rw [HFI.out, hMM]
            rw [hMM]
            have HFN := Lib.hid hfin
            clear hMM hfin
            go_wp2
            go_ret
            exact ⟨ret_int (by have := HFN.out; omega), hBw⟩

set_option maxRecDepth 100000 in
set_option maxHeartbeats 4000000 in
theorem rdepth_any (t : TreeD) (p : Ptr6) (hW : Whole t) (hF : TreeFew t) (w : World) (hT : TreeAt (Lt w.heap.size) w t p) :
    Calls Tryz.prog 14 #[treeV t p] w fun e w' => e = .returned (.int .i64 (depthP t : Nat)) ∧ Below w.heap.size w w' := by
  have h1 := hW.rng.one
  have IHY := Lib.hid (fun (j : Nat) (hjn : j < t.types.length) (W : World) (hTW : TreeAt (Lt W.heap.size) W t p) => rdepthY_any t p hW hF (j + 1) j (by omega) hjn W hTW)
  have IHT := Lib.hid (fun (W : World) (hTW : TreeAt (Lt W.heap.size) W t p) => rdepthT_any t p hW hF t.nodes.length (t.nodes.length - 1) (by omega) (by omega) W hTW)
  obtain ⟨a1, c1, a2, c2, a3, c3⟩ := p
  obtain ⟨tN, tT, tA⟩ := id hT
  dsimp only at tN tT tA
  have f5 : t.nodes.length ≤ 1000 := hF.2.2.2.2.1
  have f6 : t.types.length ≤ 1000 := hF.2.2.2.2.2
  have f4 : t.aliases.length ≤ 1000 := hF.2.2.2.1
  obtain ⟨W1, hW1⟩ : ∃ W1, w.alloc (.cells #[.slice a1 t.nodes.length c1, .slice a2 t.types.length c2, .slice a3 t.aliases.length c3] 26) = W1 := ⟨_, rfl⟩
  have hB1 : Below w.heap.size w W1 := by rw [← hW1]; exact (Below.refl _ _).alloc (Nat.le_refl _) _
  have hX : Blk W1 w.heap.size 26 #[.slice a1 t.nodes.length c1, .slice a2 t.types.length c2, .slice a3 t.aliases.length c3] := by rw [← hW1]; exact Blk.new w 26 _
  have hzX : w.heap.size < W1.heap.size := hX.lt
  have x0 := hX.cell 0
  have x1 := hX.cell 1
  have x2 := hX.cell 2
  simp only [List.getElem?_toArray, List.getElem?_cons_zero, List.getElem?_cons_succ] at x0 x1 x2
  have HX := Lib.hid hX
  have HT := Lib.hid hT
  have hle : dTm t (t.nodes.length - 1) ≤ 2000 := by have := dTm_le hW.rng (t.nodes.length - 1) (by omega); omega
  have hrgA : ∀ a ∈ t.aliases, 0 ≤ a.type ∧ a.type < (t.types.length : Int) := fun a ha => ⟨(hW.rng.ali a ha).1, (hW.rng.ali a ha).2.1⟩
  have hleA : ∀ a ∈ t.aliases, dTy t a.type.toNat ≤ 2000 := fun a ha => by
    have := hrgA a ha
    have := dTy_le hW.rng a.type.toNat (by omega)
    omega
  have kT := IHT.out W1 (tree_up HT.out hB1)
  unfold treeV at kT
  dsimp only at kT
  obtain ⟨M1, hM1⟩ : ∃ M1, dTm t (t.nodes.length - 1) = M1 := ⟨_, rfl⟩
  have HP : Hid (depthP t = max M1 (most (t.aliases.map fun a => dTy t a.type.toNat))) := Lib.hid (by rw [← hM1]; rfl)
  obtain ⟨DD, hDD⟩ : ∃ DD, depthP t = DD := ⟨_, rfl⟩
  rw [hDD] at HP ⊢
  rw [hM1] at hle kT
  have hsub : IntKind.i64.wrap ((t.nodes.length : Int) - 1) = ((t.nodes.length - 1 : Nat) : Int) := by
    rw [IntWalk.i64_in _ (by omega)]; omega
  have HRG := Lib.hid hrgA
  have HLE := Lib.hid hleA
  clear hX hT hM1 hDD hrgA hleA tN tT
  go_enter Tryz.func14, Tryz.ntmps14
  go_wp2_with fail
  refine kT.mono ?_
  rintro e w2 ⟨rfl, hb2⟩
  have hBw2 : Below w.heap.size w w2 := hB1.trans (hb2.mono (by omega))
  have hX2 := HX.out.below hb2 hzX
  have hz2 := hBw2.size
  have hzX2 := hX2.lt
  have HX2 := Lib.hid hX2
  clear kT x0 x1 x2 hW1 hb2
  have y0 := hX2.cell 0
  have y1 := hX2.cell 1
  have y2 := hX2.cell 2
  simp only [List.getElem?_toArray, List.getElem?_cons_zero, List.getElem?_cons_succ] at y0 y1 y2
  clear hX2
  go_wp2
  go_loopw [3, 5, 15] (fun v _ k0 wr => ∃ (k : Nat), k ≤ t.aliases.length ∧ k0 = .int .i64 k ∧ v = .int .i64 (max M1 (most ((t.aliases.take k).map fun a => dTy t a.type.toNat)) : Nat) ∧ Below w2.heap.size w2 wr) (fun _ _ k0 _ => t.aliases.length - (intOf k0).toNat)
  case atStart => exact ⟨0, Nat.zero_le _, rfl, by simp [most], Below.refl _ _⟩
  case round =>
    clear y0 y1 y2
    obtain ⟨k, hk, rfl, rfl, hB⟩ := hrel
    have hzr := hB.size
    have hBw : Below w.heap.size w wr := hBw2.trans (hB.mono hz2)
    have hmb : most ((t.aliases.take k).map fun a => dTy t a.type.toNat) ≤ 2000 := most_of_le fun d hd => by
      obtain ⟨a, ha, rfl⟩ := List.mem_map.1 hd
      exact HLE.out a (List.mem_of_mem_take ha)
    by_cases hlt : k < t.aliases.length
    · obtain ⟨bb, off, rfl, hbb, hcell⟩ := tA (by omega)
      have hcq := hcell k _ (List.getElem?_eq_getElem hlt)
      have hz1 := HRG.out _ (List.getElem_mem hlt)
      have hz3 := HLE.out _ (List.getElem_mem hlt)
      have hT2 : most ((t.aliases.take (k + 1)).map fun a => dTy t a.type.toNat) = max (most ((t.aliases.take k).map fun a => dTy t a.type.toNat)) (dTy t t.aliases[k].type.toNat) := by
        rw [List.take_succ_eq_append_getElem hlt, List.map_append, most_append]
        simp [most]
      obtain ⟨x, hx⟩ : ∃ x, t.aliases[k] = x := ⟨_, rfl⟩
      rw [hx] at hcq hz1 hz3 hT2
      obtain ⟨nm, ty, po⟩ := x
      dsimp only at hz1 hz3 hT2
      have e0 := (hBw.cell (p := ⟨bb, off + k * 3, none⟩) hbb).trans (hcq 0 _ rfl)
      have e1 := (hBw.cell (p := ⟨bb, off + k * 3 + 1, none⟩) hbb).trans (hcq 1 _ rfl)
      have e2 := (hBw.cell (p := ⟨bb, off + k * 3 + 2, none⟩) hbb).trans (hcq 2 _ rfl)
      obtain ⟨j, hj⟩ : ∃ j : Nat, ty = (j : Int) := ⟨ty.toNat, by omega⟩
      subst hj
      rw [Int.toNat_natCast] at hz3 hT2
      obtain ⟨Wn, hWn⟩ : ∃ Wn, wr.alloc (.cells #[.string nm, .int .i64 (j : Int), .int .i64 po] 55) = Wn := ⟨_, rfl⟩
      have hBn : Below wr.heap.size wr Wn := by rw [← hWn]; exact (Below.refl _ _).alloc (Nat.le_refl _) _
      have hXn : Blk Wn wr.heap.size 55 #[.string nm, .int .i64 (j : Int), .int .i64 po] := by rw [← hWn]; exact Blk.new wr 55 _
      have p1 := hXn.cell 1
      simp only [List.getElem?_toArray, List.getElem?_cons_zero, List.getElem?_cons_succ] at p1
      have hB3 := hB.trans (hBn.mono hzr)
      have hXr := HX2.out.below hB3 hzX2
      have y0 := hXr.cell 0
      have y1 := hXr.cell 1
      have y2 := hXr.cell 2
      simp only [List.getElem?_toArray, List.getElem?_cons_zero, List.getElem?_cons_succ] at y0 y1 y2
      have kI := IHY.out j (by omega) Wn (tree_up HT.out (hBw.trans (hBn.mono (by omega))))
      unfold treeV at kI
      dsimp only at kI
      obtain ⟨Dj, hDj⟩ : ∃ Dj, dTy t j = Dj := ⟨_, rfl⟩
      obtain ⟨M, hM⟩ : ∃ M, most ((t.aliases.take k).map fun a => dTy t a.type.toNat) = M := ⟨_, rfl⟩
      rw [hDj] at kI hz3 hT2
      rw [hM] at hT2 hmb ⊢
      obtain ⟨MM, hMM⟩ : ∃ MM, max M1 M = MM := ⟨_, rfl⟩
      have hMMb : MM ≤ 2000 := by omega
      rw [hMM]
      have HMM := Lib.hid hMM
      have HT2 := Lib.hid hT2
      clear hMM hDj hM hT2 hx hXr hz1 hcell hcq hXn
      go_wp2_with (go_at_call 44; (with_reducible refine kI.mono ?_); rintro e w4 ⟨rfl, hb4⟩; have hB4 := hB3.trans (hb4.mono (by have := hB3.size; omega)); clear hb4)
      go_roundw
      case rel => exact ⟨k + 1, by omega, by go_num, by rw [HT2.out, ← Nat.max_assoc, HMM.out]; go_num, hB4⟩
      case measure => simp [intOf]; omega
    · obtain rfl : k = t.aliases.length := by omega
      rw [List.take_length] at hmb ⊢
      rw [← HP.out]
      go_wp2
      go_ret
      exact ⟨rfl, hBw⟩

end Go.Proofs.YtinajnkjfhbmkaaGreatDoor
