/- The parts of a term and of a type, told one by one. -/
import Derived.Test.YtinajnkjfhbmkaaGreatDoorAllU
import Derived.Test.YtinajnkjfhbmkaaGreatDoorIterB
import Derived.Test.YtinajnkjfhbmkaaGreatDoorCloneA
import Derived.RangeFuncBox
namespace Go.Proofs.YtinajnkjfhbmkaaGreatDoor
open Go Go.Proofs Go.RowKit Go.Shelf

attribute [local go_sem] Oper.semAt_some

/-- What a round keeps: the row's block, and the iterator's box. -/
def Kq (b Bs : Nat) (W W' : World) : Prop := W.heap.size ≤ W'.heap.size ∧ ∀ k, k = b ∨ k = Bs → W'.heap[k]? = W.heap[k]?
theorem Kq.refl (b Bs : Nat) (W : World) : Kq b Bs W W := ⟨Nat.le_refl _, fun _ _ => rfl⟩
theorem Kq.trans {b Bs : Nat} {A B C : World} (h : Kq b Bs A B) (k : Kq b Bs B C) : Kq b Bs A C := ⟨Nat.le_trans h.1 k.1, fun i hi => (k.2 i hi).trans (h.2 i hi)⟩
theorem Kq.cell {b Bs k o : Nat} {A B : World} (h : Kq b Bs A B) (hk : k = b ∨ k = Bs) : B.cell? ⟨k, o, none⟩ = A.cell? ⟨k, o, none⟩ := World.cell?_of_block (a := ⟨k, o, none⟩) (h.2 k hk)

def ValPost (xs : List Int) (J Jx : List Int → World → Prop) (e : Ending) (W' : World) : Prop :=
  (∃ v, e = .returned v) ∧ ((∃ ys, ys = xs ∧ J ys W') ∨ (∃ pre, (∃ rest, xs = pre ++ rest) ∧ Jx pre W'))

set_option maxRecDepth 100000 in
set_option maxHeartbeats 2000000 in
theorem values_in (n : Nat) (hn : 1 ≤ n) (ll Bs b : Nat) (A : Option Addr) (cap : Nat) (xs : List Int) (hlen : xs.length ≤ 140737488351232) (J Jx : List Int → World → Prop)
    (W : World) (_ : AbidesFrom W.heap.size J)
    (hY : ∀ pre (x : Int) W, J pre W → pre.length < xs.length → YieldAt Fence.wide (n - 1) Tryz.prog ll #[.int .i64 x] W fun e W' =>
      (e = .returned (.bool true) ∧ J (pre ++ [x]) W' ∧ Kq b Bs W W') ∨ (e = .returned (.bool false) ∧ Jx (pre ++ [x]) W'))
    (hBs : W.cell? ⟨Bs, 0, none⟩ = some (.slice A xs.length cap)) (hh : SlAt (fun k => k = b) W A xs.length (xs.map iv)) (h0 : J [] W) :
    CallsIn Fence.wide n Tryz.prog 64 #[.func (.yield ll) #[] #[], .pointer (some ⟨Bs, 0, none⟩)] W (ValPost xs J Jx) := by
  refine callsIn_of_wp Tryz.func64 rfl trivial ?_ rfl
  simp only [Tryz.ntmps64, List.size_toArray, List.length_cons, List.length_nil, Nat.reduceAdd, Nat.reduceSub, Array.replicate_succ, Array.replicate_zero, List.push_toArray, List.append_toArray, List.nil_append, List.cons_append]
  gi_wp2
  gi_loopw [4, 7] (fun _ i wr => ∃ k : Nat, k ≤ xs.length ∧ i = .int .i64 k ∧ J (xs.take k) wr ∧ Kq b Bs W wr ∧ W.heap.size ≤ wr.heap.size)
    (fun _ i _ => xs.length - (intOf i).toNat)
  case atStart => exact ⟨0, Nat.zero_le _, rfl, by simpa using h0, Kq.refl _ _ _, Nat.le_refl _⟩
  case round =>
    obtain ⟨k, hk, rfl, hJs, hK, hsz⟩ := hrel
    by_cases hlt : k < xs.length
    · obtain ⟨b', off, rfl, rfl, hcell⟩ := hh.at_ hlt
      have hq := (hK.cell (o := off + k) (.inl rfl)).trans (hcell k (.int .i64 xs[k]) (by simp [hlt]))
      have htk : xs.take (k + 1) = xs.take k ++ [xs[k]] := List.take_succ_eq_append_getElem hlt
      obtain ⟨x, hx⟩ : ∃ x, xs[k] = x := ⟨_, rfl⟩
      rw [hx] at hq htk
      have HT := Lib.hid htk
      have hYx := hY (xs.take k) x wr hJs (by simp; omega)
      clear hx hcell htk
      have hpre : ∃ rest, xs = (xs.take k ++ [x]) ++ rest := ⟨xs.drop (k + 1), by rw [← HT.out, List.take_append_drop]⟩
      have HP := Lib.hid hpre
      clear hpre
      obtain ⟨fn, tmps, assign, body, hy, hR⟩ := hYx
      gi_wp2
      refine hR.mono ?_
      rintro e W3 (⟨rfl, hJ3, hk3⟩ | ⟨rfl, hJx3⟩)
      · gi_wp2
        go_roundw
        case rel => exact ⟨k + 1, by omega, by go_num, by rw [HT.out]; exact hJ3, hK.trans hk3, by have := hk3.1; omega⟩
        case measure => simp [intOf]; omega
      · gi_wp2
        refine bodyPost_ret (results_none rfl _ _ _) rfl ?_
        exact ⟨⟨_, rfl⟩, .inr ⟨_, HP.out, hJx3⟩⟩
    · obtain rfl : k = xs.length := by omega
      gi_wp2
      go_end0
      exact ⟨⟨_, rfl⟩, .inl ⟨_, List.take_length, hJs⟩⟩

/-- Places and numbers, from the last one on. -/
def bk (xs : List Int) : List (Int × Int) := (List.range xs.length).reverse.map fun i : Nat => ((i : Int), xs.getD i 0)
theorem bk_length (xs : List Int) : (bk xs).length = xs.length := by simp [bk]
theorem bk_get (xs : List Int) (k : Nat) (h : k < xs.length) : (bk xs)[k]? = some (((xs.length - 1 - k : Nat) : Int), xs.getD (xs.length - 1 - k) 0) := by
  unfold bk
  rw [List.getElem?_map, List.getElem?_reverse (by simpa using h)]
  simp [show xs.length - 1 - k < xs.length by omega]
theorem bk_snd (xs : List Int) : (bk xs).map Prod.snd = xs.reverse := by
  apply List.ext_getElem?
  intro k
  by_cases h : k < xs.length
  · rw [List.getElem?_map, bk_get xs k h, List.getElem?_reverse (by simpa using h)]
    have : xs.length - 1 - k < xs.length := by omega
    simp [List.getD_eq_getElem?_getD, this]
  · rw [List.getElem?_eq_none (by simp [bk_length]; omega), List.getElem?_eq_none (by simp; omega)]

def BackPost (xs : List Int) (J Jx : List (Int × Int) → World → Prop) (e : Ending) (W' : World) : Prop :=
  (∃ v, e = .returned v) ∧ ((∃ ys, ys = bk xs ∧ J ys W') ∨ (∃ pre, (∃ rest, bk xs = pre ++ rest) ∧ Jx pre W'))

set_option maxRecDepth 100000 in
set_option maxHeartbeats 2000000 in
theorem back_in (n : Nat) (hn : 1 ≤ n) (ll Bs b : Nat) (A : Option Addr) (cap : Nat) (xs : List Int) (hlen : xs.length ≤ 140737488351232) (J Jx : List (Int × Int) → World → Prop)
    (W : World) (_ : AbidesFrom W.heap.size J)
    (hY : ∀ pre (x : Int × Int) W, J pre W → pre.length < xs.length → YieldAt Fence.wide (n - 1) Tryz.prog ll #[.int .i64 x.1, .int .i64 x.2] W fun e W' =>
      (e = .returned (.bool true) ∧ J (pre ++ [x]) W' ∧ Kq b Bs W W') ∨ (e = .returned (.bool false) ∧ Jx (pre ++ [x]) W'))
    (hBs : W.cell? ⟨Bs, 0, none⟩ = some (.slice A xs.length cap)) (hh : SlAt (fun k => k = b) W A xs.length (xs.map iv)) (h0 : J [] W) :
    CallsIn Fence.wide n Tryz.prog 76 #[.func (.yield ll) #[] #[], .pointer (some ⟨Bs, 0, none⟩)] W (BackPost xs J Jx) := by
  have hbl := bk_length xs
  have HBL := Lib.hid hbl
  clear hbl
  refine callsIn_of_wp Tryz.func76 rfl trivial ?_ rfl
  simp only [Tryz.ntmps76, List.size_toArray, List.length_cons, List.length_nil, Nat.reduceAdd, Nat.reduceSub, Array.replicate_succ, Array.replicate_zero, List.push_toArray, List.append_toArray, List.nil_append, List.cons_append]
  gi_wp2
  gi_loopw [3] (fun i wr => ∃ k : Nat, k ≤ xs.length ∧ i = .int .i64 ((xs.length : Int) - 1 - k) ∧ J ((bk xs).take k) wr ∧ Kq b Bs W wr ∧ W.heap.size ≤ wr.heap.size)
    (fun i _ => (intOf i + 1).toNat)
  case atStart => exact ⟨0, Nat.zero_le _, by simp, by simpa using h0, Kq.refl _ _ _, Nat.le_refl _⟩
  case round =>
    obtain ⟨k, hk, rfl, hJs, hK, hsz⟩ := hrel
    have hB1 : wr.cell? ⟨Bs, 0, none⟩ = some (.slice A xs.length cap) := (hK.cell (.inr rfl)).trans hBs
    by_cases hlt : k < xs.length
    · obtain ⟨i, hi⟩ : ∃ i : Nat, xs.length = i + 1 + k := ⟨xs.length - 1 - k, by omega⟩
      have hix : (xs.length : Int) - 1 - k = i := by omega
      have hil : i < xs.length := by omega
      obtain ⟨b', off, rfl, rfl, hcell⟩ := hh.at_ hlt
      have hq := (hK.cell (o := off + i) (.inl rfl)).trans (hcell i (.int .i64 xs[i]) (by simp [hil]))
      have hbg := bk_get xs k hlt
      rw [show xs.length - 1 - k = i by omega] at hbg
      have hgd : xs.getD i 0 = xs[i] := by simp [List.getD_eq_getElem?_getD, hil]
      rw [hgd] at hbg
      have htk : (bk xs).take (k + 1) = (bk xs).take k ++ [((i : Int), xs[i])] := by
        rw [List.take_add_one, hbg]; rfl
      obtain ⟨x, hx⟩ : ∃ x, xs[i] = x := ⟨_, rfl⟩
      rw [hx] at hq htk
      have HT := Lib.hid htk
      have hYx := hY ((bk xs).take k) ((i : Int), x) wr hJs (by simp; omega)
      have HI := Lib.hid hi
      rw [hix]
      clear hx hcell htk hbg hgd hix
      have hpre : ∃ rest, bk xs = ((bk xs).take k ++ [((i : Int), x)]) ++ rest := ⟨(bk xs).drop (k + 1), by rw [← HT.out, List.take_append_drop]⟩
      have HP := Lib.hid hpre
      clear hpre hi
      obtain ⟨fn, tmps, assign, body, hy, hR⟩ := hYx
      dsimp only at hy
      gi_wp2
      refine hR.mono ?_
      rintro e W3 (⟨rfl, hJ3, hk3⟩ | ⟨rfl, hJx3⟩)
      · gi_wp2
        go_roundw
        case rel => exact ⟨k + 1, by omega, by have := HI.out; congr 1; omega, by rw [HT.out]; exact hJ3, hK.trans hk3, by have := hk3.1; omega⟩
        case measure => simp [intOf]
      · gi_wp2
        refine bodyPost_ret (results_none rfl _ _ _) rfl ?_
        exact ⟨⟨_, rfl⟩, .inr ⟨_, HP.out, hJx3⟩⟩
    · obtain rfl : k = xs.length := by omega
      have hix : (xs.length : Int) - 1 - (xs.length : Int) = -1 := by omega
      rw [hix]
      clear hix
      gi_wp2
      go_end0
      exact ⟨⟨_, rfl⟩, .inl ⟨_, by rw [List.take_of_length_le (by rw [HBL.out]; exact Nat.le_refl _)], hJs⟩⟩
end Go.Proofs.YtinajnkjfhbmkaaGreatDoor

namespace Go.Proofs.YtinajnkjfhbmkaaGreatDoor
open Go Go.Proofs Go.RowKit Go.Shelf

attribute [local go_sem] Oper.semAt_some

theorem Kq_put {b Bs : Nat} {w : World} (hb : b < w.heap.size) (hB : Bs < w.heap.size) (W : World) (l : Nat) (o o' : Obj) (hl : w.heap.size ≤ l) (h : W.heap[l]? = some o) (h1 : o.isCells = false) (h3 : o.isWalk = false) : Kq b Bs W (W.putObj l o') :=
  ⟨(belowK_b (n₀ := 0) (Nat.zero_le _) W l o o' hl h h1 h3).size, fun k hk => World.putObj_heap_other (by omega)⟩
theorem Kq.of_below {b Bs n₀ : Nat} {A B : World} (h : Below n₀ A B) (hb : b < n₀) (hB : Bs < n₀) : Kq b Bs A B := ⟨h.size, fun k hk => h.block k (by omega)⟩

/-- A row named by its block. -/
theorem SlAt.named {B : Nat} {w : World} {A : Option Addr} {n : Nat} {xs : List Value} (h : SlAt (Lt B) w A n xs) (h0 : 0 < B) : ∃ b, b < B ∧ SlAt (fun k => k = b) w A n xs := by
  rcases Nat.eq_zero_or_pos n with rfl | hn
  · have : xs = [] := List.eq_nil_of_length_eq_zero h.1
    subst this
    exact ⟨0, h0, SlAt.nil⟩
  · obtain ⟨b, off, e, hb, hc⟩ := h.2 hn
    exact ⟨b, hb, h.1, fun _ => ⟨b, off, e, rfl, hc⟩⟩
theorem SlAt.block {b : Nat} {w w' : World} {A : Option Addr} {n : Nat} {xs : List Value} (h : SlAt (fun k => k = b) w A n xs) (hb : w'.heap[b]? = w.heap[b]?) : SlAt (fun k => k = b) w' A n xs :=
  h.keep fun k o e => by subst e; exact World.cell?_of_block (a := ⟨k, o, none⟩) hb

theorem values_stops (n : Nat) (hn : 1 ≤ n) (Bs b : Nat) (A : Option Addr) (cap : Nat) (xs : List Int) (hlen : xs.length ≤ 140737488351232) (w : World) (hBs : Bs < w.heap.size) (hb : b < w.heap.size)
    (hc : w.cell? ⟨Bs, 0, none⟩ = some (.slice A xs.length cap)) (hh : SlAt (fun k => k = b) w A xs.length (xs.map iv)) :
    SeqStopsK Fence.wide n Tryz.prog 64 #[.pointer (some ⟨Bs, 0, none⟩)] (fun x : Int => #[.int .i64 x]) (Kq b Bs) (fun ys => ys = xs) (fun pre => ∃ rest, xs = pre ++ rest) xs.length w := fun ll J Jx W hW hJ _ hY h0 =>
  values_in n hn ll Bs b A cap xs hlen J Jx W hJ hY ((hW.cell (p := ⟨Bs, 0, none⟩) hBs).trans hc) (hh.block (hW.block b hb)) h0

theorem mkValues_any (A : Option Addr) (n c : Nat) (w : World) : Calls Tryz.prog 34 #[.slice A n c] w fun e w' => e = .returned (.func (.func 64) #[] #[.pointer (some ⟨w.heap.size, 0, none⟩)]) ∧ w' = w.alloc (.cells #[.slice A n c] 32) := by
  go_enter Tryz.func34, Tryz.ntmps34
  go_wp2
  go_ret
  exact ⟨rfl, rfl⟩

set_option maxRecDepth 100000 in
set_option maxHeartbeats 4000000 in
theorem allSeq_any (Bs b : Nat) (A : Option Addr) (cap : Nat) (xs : List Int) (hlen : xs.length ≤ 65536) (w : World) (hBs : Bs < w.heap.size) (hb : b < w.heap.size)
    (hc : w.cell? ⟨Bs, 0, none⟩ = some (.slice A xs.length cap)) (hh : SlAt (fun k => k = b) w A xs.length (xs.map iv)) :
    Calls Tryz.prog 10 #[.func (.func 64) #[] #[.pointer (some ⟨Bs, 0, none⟩)]] w (CopyPost w xs.length (xs.map iv)) := by
  obtain ⟨i0, hi, hz0, hz1, hz2⟩ := info_parts info3
  refine (callsIn_wide (n := 9)).1 ?_
  refine callsIn_of_wp_marks Tryz.func10 rfl trivial ?_ rfl
  simp only [Tryz.ntmps10, List.size_toArray, List.length_cons, List.length_nil, Nat.reduceAdd, Nat.reduceSub, Array.replicate_succ, Array.replicate_zero, List.push_toArray, List.append_toArray, List.nil_append, List.cons_append]
  gi_wp2
  have bO := Boxed.new w 32 (.slice none 0 0)
  have hB0 : Below w.heap.size w (w.alloc (.cells #[.slice none 0 0] 32)) := (Below.refl _ w).alloc (Nat.le_refl _) _
  refine wpIn_rangeFunc_ownG rfl (by omega) (gf := 64) (lb := #[.pointer (some ⟨Bs, 0, none⟩)]) rfl trivial (enters_of Tryz.func64 (by kernel_rfl) rfl)
    (values_stops 8 (by omega) Bs b A cap xs (by omega) _ (by simp; omega) (by simp; omega) ((hB0.cell (p := ⟨Bs, 0, none⟩) hBs).trans hc) (hh.block (hB0.block b hb))) Kq.trans (Kq_put (by simp; omega) (by simp; omega)) (Below.refl _ _) (fun _ => rfl)
    (fun pre W => (∃ v, Boxed W w.heap.size 32 v ∧ W.ownsRow w.heap.size 3 1 v pre.length (pre.map iv) ∧ True) ∧ Below w.heap.size w W)
    (fun _ _ _ => False)
    (OwnFrom.and (Own.from (holdsRow_own w.heap.size w.heap.size 32 3 1 (fun s : List Int => s.length) (fun s => s.map iv) (fun _ _ => True)) _) (ownFrom_below (Nat.le_refl _) (by simp)))
    (fun _ _ _ _ _ hs _ _ => hs)
    ⟨⟨_, bO, World.ownsRow_nil _ _ _ _, trivial⟩, hB0⟩
    (fun x => { tmps := #[.func (.func 64) #[] #[.pointer (some ⟨Bs, 0, none⟩)], undef, .slice none 0 0, .pointer (some ⟨w.heap.size, 0, none⟩), .int .i64 x, .func (.func 64) #[] #[.pointer (some ⟨Bs, 0, none⟩)], .int .i64 x, undef, undef, undef, undef, undef], defers := [] }) ?assign ?body ?done ?stop
  case assign =>
    intro ll x W K hK
    gi_wp2
    exact hK
  case body =>
    rintro ll pre x W ⟨⟨v, hbx, hown, _⟩, hB⟩ hpl
    have hcl := hbx.cell
    gi_wp2_with (gi_at_builtin; refine wpListIn_append_own _ rfl _ _ 32 rfl w.heap.size 3 i0 (.int .i64 0) 1 8 Tryz.underlying32 hi hz0 hz1 hz2 rfl (by decide) _ _ _ rfl (hown.alloc _) ⟨W.heap.size, 0, none⟩ 1 1 [.int .i64 x] rfl rfl (cell_one_new _ _ _) (by simp [Value.oneCell']) (by unfold maxLen; omega) (by omega) (by have := hB.size; simp; omega) ?_; intro v' w1 hown' hgrow _; obtain ⟨g', cap', rfl⟩ := ownsRow_succ hown'; obtain ⟨hv1, hv2, hr2, hk2, hb2⟩ := hbx.appended (by decide) hown hB.size (Nat.le_refl _) hown' hgrow; have hc1 := hv1.cell; have hf1 := hv1.frozen)
    exact ⟨hk2.from _, Kq.of_below hb2 hb hBs, ⟨_, hv2, by simpa [iv] using hr2, trivial⟩, hB.trans hb2⟩
  case done =>
    rintro D ys W hD rfl ⟨⟨v, hbx, hown, _⟩, hB⟩ hK
    have hcl := hbx.cell
    gi_wp2
    refine ⟨by simp, .inl ⟨_, _, rfl, run_takeDeferred hK, ?_⟩⟩
    obtain ⟨A', c', rfl, _, h2⟩ := SlAt.of_own (ownsRow_putObj hown (.deferred none) hK rfl)
    refine ⟨_, results_tmp rfl _ _ _, A', c', rfl, ?_, ?_⟩
    · exact h2
    · exact hB.trans (belowK_b (w := w) (Nat.le_refl _) W D _ _ (by simp at hD; omega) hK rfl rfl)
  case stop =>
    rintro D c pre W _ _ h _
    exact h.elim
end Go.Proofs.YtinajnkjfhbmkaaGreatDoor
