/- What an iterator over a row of numbers tells, collected; how the iterators are made. -/
import Derived.Test.YtinajnkjfhbmkaaGreatDoorSeq
import Derived.Test.YtinajnkjfhbmkaaGreatDoorCloneA
import Derived.RangeFuncBox
namespace Go.Proofs.YtinajnkjfhbmkaaGreatDoor
open Go Go.Proofs Go.RowKit Go.Shelf

attribute [local go_sem] Oper.semAt_some

theorem Kq_put {b Bs : Nat} {w : World} (hb : b < w.heap.size) (hB : Bs < w.heap.size) (W : World) (l : Nat) (o o' : Obj) (hl : w.heap.size ≤ l) (h : W.heap[l]? = some o) (h1 : o.isCells = false) (h3 : o.isWalk = false) : Kq b Bs W (W.putObj l o') :=
  ⟨(belowK_b (n₀ := 0) (Nat.zero_le _) W l o o' hl h h1 h3).size, fun k hk => World.putObj_heap_other (by omega)⟩
theorem Kq.of_below {b Bs n₀ : Nat} {A B : World} (h : Below n₀ A B) (hb : b < n₀) (hB : Bs < n₀) : Kq b Bs A B := ⟨h.size, fun k hk => h.block k (by omega)⟩

/-- A row named by its block. -/
theorem SlAt.named {B : Nat} {w : World} {A : Option Addr} {n : Nat} {xs : List Value} (h : SlAt (Lt B) w A n xs) (h0 : 0 < B) : ∃ b, b < B ∧ SlAt (fun k => k = b) w A n xs := by
  rcases Nat.eq_zero_or_pos n with rfl | hn
  · have : xs = [] := List.eq_nil_of_length_eq_zero h.1
    subst this
    exact ⟨0, h0, SlAt.nil⟩
  · obtain ⟨b, off, e, hb, hc⟩ := h.2 hn
    exact ⟨b, hb, h.1, fun _ => ⟨b, off, e, rfl, hc⟩⟩
theorem SlAt.block {b : Nat} {w w' : World} {A : Option Addr} {n : Nat} {xs : List Value} (h : SlAt (fun k => k = b) w A n xs) (hb : w'.heap[b]? = w.heap[b]?) : SlAt (fun k => k = b) w' A n xs :=
  h.keep fun k o e => by subst e; exact World.cell?_of_block (a := ⟨k, o, none⟩) hb

theorem values_stops (n : Nat) (hn : 1 ≤ n) (Bs b : Nat) (A : Option Addr) (cap : Nat) (xs : List Int) (hlen : xs.length ≤ 140737488351232) (w : World) (hBs : Bs < w.heap.size) (hb : b < w.heap.size)
    (hc : w.cell? ⟨Bs, 0, none⟩ = some (.slice A xs.length cap)) (hh : SlAt (fun k => k = b) w A xs.length (xs.map iv)) :
    SeqStopsK Fence.wide n Tryz.prog 64 #[.pointer (some ⟨Bs, 0, none⟩)] (fun x : Int => #[.int .i64 x]) (Kq b Bs) (fun ys => ys = xs) (fun pre => ∃ rest, xs = pre ++ rest) xs.length w := fun ll J Jx W hW hJ _ hY h0 =>
  values_in n hn ll Bs b A cap xs hlen J Jx W hJ hY ((hW.cell (p := ⟨Bs, 0, none⟩) hBs).trans hc) (hh.block (hW.block b hb)) h0

theorem mkValues_any (A : Option Addr) (n c : Nat) (w : World) : Calls Tryz.prog 34 #[.slice A n c] w fun e w' => e = .returned (.func (.func 64) #[] #[.pointer (some ⟨w.heap.size, 0, none⟩)]) ∧ w' = w.alloc (.cells #[.slice A n c] 32) := by
  go_enter Tryz.func34, Tryz.ntmps34
  go_wp2
  go_ret
  exact ⟨rfl, rfl⟩

set_option maxRecDepth 100000 in
set_option maxHeartbeats 4000000 in
theorem allSeq_any (Bs b : Nat) (A : Option Addr) (cap : Nat) (xs : List Int) (hlen : xs.length ≤ 65536) (w : World) (hBs : Bs < w.heap.size) (hb : b < w.heap.size)
    (hc : w.cell? ⟨Bs, 0, none⟩ = some (.slice A xs.length cap)) (hh : SlAt (fun k => k = b) w A xs.length (xs.map iv)) :
    Calls Tryz.prog 10 #[.func (.func 64) #[] #[.pointer (some ⟨Bs, 0, none⟩)]] w (CopyPost w xs.length (xs.map iv)) := by
  obtain ⟨i0, hi, hz0, hz1, hz2⟩ := info_parts info3
  refine (callsIn_wide (n := 9)).1 ?_
  refine callsIn_of_wp_marks Tryz.func10 rfl trivial ?_ rfl
  simp only [Tryz.ntmps10, List.size_toArray, List.length_cons, List.length_nil, Nat.reduceAdd, Nat.reduceSub, Array.replicate_succ, Array.replicate_zero, List.push_toArray, List.append_toArray, List.nil_append, List.cons_append]
  gi_wp2
  have bO := Boxed.new w 32 (.slice none 0 0)
  have hB0 : Below w.heap.size w (w.alloc (.cells #[.slice none 0 0] 32)) := (Below.refl _ w).alloc (Nat.le_refl _) _
  refine wpIn_rangeFunc_ownG rfl (by omega) (gf := 64) (lb := #[.pointer (some ⟨Bs, 0, none⟩)]) rfl trivial (enters_of Tryz.func64 (by kernel_rfl) rfl)
    (values_stops 8 (by omega) Bs b A cap xs (by omega) _ (by simp; omega) (by simp; omega) ((hB0.cell (p := ⟨Bs, 0, none⟩) hBs).trans hc) (hh.block (hB0.block b hb))) Kq.trans (Kq_put (by simp; omega) (by simp; omega)) (Below.refl _ _) (fun _ => rfl)
    (fun pre W => (∃ v, Boxed W w.heap.size 32 v ∧ W.ownsRow w.heap.size 3 1 v pre.length (pre.map iv) ∧ True) ∧ Below w.heap.size w W)
    (fun _ _ _ => False)
    (OwnFrom.and (Own.from (holdsRow_own w.heap.size w.heap.size 32 3 1 (fun s : List Int => s.length) (fun s => s.map iv) (fun _ _ => True)) _) (ownFrom_below (Nat.le_refl _) (by simp)))
    (fun _ _ _ _ _ hs _ _ => hs)
    ⟨⟨_, bO, World.ownsRow_nil _ _ _ _, trivial⟩, hB0⟩
    (fun x => { tmps := #[.func (.func 64) #[] #[.pointer (some ⟨Bs, 0, none⟩)], undef, .slice none 0 0, .pointer (some ⟨w.heap.size, 0, none⟩), .int .i64 x, .func (.func 64) #[] #[.pointer (some ⟨Bs, 0, none⟩)], .int .i64 x, undef, undef, undef, undef, undef], defers := [] }) ?assign ?body ?done ?stop
  case assign =>
    intro ll x W K hK
    gi_wp2
    exact hK
  case body =>
    rintro ll pre x W ⟨⟨v, hbx, hown, _⟩, hB⟩ hpl
    have hcl := hbx.cell
    gi_wp2_with (gi_at_builtin; refine wpListIn_append_own _ rfl _ _ 32 rfl w.heap.size 3 i0 (.int .i64 0) 1 8 Tryz.underlying32 hi hz0 hz1 hz2 rfl (by decide) _ _ _ rfl (hown.alloc _) ⟨W.heap.size, 0, none⟩ 1 1 [.int .i64 x] rfl rfl (cell_one_new _ _ _) (by simp [Value.oneCell']) (by unfold maxLen; omega) (by omega) (by have := hB.size; simp; omega) ?_; intro v' w1 hown' hgrow _; obtain ⟨g', cap', rfl⟩ := ownsRow_succ hown'; obtain ⟨hv1, hv2, hr2, hk2, hb2⟩ := hbx.appended (by decide) hown hB.size (Nat.le_refl _) hown' hgrow; have hc1 := hv1.cell; have hf1 := hv1.frozen)
    exact ⟨hk2.from _, Kq.of_below hb2 hb hBs, ⟨_, hv2, by simpa [iv] using hr2, trivial⟩, hB.trans hb2⟩
  case done =>
    rintro D ys W hD rfl ⟨⟨v, hbx, hown, _⟩, hB⟩ hK
    have hcl := hbx.cell
    gi_wp2
    refine ⟨by simp, .inl ⟨_, _, rfl, run_takeDeferred hK, ?_⟩⟩
    obtain ⟨A', c', rfl, _, h2⟩ := SlAt.of_own (ownsRow_putObj hown (.deferred none) hK rfl)
    refine ⟨_, results_tmp rfl _ _ _, A', c', rfl, ?_, ?_⟩
    · exact h2
    · exact hB.trans (belowK_b (w := w) (Nat.le_refl _) W D _ _ (by simp at hD; omega) hK rfl rfl)
  case stop =>
    rintro D c pre W _ _ h _
    exact h.elim
end Go.Proofs.YtinajnkjfhbmkaaGreatDoor
