/- What is told of no arena: nothing comes of its iterators. -/
import Derived.Test.YtggchkddmihobaaGreatDoorAA
import Derived.RangeFuncNested
import Derived.RangeFuncBound
import Derived.RangeFuncCalls
import Derived.RangeFuncLeaves
import Derived.RangeFuncBox
import Derived.Shelf.Abstract
import Derived.OwnWalkIn
import Derived.TacticsInMore
import Derived.LoopNIn
import Derived.LoopIn
import Derived.Maps.OwnIn
import Derived.Carry
import Derived.Test.YtggchkddmihobaaGreatDoorIter
namespace Go.Proofs.YtggchkddmihobaaGreatDoor
open Go Go.Proofs Go.RowKit Go.Shelf

attribute [local go_sem] Oper.semAt_some

/-- A world that has only grown; blocks of its own apart. -/
def Kn (_ _ : World) : Prop := True
abbrev encE (k : Nat) (_ : Empty) : Array Value := Array.replicate k undef

set_option maxRecDepth 100000 in
set_option maxHeartbeats 1000000 in
theorem headsN_stops (n : Nat) (hn : 1 ≤ n) (Bs : Nat) (w : World) (hBs : Bs < w.heap.size) (hc : w.cell? ⟨Bs, 0, none⟩ = some (.pointer none)) :
    SeqStopsK Fence.wide n Tryz.prog 46 #[.pointer (some ⟨Bs, 0, none⟩)] (encE 1) Kn (fun ys => ys = []) (fun _ => False) 0 w := fun ll J Jx W hW hJ _ hY h0 => by
  have hc' := (hW.cell (p := ⟨Bs, 0, none⟩) hBs).trans hc
  clear hc hBs
  refine callsIn_of_wp Tryz.func46 rfl trivial ?_ rfl
  simp only [Tryz.ntmps46, List.size_toArray, List.length_cons, List.length_nil, Nat.reduceAdd, Nat.reduceSub, Array.replicate_succ, Array.replicate_zero, List.push_toArray, List.append_toArray, List.nil_append, List.cons_append]
  gi_wp2_with (refine ⟨trivial, ?_⟩; gi_at_call 11; refine (callsIn_wide.2 (lenN_any _)).mono ?_; rintro e w' ⟨rfl, rfl⟩)
  gi_loopw [6] (fun i wr => i = .int .i64 0 ∧ wr = W) (fun _ _ => 0)
  case atStart => exact ⟨rfl, rfl⟩
  case round =>
    obtain ⟨rfl, rfl⟩ := hrel
    gi_wp2
    go_end0
    exact ⟨⟨_, rfl⟩, .inl ⟨_, rfl, h0⟩⟩

theorem mkHeads_in (n : Nat) (a : Option Addr) (w : World) :
    CallsIn Fence.wide n Tryz.prog 38 #[.pointer a] w fun e w' => e = .returned (.func (.func 46) #[] #[.pointer (some ⟨w.heap.size, 0, none⟩)]) ∧ w' = w.alloc (.cells #[.pointer a] 27) := by
  refine callsIn_of_wp Tryz.func38 rfl trivial ?_ rfl
  simp only [Tryz.ntmps38, List.size_toArray, List.length_cons, List.length_nil, Nat.reduceAdd, Nat.reduceSub, Array.replicate_succ, Array.replicate_zero, List.push_toArray, List.append_toArray, List.nil_append, List.cons_append]
  gi_wp2
  go_ret
  exact ⟨rfl, rfl⟩
theorem mkParts_in (n : Nat) (a : Option Addr) (w : World) :
    CallsIn Fence.wide n Tryz.prog 18 #[.pointer a] w fun e w' => e = .returned (.func (.func 37) #[] #[.pointer (some ⟨w.heap.size, 0, none⟩)]) ∧ w' = w.alloc (.cells #[.pointer a] 27) := by
  refine callsIn_of_wp Tryz.func18 rfl trivial ?_ rfl
  simp only [Tryz.ntmps18, List.size_toArray, List.length_cons, List.length_nil, Nat.reduceAdd, Nat.reduceSub, Array.replicate_succ, Array.replicate_zero, List.push_toArray, List.append_toArray, List.nil_append, List.cons_append]
  gi_wp2
  go_ret
  exact ⟨rfl, rfl⟩

set_option maxRecDepth 100000 in
set_option maxHeartbeats 1000000 in
theorem partsN_stops (n : Nat) (hn : 3 ≤ n) (Bs : Nat) (w : World) (hBs : Bs < w.heap.size) (hc : w.cell? ⟨Bs, 0, none⟩ = some (.pointer none)) :
    SeqStopsK Fence.wide n Tryz.prog 37 #[.pointer (some ⟨Bs, 0, none⟩)] (encE 2) Kn (fun ys => ys = []) (fun _ => False) 0 w := fun ll J Jx W hW hJ _ hY h0 => by
  have hc' := (hW.cell (p := ⟨Bs, 0, none⟩) hBs).trans hc
  have hBW : Bs < W.heap.size := Nat.lt_of_lt_of_le hBs hW.size
  clear hc hBs
  have hn1 : 1 ≤ n := by omega
  refine callsIn_of_wp_marks Tryz.func37 rfl trivial ?_ rfl
  simp only [Tryz.ntmps37, List.size_toArray, List.length_cons, List.length_nil, Nat.reduceAdd, Nat.reduceSub, Array.replicate_succ, Array.replicate_zero, List.push_toArray, List.append_toArray, List.nil_append, List.cons_append]
  gi_wp2_with (refine ⟨trivial, ?_⟩; gi_at_call 38; refine (mkHeads_in _ _ _).mono ?_; rintro e w' ⟨rfl, rfl⟩)
  have bS := Boxed.new (W.alloc (.cells #[.func (.yield ll) #[] #[]] 88)) 27 (.pointer none)
  rw [World.size_alloc] at bS
  have hB0 : Below W.heap.size W ((W.alloc (.cells #[.func (.yield ll) #[] #[]] 88)).alloc (.cells #[.pointer none] 27)) := ((Below.refl _ W).alloc (Nat.le_refl _) _).alloc (by simp) _
  gi_wp2
  refine wpIn_rangeFunc_ownG rfl (by omega) (gf := 46) (lb := #[.pointer (some ⟨W.heap.size + 1, 0, none⟩)]) rfl trivial (enters_of Tryz.func46 (by kernel_rfl) rfl)
    (headsN_stops (n - 1) (by omega) (W.heap.size + 1) _ (by simp) bS.cell) (fun _ _ => trivial) (fun _ _ _ _ _ _ _ _ => trivial) (Below.refl _ _) (fun x => nomatch x)
    (fun _ W' => Below W.heap.size W W') (fun _ _ _ => False) ?own (fun _ _ _ _ _ hs _ _ => hs) ?start (fun x => nomatch x) (fun _ _ x => nomatch x) (fun _ _ x => nomatch x) ?done ?stop
  case own => exact ownFrom_below (Nat.le_refl _) (by simp; omega)
  case start => exact hB0
  case done =>
    rintro D ys W' hD hys hJ' hK
    gi_wp2
    have hD' : W.heap.size ≤ D := by simp at hD; omega
    have hBW : Below W.heap.size W (W'.putObj D (.deferred none)) := hJ'.trans (belowK_b (w := W) (Nat.le_refl _) W' D _ _ hD' hK rfl rfl)
    refine ⟨by simp, .inl ⟨_, _, rfl, run_takeDeferred hK, ?_⟩⟩
    exact ⟨_, results_none rfl _ _ _, ⟨_, rfl⟩, .inl ⟨_, rfl, hJ [] W _ none h0 (grown_of_below hBW) (fun r e => by cases e)⟩⟩
  case stop =>
    rintro D c pre W' _ _ h _
    exact h.elim
end Go.Proofs.YtggchkddmihobaaGreatDoor
