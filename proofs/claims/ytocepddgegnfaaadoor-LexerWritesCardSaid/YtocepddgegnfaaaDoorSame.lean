/- Two rows of the same tokens are told the same; of any bytes the tokens are the document's: the law returns true at every input. -/
import Derived.Test.YtocepddgegnfaaaDoorRefL
import Derived.Test.YtocepddgegnfaaaDoorLives
namespace Go.Proofs.YtocepddgegnfaaaDoor
open Go Go.Proofs Go.RowKit

/-- The value is a slice that holds these tokens; it lies below n₀. -/
def TokAt (n₀ : Nat) (W : World) (v : Value) (ts : List Tk) : Prop :=
  (∃ a cap, v = .slice a 0 cap ∧ ts = []) ∨ ∃ g cap, v = .slice (some ⟨g, 0, none⟩) ts.length cap ∧ g < n₀ ∧ ts.length ≤ cap ∧ ∀ j u, (tkV ts)[j]? = some u → W.cell? ⟨g, j, none⟩ = some u
theorem TokAt.below {n₀ n : Nat} {A B : World} {v : Value} {ts : List Tk} (h : TokAt n₀ A v ts) (hb : Below n A B) (hn : n₀ ≤ n) : TokAt n₀ B v ts := by
  rcases h with e | ⟨g, cap, e, hg, hc, hh⟩
  · exact .inl e
  · exact .inr ⟨g, cap, e, hg, hc, fun j u hu => (hb.cell (p := ⟨g, j, none⟩) (by dsimp only; omega)).trans (hh j u hu)⟩
theorem TokAt.more {n m : Nat} {A : World} {v : Value} {ts : List Tk} (h : TokAt n A v ts) (hn : n ≤ m) : TokAt m A v ts := by
  rcases h with e | ⟨g, cap, e, hg, hc, hh⟩
  · exact .inl e
  · exact .inr ⟨g, cap, e, by omega, hc, hh⟩
theorem tokAt_row {W : World} {B : Nat} {v : Value} {ts : List Tk} (h : W.ownsRow B 31 3 v ts.length (tkV ts)) : TokAt W.heap.size W v ts := by
  by_cases h0 : 0 < ts.length
  · obtain ⟨g, cap, e, _, hg, hn, hc⟩ := row_cells h h0
    exact .inr ⟨g, cap, e, hg, hn, hc⟩
  · have hn : ts = [] := List.length_eq_zero_iff.1 (by omega)
    subst hn
    rcases h.2 with ⟨e, _⟩ | ⟨g, cap, cur, e, _⟩
    · exact .inl ⟨_, _, e, rfl⟩
    · exact .inl ⟨_, _, e, rfl⟩

theorem tkV_get (ts : List Tk) : ∀ (i : Nat) (h : i < ts.length), (tkV ts)[i * 3]? = some (.int .i64 ((ts[i]'h).1 : Int)) ∧ (tkV ts)[i * 3 + 1]? = some (.string ⟨(ts[i]'h).2.1.toArray⟩) ∧ (tkV ts)[i * 3 + 2]? = some (.int .i64 ((ts[i]'h).2.2 : Int)) := by
  induction ts with
  | nil => intro i h; simp at h
  | cons x r ih =>
    intro i h
    have hc : tkV (x :: r) = .int .i64 (x.1 : Int) :: .string ⟨x.2.1.toArray⟩ :: .int .i64 (x.2.2 : Int) :: tkV r := by simp [tkV]
    rw [hc]
    cases i with
    | zero => exact ⟨rfl, rfl, rfl⟩
    | succ i =>
      have := ih i (by simpa using h)
      simpa [show (i + 1) * 3 = i * 3 + 3 by omega] using this

set_option maxRecDepth 100000 in
set_option maxHeartbeats 4000000 in
theorem same_any (v1 v2 : Value) (ts : List Tk) (w : World) (h1 : TokAt w.heap.size w v1 ts) (h2 : TokAt w.heap.size w v2 ts) (hn : ts.length ≤ 1048577) :
    Calls Tryd.prog 11 #[v1, v2] w fun e w' => e = .returned (.bool true) ∧ Below w.heap.size w w' := by
  have mixed : Tryd.prog.follows .mixedOrders = true := by kernel_rfl
  rcases h1 with ⟨a, cap, rfl, rfl⟩ | ⟨g, cap, rfl, hg, hc, hh⟩
  · rcases h2 with ⟨a2, cap2, rfl, _⟩ | ⟨g2, cap2, rfl, _, _, _⟩
    all_goals
      go_enter Tryd.func11, Tryd.ntmps11
      go_wp2_with fail
      go_loopw [5, 13] (fun _ i wr => i = .int .i64 0 ∧ wr = w) (fun _ _ _ => 0)
      case atStart => exact ⟨rfl, rfl⟩
      case round =>
        obtain ⟨rfl, rfl⟩ := hrel
        go_wp2_with fail
        go_ret
        exact ⟨rfl, Below.refl _ _⟩
  · rcases h2 with ⟨a2, cap2, rfl, rfl⟩ | ⟨g2, cap2, rfl, hg2, hc2, hh2⟩
    · go_enter Tryd.func11, Tryd.ntmps11
      go_wp2_with fail
      go_loopw [5, 13] (fun _ i wr => i = .int .i64 0 ∧ wr = w) (fun _ _ _ => 0)
      case atStart => exact ⟨rfl, rfl⟩
      case round =>
        obtain ⟨rfl, rfl⟩ := hrel
        go_wp2_with fail
        go_ret
        exact ⟨rfl, Below.refl _ _⟩
    · have H1 := Lib.hid hh
      have H2 := Lib.hid hh2
      clear hh hh2
      go_enter Tryd.func11, Tryd.ntmps11
      go_wp2_with fail
      go_loopw [5, 13] (fun _ i wr => ∃ k : Nat, k ≤ ts.length ∧ i = .int .i64 k ∧ Below w.heap.size w wr) (fun _ i _ => ts.length - (intOf i).toNat)
      case atStart => exact ⟨0, Nat.zero_le _, rfl, Below.refl _ _⟩
      case round =>
        obtain ⟨k, hk, rfl, hB⟩ := hrel
        by_cases hlt : k < ts.length
        · obtain ⟨g0, g1, g2'⟩ := tkV_get ts k hlt
          have p0 := (hB.cell (p := ⟨g, k * 3, none⟩) hg).trans (H1.out _ _ g0)
          have p1 := (hB.cell (p := ⟨g, k * 3 + 1, none⟩) hg).trans (H1.out _ _ g1)
          have p2 := (hB.cell (p := ⟨g, k * 3 + 2, none⟩) hg).trans (H1.out _ _ g2')
          have q0 := (hB.cell (p := ⟨g2, k * 3, none⟩) hg2).trans (H2.out _ _ g0)
          have q1 := (hB.cell (p := ⟨g2, k * 3 + 1, none⟩) hg2).trans (H2.out _ _ g1)
          have q2 := (hB.cell (p := ⟨g2, k * 3 + 2, none⟩) hg2).trans (H2.out _ _ g2')
          obtain ⟨x, hx⟩ : ∃ x, ts[k] = x := ⟨_, rfl⟩
          rw [hx] at p0 p1 p2 q0 q1 q2
          clear g0 g1 g2' hx
          go_wp2_with fail
          go_quiet (fail)
          go_wp2_with fail
          go_roundw
          case rel => exact ⟨k + 1, by omega, by go_num, hB.trans ((drewN_below _ _).mono hB.size)⟩
          case measure => simp [intOf]; omega
        · go_wp2_with fail
          go_ret
          exact ⟨rfl, hB⟩
end Go.Proofs.YtocepddgegnfaaaDoor
