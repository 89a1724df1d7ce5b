/- Are two rows of numbers the same? The law's own look. -/
import Derived.Test.YtidmeodmkcomlaaGreatDoorOwn
import Derived.Deep.QuietTactic
import Derived.BigQuiet
import Derived.LoopTactic
namespace Go.Proofs.YtidmeodmkcomlaaGreatDoor
open Go Go.Proofs Go.RowKit

theorem rd_at {w : World} {A : Option Addr} {xs : List Int} {k : Nat} (h : RdAt w A (xs.map iv)) (hk : k < xs.length) : ∃ b off, A = some ⟨b, off, none⟩ ∧ w.cell? ⟨b, off + k, none⟩ = some (.int .i64 xs[k]) := by
  rcases h with h | ⟨b, off, e, h⟩
  · have : xs = [] := by simpa using h
    subst this
    simp at hk
  · exact ⟨b, off, e, h k _ (by simp [hk])⟩

theorem below_drewN (n₀ : Nat) (w : World) (d : Nat) : Below n₀ w (w.drewN d) := ⟨rfl, rfl, rfl, Nat.le_refl _, fun _ _ => rfl⟩
theorem drewN_two (w : World) (a b : Nat) : (w.drewN a).drewN b = w.drewN (a + b) := by simp [World.drewN, Nat.add_assoc]

end Go.Proofs.YtidmeodmkcomlaaGreatDoor
