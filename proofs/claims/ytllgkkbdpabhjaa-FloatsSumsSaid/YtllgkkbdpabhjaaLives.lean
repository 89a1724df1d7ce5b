/- The chapter's example holds: 0.1 and 0.2 are 0.3, but for the last digit. -/
import Derived.Test.YtllgkkbdpabhjaaText
import Derived.KernelRfl
namespace Go.Proofs.Ytllgkkbdpabhjaa
open Go Go.Proofs Go.RowKit

def exA : ByteArray := { data := #[102, 39, 51, 102, 98, 57, 57, 57, 57, 57, 57, 57, 57, 57, 57, 57, 57, 97] }
def exB : ByteArray := { data := #[102, 39, 51, 102, 99, 57, 57, 57, 57, 57, 57, 57, 57, 57, 57, 57, 57, 97] }
def exC : ByteArray := { data := #[102, 39, 51, 102, 100, 51, 51, 51, 51, 51, 51, 51, 51, 51, 51, 51, 51, 52] }

theorem exA_parse : parseV exA = some 4591870180066957722 := by decide +kernel
theorem exB_parse : parseV exB = some 4596373779694328218 := by decide +kernel
theorem ex_add : opB .add 4591870180066957722 4596373779694328218 = 4599075939470750516 := by decide +kernel
theorem ex_norm : norm 4591870180066957722 = 4591870180066957722 := by decide +kernel
theorem ex_text : strN (txt (norm 4599075939470750516) 16) = exC := by decide +kernel
theorem ex_norm2 : norm 4596373779694328218 = 4596373779694328218 := by decide +kernel

theorem lives_any (w : World) : Calls Try.prog 9 #[] w fun e w' => e = .returned (.bool true) ∧ Below w.heap.size w w' := by
  have p1 : ∀ W, Calls Try.prog 25 #[.string exA] W fun e w' => e = .returned (.tuple #[.int .u64 ((4591870180066957722 : Nat) : Int), .int .i64 0]) ∧ W = w' := fun W => by
    have := parse_any exA (by decide) W
    rw [exA_parse] at this
    refine this.mono fun e w' h => ?_
    unfold ParsePost at h
    dsimp only at h
    rwa [ex_norm] at h
  have p2 : ∀ W, Calls Try.prog 25 #[.string exB] W fun e w' => e = .returned (.tuple #[.int .u64 ((4596373779694328218 : Nat) : Int), .int .i64 0]) ∧ W = w' := fun W => by
    have := parse_any exB (by decide) W
    rw [exB_parse] at this
    refine this.mono fun e w' h => ?_
    unfold ParsePost at h
    dsimp only at h
    rwa [ex_norm2] at h
  have p3 := add_any 4591870180066957722 4596373779694328218
  rw [ex_add] at p3
  have p4 := text_any 4599075939470750516 (by decide)
  rw [ex_text] at p4
  generalize (4591870180066957722 : Nat) = a at p1 p3
  generalize (4596373779694328218 : Nat) = b at p2 p3
  generalize (4599075939470750516 : Nat) = c at p3 p4
  have hc : (exC.toList == [102, 39, 51, 102, 100, 51, 51, 51, 51, 51, 51, 51, 51, 51, 51, 51, 51, 52]) = true := by
    rw [ByteArray.toList_eq]
    decide
  go_enter Try.func9, Try.ntmps9
  go_wp2_with fail
  refine (p1 _).mono ?_
  rintro e w' ⟨rfl, rfl⟩
  go_wp2_with fail
  refine (p2 _).mono ?_
  rintro e w' ⟨rfl, rfl⟩
  go_wp2_with fail
  refine (p3 _).mono ?_
  rintro e w1 ⟨rfl, hb1⟩
  go_wp2_with fail
  refine (p4 _).mono ?_
  rintro e w2 ⟨rfl, hb2⟩
  go_wp2_with fail
  go_ret
  refine ⟨?_, hb1.trans (hb2.mono hb1.size)⟩
  rfl
end Go.Proofs.Ytllgkkbdpabhjaa
