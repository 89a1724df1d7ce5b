/- There are at most so many terms, and types: one more is refused: the law returns true at every input. -/
import Derived.Test.YtinajnkjfhbmkaaDoorLives
namespace Go.Proofs.YtinajnkjfhbmkaaDoor
open Go Go.Proofs Go.RowKit

def tmK0 (kd : Int) : TermD := ⟨kd, 0, ⟨#[]⟩, 0, 0, [], [], []⟩
def tyZ : TypD := ⟨0, 0, ⟨#[]⟩, [], [], false⟩

theorem field0 (A1 A2 A3 : Option Addr) (n1 c1 n2 c2 n3 c3 : Nat) (w : World) : (Instr.field 26 (.agg #[.slice A1 n1 c1, .slice A2 n2 c2, .slice A3 n3 c3]) 0).run Tryd.prog w = .ok (.slice A1 n1 c1) w := by kernel_rfl

set_option maxRecDepth 100000 in
set_option maxHeartbeats 4000000 in
theorem full_any (kd : Int) (w : World) (hE : Env w) : Calls Tryd.prog 5 #[.int .i64 kd] w fun e w' => e = .returned (.bool true) ∧ Below w.heap.size w w' := by
  have kL := lives_any w hE
  have hfd := field0
  obtain ⟨M, hM⟩ : ∃ M : Nat, M = 65536 := ⟨_, rfl⟩
  have hMe : (65536 : Int) = (M : Int) := by omega
  go_enter Tryd.func5, Tryd.ntmps5
  rw [hMe]
  have HM := Lib.hid hM
  have hMb : M ≤ 70000 := by omega
  clear hM hMe
  go_wp2_with fail
  refine kL.mono ?_
  rintro e w1 ⟨rfl, hb1⟩
  have kN := new_any w1
  obtain ⟨B, hB⟩ : ∃ B, w1.heap.size = B := ⟨_, rfl⟩
  rw [hB] at kN
  have hs1 := hb1.size
  rw [hB] at hs1
  clear kL hB
  go_wp2_with fail
  refine kN.mono ?_
  rintro e w2 ⟨rfl, hT2, hb2⟩
  have HT2 := Lib.hid hT2
  have hB2 : Below w.heap.size w w2 := hb1.trans (hb2.mono hs1)
  have hz2 := hT2.blk.lt
  clear kN hT2 hb1 hb2
  go_wp2
  go_loopw [4, 5, 13, 15] (fun _ _ i _ wr => ∃ (k : Nat) (r1 : List (TermD × Ptr3)) (v1 : Value), k ≤ M ∧ i = .int .i64 k ∧ Hid (r1.length = k ∧ ∀ x ∈ r1, x.1 = tmK0 kd) ∧ Hid (TreeOwn wr B B 66 v1 (.slice none 0 0) (.slice none 0 0) r1 [] []) ∧ Below B w2 wr) (fun _ _ i _ _ => M - (intOf i).toNat)
  case atStart => exact ⟨0, [], _, by omega, rfl, Lib.hid ⟨rfl, fun x hx => by simp at hx⟩, HT2, Below.refl _ _⟩
  case round =>
    obtain ⟨k, r1, v1, hk, rfl, HR, HT, hBr⟩ := hrel
    have hzr := HT.out.blk.lt
    by_cases hlt : k < M
    · have kA := term_any B B (tmK0 kd) ⟨none, 0, none, 0, none, 0⟩ wr HT.out (by rw [HR.out.1]; have := HM.out; omega) ⟨SlAt.nil, SlAt.nil, SlAt.nil⟩ (by simp [tmK0]) (by simp [tmK0]) (by simp [tmK0])
      obtain ⟨d, hd⟩ : ∃ d, M = k + 1 + d := ⟨M - (k + 1), by omega⟩
      have HL := Lib.hid hd
      clear hd
      unfold tmK0 termCells at kA
      dsimp only [List.length_nil] at kA
      go_wp2_with fail
      refine kA.mono ?_
      rintro e w3 ⟨p', v', rfl, hT3, hk3⟩
      have hb3 := hk3 B (Nat.le_refl _) (by omega)
      have HT3 := Lib.hid hT3
      have HR3 : Hid ((r1 ++ [((⟨kd, 0, ⟨#[]⟩, 0, 0, [], [], []⟩ : TermD), p')]).length = k + 1 ∧ ∀ x ∈ r1 ++ [((⟨kd, 0, ⟨#[]⟩, 0, 0, [], [], []⟩ : TermD), p')], x.1 = tmK0 kd) := Lib.hid ⟨by simp [HR.out.1], fun x hx => by
        rcases List.mem_append.1 hx with hx | hx
        · exact HR.out.2 x hx
        · simp only [List.mem_singleton] at hx; subst hx; rfl⟩
      clear kA hT3 hk3
      go_wp2
      go_roundw
      case rel => exact ⟨k + 1, _, v', by have := HL.out; omega, by go_num, HR3, HT3, hBr.trans hb3⟩
      case measure => have := HL.out; simp [intOf]; omega
    · have hkM : M = k := by omega
      subst hkM
      have kF := term_full B B (tmK0 0) ⟨none, 0, none, 0, none, 0⟩ wr HT.out (HR.out.1.trans HM.out)
      unfold tmK0 termCells at kF
      dsimp only [List.length_nil] at kF
      go_wp2_with fail
      refine kF.mono ?_
      rintro e w3 ⟨rfl, hb3⟩
      have hT3 := HT.out.below hb3
      have hzb := hb3.size
      have kY := type_any B B tyZ ⟨none, 0, none, 0⟩ w3 hT3 (by simp) ⟨SlAt.nil, SlAt.nil⟩ (by simp [tyZ]) (by simp [tyZ])
      unfold tyZ typCells at kY
      dsimp only [List.length_nil] at kY
      have hB3 : Below w.heap.size w w3 := (hB2.trans (hBr.mono hs1)).trans (hb3.mono (by omega))
      clear kF hT3 hb3
      go_wp2_with fail
      refine kY.mono ?_
      rintro e w4 ⟨p4, v4, rfl, hT4, hk4⟩
      have hb4 := hk4 w.heap.size hs1 (by omega)
      have kT := tree_any B B w4 hT4 (by rw [HR.out.1]; exact Nat.le_of_eq HM.out) (by simp) (by simp) (fun x hx => by rw [HR.out.2 x hx]; simp [tmK0]) (fun x hx => by
        simp only [List.nil_append, List.mem_singleton] at hx
        subst hx
        simp)
      obtain ⟨T, hTT⟩ : ∃ T : TreeD, (⟨r1.map (·.1), ([] ++ [((⟨0, 0, ⟨#[]⟩, [], [], false⟩ : TypD), p4)] : List (TypD × Ptr2)).map (·.1), []⟩ : TreeD) = T := ⟨_, rfl⟩
      have hlen : T.nodes.length = M := by rw [← hTT]; show (r1.map _).length = _; rw [List.length_map]; exact HR.out.1
      rw [hTT] at kT
      have hlb : ((T.nodes.length : Int) == (M : Int)) = true := by rw [hlen]; simp
      have hlb2 : (T.nodes.length == M) = true := by rw [hlen]; simp
      have hB4 : Below w.heap.size w w4 := hB3.trans hb4
      clear kY hTT hT4 hk4 hlen hb4
      go_wp2_with (go_at_call 18; refine kT.mono ?_; rintro e w5 ⟨p5, rfl, _, hb5⟩; simp only [treeV])
      go_ret
      exact ⟨rfl, hB4.trans (hb5.mono (by have := hB4.size; omega))⟩
end Go.Proofs.YtinajnkjfhbmkaaDoor
