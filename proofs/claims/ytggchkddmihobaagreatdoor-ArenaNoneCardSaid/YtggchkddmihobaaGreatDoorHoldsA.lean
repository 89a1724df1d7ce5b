/- Whether a part has what its shape asks: at every shape and part. -/
import Derived.Test.YtggchkddmihobaaGreatDoorShape
namespace Go.Proofs.YtggchkddmihobaaGreatDoor
open Go Go.Proofs Go.RowKit

/-- Has a part what its shape asks? b0, b1, b2: what is asked of its name, its names, its bits. -/
def holdsB (M K R T : Int) (n : Int) (kl tl : Nat) (b0 b1 b2 : Bool) : Bool :=
  decide (0 ≤ n ∧ n ≤ M ∧ K ≤ kl ∧ (kl : Int) ≤ K + R ∧ (tl : Int) = T) && (b0 && (b1 && b2))

set_option maxHeartbeats 4000000 in
theorem holds_yes (f0 f1 f2 : Value) (M K R T : Int) (kd pos n : Int) (nm : ByteArray) (y : Nat) (A5 A6 A7 : Option Addr) (n5 c5 kl c6 tl c7 : Nat) (b0 b1 b2 : Bool) (w : World)
    (hC : 0 ≤ n ∧ n ≤ M ∧ K ≤ kl ∧ (kl : Int) ≤ K + R ∧ (tl : Int) = T) (hK : 0 ≤ K ∧ K ≤ 2000) (hR : 0 ≤ R ∧ R ≤ 1)
    (k0 : ∀ W, Below w.heap.size w W → Calls Tryz.prog 115 #[f0, .string nm, .bool nm.toList.isEmpty] W fun e w' => e = .returned (.bool b0) ∧ Below W.heap.size W w')
    (k1 : ∀ W, Below w.heap.size w W → Calls Tryz.prog 116 #[f1, .slice A5 n5 c5, .bool ((n5 : Int) == 0)] W fun e w' => e = .returned (.bool b1) ∧ Below W.heap.size W w')
    (k2 : ∀ W, Below w.heap.size w W → Calls Tryz.prog 117 #[f2, .int .u64 (y : Int), .bool ((y : Int) == 0)] W fun e w' => e = .returned (.bool b2) ∧ Below W.heap.size W w') :
    Calls Tryz.prog 100 #[.agg #[f0, f1, f2, .int .i64 M, .int .i64 K, .int .i64 R, .int .i64 T], .agg #[.int .i64 kd, .int .i64 pos, .string nm, .int .i64 n, .int .u64 (y : Int), .slice A5 n5 c5, .slice A6 kl c6, .slice A7 tl c7]] w
      fun e w' => e = .returned (.bool (holdsB M K R T n kl tl b0 b1 b2)) ∧ Below w.heap.size w w' := by
  have hr0 := Below.refl w.heap.size w
  have hH : holdsB M K R T n kl tl b0 b1 b2 = (b0 && (b1 && b2)) := by unfold holdsB; rw [decide_eq_true hC, Bool.true_and]
  rw [hH]
  obtain ⟨h1, h2, h3, h4, h5⟩ := hC
  have h5' : ((tl : Int) == T) = true := by simpa using h5
  clear h5 hH
  cases b0
  · go_enter Tryz.func100, Tryz.ntmps100
    dsimp only [List.append]
    go_wp2_with (first
      | (go_at_call 115; refine (k0 _ (((Below.refl _ _).alloc (Nat.le_refl _) _).alloc (by simp) _)).mono ?_; rintro e w1 ⟨rfl, hb1⟩))
    go_ret
    exact ⟨rfl, (((Below.refl _ _).alloc (Nat.le_refl _) _).alloc (by simp) _).trans (hb1.mono (by simp; omega))⟩
  · cases b1
    · go_enter Tryz.func100, Tryz.ntmps100
      dsimp only [List.append]
      go_wp2_with (first
        | (go_at_call 115; refine (k0 _ (((Below.refl _ _).alloc (Nat.le_refl _) _).alloc (by simp) _)).mono ?_; rintro e w1 ⟨rfl, hb1⟩; obtain ⟨hc1, hf1⟩ := bcell hb1; have hB1 : Below w.heap.size w w1 := (((Below.refl _ _).alloc (Nat.le_refl _) _).alloc (by simp) _).trans (hb1.mono (by simp only [World.size_alloc]; omega)))
        | (go_at_call 116; refine (k1 _ hB1).mono ?_; rintro e w2 ⟨rfl, hb2⟩; obtain ⟨hc2, hf2⟩ := bcell hb2; have hB2 := hB1.trans (hb2.mono hB1.size)))
      go_ret
      exact ⟨rfl, hB2⟩
    · go_enter Tryz.func100, Tryz.ntmps100
      dsimp only [List.append]
      go_wp2_with fail
      refine (k0 _ (((Below.refl _ _).alloc (Nat.le_refl _) _).alloc (by simp) _)).mono ?_
      rintro e w1 ⟨rfl, hb1⟩
      obtain ⟨hc1, hf1⟩ := bcell hb1
      have hz1 := hb1.size
      simp only [World.size_alloc] at hz1
      have hB1 : Below w.heap.size w w1 := (((Below.refl _ _).alloc (Nat.le_refl _) _).alloc (by simp) _).trans (hb1.mono (by simp only [World.size_alloc]; omega))
      go_wp2_with fail
      refine (k1 _ hB1).mono ?_
      rintro e w2 ⟨rfl, hb2⟩
      obtain ⟨hc2, hf2⟩ := bcell hb2
      have hB2 := hB1.trans (hb2.mono hB1.size)
      have hz2 : w.heap.size + 1 < w1.heap.size := by omega
      have hz3 : w.heap.size < w1.heap.size := by omega
      go_wp2_with fail
      refine (k2 _ hB2).mono ?_
      rintro e w3 ⟨rfl, hb3⟩
      have hB3 := hB2.trans (hb3.mono hB2.size)
      go_wp2_with fail
      go_ret
      exact ⟨rfl, hB3⟩
end Go.Proofs.YtggchkddmihobaaGreatDoor
