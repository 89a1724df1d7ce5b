/- Whether a part has what its shape asks: where it has too little, or too much. -/
import Derived.Test.YtggchkddmihobaaGreatDoorHoldsA
namespace Go.Proofs.YtggchkddmihobaaGreatDoor
open Go Go.Proofs Go.RowKit

set_option maxHeartbeats 4000000 in
theorem holds_no1 (f0 f1 f2 : Value) (M K R T : Int) (kd pos n : Int) (nm : ByteArray) (y : Nat) (A5 A6 A7 : Option Addr) (n5 c5 kl c6 tl c7 : Nat) (b0 b1 b2 : Bool) (w : World)
    (h1 : n < 0) (_ : 0 ≤ K ∧ K ≤ 2000) (_ : 0 ≤ R ∧ R ≤ 1) :
    Calls Tryz.prog 100 #[.agg #[f0, f1, f2, .int .i64 M, .int .i64 K, .int .i64 R, .int .i64 T], .agg #[.int .i64 kd, .int .i64 pos, .string nm, .int .i64 n, .int .u64 (y : Int), .slice A5 n5 c5, .slice A6 kl c6, .slice A7 tl c7]] w
      fun e w' => e = .returned (.bool (holdsB M K R T n kl tl b0 b1 b2)) ∧ Below w.heap.size w w' := by
  have hH : holdsB M K R T n kl tl b0 b1 b2 = false := by unfold holdsB; rw [decide_eq_false (by omega), Bool.false_and]
  rw [hH]
  clear hH
  have hd : decide (0 ≤ n) = false := by simpa using h1
  go_enter Tryz.func100, Tryz.ntmps100
  dsimp only [List.append]
  go_wp2_with fail
  go_ret
  exact ⟨rfl, ((Below.refl _ _).alloc (Nat.le_refl _) _).alloc (by simp) _⟩

set_option maxHeartbeats 4000000 in
theorem holds_no2 (f0 f1 f2 : Value) (M K R T : Int) (kd pos n : Int) (nm : ByteArray) (y : Nat) (A5 A6 A7 : Option Addr) (n5 c5 kl c6 tl c7 : Nat) (b0 b1 b2 : Bool) (w : World)
    (h1 : 0 ≤ n) (h2 : M < n) (_ : 0 ≤ K ∧ K ≤ 2000) (_ : 0 ≤ R ∧ R ≤ 1) :
    Calls Tryz.prog 100 #[.agg #[f0, f1, f2, .int .i64 M, .int .i64 K, .int .i64 R, .int .i64 T], .agg #[.int .i64 kd, .int .i64 pos, .string nm, .int .i64 n, .int .u64 (y : Int), .slice A5 n5 c5, .slice A6 kl c6, .slice A7 tl c7]] w
      fun e w' => e = .returned (.bool (holdsB M K R T n kl tl b0 b1 b2)) ∧ Below w.heap.size w w' := by
  have hH : holdsB M K R T n kl tl b0 b1 b2 = false := by unfold holdsB; rw [decide_eq_false (by omega), Bool.false_and]
  rw [hH]
  clear hH
  have hd : decide (n ≤ M) = false := by simpa using h2
  go_enter Tryz.func100, Tryz.ntmps100
  dsimp only [List.append]
  go_wp2_with fail
  go_ret
  exact ⟨rfl, ((Below.refl _ _).alloc (Nat.le_refl _) _).alloc (by simp) _⟩

set_option maxHeartbeats 4000000 in
theorem holds_no3 (f0 f1 f2 : Value) (M K R T : Int) (kd pos n : Int) (nm : ByteArray) (y : Nat) (A5 A6 A7 : Option Addr) (n5 c5 kl c6 tl c7 : Nat) (b0 b1 b2 : Bool) (w : World)
    (h1 : 0 ≤ n) (h2 : n ≤ M) (h3 : (kl : Int) < K) (_ : 0 ≤ K ∧ K ≤ 2000) (_ : 0 ≤ R ∧ R ≤ 1) :
    Calls Tryz.prog 100 #[.agg #[f0, f1, f2, .int .i64 M, .int .i64 K, .int .i64 R, .int .i64 T], .agg #[.int .i64 kd, .int .i64 pos, .string nm, .int .i64 n, .int .u64 (y : Int), .slice A5 n5 c5, .slice A6 kl c6, .slice A7 tl c7]] w
      fun e w' => e = .returned (.bool (holdsB M K R T n kl tl b0 b1 b2)) ∧ Below w.heap.size w w' := by
  have hH : holdsB M K R T n kl tl b0 b1 b2 = false := by unfold holdsB; rw [decide_eq_false (by omega), Bool.false_and]
  rw [hH]
  clear hH
  have hd : decide (K ≤ (kl : Int)) = false := by simpa using h3
  go_enter Tryz.func100, Tryz.ntmps100
  dsimp only [List.append]
  go_wp2_with fail
  go_ret
  exact ⟨rfl, ((Below.refl _ _).alloc (Nat.le_refl _) _).alloc (by simp) _⟩

set_option maxHeartbeats 4000000 in
theorem holds_no4 (f0 f1 f2 : Value) (M K R T : Int) (kd pos n : Int) (nm : ByteArray) (y : Nat) (A5 A6 A7 : Option Addr) (n5 c5 kl c6 tl c7 : Nat) (b0 b1 b2 : Bool) (w : World)
    (h1 : 0 ≤ n) (h2 : n ≤ M) (h3 : K ≤ kl) (h4 : K + R < kl) (hK : 0 ≤ K ∧ K ≤ 2000) (hR : 0 ≤ R ∧ R ≤ 1) :
    Calls Tryz.prog 100 #[.agg #[f0, f1, f2, .int .i64 M, .int .i64 K, .int .i64 R, .int .i64 T], .agg #[.int .i64 kd, .int .i64 pos, .string nm, .int .i64 n, .int .u64 (y : Int), .slice A5 n5 c5, .slice A6 kl c6, .slice A7 tl c7]] w
      fun e w' => e = .returned (.bool (holdsB M K R T n kl tl b0 b1 b2)) ∧ Below w.heap.size w w' := by
  have hH : holdsB M K R T n kl tl b0 b1 b2 = false := by unfold holdsB; rw [decide_eq_false (by omega), Bool.false_and]
  rw [hH]
  clear hH
  have hd : decide ((kl : Int) ≤ K + R) = false := by simpa using h4
  go_enter Tryz.func100, Tryz.ntmps100
  dsimp only [List.append]
  go_wp2_with fail
  go_ret
  exact ⟨rfl, ((Below.refl _ _).alloc (Nat.le_refl _) _).alloc (by simp) _⟩

set_option maxHeartbeats 4000000 in
theorem holds_no5 (f0 f1 f2 : Value) (M K R T : Int) (kd pos n : Int) (nm : ByteArray) (y : Nat) (A5 A6 A7 : Option Addr) (n5 c5 kl c6 tl c7 : Nat) (b0 b1 b2 : Bool) (w : World)
    (h1 : 0 ≤ n) (h2 : n ≤ M) (h3 : K ≤ kl) (h4 : (kl : Int) ≤ K + R) (h5 : ((tl : Int) == T) = false) (hK : 0 ≤ K ∧ K ≤ 2000) (hR : 0 ≤ R ∧ R ≤ 1) :
    Calls Tryz.prog 100 #[.agg #[f0, f1, f2, .int .i64 M, .int .i64 K, .int .i64 R, .int .i64 T], .agg #[.int .i64 kd, .int .i64 pos, .string nm, .int .i64 n, .int .u64 (y : Int), .slice A5 n5 c5, .slice A6 kl c6, .slice A7 tl c7]] w
      fun e w' => e = .returned (.bool (holdsB M K R T n kl tl b0 b1 b2)) ∧ Below w.heap.size w w' := by
  have hH : holdsB M K R T n kl tl b0 b1 b2 = false := by unfold holdsB; rw [decide_eq_false (by (rintro ⟨_, _, _, _, h⟩; rw [h] at h5; simp at h5)), Bool.false_and]
  rw [hH]
  clear hH
  go_enter Tryz.func100, Tryz.ntmps100
  dsimp only [List.append]
  go_wp2_with fail
  go_ret
  exact ⟨rfl, ((Below.refl _ _).alloc (Nat.le_refl _) _).alloc (by simp) _⟩

theorem holds_no (f0 f1 f2 : Value) (M K R T : Int) (kd pos n : Int) (nm : ByteArray) (y : Nat) (A5 A6 A7 : Option Addr) (n5 c5 kl c6 tl c7 : Nat) (b0 b1 b2 : Bool) (w : World)
    (hC : ¬ (0 ≤ n ∧ n ≤ M ∧ K ≤ kl ∧ (kl : Int) ≤ K + R ∧ (tl : Int) = T)) (hK : 0 ≤ K ∧ K ≤ 2000) (hR : 0 ≤ R ∧ R ≤ 1) :
    Calls Tryz.prog 100 #[.agg #[f0, f1, f2, .int .i64 M, .int .i64 K, .int .i64 R, .int .i64 T], .agg #[.int .i64 kd, .int .i64 pos, .string nm, .int .i64 n, .int .u64 (y : Int), .slice A5 n5 c5, .slice A6 kl c6, .slice A7 tl c7]] w
      fun e w' => e = .returned (.bool (holdsB M K R T n kl tl b0 b1 b2)) ∧ Below w.heap.size w w' := by
  by_cases h1 : 0 ≤ n
  · by_cases h2 : n ≤ M
    · by_cases h3 : K ≤ kl
      · by_cases h4 : (kl : Int) ≤ K + R
        · exact holds_no5 f0 f1 f2 M K R T kd pos n nm y A5 A6 A7 n5 c5 kl c6 tl c7 b0 b1 b2 w h1 h2 h3 h4 (by simp only [beq_eq_false_iff_ne, ne_eq]; exact fun h => hC ⟨h1, h2, h3, h4, h⟩) hK hR
        · exact holds_no4 f0 f1 f2 M K R T kd pos n nm y A5 A6 A7 n5 c5 kl c6 tl c7 b0 b1 b2 w h1 h2 h3 (by omega) hK hR
      · exact holds_no3 f0 f1 f2 M K R T kd pos n nm y A5 A6 A7 n5 c5 kl c6 tl c7 b0 b1 b2 w h1 h2 (by omega) hK hR
    · exact holds_no2 f0 f1 f2 M K R T kd pos n nm y A5 A6 A7 n5 c5 kl c6 tl c7 b0 b1 b2 w h1 (by omega) hK hR
  · exact holds_no1 f0 f1 f2 M K R T kd pos n nm y A5 A6 A7 n5 c5 kl c6 tl c7 b0 b1 b2 w (by omega) hK hR

set_option maxHeartbeats 4000000 in
theorem holds_any (f0 f1 f2 : Value) (M K R T : Int) (kd pos n : Int) (nm : ByteArray) (y : Nat) (A5 A6 A7 : Option Addr) (n5 c5 kl c6 tl c7 : Nat) (b0 b1 b2 : Bool) (w : World)
    (hK : 0 ≤ K ∧ K ≤ 2000) (hR : 0 ≤ R ∧ R ≤ 1)
    (k0 : ∀ W, Below w.heap.size w W → Calls Tryz.prog 115 #[f0, .string nm, .bool nm.toList.isEmpty] W fun e w' => e = .returned (.bool b0) ∧ Below W.heap.size W w')
    (k1 : ∀ W, Below w.heap.size w W → Calls Tryz.prog 116 #[f1, .slice A5 n5 c5, .bool ((n5 : Int) == 0)] W fun e w' => e = .returned (.bool b1) ∧ Below W.heap.size W w')
    (k2 : ∀ W, Below w.heap.size w W → Calls Tryz.prog 117 #[f2, .int .u64 (y : Int), .bool ((y : Int) == 0)] W fun e w' => e = .returned (.bool b2) ∧ Below W.heap.size W w') :
    Calls Tryz.prog 100 #[.agg #[f0, f1, f2, .int .i64 M, .int .i64 K, .int .i64 R, .int .i64 T], .agg #[.int .i64 kd, .int .i64 pos, .string nm, .int .i64 n, .int .u64 (y : Int), .slice A5 n5 c5, .slice A6 kl c6, .slice A7 tl c7]] w
      fun e w' => e = .returned (.bool (holdsB M K R T n kl tl b0 b1 b2)) ∧ Below w.heap.size w w' := by
  by_cases hC : 0 ≤ n ∧ n ≤ M ∧ K ≤ kl ∧ (kl : Int) ≤ K + R ∧ (tl : Int) = T
  · exact holds_yes f0 f1 f2 M K R T kd pos n nm y A5 A6 A7 n5 c5 kl c6 tl c7 b0 b1 b2 w hC hK hR k0 k1 k2
  · exact holds_no f0 f1 f2 M K R T kd pos n nm y A5 A6 A7 n5 c5 kl c6 tl c7 b0 b1 b2 w hC hK hR
end Go.Proofs.YtggchkddmihobaaGreatDoor
