/- What a kind asks, and whether a part has it: at every kind. -/
import Derived.Test.YtggchkddmihobaaGreatDoorLine
import Derived.LaidEqlPtr
namespace Go.Proofs.YtggchkddmihobaaGreatDoor
open Go Go.Proofs Go.RowKit

set_option maxHeartbeats 1000000 in
theorem shape0 (pos x : Int) (nm : ByteArray) (y : Nat) (A : Option Addr) (n c : Nat) (v6 v7 : Value) (w : World) :
    Calls Tryz.prog 99 #[.agg #[.int .i64 0, .int .i64 pos, .string nm, .int .i64 x, .int .u64 (y : Int), .slice A n c, v6, v7]] w fun e w' => e = .returned (.tuple #[.agg #[.func (.func 108) #[] #[], .nilFunc, .nilFunc, .int .i64 (0), .int .i64 (0), .int .i64 (0), .int .i64 (0)], .bool true]) ∧ Below w.heap.size w w' := by
  go_enter Tryz.func99, Tryz.ntmps99
  go_wp2
  exact bodyPost_ret (by simp [results, Tryz.results99, go_sem]) rfl ⟨rfl, ((Below.refl _ _).alloc (Nat.le_refl _) _).alloc (by simp) _⟩

set_option maxHeartbeats 1000000 in
theorem shape1 (pos x : Int) (nm : ByteArray) (y : Nat) (A : Option Addr) (n c : Nat) (v6 v7 : Value) (w : World) :
    Calls Tryz.prog 99 #[.agg #[.int .i64 1, .int .i64 pos, .string nm, .int .i64 x, .int .u64 (y : Int), .slice A n c, v6, v7]] w fun e w' => e = .returned (.tuple #[.agg #[.nilFunc, .nilFunc, .nilFunc, .int .i64 (9223372036854775807), .int .i64 (0), .int .i64 (0), .int .i64 (0)], .bool true]) ∧ Below w.heap.size w w' := by
  go_enter Tryz.func99, Tryz.ntmps99
  go_wp2
  exact bodyPost_ret (by simp [results, Tryz.results99, go_sem]) rfl ⟨rfl, ((Below.refl _ _).alloc (Nat.le_refl _) _).alloc (by simp) _⟩

set_option maxHeartbeats 1000000 in
theorem shape2 (pos x : Int) (nm : ByteArray) (y : Nat) (A : Option Addr) (n c : Nat) (v6 v7 : Value) (w : World) :
    Calls Tryz.prog 99 #[.agg #[.int .i64 2, .int .i64 pos, .string nm, .int .i64 x, .int .u64 (y : Int), .slice A n c, v6, v7]] w fun e w' => e = .returned (.tuple #[.agg #[.nilFunc, .nilFunc, .nilFunc, .int .i64 (1), .int .i64 (0), .int .i64 (0), .int .i64 (0)], .bool true]) ∧ Below w.heap.size w w' := by
  go_enter Tryz.func99, Tryz.ntmps99
  go_wp2
  exact bodyPost_ret (by simp [results, Tryz.results99, go_sem]) rfl ⟨rfl, ((Below.refl _ _).alloc (Nat.le_refl _) _).alloc (by simp) _⟩

set_option maxHeartbeats 1000000 in
theorem shape3 (pos x : Int) (nm : ByteArray) (y : Nat) (A : Option Addr) (n c : Nat) (v6 v7 : Value) (w : World) :
    Calls Tryz.prog 99 #[.agg #[.int .i64 3, .int .i64 pos, .string nm, .int .i64 x, .int .u64 (y : Int), .slice A n c, v6, v7]] w fun e w' => e = .returned (.tuple #[.agg #[.func (.func 109) #[] #[], .nilFunc, .nilFunc, .int .i64 (0), .int .i64 (0), .int .i64 (0), .int .i64 (0)], .bool true]) ∧ Below w.heap.size w w' := by
  go_enter Tryz.func99, Tryz.ntmps99
  go_wp2
  exact bodyPost_ret (by simp [results, Tryz.results99, go_sem]) rfl ⟨rfl, ((Below.refl _ _).alloc (Nat.le_refl _) _).alloc (by simp) _⟩

set_option maxHeartbeats 1000000 in
theorem shape4 (pos x : Int) (nm : ByteArray) (y : Nat) (A : Option Addr) (n c : Nat) (v6 v7 : Value) (w : World) :
    Calls Tryz.prog 99 #[.agg #[.int .i64 4, .int .i64 pos, .string nm, .int .i64 x, .int .u64 (y : Int), .slice A n c, v6, v7]] w fun e w' => e = .returned (.tuple #[.agg #[.nilFunc, .nilFunc, .func (.func 110) #[] #[], .int .i64 (0), .int .i64 (0), .int .i64 (0), .int .i64 (0)], .bool true]) ∧ Below w.heap.size w w' := by
  go_enter Tryz.func99, Tryz.ntmps99
  go_wp2
  exact bodyPost_ret (by simp [results, Tryz.results99, go_sem]) rfl ⟨rfl, ((Below.refl _ _).alloc (Nat.le_refl _) _).alloc (by simp) _⟩

set_option maxHeartbeats 1000000 in
theorem shape5 (pos x : Int) (nm : ByteArray) (y : Nat) (A : Option Addr) (n c : Nat) (v6 v7 : Value) (w : World) :
    Calls Tryz.prog 99 #[.agg #[.int .i64 5, .int .i64 pos, .string nm, .int .i64 x, .int .u64 (y : Int), .slice A n c, v6, v7]] w fun e w' => e = .returned (.tuple #[.agg #[.func (.func 108) #[] #[], .nilFunc, .nilFunc, .int .i64 (0), .int .i64 (1), .int .i64 (0), .int .i64 (0)], .bool true]) ∧ Below w.heap.size w w' := by
  go_enter Tryz.func99, Tryz.ntmps99
  go_wp2
  exact bodyPost_ret (by simp [results, Tryz.results99, go_sem]) rfl ⟨rfl, ((Below.refl _ _).alloc (Nat.le_refl _) _).alloc (by simp) _⟩

set_option maxHeartbeats 1000000 in
theorem shape6 (pos x : Int) (nm : ByteArray) (y : Nat) (A : Option Addr) (n c : Nat) (v6 v7 : Value) (w : World) :
    Calls Tryz.prog 99 #[.agg #[.int .i64 6, .int .i64 pos, .string nm, .int .i64 x, .int .u64 (y : Int), .slice A n c, v6, v7]] w fun e w' => e = .returned (.tuple #[.agg #[.nilFunc, .nilFunc, .nilFunc, .int .i64 (0), .int .i64 (2), .int .i64 (0), .int .i64 (0)], .bool true]) ∧ Below w.heap.size w w' := by
  go_enter Tryz.func99, Tryz.ntmps99
  go_wp2
  exact bodyPost_ret (by simp [results, Tryz.results99, go_sem]) rfl ⟨rfl, ((Below.refl _ _).alloc (Nat.le_refl _) _).alloc (by simp) _⟩

set_option maxHeartbeats 1000000 in
theorem shape7 (pos x : Int) (nm : ByteArray) (y : Nat) (A : Option Addr) (n c : Nat) (v6 v7 : Value) (w : World) :
    Calls Tryz.prog 99 #[.agg #[.int .i64 7, .int .i64 pos, .string nm, .int .i64 x, .int .u64 (y : Int), .slice A n c, v6, v7]] w fun e w' => e = .returned (.tuple #[.agg #[.func (.func 108) #[] #[], .nilFunc, .nilFunc, .int .i64 (0), .int .i64 (2), .int .i64 (0), .int .i64 (0)], .bool true]) ∧ Below w.heap.size w w' := by
  go_enter Tryz.func99, Tryz.ntmps99
  go_wp2
  exact bodyPost_ret (by simp [results, Tryz.results99, go_sem]) rfl ⟨rfl, ((Below.refl _ _).alloc (Nat.le_refl _) _).alloc (by simp) _⟩

set_option maxHeartbeats 1000000 in
theorem shape8 (pos x : Int) (nm : ByteArray) (y : Nat) (A : Option Addr) (n c : Nat) (v6 v7 : Value) (w : World) :
    Calls Tryz.prog 99 #[.agg #[.int .i64 8, .int .i64 pos, .string nm, .int .i64 x, .int .u64 (y : Int), .slice A n c, v6, v7]] w fun e w' => e = .returned (.tuple #[.agg #[.func (.func 108) #[] #[], .nilFunc, .nilFunc, .int .i64 (0), .int .i64 (2), .int .i64 (0), .int .i64 (0)], .bool true]) ∧ Below w.heap.size w w' := by
  go_enter Tryz.func99, Tryz.ntmps99
  go_wp2
  exact bodyPost_ret (by simp [results, Tryz.results99, go_sem]) rfl ⟨rfl, ((Below.refl _ _).alloc (Nat.le_refl _) _).alloc (by simp) _⟩

set_option maxHeartbeats 1000000 in
theorem shape9 (pos x : Int) (nm : ByteArray) (y : Nat) (A : Option Addr) (n c : Nat) (v6 v7 : Value) (w : World) :
    Calls Tryz.prog 99 #[.agg #[.int .i64 9, .int .i64 pos, .string nm, .int .i64 x, .int .u64 (y : Int), .slice A n c, v6, v7]] w fun e w' => e = .returned (.tuple #[.agg #[.nilFunc, .nilFunc, .nilFunc, .int .i64 (0), .int .i64 (3), .int .i64 (0), .int .i64 (0)], .bool true]) ∧ Below w.heap.size w w' := by
  go_enter Tryz.func99, Tryz.ntmps99
  go_wp2
  exact bodyPost_ret (by simp [results, Tryz.results99, go_sem]) rfl ⟨rfl, ((Below.refl _ _).alloc (Nat.le_refl _) _).alloc (by simp) _⟩

set_option maxHeartbeats 1000000 in
theorem shape10 (pos x : Int) (nm : ByteArray) (y : Nat) (A : Option Addr) (n c : Nat) (v6 v7 : Value) (hn : n ≤ 1000) (w : World) :
    Calls Tryz.prog 99 #[.agg #[.int .i64 10, .int .i64 pos, .string nm, .int .i64 x, .int .u64 (y : Int), .slice A n c, v6, v7]] w fun e w' => e = .returned (.tuple #[.agg #[.nilFunc, .func (.func 111) #[] #[], .nilFunc, .int .i64 (0), .int .i64 (1 + (n : Int) / 2), .int .i64 (1), .int .i64 (0)], .bool true]) ∧ Below w.heap.size w w' := by
  go_enter Tryz.func99, Tryz.ntmps99
  go_wp2
  exact bodyPost_ret (by simp [results, Tryz.results99, go_sem]) rfl ⟨rfl, ((Below.refl _ _).alloc (Nat.le_refl _) _).alloc (by simp) _⟩

set_option maxHeartbeats 1000000 in
theorem shape11 (pos x : Int) (nm : ByteArray) (y : Nat) (A : Option Addr) (n c : Nat) (v6 v7 : Value) (w : World) :
    Calls Tryz.prog 99 #[.agg #[.int .i64 11, .int .i64 pos, .string nm, .int .i64 x, .int .u64 (y : Int), .slice A n c, v6, v7]] w fun e w' => e = .returned (.tuple #[.agg #[.func (.func 112) #[] #[], .nilFunc, .nilFunc, .int .i64 (0), .int .i64 (1), .int .i64 (0), .int .i64 (0)], .bool true]) ∧ Below w.heap.size w w' := by
  go_enter Tryz.func99, Tryz.ntmps99
  go_wp2
  exact bodyPost_ret (by simp [results, Tryz.results99, go_sem]) rfl ⟨rfl, ((Below.refl _ _).alloc (Nat.le_refl _) _).alloc (by simp) _⟩

set_option maxHeartbeats 1000000 in
theorem shape12 (pos x : Int) (nm : ByteArray) (y : Nat) (A : Option Addr) (n c : Nat) (v6 v7 : Value) (w : World) :
    Calls Tryz.prog 99 #[.agg #[.int .i64 12, .int .i64 pos, .string nm, .int .i64 x, .int .u64 (y : Int), .slice A n c, v6, v7]] w fun e w' => e = .returned (.tuple #[.agg #[.nilFunc, .func (.func 113) #[] #[], .nilFunc, .int .i64 (0), .int .i64 ((n : Int)), .int .i64 (0), .int .i64 (0)], .bool true]) ∧ Below w.heap.size w w' := by
  go_enter Tryz.func99, Tryz.ntmps99
  go_wp2
  exact bodyPost_ret (by simp [results, Tryz.results99, go_sem]) rfl ⟨rfl, ((Below.refl _ _).alloc (Nat.le_refl _) _).alloc (by simp) _⟩

set_option maxHeartbeats 1000000 in
theorem shape13 (pos x : Int) (nm : ByteArray) (y : Nat) (A : Option Addr) (n c : Nat) (v6 v7 : Value) (w : World) :
    Calls Tryz.prog 99 #[.agg #[.int .i64 13, .int .i64 pos, .string nm, .int .i64 x, .int .u64 (y : Int), .slice A n c, v6, v7]] w fun e w' => e = .returned (.tuple #[.agg #[.func (.func 108) #[] #[], .nilFunc, .nilFunc, .int .i64 (0), .int .i64 (1), .int .i64 (0), .int .i64 (0)], .bool true]) ∧ Below w.heap.size w w' := by
  go_enter Tryz.func99, Tryz.ntmps99
  go_wp2
  exact bodyPost_ret (by simp [results, Tryz.results99, go_sem]) rfl ⟨rfl, ((Below.refl _ _).alloc (Nat.le_refl _) _).alloc (by simp) _⟩

set_option maxHeartbeats 1000000 in
theorem shape14 (pos x : Int) (nm : ByteArray) (y : Nat) (A : Option Addr) (n c : Nat) (v6 v7 : Value) (w : World) :
    Calls Tryz.prog 99 #[.agg #[.int .i64 14, .int .i64 pos, .string nm, .int .i64 x, .int .u64 (y : Int), .slice A n c, v6, v7]] w fun e w' => e = .returned (.tuple #[.agg #[.func (.func 114) #[] #[], .nilFunc, .nilFunc, .int .i64 (0), .int .i64 (2), .int .i64 (0), .int .i64 (0)], .bool true]) ∧ Below w.heap.size w w' := by
  go_enter Tryz.func99, Tryz.ntmps99
  go_wp2
  exact bodyPost_ret (by simp [results, Tryz.results99, go_sem]) rfl ⟨rfl, ((Below.refl _ _).alloc (Nat.le_refl _) _).alloc (by simp) _⟩

set_option maxHeartbeats 1000000 in
theorem shape15 (pos x : Int) (nm : ByteArray) (y : Nat) (A : Option Addr) (n c : Nat) (v6 v7 : Value) (w : World) :
    Calls Tryz.prog 99 #[.agg #[.int .i64 15, .int .i64 pos, .string nm, .int .i64 x, .int .u64 (y : Int), .slice A n c, v6, v7]] w fun e w' => e = .returned (.tuple #[.agg #[.nilFunc, .nilFunc, .nilFunc, .int .i64 (0), .int .i64 (1), .int .i64 (0), .int .i64 (1)], .bool true]) ∧ Below w.heap.size w w' := by
  go_enter Tryz.func99, Tryz.ntmps99
  go_wp2
  exact bodyPost_ret (by simp [results, Tryz.results99, go_sem]) rfl ⟨rfl, ((Below.refl _ _).alloc (Nat.le_refl _) _).alloc (by simp) _⟩

set_option maxHeartbeats 1000000 in
theorem shape16 (pos x : Int) (nm : ByteArray) (y : Nat) (A : Option Addr) (n c : Nat) (v6 v7 : Value) (w : World) :
    Calls Tryz.prog 99 #[.agg #[.int .i64 16, .int .i64 pos, .string nm, .int .i64 x, .int .u64 (y : Int), .slice A n c, v6, v7]] w fun e w' => e = .returned (.tuple #[.agg #[.nilFunc, .nilFunc, .nilFunc, .int .i64 (0), .int .i64 (1), .int .i64 (0), .int .i64 (2)], .bool true]) ∧ Below w.heap.size w w' := by
  go_enter Tryz.func99, Tryz.ntmps99
  go_wp2
  exact bodyPost_ret (by simp [results, Tryz.results99, go_sem]) rfl ⟨rfl, ((Below.refl _ _).alloc (Nat.le_refl _) _).alloc (by simp) _⟩

set_option maxHeartbeats 1000000 in
theorem shape_no (K pos x : Int) (nm : ByteArray) (y : Nat) (A : Option Addr) (n c : Nat) (v6 v7 : Value) (w : World) (hK : ¬ (0 ≤ K ∧ K ≤ 16)) :
    Calls Tryz.prog 99 #[.agg #[.int .i64 K, .int .i64 pos, .string nm, .int .i64 x, .int .u64 (y : Int), .slice A n c, v6, v7]] w fun e w' => e = .returned (.tuple #[.agg #[.nilFunc, .nilFunc, .nilFunc, .int .i64 (0), .int .i64 (0), .int .i64 (0), .int .i64 (0)], .bool false]) ∧ Below w.heap.size w w' := by
  have k0 : ((K : Int) == 0) = false := by simp; omega
  have k1 : ((K : Int) == 1) = false := by simp; omega
  have k2 : ((K : Int) == 2) = false := by simp; omega
  have k3 : ((K : Int) == 3) = false := by simp; omega
  have k4 : ((K : Int) == 4) = false := by simp; omega
  have k5 : ((K : Int) == 5) = false := by simp; omega
  have k6 : ((K : Int) == 6) = false := by simp; omega
  have k7 : ((K : Int) == 7) = false := by simp; omega
  have k8 : ((K : Int) == 8) = false := by simp; omega
  have k9 : ((K : Int) == 9) = false := by simp; omega
  have k10 : ((K : Int) == 10) = false := by simp; omega
  have k11 : ((K : Int) == 11) = false := by simp; omega
  have k12 : ((K : Int) == 12) = false := by simp; omega
  have k13 : ((K : Int) == 13) = false := by simp; omega
  have k14 : ((K : Int) == 14) = false := by simp; omega
  have k15 : ((K : Int) == 15) = false := by simp; omega
  have k16 : ((K : Int) == 16) = false := by simp; omega
  clear hK
  go_enter Tryz.func99, Tryz.ntmps99
  go_wp2
  exact bodyPost_ret (by simp [results, Tryz.results99, go_sem]) rfl ⟨rfl, ((Below.refl _ _).alloc (Nat.le_refl _) _).alloc (by simp) _⟩

set_option maxHeartbeats 1000000 in
theorem tshape0 (pos : Int) (nm : ByteArray) (A : Option Addr) (n c : Nat) (v4 : Value) (o : Bool) (w : World) :
    Calls Tryz.prog 101 #[.agg #[.int .i64 0, .int .i64 pos, .string nm, .slice A n c, v4, .bool o]] w fun e w' => e = .returned (.tuple #[.agg #[.nilFunc, .nilFunc, .nilFunc, .int .i64 (0), .int .i64 (0), .int .i64 (0), .int .i64 (0)], .bool true]) ∧ Below w.heap.size w w' := by
  go_enter Tryz.func101, Tryz.ntmps101
  go_wp2
  exact bodyPost_ret (by simp [results, Tryz.results101, go_sem]) rfl ⟨rfl, ((Below.refl _ _).alloc (Nat.le_refl _) _).alloc (by simp) _⟩

set_option maxHeartbeats 1000000 in
theorem tshape1 (pos : Int) (nm : ByteArray) (A : Option Addr) (n c : Nat) (v4 : Value) (o : Bool) (w : World) :
    Calls Tryz.prog 101 #[.agg #[.int .i64 1, .int .i64 pos, .string nm, .slice A n c, v4, .bool o]] w fun e w' => e = .returned (.tuple #[.agg #[.nilFunc, .nilFunc, .nilFunc, .int .i64 (0), .int .i64 (0), .int .i64 (0), .int .i64 (0)], .bool true]) ∧ Below w.heap.size w w' := by
  go_enter Tryz.func101, Tryz.ntmps101
  go_wp2
  exact bodyPost_ret (by simp [results, Tryz.results101, go_sem]) rfl ⟨rfl, ((Below.refl _ _).alloc (Nat.le_refl _) _).alloc (by simp) _⟩

set_option maxHeartbeats 1000000 in
theorem tshape2 (pos : Int) (nm : ByteArray) (A : Option Addr) (n c : Nat) (v4 : Value) (o : Bool) (w : World) :
    Calls Tryz.prog 101 #[.agg #[.int .i64 2, .int .i64 pos, .string nm, .slice A n c, v4, .bool o]] w fun e w' => e = .returned (.tuple #[.agg #[.nilFunc, .nilFunc, .nilFunc, .int .i64 (0), .int .i64 (0), .int .i64 (0), .int .i64 (0)], .bool true]) ∧ Below w.heap.size w w' := by
  go_enter Tryz.func101, Tryz.ntmps101
  go_wp2
  exact bodyPost_ret (by simp [results, Tryz.results101, go_sem]) rfl ⟨rfl, ((Below.refl _ _).alloc (Nat.le_refl _) _).alloc (by simp) _⟩

set_option maxHeartbeats 1000000 in
theorem tshape3 (pos : Int) (nm : ByteArray) (A : Option Addr) (n c : Nat) (v4 : Value) (o : Bool) (w : World) :
    Calls Tryz.prog 101 #[.agg #[.int .i64 3, .int .i64 pos, .string nm, .slice A n c, v4, .bool o]] w fun e w' => e = .returned (.tuple #[.agg #[.nilFunc, .nilFunc, .nilFunc, .int .i64 (0), .int .i64 (0), .int .i64 (0), .int .i64 (0)], .bool true]) ∧ Below w.heap.size w w' := by
  go_enter Tryz.func101, Tryz.ntmps101
  go_wp2
  exact bodyPost_ret (by simp [results, Tryz.results101, go_sem]) rfl ⟨rfl, ((Below.refl _ _).alloc (Nat.le_refl _) _).alloc (by simp) _⟩

set_option maxHeartbeats 1000000 in
theorem tshape4 (pos : Int) (nm : ByteArray) (A : Option Addr) (n c : Nat) (v4 : Value) (o : Bool) (w : World) :
    Calls Tryz.prog 101 #[.agg #[.int .i64 4, .int .i64 pos, .string nm, .slice A n c, v4, .bool o]] w fun e w' => e = .returned (.tuple #[.agg #[.nilFunc, .nilFunc, .nilFunc, .int .i64 (0), .int .i64 (0), .int .i64 (0), .int .i64 (0)], .bool true]) ∧ Below w.heap.size w w' := by
  go_enter Tryz.func101, Tryz.ntmps101
  go_wp2
  exact bodyPost_ret (by simp [results, Tryz.results101, go_sem]) rfl ⟨rfl, ((Below.refl _ _).alloc (Nat.le_refl _) _).alloc (by simp) _⟩

set_option maxHeartbeats 1000000 in
theorem tshape5 (pos : Int) (nm : ByteArray) (A : Option Addr) (n c : Nat) (v4 : Value) (o : Bool) (w : World) :
    Calls Tryz.prog 101 #[.agg #[.int .i64 5, .int .i64 pos, .string nm, .slice A n c, v4, .bool o]] w fun e w' => e = .returned (.tuple #[.agg #[.nilFunc, .nilFunc, .nilFunc, .int .i64 (0), .int .i64 (0), .int .i64 (0), .int .i64 (0)], .bool true]) ∧ Below w.heap.size w w' := by
  go_enter Tryz.func101, Tryz.ntmps101
  go_wp2
  exact bodyPost_ret (by simp [results, Tryz.results101, go_sem]) rfl ⟨rfl, ((Below.refl _ _).alloc (Nat.le_refl _) _).alloc (by simp) _⟩

set_option maxHeartbeats 1000000 in
theorem tshape6 (pos : Int) (nm : ByteArray) (A : Option Addr) (n c : Nat) (v4 : Value) (o : Bool) (w : World) :
    Calls Tryz.prog 101 #[.agg #[.int .i64 6, .int .i64 pos, .string nm, .slice A n c, v4, .bool o]] w fun e w' => e = .returned (.tuple #[.agg #[.nilFunc, .nilFunc, .nilFunc, .int .i64 (0), .int .i64 (0), .int .i64 (0), .int .i64 (0)], .bool true]) ∧ Below w.heap.size w w' := by
  go_enter Tryz.func101, Tryz.ntmps101
  go_wp2
  exact bodyPost_ret (by simp [results, Tryz.results101, go_sem]) rfl ⟨rfl, ((Below.refl _ _).alloc (Nat.le_refl _) _).alloc (by simp) _⟩

set_option maxHeartbeats 1000000 in
theorem tshape7 (pos : Int) (nm : ByteArray) (A : Option Addr) (n c : Nat) (v4 : Value) (o : Bool) (w : World) :
    Calls Tryz.prog 101 #[.agg #[.int .i64 7, .int .i64 pos, .string nm, .slice A n c, v4, .bool o]] w fun e w' => e = .returned (.tuple #[.agg #[.nilFunc, .nilFunc, .nilFunc, .int .i64 (0), .int .i64 (2), .int .i64 (0), .int .i64 (0)], .bool true]) ∧ Below w.heap.size w w' := by
  go_enter Tryz.func101, Tryz.ntmps101
  go_wp2
  exact bodyPost_ret (by simp [results, Tryz.results101, go_sem]) rfl ⟨rfl, ((Below.refl _ _).alloc (Nat.le_refl _) _).alloc (by simp) _⟩

set_option maxHeartbeats 1000000 in
theorem tshape8 (pos : Int) (nm : ByteArray) (A : Option Addr) (n c : Nat) (v4 : Value) (o : Bool) (w : World) :
    Calls Tryz.prog 101 #[.agg #[.int .i64 8, .int .i64 pos, .string nm, .slice A n c, v4, .bool o]] w fun e w' => e = .returned (.tuple #[.agg #[.nilFunc, .func (.func 113) #[] #[], .nilFunc, .int .i64 (0), .int .i64 ((n : Int)), .int .i64 (0), .int .i64 (0)], .bool true]) ∧ Below w.heap.size w w' := by
  go_enter Tryz.func101, Tryz.ntmps101
  go_wp2
  exact bodyPost_ret (by simp [results, Tryz.results101, go_sem]) rfl ⟨rfl, ((Below.refl _ _).alloc (Nat.le_refl _) _).alloc (by simp) _⟩

set_option maxHeartbeats 1000000 in
theorem tshape9 (pos : Int) (nm : ByteArray) (A : Option Addr) (n c : Nat) (v4 : Value) (o : Bool) (w : World) :
    Calls Tryz.prog 101 #[.agg #[.int .i64 9, .int .i64 pos, .string nm, .slice A n c, v4, .bool o]] w fun e w' => e = .returned (.tuple #[.agg #[.nilFunc, .func (.func 118) #[] #[], .nilFunc, .int .i64 (0), .int .i64 ((n : Int)), .int .i64 (0), .int .i64 (0)], .bool true]) ∧ Below w.heap.size w w' := by
  go_enter Tryz.func101, Tryz.ntmps101
  go_wp2
  exact bodyPost_ret (by simp [results, Tryz.results101, go_sem]) rfl ⟨rfl, ((Below.refl _ _).alloc (Nat.le_refl _) _).alloc (by simp) _⟩

set_option maxHeartbeats 1000000 in
theorem tshape10 (pos : Int) (nm : ByteArray) (A : Option Addr) (n c : Nat) (v4 : Value) (o : Bool) (w : World) :
    Calls Tryz.prog 101 #[.agg #[.int .i64 10, .int .i64 pos, .string nm, .slice A n c, v4, .bool o]] w fun e w' => e = .returned (.tuple #[.agg #[.func (.func 84) #[] #[], .nilFunc, .nilFunc, .int .i64 (0), .int .i64 (0), .int .i64 (0), .int .i64 (0)], .bool true]) ∧ Below w.heap.size w w' := by
  go_enter Tryz.func101, Tryz.ntmps101
  go_wp2
  exact bodyPost_ret (by simp [results, Tryz.results101, go_sem]) rfl ⟨rfl, ((Below.refl _ _).alloc (Nat.le_refl _) _).alloc (by simp) _⟩

set_option maxHeartbeats 1000000 in
theorem tshape_no (K pos : Int) (nm : ByteArray) (A : Option Addr) (n c : Nat) (v4 : Value) (o : Bool) (w : World) (hK : ¬ (0 ≤ K ∧ K ≤ 10)) :
    Calls Tryz.prog 101 #[.agg #[.int .i64 K, .int .i64 pos, .string nm, .slice A n c, v4, .bool o]] w fun e w' => e = .returned (.tuple #[.agg #[.nilFunc, .nilFunc, .nilFunc, .int .i64 (0), .int .i64 (0), .int .i64 (0), .int .i64 (0)], .bool false]) ∧ Below w.heap.size w w' := by
  have k0 : ((K : Int) == 0) = false := by simp; omega
  have k1 : ((K : Int) == 1) = false := by simp; omega
  have k2 : ((K : Int) == 2) = false := by simp; omega
  have k3 : ((K : Int) == 3) = false := by simp; omega
  have k4 : ((K : Int) == 4) = false := by simp; omega
  have k5 : ((K : Int) == 5) = false := by simp; omega
  have k6 : ((K : Int) == 6) = false := by simp; omega
  have k7 : ((K : Int) == 7) = false := by simp; omega
  have k8 : ((K : Int) == 8) = false := by simp; omega
  have k9 : ((K : Int) == 9) = false := by simp; omega
  have k10 : ((K : Int) == 10) = false := by simp; omega
  clear hK
  go_enter Tryz.func101, Tryz.ntmps101
  go_wp2
  exact bodyPost_ret (by simp [results, Tryz.results101, go_sem]) rfl ⟨rfl, ((Below.refl _ _).alloc (Nat.le_refl _) _).alloc (by simp) _⟩

theorem eqf_nil {P : Program} {t : TypeId} {ps rs : Array TypeId} {vr : Bool} (ht : P.underlying t = some (.func ps rs vr)) (w : World) : (binOp .eql t .nilFunc .nilFunc).run P w = .ok (.bool true) w := by
  have h : ∀ d : Nat, (Op.equalIn (d + 1) t .nilFunc .nilFunc).run P w = .ok true w := fun d => by
    simp [Op.equalIn, run_underlying ht]
  simp only [binOp]
  simp [Op.equal, Op.maxDepth, h 9999]
theorem eqf_some {P : Program} {t : TypeId} {ps rs : Array TypeId} {vr : Bool} (ht : P.underlying t = some (.func ps rs vr)) (n : Nat) (w : World) : (binOp .eql t (.func (.func n) #[] #[]) .nilFunc).run P w = .ok (.bool false) w := by
  have h : ∀ d : Nat, (Op.equalIn (d + 1) t (.func (.func n) #[] #[]) .nilFunc).run P w = .ok false w := fun d => by
    simp [Op.equalIn, run_underlying ht]
  simp only [binOp]
  simp [Op.equal, Op.maxDepth, h 9999]

theorem ask68_nil (s : ByteArray) (b : Bool) (w : World) : Calls Tryz.prog 115 #[.nilFunc, .string s, .bool b] w fun e w' => e = .returned (.bool b) ∧ Below w.heap.size w w' := by
  have hb := Below.refl w.heap.size w
  have he := eqf_nil Tryz.underlying65
  go_enter Tryz.func115, Tryz.ntmps115
  go_wp2
  go_ret
  exact ⟨rfl, hb⟩

theorem ask69_nil (A : Option Addr) (n c : Nat) (b : Bool) (w : World) : Calls Tryz.prog 116 #[.nilFunc, .slice A n c, .bool b] w fun e w' => e = .returned (.bool b) ∧ Below w.heap.size w w' := by
  have hb := Below.refl w.heap.size w
  have he := eqf_nil Tryz.underlying102
  go_enter Tryz.func116, Tryz.ntmps116
  go_wp2
  go_ret
  exact ⟨rfl, hb⟩

theorem ask70_nil (y : Nat) (b : Bool) (w : World) : Calls Tryz.prog 117 #[.nilFunc, .int .u64 (y : Int), .bool b] w fun e w' => e = .returned (.bool b) ∧ Below w.heap.size w w' := by
  have hb := Below.refl w.heap.size w
  have he := eqf_nil Tryz.underlying173
  go_enter Tryz.func117, Tryz.ntmps117
  go_wp2
  go_ret
  exact ⟨rfl, hb⟩

theorem ask68_61 (s : ByteArray) (b : Bool) (w : World) (r : Bool) (k : Calls Tryz.prog 108 #[.string s] w fun e w' => e = .returned (.bool r) ∧ Below w.heap.size w w') :
    Calls Tryz.prog 115 #[.func (.func 108) #[] #[], .string s, .bool b] w fun e w' => e = .returned (.bool r) ∧ Below w.heap.size w w' := by
  have he := eqf_some Tryz.underlying65 108
  go_enter Tryz.func115, Tryz.ntmps115
  go_wp2_with (go_at_call 108; refine k.mono ?_; rintro e w' ⟨rfl, hb⟩)
  go_ret
  exact ⟨rfl, hb⟩

theorem ask68_62 (s : ByteArray) (b : Bool) (w : World) (r : Bool) (k : Calls Tryz.prog 109 #[.string s] w fun e w' => e = .returned (.bool r) ∧ Below w.heap.size w w') :
    Calls Tryz.prog 115 #[.func (.func 109) #[] #[], .string s, .bool b] w fun e w' => e = .returned (.bool r) ∧ Below w.heap.size w w' := by
  have he := eqf_some Tryz.underlying65 109
  go_enter Tryz.func115, Tryz.ntmps115
  go_wp2_with (go_at_call 109; refine k.mono ?_; rintro e w' ⟨rfl, hb⟩)
  go_ret
  exact ⟨rfl, hb⟩

theorem ask68_65 (s : ByteArray) (b : Bool) (w : World) (r : Bool) (k : Calls Tryz.prog 112 #[.string s] w fun e w' => e = .returned (.bool r) ∧ Below w.heap.size w w') :
    Calls Tryz.prog 115 #[.func (.func 112) #[] #[], .string s, .bool b] w fun e w' => e = .returned (.bool r) ∧ Below w.heap.size w w' := by
  have he := eqf_some Tryz.underlying65 112
  go_enter Tryz.func115, Tryz.ntmps115
  go_wp2_with (go_at_call 112; refine k.mono ?_; rintro e w' ⟨rfl, hb⟩)
  go_ret
  exact ⟨rfl, hb⟩

theorem ask68_67 (s : ByteArray) (b : Bool) (w : World) (r : Bool) (k : Calls Tryz.prog 114 #[.string s] w fun e w' => e = .returned (.bool r) ∧ Below w.heap.size w w') :
    Calls Tryz.prog 115 #[.func (.func 114) #[] #[], .string s, .bool b] w fun e w' => e = .returned (.bool r) ∧ Below w.heap.size w w' := by
  have he := eqf_some Tryz.underlying65 114
  go_enter Tryz.func115, Tryz.ntmps115
  go_wp2_with (go_at_call 114; refine k.mono ?_; rintro e w' ⟨rfl, hb⟩)
  go_ret
  exact ⟨rfl, hb⟩

theorem ask68_45 (s : ByteArray) (b : Bool) (w : World) (r : Bool) (k : Calls Tryz.prog 84 #[.string s] w fun e w' => e = .returned (.bool r) ∧ Below w.heap.size w w') :
    Calls Tryz.prog 115 #[.func (.func 84) #[] #[], .string s, .bool b] w fun e w' => e = .returned (.bool r) ∧ Below w.heap.size w w' := by
  have he := eqf_some Tryz.underlying65 84
  go_enter Tryz.func115, Tryz.ntmps115
  go_wp2_with (go_at_call 84; refine k.mono ?_; rintro e w' ⟨rfl, hb⟩)
  go_ret
  exact ⟨rfl, hb⟩

theorem ask69_64 (A : Option Addr) (n c : Nat) (b : Bool) (w : World) (r : Bool) (k : Calls Tryz.prog 111 #[.slice A n c] w fun e w' => e = .returned (.bool r) ∧ Below w.heap.size w w') :
    Calls Tryz.prog 116 #[.func (.func 111) #[] #[], .slice A n c, .bool b] w fun e w' => e = .returned (.bool r) ∧ Below w.heap.size w w' := by
  have he := eqf_some Tryz.underlying102 111
  go_enter Tryz.func116, Tryz.ntmps116
  go_wp2_with (go_at_call 111; refine k.mono ?_; rintro e w' ⟨rfl, hb⟩)
  go_ret
  exact ⟨rfl, hb⟩

theorem ask69_66 (A : Option Addr) (n c : Nat) (b : Bool) (w : World) (r : Bool) (k : Calls Tryz.prog 113 #[.slice A n c] w fun e w' => e = .returned (.bool r) ∧ Below w.heap.size w w') :
    Calls Tryz.prog 116 #[.func (.func 113) #[] #[], .slice A n c, .bool b] w fun e w' => e = .returned (.bool r) ∧ Below w.heap.size w w' := by
  have he := eqf_some Tryz.underlying102 113
  go_enter Tryz.func116, Tryz.ntmps116
  go_wp2_with (go_at_call 113; refine k.mono ?_; rintro e w' ⟨rfl, hb⟩)
  go_ret
  exact ⟨rfl, hb⟩

theorem ask69_71 (A : Option Addr) (n c : Nat) (b : Bool) (w : World) (r : Bool) (k : Calls Tryz.prog 118 #[.slice A n c] w fun e w' => e = .returned (.bool r) ∧ Below w.heap.size w w') :
    Calls Tryz.prog 116 #[.func (.func 118) #[] #[], .slice A n c, .bool b] w fun e w' => e = .returned (.bool r) ∧ Below w.heap.size w w' := by
  have he := eqf_some Tryz.underlying102 118
  go_enter Tryz.func116, Tryz.ntmps116
  go_wp2_with (go_at_call 118; refine k.mono ?_; rintro e w' ⟨rfl, hb⟩)
  go_ret
  exact ⟨rfl, hb⟩

theorem ask70_63 (y : Nat) (b : Bool) (w : World) (r : Bool) (k : Calls Tryz.prog 110 #[.int .u64 (y : Int)] w fun e w' => e = .returned (.bool r) ∧ Below w.heap.size w w') :
    Calls Tryz.prog 117 #[.func (.func 110) #[] #[], .int .u64 (y : Int), .bool b] w fun e w' => e = .returned (.bool r) ∧ Below w.heap.size w w' := by
  have he := eqf_some Tryz.underlying173 110
  go_enter Tryz.func117, Tryz.ntmps117
  go_wp2_with (go_at_call 110; refine k.mono ?_; rintro e w' ⟨rfl, hb⟩)
  go_ret
  exact ⟨rfl, hb⟩

end Go.Proofs.YtggchkddmihobaaGreatDoor
