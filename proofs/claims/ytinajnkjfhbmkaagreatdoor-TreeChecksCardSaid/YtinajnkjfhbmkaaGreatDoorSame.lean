/- Are two rows of numbers the same? The law's own look. -/
import Derived.Test.YtinajnkjfhbmkaaGreatDoorOwn
import Derived.Deep.QuietTactic
import Derived.BigQuiet
import Derived.LoopTactic
namespace Go.Proofs.YtinajnkjfhbmkaaGreatDoor
open Go Go.Proofs Go.RowKit

theorem rd_at {w : World} {A : Option Addr} {xs : List Int} {k : Nat} (h : RdAt w A (xs.map iv)) (hk : k < xs.length) : ∃ b off, A = some ⟨b, off, none⟩ ∧ w.cell? ⟨b, off + k, none⟩ = some (.int .i64 xs[k]) := by
  rcases h with h | ⟨b, off, e, h⟩
  · have : xs = [] := by simpa using h
    subst this
    simp at hk
  · exact ⟨b, off, e, h k _ (by simp [hk])⟩

theorem below_drewN (n₀ : Nat) (w : World) (d : Nat) : Below n₀ w (w.drewN d) := ⟨rfl, rfl, rfl, Nat.le_refl _, fun _ _ => rfl⟩
theorem drewN_two (w : World) (a b : Nat) : (w.drewN a).drewN b = w.drewN (a + b) := by simp [World.drewN, Nat.add_assoc]

set_option maxRecDepth 100000 in
set_option maxHeartbeats 2000000 in
theorem same_any (A1 A2 : Option Addr) (c1 c2 : Nat) (xs ys : List Int) (w : World) (h1 : RdAt w A1 (xs.map iv)) (h2 : RdAt w A2 (ys.map iv)) (hx : xs.length ≤ 140737488351232) (hy : ys.length ≤ 140737488351232) :
    Calls Tryz.prog 15 #[.slice A1 xs.length c1, .slice A2 ys.length c2] w fun e w' => e = .returned (.bool (decide (xs = ys))) ∧ Below w.heap.size w w' := by
  obtain ⟨r, hr⟩ : ∃ r, decide (xs = ys) = r := ⟨_, rfl⟩
  rw [hr]
  have HR := Lib.hid hr
  clear hr
  by_cases hlen : xs.length = ys.length
  · obtain ⟨n, hn⟩ : ∃ n, ys.length = n := ⟨_, rfl⟩
    rw [hn] at hlen hy ⊢
    rw [hlen] at hx ⊢
    have HX := Lib.hid hlen
    have HY := Lib.hid hn
    clear hlen hn
    have hne : ((n : Int) != (n : Int)) = false := by simp
    have hB0 := Below.refl w.heap.size w
    go_enter Tryz.func15, Tryz.ntmps15
    go_wp2
    go_loopw [5, 13] (fun _ i wr => ∃ k : Nat, k ≤ n ∧ i = .int .i64 k ∧ Hid (xs.take k = ys.take k) ∧ Below w.heap.size w wr ∧ ∃ d, wr = w.drewN d) (fun _ i _ => n - (intOf i).toNat)
    case atStart => exact ⟨0, Nat.zero_le _, rfl, Lib.hid (by simp), hB0, 0, rfl⟩
    case round =>
      obtain ⟨k, hk, rfl, HT, hB, d, hwr⟩ := hrel
      by_cases hlt : k < n
      · have lx : k < xs.length := by rw [HX.out]; exact hlt
        have ly : k < ys.length := by rw [HY.out]; exact hlt
        obtain ⟨b, off, rfl, e1⟩ := rd_at h1 lx
        obtain ⟨b', off', rfl, e2⟩ := rd_at h2 ly
        have f1 : wr.cell? ⟨b, off + k, none⟩ = some (.int .i64 xs[k]) := by rw [hwr]; exact e1
        have f2 : wr.cell? ⟨b', off' + k, none⟩ = some (.int .i64 ys[k]) := by rw [hwr]; exact e2
        have htx : xs.take (k + 1) = xs.take k ++ [xs[k]] := List.take_succ_eq_append_getElem lx
        have hty : ys.take (k + 1) = ys.take k ++ [ys[k]] := List.take_succ_eq_append_getElem ly
        have hbad : xs[k] ≠ ys[k] → r = false := fun h => by
          rw [← HR.out, decide_eq_false_iff_not]
          intro he
          subst he
          exact h rfl
        obtain ⟨x, hxk⟩ : ∃ x, xs[k] = x := ⟨_, rfl⟩
        obtain ⟨y, hyk⟩ : ∃ y, ys[k] = y := ⟨_, rfl⟩
        rw [hxk] at f1 htx hbad
        rw [hyk] at f2 hty hbad
        have HTX := Lib.hid htx
        have HTY := Lib.hid hty
        have HBAD := Lib.hid hbad
        have HW := Lib.hid hwr
        clear hxk hyk htx hty hbad e1 e2 hwr h1 h2
        have i1 : (0 : Int) ≤ (k : Int) := by omega
        have i2 : (k : Int) < (n : Int) := by omega
        by_cases hxy : x = y
        · subst hxy
          have hq : (x != x) = false := by simp
          go_wp2
          go_quiet (fail)
          go_wp2
          go_roundw
          case rel => exact ⟨k + 1, by omega, by go_num, Lib.hid (by rw [HTX.out, HTY.out, HT.out]), hB.trans (below_drewN _ _ _), by have := HW.out; subst this; exact ⟨_, drewN_two _ _ _⟩⟩
          case measure => simp [intOf]; omega
        · have hq : (x != y) = true := by simpa using hxy
          have HF := Lib.hid (HBAD.out hxy)
          go_wp2
          go_quiet (fail)
          go_wp2
          go_ret
          exact ⟨ret_bool HF.out.symm, hB.trans (below_drewN _ _ _)⟩
      · obtain rfl : k = n := by omega
        have hT : r = true := by
          rw [← HR.out, decide_eq_true_eq]
          have := HT.out
          rwa [List.take_of_length_le (Nat.le_of_eq HX.out), List.take_of_length_le (Nat.le_of_eq HY.out)] at this
        have HF := Lib.hid hT
        clear hT hwr
        go_wp2
        go_ret
        exact ⟨ret_bool HF.out.symm, hB⟩
  · have hF : r = false := by
      rw [← HR.out, decide_eq_false_iff_not]
      intro he
      subst he
      exact hlen rfl
    have HF := Lib.hid hF
    clear hF
    have hne : ((xs.length : Int) != (ys.length : Int)) = true := by rw [bne_iff_ne]; omega
    go_enter Tryz.func15, Tryz.ntmps15
    go_wp2
    go_ret
    exact ⟨ret_bool HF.out.symm, Below.refl _ _⟩
end Go.Proofs.YtinajnkjfhbmkaaGreatDoor
