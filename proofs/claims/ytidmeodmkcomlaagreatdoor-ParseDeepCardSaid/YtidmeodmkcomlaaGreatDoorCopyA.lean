/- Copies in new memory: rows of names, of numbers, of aliases; a term, a type. -/
import Derived.Test.YtidmeodmkcomlaaGreatDoorOwn
import Derived.Deep.RegionHeld3
import Derived.WalkSpells
import Derived.StillTactics
namespace Go.Proofs.YtidmeodmkcomlaaGreatDoor
open Go Go.Proofs Go.RowKit

/-- A copy: a slice that reads so, in new memory. -/
def CopyPost (w : World) (n : Nat) (xs : List Value) (e : Ending) (w' : World) : Prop :=
  ∃ A c, e = .returned (.slice A n c) ∧ SlAt (fun b => w.heap.size ≤ b ∧ b < w'.heap.size) w' A n xs ∧ Below w.heap.size w w'

set_option maxHeartbeats 1000000 in
theorem copyS_any (A : Option Addr) (c : Nat) (ss : List ByteArray) (w : World) (hS : RdAt w A (ss.map .string)) (hn : ss.length ≤ 65536) : Calls Tryz.prog 135 #[.slice A ss.length c] w (CopyPost w ss.length (ss.map .string)) := by
  obtain ⟨i0, hi, hz0, hz1, hz2⟩ := info_parts info9
  have hr0 := Below.refl w.heap.size w
  go_enter Tryz.func135, Tryz.ntmps135
  go_wp2_with (at_builtin; refine wpList_app _ rfl _ _ 35 rfl w.heap.size 9 i0 (.string ByteArray.empty) 1 16 Tryz.underlying35 hi hz0 hz1 hz2 rfl (by decide) (.slice none 0 0) 0 [] rfl (World.ownsRow_nil _ _ _ _) A ss.length c (ss.map .string) rfl (by simp) hS (by intro u hu; obtain ⟨s, _, rfl⟩ := List.mem_map.1 hu; rfl) (by unfold maxLen; omega) (by omega) (Nat.le_refl _) ?_; intro v' w2 hown2 hgrow2 hloc2)
  go_ret
  rw [Nat.zero_add, List.nil_append] at hown2
  obtain ⟨A', c', rfl, _, h2⟩ := SlAt.of_own hown2
  exact ⟨A', c', rfl, h2, hgrow2.os, hgrow2.tape, hgrow2.output, hgrow2.size, fun i hi => hgrow2.block i hi (by simp [Value.ownBlock])⟩

set_option maxHeartbeats 1000000 in
theorem copyI_any (A : Option Addr) (c : Nat) (ss : List Int) (w : World) (hS : RdAt w A (ss.map iv)) (hn : ss.length ≤ 65536) : Calls Tryz.prog 136 #[.slice A ss.length c] w (CopyPost w ss.length (ss.map iv)) := by
  obtain ⟨i0, hi, hz0, hz1, hz2⟩ := info_parts info3
  have hr0 := Below.refl w.heap.size w
  go_enter Tryz.func136, Tryz.ntmps136
  go_wp2_with (at_builtin; refine wpList_app _ rfl _ _ 36 rfl w.heap.size 3 i0 (.int .i64 0) 1 8 Tryz.underlying36 hi hz0 hz1 hz2 rfl (by decide) (.slice none 0 0) 0 [] rfl (World.ownsRow_nil _ _ _ _) A ss.length c (ss.map iv) rfl (by simp) hS (by intro u hu; obtain ⟨s, _, rfl⟩ := List.mem_map.1 hu; rfl) (by unfold maxLen; omega) (by omega) (Nat.le_refl _) ?_; intro v' w2 hown2 hgrow2 hloc2)
  go_ret
  rw [Nat.zero_add, List.nil_append] at hown2
  obtain ⟨A', c', rfl, _, h2⟩ := SlAt.of_own hown2
  exact ⟨A', c', rfl, h2, hgrow2.os, hgrow2.tape, hgrow2.output, hgrow2.size, fun i hi => hgrow2.block i hi (by simp [Value.ownBlock])⟩

/-- In new memory. -/
abbrev New (w w' : World) : Nat → Prop := fun b => w.heap.size ≤ b ∧ b < w'.heap.size
theorem SlAt.rd {Pb : Nat → Prop} {w w' : World} {A : Option Addr} {n : Nat} {xs : List Value} (h : SlAt Pb w A n xs) (hk : ∀ b o, Pb b → w'.cell? ⟨b, o, none⟩ = w.cell? ⟨b, o, none⟩) : RdAt w' A xs := RdAt.of_sl (h.keep hk)

end Go.Proofs.YtidmeodmkcomlaaGreatDoor
