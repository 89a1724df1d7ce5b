/- Copies of rows, which may be written into. -/
import Derived.Test.YtinajnkjfhbmkaaGreatDoorAllU
import Derived.Deep.RegionHeld3
import Derived.WalkSpells
import Derived.StillTactics
namespace Go.Proofs.YtinajnkjfhbmkaaGreatDoor
open Go Go.Proofs Go.RowKit

/-- A copy: a slice that reads so, in new memory. -/
def CopyPost (w : World) (n : Nat) (xs : List Value) (e : Ending) (w' : World) : Prop :=
  ∃ A c, e = .returned (.slice A n c) ∧ SlAt (fun b => w.heap.size ≤ b ∧ b < w'.heap.size) w' A n xs ∧ Below w.heap.size w w'

set_option maxHeartbeats 1000000 in
theorem copyS_any (A : Option Addr) (c : Nat) (ss : List ByteArray) (w : World) (hS : RdAt w A (ss.map .string)) (hn : ss.length ≤ 65536) : Calls Tryz.prog 68 #[.slice A ss.length c] w (CopyPost w ss.length (ss.map .string)) := by
  obtain ⟨i0, hi, hz0, hz1, hz2⟩ := info_parts info9
  have hr0 := Below.refl w.heap.size w
  go_enter Tryz.func68, Tryz.ntmps68
  go_wp2_with (at_builtin; refine wpList_app _ rfl _ _ 43 rfl w.heap.size 9 i0 (.string ByteArray.empty) 1 16 Tryz.underlying43 hi hz0 hz1 hz2 rfl (by decide) (.slice none 0 0) 0 [] rfl (World.ownsRow_nil _ _ _ _) A ss.length c (ss.map .string) rfl (by simp) hS (by intro u hu; obtain ⟨s, _, rfl⟩ := List.mem_map.1 hu; rfl) (by unfold maxLen; omega) (by omega) (Nat.le_refl _) ?_; intro v' w2 hown2 hgrow2 hloc2)
  go_ret
  rw [Nat.zero_add, List.nil_append] at hown2
  obtain ⟨A', c', rfl, _, h2⟩ := SlAt.of_own hown2
  exact ⟨A', c', rfl, h2, hgrow2.os, hgrow2.tape, hgrow2.output, hgrow2.size, fun i hi => hgrow2.block i hi (by simp [Value.ownBlock])⟩

set_option maxHeartbeats 1000000 in
theorem copyI_any (A : Option Addr) (c : Nat) (ss : List Int) (w : World) (hS : RdAt w A (ss.map iv)) (hn : ss.length ≤ 65536) : Calls Tryz.prog 69 #[.slice A ss.length c] w (CopyPost w ss.length (ss.map iv)) := by
  obtain ⟨i0, hi, hz0, hz1, hz2⟩ := info_parts info3
  have hr0 := Below.refl w.heap.size w
  go_enter Tryz.func69, Tryz.ntmps69
  go_wp2_with (at_builtin; refine wpList_app _ rfl _ _ 32 rfl w.heap.size 3 i0 (.int .i64 0) 1 8 Tryz.underlying32 hi hz0 hz1 hz2 rfl (by decide) (.slice none 0 0) 0 [] rfl (World.ownsRow_nil _ _ _ _) A ss.length c (ss.map iv) rfl (by simp) hS (by intro u hu; obtain ⟨s, _, rfl⟩ := List.mem_map.1 hu; rfl) (by unfold maxLen; omega) (by omega) (Nat.le_refl _) ?_; intro v' w2 hown2 hgrow2 hloc2)
  go_ret
  rw [Nat.zero_add, List.nil_append] at hown2
  obtain ⟨A', c', rfl, _, h2⟩ := SlAt.of_own hown2
  exact ⟨A', c', rfl, h2, hgrow2.os, hgrow2.tape, hgrow2.output, hgrow2.size, fun i hi => hgrow2.block i hi (by simp [Value.ownBlock])⟩

/-- In new memory. -/
abbrev New (w w' : World) : Nat → Prop := fun b => w.heap.size ≤ b ∧ b < w'.heap.size
theorem SlAt.rd {Pb : Nat → Prop} {w w' : World} {A : Option Addr} {n : Nat} {xs : List Value} (h : SlAt Pb w A n xs) (hk : ∀ b o, Pb b → w'.cell? ⟨b, o, none⟩ = w.cell? ⟨b, o, none⟩) : RdAt w' A xs := RdAt.of_sl (h.keep hk)

end Go.Proofs.YtinajnkjfhbmkaaGreatDoor

namespace Go.Proofs.YtinajnkjfhbmkaaGreatDoor
open Go Go.Proofs Go.RowKit

/-- A block that may be written. -/
def Wr (w : World) (b : Nat) : Prop := ∀ o, w.frozen? ⟨b, o, none⟩ = false
theorem Wr.set {w : World} {b : Nat} (h : Wr w b) (p : Addr) (v : Value) : Wr (w.setCell p v) b := fun o => (World.frozen?_setCell _ _ _ _).trans (h o)
theorem Wr.below {w w' : World} {b : Nat} (h : Wr w b) (hb : Below w.heap.size w w') (hl : b < w.heap.size) : Wr w' b := fun o => (hb.frozen (p := ⟨b, o, none⟩) hl).trans (h o)
theorem Wr.blk {w w' : World} {b : Nat} (h : Wr w b) (hb : w'.heap[b]? = w.heap[b]?) : Wr w' b := fun o => by
  have := h o
  simp only [World.frozen?, hb] at this ⊢
  exact this
abbrev NewW (w w' : World) : Nat → Prop := fun b => w.heap.size ≤ b ∧ b < w'.heap.size ∧ Wr w' b
theorem SlAt.of_ownW {w : World} {base : Nat} {e : TypeId} {v : Value} {n : Nat} {xs : List Value} (h : w.ownsRow base e 1 v n xs) : ∃ A c, v = .slice A n c ∧ n ≤ c ∧ SlAt (fun b => base ≤ b ∧ b < w.heap.size ∧ Wr w b) w A n xs := by
  obtain ⟨A, c, rfl, hc, hs⟩ := SlAt.of_own h
  refine ⟨A, c, rfl, hc, hs.1, fun hn => ?_⟩
  obtain ⟨b, off, rfl, hb, hx⟩ := hs.2 hn
  refine ⟨b, off, rfl, ⟨hb.1, hb.2, fun o => ?_⟩, hx⟩
  rcases h.2 with ⟨_, h0⟩ | ⟨g, cap, cur, hv, _, hh, _⟩
  · omega
  · injection hv with hA _ _
    injection hA with hA
    injection hA with hA _
    subst hA
    simp only [World.frozen?, hh]
    simp

def CopyPostW (w : World) (n : Nat) (xs : List Value) (e : Ending) (w' : World) : Prop :=
  ∃ A c, e = .returned (.slice A n c) ∧ SlAt (NewW w w') w' A n xs ∧ Below w.heap.size w w'

set_option maxHeartbeats 1000000 in
theorem copySW_any (A : Option Addr) (c : Nat) (ss : List ByteArray) (w : World) (hS : RdAt w A (ss.map .string)) (hn : ss.length ≤ 65536) : Calls Tryz.prog 68 #[.slice A ss.length c] w (CopyPostW w ss.length (ss.map .string)) := by
  obtain ⟨i0, hi, hz0, hz1, hz2⟩ := info_parts info9
  have hr0 := Below.refl w.heap.size w
  go_enter Tryz.func68, Tryz.ntmps68
  go_wp2_with (at_builtin; refine wpList_app _ rfl _ _ 43 rfl w.heap.size 9 i0 (.string ByteArray.empty) 1 16 Tryz.underlying43 hi hz0 hz1 hz2 rfl (by decide) (.slice none 0 0) 0 [] rfl (World.ownsRow_nil _ _ _ _) A ss.length c (ss.map .string) rfl (by simp) hS (by intro u hu; obtain ⟨s, _, rfl⟩ := List.mem_map.1 hu; rfl) (by unfold maxLen; omega) (by omega) (Nat.le_refl _) ?_; intro v' w2 hown2 hgrow2 hloc2)
  go_ret
  rw [Nat.zero_add, List.nil_append] at hown2
  obtain ⟨A', c', rfl, _, h2⟩ := SlAt.of_ownW hown2
  exact ⟨A', c', rfl, h2, hgrow2.os, hgrow2.tape, hgrow2.output, hgrow2.size, fun i hi => hgrow2.block i hi (by simp [Value.ownBlock])⟩

set_option maxHeartbeats 1000000 in
theorem copyIW_any (A : Option Addr) (c : Nat) (ss : List Int) (w : World) (hS : RdAt w A (ss.map iv)) (hn : ss.length ≤ 65536) : Calls Tryz.prog 69 #[.slice A ss.length c] w (CopyPostW w ss.length (ss.map iv)) := by
  obtain ⟨i0, hi, hz0, hz1, hz2⟩ := info_parts info3
  have hr0 := Below.refl w.heap.size w
  go_enter Tryz.func69, Tryz.ntmps69
  go_wp2_with (at_builtin; refine wpList_app _ rfl _ _ 32 rfl w.heap.size 3 i0 (.int .i64 0) 1 8 Tryz.underlying32 hi hz0 hz1 hz2 rfl (by decide) (.slice none 0 0) 0 [] rfl (World.ownsRow_nil _ _ _ _) A ss.length c (ss.map iv) rfl (by simp) hS (by intro u hu; obtain ⟨s, _, rfl⟩ := List.mem_map.1 hu; rfl) (by unfold maxLen; omega) (by omega) (Nat.le_refl _) ?_; intro v' w2 hown2 hgrow2 hloc2)
  go_ret
  rw [Nat.zero_add, List.nil_append] at hown2
  obtain ⟨A', c', rfl, _, h2⟩ := SlAt.of_ownW hown2
  exact ⟨A', c', rfl, h2, hgrow2.os, hgrow2.tape, hgrow2.output, hgrow2.size, fun i hi => hgrow2.block i hi (by simp [Value.ownBlock])⟩

end Go.Proofs.YtinajnkjfhbmkaaGreatDoor
