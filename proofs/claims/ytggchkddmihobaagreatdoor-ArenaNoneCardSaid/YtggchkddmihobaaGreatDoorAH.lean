/- Rows that are cloned, and a head with them. -/
import Derived.Test.YtggchkddmihobaaGreatDoorAG
import Derived.Test.YtggchkddmihobaaGreatDoorAA
import Derived.WalkSpells
import Derived.Lib.SliceRun
set_option linter.unusedVariables false
set_option linter.unusedSimpArgs false
namespace Go.Proofs.YtggchkddmihobaaGreatDoor
open Go Go.Proofs Go.RowKit
theorem own_emptyA (W : World) (e : TypeId) (base : Nat) (h : base ≤ W.heap.size) : (W.alloc (.cells #[] e)).ownsRow base e 1 (.slice (some ⟨W.heap.size, 0, none⟩) 0 0) 0 [] := by
  refine ⟨rfl, .inr ⟨W.heap.size, 0, #[], rfl, h, ?_, Nat.le_refl _, Nat.zero_le _, rfl, rfl⟩⟩
  show (W.heap.push _)[W.heap.size]? = _
  simp
theorem rd_below {w w' : World} {A : Option Addr} {xs : List Value} (h : RdAt w A xs) (hb : Below w.heap.size w w') : RdAt w' A xs := by
  rcases h with h | ⟨b, off, e, hc⟩
  · exact .inl h
  · exact .inr ⟨b, off, e, fun j u hu => (hb.cell (p := ⟨b, off + j, none⟩) (World.block_lt_of_cell? w _ (hc j u hu))).trans (hc j u hu)⟩
def ClonePost (w : World) (ty : TypeId) (xs : List Value) (e : Ending) (w' : World) : Prop :=
  ∃ A c, e = .returned (.slice A xs.length c) ∧ w'.ownsRow w.heap.size ty 1 (.slice A xs.length c) xs.length xs ∧ Below w.heap.size w w' ∧ (A = none → xs.length = 0 ∧ c = 0)
theorem below_of_grown {n₀ g : Nat} {a w w' : World} (hb : Below n₀ a w) (h : w.grownBy w' (some g)) (hg : n₀ ≤ g) (hn : n₀ ≤ w.heap.size) : Below n₀ a w' :=
  ⟨h.os.trans hb.os, h.tape.trans hb.tape, h.output.trans hb.output, Nat.le_trans hb.size h.size, fun k hk => (h.block k (Nat.lt_of_lt_of_le hk hn) (by simp; omega)).trans (hb.block k hk)⟩
set_option maxRecDepth 100000 in
set_option maxHeartbeats 1000000 in
theorem cloneI_any (A : Option Addr) (c : Nat) (xs : List Value) (w : World) (hR : RdAt w A xs) (h1 : ∀ u ∈ xs, u.oneCell' = true) (hn : A = none → xs.length = 0 ∧ c = 0) (hl : xs.length ≤ 1048576) :
    Calls Tryz.prog 40 #[.slice A xs.length c] w (ClonePost w 3 xs) := by
  obtain ⟨i0, hi, hz0, hz1, hz2⟩ := info_parts info3
  obtain ⟨n, hxn⟩ : ∃ n, xs.length = n := ⟨_, rfl⟩
  have HN := Lib.hid hxn
  have qe := fun (w : World) (A : Option Addr) (n c : Nat) => Lib.run_eql_slice_nil (P := Tryz.prog) w 36 3 A n c 0 0 Tryz.underlying36
  cases A with
  | none =>
    obtain ⟨h0, rfl⟩ := hn rfl
    have : xs = [] := List.eq_nil_of_length_eq_zero h0
    subst this
    clear h0 hxn HN hi hz0 hz1 hz2 hn h1 hR hl
    show Calls Tryz.prog 40 #[.slice none 0 0] w (ClonePost w 3 [])
    go_enter Tryz.func40, Tryz.ntmps40
    go_wp2
    go_ret
    exact ⟨none, 0, rfl, World.ownsRow_nil _ _ _ _, Below.refl _ _, fun _ => ⟨rfl, rfl⟩⟩
  | some ad =>
    have hO := own_emptyA w 3 w.heap.size (Nat.le_refl _)
    have hR' := rd_below hR ((Below.refl w.heap.size w).alloc (Nat.le_refl _) (.cells #[] 3))
    have hl' : n ≤ 1048576 := by omega
    rw [hxn]
    clear hxn hn hl
    go_enter Tryz.func40, Tryz.ntmps40
    go_wp2_with (at_builtin; go_loud (refine wpList_app _ rfl _ _ 36 rfl w.heap.size 3 i0 (.int .i64 0) 1 8 Tryz.underlying36 hi hz0 hz1 hz2 rfl (by decide) _ _ _ rfl hO (some ad) n c xs rfl (by rw [HN.out]; omega) hR' h1 (by unfold maxLen; omega) (by omega) (by simp) ?_; intro v' w2 hown2 hgrow2 hbk2; have HO2 := Lib.hid hown2; have HG2 := Lib.hid hgrow2; have HK2 := Lib.hid hbk2; clear hown2 hgrow2 hbk2))
    go_ret
    rw [Nat.zero_add, List.nil_append] at HO2
    obtain ⟨A', c', e'⟩ := own_form HO2.out
    subst e'
    have hb2 : Below w.heap.size w w2 := below_of_grown ((Below.refl w.heap.size w).alloc (Nat.le_refl _) _) HG2.out (Nat.le_refl _) (by simp)
    refine ⟨A', c', by rw [HN.out]; rfl, ?_, hb2, ?_⟩
    · rw [HN.out]; exact HO2.out
    · rintro rfl
      rcases HO2.out.2 with ⟨e, h0⟩ | ⟨g, cap, cur, e, _⟩
      · rw [HN.out]; cases e; exact ⟨h0, rfl⟩
      · cases e
set_option maxRecDepth 100000 in
set_option maxHeartbeats 1000000 in
theorem cloneS_any (A : Option Addr) (c : Nat) (xs : List Value) (w : World) (hR : RdAt w A xs) (h1 : ∀ u ∈ xs, u.oneCell' = true) (hn : A = none → xs.length = 0 ∧ c = 0) (hl : xs.length ≤ 1048576) :
    Calls Tryz.prog 45 #[.slice A xs.length c] w (ClonePost w 9 xs) := by
  obtain ⟨i0, hi, hz0, hz1, hz2⟩ := info_parts info9
  obtain ⟨n, hxn⟩ : ∃ n, xs.length = n := ⟨_, rfl⟩
  have HN := Lib.hid hxn
  have qe := fun (w : World) (A : Option Addr) (n c : Nat) => Lib.run_eql_slice_nil (P := Tryz.prog) w 35 9 A n c 0 0 Tryz.underlying35
  cases A with
  | none =>
    obtain ⟨h0, rfl⟩ := hn rfl
    have : xs = [] := List.eq_nil_of_length_eq_zero h0
    subst this
    clear h0 hxn HN hi hz0 hz1 hz2 hn h1 hR hl
    show Calls Tryz.prog 45 #[.slice none 0 0] w (ClonePost w 9 [])
    go_enter Tryz.func45, Tryz.ntmps45
    go_wp2
    go_ret
    exact ⟨none, 0, rfl, World.ownsRow_nil _ _ _ _, Below.refl _ _, fun _ => ⟨rfl, rfl⟩⟩
  | some ad =>
    have hO := own_emptyA w 9 w.heap.size (Nat.le_refl _)
    have hR' := rd_below hR ((Below.refl w.heap.size w).alloc (Nat.le_refl _) (.cells #[] 9))
    have hl' : n ≤ 1048576 := by omega
    rw [hxn]
    clear hxn hn hl
    go_enter Tryz.func45, Tryz.ntmps45
    go_wp2_with (at_builtin; go_loud (refine wpList_app _ rfl _ _ 35 rfl w.heap.size 9 i0 (.string ByteArray.empty) 1 16 Tryz.underlying35 hi hz0 hz1 hz2 rfl (by decide) _ _ _ rfl hO (some ad) n c xs rfl (by rw [HN.out]; omega) hR' h1 (by unfold maxLen; omega) (by omega) (by simp) ?_; intro v' w2 hown2 hgrow2 hbk2; have HO2 := Lib.hid hown2; have HG2 := Lib.hid hgrow2; have HK2 := Lib.hid hbk2; clear hown2 hgrow2 hbk2))
    go_ret
    rw [Nat.zero_add, List.nil_append] at HO2
    obtain ⟨A', c', e'⟩ := own_form HO2.out
    subst e'
    have hb2 : Below w.heap.size w w2 := below_of_grown ((Below.refl w.heap.size w).alloc (Nat.le_refl _) _) HG2.out (Nat.le_refl _) (by simp)
    refine ⟨A', c', by rw [HN.out]; rfl, ?_, hb2, ?_⟩
    · rw [HN.out]; exact HO2.out
    · rintro rfl
      rcases HO2.out.2 with ⟨e, h0⟩ | ⟨g, cap, cur, e, _⟩
      · rw [HN.out]; cases e; exact ⟨h0, rfl⟩
      · cases e
end Go.Proofs.YtggchkddmihobaaGreatDoor
