/- A well-formed text, cut at a sign's place, is two, each well-formed; cut within a sign neither is: as plain functions; no condition. -/
import Derived.Test.YtnopplgplfenaaaDoorMathB
namespace Go.Proofs.YtnopplgplfenaaaDoor

set_option maxRecDepth 100000 in
set_option maxHeartbeats 4000000 in
theorem decodeN_less (n m b0 b1 b2 b3 c1 c2 c3 : Nat) (_hm : m ≤ n) (h1 : 1 < m → c1 = b1) (h2 : 2 < m → c2 = b2) (h3 : 3 < m → c3 = b3)
    (hg : ¬ ((Go.Lib.decodeN n b0 b1 b2 b3).1 = 65533 ∧ (Go.Lib.decodeN n b0 b1 b2 b3).2 = 1)) (hw : (Go.Lib.decodeN n b0 b1 b2 b3).2 ≤ m) : Go.Lib.decodeN m b0 c1 c2 c3 = Go.Lib.decodeN n b0 b1 b2 b3 := by
  by_cases a1 : 1 < m <;> by_cases a2 : 2 < m <;> by_cases a3 : 3 < m
  all_goals first | (exfalso; omega) | skip
  all_goals (try (have e1 := h1 a1; subst e1))
  all_goals (try (have e2 := h2 a2; subst e2))
  all_goals (try (have e3 := h3 a3; subst e3))
  all_goals (revert hg hw; unfold Go.Lib.decodeN)
  all_goals (repeat' split)
  all_goals (intro hg hw; first | rfl | (exfalso; omega) | (exfalso; simp at hg))

set_option maxRecDepth 100000 in
set_option maxHeartbeats 4000000 in
theorem decodeN_short (n m b0 b1 b2 b3 c1 c2 c3 : Nat) (h0 : 0 < m) (hw : m < (Go.Lib.decodeN n b0 b1 b2 b3).2) : Go.Lib.decodeN m b0 c1 c2 c3 = (65533, 1) := by
  revert hw
  unfold Go.Lib.decodeN
  repeat' split
  all_goals (intro hw; first | rfl | (exfalso; omega))

set_option maxRecDepth 100000 in
set_option maxHeartbeats 4000000 in
theorem decodeN_tail (n b0 b1 b2 b3 : Nat) : (1 < (Go.Lib.decodeN n b0 b1 b2 b3).2 → b1 / 64 = 2) ∧ (2 < (Go.Lib.decodeN n b0 b1 b2 b3).2 → b2 / 64 = 2) ∧ (3 < (Go.Lib.decodeN n b0 b1 b2 b3).2 → b3 / 64 = 2) := by
  unfold Go.Lib.decodeN
  repeat' split
  all_goals (dsimp only; refine ⟨fun h => ?_, fun h => ?_, fun h => ?_⟩ <;> omega)

theorem decodeN_cont (n b0 b1 b2 b3 : Nat) (h : b0 / 64 = 2) : Go.Lib.decodeN n b0 b1 b2 b3 = (65533, 1) := by
  unfold Go.Lib.decodeN
  rw [if_neg (by omega), if_neg (by omega), if_neg (by omega), if_neg (by omega)]

theorem D_take (l : List UInt8) (m : Nat) (hm : m ≤ l.length) (hb : ¬ isBad l) (hw : (D l).2 ≤ m) (h0 : 0 < m) : D (l.take m) = D l := by
  have g : ∀ i, i < m → (l.take m).getD i 0 = l.getD i 0 := fun i hi => by simp [List.getD_eq_getElem?_getD, hi]
  have hl : (l.take m).length = m := by simp; omega
  unfold D at hw ⊢
  rw [hl, g 0 h0]
  exact decodeN_less _ _ _ _ _ _ _ _ _ hm (fun h => by rw [g 1 h]) (fun h => by rw [g 2 h]) (fun h => by rw [g 3 h]) hb hw

theorem D_short (l : List UInt8) (m : Nat) (hm : m ≤ l.length) (h0 : 0 < m) (hw : m < (D l).2) : isBad (l.take m) := by
  have g : (l.take m).getD 0 0 = l.getD 0 0 := by simp [List.getD_eq_getElem?_getD, h0]
  have hl : (l.take m).length = m := by simp; omega
  have : D (l.take m) = (65533, 1) := by
    unfold D at hw ⊢
    rw [hl, g]
    exact decodeN_short _ _ _ _ _ _ _ _ _ h0 hw
  unfold isBad
  rw [this]
  exact ⟨rfl, rfl⟩

theorem D_cont (l : List UInt8) (j : Nat) (h0 : 0 < j) (hw : j < (D l).2) : isBad (l.drop j) := by
  have ht := decodeN_tail l.length (l.getD 0 0).toNat (l.getD 1 0).toNat (l.getD 2 0).toNat (l.getD 3 0).toNat
  have h4 : (D l).2 ≤ 4 := by
    by_cases hl : 0 < l.length
    · exact (D_bounds l hl).2.1
    · have : l = [] := List.length_eq_zero_iff.1 (by omega)
      subst this
      decide
  have hx : (l.getD j 0).toNat / 64 = 2 := by
    have : j = 1 ∨ j = 2 ∨ j = 3 := by omega
    rcases this with rfl | rfl | rfl
    · exact ht.1 hw
    · exact ht.2.1 hw
    · exact ht.2.2 hw
  have hd : (l.drop j).getD 0 0 = l.getD j 0 := by simp [List.getD_eq_getElem?_getD, List.getElem?_drop]
  have : D (l.drop j) = (65533, 1) := by
    unfold D
    rw [hd]
    exact decodeN_cont _ _ _ _ _ hx
  unfold isBad
  rw [this]
  exact ⟨rfl, rfl⟩

theorem sg_place : ∀ (n : Nat) (l : List UInt8) (k : Nat), l.length ≤ n → ∀ x ∈ sg l k, k ≤ x.1 ∧ x.1 < k + l.length
  | 0, l, k, h, x, hx => by rw [sg_nil l k (by omega)] at hx; cases hx
  | n + 1, l, k, h, x, hx => by
    by_cases h0 : 0 < l.length
    · by_cases hb : isBad l
      · rw [sg_bad l k hb] at hx; cases hx
      · have hd := D_bounds l h0
        rw [sg_cons l k h0 hb] at hx
        rcases List.mem_cons.1 hx with rfl | hx
        · dsimp only; omega
        · have := sg_place n (l.drop (D l).2) (k + (D l).2) (by simp only [List.length_drop]; omega) x hx
          simp only [List.length_drop] at this
          omega
    · rw [sg_nil l k (by omega)] at hx; cases hx

/-- The place m is a sign's, or the end. -/
def isPlace (l : List UInt8) (k m : Nat) : Prop := m = l.length ∨ ∃ x ∈ sg l k, x.1 = k + m

theorem cuts : ∀ (n : Nat) (l : List UInt8) (k m : Nat), l.length ≤ n → bd l k = k + l.length → m ≤ l.length →
    (isPlace l k m → bd (l.take m) k = k + m ∧ bd (l.drop m) (k + m) = k + l.length) ∧ (¬ isPlace l k m → bd (l.take m) k < k + m ∧ isBad (l.drop m))
  | 0, l, k, m, h, hw, hm => by
    obtain rfl : l = [] := List.length_eq_zero_iff.1 (by omega)
    obtain rfl : m = 0 := by simp at hm; omega
    refine ⟨fun _ => ?_, fun h => absurd (Or.inl rfl) h⟩
    rw [List.take_nil, List.drop_nil, bd_nil [] _ rfl, bd_nil [] _ rfl]
    simp
  | n + 1, l, k, m, h, hw, hm => by
    by_cases h0 : 0 < l.length
    · by_cases hb : isBad l
      · rw [bd_bad l k hb] at hw; omega
      · have hd := D_bounds l h0
        have hw' := hw
        rw [bd_cons l k h0 hb] at hw'
        by_cases hm0 : m = 0
        · subst hm0
          refine ⟨fun _ => ?_, fun hn => absurd (Or.inr ⟨(k, (D l).1), by rw [sg_cons l k h0 hb]; exact List.mem_cons_self, rfl⟩) hn⟩
          rw [List.take_zero, bd_nil [] k rfl, List.drop_zero]
          exact ⟨rfl, hw⟩
        · by_cases hmd : m < (D l).2
          · have hnp : ¬ isPlace l k m := by
              rintro (e | ⟨x, hx, e⟩)
              · omega
              · rw [sg_cons l k h0 hb] at hx
                rcases List.mem_cons.1 hx with rfl | hx
                · dsimp only at e; omega
                · have := sg_place _ _ _ (Nat.le_refl _) x hx
                  omega
            refine ⟨fun hp => absurd hp hnp, fun _ => ⟨?_, D_cont l m (by omega) hmd⟩⟩
            rw [bd_bad _ k (D_short l m hm (by omega) hmd)]
            omega
          · have ih := cuts n (l.drop (D l).2) (k + (D l).2) (m - (D l).2) (by simp only [List.length_drop]; omega) (by rw [hw', List.length_drop]; omega) (by simp only [List.length_drop]; omega)
            have hdt := D_take l m hm hb (by omega) (by omega)
            have hb' : ¬ isBad (l.take m) := by unfold isBad at hb ⊢; rw [hdt]; exact hb
            have hdr : (l.take m).drop (D l).2 = (l.drop (D l).2).take (m - (D l).2) := List.drop_take
            have hd2 : (l.drop (D l).2).drop (m - (D l).2) = l.drop m := by rw [List.drop_drop]; congr 1; omega
            have hk : k + (D l).2 + (m - (D l).2) = k + m := by omega
            have hlen : k + (D l).2 + (l.drop (D l).2).length = k + l.length := by simp only [List.length_drop]; omega
            have hip : isPlace l k m ↔ isPlace (l.drop (D l).2) (k + (D l).2) (m - (D l).2) := by
              unfold isPlace
              rw [sg_cons l k h0 hb, hk]
              constructor
              · rintro (e | ⟨x, hx, e⟩)
                · left; simp only [List.length_drop]; omega
                · right
                  rcases List.mem_cons.1 hx with rfl | hx
                  · dsimp only at e; omega
                  · exact ⟨x, hx, e⟩
              · rintro (e | ⟨x, hx, e⟩)
                · left; simp only [List.length_drop] at e; omega
                · exact Or.inr ⟨x, List.mem_cons_of_mem _ hx, e⟩
            have hbt : bd (l.take m) k = bd ((l.drop (D l).2).take (m - (D l).2)) (k + (D l).2) := by
              rw [bd_cons (l.take m) k (by simp; omega) hb', hdt, hdr]
            rw [hk, hd2, hlen] at ih
            rw [hip, hbt]
            exact ih
    · obtain rfl : l = [] := List.length_eq_zero_iff.1 (by omega)
      obtain rfl : m = 0 := by simp at hm; omega
      refine ⟨fun _ => ?_, fun h => absurd (Or.inl rfl) h⟩
      rw [List.take_nil, List.drop_nil, bd_nil [] _ rfl, bd_nil [] _ rfl]
      simp

end Go.Proofs.YtnopplgplfenaaaDoor
