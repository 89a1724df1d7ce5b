/- Two texts, one behind the other: the signs are those of the first, and then those of the second, as plain functions; no condition. -/
import Derived.Test.YtnopplgplfenaaaDoorMathB
namespace Go.Proofs.YtnopplgplfenaaaDoor

set_option maxRecDepth 100000 in
set_option maxHeartbeats 4000000 in
/-- What is decoded hangs on no byte behind the sign. -/
theorem decodeN_more (n m b0 b1 b2 b3 c1 c2 c3 : Nat) (hm : n ≤ m) (_h0 : b0 < 256) (h1 : 1 < n → c1 = b1) (h2 : 2 < n → c2 = b2) (h3 : 3 < n → c3 = b3)
    (hg : ¬ ((Go.Lib.decodeN n b0 b1 b2 b3).1 = 65533 ∧ (Go.Lib.decodeN n b0 b1 b2 b3).2 = 1)) : Go.Lib.decodeN m b0 c1 c2 c3 = Go.Lib.decodeN n b0 b1 b2 b3 := by
  by_cases a1 : 1 < n <;> by_cases a2 : 2 < n <;> by_cases a3 : 3 < n
  all_goals first | (exfalso; omega) | skip
  all_goals (try (have e1 := h1 a1; subst e1)) 
  all_goals (try (have e2 := h2 a2; subst e2))
  all_goals (try (have e3 := h3 a3; subst e3))
  all_goals (revert hg; unfold Go.Lib.decodeN)
  all_goals (repeat' split)
  all_goals (intro hg; first | rfl | (exfalso; omega) | (exfalso; simp at hg))

theorem D_append (a b : List UInt8) (h0 : 0 < a.length) (hb : ¬ isBad a) : D (a ++ b) = D a := by
  unfold D
  have g : ∀ i, i < a.length → (a ++ b).getD i 0 = a.getD i 0 := fun i hi => by simp [List.getD_eq_getElem?_getD, List.getElem?_append_left hi]
  rw [g 0 h0]
  refine decodeN_more _ _ _ _ _ _ _ _ _ (by simp) (a.getD 0 0).toNat_lt (fun h => by rw [g 1 h]) (fun h => by rw [g 2 h]) (fun h => by rw [g 3 h]) hb

theorem sg_append : ∀ (n : Nat) (a b : List UInt8) (k : Nat), a.length ≤ n → bd a k = k + a.length → sg (a ++ b) k = sg a k ++ sg b (k + a.length) ∧ bd (a ++ b) k = bd b (k + a.length)
  | 0, a, b, k, h, _ => by
    obtain rfl : a = [] := List.length_eq_zero_iff.1 (by omega)
    rw [sg_nil [] k rfl]
    simp
  | n + 1, a, b, k, h, hw => by
    by_cases h0 : 0 < a.length
    · by_cases hb : isBad a
      · rw [bd_bad a k hb] at hw; omega
      · have hd := D_bounds a h0
        have hda := D_append a b h0 hb
        have hb' : ¬ isBad (a ++ b) := by unfold isBad at hb ⊢; rw [hda]; exact hb
        rw [bd_cons a k h0 hb] at hw
        have ih := sg_append n (a.drop (D a).2) b (k + (D a).2) (by simp only [List.length_drop]; omega) (by rw [hw, List.length_drop]; omega)
        have hdr : (a ++ b).drop (D a).2 = a.drop (D a).2 ++ b := List.drop_append_of_le_length (by omega)
        rw [sg_cons (a ++ b) k (by simp; omega) hb', bd_cons (a ++ b) k (by simp; omega) hb', sg_cons a k h0 hb, hda, hdr, ih.1, ih.2]
        have hk : k + (D a).2 + (a.drop (D a).2).length = k + a.length := by simp only [List.length_drop]; omega
        rw [hk]
        simp
    · obtain rfl : a = [] := List.length_eq_zero_iff.1 (by omega)
      rw [sg_nil [] k rfl]
      simp

/-- Places are counted from where the list stands. -/
theorem sg_shift : ∀ (n : Nat) (l : List UInt8) (k j : Nat), l.length ≤ n → sg l (k + j) = (sg l k).map (fun x => (x.1 + j, x.2)) ∧ bd l (k + j) = bd l k + j
  | 0, l, k, j, h => by
    rw [sg_nil l _ (by omega), sg_nil l _ (by omega), bd_nil l _ (by omega), bd_nil l _ (by omega)]
    simp
  | n + 1, l, k, j, h => by
    by_cases h0 : 0 < l.length
    · by_cases hb : isBad l
      · rw [sg_bad l _ hb, sg_bad l _ hb, bd_bad l _ hb, bd_bad l _ hb]
        simp
      · have hd := D_bounds l h0
        have ih := sg_shift n (l.drop (D l).2) (k + (D l).2) j (by simp only [List.length_drop]; omega)
        rw [sg_cons l (k + j) h0 hb, sg_cons l k h0 hb, bd_cons l (k + j) h0 hb, bd_cons l k h0 hb, show k + j + (D l).2 = k + (D l).2 + j by omega, ih.1, ih.2]
        simp
    · rw [sg_nil l _ (by omega), sg_nil l _ (by omega), bd_nil l _ (by omega), bd_nil l _ (by omega)]
      simp

end Go.Proofs.YtnopplgplfenaaaDoor
