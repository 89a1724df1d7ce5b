/- What the document's rounding gives is the nearest word; no condition. -/
import Derived.Test.YtllgkkbdpabhjaaRound
import Derived.Test.YtllgkkbdpabhjaaNear
namespace Go.Proofs.Ytllgkkbdpabhjaa
open Go Go.Proofs Go.RowKit

theorem kept_bounds (N L U D : Nat) (hN : N ≠ 0) (hL : (dg N).length = L) : keptN N U D < 2 ^ (L + U - D) ∧ (D < L + U → 2 ^ (L + U - 1 - D) ≤ keptN N U D) := by
  have h1 := lt_length N
  have h2 := Nat.log2_self_le hN
  have h3 := length_dg N hN
  rw [hL] at h1 h3
  unfold keptN
  constructor
  · by_cases hD : D ≤ L + U
    · rw [Nat.div_lt_iff_lt_mul (Nat.two_pow_pos D), ← Nat.pow_add, show L + U - D + D = L + U by omega, Nat.pow_add]
      exact Nat.mul_lt_mul_of_pos_right h1 (Nat.two_pow_pos U)
    · have : N * 2 ^ U < 2 ^ D := by
        calc N * 2 ^ U < 2 ^ L * 2 ^ U := Nat.mul_lt_mul_of_pos_right h1 (Nat.two_pow_pos U)
          _ = 2 ^ (L + U) := by rw [← Nat.pow_add]
          _ ≤ 2 ^ D := Nat.pow_le_pow_right (by omega) (by omega)
      rw [Nat.div_eq_of_lt this]
      exact Nat.two_pow_pos _
  · intro hD
    rw [Nat.le_div_iff_mul_le (Nat.two_pow_pos D), ← Nat.pow_add, show L + U - 1 - D + D = N.log2 + U by omega, Nat.pow_add]
    exact Nat.mul_le_mul_right _ h2

theorem toNat_le (b : Bool) : b.toNat ≤ 1 := by cases b <;> decide

theorem roundK_bounds (N L U D : Nat) (e low : Int) (more : Bool) (hN : N ≠ 0) (hL : (dg N).length = L)
    (hlow : ((L : Int) + e - 53 ≥ -1074 ∧ low = (L : Int) + e - 53) ∨ ((L : Int) + e - 53 < -1074 ∧ low = -1074)) (hUD : (e ≤ low ∧ (D : Int) = low - e ∧ U = 0) ∨ (low < e ∧ D = 0 ∧ (U : Int) = e - low)) :
    roundK N U D more ≤ 9007199254740992 ∧ (roundK N U D more < 4503599627370496 → low = -1074) := by
  have hb := kept_bounds N L U D hN hL
  have hLp : 1 ≤ L := by rw [← hL, length_dg N hN]; omega
  unfold roundK
  have ht := toNat_le (halfB N D && (restB N D more || keptN N U D % 2 == 1))
  generalize (halfB N D && (restB N D more || keptN N U D % 2 == 1)).toNat = t at *
  have h53 : 2 ^ (L + U - D) ≤ 2 ^ 53 := Nat.pow_le_pow_right (by omega) (by omega)
  constructor
  · have : (2 : Nat) ^ 53 = 9007199254740992 := by decide
    omega
  · intro hlt
    rcases hlow with ⟨h1, h2⟩ | ⟨h1, h2⟩
    · have h52 : 2 ^ 52 ≤ 2 ^ (L + U - 1 - D) := Nat.pow_le_pow_right (by omega) (by omega)
      have := hb.2 (by omega)
      have e52 : (2 : Nat) ^ 52 = 4503599627370496 := by decide
      omega
    · exact h2

theorem length54 (K : Nat) (h : K ≤ 9007199254740992) : (dg K).length ≤ 54 := length_le K 54 (by omega)
theorem len_lt53 (K : Nat) : (dg K).length < 53 ↔ K < 4503599627370496 := by
  constructor
  · intro h
    have := lt_length K
    have h2 : 2 ^ (dg K).length ≤ 2 ^ 52 := Nat.pow_le_pow_right (by omega) (by omega)
    have e52 : (2 : Nat) ^ 52 = 4503599627370496 := by decide
    omega
  · intro h
    have := length_le K 52 h
    omega
theorem len_54 (K : Nat) (h : K ≤ 9007199254740992) : (dg K).length = 54 ↔ K = 9007199254740992 := by
  constructor
  · intro h1
    have h0 : K ≠ 0 := by rintro rfl; rw [dg_zero] at h1; simp at h1
    rw [length_dg K h0] at h1
    have := Nat.log2_self_le h0
    rw [show K.log2 = 53 by omega] at this
    omega
  · rintro rfl
    rw [length_dg _ (by decide)]
    decide

theorem roundFin_word (minus : Bool) (low : Int) (K : Nat) (hlow : -1074 ≤ low) (hK : K ≤ 9007199254740992) (hs : K < 4503599627370496 → low = -1074) :
    roundFin (if minus then 9223372036854775808 else 0) low K = ((Ieee.double.word minus (min ((low + 1074).toNat * 4503599627370496 + K) 9218868437227405312) : Nat) : Int) := by
  rw [word_eq]
  obtain ⟨m, hm⟩ : ∃ m : Nat, low + 1074 = m := ⟨(low + 1074).toNat, by omega⟩
  have hmt : (low + 1074).toNat = m := by omega
  rw [hmt]
  have hsg : ((((if minus then 9223372036854775808 else 0 : Nat)) : Nat) : Int) = (if minus then 9223372036854775808 else 0 : Int) := by cases minus <;> rfl
  rw [Int.natCast_add, hsg]
  generalize (if minus then 9223372036854775808 else 0 : Int) = sg
  unfold roundFin lastV lastL
  by_cases h54 : (dg K).length = 54
  · rw [if_pos h54, if_pos h54]
    have hK2 := (len_54 K hK).1 h54
    subst hK2
    rw [if_neg (by rw [len_lt53]; omega)]
    by_cases h2 : 2047 ≤ low + 1 + 1075
    · rw [if_pos h2]; omega
    · rw [if_neg h2]; omega
  · rw [if_neg h54, if_neg h54]
    have hK2 : K ≠ 9007199254740992 := fun e => h54 ((len_54 K hK).2 e)
    by_cases h53 : (dg K).length < 53
    · rw [if_pos h53]
      have h1 := (len_lt53 K).1 h53
      have h2 := hs h1
      omega
    · rw [if_neg h53]
      have h1 : ¬ K < 4503599627370496 := fun e => h53 ((len_lt53 K).2 e)
      by_cases h2 : 2047 ≤ low + 1075
      · rw [if_pos h2]; omega
      · rw [if_neg h2]; omega

theorem up1_half (N D : Nat) (hD : 0 < D) (more : Bool) (low : Nat) : up1 (2 ^ (D + 1)) (2 * (N % 2 ^ D) + more.toNat) low = (halfB N D && (restB N D more || low % 2 == 1)).toNat := by
  obtain ⟨d, rfl⟩ : ∃ d, D = d + 1 := ⟨D - 1, by omega⟩
  have hm := toNat_le more
  unfold up1 halfB restB
  rw [Nat.add_sub_cancel, mod_succ]
  have ht := Nat.mod_lt N (Nat.two_pow_pos d)
  have hp : 2 ^ (d + 1 + 1) = 4 * 2 ^ d := by rw [Nat.pow_succ, Nat.pow_succ]; omega
  rw [hp]
  have hb : N / 2 ^ d % 2 = 0 ∨ N / 2 ^ d % 2 = 1 := by omega
  have hdp : decide (0 < d + 1) = true := by simp
  rw [hdp, Bool.true_and]
  generalize N % 2 ^ d = t at *
  generalize 2 ^ d = h at *
  rcases hb with hb | hb
  · rw [hb]
    have e1 : decide (4 * h < 2 * (2 * (t + h * 0) + more.toNat)) = false := by simp; omega
    have e2 : (4 * h == 2 * (2 * (t + h * 0) + more.toNat)) = false := by simp; omega
    rw [e1, e2]; rfl
  · rw [hb]
    rw [show ((1 : Nat) == 1) = true from rfl, Bool.true_and]
    congr 1
    cases more
    · have e1 : decide (4 * h < 2 * (2 * (t + h * 1) + false.toNat)) = (t != 0) := by
        rw [Bool.eq_iff_iff]; simp; omega
      have e2 : (4 * h == 2 * (2 * (t + h * 1) + false.toNat)) = (t == 0) := by
        rw [Bool.eq_iff_iff]; simp; omega
      rw [e1, e2, Bool.false_or]
      cases h0 : (t == 0) <;> simp [bne, h0]
    · have e1 : decide (4 * h < 2 * (2 * (t + h * 1) + true.toNat)) = true := by simp; omega
      rw [e1]; rfl

theorem halfB_zero (N : Nat) : halfB N 0 = false := rfl

/-- The document's rounding, as the standard has it. -/
theorem roundK_RN (N U D : Nat) (d : Int) (more : Bool) (hd : (d = D ∧ U = 0) ∨ (d = -(U : Int) ∧ D = 0)) (hmore : more = false ∨ 0 < D) :
    roundK N U D more = RN (2 * N + more.toNat) (d + 1) := by
  rcases hmore with rfl | hD
  · have e : 2 * N + false.toNat = N * 2 ^ 1 := by simp; omega
    rw [e]
    have := RN_scale N 1 d
    rw [show d + (1 : Nat) = d + 1 from rfl] at this
    rw [this]
    unfold RN roundK keptN
    rcases hd with ⟨rfl, rfl⟩ | ⟨rfl, rfl⟩
    · rw [show (-(D : Int)).toNat = 0 by omega, Int.toNat_natCast, Nat.pow_zero, Nat.mul_one]
      unfold rnd
      congr 1
      by_cases hD : 0 < D
      · have h := up1_half N D hD false (N / 2 ^ D)
        rw [← h]
        unfold up1
        have hp : 2 ^ (D + 1) = 2 * 2 ^ D := by rw [Nat.pow_succ]; omega
        rw [hp]
        have e1 : decide (2 * 2 ^ D < 2 * (2 * (N % 2 ^ D) + false.toNat)) = decide (2 ^ D < 2 * (N % 2 ^ D)) := by
          rw [Bool.eq_iff_iff]; simp
        have e2 : (2 * 2 ^ D == 2 * (2 * (N % 2 ^ D) + false.toNat)) = (2 ^ D == 2 * (N % 2 ^ D)) := by
          rw [Bool.eq_iff_iff]; simp; omega
        rw [e1, e2]
      · obtain rfl : D = 0 := by omega
        rw [halfB_zero, Nat.pow_zero, Nat.mod_one, up1_of_lt (by omega)]; rfl
    · rw [halfB_zero, show (-(-(U : Int))).toNat = U by omega, show (-(U : Int)).toNat = 0 by omega, rnd_zero, Nat.pow_zero, Nat.div_one]; rfl
  · have hd2 : d = D ∧ U = 0 := by omega
    obtain ⟨rfl, rfl⟩ := hd2
    unfold RN roundK keptN
    have hm := toNat_le more
    rw [show (-((D : Int) + 1)).toNat = 0 by omega, show ((D : Int) + 1).toNat = D + 1 by omega, Nat.pow_zero, Nat.mul_one, Nat.mul_one]
    unfold rnd
    have hp : 2 ^ (D + 1) = 2 * 2 ^ D := by rw [Nat.pow_succ]; omega
    have e1 : (2 * N + more.toNat) / 2 ^ (D + 1) = N / 2 ^ D := by
      rw [hp, ← Nat.div_div_eq_div_mul]; congr 1; omega
    have e2 : (2 * N + more.toNat) % 2 ^ (D + 1) = 2 * (N % 2 ^ D) + more.toNat := by
      rw [hp, Nat.mod_mul, show (2 * N + more.toNat) % 2 = more.toNat by omega, show (2 * N + more.toNat) / 2 = N by omega]; omega
    rw [e1, e2, up1_half N D hD more]

theorem log2_two (N : Nat) (more : Bool) (hN : N ≠ 0) : (2 * N + more.toNat).log2 = N.log2 + 1 := by
  have hm := toNat_le more
  rw [Nat.log2_def, if_pos (by omega)]
  congr 2
  omega

/-- Round, of digits that are a number's but 0: the nearest word. -/
theorem round_any (minus more : Bool) (N : Nat) (v : Value) (e : Int) (w : World) (hN : N ≠ 0) (hL2 : (dg N).length ≤ 10000) (he1 : -10000 ≤ e) (he2 : e ≤ 10000) (hmore : more = false ∨ (54 ≤ (dg N).length)) (hv : RowAt w.heap.size w v (dg N)) :
    Calls Try.prog 28 #[.bool minus, v, .int .i64 e, .bool more] w fun r w' => r = .returned (.int .u64 ((Ieee.double.nearest minus (2 * N + more.toNat) (e - 1) : Nat) : Int)) ∧ Below w.heap.size w w' := by
  have hL1 : 1 ≤ (dg N).length := by rw [length_dg N hN]; omega
  obtain ⟨L, hL⟩ : ∃ L, (dg N).length = L := ⟨_, rfl⟩
  have hlog : N.log2 + 1 = L := by rw [← length_dg N hN, hL]
  rw [hL] at hL1 hL2 hmore
  obtain ⟨low, hlow⟩ : ∃ low : Int, ((L : Int) + e - 53 ≥ -1074 ∧ low = (L : Int) + e - 53) ∨ ((L : Int) + e - 53 < -1074 ∧ low = -1074) := by
    rcases Int.lt_or_le ((L : Int) + e - 53) (-1074) with h | h
    · exact ⟨_, .inr ⟨h, rfl⟩⟩
    · exact ⟨_, .inl ⟨h, rfl⟩⟩
  obtain ⟨U, D, hUD⟩ : ∃ U D : Nat, (e ≤ low ∧ (D : Int) = low - e ∧ U = 0) ∨ (low < e ∧ D = 0 ∧ (U : Int) = e - low) := by
    rcases Int.lt_or_le low e with h | h
    · exact ⟨(e - low).toNat, 0, .inr ⟨h, rfl, by omega⟩⟩
    · exact ⟨0, (low - e).toNat, .inl ⟨h, by omega, rfl⟩⟩
  have hK := roundK_bounds N L U D e low more hN hL hlow hUD
  have hlow1 : -1074 ≤ low := by omega
  have hRN := roundK_RN N U D (low - e) more (by omega) (by rcases hmore with h | h; exact .inl h; exact .inr (by omega))
  refine round_walk minus more N L U D v e low _ w hL hL1 hL2 he1 he2 hlow hUD rfl (length54 _ hK.1) _ ?_ hv
  rw [roundFin_word minus low _ hlow1 hK.1 hK.2, nearest_rung _ _ _ (by omega)]
  unfold rung
  have hlast : lastP (2 * N + more.toNat) (e - 1) = low := by
    unfold lastP
    rw [log2_two N more hN]
    omega
  rw [hlast, hRN, show low - (e - 1) = low - e + 1 by omega]

/-- Round, of no digits: 0. -/
theorem round_zero (minus : Bool) (v : Value) (e : Int) (w : World) (n₀ : Nat) (hv : RowAt n₀ w v (dg 0)) :
    Calls Try.prog 28 #[.bool minus, v, .int .i64 e, .bool false] w fun r w' => r = .returned (.int .u64 ((Ieee.double.nearest minus 0 e : Nat) : Int)) ∧ Below w.heap.size w w' := by
  obtain ⟨a, cap, rfl, hcap⟩ := hv.shape
  have hn : Hid (Ieee.double.nearest minus 0 e = if minus then 9223372036854775808 else 0) := Lib.hid (by
    unfold Ieee.Format.nearest
    rw [if_pos rfl, word_eq, Nat.add_zero])
  rw [dg_zero] at hcap ⊢
  clear hv
  cases minus
  all_goals
    go_enter Try.func28, Try.ntmps28
    go_wp2_with fail
    go_ret
    exact ⟨by rw [hn.out]; rfl, Below.refl _ _⟩
end Go.Proofs.Ytllgkkbdpabhjaa
