/- The law on whole numbers and what is cut off, put together. -/
import Derived.Test.YtllgkkbdpabhjaaWholeWalk
import Derived.Test.YtllgkkbdpabhjaaWholeMath
namespace Go.Proofs.Ytllgkkbdpabhjaa
open Go Go.Proofs Go.RowKit

theorem trunc_of (m : Nat) (p : Int) (hm : m < 9007199254740992) : truncCase p m ((TT m p : Nat) : Int) := by
  unfold truncCase TT
  by_cases h : 0 ≤ p
  · left; rw [if_pos h]; exact ⟨h, by simp⟩
  · right
    rw [if_neg h]
    by_cases h2 : p < -63
    · left
      refine ⟨h2, ?_⟩
      have : 2 ^ 53 ≤ 2 ^ (-p).toNat := Nat.pow_le_pow_right (by omega) (by omega)
      rw [Nat.div_eq_of_lt (by omega)]; rfl
    · right
      exact ⟨by omega, by omega, by simp⟩

theorem whole_law (n : Int) (x : Nat) (hn : -9223372036854775808 ≤ n ∧ n ≤ 9223372036854775807) (hx : x < 18446744073709551616) (w : World) :
    Calls Try.prog 7 #[.int .i64 n, .int .u64 (x : Int)] w fun r w' => r = .returned (.bool true) ∧ Below w.heap.size w w' := by
  have px := parts_any x hx
  have hm := mP_lt x
  have hp := eP_bounds x
  have hm4 : ∀ h1 : iP x = false, ∀ h2 : nP x = false, eP x = 11 → 4503599627370496 ≤ mP x := fun h1 h2 h3 => m_normal x h1 h2 (by omega)
  by_cases hacc : nP x = false ∧ iP x = false ∧ (eP x < 11 ∨ (eP x = 11 ∧ sP x = true ∧ mP x = 4503599627370496))
  · obtain ⟨h1, h2, h3⟩ := hacc
    obtain ⟨hc, hv⟩ := cut_accept x hx h1 h2 h3
    have ck := cut_ok x _ hc hv
    refine whole_walk n x (sP x) (iP x) (nP x) (eP x) (mP x : Nat) _ 0 ((TT (mP x) (eP x) : Nat) : Int) w hn.1 hn.2 px ck ?_ (by omega) (by omega) hp.1 hp.2 (.inr ⟨?_, rfl, trunc_of _ _ hm, rfl⟩)
    · rcases h3 with h3 | ⟨h3, _, h5⟩
      · have := TT_le (mP x) (eP x) hm h3
        omega
      · have : TT (mP x) (eP x) = 9223372036854775808 := by
          unfold TT
          rw [h3, h5, if_pos (by omega)]
          decide
        omega
    · unfold acceptCase
      rcases h3 with h3 | ⟨h3, h4, h5⟩
      · exact .inl ⟨h2, h1, h3⟩
      · exact .inr ⟨h2, h1, h3, h4, by rw [h5]; rfl⟩
  · have hr : iP x = true ∨ (iP x = false ∧ nP x = true) ∨ (iP x = false ∧ nP x = false ∧ 11 < eP x) ∨ (iP x = false ∧ nP x = false ∧ eP x = 11 ∧ (sP x = false ∨ mP x ≠ 4503599627370496)) := by
      cases hi : iP x
      · right
        cases hna : nP x
        · right
          rcases Int.lt_trichotomy (eP x) 11 with g | g | g
          · exact absurd ⟨hna, hi, .inl g⟩ hacc
          · right
            refine ⟨rfl, rfl, g, ?_⟩
            cases hs : sP x
            · exact .inl rfl
            · right
              intro hmm
              exact hacc ⟨hna, hi, .inr ⟨g, hs, hmm⟩⟩
          · exact .inl ⟨rfl, rfl, g⟩
        · exact .inl ⟨rfl, rfl⟩
      · exact .inl rfl
    have ck := cut_bad x (cut_refuse x hx hr)
    refine whole_walk n x (sP x) (iP x) (nP x) (eP x) (mP x : Nat) 0 1 0 w hn.1 hn.2 px ck (by omega) (by omega) (by omega) hp.1 hp.2 (.inl ⟨?_, rfl, rfl⟩)
    unfold refuseCase
    rcases hr with g | ⟨g1, g2⟩ | ⟨g1, g2, g3⟩ | ⟨g1, g2, g3, g4⟩
    · exact .inl g
    · exact .inr (.inl ⟨g1, g2⟩)
    · exact .inr (.inr (.inl ⟨g1, g2, g3⟩))
    · have h4 := hm4 g1 g2 g3
      cases hs : sP x
      · exact .inr (.inr (.inr (.inr ⟨g1, g2, g3, rfl, by omega⟩)))
      · right; right; right; left
        refine ⟨g1, g2, g3, rfl, ?_, by omega⟩
        rcases g4 with g4 | g4
        · rw [hs] at g4; cases g4
        · simp; omega
end Go.Proofs.Ytllgkkbdpabhjaa
