/- How many bytes an int's token and blanks have; which token stands ahead: the program's own functions, at every string of at most 2^20 bytes. -/
import Derived.Test.YtocepddgegnfaaaDoorText
import Derived.Lib.SmallJoins
namespace Go.Proofs.YtocepddgegnfaaaDoor
open Go Go.Proofs Go.RowKit

/-- What of the library's variables the calls need: the two tables, and an error that is none of nil. -/
structure Env (w : World) : Prop where
  tabs : Lib.Utf8Tabs 0 1 w
  err : ∃ tp p, w.cell? ⟨5, 0, none⟩ = some (.iface tp p)
  size : 6 ≤ w.heap.size
theorem Env.below {w w' : World} {n : Nat} (h : Env w) (hn : 6 ≤ n) (hb : Below n w w') (hs : 6 ≤ w'.heap.size) : Env w' :=
  ⟨tabs_below (by omega) hb h.tabs, by obtain ⟨tp, p, e⟩ := h.err; exact ⟨tp, p, (hb.cell (p := ⟨5, 0, none⟩) (by simp; omega)).trans e⟩, hs⟩
theorem Env.on {w w' : World} (h : Env w) (hb : Below w.heap.size w w') : Env w' := h.below h.size hb (Nat.le_trans h.size hb.size)

theorem decV_ge : ∀ (l : List UInt8) (n : Nat), n ≤ decV n l
  | [], n => Nat.le_refl _
  | c :: r, n => by
    have := decV_ge r (n * 10 + (c.toNat - 48))
    show n ≤ decV (n * 10 + (c.toNat - 48)) r
    omega
theorem parseM (M : Nat) (hM : M = 18446744073709551615) : ∀ (l : List UInt8) (n : Nat), l.all digB = true → n ≤ M → Lib.parseUintM M n l = if decV n l ≤ M then .ok (decV n l) else .range
  | [], n, _, hn => by
    show Lib.NumEnd.ok n = if n ≤ M then _ else _
    rw [if_pos hn]; rfl
  | c :: r, n, h, hn => by
    simp only [List.all_cons, Bool.and_eq_true] at h
    have hc : 48 ≤ c.toNat ∧ c.toNat ≤ 57 := by simpa [digB] using h.1
    have hg := decV_ge r (n * 10 + (c.toNat - 48))
    have he : decV n (c :: r) = decV (n * 10 + (c.toNat - 48)) r := rfl
    rw [Lib.parseUintM, if_pos hc, he]
    by_cases h1 : 1844674407370955162 ≤ n
    · rw [if_pos h1, if_neg (by omega)]
    · rw [if_neg h1]
      by_cases h2 : M < n * 10 + (c.toNat - 48)
      · rw [if_pos h2, if_neg (by omega)]
      · rw [if_neg h2]
        exact parseM M hM r _ h.2 (by omega)
theorem parse64 (l : List UInt8) (h : l.all digB = true) (h0 : l ≠ []) : Lib.parseIntB 64 l = if decV 0 l ≤ 9223372036854775807 then .ok ((decV 0 l : Nat) : Int) else .range := by
  match l, h, h0 with
  | c :: r, h, _ =>
    have hc : 48 ≤ c.toNat ∧ c.toNat ≤ 57 := by
      simp only [List.all_cons, Bool.and_eq_true] at h
      simpa [digB] using h.1
    have hp : Lib.parseUintB 64 (c :: r) = if decV 0 (c :: r) ≤ 18446744073709551615 then .ok (decV 0 (c :: r)) else .range := by
      unfold Lib.parseUintB
      rw [if_neg (by simp)]
      exact parseM _ (by decide) (c :: r) 0 h (by decide)
    unfold Lib.parseIntB
    dsimp only
    rw [if_neg (show ¬ (c.toNat = 43 ∨ c.toNat = 45) by omega), hp]
    by_cases h1 : decV 0 (c :: r) ≤ 18446744073709551615
    · rw [if_pos h1]
      dsimp only
      by_cases h2 : decV 0 (c :: r) ≤ 9223372036854775807
      · rw [if_pos h2, if_neg (by have : (2 : Nat) ^ (64 - 1) = 9223372036854775808 := by decide
                                  rw [this]; omega), if_neg (by omega), if_neg (by omega)]
      · rw [if_neg h2, if_pos (by have : (2 : Nat) ^ (64 - 1) = 9223372036854775808 := by decide
                                  rw [this]; exact ⟨by omega, by omega⟩)]
    · rw [if_neg h1, if_neg (by omega)]

theorem digN_take (l : List UInt8) : (l.take (digN l)).all digB = true := by
  match l with
  | [] => rfl
  | c :: r =>
    unfold digN
    by_cases h : digB c = true
    · rw [spanN_cons _ _ _ _ h, List.take_succ_cons, List.all_cons, h, Bool.true_and]
      have : r.take (r.takeWhile digB).length = r.takeWhile digB := List.prefix_iff_eq_take.1 (List.takeWhile_prefix _) |>.symm
      rw [this, List.all_eq_true]
      intro x hx
      exact (List.all_eq_true.1 (List.all_takeWhile (p := digB) (l := r))) x hx
    · rw [spanN_zero _ _ _ _ (by simpa using h)]
      rfl

set_option maxHeartbeats 2000000 in
theorem int_any (s : ByteArray) (hs : s.size ≤ 1048576) (h1 : 1 ≤ s.size) (hd : digB (s[0]'h1) = true) (w : World) (hE : Env w) :
    Calls Tryd.prog 33 #[.string s] w fun e w' => e = .returned (.int .i64 (intN (tl s) : Nat)) ∧ Below w.heap.size w w' := by
  have cS := span_dig s (by omega) w
  have hn := spanN_le digB digB (tl s)
  rw [tl_length] at hn
  have hl0 := tl_drop s 0 h1
  rw [List.drop_zero] at hl0
  have hn1 : 1 ≤ digN (tl s) := by unfold digN; rw [hl0, spanN_cons _ _ _ _ hd]; omega
  have hgd : (tl s).getD 0 0 = s[0] := by rw [hl0]; rfl
  have hall := digN_take (tl s)
  have hI : intN (tl s) = if (digN (tl s) = 1 ∨ (s[0]'h1).toNat ≠ 48) ∧ decV 0 ((tl s).take (digN (tl s))) ≤ 9223372036854775807 then digN (tl s) else 0 := by
    unfold intN; rw [hgd]
  rw [hI]
  have hnn : digN (tl s) ≤ s.size := hn
  have he : tl (s.extract 0 (digN (tl s))) = (tl s).take (digN (tl s)) := by rw [tl_extract, List.drop_zero]
  rw [← he] at hall ⊢
  have hz : (s.extract 0 (digN (tl s))).size = digN (tl s) := by simp [ByteArray.size_extract]; omega
  clear hn hI hgd hl0 he hd
  obtain ⟨n, hN⟩ : ∃ n, digN (tl s) = n := ⟨_, rfl⟩
  rw [hN] at cS hn1 hall hnn hz ⊢
  clear hN
  by_cases hlead : n = 1 ∨ (s[0]'h1).toNat ≠ 48
  · have hcond : (((n : Int) > 1 : Bool) && ((s[0]'h1).toNat : Int) == 48) = false := by
      rcases hlead with h | h
      · subst h; simp
      · simp; intro _; omega
    obtain ⟨t, ht⟩ : ∃ t, s.extract 0 n = t := ⟨_, rfl⟩
    rw [ht] at hall hz ⊢
    have hp := parse64 (tl t) hall (fun h => by have := tl_length t; rw [h, hz] at this; simp at this; omega)
    by_cases hfit : decV 0 (tl t) ≤ 9223372036854775807
    · rw [if_pos ⟨hlead, hfit⟩]
      rw [if_pos hfit] at hp
      have cP := Tryd.strconv_ParseInt_10_at64_ok t (by omega) _ hp w
      have cP' : Calls Tryd.prog 54 #[.string t, .int .i64 10, .int .i64 64] w fun e w' => (∃ v : Int, e = .returned (.tuple #[.int .i64 v, .nilIface])) ∧ Below w.heap.size w w' :=
        cP.mono fun e w' ⟨h1, h2⟩ => ⟨⟨_, h1⟩, by
          rcases h2 with rfl | ⟨x, rfl⟩
          · exact Below.refl _ _
          · exact Go.Joins.below_bytesWorld _ _ _ _ (Nat.le_refl _)⟩
      clear cP hp hfit hall
      by_cases hgt : 1 < n
      · have h48 : ¬ (s[0]'h1).toNat = 48 := by omega
        clear hlead hcond
        go_enter Tryd.func33, Tryd.ntmps33
        go_wp2_with (first | (go_at_call 47; refine cS.mono ?_; rintro e w' ⟨rfl, rfl⟩) | (go_at_call 54; refine cP'.mono ?_; rintro e w1 ⟨⟨v, rfl⟩, hb1⟩))
        go_ret
        exact ⟨rfl, hb1⟩
      · clear hlead hcond
        go_enter Tryd.func33, Tryd.ntmps33
        go_wp2_with (first | (go_at_call 47; refine cS.mono ?_; rintro e w' ⟨rfl, rfl⟩) | (go_at_call 54; refine cP'.mono ?_; rintro e w1 ⟨⟨v, rfl⟩, hb1⟩))
        go_ret
        exact ⟨rfl, hb1⟩
    · rw [if_neg (fun h => hfit h.2)]
      rw [if_neg hfit] at hp
      obtain ⟨tp, p, he⟩ := hE.err
      have cP := Any.strconv_ParseInt_10_at64_range Tryd.laysC174 t (by omega) hp (.iface tp p) w he (Or.inr ⟨tp, p, rfl⟩)
      have cP' : Calls Tryd.prog 54 #[.string t, .int .i64 10, .int .i64 64] w fun e w' => (∃ (v : Int) (T : TypeId) (N : Nat), e = .returned (.tuple #[.int .i64 v, .iface T (.pointer (some ⟨N, 0, none⟩))])) ∧ Below w.heap.size w w' :=
        cP.mono fun e w' ⟨N, h1, _, _, h2⟩ => ⟨⟨_, _, N, h1⟩, h2⟩
      clear cP hp hfit hall he
      by_cases hgt : 1 < n
      · have h48 : ¬ (s[0]'h1).toNat = 48 := by omega
        clear hlead hcond
        go_enter Tryd.func33, Tryd.ntmps33
        go_wp2_with (first | (go_at_call 47; refine cS.mono ?_; rintro e w' ⟨rfl, rfl⟩) | (go_at_call 54; refine cP'.mono ?_; rintro e w1 ⟨⟨v, T, N, rfl⟩, hb1⟩))
        go_ret
        exact ⟨rfl, hb1⟩
      · clear hlead hcond
        go_enter Tryd.func33, Tryd.ntmps33
        go_wp2_with (first | (go_at_call 47; refine cS.mono ?_; rintro e w' ⟨rfl, rfl⟩) | (go_at_call 54; refine cP'.mono ?_; rintro e w1 ⟨⟨v, T, N, rfl⟩, hb1⟩))
        go_ret
        exact ⟨rfl, hb1⟩
  · rw [if_neg (fun h => hlead h.1)]
    have hgt : 1 < n := by omega
    have h48 : (s[0]'h1).toNat = 48 := Classical.byContradiction fun h => hlead (.inr h)
    clear hlead hall
    go_enter Tryd.func33, Tryd.ntmps33
    go_wp2_with (first | (go_at_call 47; refine cS.mono ?_; rintro e w' ⟨rfl, rfl⟩))
    go_ret
    exact ⟨rfl, Below.refl _ _⟩
end Go.Proofs.YtocepddgegnfaaaDoor
