/- The document's answer for one token, more: at every text of at most 2^20 bytes. -/
import Derived.Test.YtocepddgegnfaaaDoorOneC
namespace Go.Proofs.YtocepddgegnfaaaDoor
open Go Go.Proofs Go.RowKit

set_option maxRecDepth 100000 in
set_option maxHeartbeats 4000000 in
theorem rone_high (b off cap : Nat) (l : List UInt8) (hlen : l.length ≤ 1048576) (hcap : l.length ≤ cap) (a : Nat) (ha : a < l.length) (w : World) (hb : b < w.heap.size) (hh : Holds w b off l) (hl : leadB (l.drop a) = false) (hhi : highB (l[a]'ha) = true) :
    Calls Tryd.prog 21 #[.slice (some ⟨b, off, none⟩) l.length cap, .int .i64 a] w (OnePost (l.drop a) w) := by
  obtain ⟨w0, hw0⟩ : ∃ w0, w.alloc (.cells #[.int .i64 0, .string ⟨#[]⟩, .int .i64 0] 31) = w0 := ⟨_, rfl⟩
  have hb0 : Below w.heap.size w w0 := by rw [← hw0]; exact (Below.refl _ w).alloc (Nat.le_refl _) _
  have hs0 : w0.heap.size = w.heap.size + 1 := by rw [← hw0]; simp
  have hA0 := at3_of (show w0.heap[w.heap.size]? = some (.cells #[.int .i64 0, .string ⟨#[]⟩, .int .i64 0] 31) by rw [← hw0]; exact World.alloc_heap_new w _)
  have hh0 : Holds w0 b off l := hh.below hb hb0
  have ht := tok_at l a ha
  have hck := hh0.at a ha
  have hc256 := (l[a]'ha).toNat_lt
  have hd' : 65 ≤ (l[a]'ha).toNat ∧ (l[a]'ha).toNat ≤ 90 := by simpa [highB] using hhi
  have hlo : lowB (l[a]'ha) = false := by simp [lowB]; omega
  have hdi : digB (l[a]'ha) = false := by simp [digB]; omega
  rw [hl, if_neg (by decide)] at ht
  have h102 : ¬ (l[a]'ha).toNat = 102 := by omega
  have cL := rlow_any (l[a]'ha)
  have cH := rhigh_any (l[a]'ha)
  have cD := rdig_any (l[a]'ha)
  obtain ⟨x0, x1, x2, f0, f1, f2⟩ := hA0
  rw [if_neg (by omega), if_neg (by omega), hdi, if_neg (by decide), hlo, if_neg (by decide), hhi, if_pos rfl] at ht
  rw [hlo] at cL
  rw [hhi] at cH
  have HN := Lib.hid (spanL_at highB aliB l a ha hhi)
  have HH := Lib.hid hh0
  have HT := Lib.hid ht
  clear hd' hdi hlo hhi hl ht cD
  go_enter Tryd.func21, Tryd.ntmps21
  go_wp2_with (first | (go_at_call 39; with_reducible refine (cL _).mono ?_; rintro e w' ⟨rfl, rfl⟩) | (go_at_call 41; with_reducible refine (cH _).mono ?_; rintro e w' ⟨rfl, rfl⟩))
  clear cL cH
  go_loopw [10] (fun i wr => wr = w0 ∧ ∃ n : Nat, 1 ≤ n ∧ a + n ≤ l.length ∧ i = .int .i64 n ∧ Hid (∀ j (hj : j < l.length), a + 1 ≤ j → j < a + n → aliB (l[j]'hj) = true)) (fun i _ => l.length - (intOf i).toNat)
  case atStart => exact ⟨rfl, 1, Nat.le_refl _, ha, rfl, Lib.hid (fun j hj h1 h2 => by omega)⟩
  case round =>
    obtain ⟨rfl, n, hn1, hn2, rfl, HJ⟩ := hrel
    by_cases hlt : a + n < l.length
    · have hckn := HH.out.at (a + n) hlt
      have hcn256 := (l[a + n]'hlt).toNat_lt
      have ck := rhigh_any (l[a + n]'hlt)
      have dk := rdig_any (l[a + n]'hlt)
      have hsplit : aliB (l[a + n]'hlt) = (highB (l[a + n]'hlt) || smallB (l[a + n]'hlt) || digB (l[a + n]'hlt)) := rfl
      have HJ2 : aliB (l[a + n]'hlt) = true → Hid (∀ j (hj : j < l.length), a + 1 ≤ j → j < a + (n + 1) → aliB (l[j]'hj) = true) := fun hx => Lib.hid (fun j hj h1 h2 => by
        by_cases h : j < a + n
        · exact HJ.out j hj h1 h
        · obtain rfl : j = a + n := by omega
          exact hx)
      cases h1 : highB (l[a + n]'hlt)
      · rw [h1] at ck hsplit
        cases h3 : digB (l[a + n]'hlt)
        · rw [h3] at dk hsplit
          have h3' : ¬ (48 ≤ (l[a + n]'hlt).toNat ∧ (l[a + n]'hlt).toNat ≤ 57) := by
            intro h
            have : digB (l[a + n]'hlt) = true := by simpa [digB] using h
            rw [h3] at this; cases this
          by_cases h97 : 97 ≤ (l[a + n]'hlt).toNat
          · by_cases h122 : (l[a + n]'hlt).toNat ≤ 122
            · have HX := HJ2 (by rw [hsplit]; simp [smallB, h97, h122])
              clear hsplit h1 h3 HJ2
              go_wp2_with (first | (go_at_call 41; with_reducible refine (ck _).mono ?_; rintro e w' ⟨rfl, rfl⟩) | (go_at_call 42; with_reducible refine (dk _).mono ?_; rintro e w' ⟨rfl, rfl⟩))
              go_roundw
              case rel => exact ⟨trivial, n + 1, by omega, by omega, by go_num, HX⟩
              case measure => simp [intOf]; omega
            · have hf : aliB (l[a + n]'hlt) = false := by rw [hsplit]; simp [smallB]; omega
              have hR := Lib.hid (HN.out n hn1 hn2 HJ.out (.inr ⟨hlt, hf⟩))
              have hcv := conv_part HH.out a n (cap - a) (by omega)
              obtain ⟨S, hS⟩ : ∃ S : ByteArray, ⟨((l.drop a).take n).toArray⟩ = S := ⟨_, rfl⟩
              rw [hS] at hcv
              have HT2 : Hid (tok (l.drop a) = some ((2, (l.drop a).take n), n)) := Lib.hid (by rw [HT.out]; unfold aliasN; rw [hR.out])
              clear hsplit h1 h3 HJ2 hf
              go_wp2_with (first | (go_at_call 41; with_reducible refine (ck _).mono ?_; rintro e w' ⟨rfl, rfl⟩) | (go_at_call 42; with_reducible refine (dk _).mono ?_; rintro e w' ⟨rfl, rfl⟩))
              obtain ⟨r0, r1, r2⟩ := put3_cells ⟨x0, x1, x2, f0, f1, f2⟩ (.int .i64 2) (.string S) (.int .i64 0)
              have hbX := resPut_below (hb0) (Nat.le_refl _) (.int .i64 2) (.string S) (.int .i64 0)
              unfold resPut at r0 r1 r2 hbX
              refine bodyPost_ret (v := .tuple #[.agg #[.int .i64 2, .string S, .int .i64 0], .int .i64 (n : Int)]) (by simp [results, Tryd.results21, go_sem, r0, r1, r2]) rfl ?_
              exact onePost_some HT2.out hS rfl rfl hbX
          · have hf : aliB (l[a + n]'hlt) = false := by rw [hsplit]; simp [smallB]; omega
            have hR := Lib.hid (HN.out n hn1 hn2 HJ.out (.inr ⟨hlt, hf⟩))
            have hcv := conv_part HH.out a n (cap - a) (by omega)
            obtain ⟨S, hS⟩ : ∃ S : ByteArray, ⟨((l.drop a).take n).toArray⟩ = S := ⟨_, rfl⟩
            rw [hS] at hcv
            have HT2 : Hid (tok (l.drop a) = some ((2, (l.drop a).take n), n)) := Lib.hid (by rw [HT.out]; unfold aliasN; rw [hR.out])
            clear hsplit h1 h3 HJ2 hf
            go_wp2_with (first | (go_at_call 41; with_reducible refine (ck _).mono ?_; rintro e w' ⟨rfl, rfl⟩) | (go_at_call 42; with_reducible refine (dk _).mono ?_; rintro e w' ⟨rfl, rfl⟩))
            obtain ⟨r0, r1, r2⟩ := put3_cells ⟨x0, x1, x2, f0, f1, f2⟩ (.int .i64 2) (.string S) (.int .i64 0)
            have hbX := resPut_below (hb0) (Nat.le_refl _) (.int .i64 2) (.string S) (.int .i64 0)
            unfold resPut at r0 r1 r2 hbX
            refine bodyPost_ret (v := .tuple #[.agg #[.int .i64 2, .string S, .int .i64 0], .int .i64 (n : Int)]) (by simp [results, Tryd.results21, go_sem, r0, r1, r2]) rfl ?_
            exact onePost_some HT2.out hS rfl rfl hbX
        · rw [h3] at dk hsplit
          have HX := HJ2 (by rw [hsplit]; simp)
          have h48 : (l[a + n]'hlt).toNat ≤ 57 := by
            have : 48 ≤ (l[a + n]'hlt).toNat ∧ (l[a + n]'hlt).toNat ≤ 57 := by simpa [digB] using h3
            exact this.2
          clear hsplit h1 h3 HJ2
          go_wp2_with (first | (go_at_call 41; with_reducible refine (ck _).mono ?_; rintro e w' ⟨rfl, rfl⟩) | (go_at_call 42; with_reducible refine (dk _).mono ?_; rintro e w' ⟨rfl, rfl⟩))
          go_roundw
          case rel => exact ⟨trivial, n + 1, by omega, by omega, by go_num, HX⟩
          case measure => simp [intOf]; omega
      · rw [h1] at ck hsplit
        have HX := HJ2 (by rw [hsplit]; simp)
        clear hsplit h1 HJ2
        go_wp2_with (first | (go_at_call 41; with_reducible refine (ck _).mono ?_; rintro e w' ⟨rfl, rfl⟩) | (go_at_call 42; with_reducible refine (dk _).mono ?_; rintro e w' ⟨rfl, rfl⟩))
        go_roundw
        case rel => exact ⟨trivial, n + 1, by omega, by omega, by go_num, HX⟩
        case measure => simp [intOf]; omega
    · have hR := Lib.hid (HN.out n hn1 hn2 HJ.out (.inl (by omega)))
      have hcv := conv_part HH.out a n (cap - a) (by omega)
      obtain ⟨S, hS⟩ : ∃ S : ByteArray, ⟨((l.drop a).take n).toArray⟩ = S := ⟨_, rfl⟩
      rw [hS] at hcv
      have HT2 : Hid (tok (l.drop a) = some ((2, (l.drop a).take n), n)) := Lib.hid (by rw [HT.out]; unfold aliasN; rw [hR.out])
      go_wp2_with fail
      obtain ⟨r0, r1, r2⟩ := put3_cells ⟨x0, x1, x2, f0, f1, f2⟩ (.int .i64 2) (.string S) (.int .i64 0)
      have hbX := resPut_below (hb0) (Nat.le_refl _) (.int .i64 2) (.string S) (.int .i64 0)
      unfold resPut at r0 r1 r2 hbX
      refine bodyPost_ret (v := .tuple #[.agg #[.int .i64 2, .string S, .int .i64 0], .int .i64 (n : Int)]) (by simp [results, Tryd.results21, go_sem, r0, r1, r2]) rfl ?_
      exact onePost_some HT2.out hS rfl rfl hbX

set_option maxRecDepth 100000 in
set_option maxHeartbeats 4000000 in
theorem rone_lead (b off cap : Nat) (l : List UInt8) (hlen : l.length ≤ 1048576) (hcap : l.length ≤ cap) (a : Nat) (ha : a < l.length) (w : World) (hb : b < w.heap.size) (hh : Holds w b off l) (hl : leadB (l.drop a) = true) :
    Calls Tryd.prog 21 #[.slice (some ⟨b, off, none⟩) l.length cap, .int .i64 a] w (OnePost (l.drop a) w) := by
  obtain ⟨w0, hw0⟩ : ∃ w0, w.alloc (.cells #[.int .i64 0, .string ⟨#[]⟩, .int .i64 0] 31) = w0 := ⟨_, rfl⟩
  have hb0 : Below w.heap.size w w0 := by rw [← hw0]; exact (Below.refl _ w).alloc (Nat.le_refl _) _
  have hs0 : w0.heap.size = w.heap.size + 1 := by rw [← hw0]; simp
  have hA0 := at3_of (show w0.heap[w.heap.size]? = some (.cells #[.int .i64 0, .string ⟨#[]⟩, .int .i64 0] 31) by rw [← hw0]; exact World.alloc_heap_new w _)
  have hh0 : Holds w0 b off l := hh.below hb hb0
  have ht := tok_at l a ha
  have hck := hh0.at a ha
  have hc256 := (l[a]'ha).toNat_lt
  have hl' := hl
  rw [lead_at l a ha] at hl'
  have h102 : (l[a]'ha).toNat = 102 := by
    simp only [Bool.and_eq_true, decide_eq_true_eq] at hl'
    exact hl'.1
  have hl1 : a + 1 < l.length := by
    by_cases h : a + 1 < l.length
    · exact h
    · rw [dif_neg h] at hl'; simp at hl'
  have h39 : (l[a + 1]'hl1).toNat = 39 := by
    rw [dif_pos hl1] at hl'
    simp only [Bool.and_eq_true, decide_eq_true_eq] at hl'
    exact hl'.2
  have hck1 := hh0.at (a + 1) hl1
  rw [h39] at hck1
  rw [h102] at hck
  rw [hl, if_pos rfl] at ht
  obtain ⟨x0, x1, x2, f0, f1, f2⟩ := hA0
  have HH := Lib.hid hh0
  clear hl hl' h102 h39 hc256
  by_cases h18 : a + 18 ≤ l.length
  · have HF : Hid (fltB (l.drop a) = true ↔ ∀ j (hj : j < l.length), a + 2 ≤ j → j < a + 18 → hexB (l[j]'hj) = true) := Lib.hid (by
      unfold fltB
      rw [Bool.and_eq_true, decide_eq_true_eq, List.length_drop, List.all_eq_true]
      have hlen16 : (((l.drop a).drop 2).take 16).length = 16 := by simp; omega
      have hget : ∀ i (hi : i < 16), (((l.drop a).drop 2).take 16)[i]'(by omega) = l[a + 2 + i]'(by omega) := fun i hi => by simp [List.getElem_drop]
      constructor
      · rintro ⟨_, h⟩ j hj h1 h2
        have := h ((((l.drop a).drop 2).take 16)[j - (a + 2)]'(by omega)) (List.getElem_mem _)
        rw [hget _ (by omega)] at this
        simpa [show a + 2 + (j - (a + 2)) = j by omega] using this
      · intro h
        refine ⟨by omega, fun x hx => ?_⟩
        obtain ⟨i, hi, rfl⟩ := List.getElem_of_mem hx
        rw [hlen16] at hi
        rw [hget i hi]
        exact h _ _ (by omega) (by omega))
    have hcv := conv_part hh0 a 18 (cap - a) h18
    obtain ⟨S, hS⟩ : ∃ S : ByteArray, ⟨((l.drop a).take 18).toArray⟩ = S := ⟨_, rfl⟩
    rw [hS] at hcv
    have HT := Lib.hid ht
    clear ht
    have hng : ¬ l.length < a + 18 := by omega
    go_enter Tryd.func21, Tryd.ntmps21
    go_wp2_with fail
    go_loopw [7] (fun i wr => wr = w0 ∧ ∃ k : Nat, 2 ≤ k ∧ k ≤ 18 ∧ i = .int .i64 k ∧ Hid (∀ j (hj : j < l.length), a + 2 ≤ j → j < a + k → hexB (l[j]'hj) = true)) (fun i _ => 18 - (intOf i).toNat)
    case atStart => exact ⟨rfl, 2, Nat.le_refl _, by omega, rfl, Lib.hid (fun j hj h1 h2 => by omega)⟩
    case round =>
      obtain ⟨rfl, k, hk1, hk2, rfl, HJ⟩ := hrel
      by_cases hlt : k < 18
      · have hlk : a + k < l.length := by omega
        have hckk := HH.out.at (a + k) hlk
        have ck := rhex_any (l[a + k]'hlk)
        cases hx : hexB (l[a + k]'hlk)
        · rw [hx] at ck
          have HT2 : Hid (tok (l.drop a) = none) := Lib.hid (by
            rw [HT.out, if_neg]
            intro h
            have := HF.out.1 h (a + k) hlk (by omega) (by omega)
            rw [hx] at this; cases this)
          clear hx
          go_wp2_with (first | (go_at_call 38; with_reducible refine (ck _).mono ?_; rintro e w' ⟨rfl, rfl⟩))
          obtain ⟨r0, r1, r2⟩ := put3_cells ⟨x0, x1, x2, f0, f1, f2⟩ (.int .i64 0) (.string ⟨#[]⟩) (.int .i64 0)
          have hbX := resPut_below (hb0) (Nat.le_refl _) (.int .i64 0) (.string ⟨#[]⟩) (.int .i64 0)
          unfold resPut at r0 r1 r2 hbX
          refine bodyPost_ret (v := .tuple #[.agg #[.int .i64 0, .string ⟨#[]⟩, .int .i64 0], .int .i64 0]) (by simp [results, Tryd.results21, go_sem, r0, r1, r2]) rfl ?_
          exact onePost_none HT2.out hbX
        · rw [hx] at ck
          have HJ2 : Hid (∀ j (hj : j < l.length), a + 2 ≤ j → j < a + (k + 1) → hexB (l[j]'hj) = true) := Lib.hid (fun j hj h1 h2 => by
            by_cases h : j < a + k
            · exact HJ.out j hj h1 h
            · obtain rfl : j = a + k := by omega
              exact hx)
          clear hx
          go_wp2_with (first | (go_at_call 38; with_reducible refine (ck _).mono ?_; rintro e w' ⟨rfl, rfl⟩))
          go_roundw
          case rel => exact ⟨trivial, k + 1, by omega, by omega, by go_num, HJ2⟩
          case measure => simp [intOf]; omega
      · obtain rfl : k = 18 := by omega
        have HT2 : Hid (tok (l.drop a) = some ((5, (l.drop a).take 18), 18)) := Lib.hid (by rw [HT.out, if_pos (HF.out.2 HJ.out)])
        go_wp2_with fail
        obtain ⟨r0, r1, r2⟩ := put3_cells ⟨x0, x1, x2, f0, f1, f2⟩ (.int .i64 5) (.string S) (.int .i64 0)
        have hbX := resPut_below (hb0) (Nat.le_refl _) (.int .i64 5) (.string S) (.int .i64 0)
        unfold resPut at r0 r1 r2 hbX
        refine bodyPost_ret (v := .tuple #[.agg #[.int .i64 5, .string S, .int .i64 0], .int .i64 18]) (by simp [results, Tryd.results21, go_sem, r0, r1, r2]) rfl ?_
        exact onePost_some HT2.out hS rfl rfl hbX
  · have HT2 : Hid (tok (l.drop a) = none) := Lib.hid (by
      rw [ht, if_neg]
      unfold fltB
      rw [List.length_drop]
      simp; omega)
    clear ht
    have hng : l.length < a + 18 := by omega
    go_enter Tryd.func21, Tryd.ntmps21
    go_wp2_with fail
    obtain ⟨r0, r1, r2⟩ := put3_cells ⟨x0, x1, x2, f0, f1, f2⟩ (.int .i64 0) (.string ⟨#[]⟩) (.int .i64 0)
    have hbX := resPut_below (hb0) (Nat.le_refl _) (.int .i64 0) (.string ⟨#[]⟩) (.int .i64 0)
    unfold resPut at r0 r1 r2 hbX
    refine bodyPost_ret (v := .tuple #[.agg #[.int .i64 0, .string ⟨#[]⟩, .int .i64 0], .int .i64 0]) (by simp [results, Tryd.results21, go_sem, r0, r1, r2]) rfl ?_
    exact onePost_none HT2.out hbX

/-- One token, at every place within the text. -/
theorem rone_any (b off cap : Nat) (l : List UInt8) (hlen : l.length ≤ 1048576) (hcap : l.length ≤ cap) (a : Nat) (ha : a < l.length) (w : World) (hb : b < w.heap.size) (hh : Holds w b off l) :
    Calls Tryd.prog 21 #[.slice (some ⟨b, off, none⟩) l.length cap, .int .i64 a] w (OnePost (l.drop a) w) := by
  cases hl : leadB (l.drop a)
  · by_cases c34 : (l[a]'ha).toNat = 34
    · exact rone_str b off cap l hlen hcap a ha w hb hh hl c34
    · by_cases c35 : (l[a]'ha).toNat = 35
      · exact rone_tag b off cap l hlen hcap a ha w hb hh hl c35
      · cases hdi : digB (l[a]'ha)
        · cases hlo : lowB (l[a]'ha)
          · cases hhi : highB (l[a]'ha)
            · exact rone_sign b off cap l hlen hcap a ha w hb hh hl c34 c35 hdi hlo hhi
            · exact rone_high b off cap l hlen hcap a ha w hb hh hl hhi
          · exact rone_low b off cap l hlen hcap a ha w hb hh hl hlo
        · exact rone_dig b off cap l hlen hcap a ha w hb hh hl hdi
  · exact rone_lead b off cap l hlen hcap a ha w hb hh hl
end Go.Proofs.YtocepddgegnfaaaDoor
