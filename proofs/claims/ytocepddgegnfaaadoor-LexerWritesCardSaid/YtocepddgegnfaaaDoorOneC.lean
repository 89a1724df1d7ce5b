/- The document's answer for one token, more: at every text of at most 2^20 bytes. -/
import Derived.Test.YtocepddgegnfaaaDoorOneB
namespace Go.Proofs.YtocepddgegnfaaaDoor
open Go Go.Proofs Go.RowKit

set_option maxRecDepth 100000 in
set_option maxHeartbeats 4000000 in
theorem rone_str (b off cap : Nat) (l : List UInt8) (hlen : l.length ≤ 1048576) (hcap : l.length ≤ cap) (a : Nat) (ha : a < l.length) (w : World) (hb : b < w.heap.size) (hh : Holds w b off l) (hl : leadB (l.drop a) = false) (c34 : (l[a]'ha).toNat = 34) :
    Calls Tryd.prog 21 #[.slice (some ⟨b, off, none⟩) l.length cap, .int .i64 a] w (OnePost (l.drop a) w) := by
  obtain ⟨w0, hw0⟩ : ∃ w0, w.alloc (.cells #[.int .i64 0, .string ⟨#[]⟩, .int .i64 0] 31) = w0 := ⟨_, rfl⟩
  have hb0 : Below w.heap.size w w0 := by rw [← hw0]; exact (Below.refl _ w).alloc (Nat.le_refl _) _
  have hs0 : w0.heap.size = w.heap.size + 1 := by rw [← hw0]; simp
  have hA0 := at3_of (show w0.heap[w.heap.size]? = some (.cells #[.int .i64 0, .string ⟨#[]⟩, .int .i64 0] 31) by rw [← hw0]; exact World.alloc_heap_new w _)
  have hh0 : Holds w0 b off l := hh.below hb hb0
  have ht := tok_at l a ha
  have hck := hh0.at a ha
  have hc256 := (l[a]'ha).toNat_lt
  have hlo : lowB (l[a]'ha) = false := by simp [lowB]; omega
  have hhi : highB (l[a]'ha) = false := by simp [highB]; omega
  have hdi : digB (l[a]'ha) = false := by simp [digB]; omega
  rw [hl, if_neg (by decide)] at ht
  have h102 : ¬ (l[a]'ha).toNat = 102 := by omega
  have cL := rlow_any (l[a]'ha)
  have cH := rhigh_any (l[a]'ha)
  have cD := rdig_any (l[a]'ha)
  obtain ⟨x0, x1, x2, f0, f1, f2⟩ := hA0
  rw [if_pos c34] at ht
  rw [hlo] at cL
  rw [hhi] at cH
  rw [hdi] at cD
  rw [c34] at cL cH cD hck
  have cL : ∀ w, Calls Tryd.prog 39 #[.int .u8 34] w fun e w' => e = .returned (.bool false) ∧ w = w' := cL
  have cH : ∀ w, Calls Tryd.prog 41 #[.int .u8 34] w fun e w' => e = .returned (.bool false) ∧ w = w' := cH
  have cD : ∀ w, Calls Tryd.prog 42 #[.int .u8 34] w fun e w' => e = .returned (.bool false) ∧ w = w' := cD
  have cN := rstr_any b off cap l hlen hcap a ha w0 (by omega) hh0
  have cN' := cN.mono (R' := fun e w' => e = .returned (.tuple #[.string ⟨(strR (strV (l.drop (a + 1)))).1.toArray⟩, .int .i64 ((strR (strV (l.drop (a + 1)))).2 : Nat)]) ∧ Below w0.heap.size w0 w' ∧ At3 w.heap.size w' (.int .i64 0) (.string ⟨#[]⟩) (.int .i64 0))
    (fun e w' ⟨h1, h2⟩ => ⟨h1, h2, At3.below ⟨x0, x1, x2, f0, f1, f2⟩ h2 (by omega)⟩)
  have hle := strV_le (l.drop (a + 1)).length (l.drop (a + 1))
  cases hO : strV (l.drop (a + 1)) with
  | none =>
    rw [hO] at cN' ht
    have HT := Lib.hid ht
    have cN2 : Calls Tryd.prog 44 #[.slice (some ⟨b, off, none⟩) l.length cap, .int .i64 a] w0 fun e w' => e = .returned (.tuple #[.string ⟨#[]⟩, .int .i64 0]) ∧ Below w0.heap.size w0 w' ∧ At3 w.heap.size w' (.int .i64 0) (.string ⟨#[]⟩) (.int .i64 0) := cN'
    clear cN cN' x0 x1 x2 f0 f1 f2 c34 hdi hlo hhi hl h102 hc256 hO ht hle
    go_enter Tryd.func21, Tryd.ntmps21
    go_wp2_with (first | (go_at_call 39; with_reducible refine (cL _).mono ?_; rintro e w' ⟨rfl, rfl⟩) | (go_at_call 41; with_reducible refine (cH _).mono ?_; rintro e w' ⟨rfl, rfl⟩) | (go_at_call 42; with_reducible refine (cD _).mono ?_; rintro e w' ⟨rfl, rfl⟩))
    with_reducible refine cN2.mono ?_
    rintro e w1 ⟨rfl, hb1, x0, x1, x2, f0, f1, f2⟩
    clear cN2
    go_wp2_with fail
    obtain ⟨r0, r1, r2⟩ := put3_cells ⟨x0, x1, x2, f0, f1, f2⟩ (.int .i64 0) (.string ⟨#[]⟩) (.int .i64 0)
    have hbX := resPut_below (hb0.trans (hb1.mono (by omega))) (Nat.le_refl _) (.int .i64 0) (.string ⟨#[]⟩) (.int .i64 0)
    unfold resPut at r0 r1 r2 hbX
    refine bodyPost_ret (v := .tuple #[.agg #[.int .i64 0, .string ⟨#[]⟩, .int .i64 0], .int .i64 0]) (by simp [results, Tryd.results21, go_sem, r0, r1, r2]) rfl ?_
    exact onePost_none HT.out hbX
  | some x =>
    obtain ⟨v, m⟩ := x
    rw [hO] at cN' ht
    have HT : Hid (tok (l.drop a) = some ((6, v), m + 1)) := Lib.hid ht
    have hm := hle (v, m) (Nat.le_refl _) hO
    obtain ⟨S, hS⟩ : ∃ S : ByteArray, ⟨v.toArray⟩ = S := ⟨_, rfl⟩
    have cN2 : Calls Tryd.prog 44 #[.slice (some ⟨b, off, none⟩) l.length cap, .int .i64 a] w0 fun e w' => e = .returned (.tuple #[.string ⟨v.toArray⟩, .int .i64 ((m + 1 : Nat) : Int)]) ∧ Below w0.heap.size w0 w' ∧ At3 w.heap.size w' (.int .i64 0) (.string ⟨#[]⟩) (.int .i64 0) := cN'
    rw [hS] at cN2
    obtain ⟨n, hn⟩ : ∃ n, m + 1 = n := ⟨_, rfl⟩
    rw [hn] at cN2 HT
    have hn0' : ((n : Int) == 0) = false := by simp; omega
    clear cN cN' x0 x1 x2 f0 f1 f2 c34 hdi hlo hhi hl h102 hc256 hO ht hle hm hn
    go_enter Tryd.func21, Tryd.ntmps21
    go_wp2_with (first | (go_at_call 39; with_reducible refine (cL _).mono ?_; rintro e w' ⟨rfl, rfl⟩) | (go_at_call 41; with_reducible refine (cH _).mono ?_; rintro e w' ⟨rfl, rfl⟩) | (go_at_call 42; with_reducible refine (cD _).mono ?_; rintro e w' ⟨rfl, rfl⟩))
    with_reducible refine cN2.mono ?_
    rintro e w1 ⟨rfl, hb1, x0, x1, x2, f0, f1, f2⟩
    clear cN2
    go_wp2_with fail
    obtain ⟨r0, r1, r2⟩ := put3_cells ⟨x0, x1, x2, f0, f1, f2⟩ (.int .i64 6) (.string S) (.int .i64 0)
    have hbX := resPut_below (hb0.trans (hb1.mono (by omega))) (Nat.le_refl _) (.int .i64 6) (.string S) (.int .i64 0)
    unfold resPut at r0 r1 r2 hbX
    refine bodyPost_ret (v := .tuple #[.agg #[.int .i64 6, .string S, .int .i64 0], .int .i64 (n : Int)]) (by simp [results, Tryd.results21, go_sem, r0, r1, r2]) rfl ?_
    exact onePost_some HT.out hS rfl rfl hbX

set_option maxRecDepth 100000 in
set_option maxHeartbeats 4000000 in
theorem rone_sign (b off cap : Nat) (l : List UInt8) (hlen : l.length ≤ 1048576) (hcap : l.length ≤ cap) (a : Nat) (ha : a < l.length) (w : World) (hb : b < w.heap.size) (hh : Holds w b off l) (hl : leadB (l.drop a) = false) (c34 : ¬ (l[a]'ha).toNat = 34) (c35 : ¬ (l[a]'ha).toNat = 35) (hdi : digB (l[a]'ha) = false) (hlo : lowB (l[a]'ha) = false) (hhi : highB (l[a]'ha) = false) :
    Calls Tryd.prog 21 #[.slice (some ⟨b, off, none⟩) l.length cap, .int .i64 a] w (OnePost (l.drop a) w) := by
  obtain ⟨w0, hw0⟩ : ∃ w0, w.alloc (.cells #[.int .i64 0, .string ⟨#[]⟩, .int .i64 0] 31) = w0 := ⟨_, rfl⟩
  have hb0 : Below w.heap.size w w0 := by rw [← hw0]; exact (Below.refl _ w).alloc (Nat.le_refl _) _
  have hs0 : w0.heap.size = w.heap.size + 1 := by rw [← hw0]; simp
  have hA0 := at3_of (show w0.heap[w.heap.size]? = some (.cells #[.int .i64 0, .string ⟨#[]⟩, .int .i64 0] 31) by rw [← hw0]; exact World.alloc_heap_new w _)
  have hh0 : Holds w0 b off l := hh.below hb hb0
  have ht := tok_at l a ha
  have hck := hh0.at a ha
  have hc256 := (l[a]'ha).toNat_lt
  rw [hl, if_neg (by decide)] at ht
  have h102 : ¬ (l[a]'ha).toNat = 102 := by simp [lowB] at hlo; omega
  have cL := rlow_any (l[a]'ha)
  have cH := rhigh_any (l[a]'ha)
  have cD := rdig_any (l[a]'ha)
  obtain ⟨x0, x1, x2, f0, f1, f2⟩ := hA0
  rw [if_neg c34, if_neg c35, hdi, if_neg (by decide), hlo, if_neg (by decide), hhi, if_neg (by decide)] at ht
  rw [hlo] at cL
  rw [hhi] at cH
  rw [hdi] at cD
  have cN := rsign_any b off cap l hlen hcap a ha w0 hh0
  have hsle := signN_le (l[a]'ha) (l.drop (a + 1))
  rw [← drop_at l a ha, List.length_drop] at hsle
  obtain ⟨n, hn⟩ : ∃ n, signN (l.drop a) = n := ⟨_, rfl⟩
  rw [hn] at cN hsle ht
  have hcv := conv_part hh0 a n (cap - a) (by omega)
  obtain ⟨S, hS⟩ : ∃ S : ByteArray, ⟨((l.drop a).take n).toArray⟩ = S := ⟨_, rfl⟩
  rw [hS] at hcv
  clear hn hdi hlo hhi hl
  by_cases hn0 : n = 0
  · subst hn0
    rw [if_pos rfl] at ht
    have HT := Lib.hid ht
    clear ht
    go_enter Tryd.func21, Tryd.ntmps21
    go_wp2_with (first | (go_at_call 39; with_reducible refine (cL _).mono ?_; rintro e w' ⟨rfl, rfl⟩) | (go_at_call 41; with_reducible refine (cH _).mono ?_; rintro e w' ⟨rfl, rfl⟩) | (go_at_call 42; with_reducible refine (cD _).mono ?_; rintro e w' ⟨rfl, rfl⟩) | (go_at_call 45; with_reducible refine cN.mono ?_; rintro e w' ⟨rfl, rfl⟩))
    obtain ⟨r0, r1, r2⟩ := put3_cells ⟨x0, x1, x2, f0, f1, f2⟩ (.int .i64 0) (.string ⟨#[]⟩) (.int .i64 0)
    have hbX := resPut_below (hb0) (Nat.le_refl _) (.int .i64 0) (.string ⟨#[]⟩) (.int .i64 0)
    unfold resPut at r0 r1 r2 hbX
    refine bodyPost_ret (v := .tuple #[.agg #[.int .i64 0, .string ⟨#[]⟩, .int .i64 0], .int .i64 0]) (by simp [results, Tryd.results21, go_sem, r0, r1, r2]) rfl ?_
    exact onePost_none HT.out hbX
  · rw [if_neg hn0] at ht
    have HT := Lib.hid ht
    have hn0' : ((n : Int) == 0) = false := by simp; omega
    clear ht
    go_enter Tryd.func21, Tryd.ntmps21
    go_wp2_with (first | (go_at_call 39; with_reducible refine (cL _).mono ?_; rintro e w' ⟨rfl, rfl⟩) | (go_at_call 41; with_reducible refine (cH _).mono ?_; rintro e w' ⟨rfl, rfl⟩) | (go_at_call 42; with_reducible refine (cD _).mono ?_; rintro e w' ⟨rfl, rfl⟩) | (go_at_call 45; with_reducible refine cN.mono ?_; rintro e w' ⟨rfl, rfl⟩))
    obtain ⟨r0, r1, r2⟩ := put3_cells ⟨x0, x1, x2, f0, f1, f2⟩ (.int .i64 8) (.string S) (.int .i64 0)
    have hbX := resPut_below (hb0) (Nat.le_refl _) (.int .i64 8) (.string S) (.int .i64 0)
    unfold resPut at r0 r1 r2 hbX
    refine bodyPost_ret (v := .tuple #[.agg #[.int .i64 8, .string S, .int .i64 0], .int .i64 (n : Int)]) (by simp [results, Tryd.results21, go_sem, r0, r1, r2]) rfl ?_
    exact onePost_some HT.out hS rfl rfl hbX
end Go.Proofs.YtocepddgegnfaaaDoor
