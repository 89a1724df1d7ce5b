/- The document's answer for one token, more: at every text of at most 2^20 bytes. -/
import Derived.Test.YtocepddgegnfaaaDoorOneA
namespace Go.Proofs.YtocepddgegnfaaaDoor
open Go Go.Proofs Go.RowKit

set_option maxRecDepth 100000 in
set_option maxHeartbeats 4000000 in
theorem rone_dig (b off cap : Nat) (l : List UInt8) (hlen : l.length ≤ 1048576) (hcap : l.length ≤ cap) (a : Nat) (ha : a < l.length) (w : World) (hb : b < w.heap.size) (hh : Holds w b off l) (hl : leadB (l.drop a) = false) (hdi : digB (l[a]'ha) = true) :
    Calls Tryd.prog 21 #[.slice (some ⟨b, off, none⟩) l.length cap, .int .i64 a] w (OnePost (l.drop a) w) := by
  obtain ⟨w0, hw0⟩ : ∃ w0, w.alloc (.cells #[.int .i64 0, .string ⟨#[]⟩, .int .i64 0] 31) = w0 := ⟨_, rfl⟩
  have hb0 : Below w.heap.size w w0 := by rw [← hw0]; exact (Below.refl _ w).alloc (Nat.le_refl _) _
  have hs0 : w0.heap.size = w.heap.size + 1 := by rw [← hw0]; simp
  have hA0 := at3_of (show w0.heap[w.heap.size]? = some (.cells #[.int .i64 0, .string ⟨#[]⟩, .int .i64 0] 31) by rw [← hw0]; exact World.alloc_heap_new w _)
  have hh0 : Holds w0 b off l := hh.below hb hb0
  have ht := tok_at l a ha
  have hck := hh0.at a ha
  have hc256 := (l[a]'ha).toNat_lt
  have hd' : 48 ≤ (l[a]'ha).toNat ∧ (l[a]'ha).toNat ≤ 57 := by simpa [digB] using hdi
  have hlo : lowB (l[a]'ha) = false := by simp [lowB]; omega
  have hhi : highB (l[a]'ha) = false := by simp [highB]; omega
  rw [hl, if_neg (by decide)] at ht
  have h102 : ¬ (l[a]'ha).toNat = 102 := by omega
  have cL := rlow_any (l[a]'ha)
  have cH := rhigh_any (l[a]'ha)
  have cD := rdig_any (l[a]'ha)
  obtain ⟨x0, x1, x2, f0, f1, f2⟩ := hA0
  rw [if_neg (by omega), if_neg (by omega), hdi, if_pos rfl] at ht
  rw [hlo] at cL
  rw [hhi] at cH
  rw [hdi] at cD
  have cN := rnum_any b off cap l hlen a ha hdi w0 hh0
  have hn1 : 1 ≤ digN (l.drop a) := by rw [drop_at l a ha]; unfold digN; rw [spanN_cons _ _ _ _ hdi]; omega
  have hn2 := spanN_le digB digB (l.drop a)
  rw [List.length_drop] at hn2
  have hn3 : digN (l.drop a) ≤ l.length - a := hn2
  rw [okI_intN] at ht
  obtain ⟨n, hn⟩ : ∃ n, digN (l.drop a) = n := ⟨_, rfl⟩
  rw [hn] at cN hn1 hn3 ht
  have hw1 : ∀ w1, Below w0.heap.size w0 w1 → (convert 22 9 (.slice (some ⟨b, off + a, none⟩) n (cap - a))).run Tryd.prog w1 = .ok (.string ⟨((l.drop a).take n).toArray⟩) w1 := fun w1 h1 => conv_part (hh0.below (by omega) h1) a n (cap - a) (by omega)
  obtain ⟨S, hS⟩ : ∃ S : ByteArray, ⟨((l.drop a).take n).toArray⟩ = S := ⟨_, rfl⟩
  rw [hS] at hw1
  have cN' : Calls Tryd.prog 43 #[.slice (some ⟨b, off, none⟩) l.length cap, .int .i64 a] w0 fun e w' => e = .returned (.tuple #[.int .i64 (n : Nat), .bool (okI (l.drop a))]) ∧ Below w0.heap.size w0 w' ∧ At3 w.heap.size w' (.int .i64 0) (.string ⟨#[]⟩) (.int .i64 0) :=
    cN.mono fun e w' ⟨h1, h2⟩ => ⟨h1, h2, At3.below ⟨x0, x1, x2, f0, f1, f2⟩ h2 (by omega)⟩
  clear hn hn2 hd' hdi hlo hhi x0 x1 x2 f0 f1 f2 cN hl
  cases hok : okI (l.drop a)
  · rw [hok] at cN' ht
    rw [if_neg (show ¬ (false = true) by decide), if_pos rfl] at ht
    have HT := Lib.hid ht
    clear ht hok
    go_enter Tryd.func21, Tryd.ntmps21
    go_wp2_with (first | (go_at_call 39; with_reducible refine (cL _).mono ?_; rintro e w' ⟨rfl, rfl⟩) | (go_at_call 41; with_reducible refine (cH _).mono ?_; rintro e w' ⟨rfl, rfl⟩) | (go_at_call 42; with_reducible refine (cD _).mono ?_; rintro e w' ⟨rfl, rfl⟩))
    with_reducible refine cN'.mono ?_
    rintro e w1 ⟨rfl, hb1, x0, x1, x2, f0, f1, f2⟩
    clear cN'
    go_wp2_with fail
    obtain ⟨r0, r1, r2⟩ := put3_cells ⟨x0, x1, x2, f0, f1, f2⟩ (.int .i64 0) (.string ⟨#[]⟩) (.int .i64 0)
    have hbX := resPut_below (hb0.trans (hb1.mono (by omega))) (Nat.le_refl _) (.int .i64 0) (.string ⟨#[]⟩) (.int .i64 0)
    unfold resPut at r0 r1 r2 hbX
    refine bodyPost_ret (v := .tuple #[.agg #[.int .i64 0, .string ⟨#[]⟩, .int .i64 0], .int .i64 0]) (by simp [results, Tryd.results21, go_sem, r0, r1, r2]) rfl ?_
    exact onePost_none HT.out hbX
  · rw [hok] at cN' ht
    rw [if_pos rfl, if_neg (by omega)] at ht
    have HT := Lib.hid ht
    clear ht hok
    go_enter Tryd.func21, Tryd.ntmps21
    go_wp2_with (first | (go_at_call 39; with_reducible refine (cL _).mono ?_; rintro e w' ⟨rfl, rfl⟩) | (go_at_call 41; with_reducible refine (cH _).mono ?_; rintro e w' ⟨rfl, rfl⟩) | (go_at_call 42; with_reducible refine (cD _).mono ?_; rintro e w' ⟨rfl, rfl⟩))
    with_reducible refine cN'.mono ?_
    rintro e w1 ⟨rfl, hb1, x0, x1, x2, f0, f1, f2⟩
    clear cN'
    have hcv := hw1 w1 hb1
    go_wp2_with fail
    obtain ⟨r0, r1, r2⟩ := put3_cells ⟨x0, x1, x2, f0, f1, f2⟩ (.int .i64 4) (.string S) (.int .i64 0)
    have hbX := resPut_below (hb0.trans (hb1.mono (by omega))) (Nat.le_refl _) (.int .i64 4) (.string S) (.int .i64 0)
    unfold resPut at r0 r1 r2 hbX
    refine bodyPost_ret (v := .tuple #[.agg #[.int .i64 4, .string S, .int .i64 0], .int .i64 (n : Int)]) (by simp [results, Tryd.results21, go_sem, r0, r1, r2]) rfl ?_
    exact onePost_some HT.out hS rfl rfl hbX

set_option maxRecDepth 100000 in
set_option maxHeartbeats 4000000 in
theorem rone_tag (b off cap : Nat) (l : List UInt8) (hlen : l.length ≤ 1048576) (hcap : l.length ≤ cap) (a : Nat) (ha : a < l.length) (w : World) (hb : b < w.heap.size) (hh : Holds w b off l) (hl : leadB (l.drop a) = false) (c35 : (l[a]'ha).toNat = 35) :
    Calls Tryd.prog 21 #[.slice (some ⟨b, off, none⟩) l.length cap, .int .i64 a] w (OnePost (l.drop a) w) := by
  obtain ⟨w0, hw0⟩ : ∃ w0, w.alloc (.cells #[.int .i64 0, .string ⟨#[]⟩, .int .i64 0] 31) = w0 := ⟨_, rfl⟩
  have hb0 : Below w.heap.size w w0 := by rw [← hw0]; exact (Below.refl _ w).alloc (Nat.le_refl _) _
  have hs0 : w0.heap.size = w.heap.size + 1 := by rw [← hw0]; simp
  have hA0 := at3_of (show w0.heap[w.heap.size]? = some (.cells #[.int .i64 0, .string ⟨#[]⟩, .int .i64 0] 31) by rw [← hw0]; exact World.alloc_heap_new w _)
  have hh0 : Holds w0 b off l := hh.below hb hb0
  have ht := tok_at l a ha
  have hck := hh0.at a ha
  have hc256 := (l[a]'ha).toNat_lt
  have hlo : lowB (l[a]'ha) = false := by simp [lowB]; omega
  have hhi : highB (l[a]'ha) = false := by simp [highB]; omega
  have hdi : digB (l[a]'ha) = false := by simp [digB]; omega
  rw [hl, if_neg (by decide)] at ht
  have h102 : ¬ (l[a]'ha).toNat = 102 := by omega
  have cL := rlow_any (l[a]'ha)
  have cH := rhigh_any (l[a]'ha)
  have cD := rdig_any (l[a]'ha)
  obtain ⟨x0, x1, x2, f0, f1, f2⟩ := hA0
  rw [if_neg (by omega), if_pos c35] at ht
  rw [hlo] at cL
  rw [hhi] at cH
  rw [hdi] at cD
  rw [c35] at cL cH cD hck
  have cL : ∀ w, Calls Tryd.prog 39 #[.int .u8 35] w fun e w' => e = .returned (.bool false) ∧ w = w' := cL
  have cH : ∀ w, Calls Tryd.prog 41 #[.int .u8 35] w fun e w' => e = .returned (.bool false) ∧ w = w' := cH
  have cD : ∀ w, Calls Tryd.prog 42 #[.int .u8 35] w fun e w' => e = .returned (.bool false) ∧ w = w' := cD
  have cN := rname_any b off cap l hlen (a + 1) (by omega) w0 hh0
  have hn2 := spanN_le lowB wordB' (l.drop (a + 1))
  rw [List.length_drop] at hn2
  have hn3 : nameN (l.drop (a + 1)) ≤ l.length - (a + 1) := hn2
  obtain ⟨n, hn⟩ : ∃ n, nameN (l.drop (a + 1)) = n := ⟨_, rfl⟩
  rw [hn] at cN hn3 ht
  have cN' : Calls Tryd.prog 40 #[.slice (some ⟨b, off, none⟩) l.length cap, .int .i64 ((a : Int) + 1)] w0 fun e w' => e = .returned (.int .i64 (n : Nat)) ∧ w0 = w' := cN
  have hcv := conv_part hh0 (a + 1) n (cap - (a + 1)) (by omega)
  obtain ⟨S, hS⟩ : ∃ S : ByteArray, ⟨((l.drop (a + 1)).take n).toArray⟩ = S := ⟨_, rfl⟩
  rw [hS] at hcv
  clear hn hn2 c35 hdi hlo hhi cN hl h102 hc256
  by_cases hn0 : n = 0
  · subst hn0
    rw [if_pos rfl] at ht
    have HT := Lib.hid ht
    clear ht
    go_enter Tryd.func21, Tryd.ntmps21
    go_wp2_with (first | (go_at_call 39; with_reducible refine (cL _).mono ?_; rintro e w' ⟨rfl, rfl⟩) | (go_at_call 41; with_reducible refine (cH _).mono ?_; rintro e w' ⟨rfl, rfl⟩) | (go_at_call 42; with_reducible refine (cD _).mono ?_; rintro e w' ⟨rfl, rfl⟩) | (go_at_call 40; with_reducible refine cN'.mono ?_; rintro e w' ⟨rfl, rfl⟩))
    obtain ⟨r0, r1, r2⟩ := put3_cells ⟨x0, x1, x2, f0, f1, f2⟩ (.int .i64 0) (.string ⟨#[]⟩) (.int .i64 0)
    have hbX := resPut_below (hb0) (Nat.le_refl _) (.int .i64 0) (.string ⟨#[]⟩) (.int .i64 0)
    unfold resPut at r0 r1 r2 hbX
    refine bodyPost_ret (v := .tuple #[.agg #[.int .i64 0, .string ⟨#[]⟩, .int .i64 0], .int .i64 0]) (by simp [results, Tryd.results21, go_sem, r0, r1, r2]) rfl ?_
    exact onePost_none HT.out hbX
  · rw [if_neg hn0] at ht
    have HT := Lib.hid ht
    have hn0' : ((n : Int) == 0) = false := by simp; omega
    clear ht
    go_enter Tryd.func21, Tryd.ntmps21
    go_wp2_with (first | (go_at_call 39; with_reducible refine (cL _).mono ?_; rintro e w' ⟨rfl, rfl⟩) | (go_at_call 41; with_reducible refine (cH _).mono ?_; rintro e w' ⟨rfl, rfl⟩) | (go_at_call 42; with_reducible refine (cD _).mono ?_; rintro e w' ⟨rfl, rfl⟩) | (go_at_call 40; with_reducible refine cN'.mono ?_; rintro e w' ⟨rfl, rfl⟩))
    obtain ⟨r0, r1, r2⟩ := put3_cells ⟨x0, x1, x2, f0, f1, f2⟩ (.int .i64 3) (.string S) (.int .i64 0)
    have hbX := resPut_below (hb0) (Nat.le_refl _) (.int .i64 3) (.string S) (.int .i64 0)
    unfold resPut at r0 r1 r2 hbX
    refine bodyPost_ret (v := .tuple #[.agg #[.int .i64 3, .string S, .int .i64 0], .int .i64 ((n : Int) + 1)]) (by simp [results, Tryd.results21, go_sem, r0, r1, r2]) rfl ?_
    exact onePost_some HT.out hS rfl rfl hbX
end Go.Proofs.YtocepddgegnfaaaDoor
