/- The document's answer for one token, more: at every text of at most 2^20 bytes. The document's answer for one token, more: at every text of at most 2^20 bytes. -/
import Derived.Test.YtidmeodmkcomlaaGreatDoorK49
set_option linter.unusedSimpArgs false
set_option linter.unusedVariables false
namespace Go.Proofs.YtidmeodmkcomlaaGreatDoor
open Go Go.Proofs Go.RowKit
set_option maxHeartbeats 4000000
set_option maxRecDepth 100000 in
theorem zPg (b off cap : Nat) (l : List UInt8) (hlen : l.length ≤ 1048576) (hcap : l.length ≤ cap) (a : Nat) (ha : a < l.length) (w : World) (hb : b < w.heap.size) (hh : Holds w b off l) (hl : leadB (l.drop a) = false) (hdi : digB (l[a]'ha) = true) :
 Calls Tryz.prog 51 #[.slice (some ⟨b, off, none⟩) l.length cap, .int .i64 a] w (zM1 (l.drop a) w) := by
 obtain ⟨w0, hw0⟩ : ∃ w0, w.alloc (.cells #[.int .i64 0, .string ⟨#[]⟩, .int .i64 0] 77) = w0 := ⟨_, rfl⟩;have hb0 : Below w.heap.size w w0 := by rw [← hw0]; exact (zJx _ w).alloc (zJw _) _
 have hs0 : w0.heap.size = w.heap.size + 1 := by rw [← hw0]; simp
 have hA0 := zMx (show w0.heap[w.heap.size]? = some (.cells #[.int .i64 0, .string ⟨#[]⟩, .int .i64 0] 77) by rw [← hw0]; exact World.alloc_heap_new w _);have hh0 : Holds w0 b off l := hh.below hb hb0;have ht := zMu l a ha;have hck := hh0.at a ha;have hc256 := (l[a]'ha).toNat_lt;have hd' : 48 ≤ (l[a]'ha).toNat ∧ (l[a]'ha).toNat ≤ 57 := by simpa [digB] using hdi
 have hlo : lowB (l[a]'ha) = false := by simp [lowB]; omega
 have hhi : highB (l[a]'ha) = false := by simp [highB]; omega
 rw [hl, if_neg (by decide)] at ht;have h102 : ¬ (l[a]'ha).toNat = 102 := by omega
 have cL := zMj (l[a]'ha);have cH := zMo (l[a]'ha);have cD := zMe (l[a]'ha);obtain ⟨x0, x1, x2, f0, f1, f2⟩ := hA0;rw [if_neg (by omega), if_neg (by omega), hdi, if_pos rfl] at ht;rw [hlo] at cL;rw [hhi] at cH;rw [hdi] at cD;have cN := zPf b off cap l hlen a ha hdi w0 hh0;have hn1 : 1 ≤ digN (l.drop a) := by rw [zM3 l a ha]; unfold digN; rw [zdg _ _ _ _ hdi]; omega
 have hn2 := zcl digB digB (l.drop a);rw [zKa] at hn2;have hn3 : digN (l.drop a) ≤ l.length - a := hn2;rw [zP8] at ht;obtain ⟨n, hn⟩ : ∃ n, digN (l.drop a) = n := ⟨_, rfl⟩;rw [hn] at cN hn1 hn3 ht;have hw1 : ∀ w1, Below w0.heap.size w0 w1 → (convert 33 9 (.slice (some ⟨b, off + a, none⟩) n (cap - a))).run Tryz.prog w1 = .ok (.string ⟨((l.drop a).take n).toArray⟩) w1 := fun w1 h1 => zM6 (hh0.below (by omega) h1) a n (cap - a) (by omega);obtain ⟨S, hS⟩ : ∃ S : ByteArray, ⟨((l.drop a).take n).toArray⟩ = S := ⟨_, rfl⟩;rw [hS] at hw1
 have cN' : Calls Tryz.prog 90 #[.slice (some ⟨b, off, none⟩) l.length cap, .int .i64 a] w0 fun e w' => e = .returned (.tuple #[.int .i64 (n : Nat), .bool (okI (l.drop a))]) ∧ Below w0.heap.size w0 w' ∧ At3 w.heap.size w' (.int .i64 0) (.string ⟨#[]⟩) (.int .i64 0) :=
  cN.mono fun e w' ⟨h1, h2⟩ => ⟨h1, h2, At3.below ⟨x0, x1, x2, f0, f1, f2⟩ h2 (by omega)⟩
 clear hn hn2 hd' hdi hlo hhi x0 x1 x2 f0 f1 f2 cN hl;cases hok : okI (l.drop a)
 · rw [hok] at cN' ht
   rw [if_neg (show ¬ (false = true) by decide), if_pos rfl] at ht;have HT := zJv ht;clear ht hok;go_enter Tryz.func51, Tryz.ntmps51
   go_wp2_with (first | (go_at_call 85; with_reducible refine (cL _).mono ?_; rintro e w' ⟨rfl, rfl⟩) | (go_at_call 88; with_reducible refine (cH _).mono ?_; rintro e w' ⟨rfl, rfl⟩) | (go_at_call 89; with_reducible refine (cD _).mono ?_; rintro e w' ⟨rfl, rfl⟩))
   with_reducible refine cN'.mono ?_
   rintro e w1 ⟨rfl, hb1, x0, x1, x2, f0, f1, f2⟩;clear cN';go_wp2_with fail
   obtain ⟨r0, r1, r2⟩ := zf5 ⟨x0, x1, x2, f0, f1, f2⟩ (.int .i64 0) (.string ⟨#[]⟩) (.int .i64 0);have hbX := zgt (hb0.trans (hb1.mono (by omega))) (zJw _) (.int .i64 0) (.string ⟨#[]⟩) (.int .i64 0);unfold zeq at r0 r1 r2 hbX;refine bodyPost_ret (v := .tuple #[.agg #[.int .i64 0, .string ⟨#[]⟩, .int .i64 0], .int .i64 0]) (by simp [results, Tryz.results51, go_sem, r0, r1, r2]) rfl ?_;exact zMc HT.out hbX
 · rw [hok] at cN' ht
   rw [if_pos rfl, if_neg (by omega)] at ht;have HT := zJv ht;clear ht hok;go_enter Tryz.func51, Tryz.ntmps51
   go_wp2_with (first | (go_at_call 85; with_reducible refine (cL _).mono ?_; rintro e w' ⟨rfl, rfl⟩) | (go_at_call 88; with_reducible refine (cH _).mono ?_; rintro e w' ⟨rfl, rfl⟩) | (go_at_call 89; with_reducible refine (cD _).mono ?_; rintro e w' ⟨rfl, rfl⟩))
   with_reducible refine cN'.mono ?_
   rintro e w1 ⟨rfl, hb1, x0, x1, x2, f0, f1, f2⟩;clear cN';have hcv := hw1 w1 hb1;go_wp2_with fail
   obtain ⟨r0, r1, r2⟩ := zf5 ⟨x0, x1, x2, f0, f1, f2⟩ (.int .i64 4) (.string S) (.int .i64 0);have hbX := zgt (hb0.trans (hb1.mono (by omega))) (zJw _) (.int .i64 4) (.string S) (.int .i64 0);unfold zeq at r0 r1 r2 hbX;refine bodyPost_ret (v := .tuple #[.agg #[.int .i64 4, .string S, .int .i64 0], .int .i64 (n : Int)]) (by simp [results, Tryz.results51, go_sem, r0, r1, r2]) rfl ?_;exact zLz HT.out hS rfl rfl hbX
set_option maxRecDepth 100000 in
theorem zPj (b off cap : Nat) (l : List UInt8) (hlen : l.length ≤ 1048576) (hcap : l.length ≤ cap) (a : Nat) (ha : a < l.length) (w : World) (hb : b < w.heap.size) (hh : Holds w b off l) (hl : leadB (l.drop a) = false) (c35 : (l[a]'ha).toNat = 35) :
 Calls Tryz.prog 51 #[.slice (some ⟨b, off, none⟩) l.length cap, .int .i64 a] w (zM1 (l.drop a) w) := by
 obtain ⟨w0, hw0⟩ : ∃ w0, w.alloc (.cells #[.int .i64 0, .string ⟨#[]⟩, .int .i64 0] 77) = w0 := ⟨_, rfl⟩;have hb0 : Below w.heap.size w w0 := by rw [← hw0]; exact (zJx _ w).alloc (zJw _) _
 have hs0 : w0.heap.size = w.heap.size + 1 := by rw [← hw0]; simp
 have hA0 := zMx (show w0.heap[w.heap.size]? = some (.cells #[.int .i64 0, .string ⟨#[]⟩, .int .i64 0] 77) by rw [← hw0]; exact World.alloc_heap_new w _);have hh0 : Holds w0 b off l := hh.below hb hb0;have ht := zMu l a ha;have hck := hh0.at a ha;have hc256 := (l[a]'ha).toNat_lt;have hlo : lowB (l[a]'ha) = false := by simp [lowB]; omega
 have hhi : highB (l[a]'ha) = false := by simp [highB]; omega
 have hdi : digB (l[a]'ha) = false := by simp [digB]; omega
 rw [hl, if_neg (by decide)] at ht;have h102 : ¬ (l[a]'ha).toNat = 102 := by omega
 have cL := zMj (l[a]'ha);have cH := zMo (l[a]'ha);have cD := zMe (l[a]'ha);obtain ⟨x0, x1, x2, f0, f1, f2⟩ := hA0;rw [if_neg (by omega), if_pos c35] at ht;rw [hlo] at cL;rw [hhi] at cH;rw [hdi] at cD;rw [c35] at cL cH cD hck;have cL : ∀ w, Calls Tryz.prog 85 #[.int .u8 35] w fun e w' => e = .returned (.bool false) ∧ w = w' := cL;have cH : ∀ w, Calls Tryz.prog 88 #[.int .u8 35] w fun e w' => e = .returned (.bool false) ∧ w = w' := cH;have cD : ∀ w, Calls Tryz.prog 89 #[.int .u8 35] w fun e w' => e = .returned (.bool false) ∧ w = w' := cD;have cN := zNk b off cap l hlen (a + 1) (by omega) w0 hh0;have hn2 := zcl lowB zbj (l.drop (a + 1));rw [zKa] at hn2;have hn3 : nameN (l.drop (a + 1)) ≤ l.length - (a + 1) := hn2;obtain ⟨n, hn⟩ : ∃ n, nameN (l.drop (a + 1)) = n := ⟨_, rfl⟩;rw [hn] at cN hn3 ht;have cN' : Calls Tryz.prog 86 #[.slice (some ⟨b, off, none⟩) l.length cap, .int .i64 ((a : Int) + 1)] w0 fun e w' => e = .returned (.int .i64 (n : Nat)) ∧ w0 = w' := cN;have hcv := zM6 hh0 (a + 1) n (cap - (a + 1)) (by omega);obtain ⟨S, hS⟩ : ∃ S : ByteArray, ⟨((l.drop (a + 1)).take n).toArray⟩ = S := ⟨_, rfl⟩;rw [hS] at hcv;clear hn hn2 c35 hdi hlo hhi cN hl h102 hc256;by_cases hn0 : n = 0
 · subst hn0
   rw [if_pos rfl] at ht;have HT := zJv ht;clear ht;go_enter Tryz.func51, Tryz.ntmps51
   go_wp2_with (first | (go_at_call 85; with_reducible refine (cL _).mono ?_; rintro e w' ⟨rfl, rfl⟩) | (go_at_call 88; with_reducible refine (cH _).mono ?_; rintro e w' ⟨rfl, rfl⟩) | (go_at_call 89; with_reducible refine (cD _).mono ?_; rintro e w' ⟨rfl, rfl⟩) | (go_at_call 86; with_reducible refine cN'.mono ?_; rintro e w' ⟨rfl, rfl⟩))
   obtain ⟨r0, r1, r2⟩ := zf5 ⟨x0, x1, x2, f0, f1, f2⟩ (.int .i64 0) (.string ⟨#[]⟩) (.int .i64 0);have hbX := zgt (hb0) (zJw _) (.int .i64 0) (.string ⟨#[]⟩) (.int .i64 0);unfold zeq at r0 r1 r2 hbX;refine bodyPost_ret (v := .tuple #[.agg #[.int .i64 0, .string ⟨#[]⟩, .int .i64 0], .int .i64 0]) (by simp [results, Tryz.results51, go_sem, r0, r1, r2]) rfl ?_;exact zMc HT.out hbX
 · rw [if_neg hn0] at ht
   have HT := zJv ht;have hn0' : ((n : Int) == 0) = false := by simp; omega
   clear ht;go_enter Tryz.func51, Tryz.ntmps51
   go_wp2_with (first | (go_at_call 85; with_reducible refine (cL _).mono ?_; rintro e w' ⟨rfl, rfl⟩) | (go_at_call 88; with_reducible refine (cH _).mono ?_; rintro e w' ⟨rfl, rfl⟩) | (go_at_call 89; with_reducible refine (cD _).mono ?_; rintro e w' ⟨rfl, rfl⟩) | (go_at_call 86; with_reducible refine cN'.mono ?_; rintro e w' ⟨rfl, rfl⟩))
   obtain ⟨r0, r1, r2⟩ := zf5 ⟨x0, x1, x2, f0, f1, f2⟩ (.int .i64 3) (.string S) (.int .i64 0);have hbX := zgt (hb0) (zJw _) (.int .i64 3) (.string S) (.int .i64 0);unfold zeq at r0 r1 r2 hbX;refine bodyPost_ret (v := .tuple #[.agg #[.int .i64 3, .string S, .int .i64 0], .int .i64 ((n : Int) + 1)]) (by simp [results, Tryz.results51, go_sem, r0, r1, r2]) rfl ?_;exact zLz HT.out hS rfl rfl hbX
set_option maxHeartbeats 4000000
set_option maxRecDepth 100000 in
theorem zPi (b off cap : Nat) (l : List UInt8) (hlen : l.length ≤ 1048576) (hcap : l.length ≤ cap) (a : Nat) (ha : a < l.length) (w : World) (hb : b < w.heap.size) (hh : Holds w b off l) (hl : leadB (l.drop a) = false) (c34 : (l[a]'ha).toNat = 34) :
 Calls Tryz.prog 51 #[.slice (some ⟨b, off, none⟩) l.length cap, .int .i64 a] w (zM1 (l.drop a) w) := by
 obtain ⟨w0, hw0⟩ : ∃ w0, w.alloc (.cells #[.int .i64 0, .string ⟨#[]⟩, .int .i64 0] 77) = w0 := ⟨_, rfl⟩;have hb0 : Below w.heap.size w w0 := by rw [← hw0]; exact (zJx _ w).alloc (zJw _) _
 have hs0 : w0.heap.size = w.heap.size + 1 := by rw [← hw0]; simp
 have hA0 := zMx (show w0.heap[w.heap.size]? = some (.cells #[.int .i64 0, .string ⟨#[]⟩, .int .i64 0] 77) by rw [← hw0]; exact World.alloc_heap_new w _);have hh0 : Holds w0 b off l := hh.below hb hb0;have ht := zMu l a ha;have hck := hh0.at a ha;have hc256 := (l[a]'ha).toNat_lt;have hlo : lowB (l[a]'ha) = false := by simp [lowB]; omega
 have hhi : highB (l[a]'ha) = false := by simp [highB]; omega
 have hdi : digB (l[a]'ha) = false := by simp [digB]; omega
 rw [hl, if_neg (by decide)] at ht;have h102 : ¬ (l[a]'ha).toNat = 102 := by omega
 have cL := zMj (l[a]'ha);have cH := zMo (l[a]'ha);have cD := zMe (l[a]'ha);obtain ⟨x0, x1, x2, f0, f1, f2⟩ := hA0;rw [if_pos c34] at ht;rw [hlo] at cL;rw [hhi] at cH;rw [hdi] at cD;rw [c34] at cL cH cD hck;have cL : ∀ w, Calls Tryz.prog 85 #[.int .u8 34] w fun e w' => e = .returned (.bool false) ∧ w = w' := cL;have cH : ∀ w, Calls Tryz.prog 88 #[.int .u8 34] w fun e w' => e = .returned (.bool false) ∧ w = w' := cH;have cD : ∀ w, Calls Tryz.prog 89 #[.int .u8 34] w fun e w' => e = .returned (.bool false) ∧ w = w' := cD;have cN := zPk b off cap l hlen hcap a ha w0 (by omega) hh0
 have cN' := cN.mono (R' := fun e w' => e = .returned (.tuple #[.string ⟨(strR (strV (l.drop (a + 1)))).1.toArray⟩, .int .i64 ((strR (strV (l.drop (a + 1)))).2 : Nat)]) ∧ Below w0.heap.size w0 w' ∧ At3 w.heap.size w' (.int .i64 0) (.string ⟨#[]⟩) (.int .i64 0))
  (fun e w' ⟨h1, h2⟩ => ⟨h1, h2, At3.below ⟨x0, x1, x2, f0, f1, f2⟩ h2 (by omega)⟩)
 have hle := zk7 (l.drop (a + 1)).length (l.drop (a + 1))
 cases hO : strV (l.drop (a + 1)) with
 | none =>
  rw [hO] at cN' ht;have HT := zJv ht;have cN2 : Calls Tryz.prog 91 #[.slice (some ⟨b, off, none⟩) l.length cap, .int .i64 a] w0 fun e w' => e = .returned (.tuple #[.string ⟨#[]⟩, .int .i64 0]) ∧ Below w0.heap.size w0 w' ∧ At3 w.heap.size w' (.int .i64 0) (.string ⟨#[]⟩) (.int .i64 0) := cN';clear cN cN' x0 x1 x2 f0 f1 f2 c34 hdi hlo hhi hl h102 hc256 hO ht hle;go_enter Tryz.func51, Tryz.ntmps51
  go_wp2_with (first | (go_at_call 85; with_reducible refine (cL _).mono ?_; rintro e w' ⟨rfl, rfl⟩) | (go_at_call 88; with_reducible refine (cH _).mono ?_; rintro e w' ⟨rfl, rfl⟩) | (go_at_call 89; with_reducible refine (cD _).mono ?_; rintro e w' ⟨rfl, rfl⟩))
  with_reducible refine cN2.mono ?_
  rintro e w1 ⟨rfl, hb1, x0, x1, x2, f0, f1, f2⟩;clear cN2;go_wp2_with fail
  obtain ⟨r0, r1, r2⟩ := zf5 ⟨x0, x1, x2, f0, f1, f2⟩ (.int .i64 0) (.string ⟨#[]⟩) (.int .i64 0);have hbX := zgt (hb0.trans (hb1.mono (by omega))) (zJw _) (.int .i64 0) (.string ⟨#[]⟩) (.int .i64 0);unfold zeq at r0 r1 r2 hbX;refine bodyPost_ret (v := .tuple #[.agg #[.int .i64 0, .string ⟨#[]⟩, .int .i64 0], .int .i64 0]) (by simp [results, Tryz.results51, go_sem, r0, r1, r2]) rfl ?_;exact zMc HT.out hbX
 | some x =>
  obtain ⟨v, m⟩ := x;rw [hO] at cN' ht;have HT : Hid (tok (l.drop a) = some ((6, v), m + 1)) := zJv ht;have hm := hle (v, m) (zJw _) hO;obtain ⟨S, hS⟩ : ∃ S : ByteArray, ⟨v.toArray⟩ = S := ⟨_, rfl⟩;have cN2 : Calls Tryz.prog 91 #[.slice (some ⟨b, off, none⟩) l.length cap, .int .i64 a] w0 fun e w' => e = .returned (.tuple #[.string ⟨v.toArray⟩, .int .i64 ((m + 1 : Nat) : Int)]) ∧ Below w0.heap.size w0 w' ∧ At3 w.heap.size w' (.int .i64 0) (.string ⟨#[]⟩) (.int .i64 0) := cN';rw [hS] at cN2;obtain ⟨n, hn⟩ : ∃ n, m + 1 = n := ⟨_, rfl⟩;rw [hn] at cN2 HT;have hn0' : ((n : Int) == 0) = false := by simp; omega
  clear cN cN' x0 x1 x2 f0 f1 f2 c34 hdi hlo hhi hl h102 hc256 hO ht hle hm hn;go_enter Tryz.func51, Tryz.ntmps51
  go_wp2_with (first | (go_at_call 85; with_reducible refine (cL _).mono ?_; rintro e w' ⟨rfl, rfl⟩) | (go_at_call 88; with_reducible refine (cH _).mono ?_; rintro e w' ⟨rfl, rfl⟩) | (go_at_call 89; with_reducible refine (cD _).mono ?_; rintro e w' ⟨rfl, rfl⟩))
  with_reducible refine cN2.mono ?_
  rintro e w1 ⟨rfl, hb1, x0, x1, x2, f0, f1, f2⟩;clear cN2;go_wp2_with fail
  obtain ⟨r0, r1, r2⟩ := zf5 ⟨x0, x1, x2, f0, f1, f2⟩ (.int .i64 6) (.string S) (.int .i64 0);have hbX := zgt (hb0.trans (hb1.mono (by omega))) (zJw _) (.int .i64 6) (.string S) (.int .i64 0);unfold zeq at r0 r1 r2 hbX;refine bodyPost_ret (v := .tuple #[.agg #[.int .i64 6, .string S, .int .i64 0], .int .i64 (n : Int)]) (by simp [results, Tryz.results51, go_sem, r0, r1, r2]) rfl ?_;exact zLz HT.out hS rfl rfl hbX
set_option maxRecDepth 100000 in
theorem zOq (b off cap : Nat) (l : List UInt8) (hlen : l.length ≤ 1048576) (hcap : l.length ≤ cap) (a : Nat) (ha : a < l.length) (w : World) (hb : b < w.heap.size) (hh : Holds w b off l) (hl : leadB (l.drop a) = false) (c34 : ¬ (l[a]'ha).toNat = 34) (c35 : ¬ (l[a]'ha).toNat = 35) (hdi : digB (l[a]'ha) = false) (hlo : lowB (l[a]'ha) = false) (hhi : highB (l[a]'ha) = false) :
 Calls Tryz.prog 51 #[.slice (some ⟨b, off, none⟩) l.length cap, .int .i64 a] w (zM1 (l.drop a) w) := by
 obtain ⟨w0, hw0⟩ : ∃ w0, w.alloc (.cells #[.int .i64 0, .string ⟨#[]⟩, .int .i64 0] 77) = w0 := ⟨_, rfl⟩;have hb0 : Below w.heap.size w w0 := by rw [← hw0]; exact (zJx _ w).alloc (zJw _) _
 have hs0 : w0.heap.size = w.heap.size + 1 := by rw [← hw0]; simp
 have hA0 := zMx (show w0.heap[w.heap.size]? = some (.cells #[.int .i64 0, .string ⟨#[]⟩, .int .i64 0] 77) by rw [← hw0]; exact World.alloc_heap_new w _);have hh0 : Holds w0 b off l := hh.below hb hb0;have ht := zMu l a ha;have hck := hh0.at a ha;have hc256 := (l[a]'ha).toNat_lt;rw [hl, if_neg (by decide)] at ht;have h102 : ¬ (l[a]'ha).toNat = 102 := by simp [lowB] at hlo; omega
 have cL := zMj (l[a]'ha);have cH := zMo (l[a]'ha);have cD := zMe (l[a]'ha);obtain ⟨x0, x1, x2, f0, f1, f2⟩ := hA0;rw [if_neg c34, if_neg c35, hdi, if_neg (by decide), hlo, if_neg (by decide), hhi, if_neg (by decide)] at ht;rw [hlo] at cL;rw [hhi] at cH;rw [hdi] at cD;have cN := zOs b off cap l hlen hcap a ha w0 hh0;have hsle := zqu (l[a]'ha) (l.drop (a + 1));rw [← zM3 l a ha, zKa] at hsle;obtain ⟨n, hn⟩ : ∃ n, signN (l.drop a) = n := ⟨_, rfl⟩;rw [hn] at cN hsle ht;have hcv := zM6 hh0 a n (cap - a) (by omega);obtain ⟨S, hS⟩ : ∃ S : ByteArray, ⟨((l.drop a).take n).toArray⟩ = S := ⟨_, rfl⟩;rw [hS] at hcv;clear hn hdi hlo hhi hl;by_cases hn0 : n = 0
 · subst hn0
   rw [if_pos rfl] at ht;have HT := zJv ht;clear ht;go_enter Tryz.func51, Tryz.ntmps51
   go_wp2_with (first | (go_at_call 85; with_reducible refine (cL _).mono ?_; rintro e w' ⟨rfl, rfl⟩) | (go_at_call 88; with_reducible refine (cH _).mono ?_; rintro e w' ⟨rfl, rfl⟩) | (go_at_call 89; with_reducible refine (cD _).mono ?_; rintro e w' ⟨rfl, rfl⟩) | (go_at_call 92; with_reducible refine cN.mono ?_; rintro e w' ⟨rfl, rfl⟩))
   obtain ⟨r0, r1, r2⟩ := zf5 ⟨x0, x1, x2, f0, f1, f2⟩ (.int .i64 0) (.string ⟨#[]⟩) (.int .i64 0);have hbX := zgt (hb0) (zJw _) (.int .i64 0) (.string ⟨#[]⟩) (.int .i64 0);unfold zeq at r0 r1 r2 hbX;refine bodyPost_ret (v := .tuple #[.agg #[.int .i64 0, .string ⟨#[]⟩, .int .i64 0], .int .i64 0]) (by simp [results, Tryz.results51, go_sem, r0, r1, r2]) rfl ?_;exact zMc HT.out hbX
 · rw [if_neg hn0] at ht
   have HT := zJv ht;have hn0' : ((n : Int) == 0) = false := by simp; omega
   clear ht;go_enter Tryz.func51, Tryz.ntmps51
   go_wp2_with (first | (go_at_call 85; with_reducible refine (cL _).mono ?_; rintro e w' ⟨rfl, rfl⟩) | (go_at_call 88; with_reducible refine (cH _).mono ?_; rintro e w' ⟨rfl, rfl⟩) | (go_at_call 89; with_reducible refine (cD _).mono ?_; rintro e w' ⟨rfl, rfl⟩) | (go_at_call 92; with_reducible refine cN.mono ?_; rintro e w' ⟨rfl, rfl⟩))
   obtain ⟨r0, r1, r2⟩ := zf5 ⟨x0, x1, x2, f0, f1, f2⟩ (.int .i64 8) (.string S) (.int .i64 0);have hbX := zgt (hb0) (zJw _) (.int .i64 8) (.string S) (.int .i64 0);unfold zeq at r0 r1 r2 hbX;refine bodyPost_ret (v := .tuple #[.agg #[.int .i64 8, .string S, .int .i64 0], .int .i64 (n : Int)]) (by simp [results, Tryz.results51, go_sem, r0, r1, r2]) rfl ?_;exact zLz HT.out hS rfl rfl hbX
set_option maxHeartbeats 4000000
set_option maxRecDepth 100000 in
theorem zOo (b off cap : Nat) (l : List UInt8) (hlen : l.length ≤ 1048576) (hcap : l.length ≤ cap) (a : Nat) (ha : a < l.length) (w : World) (hb : b < w.heap.size) (hh : Holds w b off l) (hl : leadB (l.drop a) = false) (hhi : highB (l[a]'ha) = true) :
 Calls Tryz.prog 51 #[.slice (some ⟨b, off, none⟩) l.length cap, .int .i64 a] w (zM1 (l.drop a) w) := by
 obtain ⟨w0, hw0⟩ : ∃ w0, w.alloc (.cells #[.int .i64 0, .string ⟨#[]⟩, .int .i64 0] 77) = w0 := ⟨_, rfl⟩;have hb0 : Below w.heap.size w w0 := by rw [← hw0]; exact (zJx _ w).alloc (zJw _) _
 have hs0 : w0.heap.size = w.heap.size + 1 := by rw [← hw0]; simp
 have hA0 := zMx (show w0.heap[w.heap.size]? = some (.cells #[.int .i64 0, .string ⟨#[]⟩, .int .i64 0] 77) by rw [← hw0]; exact World.alloc_heap_new w _);have hh0 : Holds w0 b off l := hh.below hb hb0;have ht := zMu l a ha;have hck := hh0.at a ha;have hc256 := (l[a]'ha).toNat_lt;have hd' : 65 ≤ (l[a]'ha).toNat ∧ (l[a]'ha).toNat ≤ 90 := by simpa [highB] using hhi
 have hlo : lowB (l[a]'ha) = false := by simp [lowB]; omega
 have hdi : digB (l[a]'ha) = false := by simp [digB]; omega
 rw [hl, if_neg (by decide)] at ht;have h102 : ¬ (l[a]'ha).toNat = 102 := by omega
 have cL := zMj (l[a]'ha);have cH := zMo (l[a]'ha);have cD := zMe (l[a]'ha);obtain ⟨x0, x1, x2, f0, f1, f2⟩ := hA0;rw [if_neg (by omega), if_neg (by omega), hdi, if_neg (by decide), hlo, if_neg (by decide), hhi, if_pos rfl] at ht;rw [hlo] at cL;rw [hhi] at cH;have HN := zJv (zNh highB aliB l a ha hhi);have HH := zJv hh0;have HT := zJv ht;clear hd' hdi hlo hhi hl ht cD;go_enter Tryz.func51, Tryz.ntmps51
 go_wp2_with (first | (go_at_call 85; with_reducible refine (cL _).mono ?_; rintro e w' ⟨rfl, rfl⟩) | (go_at_call 88; with_reducible refine (cH _).mono ?_; rintro e w' ⟨rfl, rfl⟩))
 clear cL cH;go_loopw [10] (fun i wr => wr = w0 ∧ ∃ n : Nat, 1 ≤ n ∧ a + n ≤ l.length ∧ i = .int .i64 n ∧ Hid (∀ j (hj : j < l.length), a + 1 ≤ j → j < a + n → aliB (l[j]'hj) = true)) (fun i _ => l.length - (intOf i).toNat)
 case atStart => exact ⟨rfl, 1, zJw _, ha, rfl, zJv (fun j hj h1 h2 => by omega)⟩
 case round =>
  obtain ⟨rfl, n, hn1, hn2, rfl, HJ⟩ := hrel;by_cases hlt : a + n < l.length
  · have hckn := HH.out.at (a + n) hlt
    have hcn256 := (l[a + n]'hlt).toNat_lt;have ck := zMo (l[a + n]'hlt);have dk := zMe (l[a + n]'hlt);have hsplit : aliB (l[a + n]'hlt) = (highB (l[a + n]'hlt) || zb9 (l[a + n]'hlt) || digB (l[a + n]'hlt)) := rfl
    have HJ2 : aliB (l[a + n]'hlt) = true → Hid (∀ j (hj : j < l.length), a + 1 ≤ j → j < a + (n + 1) → aliB (l[j]'hj) = true) := fun hx => zJv (fun j hj h1 h2 => by
     by_cases h : j < a + n
     · exact HJ.out j hj h1 h
     · obtain rfl : j = a + n := by omega
       exact hx)
    cases h1 : highB (l[a + n]'hlt)
    · rw [h1] at ck hsplit
      cases h3 : digB (l[a + n]'hlt)
      · rw [h3] at dk hsplit
        have h3' : ¬ (48 ≤ (l[a + n]'hlt).toNat ∧ (l[a + n]'hlt).toNat ≤ 57) := by
         intro h;have : digB (l[a + n]'hlt) = true := by simpa [digB] using h
         rw [h3] at this; cases this
        by_cases h97 : 97 ≤ (l[a + n]'hlt).toNat
        · by_cases h122 : (l[a + n]'hlt).toNat ≤ 122
          · have HX := HJ2 (by rw [hsplit]; simp [zb9, h97, h122])
            clear hsplit h1 h3 HJ2;go_wp2_with (first | (go_at_call 88; with_reducible refine (ck _).mono ?_; rintro e w' ⟨rfl, rfl⟩) | (go_at_call 89; with_reducible refine (dk _).mono ?_; rintro e w' ⟨rfl, rfl⟩))
            go_roundw
            case rel => exact ⟨trivial, n + 1, by omega, by omega, by go_num, HX⟩
            case measure => simp [intOf]; omega
          · have hf : aliB (l[a + n]'hlt) = false := by rw [hsplit]; simp [zb9]; omega
            have hR := zJv (HN.out n hn1 hn2 HJ.out (.inr ⟨hlt, hf⟩));have hcv := zM6 HH.out a n (cap - a) (by omega);obtain ⟨S, hS⟩ : ∃ S : ByteArray, ⟨((l.drop a).take n).toArray⟩ = S := ⟨_, rfl⟩;rw [hS] at hcv;have HT2 : Hid (tok (l.drop a) = some ((2, (l.drop a).take n), n)) := zJv (by rw [HT.out]; unfold zc4; rw [hR.out]);clear hsplit h1 h3 HJ2 hf;go_wp2_with (first | (go_at_call 88; with_reducible refine (ck _).mono ?_; rintro e w' ⟨rfl, rfl⟩) | (go_at_call 89; with_reducible refine (dk _).mono ?_; rintro e w' ⟨rfl, rfl⟩))
            obtain ⟨r0, r1, r2⟩ := zf5 ⟨x0, x1, x2, f0, f1, f2⟩ (.int .i64 2) (.string S) (.int .i64 0);have hbX := zgt (hb0) (zJw _) (.int .i64 2) (.string S) (.int .i64 0);unfold zeq at r0 r1 r2 hbX;refine bodyPost_ret (v := .tuple #[.agg #[.int .i64 2, .string S, .int .i64 0], .int .i64 (n : Int)]) (by simp [results, Tryz.results51, go_sem, r0, r1, r2]) rfl ?_;exact zLz HT2.out hS rfl rfl hbX
        · have hf : aliB (l[a + n]'hlt) = false := by rw [hsplit]; simp [zb9]; omega
          have hR := zJv (HN.out n hn1 hn2 HJ.out (.inr ⟨hlt, hf⟩));have hcv := zM6 HH.out a n (cap - a) (by omega);obtain ⟨S, hS⟩ : ∃ S : ByteArray, ⟨((l.drop a).take n).toArray⟩ = S := ⟨_, rfl⟩;rw [hS] at hcv;have HT2 : Hid (tok (l.drop a) = some ((2, (l.drop a).take n), n)) := zJv (by rw [HT.out]; unfold zc4; rw [hR.out]);clear hsplit h1 h3 HJ2 hf;go_wp2_with (first | (go_at_call 88; with_reducible refine (ck _).mono ?_; rintro e w' ⟨rfl, rfl⟩) | (go_at_call 89; with_reducible refine (dk _).mono ?_; rintro e w' ⟨rfl, rfl⟩))
          obtain ⟨r0, r1, r2⟩ := zf5 ⟨x0, x1, x2, f0, f1, f2⟩ (.int .i64 2) (.string S) (.int .i64 0);have hbX := zgt (hb0) (zJw _) (.int .i64 2) (.string S) (.int .i64 0);unfold zeq at r0 r1 r2 hbX;refine bodyPost_ret (v := .tuple #[.agg #[.int .i64 2, .string S, .int .i64 0], .int .i64 (n : Int)]) (by simp [results, Tryz.results51, go_sem, r0, r1, r2]) rfl ?_;exact zLz HT2.out hS rfl rfl hbX
      · rw [h3] at dk hsplit
        have HX := HJ2 (by rw [hsplit]; simp)
        have h48 : (l[a + n]'hlt).toNat ≤ 57 := by
         have : 48 ≤ (l[a + n]'hlt).toNat ∧ (l[a + n]'hlt).toNat ≤ 57 := by simpa [digB] using h3
         exact this.2
        clear hsplit h1 h3 HJ2;go_wp2_with (first | (go_at_call 88; with_reducible refine (ck _).mono ?_; rintro e w' ⟨rfl, rfl⟩) | (go_at_call 89; with_reducible refine (dk _).mono ?_; rintro e w' ⟨rfl, rfl⟩))
        go_roundw
        case rel => exact ⟨trivial, n + 1, by omega, by omega, by go_num, HX⟩
        case measure => simp [intOf]; omega
    · rw [h1] at ck hsplit
      have HX := HJ2 (by rw [hsplit]; simp);clear hsplit h1 HJ2;go_wp2_with (first | (go_at_call 88; with_reducible refine (ck _).mono ?_; rintro e w' ⟨rfl, rfl⟩) | (go_at_call 89; with_reducible refine (dk _).mono ?_; rintro e w' ⟨rfl, rfl⟩))
      go_roundw
      case rel => exact ⟨trivial, n + 1, by omega, by omega, by go_num, HX⟩
      case measure => simp [intOf]; omega
  · have hR := zJv (HN.out n hn1 hn2 HJ.out (.inl (by omega)))
    have hcv := zM6 HH.out a n (cap - a) (by omega);obtain ⟨S, hS⟩ : ∃ S : ByteArray, ⟨((l.drop a).take n).toArray⟩ = S := ⟨_, rfl⟩;rw [hS] at hcv;have HT2 : Hid (tok (l.drop a) = some ((2, (l.drop a).take n), n)) := zJv (by rw [HT.out]; unfold zc4; rw [hR.out]);go_wp2_with fail
    obtain ⟨r0, r1, r2⟩ := zf5 ⟨x0, x1, x2, f0, f1, f2⟩ (.int .i64 2) (.string S) (.int .i64 0);have hbX := zgt (hb0) (zJw _) (.int .i64 2) (.string S) (.int .i64 0);unfold zeq at r0 r1 r2 hbX;refine bodyPost_ret (v := .tuple #[.agg #[.int .i64 2, .string S, .int .i64 0], .int .i64 (n : Int)]) (by simp [results, Tryz.results51, go_sem, r0, r1, r2]) rfl ?_;exact zLz HT2.out hS rfl rfl hbX
set_option maxRecDepth 100000 in
theorem zOp (b off cap : Nat) (l : List UInt8) (hlen : l.length ≤ 1048576) (hcap : l.length ≤ cap) (a : Nat) (ha : a < l.length) (w : World) (hb : b < w.heap.size) (hh : Holds w b off l) (hl : leadB (l.drop a) = true) :
 Calls Tryz.prog 51 #[.slice (some ⟨b, off, none⟩) l.length cap, .int .i64 a] w (zM1 (l.drop a) w) := by
 obtain ⟨w0, hw0⟩ : ∃ w0, w.alloc (.cells #[.int .i64 0, .string ⟨#[]⟩, .int .i64 0] 77) = w0 := ⟨_, rfl⟩;have hb0 : Below w.heap.size w w0 := by rw [← hw0]; exact (zJx _ w).alloc (zJw _) _
 have hs0 : w0.heap.size = w.heap.size + 1 := by rw [← hw0]; simp
 have hA0 := zMx (show w0.heap[w.heap.size]? = some (.cells #[.int .i64 0, .string ⟨#[]⟩, .int .i64 0] 77) by rw [← hw0]; exact World.alloc_heap_new w _);have hh0 : Holds w0 b off l := hh.below hb hb0;have ht := zMu l a ha;have hck := hh0.at a ha;have hc256 := (l[a]'ha).toNat_lt;have hl' := hl;rw [zO9 l a ha] at hl'
 have h102 : (l[a]'ha).toNat = 102 := by
  simp only [zK6, zKq] at hl';exact hl'.1
 have hl1 : a + 1 < l.length := by
  by_cases h : a + 1 < l.length
  · exact h
  · rw [dif_neg h] at hl'; simp at hl'
 have h39 : (l[a + 1]'hl1).toNat = 39 := by
  rw [dif_pos hl1] at hl';simp only [zK6, zKq] at hl';exact hl'.2
 have hck1 := hh0.at (a + 1) hl1;rw [h39] at hck1;rw [h102] at hck;rw [hl, if_pos rfl] at ht;obtain ⟨x0, x1, x2, f0, f1, f2⟩ := hA0;have HH := zJv hh0;clear hl hl' h102 h39 hc256;by_cases h18 : a + 18 ≤ l.length
 · have HF : Hid (fltB (l.drop a) = true ↔ ∀ j (hj : j < l.length), a + 2 ≤ j → j < a + 18 → hexB (l[j]'hj) = true) := zJv (by
    unfold fltB;rw [zK6, zKq, zKa, List.all_eq_true];have hlen16 : (((l.drop a).drop 2).take 16).length = 16 := by simp; omega
    have hget : ∀ i (hi : i < 16), (((l.drop a).drop 2).take 16)[i]'(by omega) = l[a + 2 + i]'(by omega) := fun i hi => by simp [List.getElem_drop]
    constructor
    · rintro ⟨_, h⟩ j hj h1 h2
      have := h ((((l.drop a).drop 2).take 16)[j - (a + 2)]'(by omega)) (zKe _);rw [hget _ (by omega)] at this;simpa [show a + 2 + (j - (a + 2)) = j by omega] using this
    · intro h
      refine ⟨by omega, fun x hx => ?_⟩;obtain ⟨i, hi, rfl⟩ := zKo hx;rw [hlen16] at hi;rw [hget i hi]
      exact h _ _ (by omega) (by omega))
   have hcv := zM6 hh0 a 18 (cap - a) h18;obtain ⟨S, hS⟩ : ∃ S : ByteArray, ⟨((l.drop a).take 18).toArray⟩ = S := ⟨_, rfl⟩;rw [hS] at hcv;have HT := zJv ht;clear ht;have hng : ¬ l.length < a + 18 := by omega
   go_enter Tryz.func51, Tryz.ntmps51
   go_wp2_with fail
   go_loopw [7] (fun i wr => wr = w0 ∧ ∃ k : Nat, 2 ≤ k ∧ k ≤ 18 ∧ i = .int .i64 k ∧ Hid (∀ j (hj : j < l.length), a + 2 ≤ j → j < a + k → hexB (l[j]'hj) = true)) (fun i _ => 18 - (intOf i).toNat)
   case atStart => exact ⟨rfl, 2, zJw _, by omega, rfl, zJv (fun j hj h1 h2 => by omega)⟩
   case round =>
    obtain ⟨rfl, k, hk1, hk2, rfl, HJ⟩ := hrel;by_cases hlt : k < 18
    · have hlk : a + k < l.length := by omega
      have hckk := HH.out.at (a + k) hlk;have ck := zPc (l[a + k]'hlk);cases hx : hexB (l[a + k]'hlk)
      · rw [hx] at ck
        have HT2 : Hid (tok (l.drop a) = none) := zJv (by
         rw [HT.out, if_neg];intro h;have := HF.out.1 h (a + k) hlk (by omega) (by omega)
         rw [hx] at this; cases this)
        clear hx;go_wp2_with (first | (go_at_call 84; with_reducible refine (ck _).mono ?_; rintro e w' ⟨rfl, rfl⟩))
        obtain ⟨r0, r1, r2⟩ := zf5 ⟨x0, x1, x2, f0, f1, f2⟩ (.int .i64 0) (.string ⟨#[]⟩) (.int .i64 0);have hbX := zgt (hb0) (zJw _) (.int .i64 0) (.string ⟨#[]⟩) (.int .i64 0);unfold zeq at r0 r1 r2 hbX;refine bodyPost_ret (v := .tuple #[.agg #[.int .i64 0, .string ⟨#[]⟩, .int .i64 0], .int .i64 0]) (by simp [results, Tryz.results51, go_sem, r0, r1, r2]) rfl ?_;exact zMc HT2.out hbX
      · rw [hx] at ck
        have HJ2 : Hid (∀ j (hj : j < l.length), a + 2 ≤ j → j < a + (k + 1) → hexB (l[j]'hj) = true) := zJv (fun j hj h1 h2 => by
         by_cases h : j < a + k
         · exact HJ.out j hj h1 h
         · obtain rfl : j = a + k := by omega
           exact hx)
        clear hx;go_wp2_with (first | (go_at_call 84; with_reducible refine (ck _).mono ?_; rintro e w' ⟨rfl, rfl⟩))
        go_roundw
        case rel => exact ⟨trivial, k + 1, by omega, by omega, by go_num, HJ2⟩
        case measure => simp [intOf]; omega
    · obtain rfl : k = 18 := by omega
      have HT2 : Hid (tok (l.drop a) = some ((5, (l.drop a).take 18), 18)) := zJv (by rw [HT.out, if_pos (HF.out.2 HJ.out)]);go_wp2_with fail
      obtain ⟨r0, r1, r2⟩ := zf5 ⟨x0, x1, x2, f0, f1, f2⟩ (.int .i64 5) (.string S) (.int .i64 0);have hbX := zgt (hb0) (zJw _) (.int .i64 5) (.string S) (.int .i64 0);unfold zeq at r0 r1 r2 hbX;refine bodyPost_ret (v := .tuple #[.agg #[.int .i64 5, .string S, .int .i64 0], .int .i64 18]) (by simp [results, Tryz.results51, go_sem, r0, r1, r2]) rfl ?_;exact zLz HT2.out hS rfl rfl hbX
 · have HT2 : Hid (tok (l.drop a) = none) := zJv (by
    rw [ht, if_neg];unfold fltB;rw [zKa]
    simp; omega)
   clear ht;have hng : l.length < a + 18 := by omega
   go_enter Tryz.func51, Tryz.ntmps51
   go_wp2_with fail
   obtain ⟨r0, r1, r2⟩ := zf5 ⟨x0, x1, x2, f0, f1, f2⟩ (.int .i64 0) (.string ⟨#[]⟩) (.int .i64 0);have hbX := zgt (hb0) (zJw _) (.int .i64 0) (.string ⟨#[]⟩) (.int .i64 0);unfold zeq at r0 r1 r2 hbX;refine bodyPost_ret (v := .tuple #[.agg #[.int .i64 0, .string ⟨#[]⟩, .int .i64 0], .int .i64 0]) (by simp [results, Tryz.results51, go_sem, r0, r1, r2]) rfl ?_;exact zMc HT2.out hbX
theorem zNg (b off cap : Nat) (l : List UInt8) (hlen : l.length ≤ 1048576) (hcap : l.length ≤ cap) (a : Nat) (ha : a < l.length) (w : World) (hb : b < w.heap.size) (hh : Holds w b off l) :
 Calls Tryz.prog 51 #[.slice (some ⟨b, off, none⟩) l.length cap, .int .i64 a] w (zM1 (l.drop a) w) := by
 cases hl : leadB (l.drop a)
 · by_cases c34 : (l[a]'ha).toNat = 34
   · exact zPi b off cap l hlen hcap a ha w hb hh hl c34
   · by_cases c35 : (l[a]'ha).toNat = 35
     · exact zPj b off cap l hlen hcap a ha w hb hh hl c35
     · cases hdi : digB (l[a]'ha)
       · cases hlo : lowB (l[a]'ha)
         · cases hhi : highB (l[a]'ha)
           · exact zOq b off cap l hlen hcap a ha w hb hh hl c34 c35 hdi hlo hhi
           · exact zOo b off cap l hlen hcap a ha w hb hh hl hhi
         · exact zPh b off cap l hlen hcap a ha w hb hh hl hlo
       · exact zPg b off cap l hlen hcap a ha w hb hh hl hdi
 · exact zOp b off cap l hlen hcap a ha w hb hh hl
end Go.Proofs.YtidmeodmkcomlaaGreatDoor
