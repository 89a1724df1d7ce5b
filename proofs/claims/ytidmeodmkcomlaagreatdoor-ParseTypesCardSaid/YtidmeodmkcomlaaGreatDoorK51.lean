/- The document's answer for the tokens of a text, at every text. -/
import Derived.Test.YtidmeodmkcomlaaGreatDoorK50
set_option linter.unusedSimpArgs false
set_option linter.unusedVariables false
namespace Go.Proofs.YtidmeodmkcomlaaGreatDoor
open Go Go.Proofs Go.RowKit
set_option maxHeartbeats 8000000
theorem zP6 (l : List UInt8) (k : Nat) (h : k < l.length) : noteB (l.drop k) = (decide ((l[k]'h).toNat = 47) && (if h1 : k + 1 < l.length then decide ((l[k + 1]'h1).toNat = 47) else false)) := by
 unfold noteB;rw [zM3 l k h];have e1 : ∀ x : UInt8, (x = 47) ↔ x.toNat = 47 := fun x => UInt8.toNat_inj.symm;by_cases h1 : k + 1 < l.length
 · rw [dif_pos h1, zM3 l (k + 1) h1, List.take_succ_cons, List.take_succ_cons, List.take_zero, zJz]
   simp only [List.cons.injEq, and_true, e1, zKq, zK6]
 · rw [dif_neg h1, List.drop_eq_nil_of_le (show l.length ≤ k + 1 by omega)]
   simp
theorem zP7 (l : List UInt8) (k j : Nat) (h1 : k ≤ j) (h2 : j ≤ l.length) (hj : ∀ i (hi : i < l.length), k ≤ i → i < j → (l[i]'hi).toNat ≠ 10) (he : j = l.length ∨ ∃ hk : j < l.length, (l[j]'hk).toNat = 10) : noteN (l.drop k) = j - k := by
 unfold noteN;have hl : (l.drop k).length = l.length - k := zKa;refine zGe _ _ _ (by omega) (fun i hi => ?_) ?_
 · rw [List.getElem_drop]
   simpa using hj _ (by omega) (by omega) (by omega)
 · rcases he with he | ⟨hk, he⟩
   · left; omega
   · right
     refine ⟨by omega, ?_⟩;rw [List.getElem_drop];simp [show k + (j - k) = j by omega, he]
set_option maxRecDepth 100000 in
theorem zPe (a : Option Addr) (len cap : Nat) (l : List UInt8) (w : World) (hl : l.length = len) (hI : TextAt w.heap.size w (.slice a len cap) l) :
 Calls Tryz.prog 24 #[.slice a len cap] w (zc5 l w) := by
 subst hl;by_cases hlong : 1048576 < l.length
 · go_enter Tryz.func24, Tryz.ntmps24
   go_wp2_with fail
   refine bodyPost_ret (v := .tuple #[.slice none 0 0, .agg #[.int .i64 6, .int .i64 0, .string ⟨#[]⟩]]) (by simp [results, Tryz.results24, go_sem]) rfl ?_;have hA : lexA l = .error (6, 0) := by unfold lexA; rw [if_pos hlong]
   unfold zc5;rw [hA];exact ⟨rfl, (zJx _ w).alloc (zJw _) _⟩
 · obtain ⟨w0, hw0⟩ : ∃ w0, w.alloc (.cells #[.int .i64 0, .int .i64 0, .string ⟨#[]⟩] 30) = w0 := ⟨_, rfl⟩
   have hb0 : Below w.heap.size w w0 := by rw [← hw0]; exact (zJx _ w).alloc (zJw _) _
   have hs0 : w0.heap.size = w.heap.size + 1 := by rw [← hw0]; simp
   have hc0 : w0.heap[w.heap.size]? = some (.cells #[.int .i64 0, .int .i64 0, .string ⟨#[]⟩] 30) := by rw [← hw0]; exact World.alloc_heap_new w _
   have hI0 : TextAt w0.heap.size w0 (.slice a l.length cap) l := TextAt.more (by omega) (hI.below hb0);have cB := zA9 a l.length cap l (by omega) w0 hI0
   have cB' : Calls Tryz.prog 50 #[.slice a l.length cap] w0 fun e w' => ∃ v1 v2, e = .returned (.tuple #[v1, v2, .int .i64 (bd l 0 : Nat)]) ∧ Below w0.heap.size w0 w' ∧ ResAt w.heap.size w' :=
    cB.mono fun e w' ⟨v1, v2, h1, _, h3⟩ => ⟨v1, v2, h1, h3, zle ((h3.block w.heap.size (by omega)).trans hc0)⟩
   clear cB;by_cases hbd : bd l 0 = l.length
   · have HOK : Hid (∀ ts, lexR l 0 = .ok ts → lexA l = .ok ts) := zJv (fun ts h => by unfold lexA; rw [if_neg hlong, if_neg (by omega), h])
     have HER : Hid (∀ p, lexR l 0 = .error p → lexA l = .error (3, p)) := zJv (fun p h => by unfold lexA; rw [if_neg hlong, if_neg (by omega), h]);rw [hbd] at cB';clear hbd;obtain ⟨i31, hi31, hz0, hz1, hz2⟩ := info_parts zIu;go_enter Tryz.func24, Tryz.ntmps24
     go_wp2_with fail
     with_reducible refine cB'.mono ?_
     rintro e w1 ⟨v1, v2, rfl, hb1, x0, x1, x2, f0, f1, f2⟩;clear cB' x0 x1 x2 f0 f1 f2;have hs1 := hb1.size;go_wp2_with fail
     have hrow0 : Hid ((w1.alloc (.cells #[] 77)).ownsRow w0.heap.size 77 3 (.slice (some ⟨w1.heap.size, 0, none⟩) 0 0) 0 []) := zJv (World.ownsRow_made w1 #[] 0 hs1 (zK8 _) rfl);have hbw : Below w0.heap.size w0 (w1.alloc (.cells #[] 77)) := hb1.alloc hs1 _
     go_loopw [7, 8] (fun ts i wr => ∃ (k : Nat) (pre : List Tk), k ≤ l.length ∧ pre.length ≤ k ∧ i = .int .i64 k ∧ Hid (lexR l 0 = prep pre (lexR (l.drop k) k)) ∧ Hid (wr.ownsRow w0.heap.size 77 3 ts pre.length (tkV pre)) ∧ Below w0.heap.size w0 wr)
      (fun _ i _ => l.length - (intOf i).toNat)
     case atStart => exact ⟨0, [], zK8 _, zK8 _, rfl, zJv (by rw [zic]; rfl), hs0 ▸ hrow0, hbw⟩
     case round =>
      obtain ⟨k, pre, hk, hpk, rfl, HS, HR, hB⟩ := hrel;have hBs := hB.size;by_cases hlt : k < l.length
      · rcases hI0 with ⟨_, _, _, e, rfl⟩ | ⟨b, off, cap', e, hb, hcap, hh⟩
        · simp at hlt
        · cases e
          have hhr : Holds wr b off l := hh.below hb hB;have hbW : b < wr.heap.size := by omega
          have hck := hhr.at k hlt;have hc256 := (l[k]'hlt).toNat_lt;have hd := zM3 l k hlt;have HBL : zc3 (l[k]'hlt) = true → Hid (lexR l 0 = prep pre (lexR (l.drop (k + 1)) (k + 1))) := fun h => zJv (by rw [HS.out, hd, zbf _ _ _ h]);by_cases c32 : (l[k]'hlt).toNat = 32
          · have HX := HBL (by simp [zc3, c32])
            clear HBL HS hd;go_wp2_with fail
            go_roundw
            case rel => exact ⟨k + 1, pre, by omega, by omega, by go_num, HX, HR, hB⟩
            case measure => simp [intOf]; omega
          · by_cases c9 : (l[k]'hlt).toNat = 9
            · have HX := HBL (by simp [zc3, c9])
              clear HBL HS hd;go_wp2_with fail
              go_roundw
              case rel => exact ⟨k + 1, pre, by omega, by omega, by go_num, HX, HR, hB⟩
              case measure => simp [intOf]; omega
            · by_cases c10 : (l[k]'hlt).toNat = 10
              · have HX := HBL (by simp [zc3, c10])
                clear HBL HS hd;go_wp2_with fail
                go_roundw
                case rel => exact ⟨k + 1, pre, by omega, by omega, by go_num, HX, HR, hB⟩
                case measure => simp [intOf]; omega
              · by_cases c13 : (l[k]'hlt).toNat = 13
                · have HX := HBL (by simp [zc3, c13])
                  clear HBL HS hd;go_wp2_with fail
                  go_roundw
                  case rel => exact ⟨k + 1, pre, by omega, by omega, by go_num, HX, HR, hB⟩
                  case measure => simp [intOf]; omega
                · have hnb : zc3 (l[k]'hlt) = false := by simp [zc3, c32, c9, c10, c13]
                  have hnt := zP6 l k hlt;clear HBL;have HH := zJv hhr;cases hnote : noteB (l.drop k)
                  · have hz : skipN (l.drop k) = 0 := by
                     rw [hd] at hnote;rw [hd];exact zcx _ _ hnb hnote
                    rw [hnote] at hnt;by_cases c47 : (l[k]'hlt).toNat = 47
                    · by_cases hl1 : k + 1 < l.length
                      · have hck1 := hhr.at (k + 1) hl1
                        have h47' : ¬ (l[k + 1]'hl1).toNat = 47 := by
                         intro h;rw [dif_pos hl1] at hnt;simp [c47, h] at hnt
                        rw [c47] at hck;clear hnt c32 c9 c10 c13 hnb hhr hc256 c47;have cO := zNg b off cap l (by omega) hcap k hlt wr hbW HH.out
                        cases htk : tok (l.drop k) with
                        | none =>
                         have cO' : Calls Tryz.prog 51 #[.slice (some ⟨b, off, none⟩) l.length cap, .int .i64 k] wr fun e w' => e = .returned (.tuple #[.agg #[.int .i64 0, .string ⟨#[]⟩, .int .i64 0], .int .i64 0]) ∧ Below wr.heap.size wr w' ∧ ResAt w.heap.size w' := by
                          refine cO.mono fun e w' h => ?_;unfold zM1 at h;rw [htk] at h;exact ⟨h.1, h.2, zle ((h.2.block w.heap.size (by omega)).trans ((hB.block w.heap.size (by omega)).trans hc0))⟩
                         have HA := zJv (HER.out k (by rw [HS.out, zcd _ _ (by rw [hz, List.drop_zero, hd]; exact List.cons_ne_nil _ _) (by rw [hz, List.drop_zero]; exact htk), hz]; rfl));clear cO htk hd hnote hz;go_wp2_with fail
                         with_reducible refine cO'.mono ?_
                         rintro e w2 ⟨rfl, hb2, x0, x1, x2, f0, f1, f2⟩;clear cO';have hs2 := hb2.size;have hwlt : w.heap.size < w2.heap.size := by omega
                         have hbA := fun (o : Obj) => (zJx w2.heap.size w2).alloc (zJw _) o;obtain ⟨y0, y1, y2, g0, g1, g2⟩ := (show ResAt w.heap.size (w2.alloc (.cells #[.int .i64 0, .string ⟨#[]⟩, .int .i64 0] 77)) from ⟨((hbA _).cell (p := ⟨w.heap.size, 0, none⟩) hwlt).trans x0, ((hbA _).cell (p := ⟨w.heap.size, 1, none⟩) hwlt).trans x1, ((hbA _).cell (p := ⟨w.heap.size, 2, none⟩) hwlt).trans x2, ((hbA _).frozen (p := ⟨w.heap.size, 0, none⟩) hwlt).trans f0, ((hbA _).frozen (p := ⟨w.heap.size, 1, none⟩) hwlt).trans f1, ((hbA _).frozen (p := ⟨w.heap.size, 2, none⟩) hwlt).trans f2⟩);go_upto_region 16 with fail
                         obtain ⟨w3, hw3⟩ : ∃ w3, w2.alloc (.cells #[.int .i64 0, .string ⟨#[]⟩, .int .i64 0] 77) = w3 := ⟨_, rfl⟩;have hb3 : Below w2.heap.size w2 w3 := by rw [← hw3]; exact hbA _
                         rw [hw3] at y0 y1 y2 g0 g1 g2;clear x0 x1 x2 f0 f1 f2 hbA;go_wp2_with fail
                         obtain ⟨r0, r1, r2⟩ := zh1 ⟨y0, y1, y2, g0, g1, g2⟩ (.int .i64 3) (.int .i64 (k : Int)) (.string ⟨#[]⟩);have hbX := zgt (((hb0.trans (hB.mono (by omega))).trans (hb2.mono (by omega))).trans (hb3.mono (by omega))) (zJw _) (.int .i64 3) (.int .i64 (k : Int)) (.string ⟨#[]⟩);unfold zeq at r0 r1 r2 hbX;refine bodyPost_ret (v := .tuple #[.slice none 0 0, .agg #[.int .i64 3, .int .i64 (k : Int), .string ⟨#[]⟩]]) (by simp [results, Tryz.results24, go_sem, r0, r1, r2]) rfl ?_;unfold zc5;rw [HA.out];exact ⟨rfl, hbX⟩
                        | some x =>
                         obtain ⟨⟨kind, tx⟩, n⟩ := x;have hle := zg2 htk;rw [zKa] at hle
                         have cO' : Calls Tryz.prog 51 #[.slice (some ⟨b, off, none⟩) l.length cap, .int .i64 k] wr fun e w' => e = .returned (.tuple #[.agg #[.int .i64 (kind : Nat), .string ⟨tx.toArray⟩, .int .i64 0], .int .i64 (n : Nat)]) ∧ Below wr.heap.size wr w' := by
                          refine cO.mono fun e w' h => ?_;unfold zM1 at h;rw [htk] at h;exact h
                         have HS2 : Hid (lexR l 0 = prep (pre ++ [(kind, tx, k)]) (lexR (l.drop (k + n)) (k + n))) := zJv (by
                          have e1 := zbw (l.drop k) k (kind, tx) n (by rw [hz, List.drop_zero]; exact htk);rw [hz, Nat.zero_add, List.drop_drop, Nat.add_zero] at e1
                          rw [HS.out, e1, zjk])
                         have hn0 : ((n : Int) == 0) = false := by simp; omega
                         have hn1 : 1 ≤ n := hle.1;have hn2 : k + n ≤ l.length := by omega
                         obtain ⟨TX, hTX⟩ : ∃ TX : ByteArray, ⟨tx.toArray⟩ = TX := ⟨_, rfl⟩;have HTX := zJv hTX;rw [hTX] at cO';clear cO htk hd hnote hz hle hTX;go_wp2_with fail
                         with_reducible refine cO'.mono ?_
                         rintro e w2 ⟨rfl, hb2⟩;clear cO';have hs2 := hb2.size;go_wp2_with (at_builtin; go_loud (refine wpList_append_own_at _ rfl _ _ 56 rfl w0.heap.size 77 i31 (.agg #[.int .i64 0, .string ⟨#[]⟩, .int .i64 0]) 3 32 Tryz.underlying56 hi31 hz0 hz1 hz2 rfl (by decide) _ pre.length (tkV pre) rfl ?ra0 ⟨w2.heap.size + 1, 0, none⟩ 1 1 [.int .i64 (kind : Int), .string TX, .int .i64 (k : Int)] rfl rfl ?ra9 (by simp [Value.oneCell']) ?ra1 ?ra2 ?ra3 ?_))
                         case ra0 => exact ((zhe HR.out hb2).alloc _).alloc _
                         case ra9 =>
                          intro j u hu;have := zi6 (w2.alloc (.cells #[.int .i64 (kind : Int), .string TX, .int .i64 (k : Int)] 77)) _ _ _ 77 j u hu;rwa [zKh] at this
                         case ra1 => unfold maxLen; omega
                         case ra2 => omega
                         case ra3 => simp; omega
                         intro v3 W1 hown hg _ _;have hbX : Below w0.heap.size w0 ((w2.alloc (.cells #[.int .i64 (kind : Int), .string TX, .int .i64 (k : Int)] 77)).alloc (.cells #[.int .i64 (kind : Int), .string TX, .int .i64 (k : Int)] 77)) := ((hB.trans (hb2.mono hBs)).alloc (by omega) _).alloc (by simp; omega) _;have hbW1 : Below w0.heap.size w0 W1 := hbX.grown hg hbX.size (fun g hg => ((zhe HR.out hb2).lt g hg).1)
                         have HO : Hid (W1.ownsRow w0.heap.size 77 3 v3 (pre ++ [(kind, tx, k)]).length (tkV (pre ++ [(kind, tx, k)]))) := zJv (by
                          rw [hs0, zlz, zK5];have he : tkV [(kind, tx, k)] = [.int .i64 (kind : Int), .string TX, .int .i64 (k : Int)] := by rw [← HTX.out]; rfl
                          rw [he]
                          exact hown)
                         clear hown hg hbX;go_wp2_with fail
                         go_roundw
                         case rel => exact ⟨k + n, pre ++ [(kind, tx, k)], hn2, by simp; omega, by go_num, HS2, HO, hbW1⟩
                         case measure => simp [intOf]; omega
                      · rw [c47] at hck
                        clear hnt c32 c9 c10 c13 hnb hhr hc256 c47;have cO := zNg b off cap l (by omega) hcap k hlt wr hbW HH.out
                        cases htk : tok (l.drop k) with
                        | none =>
                         have cO' : Calls Tryz.prog 51 #[.slice (some ⟨b, off, none⟩) l.length cap, .int .i64 k] wr fun e w' => e = .returned (.tuple #[.agg #[.int .i64 0, .string ⟨#[]⟩, .int .i64 0], .int .i64 0]) ∧ Below wr.heap.size wr w' ∧ ResAt w.heap.size w' := by
                          refine cO.mono fun e w' h => ?_;unfold zM1 at h;rw [htk] at h;exact ⟨h.1, h.2, zle ((h.2.block w.heap.size (by omega)).trans ((hB.block w.heap.size (by omega)).trans hc0))⟩
                         have HA := zJv (HER.out k (by rw [HS.out, zcd _ _ (by rw [hz, List.drop_zero, hd]; exact List.cons_ne_nil _ _) (by rw [hz, List.drop_zero]; exact htk), hz]; rfl));clear cO htk hd hnote hz;go_wp2_with fail
                         with_reducible refine cO'.mono ?_
                         rintro e w2 ⟨rfl, hb2, x0, x1, x2, f0, f1, f2⟩;clear cO';have hs2 := hb2.size;have hwlt : w.heap.size < w2.heap.size := by omega
                         have hbA := fun (o : Obj) => (zJx w2.heap.size w2).alloc (zJw _) o;obtain ⟨y0, y1, y2, g0, g1, g2⟩ := (show ResAt w.heap.size (w2.alloc (.cells #[.int .i64 0, .string ⟨#[]⟩, .int .i64 0] 77)) from ⟨((hbA _).cell (p := ⟨w.heap.size, 0, none⟩) hwlt).trans x0, ((hbA _).cell (p := ⟨w.heap.size, 1, none⟩) hwlt).trans x1, ((hbA _).cell (p := ⟨w.heap.size, 2, none⟩) hwlt).trans x2, ((hbA _).frozen (p := ⟨w.heap.size, 0, none⟩) hwlt).trans f0, ((hbA _).frozen (p := ⟨w.heap.size, 1, none⟩) hwlt).trans f1, ((hbA _).frozen (p := ⟨w.heap.size, 2, none⟩) hwlt).trans f2⟩);go_upto_region 16 with fail
                         obtain ⟨w3, hw3⟩ : ∃ w3, w2.alloc (.cells #[.int .i64 0, .string ⟨#[]⟩, .int .i64 0] 77) = w3 := ⟨_, rfl⟩;have hb3 : Below w2.heap.size w2 w3 := by rw [← hw3]; exact hbA _
                         rw [hw3] at y0 y1 y2 g0 g1 g2;clear x0 x1 x2 f0 f1 f2 hbA;go_wp2_with fail
                         obtain ⟨r0, r1, r2⟩ := zh1 ⟨y0, y1, y2, g0, g1, g2⟩ (.int .i64 3) (.int .i64 (k : Int)) (.string ⟨#[]⟩);have hbX := zgt (((hb0.trans (hB.mono (by omega))).trans (hb2.mono (by omega))).trans (hb3.mono (by omega))) (zJw _) (.int .i64 3) (.int .i64 (k : Int)) (.string ⟨#[]⟩);unfold zeq at r0 r1 r2 hbX;refine bodyPost_ret (v := .tuple #[.slice none 0 0, .agg #[.int .i64 3, .int .i64 (k : Int), .string ⟨#[]⟩]]) (by simp [results, Tryz.results24, go_sem, r0, r1, r2]) rfl ?_;unfold zc5;rw [HA.out];exact ⟨rfl, hbX⟩
                        | some x =>
                         obtain ⟨⟨kind, tx⟩, n⟩ := x;have hle := zg2 htk;rw [zKa] at hle
                         have cO' : Calls Tryz.prog 51 #[.slice (some ⟨b, off, none⟩) l.length cap, .int .i64 k] wr fun e w' => e = .returned (.tuple #[.agg #[.int .i64 (kind : Nat), .string ⟨tx.toArray⟩, .int .i64 0], .int .i64 (n : Nat)]) ∧ Below wr.heap.size wr w' := by
                          refine cO.mono fun e w' h => ?_;unfold zM1 at h;rw [htk] at h;exact h
                         have HS2 : Hid (lexR l 0 = prep (pre ++ [(kind, tx, k)]) (lexR (l.drop (k + n)) (k + n))) := zJv (by
                          have e1 := zbw (l.drop k) k (kind, tx) n (by rw [hz, List.drop_zero]; exact htk);rw [hz, Nat.zero_add, List.drop_drop, Nat.add_zero] at e1
                          rw [HS.out, e1, zjk])
                         have hn0 : ((n : Int) == 0) = false := by simp; omega
                         have hn1 : 1 ≤ n := hle.1;have hn2 : k + n ≤ l.length := by omega
                         obtain ⟨TX, hTX⟩ : ∃ TX : ByteArray, ⟨tx.toArray⟩ = TX := ⟨_, rfl⟩;have HTX := zJv hTX;rw [hTX] at cO';clear cO htk hd hnote hz hle hTX;go_wp2_with fail
                         with_reducible refine cO'.mono ?_
                         rintro e w2 ⟨rfl, hb2⟩;clear cO';have hs2 := hb2.size;go_wp2_with (at_builtin; go_loud (refine wpList_append_own_at _ rfl _ _ 56 rfl w0.heap.size 77 i31 (.agg #[.int .i64 0, .string ⟨#[]⟩, .int .i64 0]) 3 32 Tryz.underlying56 hi31 hz0 hz1 hz2 rfl (by decide) _ pre.length (tkV pre) rfl ?ra0 ⟨w2.heap.size + 1, 0, none⟩ 1 1 [.int .i64 (kind : Int), .string TX, .int .i64 (k : Int)] rfl rfl ?ra9 (by simp [Value.oneCell']) ?ra1 ?ra2 ?ra3 ?_))
                         case ra0 => exact ((zhe HR.out hb2).alloc _).alloc _
                         case ra9 =>
                          intro j u hu;have := zi6 (w2.alloc (.cells #[.int .i64 (kind : Int), .string TX, .int .i64 (k : Int)] 77)) _ _ _ 77 j u hu;rwa [zKh] at this
                         case ra1 => unfold maxLen; omega
                         case ra2 => omega
                         case ra3 => simp; omega
                         intro v3 W1 hown hg _ _;have hbX : Below w0.heap.size w0 ((w2.alloc (.cells #[.int .i64 (kind : Int), .string TX, .int .i64 (k : Int)] 77)).alloc (.cells #[.int .i64 (kind : Int), .string TX, .int .i64 (k : Int)] 77)) := ((hB.trans (hb2.mono hBs)).alloc (by omega) _).alloc (by simp; omega) _;have hbW1 : Below w0.heap.size w0 W1 := hbX.grown hg hbX.size (fun g hg => ((zhe HR.out hb2).lt g hg).1)
                         have HO : Hid (W1.ownsRow w0.heap.size 77 3 v3 (pre ++ [(kind, tx, k)]).length (tkV (pre ++ [(kind, tx, k)]))) := zJv (by
                          rw [hs0, zlz, zK5];have he : tkV [(kind, tx, k)] = [.int .i64 (kind : Int), .string TX, .int .i64 (k : Int)] := by rw [← HTX.out]; rfl
                          rw [he]
                          exact hown)
                         clear hown hg hbX;go_wp2_with fail
                         go_roundw
                         case rel => exact ⟨k + n, pre ++ [(kind, tx, k)], hn2, by simp; omega, by go_num, HS2, HO, hbW1⟩
                         case measure => simp [intOf]; omega
                    · have e32 : (((l[k]'hlt).toNat : Int) == 32) = false := by simp; omega
                      have e9 : (((l[k]'hlt).toNat : Int) == 9) = false := by simp; omega
                      have e10 : (((l[k]'hlt).toNat : Int) == 10) = false := by simp; omega
                      have e13 : (((l[k]'hlt).toNat : Int) == 13) = false := by simp; omega
                      have e47 : (((l[k]'hlt).toNat : Int) == 47) = false := by simp; omega
                      clear hnt hnb hhr c32 c9 c10 c13 c47;have cO := zNg b off cap l (by omega) hcap k hlt wr hbW HH.out
                      cases htk : tok (l.drop k) with
                      | none =>
                       have cO' : Calls Tryz.prog 51 #[.slice (some ⟨b, off, none⟩) l.length cap, .int .i64 k] wr fun e w' => e = .returned (.tuple #[.agg #[.int .i64 0, .string ⟨#[]⟩, .int .i64 0], .int .i64 0]) ∧ Below wr.heap.size wr w' ∧ ResAt w.heap.size w' := by
                        refine cO.mono fun e w' h => ?_;unfold zM1 at h;rw [htk] at h;exact ⟨h.1, h.2, zle ((h.2.block w.heap.size (by omega)).trans ((hB.block w.heap.size (by omega)).trans hc0))⟩
                       have HA := zJv (HER.out k (by rw [HS.out, zcd _ _ (by rw [hz, List.drop_zero, hd]; exact List.cons_ne_nil _ _) (by rw [hz, List.drop_zero]; exact htk), hz]; rfl));clear cO htk hd hnote hz;go_wp2_with fail
                       with_reducible refine cO'.mono ?_
                       rintro e w2 ⟨rfl, hb2, x0, x1, x2, f0, f1, f2⟩;clear cO';have hs2 := hb2.size;have hwlt : w.heap.size < w2.heap.size := by omega
                       have hbA := fun (o : Obj) => (zJx w2.heap.size w2).alloc (zJw _) o;obtain ⟨y0, y1, y2, g0, g1, g2⟩ := (show ResAt w.heap.size (w2.alloc (.cells #[.int .i64 0, .string ⟨#[]⟩, .int .i64 0] 77)) from ⟨((hbA _).cell (p := ⟨w.heap.size, 0, none⟩) hwlt).trans x0, ((hbA _).cell (p := ⟨w.heap.size, 1, none⟩) hwlt).trans x1, ((hbA _).cell (p := ⟨w.heap.size, 2, none⟩) hwlt).trans x2, ((hbA _).frozen (p := ⟨w.heap.size, 0, none⟩) hwlt).trans f0, ((hbA _).frozen (p := ⟨w.heap.size, 1, none⟩) hwlt).trans f1, ((hbA _).frozen (p := ⟨w.heap.size, 2, none⟩) hwlt).trans f2⟩);go_upto_region 16 with fail
                       obtain ⟨w3, hw3⟩ : ∃ w3, w2.alloc (.cells #[.int .i64 0, .string ⟨#[]⟩, .int .i64 0] 77) = w3 := ⟨_, rfl⟩;have hb3 : Below w2.heap.size w2 w3 := by rw [← hw3]; exact hbA _
                       rw [hw3] at y0 y1 y2 g0 g1 g2;clear x0 x1 x2 f0 f1 f2 hbA;go_wp2_with fail
                       obtain ⟨r0, r1, r2⟩ := zh1 ⟨y0, y1, y2, g0, g1, g2⟩ (.int .i64 3) (.int .i64 (k : Int)) (.string ⟨#[]⟩);have hbX := zgt (((hb0.trans (hB.mono (by omega))).trans (hb2.mono (by omega))).trans (hb3.mono (by omega))) (zJw _) (.int .i64 3) (.int .i64 (k : Int)) (.string ⟨#[]⟩);unfold zeq at r0 r1 r2 hbX;refine bodyPost_ret (v := .tuple #[.slice none 0 0, .agg #[.int .i64 3, .int .i64 (k : Int), .string ⟨#[]⟩]]) (by simp [results, Tryz.results24, go_sem, r0, r1, r2]) rfl ?_;unfold zc5;rw [HA.out];exact ⟨rfl, hbX⟩
                      | some x =>
                       obtain ⟨⟨kind, tx⟩, n⟩ := x;have hle := zg2 htk;rw [zKa] at hle
                       have cO' : Calls Tryz.prog 51 #[.slice (some ⟨b, off, none⟩) l.length cap, .int .i64 k] wr fun e w' => e = .returned (.tuple #[.agg #[.int .i64 (kind : Nat), .string ⟨tx.toArray⟩, .int .i64 0], .int .i64 (n : Nat)]) ∧ Below wr.heap.size wr w' := by
                        refine cO.mono fun e w' h => ?_;unfold zM1 at h;rw [htk] at h;exact h
                       have HS2 : Hid (lexR l 0 = prep (pre ++ [(kind, tx, k)]) (lexR (l.drop (k + n)) (k + n))) := zJv (by
                        have e1 := zbw (l.drop k) k (kind, tx) n (by rw [hz, List.drop_zero]; exact htk);rw [hz, Nat.zero_add, List.drop_drop, Nat.add_zero] at e1
                        rw [HS.out, e1, zjk])
                       have hn0 : ((n : Int) == 0) = false := by simp; omega
                       have hn1 : 1 ≤ n := hle.1;have hn2 : k + n ≤ l.length := by omega
                       obtain ⟨TX, hTX⟩ : ∃ TX : ByteArray, ⟨tx.toArray⟩ = TX := ⟨_, rfl⟩;have HTX := zJv hTX;rw [hTX] at cO';clear cO htk hd hnote hz hle hTX;go_wp2_with fail
                       with_reducible refine cO'.mono ?_
                       rintro e w2 ⟨rfl, hb2⟩;clear cO';have hs2 := hb2.size;go_wp2_with (at_builtin; go_loud (refine wpList_append_own_at _ rfl _ _ 56 rfl w0.heap.size 77 i31 (.agg #[.int .i64 0, .string ⟨#[]⟩, .int .i64 0]) 3 32 Tryz.underlying56 hi31 hz0 hz1 hz2 rfl (by decide) _ pre.length (tkV pre) rfl ?ra0 ⟨w2.heap.size + 1, 0, none⟩ 1 1 [.int .i64 (kind : Int), .string TX, .int .i64 (k : Int)] rfl rfl ?ra9 (by simp [Value.oneCell']) ?ra1 ?ra2 ?ra3 ?_))
                       case ra0 => exact ((zhe HR.out hb2).alloc _).alloc _
                       case ra9 =>
                        intro j u hu;have := zi6 (w2.alloc (.cells #[.int .i64 (kind : Int), .string TX, .int .i64 (k : Int)] 77)) _ _ _ 77 j u hu;rwa [zKh] at this
                       case ra1 => unfold maxLen; omega
                       case ra2 => omega
                       case ra3 => simp; omega
                       intro v3 W1 hown hg _ _;have hbX : Below w0.heap.size w0 ((w2.alloc (.cells #[.int .i64 (kind : Int), .string TX, .int .i64 (k : Int)] 77)).alloc (.cells #[.int .i64 (kind : Int), .string TX, .int .i64 (k : Int)] 77)) := ((hB.trans (hb2.mono hBs)).alloc (by omega) _).alloc (by simp; omega) _;have hbW1 : Below w0.heap.size w0 W1 := hbX.grown hg hbX.size (fun g hg => ((zhe HR.out hb2).lt g hg).1)
                       have HO : Hid (W1.ownsRow w0.heap.size 77 3 v3 (pre ++ [(kind, tx, k)]).length (tkV (pre ++ [(kind, tx, k)]))) := zJv (by
                        rw [hs0, zlz, zK5];have he : tkV [(kind, tx, k)] = [.int .i64 (kind : Int), .string TX, .int .i64 (k : Int)] := by rw [← HTX.out]; rfl
                        rw [he]
                        exact hown)
                       clear hown hg hbX;go_wp2_with fail
                       go_roundw
                       case rel => exact ⟨k + n, pre ++ [(kind, tx, k)], hn2, by simp; omega, by go_num, HS2, HO, hbW1⟩
                       case measure => simp [intOf]; omega
                  · rw [hnote] at hnt
                    have h47 : (l[k]'hlt).toNat = 47 := by
                     have := hnt.symm;simp only [zK6, zKq] at this;exact this.1
                    have hl1 : k + 1 < l.length := by
                     by_cases h : k + 1 < l.length
                     · exact h
                     · rw [dif_neg h] at hnt; simp at hnt
                    have h47' : (l[k + 1]'hl1).toNat = 47 := by
                     rw [dif_pos hl1] at hnt;have := hnt.symm;simp only [zK6, zKq] at this;exact this.2
                    have hck1 := hhr.at (k + 1) hl1;have HNT := zJv hnote;rw [h47] at hck;rw [h47'] at hck1;clear hnt hnote hnb c32 c9 c10 c13 hc256 hd hhr h47 h47';have hk8 : k < l.length := hlt;go_wp2_with fail
                    go_loopw [8] (fun i wr' => wr' = wr ∧ ∃ j : Nat, k ≤ j ∧ j ≤ l.length ∧ i = .int .i64 j ∧ Hid (∀ i (hi : i < l.length), k ≤ i → i < j → (l[i]'hi).toNat ≠ 10)) (fun i _ => l.length - (intOf i).toNat)
                    case atStart => exact ⟨rfl, k, zJw _, hk, rfl, zJv (fun i hi h1 h2 => by omega)⟩
                    case round =>
                     obtain ⟨rfl, j, hj1, hj2, rfl, HJ⟩ := hrel
                     have HE : (j = l.length ∨ ∃ hk : j < l.length, (l[j]'hk).toNat = 10) → Hid (lexR l 0 = prep pre (lexR (l.drop j) j) ∧ k + 2 ≤ j) := fun he => zJv (by
                      have hn := zP7 l k j hj1 hj2 HJ.out he;have h2 := zey _ HNT.out;rw [hn] at h2;refine ⟨?_, by omega⟩
                      rw [HS.out, zpe _ _ HNT.out, hn, List.drop_drop, show k + (j - k) = j by omega])
                     by_cases hjl : j < l.length
                     · have hckj := HH.out.at j hjl
                       by_cases hj10 : (l[j]'hjl).toNat = 10
                       · have HX := HE (.inr ⟨hjl, hj10⟩)
                         have hj10' : (((l[j]'hjl).toNat : Int) != 10) = false := by simp; omega
                         have HX2 := HX.out.2;clear HE hj10;go_wp2_with fail
                         go_roundw
                         case rel => exact ⟨j, pre, by omega, by omega, by go_num, zJv HX.out.1, HR, hB⟩
                         case measure => simp [intOf]; omega
                       · have HJ2 : Hid (∀ i (hi : i < l.length), k ≤ i → i < j + 1 → (l[i]'hi).toNat ≠ 10) := zJv (fun i hi h1 h2 => by
                          by_cases h : i < j
                          · exact HJ.out i hi h1 h
                          · obtain rfl : i = j := by omega
                            exact hj10)
                         have hj10' : (((l[j]'hjl).toNat : Int) != 10) = true := by simp; omega
                         clear HE hj10;go_wp2_with fail
                         go_roundw
                         case rel => exact ⟨trivial, j + 1, by omega, by omega, by go_num, HJ2⟩
                         case measure => simp [intOf]; omega
                     · have HX := HE (.inl (by omega))
                       have HX2 := HX.out.2;clear HE;go_wp2_with fail
                       go_roundw
                       case rel => exact ⟨j, pre, by omega, by omega, by go_num, zJv HX.out.1, HR, hB⟩
                       case measure => simp [intOf]; omega
      · obtain rfl : k = l.length := by omega
        have hnil : l.drop l.length = [] := List.drop_eq_nil_of_le (zJw _);have hA : lexA l = .ok (pre ++ [(0, [], l.length)]) := HOK.out _ (by rw [HS.out, hnil, zaz [] _ (by rw [zax]; rfl), zax]; rfl);have HA := zJv hA;clear hA hnil HS;go_wp2_with (at_builtin; refine wpList_append_own_at _ rfl _ _ 56 rfl w0.heap.size 77 i31 (.agg #[.int .i64 0, .string ⟨#[]⟩, .int .i64 0]) 3 32 Tryz.underlying56 hi31 hz0 hz1 hz2 rfl (by decide) _ pre.length (tkV pre) rfl ?rb0 ⟨wr.heap.size, 0, none⟩ 1 1 [.int .i64 0, .string ⟨#[]⟩, .int .i64 (l.length : Int)] rfl rfl (zi6 _ _ _ _ _) (by simp [Value.oneCell']) ?rb1 ?rb2 ?rb3 ?_)
        case rb0 => exact HR.out.alloc _
        case rb1 => unfold maxLen; omega
        case rb2 => omega
        case rb3 => simp; omega
        intro v3 W1 hown hg _ _;have hbX : Below w0.heap.size w0 (wr.alloc (.cells #[.int .i64 0, .string ⟨#[]⟩, .int .i64 (l.length : Int)] 77)) := hB.alloc hBs _;have hbW1 : Below w0.heap.size w0 W1 := hbX.grown hg hbX.size (fun g hg => (HR.out.lt g hg).1);have hR1 : ResAt w.heap.size W1 := zle ((hbW1.block w.heap.size (by omega)).trans hc0);have HO : Hid (W1.ownsRow (w.heap.size + 1) 77 3 v3 (pre ++ [(0, [], l.length)]).length (tkV (pre ++ [(0, [], l.length)]))) := zJv (by rw [zlz, zK5, ← hs0]; exact hs0 ▸ hown);obtain ⟨x0, x1, x2, f0, f1, f2⟩ := hR1;clear hown hg hbX;go_wp2_with fail
        obtain ⟨r0, r1, r2⟩ := zh1 ⟨x0, x1, x2, f0, f1, f2⟩ (.int .i64 0) (.int .i64 0) (.string ⟨#[]⟩);have hbY := zgt (hb0.trans (hbW1.mono (by omega))) (zJw _) (.int .i64 0) (.int .i64 0) (.string ⟨#[]⟩);have hrow := zwf (Nat.lt_succ_self _) HO.out (.int .i64 0) (.int .i64 0) (.string ⟨#[]⟩);unfold zeq at r0 r1 r2 hbY hrow;refine bodyPost_ret (v := .tuple #[v3, .agg #[.int .i64 0, .int .i64 0, .string ⟨#[]⟩]]) (by simp [results, Tryz.results24, go_sem, r0, r1, r2]) rfl ?_;unfold zc5;rw [HA.out];exact ⟨⟨v3, rfl, zDi (by omega) hrow⟩, hbY⟩
   · have hle : bd l 0 < l.length := by
      have := bd_le l.length l 0 (zJw _);omega
     have HA : Hid (lexA l = .error (2, bd l 0)) := zJv (by unfold lexA; rw [if_neg hlong, if_pos hle]);obtain ⟨q, hq⟩ : ∃ q, bd l 0 = q := ⟨_, rfl⟩;rw [hq] at cB' HA hle;clear hbd hq;go_enter Tryz.func24, Tryz.ntmps24
     go_wp2_with fail
     with_reducible refine cB'.mono ?_
     rintro e w1 ⟨v1, v2, rfl, hb1, x0, x1, x2, f0, f1, f2⟩;clear cB';have hs1 := hb1.size;go_wp2_with fail
     obtain ⟨r0, r1, r2⟩ := zh1 ⟨x0, x1, x2, f0, f1, f2⟩ (.int .i64 2) (.int .i64 (q : Int)) (.string ⟨#[]⟩);have hbX := zgt (hb0.trans (hb1.mono (by omega))) (zJw _) (.int .i64 2) (.int .i64 (q : Int)) (.string ⟨#[]⟩);unfold zeq at r0 r1 r2 hbX;refine bodyPost_ret (v := .tuple #[.slice none 0 0, .agg #[.int .i64 2, .int .i64 (q : Int), .string ⟨#[]⟩]]) (by simp [results, Tryz.results24, go_sem, r0, r1, r2]) rfl ?_;unfold zc5;rw [HA.out];exact ⟨rfl, hbX⟩
end Go.Proofs.YtidmeodmkcomlaaGreatDoor
