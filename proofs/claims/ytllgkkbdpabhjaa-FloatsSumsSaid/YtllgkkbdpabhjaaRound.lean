/- The document's rounding, at every number of up to ten thousand digits. -/
import Derived.Test.YtllgkkbdpabhjaaAddSub
import Derived.Test.YtllgkkbdpabhjaaBase
import Derived.Deep.Cut
namespace Go.Proofs.Ytllgkkbdpabhjaa
open Go Go.Proofs Go.RowKit

/-- What is dropped of a number: half of the last place that stays; and more. -/
def halfB (N D : Nat) : Bool := decide (0 < D) && (N / 2 ^ (D - 1) % 2 == 1)
def restB (N D : Nat) (more : Bool) : Bool := more || (N % 2 ^ (D - 1) != 0)
def keptN (N U D : Nat) : Nat := N * 2 ^ U / 2 ^ D
/-- What stays, rounded. -/
def roundK (N U D : Nat) (more : Bool) : Nat := keptN N U D + (halfB N D && (restB N D more || keptN N U D % 2 == 1)).toNat

theorem val_next (N D k : Nat) (h : D ≤ k) (l : List Nat) (hl : l.length = k - D) (hv : val l = N / 2 ^ D % 2 ^ (k - D)) : val (l ++ [N / 2 ^ k % 2]) = N / 2 ^ D % 2 ^ (k + 1 - D) := by
  rw [val_append, hl, hv, show k + 1 - D = k - D + 1 by omega, mod_succ, Nat.div_div_eq_div_mul, ← Nat.pow_add, show D + (k - D) = k by omega]
  simp [val]
theorem half_next (N D k : Nat) (h : D ≤ k) : (decide (0 < D ∧ D ≤ k) && (N / 2 ^ (D - 1) % 2 == 1)) = (decide (0 < D ∧ D ≤ k + 1) && (N / 2 ^ (D - 1) % 2 == 1)) := by
  congr 1
  rw [Bool.eq_iff_iff]; simp; omega
theorem half_now (N D k : Nat) (h : k + 1 = D) : (((N / 2 ^ k % 2 : Nat) : Int) == 1) = (decide (0 < D ∧ D ≤ k + 1) && (N / 2 ^ (D - 1) % 2 == 1)) := by
  subst h
  have : decide (0 < k + 1 ∧ k + 1 ≤ k + 1) = true := by simp
  rw [this, Bool.true_and, Nat.add_sub_cancel]
  have hb : N / 2 ^ k % 2 = 0 ∨ N / 2 ^ k % 2 = 1 := by omega
  rcases hb with h | h <;> rw [h] <;> rfl
theorem half_not (N D k : Nat) (h : k < D) (hb : Bool) (e : hb = (decide (0 < D ∧ D ≤ k) && (N / 2 ^ (D - 1) % 2 == 1))) : hb = false := by
  have : decide (0 < D ∧ D ≤ k) = false := by simp; omega
  rw [e, this]; rfl
theorem rest_next (N k : Nat) (more : Bool) : (more || (N % 2 ^ (k + 1) != 0)) = ((more || (N % 2 ^ k != 0)) || (((N / 2 ^ k % 2 : Nat) : Int) == 1)) := by
  rw [mod_succ, Bool.or_assoc]
  congr 1
  have hp := Nat.two_pow_pos k
  have hb : N / 2 ^ k % 2 = 0 ∨ N / 2 ^ k % 2 = 1 := by omega
  rcases hb with h | h
  · rw [h]; simp
  · rw [h, Nat.mul_one]
    have : (N % 2 ^ k + 2 ^ k != 0) = true := by simp
    rw [this]; simp

theorem ret_u64e {a b : Int} (h : a = b) : Ending.returned (.int .u64 a) = Ending.returned (.int .u64 b) := by rw [h]

/-- The number whose digits stay, the place of the last one, and the word of them. -/
def lastV (KR : Nat) : Nat := if (dg KR).length = 54 then KR / 2 else KR
def lastL (low : Int) (KR : Nat) : Int := if (dg KR).length = 54 then low + 1 else low
def roundFin (sg low : Int) (KR : Nat) : Int :=
  if (dg (lastV KR)).length < 53 then sg + lastV KR
  else if 2047 ≤ lastL low KR + 1075 then sg + 9218868437227405312
  else sg + (lastL low KR + 1075) * 4503599627370496 + lastV KR - 4503599627370496

theorem drop_dg (K : Nat) (h : K ≠ 0) : (dg K).drop 1 = dg (K / 2) := by rw [dg_pos K h]; rfl
theorem row_drop {n₀ : Nat} {w : World} {b off cap : Nat} {K : Nat} (h : RowAt n₀ w (.slice (some ⟨b, off, none⟩) (dg K).length cap) (dg K)) (hl : 2 ≤ (dg K).length) : RowAt n₀ w (.slice (some ⟨b, off + 1, none⟩) ((dg K).length - 1) (cap - 1)) (dg (K / 2)) := by
  have h0 : K ≠ 0 := by
    rintro rfl
    rw [dg_zero] at hl
    simp at hl
  have hd := drop_dg K h0
  have hlen : (dg (K / 2)).length = (dg K).length - 1 := by rw [← hd, List.length_drop]
  rcases h with ⟨_, _, _, e, hn⟩ | ⟨b', off', cap', e, hb, hc, hh⟩
  · rw [hn] at hl; simp at hl
  · cases e
    refine .inr ⟨b, off + 1, cap - 1, by rw [hlen], hb, by omega, fun j hj => ?_⟩
    have := hh (j + 1) (by omega)
    rw [show off + 1 + j = off + (j + 1) by omega, this, ← hd]
    simp [List.getD_eq_getElem?_getD]

set_option maxRecDepth 100000 in
set_option maxHeartbeats 2000000 in
theorem round_walk (minus more : Bool) (N L U D : Nat) (v : Value) (e low : Int) (sg : Int) (w : World) (hL : (dg N).length = L) (hL1 : 1 ≤ L) (hL2 : L ≤ 10000) (he1 : -10000 ≤ e) (he2 : e ≤ 10000)
    (hlow : ((L : Int) + e - 53 ≥ -1074 ∧ low = (L : Int) + e - 53) ∨ ((L : Int) + e - 53 < -1074 ∧ low = -1074)) (hUD : (e ≤ low ∧ (D : Int) = low - e ∧ U = 0) ∨ (low < e ∧ D = 0 ∧ (U : Int) = e - low))
    (hsg : sg = if minus then 9223372036854775808 else 0) (hM : (dg (roundK N U D more)).length ≤ 54) (fin : Int) (hfin : fin = roundFin sg low (roundK N U D more)) (hv : RowAt w.heap.size w v (dg N)) :
    Calls Try.prog 28 #[.bool minus, v, .int .i64 e, .bool more] w fun r w' => r = .returned (.int .u64 fin) ∧ Below w.heap.size w w' := by
  have HFIN := Lib.hid hfin
  clear hfin
  have HSG : Hid (0 ≤ sg ∧ sg ≤ 9223372036854775808) := Lib.hid (by rw [hsg]; split <;> omega)
  have HM := Lib.hid hM
  clear hM
  have hcell := fun (W : World) (hW : Below w.heap.size w W) => hv.below hW
  obtain ⟨a, cap, rfl, hcap⟩ := hv.shape
  rw [hL] at hcap hcell ⊢
  clear hv
  have HV := Lib.hid hcell
  have HL := Lib.hid hL
  clear hcell hL
  go_enter Try.func28, Try.ntmps28
  generalize (9223372036854775808 : Int) = T at hsg ⊢
  go_upto_if 17 with fail
  go_cut [9] from 17 (fun s wx => s = .int .u64 sg ∧ w = wx)
  case first =>
    cases minus
    all_goals
      subst hsg
      go_wp2_with fail
      go_meet
      case rel => exact ⟨rfl, rfl⟩
  case rest =>
    obtain ⟨rfl, rfl⟩ := hcut
    clear hsg
    go_upto_region 6 with fail
    go_cut [10] from 17 (fun s wx => s = .int .i64 low ∧ w = wx)
    case first =>
      rcases hlow with ⟨h1, rfl⟩ | ⟨h1, rfl⟩
      all_goals
        go_wp2_with fail
        go_meet
        case rel => exact ⟨rfl, rfl⟩
    case rest =>
      obtain ⟨rfl, rfl⟩ := hcut
      go_wp2_with fail
      go_loopw [11, 12, 13, 32] (fun v h r i wr => ∃ (l : List Nat) (k : Nat) (hb rb : Bool), k ≤ L ∧ i = .int .i64 (k : Int) ∧ l.length = k - D ∧ h = .bool hb ∧ r = .bool rb ∧ Hid (Own wr w.heap.size v l) ∧ Hid (bitsL l) ∧ Hid (val l = N / 2 ^ D % 2 ^ (k - D)) ∧ Hid (hb = (decide (0 < D ∧ D ≤ k) && (N / 2 ^ (D - 1) % 2 == 1))) ∧ Hid (rb = (more || (N % 2 ^ (min k (D - 1)) != 0))) ∧ Hid (Below w.heap.size w wr)) (fun _ _ _ i _ => L + 1 - (intOf i).toNat)
      case atStart =>
        refine ⟨[], 0, false, more, by omega, rfl, by simp, rfl, rfl, Lib.hid ?_, Lib.hid (fun d hd => by cases hd), Lib.hid ?_, Lib.hid ?_, Lib.hid ?_, Lib.hid ((Below.refl _ _).alloc (Nat.le_refl _) _)⟩
        · exact own_const w _ (Nat.le_refl _) [] _ (0, 0) rfl
        · simp [val, Nat.mod_one]
        · have : decide (0 < D ∧ D ≤ 0) = false := by simp; omega
          rw [this]; rfl
        · simp [Nat.mod_one]
      case round =>
        obtain ⟨l, k, hb, rb, hk, rfl, hlen, rfl, rfl, hown, hbits, hval, hhb, hrb, hbel⟩ := hrel
        have hsz := hbel.out.size
        by_cases hlt : k < L
        · have hrow := HV.out wr hbel.out
          have hlL := HL.out
          have hcell : wr.cell? ⟨(a.getD ⟨0, 0, none⟩).block, (a.getD ⟨0, 0, none⟩).off + k, none⟩ = some (.int .u8 ((N / 2 ^ k % 2 : Nat) : Int)) ∧ a = some ⟨(a.getD ⟨0, 0, none⟩).block, (a.getD ⟨0, 0, none⟩).off, none⟩ := by
            rcases hrow with ⟨_, _, _, _, h0⟩ | ⟨b, off, cap', e1, _, _, hh⟩
            · rw [h0] at hlL; simp at hlL; omega
            · have h1 := hh k (by omega)
              rw [getD_dg] at h1
              cases e1
              exact ⟨h1, rfl⟩
          obtain ⟨hcell, ha⟩ := hcell
          generalize (a.getD ⟨0, 0, none⟩).block = b at hcell ha
          generalize (a.getD ⟨0, 0, none⟩).off = off at hcell ha
          subst ha
          clear hrow hlL
          have hd2 : N / 2 ^ k % 2 < 2 := Nat.mod_lt _ (by omega)
          rcases Nat.lt_trichotomy (k + 1) D with g | g | g
          · have hc1 : (k : Int) + e < low := by omega
            have hc2 : ((k : Int) + e == low - 1) = false := by simp; omega
            have hv2 : Hid (val l = N / 2 ^ D % 2 ^ (k + 1 - D)) := Lib.hid (by rw [hval.out, show k - D = k + 1 - D by omega])
            have hh2 : Hid (hb = (decide (0 < D ∧ D ≤ k + 1) && (N / 2 ^ (D - 1) % 2 == 1))) := Lib.hid (by
              rw [half_not N D k (by omega) hb hhb.out]
              have : decide (0 < D ∧ D ≤ k + 1) = false := by simp; omega
              rw [this]; rfl)
            have hn := rest_next N k more
            have e1 : min k (D - 1) = k := by omega
            have e2 : min (k + 1) (D - 1) = k + 1 := by omega
            have hr := hrb.out
            rw [e1] at hr
            rw [← hr] at hn
            have HN := Lib.hid hn
            have E2 := Lib.hid e2
            have hlen2 : l.length = k + 1 - D := by omega
            clear hn e1 e2 hr hrb hhb hval
            generalize N / 2 ^ k % 2 = d at *
            cases rb
            all_goals
              go_wp2_with fail
              go_roundw
              case rel => exact ⟨l, k + 1, hb, _, by omega, by go_num, hlen2, rfl, rfl, hown, hbits, hv2, hh2, Lib.hid (by rw [E2.out, HN.out]; simp), hbel⟩
              case measure => simp [intOf]; omega
          · have hc1 : (k : Int) + e < low := by omega
            have hc2 : ((k : Int) + e == low - 1) = true := by simp; omega
            have hv2 : Hid (val l = N / 2 ^ D % 2 ^ (k + 1 - D)) := Lib.hid (by rw [hval.out, show k - D = k + 1 - D by omega])
            have hh2 : Hid ((((N / 2 ^ k % 2 : Nat) : Int) == 1) = (decide (0 < D ∧ D ≤ k + 1) && (N / 2 ^ (D - 1) % 2 == 1))) := Lib.hid (half_now N D k g)
            have hr2 : Hid (rb = (more || (N % 2 ^ (min (k + 1) (D - 1)) != 0))) := Lib.hid (by rw [hrb.out, show min k (D - 1) = min (k + 1) (D - 1) by omega])
            have hlen2 : l.length = k + 1 - D := by omega
            have G := Lib.hid g
            clear hrb hhb hval g
            generalize N / 2 ^ k % 2 = d at *
            go_wp2_with fail
            go_roundw
            case rel => exact ⟨l, k + 1, _, rb, by omega, by go_num, hlen2, rfl, rfl, hown, hbits, hv2, hh2, hr2, hbel⟩
            case measure => simp [intOf]; omega
          · have hc1 : low ≤ (k : Int) + e := by omega
            have hv2 : Hid (val (l ++ [N / 2 ^ k % 2]) = N / 2 ^ D % 2 ^ (k + 1 - D)) := Lib.hid (val_next N D k (by omega) l hlen hval.out)
            have hh2 : Hid (hb = (decide (0 < D ∧ D ≤ k + 1) && (N / 2 ^ (D - 1) % 2 == 1))) := Lib.hid (by rw [hhb.out, half_next N D k (by omega)])
            have hr2 : Hid (rb = (more || (N % 2 ^ (min (k + 1) (D - 1)) != 0))) := Lib.hid (by rw [hrb.out, show min k (D - 1) = min (k + 1) (D - 1) by omega])
            have hb2 := Lib.hid (bits_append hbits.out (bits_one hd2))
            have hlen2 : Hid ((l ++ [N / 2 ^ k % 2]).length = k + 1 - D) := Lib.hid (by simp; omega)
            clear hrb hhb hval
            generalize N / 2 ^ k % 2 = d at *
            go_wp2_with (at_builtin; refine wpList_append_row Try.underlying48 rfl _ _ rfl w.heap.size _ l rfl (hown.out.alloc _) (wr.heap.size + 1) _ [d] rfl (row_new _ _ [d] _ _ ?qa ?qb) ?qc ?qd ?qe ?_)
            case qa => simp [cN]
            case qb => omega
            case qc => simp; omega
            case qd => simp; omega
            case qe => left; simp
            intro v' w1 hown1 hgrow
            have hB1 := Lib.hid ((hbel.out.alloc hsz _).grown hgrow (by simp; omega) (fun k hk => (hown.out.lt k hk).1))
            have HO := Lib.hid hown1
            clear hown1 hgrow
            go_wp2_with fail
            go_roundw
            case rel => exact ⟨l ++ [d], k + 1, hb, rb, by omega, by go_num, hlen2.out, rfl, rfl, HO, hb2, hv2, hh2, hr2, hB1⟩
            case measure => simp [intOf]; omega
        · obtain rfl : k = L := by omega
          have hLN := lt_length N
          rw [HL.out] at hLN
          have hv0 : Hid (val l = N / 2 ^ D) := Lib.hid (by
            rw [hval.out]
            refine Nat.mod_eq_of_lt ?_
            rw [Nat.div_lt_iff_lt_mul (Nat.two_pow_pos D), ← Nat.pow_add]
            exact Nat.lt_of_lt_of_le hLN (Nat.pow_le_pow_right (by omega) (by omega)))
          have hh0 : Hid (hb = halfB N D) := Lib.hid (by
            rw [hhb.out]
            unfold halfB
            by_cases hDk : D ≤ k
            · congr 1
              rw [Bool.eq_iff_iff]; simp; omega
            · have h0 : N / 2 ^ (D - 1) = 0 := Nat.div_eq_of_lt (Nat.lt_of_lt_of_le hLN (Nat.pow_le_pow_right (by omega) (by omega)))
              rw [h0]; simp)
          have hr0 : Hid (rb = restB N D more) := Lib.hid (by
            rw [hrb.out]
            unfold restB
            by_cases hDk : D - 1 ≤ k
            · rw [Nat.min_eq_right hDk]
            · rw [Nat.min_eq_left (by omega)]
              rw [Nat.mod_eq_of_lt hLN, Nat.mod_eq_of_lt (Nat.lt_of_lt_of_le hLN (Nat.pow_le_pow_right (by omega) (by omega)))])
          clear hval hhb hrb hLN
          go_upto_if 71 with fail
          go_cut [11] from 17 (fun v wx => ∃ l2, Hid (Own wx w.heap.size v l2) ∧ Hid (bitsL l2) ∧ Hid (val l2 = keptN N U D) ∧ l2.length ≤ 40000 ∧ Hid (Below w.heap.size w wx))
          case first =>
            rcases hUD with ⟨g1, g2, g3⟩ | ⟨g1, g2, g3⟩
            · go_wp2_with fail
              go_meet
              case rel => exact ⟨l, hown, hbits, Lib.hid (by rw [hv0.out, g3]; unfold keptN; simp), by omega, hbel⟩
            · have km := make_zeros U (by omega)
              have hlU : l.length + U ≤ 40000 := by omega
              have hlpos : 0 < l.length := by omega
              have hUe : ((e - low : Int)) = (U : Int) := by omega
              have hvU : Hid (val (List.replicate U 0 ++ l) = keptN N U D) := Lib.hid (by
                rw [val_append, val_replicate, List.length_replicate, hv0.out, g2]
                unfold keptN
                simp [Nat.mul_comm])
              have hbU := Lib.hid (bits_append (bits_replicate U) hbits.out)
              have HU := Lib.hid hUe
              clear g2
              rw [← hUe] at km
              clear hUe
              have hO : Hid (Own (wr.alloc (.cells (cN (List.replicate U 0)).toArray 5)) w.heap.size (.slice (some ⟨wr.heap.size, 0, none⟩) U U) (List.replicate U 0)) := Lib.hid (by
                have := own_const wr w.heap.size hsz (List.replicate U 0) _ (0, 0) rfl
                simpa using this)
              have hR := Lib.hid (hown.out.row.below ((Below.refl wr.heap.size wr).alloc (Nat.le_refl _) (.cells (cN (List.replicate U 0)).toArray 5)))
              go_wp2_with (at_builtin; refine wpList_append_row Try.underlying48 rfl _ _ rfl w.heap.size _ (List.replicate U 0) rfl hO.out wr.heap.size _ l rfl hR.out ?qc ?qd ?qe ?_)
              case qc => simp; omega
              case qd => simp; omega
              case qe => exact .inl hlpos
              intro v' w1 hown1 hgrow
              have hB1 := Lib.hid ((hbel.out.alloc hsz _).grown hgrow (by simp; omega) (fun k hk => by simp [Value.ownBlock] at hk; omega))
              have HO := Lib.hid hown1
              clear hown1 hgrow km
              go_wp2_with fail
              go_meet
              case rel => exact ⟨_, HO, hbU, hvU, by simp; omega, hB1⟩
          case rest =>
            obtain ⟨l2, hown2, hbits2, hval2, hlen2, hbel2⟩ := hcut
            have ct := trim_any hbits2.out (by omega) wc hown2.out.row
            rw [hval2.out] at ct
            have hKlen : (dg (keptN N U D)).length ≤ 40000 := by
              rw [← hval2.out]
              refine Nat.le_trans (length_le _ l2.length (val_lt l2 hbits2.out)) hlen2
            have hKlen' : (dg (keptN N U D)).length ≤ 100000 := Nat.le_trans hKlen (by omega)
            clear hval2 hbits2
            have hsz2 := hbel2.out.size
            go_upto_region 21 with (go_at_call 37; refine ct.mono ?_; rintro r w' ⟨⟨v', rfl, hr⟩, rfl⟩; have HR := Lib.hid hr; clear hr)
            clear ct hown2
            have ck := bit_any 0 (by omega) wc HR.out
            rw [getD_dg, Nat.pow_zero, Nat.div_one] at ck
            go_cut [88] from 17 (fun b wx => b = .bool (hb && (rb || (keptN N U D % 2 == 1))) ∧ wc = wx)
            case first =>
              have hk2 : keptN N U D % 2 = 0 ∨ keptN N U D % 2 = 1 := by omega
              rcases hk2 with hk2 | hk2
              all_goals
                rw [hk2] at ck
                have HK := Lib.hid hk2
                clear hk2
                cases hb <;> cases rb
                all_goals
                  go_wp2_with (go_at_call 40; refine ck.mono ?_; rintro r w' ⟨rfl, rfl⟩)
                  go_meet
                  case rel => exact ⟨by rw [HK.out]; rfl, rfl⟩
            case rest =>
              obtain ⟨rfl, rfl⟩ := hcut
              have hKR : Hid (roundK N U D more = keptN N U D + (hb && (rb || (keptN N U D % 2 == 1))).toNat) := Lib.hid (by rw [hh0.out, hr0.out]; rfl)
              clear hh0 hr0 hv0 ck hbits hbel hk hlt
              generalize keptN N U D = Kp at *
              generalize roundK N U D more = KR at *
              generalize (hb && (rb || (Kp % 2 == 1))) = B at *
              go_upto_if 88 with fail
              go_cut [11] from 17 (fun v wx => Hid (RowAt wx.heap.size wx v (dg KR)) ∧ Hid (Below w.heap.size w wx))
              case first =>
                cases B
                · go_wp2_with fail
                  go_meet
                  case rel => exact ⟨by rw [hKR.out]; exact HR, hbel2⟩
                · have h1 : dg 1 = [1] := by rw [dg_pos 1 (by omega), dg_zero]
                  have hB1 := (Below.refl wc.heap.size wc).alloc (Nat.le_refl _) (.cells #[.int .u8 1] 5)
                  have ra := (HR.out.below hB1).more hB1.size
                  have rb1 : RowAt (wc.alloc (.cells #[.int .u8 1] 5)).heap.size (wc.alloc (.cells #[.int .u8 1] 5)) (.slice (some ⟨wc.heap.size, 0, none⟩) 1 1) [1] := row_new _ wc [1] #[.int .u8 1] (0, 0) (by simp [cN]) (by simp)
                  rw [← h1] at rb1
                  have ca := add_digits Kp 1 (wc.alloc (.cells #[.int .u8 1] 5)) hKlen' (by rw [h1]; simp) ra rb1
                  clear ra rb1 h1
                  go_wp2_with (go_at_call 34; ((with_reducible refine ca.mono ?_); rintro r w4 ⟨⟨v4, rfl, hr4⟩, hb4⟩; have HR4 := Lib.hid hr4; clear hr4))
                  go_meet
                  case rel => exact ⟨by rw [hKR.out]; exact HR4, Lib.hid (hbel2.out.trans ((hB1.mono hsz2).trans (hb4.mono (by simp; omega))))⟩
              case rest =>
                obtain ⟨hrow, hbel3⟩ := hcut
                clear hKR hKlen hKlen' hbel2 hsz2 HR
                obtain ⟨a3, c3, hsh, hc3⟩ := hrow.out.shape
                subst hsh
                have hM := HM.out
                have HLV : Hid (lastV KR = if (dg KR).length = 54 then KR / 2 else KR) := Lib.hid rfl
                have HLL : Hid (lastL low KR = if (dg KR).length = 54 then low + 1 else low) := Lib.hid rfl
                go_upto_if 94 with fail
                go_cut [10, 11] from 17 (fun lw v wx => lw = .int .i64 (lastL low KR) ∧ Hid (RowAt wx.heap.size wx v (dg (lastV KR))) ∧ wc = wx)
                case first =>
                  by_cases h54 : (dg KR).length = 54
                  · have hr := hrow.out
                    rcases hr with ⟨_, _, _, _, hn⟩ | ⟨b, off, cap', e1, _, _, _⟩
                    · rw [hn] at h54; simp at h54
                    · have e1' := e1
                      cases e1'
                      have hd := Lib.hid (row_drop hrow.out (by omega))
                      have HLV2 := HLV.out
                      have HLL2 := HLL.out
                      rw [if_pos h54] at HLV2 HLL2
                      have H54 := Lib.hid h54
                      have G1 := Lib.hid HLV2
                      have G2 := Lib.hid HLL2
                      have hb54 : (((dg KR).length : Int) == 54) = true := by rw [h54]; rfl
                      have hM1 : 1 ≤ (dg KR).length := by omega
                      have hM2 : (1 : Int) ≤ ((dg KR).length : Int) := by omega
                      have hne1 : ¬ c3 = 1 := by omega
                      clear h54 HLV2 HLL2 e1
                      generalize (dg KR).length = M at *
                      go_wp2_with fail
                      go_meet
                      case rel => exact ⟨by rw [G2.out], by rw [G1.out]; exact hd, rfl⟩
                  · have HLV2 := HLV.out
                    have HLL2 := HLL.out
                    rw [if_neg h54] at HLV2 HLL2
                    have G1 := Lib.hid HLV2
                    have G2 := Lib.hid HLL2
                    have hb54 : (((dg KR).length : Int) == 54) = false := by
                      generalize (dg KR).length = M at h54
                      simp; omega
                    clear HLV2 HLL2 h54
                    go_wp2_with fail
                    go_meet
                    case rel => exact ⟨by rw [G2.out], by rw [G1.out]; exact hrow, rfl⟩
                case rest =>
                  obtain ⟨rfl, hrow2, rfl⟩ := hcut
                  have HF : Hid (fin = if (dg (lastV KR)).length < 53 then sg + lastV KR else if 2047 ≤ lastL low KR + 1075 then sg + 9218868437227405312 else sg + (lastL low KR + 1075) * 4503599627370496 + lastV KR - 4503599627370496) := Lib.hid HFIN.out
                  have hVlen : (dg (lastV KR)).length ≤ 53 := by
                    unfold lastV
                    split
                    · rename_i h
                      have h0 : KR ≠ 0 := by
                        rintro rfl
                        rw [dg_zero] at h
                        simp at h
                      rw [← drop_dg KR h0, List.length_drop]; omega
                    · omega
                  have hLb : -1074 ≤ lastL low KR ∧ lastL low KR ≤ 30000 := by
                    unfold lastL
                    split <;> omega
                  clear HLV HLL hrow hM HM hc3 HFIN
                  generalize lastV KR = V at *
                  generalize lastL low KR = lw at *
                  obtain ⟨a4, c4, hsh, hc4⟩ := hrow2.out.shape
                  subst hsh
                  have hVb := lt_length V
                  have hV53 : V < 9007199254740992 := Nat.lt_of_lt_of_le hVb (Nat.pow_le_pow_right (by omega) hVlen : _ ≤ 2 ^ 53)
                  have hV0 : Hid (V / 2 ^ (dg V).length = 0) := Lib.hid (Nat.div_eq_of_lt hVb)
                  clear hVb
                  have hcells : ∀ m, m < (dg V).length → ∃ b off, a4 = some ⟨b, off, none⟩ ∧ wc.cell? ⟨b, off + m, none⟩ = some (.int .u8 ((V / 2 ^ m % 2 : Nat) : Int)) := by
                    intro m hm
                    rcases hrow2.out with ⟨_, _, _, _, hn⟩ | ⟨b, off, cap', e1, _, _, hh⟩
                    · rw [hn] at hm; simp at hm
                    · cases e1
                      have := hh m hm
                      rw [getD_dg] at this
                      exact ⟨b, off, rfl, this⟩
                  have HC := Lib.hid hcells
                  clear hcells hrow2
                  generalize (dg V).length = M at *
                  go_wp2_with fail
                  go_loopw [15, 16] (fun m i wr => ∃ (k : Nat) (z : Int), k ≤ M ∧ i = .int .i64 z ∧ z + 1 = k ∧ m = .int .u64 ((V / 2 ^ k : Nat) : Int) ∧ wr = wc) (fun _ i _ => (intOf i + 1).toNat)
                  case atStart => exact ⟨M, (M : Int) - 1, by omega, rfl, by omega, by rw [hV0.out]; rfl, by first | rfl | trivial⟩
                  case round =>
                    obtain ⟨k, z, hk, rfl, hz, rfl, rfl⟩ := hrel
                    cases k with
                    | zero =>
                      obtain rfl : z = -1 := by omega
                      clear hz
                      simp only [Nat.pow_zero, Nat.div_one]
                      have hB := Lib.hid hbel3.out
                      rcases Nat.lt_or_ge M 53 with h53 | h53
                      · have hf := HF.out
                        rw [if_pos h53] at hf
                        have HF2 := Lib.hid hf
                        clear hf
                        go_wp2_with fail
                        go_ret
                        exact ⟨ret_u64e (by rw [HF2.out]; have := HSG.out; exact u64_wrap_in _ (by omega) (by omega)), hB.out⟩
                      · have hf := HF.out
                        rw [if_neg (by omega)] at hf
                        by_cases h2 : 2047 ≤ lw + 1075
                        · rw [if_pos h2] at hf
                          have HF2 := Lib.hid hf
                          clear hf
                          go_wp2_with fail
                          go_ret
                          exact ⟨ret_u64e (by rw [HF2.out]; have := HSG.out; exact u64_wrap_in _ (by omega) (by omega)), hB.out⟩
                        · rw [if_neg h2] at hf
                          have HF2 := Lib.hid hf
                          have h2' : lw + 1075 < 2047 := by omega
                          clear hf h2
                          go_wp2_with fail
                          go_ret
                          refine ⟨ret_u64e ?_, hB.out⟩
                          have hs := HSG.out
                          rw [HF2.out, u64_wrap_in (sg + (lw + 1075) * 4503599627370496) (by omega) (by omega), u64_wrap_in (sg + (lw + 1075) * 4503599627370496 + (V : Int)) (by omega) (by omega), u64_wrap_in _ (by omega) (by omega)]
                    | succ m =>
                      obtain rfl : z = (m : Int) := by omega
                      clear hz
                      obtain ⟨b, off, rfl, hcell⟩ := HC.out m (by omega)
                      have hst := div_step V m
                      have hle : V / 2 ^ (m + 1) ≤ V := Nat.div_le_self _ _
                      have hlt : V / 2 ^ (m + 1) < 9007199254740992 := by omega
                      have hd2 : V / 2 ^ m % 2 < 2 := Nat.mod_lt _ (by omega)
                      have HS := Lib.hid hst
                      clear hst hle
                      generalize V / 2 ^ (m + 1) = q at *
                      generalize V / 2 ^ m % 2 = d at *
                      go_wp2_with fail
                      go_roundw
                      case rel => exact ⟨m, (m : Int) - 1, by omega, rfl, by omega, by rw [HS.out]; go_num, by first | rfl | trivial⟩
                      case measure => simp [intOf]
end Go.Proofs.Ytllgkkbdpabhjaa
