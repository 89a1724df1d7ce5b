/- The document's answer for the first sign, and for all signs, at every list of bytes. -/
import Derived.Test.YtidmeodmkcomlaaGreatDoorRefS
namespace Go.Proofs.YtidmeodmkcomlaaGreatDoor
open Go Go.Proofs Go.RowKit Go.Shelf

/-- The first sign and its width; (0, 0): there is none. -/
def firstR (l : List UInt8) : Int × Int := if isBad l then (0, 0) else ((D l).1, (D l).2)

theorem ret_pair {k : IntKind} {a b c d : Int} (h : a = c) (h' : b = d) : Ending.returned (.tuple #[.int k a, .int k b]) = .returned (.tuple #[.int k c, .int k d]) := by rw [h, h']

theorem conv_at {W X : World} {b off n cap : Nat} {l : List UInt8} (hn : n ≤ l.length) (hh : Holds W b off l) (hX : X.heap = W.heap) :
    (convert 33 9 (.slice (some ⟨b, off, none⟩) n cap)).run Tryz.prog X = .ok (.string ⟨(l.take n).toArray⟩) X := by
  have hl : (l.take n).length = n := by simp; omega
  have := run_convert_bytes_back (P := Tryz.prog) X 33 9 5 ⟨b, off, none⟩ cap (l.take n) Tryz.underlying33 Tryz.underlying5 Tryz.underlying9 (fun j hj => by
    rw [hl] at hj
    rw [add_none]
    have h1 := hh j (by omega)
    have h2 : X.cell? ⟨b, off + j, none⟩ = W.cell? ⟨b, off + j, none⟩ := by simp only [World.cell?, hX]
    rw [h2, h1]
    simp [List.getD_eq_getElem?_getD, List.getElem?_eq_getElem (show j < l.length by omega)])
  rwa [hl] at this

set_option maxRecDepth 100000 in
set_option maxHeartbeats 4000000 in
theorem rfirst_any (b off cap : Nat) (l : List UInt8) (h0 : 0 < l.length) (hlen : l.length ≤ 140737488351232) (hcap : l.length ≤ cap) (w : World) (hb : b < w.heap.size) (hh : Holds w b off l) :
    Calls Tryz.prog 83 #[.slice (some ⟨b, off, none⟩) l.length cap] w fun e w' => e = .returned (.tuple #[.int .i64 (firstR l).1, .int .i64 (firstR l).2]) ∧ Below w.heap.size w w' := by
  have mixed : Tryz.prog.follows .mixedOrders = true := by kernel_rfl
  have HF := Lib.hid (fun n hn h => fit_good l n hn h)
  have HG := Lib.hid (good_fit l h0)
  have HD := Lib.hid (D_bounds l h0)
  have HH := Lib.hid hh
  clear hh
  go_enter Tryz.func83, Tryz.ntmps83
  go_wp2
  go_loopw [4] (fun i wr => ∃ n : Nat, 1 ≤ n ∧ n ≤ 5 ∧ n ≤ l.length + 1 ∧ i = .int .i64 n ∧ Hid (∀ k, 1 ≤ k → k < n → ¬ fit l k) ∧ Below w.heap.size w wr)
    (fun i _ => 5 - (intOf i).toNat)
  case atStart => exact ⟨1, Nat.le_refl _, by omega, by omega, rfl, Lib.hid (fun k h1 h2 => absurd h1 (by omega)), Below.refl _ _⟩
  case round =>
    obtain ⟨n, hn1, hn5, hnl, rfl, HN, hB⟩ := hrel
    by_cases c4 : n ≤ 4
    · by_cases cl : n ≤ l.length
      · have hhr : Holds wr b off l := HH.out.below hb hB
        have cV := value_any l b off cap n hn1 c4 cl wr hhr
        have HHR := Lib.hid hhr
        clear hhr
        have hcn : n ≤ cap := by omega
        obtain ⟨r, hr⟩ : ∃ r, valL l n = r := ⟨_, rfl⟩
        rw [hr] at cV
        have HR := Lib.hid hr
        clear hr
        by_cases hs : isSign r
        · have cE := refEnc_ok r hs
          unfold RefEnc at cE
          go_wp2_with (first | (go_at_call 121; refine cV.mono ?_; rintro e w1 ⟨rfl, hb1⟩) | (go_at_call 122; refine (cE _).mono ?_; rintro e w2 ⟨rfl, rfl⟩))
          have hbX : Below w.heap.size w (w1.alloc (.cells (cells8 (encB r)).toArray 5)) := (hB.trans (hb1.mono hB.size)).alloc (by have := hB.size; have := hb1.size; omega) _
          have hhX : Holds (w1.alloc (.cells (cells8 (encB r)).toArray 5)) b off l := HH.out.below hb hbX
          have hhE : Holds (w1.alloc (.cells (cells8 (encB r)).toArray 5)) w1.heap.size 0 (encB r) := by
            intro j hj
            have hnw := World.alloc_heap_new w1 (.cells (cells8 (encB r)).toArray 5)
            simp only [World.cell?, hnw]
            simp [cells8, List.getD_eq_getElem?_getD, List.getElem?_eq_getElem hj]
          obtain ⟨X, hX⟩ : ∃ X, w1.alloc (.cells (cells8 (encB r)).toArray 5) = X := ⟨_, rfl⟩
          rw [hX] at hbX hhX hhE ⊢
          have k1 := fun N => conv_at (X := X.drewN N) (cap := (encB r).length) (Nat.le_refl _) hhE rfl
          have k2 := fun N => conv_at (X := X.drewN N) (cap := cap) cl hhX rfl
          rw [List.take_length] at k1
          obtain ⟨s1, hs1⟩ : ∃ s1, (⟨(encB r).toArray⟩ : ByteArray) = s1 := ⟨_, rfl⟩
          obtain ⟨s2, hs2⟩ : ∃ s2, (⟨(l.take n).toArray⟩ : ByteArray) = s2 := ⟨_, rfl⟩
          have hiff : s1 = s2 ↔ fit l n := by
            rw [← hs1, ← hs2]
            unfold fit
            rw [HR.out]
            constructor
            · intro e
              have e2 : (encB r).toArray = (l.take n).toArray := congrArg ByteArray.data e
              exact ⟨hs, by simpa using congrArg Array.toList e2⟩
            · intro e
              rw [e.2]
          have HI := Lib.hid hiff
          simp only [hs1] at k1
          simp only [hs2] at k2
          have HBX := Lib.hid hbX
          clear hs1 hs2 hhX hhE hX hiff cV cE hbX hs
          by_cases heq : s1 = s2
          · subst heq
            have hfit := HI.out.1 rfl
            have HA := Lib.hid (HF.out n cl hfit)
            clear hfit
            go_quiet (fail)
            go_wp2
            go_ret2
            refine ⟨ret_pair ?_ ?_, HBX.out.trans ((drewN_below X _).mono HBX.out.size)⟩
            · unfold firstR
              rw [if_neg HA.out.1]
              rw [← HR.out, ← HA.out.2.2]
            · unfold firstR
              rw [if_neg HA.out.1, HA.out.2.1]
          · have hne : (s1.toList == s2.toList) = false := by
              rw [beq_eq_false_iff_ne]
              intro e
              rw [ByteArray.toList_eq, ByteArray.toList_eq] at e
              exact heq (ByteArray.ext (Array.toList_inj.mp e))
            have HE := Lib.hid heq
            clear heq
            go_quiet (fail)
            go_wp2
            go_roundw
            case rel =>
              refine ⟨n + 1, by omega, by omega, by omega, by go_num, Lib.hid (fun k h1 h2 hf => ?_), HBX.out.trans ((drewN_below X _).mono HBX.out.size)⟩
              by_cases hk : k < n
              · exact HN.out k h1 hk hf
              · obtain rfl : k = n := by omega
                exact HE.out (HI.out.2 hf)
            case measure => simp [intOf]; omega
        · have cE := refEnc_bad r hs
          have HS := Lib.hid hs
          clear hs
          go_wp2_with (first | (go_at_call 121; refine cV.mono ?_; rintro e w1 ⟨rfl, hb1⟩) | (go_at_call 122; refine (cE _).mono ?_; rintro e w2 ⟨rfl, rfl⟩))
          have hbX := hB.trans (hb1.mono hB.size)
          have HBX := Lib.hid hbX
          clear hbX cV cE
          go_quiet (fail)
          go_wp2
          go_roundw
          case rel =>
            refine ⟨n + 1, by omega, by omega, by omega, by go_num, Lib.hid (fun k h1 h2 hf => ?_), HBX.out.trans ((drewN_below _ _).mono HBX.out.size)⟩
            by_cases hk : k < n
            · exact HN.out k h1 hk hf
            · obtain rfl : k = n := by omega
              exact HS.out (by rw [← HR.out]; exact hf.1)
          case measure => simp [intOf]; omega
      · have hfr : isBad l := by
          rcases Classical.em (isBad l) with h | h
          · exact h
          · exact absurd (HG.out h) (HN.out _ HD.out.1 (by have := HD.out.2.2.1; omega))
        have HFR := Lib.hid hfr
        clear hfr
        go_wp2
        go_ret2
        refine ⟨ret_pair ?_ ?_, hB⟩
        · unfold firstR
          rw [if_pos HFR.out]
        · unfold firstR
          rw [if_pos HFR.out]
    · have hfr : isBad l := by
        rcases Classical.em (isBad l) with h | h
        · exact h
        · exact absurd (HG.out h) (HN.out _ HD.out.1 (by have := HD.out.2.1; omega))
      have HFR := Lib.hid hfr
      clear hfr
      go_wp2
      go_ret2
      refine ⟨ret_pair ?_ ?_, hB⟩
      · unfold firstR
        rw [if_pos HFR.out]
      · unfold firstR
        rw [if_pos HFR.out]

end Go.Proofs.YtidmeodmkcomlaaGreatDoor
