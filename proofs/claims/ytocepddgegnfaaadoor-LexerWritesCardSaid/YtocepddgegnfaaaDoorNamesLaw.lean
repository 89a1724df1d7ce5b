/- Whether any text is a word, or a name, is what the document says: the law returns true at every input. -/
import Derived.Test.YtocepddgegnfaaaDoorReadsLaw
import Derived.Test.YtocepddgegnfaaaDoorNameMath
namespace Go.Proofs.YtocepddgegnfaaaDoor
open Go Go.Proofs Go.RowKit

theorem lexA_err {l : List UInt8} {c p : Nat} (h : lexA l = .error (c, p)) : c ≠ 0 := by
  unfold lexA at h
  split at h
  · cases h; decide
  · split at h
    · cases h; decide
    · cases hx : lexR l 0 with
      | error e => rw [hx] at h; cases h; decide
      | ok ts => rw [hx] at h; cases h

theorem text_bytes (W : World) (s : ByteArray) : TextAt (W.heap.size + 1) (Lib.bytesWorld W 5 s) (.slice (some ⟨W.heap.size, 0, none⟩) s.size (grownCap W s.size 0 5)) (tl s) := by
  refine .inr ⟨W.heap.size, 0, _, by rw [tl_length], Nat.lt_succ_self _, by rw [tl_length]; exact grownCap_ge _ _ _ _, fun j hj => ?_⟩
  rw [tl_length] at hj
  rw [Nat.zero_add]
  exact Lib.bytesWorld_cell W 5 s j hj

set_option maxRecDepth 100000 in
set_option maxHeartbeats 4000000 in
theorem names_any (s : ByteArray) (hs : s.size ≤ 9223372036854775807) (w : World) (hE : Env w) : Calls Tryd.prog 6 #[.string s] w fun e W' => e = .returned (.bool true) ∧ Below w.heap.size w W' := by
  have hsz := hE.size
  have kL : ∀ W, Below w.heap.size w W → Calls Tryd.prog 8 #[] W fun e W' => e = .returned (.bool true) ∧ Below w.heap.size w W' := fun W hW =>
    (lives_any W (hE.on hW)).mono fun e W' ⟨he, hb⟩ => ⟨he, hW.trans (hb.mono hW.size)⟩
  have hr0 := Below.refl w.heap.size w
  by_cases hlong : 100 < s.size
  · go_enter Tryd.func6, Tryd.ntmps6
    go_wp2_with (go_at_call 8; with_reducible refine (kL _ (by assumption)).mono ?_; rintro e w1 ⟨rfl, hb1⟩)
    go_ret
    exact ⟨rfl, by assumption⟩
  · have kc := fun (w : World) (s : ByteArray) => Lib.run_convert_string_bytes (P := Tryd.prog) w 9 22 5 s Tryd.underlying9 Tryd.underlying22 Tryd.underlying5
    go_enter Tryd.func6, Tryd.ntmps6
    go_wp2_with (first | (go_at_call 8; with_reducible refine (kL _ (by assumption)).mono ?_; rintro e w1 ⟨rfl, hb1⟩))
    have hs1 := hb1.size
    have hb2 : Below w1.heap.size w1 (Lib.bytesWorld w1 5 s) := Go.Joins.below_bytesWorld _ _ _ _ (Nat.le_refl _)
    have hs2 : (Lib.bytesWorld w1 5 s).heap.size = w1.heap.size + 1 := Lib.bytesWorld_size _ _ _
    have cX := rlex_any (some ⟨w1.heap.size, 0, none⟩) s.size (grownCap w1 s.size 0 5) (tl s) (Lib.bytesWorld w1 5 s) (tl_length s) (by rw [hs2]; exact text_bytes w1 s)
    have cW := isWord_any s
    have cR := rword_any s (by omega)
    have cN := isName_any s hs
    with_reducible refine cX.mono ?_
    intro e w3 hpost
    obtain ⟨tv, c, p, ts, rfl, htk, hb3, hcase⟩ := lexPost_tok hpost
    clear cX hpost kc
    have hs3 := hb3.size
    go_upto_region 4 with fail
    obtain ⟨w4, hw4⟩ : ∃ w4, w3.alloc (.cells #[.int .i64 (c : Int), .int .i64 (p : Int), .string ⟨#[]⟩] 27) = w4 := ⟨_, rfl⟩
    have hb4 : Below w3.heap.size w3 w4 := by rw [← hw4]; exact (Below.refl _ _).alloc (Nat.le_refl _) _
    have hA4 := at3_of (show w4.heap[w3.heap.size]? = some (.cells #[.int .i64 (c : Int), .int .i64 (p : Int), .string ⟨#[]⟩] 27) by rw [← hw4]; exact World.alloc_heap_new _ _)
    have hbC := ((hb1.trans (hb2.mono hs1)).trans (hb3.mono (by omega))).trans (hb4.mono (by omega))
    have hsC := hbC.size
    have htk4 := htk.below hb4 (Nat.le_refl _)
    rw [hw4]
    obtain ⟨x0, x1, x2, f0, f1, f2⟩ := hA4
    have hlen := tl_length s
    have HC := Lib.hid hcase
    clear hcase htk hb3 hb4 hb2 hw4
    cases hn : isName (tl s)
    · rw [hn] at cN
      rcases HC.out with ⟨hA, rfl, rfl⟩ | ⟨hA, rfl⟩
      · rcases htk4 with ⟨a, cap, rfl, rfl⟩ | ⟨g, cap, rfl, hg, hcp, hh⟩
        · clear hn
          go_wp2_with (first | (go_at_call 13; with_reducible refine (cW _).mono ?_; rintro e w' ⟨rfl, rfl⟩) | (go_at_call 14; with_reducible refine (cR _).mono ?_; rintro e w' ⟨rfl, rfl⟩) | (go_at_call 15; with_reducible refine (cN _).mono ?_; rintro e w7 ⟨rfl, hb7⟩))
          go_ret
          exact ⟨by cases isW (tl s) <;> rfl, hbC.trans (hb7.mono hsC)⟩
        · by_cases h2 : ts.length = 2
          · obtain ⟨P, Q, rfl⟩ : ∃ P Q, ts = [P, Q] := by
              match ts, h2 with
              | [P, Q], _ => exact ⟨P, Q, rfl⟩
            obtain ⟨g0, g1, _⟩ := tkV_get [P, Q] 0 (by simp)
            have q0 := hh _ _ g0
            have q1 := hh _ _ g1
            simp only [Nat.zero_mul, Nat.zero_add, List.getElem_cons_zero] at q0 q1
            obtain ⟨T, hT⟩ : ∃ T : ByteArray, ⟨P.2.1.toArray⟩ = T := ⟨_, rfl⟩
            rw [hT] at q1
            have htT : tl T = P.2.1 := by rw [← hT]; simp [tl]
            by_cases hk : P.1 = 1
            · have hne : ¬ P.2.1 = tl s := by
                intro e
                obtain ⟨h1, h3, h4⟩ := name_lex (tl s) _ hA P Q rfl hk e
                unfold isName at hn
                simp [h1, h3, h4] at hn
              have hcmp : (T.toList == s.toList) = false := by
                rw [ByteArray.toList_eq s, toL, decide_eq_false_iff_not, htT]
                exact hne
              rw [hk] at q0
              clear hn hne hT htT g0 g1 hh hk
              go_wp2_with (first | (go_at_call 13; with_reducible refine (cW _).mono ?_; rintro e w' ⟨rfl, rfl⟩) | (go_at_call 14; with_reducible refine (cR _).mono ?_; rintro e w' ⟨rfl, rfl⟩) | (go_at_call 15; with_reducible refine (cN _).mono ?_; rintro e w7 ⟨rfl, hb7⟩))
              go_ret
              exact ⟨by cases isW (tl s) <;> rfl, hbC.trans (hb7.mono hsC)⟩
            · have hk' : ((P.1 : Int) == 1) = false := by simp; omega
              clear hn hT htT g0 g1 hh hk
              go_wp2_with (first | (go_at_call 13; with_reducible refine (cW _).mono ?_; rintro e w' ⟨rfl, rfl⟩) | (go_at_call 14; with_reducible refine (cR _).mono ?_; rintro e w' ⟨rfl, rfl⟩) | (go_at_call 15; with_reducible refine (cN _).mono ?_; rintro e w7 ⟨rfl, hb7⟩))
              go_ret
              exact ⟨by cases isW (tl s) <;> rfl, hbC.trans (hb7.mono hsC)⟩
          · have h2' : ((ts.length : Int) == 2) = false := by simp; omega
            clear hn h2 hh
            go_wp2_with (first | (go_at_call 13; with_reducible refine (cW _).mono ?_; rintro e w' ⟨rfl, rfl⟩) | (go_at_call 14; with_reducible refine (cR _).mono ?_; rintro e w' ⟨rfl, rfl⟩) | (go_at_call 15; with_reducible refine (cN _).mono ?_; rintro e w7 ⟨rfl, hb7⟩))
            go_ret
            exact ⟨by cases isW (tl s) <;> rfl, hbC.trans (hb7.mono hsC)⟩
      · have hc0 := lexA_err hA
        have hc0' : ((c : Int) == 0) = false := by simp; omega
        clear hn hA htk4 hc0
        go_wp2_with (first | (go_at_call 13; with_reducible refine (cW _).mono ?_; rintro e w' ⟨rfl, rfl⟩) | (go_at_call 14; with_reducible refine (cR _).mono ?_; rintro e w' ⟨rfl, rfl⟩) | (go_at_call 15; with_reducible refine (cN _).mono ?_; rintro e w7 ⟨rfl, hb7⟩))
        go_ret
        exact ⟨by cases isW (tl s) <;> rfl, hbC.trans (hb7.mono hsC)⟩
    · rw [hn] at cN
      have hnn : tl s ≠ [] ∧ nameN (tl s) = (tl s).length ∧ isW (tl s) = false := by
        unfold isName at hn
        simpa [and_assoc] using hn
      have hlex := lex_name (tl s) hnn.2.1 hnn.1 (by omega)
      rw [hnn.2.2] at hlex
      obtain ⟨rfl, rfl⟩ : ts = [(1, tl s, 0), (0, [], (tl s).length)] ∧ c = 0 := by
        rcases HC.out with ⟨h1, h2, _⟩ | ⟨h1, _⟩
        · rw [hlex] at h1; cases h1; exact ⟨rfl, h2⟩
        · rw [hlex] at h1; cases h1
      rcases htk4 with ⟨a, cap, _, h⟩ | ⟨g, cap, rfl, hg, hcp, hh⟩
      · cases h
      · have q0 := hh 0 _ rfl
        have q1 : w4.cell? ⟨g, 1, none⟩ = some (.string s) := by
          have := hh 1 _ rfl
          rw [this]
          exact congrArg (fun x => some (Value.string x)) (mk_tl s).symm
        have hcp2 : 2 ≤ cap := hcp
        clear hn hnn hlex hh HC
        go_wp2_with (first | (go_at_call 13; with_reducible refine (cW _).mono ?_; rintro e w' ⟨rfl, rfl⟩) | (go_at_call 14; with_reducible refine (cR _).mono ?_; rintro e w' ⟨rfl, rfl⟩) | (go_at_call 15; with_reducible refine (cN _).mono ?_; rintro e w7 ⟨rfl, hb7⟩))
        go_ret
        exact ⟨by cases isW (tl s) <;> rfl, hbC.trans (hb7.mono hsC)⟩
end Go.Proofs.YtocepddgegnfaaaDoor
