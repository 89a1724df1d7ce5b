/- Of any bytes the tokens, or what is wrong and where, are the document's: the law returns true at every input. -/
import Derived.Test.YtocepddgegnfaaaDoorSame
namespace Go.Proofs.YtocepddgegnfaaaDoor
open Go Go.Proofs Go.RowKit

/-- How long the tokens are. -/
theorem lexR_len : ∀ (n : Nat) (l : List UInt8) (k : Nat) (ts : List Tk), l.length ≤ n → lexR l k = .ok ts → ts.length ≤ l.length + 1
  | 0, l, k, ts, h, hr => by
    obtain rfl : l = [] := List.length_eq_zero_iff.1 (by omega)
    rw [lexR_end [] k (by rw [skipN_nil]; rfl)] at hr
    cases hr
    simp
  | n + 1, l, k, ts, h, hr => by
    by_cases h0 : l.drop (skipN l) = []
    · rw [lexR_end _ _ h0] at hr
      cases hr
      simp
    · cases ht : tok (l.drop (skipN l)) with
      | none => rw [lexR_none _ _ h0 ht] at hr; cases hr
      | some x =>
        have hle := tok_le (t := x.1) (n := x.2) ht
        rw [List.length_drop] at hle
        rw [lexR_some _ _ x.1 x.2 ht] at hr
        cases hx : lexR (l.drop (skipN l + x.2)) (k + skipN l + x.2) with
        | error e => rw [hx] at hr; cases hr
        | ok ts' =>
          rw [hx] at hr
          cases hr
          have := lexR_len n _ _ ts' (by rw [List.length_drop]; omega) hx
          rw [List.length_drop] at this
          simp; omega
theorem lexA_len (l : List UInt8) (ts : List Tk) (h : lexA l = .ok ts) : ts.length ≤ l.length + 1 := by
  unfold lexA at h
  split at h
  · cases h
  · split at h
    · cases h
    · cases hx : lexR l 0 with
      | error e => rw [hx] at h; cases h
      | ok ts' =>
        rw [hx] at h
        cases h
        exact lexR_len l.length l 0 _ (Nat.le_refl _) hx

/-- What a lexer tells, in the callers' words. -/
theorem lexPost_tok {l : List UInt8} {w W : World} {e : Ending} (h : LexPost l w e W) :
    ∃ (v : Value) (c p : Nat) (ts : List Tk), e = .returned (.tuple #[v, .agg #[.int .i64 (c : Int), .int .i64 (p : Int), .string ⟨#[]⟩]]) ∧ TokAt W.heap.size W v ts ∧ Below w.heap.size w W ∧ ((lexA l = .ok ts ∧ c = 0 ∧ p = 0) ∨ (lexA l = .error (c, p) ∧ ts = [])) := by
  unfold LexPost at h
  cases hA : lexA l with
  | ok ts =>
    rw [hA] at h
    obtain ⟨⟨v, he, hrow⟩, hb⟩ := h
    exact ⟨v, 0, 0, ts, he, tokAt_row (row_base (B' := 0) (Nat.zero_le _) hrow), hb, .inl ⟨rfl, rfl, rfl⟩⟩
  | error x =>
    obtain ⟨c, p⟩ := x
    rw [hA] at h
    exact ⟨_, c, p, [], h.1, .inl ⟨none, 0, rfl, rfl⟩, h.2, .inr ⟨rfl, rfl⟩⟩

set_option maxRecDepth 100000 in
set_option maxHeartbeats 4000000 in
theorem reads_any (a0 : Option Addr) (len0 cap0 : Nat) (l : List UInt8) (w : World) (hE : Env w) (hl : l.length = len0) (hI : TextAt w.heap.size w (.slice a0 len0 cap0) l) :
    Calls Tryd.prog 4 #[.slice a0 len0 cap0] w fun e W' => e = .returned (.bool true) ∧ Below w.heap.size w W' := by
  subst hl
  have hsz := hE.size
  have kL : ∀ W, Below w.heap.size w W → Calls Tryd.prog 8 #[] W fun e W' => e = .returned (.bool true) ∧ Below w.heap.size w W' := fun W hW =>
    (lives_any W (hE.on hW)).mono fun e W' ⟨he, hb⟩ => ⟨he, hW.trans (hb.mono hW.size)⟩
  have hr0 := Below.refl w.heap.size w
  by_cases hlong : 500 < l.length
  · go_enter Tryd.func4, Tryd.ntmps4
    go_wp2_with (go_at_call 8; with_reducible refine (kL _ (by assumption)).mono ?_; rintro e w1 ⟨rfl, hb1⟩)
    go_ret
    exact ⟨rfl, by assumption⟩
  · go_enter Tryd.func4, Tryd.ntmps4
    go_wp2_with (first | (go_at_call 8; with_reducible refine (kL _ (by assumption)).mono ?_; rintro e w1 ⟨rfl, hb1⟩) | (at_builtin; refine wpList_append_text rfl _ _ rfl w1.heap.size _ 0 [] rfl (World.ownsRow_made w1 #[] 0 (Nat.le_refl _) (Nat.zero_le _) rfl) w.heap.size _ l rfl (hI.below (hb1.alloc hb1.size _)) ?rb ?rc ?_))
    case rb => omega
    case rc => simp
    intro v' W2 hown hg
    have hs1 := hb1.size
    have hb2 : Below w.heap.size w W2 := (hb1.alloc hs1 _).grown hg (by simp; omega) (by intro k hk; simp [Value.ownBlock] at hk; omega)
    have hs2 := hb2.size
    have htx : TextAt W2.heap.size W2 v' l := text_of_owns hown
    obtain ⟨a2, cap2, rfl⟩ : ∃ a2 cap2, v' = .slice a2 l.length cap2 := by
      rcases htx with ⟨a, cap, _, e, hl⟩ | ⟨b, off, cap, e, _⟩
      · exact ⟨a, cap, by rw [e, hl]; rfl⟩
      · exact ⟨_, cap, e⟩
    have cL := lex_any a2 l.length cap2 l W2 (hE.on hb2) rfl htx
    clear hown hg
    go_wp2_with fail
    with_reducible refine cL.mono ?_
    intro e w3 hpost
    obtain ⟨tv, c, p, ts, rfl, htk, hb3, hcase⟩ := lexPost_tok hpost
    clear cL hpost
    have hs3 := hb3.size
    go_upto_region 5 with fail
    obtain ⟨w4, hw4⟩ : ∃ w4, w3.alloc (.cells #[.int .i64 (c : Int), .int .i64 (p : Int), .string ⟨#[]⟩] 27) = w4 := ⟨_, rfl⟩
    have hb4 : Below w3.heap.size w3 w4 := by rw [← hw4]; exact (Below.refl _ _).alloc (Nat.le_refl _) _
    have hs4 : w4.heap.size = w3.heap.size + 1 := by rw [← hw4]; simp
    have hA4 := at3_of (show w4.heap[w3.heap.size]? = some (.cells #[.int .i64 (c : Int), .int .i64 (p : Int), .string ⟨#[]⟩] 27) by rw [← hw4]; exact World.alloc_heap_new _ _)
    have hbB := ((hb2.trans (hb3.mono hs2)).trans (hb4.mono (by omega)))
    have cR := rlex_any a0 l.length cap0 l w4 rfl (TextAt.more (by omega) (hI.below hbB))
    rw [hw4]
    go_wp2_with fail
    with_reducible refine cR.mono ?_
    intro e w5 hpost
    obtain ⟨tv', c', p', ts', rfl, htk', hb5, hcase'⟩ := lexPost_tok hpost
    clear cR hpost
    have hs5 := hb5.size
    obtain ⟨rfl, rfl, rfl⟩ : c' = c ∧ p' = p ∧ ts' = ts := by
      rcases hcase with ⟨h1, h2, h3⟩ | ⟨h1, h2⟩
      · rcases hcase' with ⟨k1, k2, k3⟩ | ⟨k1, k2⟩
        · rw [h1] at k1; cases k1; exact ⟨by omega, by omega, rfl⟩
        · rw [h1] at k1; cases k1
      · rcases hcase' with ⟨k1, k2, k3⟩ | ⟨k1, k2⟩
        · rw [h1] at k1; cases k1
        · rw [h1] at k1; cases k1; exact ⟨rfl, rfl, by rw [h2, k2]⟩
    have hts : ts'.length ≤ 1048577 := by
      rcases hcase with ⟨h1, _⟩ | ⟨_, h2⟩
      · have := lexA_len l ts' h1; omega
      · rw [h2]; simp
    clear hcase hcase'
    go_upto_region 6 with fail
    obtain ⟨w6, hw6⟩ : ∃ w6, w5.alloc (.cells #[.int .i64 (c' : Int), .int .i64 (p' : Int), .string ⟨#[]⟩] 27) = w6 := ⟨_, rfl⟩
    have hb6 : Below w5.heap.size w5 w6 := by rw [← hw6]; exact (Below.refl _ _).alloc (Nat.le_refl _) _
    have hs6 : w6.heap.size = w5.heap.size + 1 := by rw [← hw6]; simp
    have hA6 := at3_of (show w6.heap[w5.heap.size]? = some (.cells #[.int .i64 (c' : Int), .int .i64 (p' : Int), .string ⟨#[]⟩] 27) by rw [← hw6]; exact World.alloc_heap_new _ _)
    have hA46 := (hA4.below hb5 (by omega)).below hb6 (by omega)
    have hbC := hbB.trans ((hb5.trans (hb6.mono hs5)).mono (by omega))
    have cS := same_any tv tv' ts' w6 (TokAt.more ((((htk.below hb4 (Nat.le_refl _)).below hb5 (by omega)).below hb6 (by omega))) (by omega)) (TokAt.more (htk'.below hb6 (Nat.le_refl _)) (by omega)) hts
    obtain ⟨S, hS⟩ : ∃ S : ByteArray, ⟨l.toArray⟩ = S := ⟨_, rfl⟩
    have hcv : ∀ X, Below w6.heap.size w6 X → (convert 22 9 (.slice a2 l.length cap2)).run Tryd.prog X = .ok (.string S) X ∧ (convert 22 9 (.slice a0 l.length cap0)).run Tryd.prog X = .ok (.string S) X := fun X hX => by
      rw [← hS]
      have hb26 : Below W2.heap.size W2 X := ((hb3.trans (hb4.mono hs3)).trans ((hb5.trans (hb6.mono hs5)).mono (by omega))).trans (hX.mono (by omega))
      exact ⟨conv_text' (htx.below hb26), conv_text' (hI.below (hbC.trans (hX.mono (by omega))))⟩
    rw [hw6]
    obtain ⟨x0, x1, x2, f0, f1, f2⟩ := hA46
    obtain ⟨y0, y1, y2, g0, g1, g2⟩ := hA6
    go_wp2_with fail
    with_reducible refine cS.mono ?_
    rintro e w7 ⟨rfl, hb7⟩
    clear cS
    obtain ⟨k1, k2⟩ := hcv w7 hb7
    go_wp2_with fail
    go_ret
    exact ⟨rfl, hbC.trans (hb7.mono (by omega))⟩
end Go.Proofs.YtocepddgegnfaaaDoor
