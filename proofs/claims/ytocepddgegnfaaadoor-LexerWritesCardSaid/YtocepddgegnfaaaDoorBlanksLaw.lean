/- Blanks and notes about a text change its tokens not, but for their places: the law returns true at every input. -/
import Derived.Test.YtocepddgegnfaaaDoorNamesLaw
import Derived.Test.YtocepddgegnfaaaDoorBlank

namespace Go.Proofs.YtocepddgegnfaaaDoor
open Go Go.Proofs Go.RowKit

/-- Where the tokens are. -/
theorem lexR_place : ∀ (n : Nat) (l : List UInt8) (k : Nat) (ts : List Tk), l.length ≤ n → lexR l k = .ok ts → ∀ x ∈ ts, x.2.2 ≤ k + l.length
  | 0, l, k, ts, h, hr => by
    obtain rfl : l = [] := List.length_eq_zero_iff.1 (by omega)
    rw [lexR_end [] k (by rw [skipN_nil]; rfl)] at hr
    cases hr
    simp [skipN_nil]
  | n + 1, l, k, ts, h, hr => by
    have hsk := skipN_le l.length l (Nat.le_refl _)
    by_cases h0 : l.drop (skipN l) = []
    · rw [lexR_end _ _ h0] at hr
      cases hr
      intro x hx
      rw [List.mem_singleton] at hx
      subst hx
      dsimp only
      omega
    · cases ht : tok (l.drop (skipN l)) with
      | none => rw [lexR_none _ _ h0 ht] at hr; cases hr
      | some x =>
        have hle := tok_le (t := x.1) (n := x.2) ht
        rw [List.length_drop] at hle
        rw [lexR_some _ _ x.1 x.2 ht] at hr
        cases hx : lexR (l.drop (skipN l + x.2)) (k + skipN l + x.2) with
        | error e => rw [hx] at hr; cases hr
        | ok ts' =>
          rw [hx] at hr
          cases hr
          intro q hq
          rcases List.mem_cons.1 hq with rfl | hq
          · dsimp only; omega
          · have := lexR_place n _ _ ts' (by rw [List.length_drop]; omega) hx q hq
            rw [List.length_drop] at this
            omega
theorem lexR_wrong : ∀ (n : Nat) (l : List UInt8) (k p : Nat), l.length ≤ n → lexR l k = .error p → p ≤ k + l.length
  | 0, l, k, p, h, hr => by
    obtain rfl : l = [] := List.length_eq_zero_iff.1 (by omega)
    rw [lexR_end [] k (by rw [skipN_nil]; rfl)] at hr
    cases hr
  | n + 1, l, k, p, h, hr => by
    have hsk := skipN_le l.length l (Nat.le_refl _)
    by_cases h0 : l.drop (skipN l) = []
    · rw [lexR_end _ _ h0] at hr
      cases hr
    · cases ht : tok (l.drop (skipN l)) with
      | none => rw [lexR_none _ _ h0 ht] at hr; cases hr; omega
      | some x =>
        have hle := tok_le (t := x.1) (n := x.2) ht
        rw [List.length_drop] at hle
        rw [lexR_some _ _ x.1 x.2 ht] at hr
        cases hx : lexR (l.drop (skipN l + x.2)) (k + skipN l + x.2) with
        | ok e => rw [hx] at hr; cases hr
        | error p' =>
          rw [hx] at hr
          cases hr
          have := lexR_wrong n _ _ _ (by rw [List.length_drop]; omega) hx
          rw [List.length_drop] at this
          omega
theorem lexA_wrong (l : List UInt8) (c p : Nat) (h : lexA l = .error (c, p)) : p ≤ l.length := by
  unfold lexA at h
  split at h
  · cases h; omega
  · split at h
    · cases h; omega
    · cases hx : lexR l 0 with
      | error e =>
        rw [hx] at h
        cases h
        have := lexR_wrong l.length l 0 _ (Nat.le_refl _) hx
        rwa [Nat.zero_add] at this
      | ok ts' => rw [hx] at h; cases h
theorem lexA_place (l : List UInt8) (ts : List Tk) (h : lexA l = .ok ts) : ∀ x ∈ ts, x.2.2 ≤ l.length := by
  unfold lexA at h
  split at h
  · cases h
  · split at h
    · cases h
    · cases hx : lexR l 0 with
      | error e => rw [hx] at h; cases h
      | ok ts' =>
        rw [hx] at h
        cases h
        have := lexR_place l.length l 0 _ (Nat.le_refl _) hx
        rwa [Nat.zero_add] at this

set_option maxRecDepth 100000 in
set_option maxHeartbeats 4000000 in
theorem blanks_law_any (a0 : Option Addr) (len0 cap0 : Nat) (l : List UInt8) (w : World) (hE : Env w) (hl : l.length = len0) (hI : TextAt w.heap.size w (.slice a0 len0 cap0) l) :
    Calls Tryd.prog 3 #[.slice a0 len0 cap0] w fun e W' => e = .returned (.bool true) ∧ Below w.heap.size w W' := by
  subst hl
  have hsz := hE.size
  have kL : ∀ W, Below w.heap.size w W → Calls Tryd.prog 8 #[] W fun e W' => e = .returned (.bool true) ∧ Below w.heap.size w W' := fun W hW =>
    (lives_any W (hE.on hW)).mono fun e W' ⟨he, hb⟩ => ⟨he, hW.trans (hb.mono hW.size)⟩
  have hr0 := Below.refl w.heap.size w
  by_cases hlong : 400 < l.length
  · go_enter Tryd.func3, Tryd.ntmps3
    go_wp2_with (go_at_call 8; with_reducible refine (kL _ (by assumption)).mono ?_; rintro e w1 ⟨rfl, hb1⟩)
    go_ret
    exact ⟨rfl, by assumption⟩
  · have kc := fun (w : World) (s : ByteArray) => Lib.run_convert_string_bytes (P := Tryd.prog) w 9 22 5 s Tryd.underlying9 Tryd.underlying22 Tryd.underlying5
    have kX : ∀ W, Below w.heap.size w W → Calls Tryd.prog 9 #[.slice a0 l.length cap0] W (LexPost l W) := fun W hW => lex_any a0 l.length cap0 l W (hE.on hW) rfl (TextAt.more hW.size (hI.below hW))
    go_enter Tryd.func3, Tryd.ntmps3
    go_wp2_with (first | (go_at_call 8; with_reducible refine (kL _ (by assumption)).mono ?_; rintro e w1 ⟨rfl, hb1⟩) | (go_at_call 9; with_reducible refine (kX _ (by assumption)).mono ?_; intro e w3 hpost; obtain ⟨tv, c, p, ts, rfl, htk, hb3, hcase⟩ := lexPost_tok hpost))
    clear kX hpost
    have hs1 := hb1.size
    have hs3 := hb3.size
    go_upto_region 4 with fail
    obtain ⟨w4, hw4⟩ : ∃ w4, w3.alloc (.cells #[.int .i64 (c : Int), .int .i64 (p : Int), .string ⟨#[]⟩] 27) = w4 := ⟨_, rfl⟩
    have hb4 : Below w3.heap.size w3 w4 := by rw [← hw4]; exact (Below.refl _ _).alloc (Nat.le_refl _) _
    have hs4 : w4.heap.size = w3.heap.size + 1 := by rw [← hw4]; simp
    have hA4 := at3_of (show w4.heap[w3.heap.size]? = some (.cells #[.int .i64 (c : Int), .int .i64 (p : Int), .string ⟨#[]⟩] 27) by rw [← hw4]; exact World.alloc_heap_new _ _)
    have hbB := (hb1.trans (hb3.mono hs1)).trans (hb4.mono (by omega))
    obtain ⟨S, hS⟩ : ∃ S : ByteArray, ⟨l.toArray⟩ = S := ⟨_, rfl⟩
    have hcv := conv_text' (hI.below hbB)
    rw [hS] at hcv
    have htl : tl S = l := by rw [← hS]; simp [tl]
    have hss : S.size = l.length := by rw [← tl_length, htl]
    have hz0 : S.size ≤ 400 := by omega
    obtain ⟨U, hU⟩ : ∃ U : ByteArray, (⟨#[9, 32, 47, 47, 32, 110, 111, 116, 101, 10]⟩ : ByteArray) ++ S ++ ⟨#[10, 32, 13, 47, 47, 32, 34, 63]⟩ = U := ⟨_, rfl⟩
    have htU : tl U = aheadL ++ l ++ behindL := by rw [← hU, tl_append, tl_append, htl]; rfl
    have hUs : U.size = 10 + l.length + 8 := by rw [← tl_length, htU]; simp [aheadL, behindL]; omega
    have hbU : Below w4.heap.size w4 (Lib.bytesWorld w4 5 U) := Go.Joins.below_bytesWorld _ _ _ _ (Nat.le_refl _)
    have hsU : (Lib.bytesWorld w4 5 U).heap.size = w4.heap.size + 1 := Lib.bytesWorld_size _ _ _
    have hsB := hbB.size
    have cU := lex_any (some ⟨w4.heap.size, 0, none⟩) U.size (grownCap w4 U.size 0 5) (tl U) (Lib.bytesWorld w4 5 U) (hE.on (hbB.trans (hbU.mono hsB))) (tl_length U) (by rw [hsU]; exact text_bytes w4 U)
    rw [hUs, hs4, htU] at cU
    rw [hw4, hcv]
    have HAB := Lib.hid (lex_about l (by omega))
    clear hcv hw4 hE hI htU
    go_wp2_with fail

    with_reducible refine cU.mono ?_
    intro e w5 hpost
    obtain ⟨tv', c', p', us, rfl, htk', hb5, hcase'⟩ := lexPost_tok hpost
    clear cU hpost kc
    have hs5 := hb5.size
    go_upto_region 6 with fail
    obtain ⟨w6, hw6⟩ : ∃ w6, w5.alloc (.cells #[.int .i64 (c' : Int), .int .i64 (p' : Int), .string ⟨#[]⟩] 27) = w6 := ⟨_, rfl⟩
    have hb6 : Below w5.heap.size w5 w6 := by rw [← hw6]; exact (Below.refl _ _).alloc (Nat.le_refl _) _
    have hs6 : w6.heap.size = w5.heap.size + 1 := by rw [← hw6]; simp
    have hA6 := at3_of (show w6.heap[w5.heap.size]? = some (.cells #[.int .i64 (c' : Int), .int .i64 (p' : Int), .string ⟨#[]⟩] 27) by rw [← hw6]; exact World.alloc_heap_new _ _)
    have hbE : Below w4.heap.size w4 w6 := (hbU.trans (hb5.mono (by omega))).trans (hb6.mono (by omega))
    have hA46 := hA4.below hbE (by omega)
    have hbC := hbB.trans (hbE.mono (by omega))
    have htk6 := (htk.below hb4 (Nat.le_refl _)).below hbE (by omega)
    have htk6' := htk'.below hb6 (Nat.le_refl _)
    rw [hw6]
    obtain ⟨x0, x1, x2, f0, f1, f2⟩ := hA46
    obtain ⟨y0, y1, y2, g0, g1, g2⟩ := hA6
    clear htk htk' hb5 hb6 hw6 hbU hbB hb3 hb4 hA4 hbE
    rcases hcase with ⟨hok, rfl, rfl⟩ | ⟨her, rfl⟩
    · have hab := HAB.out
      rw [hok] at hab
      obtain ⟨a, y, z, rfl, hab⟩ := hab
      rw [hab] at hcase'
      obtain ⟨rfl, rfl, rfl⟩ : us = a.map (fun x => (x.1, x.2.1, x.2.2 + 10)) ++ [z] ∧ c' = 0 ∧ p' = 0 := by
        rcases hcase' with ⟨h1, h2, h3⟩ | ⟨h1, _⟩
        · cases h1; exact ⟨rfl, h2, h3⟩
        · cases h1
      have hpl := lexA_place l _ hok
      have hln := lexA_len l _ hok
      clear HAB hok hab hcase'
      rcases htk6 with ⟨_, _, _, h⟩ | ⟨g, cap, rfl, hg, hcp, hh⟩
      · exact absurd h (by simp)
      rcases htk6' with ⟨_, _, _, h⟩ | ⟨g', cap', rfl, hg', hcp', hh'⟩
      · exact absurd h (by simp)
      have H1 := Lib.hid hh
      have H2 := Lib.hid hh'
      clear hh hh'
      simp only [List.length_append, List.length_map, List.length_singleton] at hcp hcp' hln ⊢
      have G1 : Hid (∀ (k : Nat) (h : k < a.length), (tkV (a ++ [y]))[k * 3]? = some (.int .i64 ((a[k]'h).1 : Int)) ∧ (tkV (a ++ [y]))[k * 3 + 1]? = some (.string ⟨(a[k]'h).2.1.toArray⟩) ∧ (tkV (a ++ [y]))[k * 3 + 2]? = some (.int .i64 ((a[k]'h).2.2 : Int))) := Lib.hid fun k h => by
        have := tkV_get (a ++ [y]) k (by simp; omega)
        rwa [List.getElem_append_left h] at this
      have G2 : Hid (∀ (k : Nat) (h : k < a.length), (tkV (a.map (fun x => (x.1, x.2.1, x.2.2 + 10)) ++ [z]))[k * 3]? = some (.int .i64 ((a[k]'h).1 : Int)) ∧ (tkV (a.map (fun x => (x.1, x.2.1, x.2.2 + 10)) ++ [z]))[k * 3 + 1]? = some (.string ⟨(a[k]'h).2.1.toArray⟩) ∧ (tkV (a.map (fun x => (x.1, x.2.1, x.2.2 + 10)) ++ [z]))[k * 3 + 2]? = some (.int .i64 ((a[k]'h).2.2 + 10 : Int))) := Lib.hid fun k h => by
        have := tkV_get (a.map (fun x => (x.1, x.2.1, x.2.2 + 10)) ++ [z]) k (by simp; omega)
        rwa [List.getElem_append_left (by simpa using h), List.getElem_map] at this
      have HP := Lib.hid fun (k : Nat) (h : k < a.length) => hpl (a[k]'h) (List.mem_append_left _ (List.getElem_mem h))
      clear hpl
      go_wp2_with fail
      go_loopw [8, 71] (fun _ i wr => ∃ k : Nat, k ≤ a.length ∧ i = .int .i64 k ∧ Below w6.heap.size w6 wr) (fun _ i _ => a.length - (intOf i).toNat)
      case atStart => exact ⟨0, Nat.zero_le _, rfl, Below.refl _ _⟩
      case round =>
        obtain ⟨k, hk, rfl, hB⟩ := hrel
        by_cases hlt : k < a.length
        · obtain ⟨g0, g1, g2'⟩ := G1.out k hlt
          obtain ⟨i0, i1, i2⟩ := G2.out k hlt
          have p0 := (hB.cell (p := ⟨g, k * 3, none⟩) (by dsimp only; omega)).trans (H1.out _ _ g0)
          have p1 := (hB.cell (p := ⟨g, k * 3 + 1, none⟩) (by dsimp only; omega)).trans (H1.out _ _ g1)
          have p2 := (hB.cell (p := ⟨g, k * 3 + 2, none⟩) (by dsimp only; omega)).trans (H1.out _ _ g2')
          have q0 := (hB.cell (p := ⟨g', k * 3, none⟩) (by dsimp only; omega)).trans (H2.out _ _ i0)
          have q1 := (hB.cell (p := ⟨g', k * 3 + 1, none⟩) (by dsimp only; omega)).trans (H2.out _ _ i1)
          have q2 := (hB.cell (p := ⟨g', k * 3 + 2, none⟩) (by dsimp only; omega)).trans (H2.out _ _ i2)
          have hx2 := HP.out k hlt
          obtain ⟨x, hx⟩ : ∃ x, a[k] = x := ⟨_, rfl⟩
          rw [hx] at p0 p1 p2 q0 q1 q2 hx2
          clear g0 g1 g2' i0 i1 i2 hx
          go_wp2_with fail
          go_quiet (fail)
          go_wp2_with fail
          go_roundw
          case rel => exact ⟨k + 1, by omega, by go_num, hB.trans ((drewN_below _ _).mono hB.size)⟩
          case measure => simp [intOf]; omega
        · go_wp2_with fail
          go_ret
          exact ⟨rfl, hbC.trans (hB.mono (by omega))⟩
    · have hab := HAB.out
      rw [her] at hab
      obtain ⟨q1, q2, hab⟩ := hab
      rw [hab] at hcase'
      obtain ⟨rfl, rfl, rfl⟩ : q1 = c' ∧ q2 = p' ∧ us = [] := by
        rcases hcase' with ⟨h1, h2, h3⟩ | ⟨h1, h2⟩
        · cases h1
        · cases h1; exact ⟨rfl, rfl, h2⟩
      have hpb := lexA_wrong l _ _ her
      have hpc := lexA_wrong _ _ _ hab
      have hlU : (aheadL ++ l ++ behindL).length ≤ 418 := by simp [aheadL, behindL]; omega
      have hpc' : q2 ≤ 418 := by omega
      have hc0 := lexA_err her
      have hc1 := lexA_err hab
      have hc0' : ((c : Int) == 0) = false := by simp; omega
      have hc1' : ((q1 : Int) == 0) = false := by simp; omega
      clear HAB hab her hcase' hc0 hc1 hpc hlU
      go_wp2_with fail
      all_goals
        go_ret
        exact ⟨by first | rfl | simp [bne, hc1'], hbC⟩
end Go.Proofs.YtocepddgegnfaaaDoor
