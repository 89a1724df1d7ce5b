/- Tokens written with blanks between them are those tokens again, but for their places: the law returns true at every input. -/
import Derived.Test.YtocepddgegnfaaaDoorQuote
import Derived.Test.YtocepddgegnfaaaDoorBlanksLaw
namespace Go.Proofs.YtocepddgegnfaaaDoor
open Go Go.Proofs Go.RowKit

theorem quoteL_ge (v : List UInt8) : v.length ≤ (quoteL v).length := by
  induction v with
  | nil => simp [quoteL]
  | cons c r ih =>
    have : 1 ≤ (quoteB c).length := by
      unfold quoteB
      repeat' split
      all_goals simp
    rw [quoteL_cons, List.length_append, List.length_cons]
    omega
theorem writeL_ge (k : Nat) (v : List UInt8) : v.length ≤ (writeL k v).length := by
  have := quoteL_ge v
  unfold writeL
  split
  · simp
  · split
    · simp; omega
    · exact Nat.le_refl _
theorem text_next (ts : List Tk) (k : Nat) (h : k < ts.length) (hl : (textL ts).length ≤ 1501) :
    textL (ts.take (k + 1)) = textL (ts.take k) ++ (writeL (ts[k]'h).1 (ts[k]'h).2.1 ++ [32]) ∧ (textL (ts.take k)).length + (writeL (ts[k]'h).1 (ts[k]'h).2.1).length + 1 ≤ 1501 := by
  have e : textL (ts.take (k + 1)) = textL (ts.take k) ++ (writeL (ts[k]'h).1 (ts[k]'h).2.1 ++ [32]) := by
    rw [List.take_succ_eq_append_getElem h, textL_append]
    simp [textL]
  refine ⟨e, ?_⟩
  have h1 : textL ts = textL (ts.take (k + 1)) ++ textL (ts.drop (k + 1)) := by rw [← textL_append, List.take_append_drop]
  have h2 := congrArg List.length h1
  rw [e] at h2
  simp only [List.length_append, List.length_singleton] at h2
  omega
theorem lexR_ne : ∀ (n : Nat) (l : List UInt8) (k : Nat) (ts : List Tk), l.length ≤ n → lexR l k = .ok ts → ts = [] → False := by
  intro n l k ts _ hr he
  subst he
  by_cases h0 : l.drop (skipN l) = []
  · rw [lexR_end _ _ h0] at hr; cases hr
  · cases ht : tok (l.drop (skipN l)) with
    | none => rw [lexR_none _ _ h0 ht] at hr; cases hr
    | some x =>
      rw [lexR_some _ _ x.1 x.2 ht] at hr
      cases hx : lexR (l.drop (skipN l + x.2)) (k + skipN l + x.2) with
      | error e => rw [hx] at hr; cases hr
      | ok ts' => rw [hx] at hr; cases hr

set_option maxRecDepth 100000 in
set_option maxHeartbeats 4000000 in
theorem writes_any (a0 : Option Addr) (len0 cap0 : Nat) (l : List UInt8) (w : World) (hE : Env w) (hl : l.length = len0) (hI : TextAt w.heap.size w (.slice a0 len0 cap0) l) :
    Calls Tryd.prog 5 #[.slice a0 len0 cap0] w fun e W' => e = .returned (.bool true) ∧ Below w.heap.size w W' := by
  subst hl
  have hsz := hE.size
  have kL : ∀ W, Below w.heap.size w W → Calls Tryd.prog 8 #[] W fun e W' => e = .returned (.bool true) ∧ Below w.heap.size w W' := fun W hW =>
    (lives_any W (hE.on hW)).mono fun e W' ⟨he, hb⟩ => ⟨he, hW.trans (hb.mono hW.size)⟩
  have hr0 := Below.refl w.heap.size w
  by_cases hlong : 500 < l.length
  · go_enter Tryd.func5, Tryd.ntmps5
    go_wp2_with (go_at_call 8; with_reducible refine (kL _ (by assumption)).mono ?_; rintro e w1 ⟨rfl, hb1⟩)
    go_ret
    exact ⟨rfl, by assumption⟩
  · have kX : ∀ W, Below w.heap.size w W → Calls Tryd.prog 9 #[.slice a0 l.length cap0] W (LexPost l W) := fun W hW => lex_any a0 l.length cap0 l W (hE.on hW) rfl (TextAt.more hW.size (hI.below hW))
    go_enter Tryd.func5, Tryd.ntmps5
    go_wp2_with (go_at_call 8; with_reducible refine (kL _ (by assumption)).mono ?_; rintro e w1 ⟨rfl, hb1⟩)
    with_reducible refine (kX _ hb1).mono ?_
    intro e w3 hpost
    obtain ⟨tv, c, p, ts, rfl, htk, hb3, hcase⟩ := lexPost_tok hpost
    clear kX hpost
    have hs1 := hb1.size
    have hs3 := hb3.size
    go_upto_region 4 with fail
    obtain ⟨w4, hw4⟩ : ∃ w4, w3.alloc (.cells #[.int .i64 (c : Int), .int .i64 (p : Int), .string ⟨#[]⟩] 27) = w4 := ⟨_, rfl⟩
    have hb4 : Below w3.heap.size w3 w4 := by rw [← hw4]; exact (Below.refl _ _).alloc (Nat.le_refl _) _
    have hs4 : w4.heap.size = w3.heap.size + 1 := by rw [← hw4]; simp
    have hA4 := at3_of (show w4.heap[w3.heap.size]? = some (.cells #[.int .i64 (c : Int), .int .i64 (p : Int), .string ⟨#[]⟩] 27) by rw [← hw4]; exact World.alloc_heap_new _ _)
    have hbB := (hb1.trans (hb3.mono hs1)).trans (hb4.mono (by omega))
    have htk4 := htk.below hb4 (Nat.le_refl _)
    rw [hw4]
    obtain ⟨x0, x1, x2, f0, f1, f2⟩ := hA4
    clear hw4 htk hb3 hb4
    rcases hcase with ⟨hok, rfl, rfl⟩ | ⟨her, rfl⟩
    · have HW := Lib.hid (lex_written l ts (by omega) hok)
      have hln := lexA_len l _ hok
      have hne : ts ≠ [] := by
        intro e
        subst e
        unfold lexA at hok
        split at hok
        · cases hok
        · split at hok
          · cases hok
          · cases hx : lexR l 0 with
            | error e => rw [hx] at hok; cases hok
            | ok ts' =>
              rw [hx] at hok
              cases hok
              exact lexR_ne l.length l 0 [] (Nat.le_refl _) hx rfl
      clear hok
      rcases htk4 with ⟨_, _, _, h⟩ | ⟨g, cap, rfl, hg, hcp, hh⟩
      · exact absurd h hne
      have H1 := Lib.hid hh
      clear hh
      simp only [Int.natCast_zero] at x0 x1 ⊢
      have kc := fun (w : World) (s : ByteArray) => Lib.run_convert_string_bytes (P := Tryd.prog) w 9 22 5 s Tryd.underlying9 Tryd.underlying22 Tryd.underlying5
      go_wp2_with fail
      go_loopw [5, 7, 32] (fun t _ i wr => ∃ (k : Nat) (S : ByteArray), k ≤ ts.length ∧ t = .string S ∧ S.size ≤ 1501 ∧ i = .int .i64 k ∧ Hid (tl S = textL (ts.take k)) ∧ Below w4.heap.size w4 wr) (fun _ _ i _ => ts.length - (intOf i).toNat)
      case atStart => exact ⟨0, ⟨#[]⟩, Nat.zero_le _, rfl, Nat.zero_le _, rfl, Lib.hid rfl, Below.refl _ _⟩
      case round =>
        obtain ⟨k, S, hk, rfl, hS, rfl, HS, hB⟩ := hrel
        have hBs := hB.size
        by_cases hlt : k < ts.length
        · obtain ⟨g0, g1, g2⟩ := tkV_get ts k hlt
          obtain ⟨n1, n2⟩ := text_next ts k hlt HW.out.2
          have p0 := (hB.cell (p := ⟨g, k * 3, none⟩) (by dsimp only; omega)).trans (H1.out _ _ g0)
          have p1 := (hB.cell (p := ⟨g, k * 3 + 1, none⟩) (by dsimp only; omega)).trans (H1.out _ _ g1)
          have p2 := (hB.cell (p := ⟨g, k * 3 + 2, none⟩) (by dsimp only; omega)).trans (H1.out _ _ g2)
          obtain ⟨x, hx⟩ : ∃ x, ts[k] = x := ⟨_, rfl⟩
          rw [hx] at p0 p1 p2 n1 n2
          have hge := writeL_ge x.1 x.2.1
          obtain ⟨T, hT⟩ : ∃ T : ByteArray, ⟨x.2.1.toArray⟩ = T := ⟨_, rfl⟩
          have htT : tl T = x.2.1 := by rw [← hT]; simp [tl]
          have hTs : T.size = x.2.1.length := by rw [← tl_length, htT]
          rw [hT] at p1
          obtain ⟨U, hU⟩ : ∃ U : ByteArray, ⟨(writeL x.1 x.2.1).toArray⟩ = U := ⟨_, rfl⟩
          have htU : tl U = writeL x.1 x.2.1 := by rw [← hU]; simp [tl]
          have hUs : U.size ≤ 1500 := by rw [← tl_length, htU]; omega
          have HN : Hid (tl (S ++ (U ++ ⟨#[32]⟩)) = textL (ts.take (k + 1)) ∧ (S ++ (U ++ ⟨#[32]⟩)).size ≤ 1501) := Lib.hid (by
            have h1 : tl (S ++ (U ++ ⟨#[32]⟩)) = textL (ts.take (k + 1)) := by
              rw [tl_append, tl_append, htU, HS.out, n1]; rfl
            refine ⟨h1, ?_⟩
            rw [← tl_length, h1, n1]
            simp only [List.length_append, List.length_singleton]
            omega)
          have cT := fun W => write_any x.1 x.2.2 T (by omega) W
          rw [htT, hU] at cT
          clear g0 g1 g2 n1 n2 hx hge hT htT hTs hU htU kc
          go_wp2_with (go_at_call 12; with_reducible refine (cT _).mono ?_; rintro e w' ⟨rfl, hbT⟩)
          go_roundw
          case rel => exact ⟨k + 1, _, by omega, rfl, HN.out.2, by go_num, Lib.hid HN.out.1, (hB.alloc hBs _).trans (hbT.mono (by simp; omega))⟩
          case measure => simp [intOf]; omega
        · obtain rfl : k = ts.length := by omega
          have htS : tl S = textL ts := by rw [HS.out, List.take_length]
          obtain ⟨⟨us, hus, hkt⟩, _⟩ := HW.out
          have hul : us.length = ts.length := by simpa using congrArg List.length hkt
          have HK := Lib.hid (fun (k : Nat) (h : k < ts.length) (h' : k < us.length) => (by
            have h1 : (us.map kt)[k]'(by simpa using h') = (ts.map kt)[k]'(by simpa using h) := by simp only [hkt]
            rw [List.getElem_map, List.getElem_map] at h1
            exact ⟨congrArg (fun y : Nat × List UInt8 => y.1) h1, congrArg (fun y : Nat × List UInt8 => y.2) h1⟩ : (us[k]'h').1 = (ts[k]'h).1 ∧ (us[k]'h').2.1 = (ts[k]'h).2.1))
          have hbW : Below wr.heap.size wr (Lib.bytesWorld wr 5 S) := Go.Joins.below_bytesWorld _ _ _ _ (Nat.le_refl _)
          have hsW : (Lib.bytesWorld wr 5 S).heap.size = wr.heap.size + 1 := Lib.bytesWorld_size _ _ _
          have hbD := hbB.trans (hB.mono hbB.size)
          have hsD := hbD.size
          have cU := lex_any (some ⟨wr.heap.size, 0, none⟩) S.size (grownCap wr S.size 0 5) (tl S) (Lib.bytesWorld wr 5 S) (hE.on (hbD.trans (hbW.mono hsD))) (tl_length S) (by rw [hsW]; exact text_bytes wr S)
          rw [htS] at cU
          clear hkt htS HS HW
          go_wp2_with fail
          with_reducible refine cU.mono ?_
          intro e w5 hpost
          obtain ⟨tv', c', p', us', rfl, htk', hb5, hcase'⟩ := lexPost_tok hpost
          obtain ⟨rfl, rfl, rfl⟩ : us' = us ∧ c' = 0 ∧ p' = 0 := by
            rcases hcase' with ⟨h1, h2, h3⟩ | ⟨h1, _⟩
            · rw [hus] at h1; cases h1; exact ⟨rfl, h2, h3⟩
            · rw [hus] at h1; cases h1
          clear cU hpost kc hus hcase'
          have hs5 := hb5.size
          go_upto_region 13 with fail
          obtain ⟨w6, hw6⟩ : ∃ w6, w5.alloc (.cells #[.int .i64 ((0 : Nat) : Int), .int .i64 ((0 : Nat) : Int), .string ⟨#[]⟩] 27) = w6 := ⟨_, rfl⟩
          have hb6 : Below w5.heap.size w5 w6 := by rw [← hw6]; exact (Below.refl _ _).alloc (Nat.le_refl _) _
          have hs6 : w6.heap.size = w5.heap.size + 1 := by rw [← hw6]; simp
          have hA6 := at3_of (show w6.heap[w5.heap.size]? = some (.cells #[.int .i64 ((0 : Nat) : Int), .int .i64 ((0 : Nat) : Int), .string ⟨#[]⟩] 27) by rw [← hw6]; exact World.alloc_heap_new _ _)
          have hbE : Below wr.heap.size wr w6 := (hbW.trans (hb5.mono (by omega))).trans (hb6.mono (by omega))
          have hbF : Below w4.heap.size w4 w6 := hB.trans (hbE.mono hB.size)
          have hbC := hbB.trans (hbF.mono hbB.size)
          have htk6 := htk'.below hb6 (Nat.le_refl _)
          try simp only [Int.natCast_zero] at hw6
          rw [hw6]
          obtain ⟨y0, y1, y2, g0, g1, g2⟩ := hA6
          have hsF := hbF.size
          clear htk' hb5 hb6 hw6 hbW hbE hsW hbD
          rcases htk6 with ⟨_, _, _, h⟩ | ⟨g', cap', rfl, hg', hcp', hh'⟩
          · subst h
            have : ts.length = 0 := by simpa using hul.symm
            exact absurd (List.length_eq_zero_iff.1 this) hne
          have H2 := Lib.hid hh'
          clear hh'
          rw [hul] at hcp' ⊢
          simp only [Int.natCast_zero] at y0 y1 ⊢
          have hul' := Lib.hid hul
          clear hul
          go_wp2_with fail
          go_loopw [10, 60] (fun _ i wl => ∃ k : Nat, k ≤ ts.length ∧ i = .int .i64 k ∧ Below w6.heap.size w6 wl) (fun _ i _ => ts.length - (intOf i).toNat)
          case atStart => exact ⟨0, Nat.zero_le _, rfl, Below.refl _ _⟩
          case round =>
            obtain ⟨k, hk, rfl, hL⟩ := hrel
            have hbL := hbF.trans (hL.mono hbF.size)
            by_cases hlt : k < ts.length
            · obtain ⟨g0, g1, g2⟩ := tkV_get ts k hlt
              have hlt' : k < us'.length := by rw [hul'.out]; exact hlt
              obtain ⟨i0, i1, i2⟩ := tkV_get us' k hlt'
              obtain ⟨e0, e1⟩ := HK.out k hlt hlt'
              rw [e0] at i0
              rw [e1] at i1
              have p0 := (hbL.cell (p := ⟨g, k * 3, none⟩) (by dsimp only; omega)).trans (H1.out _ _ g0)
              have p1 := (hbL.cell (p := ⟨g, k * 3 + 1, none⟩) (by dsimp only; omega)).trans (H1.out _ _ g1)
              have q0 := (hL.cell (p := ⟨g', k * 3, none⟩) (by dsimp only; omega)).trans (H2.out _ _ i0)
              have q1 := (hL.cell (p := ⟨g', k * 3 + 1, none⟩) (by dsimp only; omega)).trans (H2.out _ _ i1)
              obtain ⟨x, hx⟩ : ∃ x, ts[k] = x := ⟨_, rfl⟩
              rw [hx] at p0 p1 q0 q1
              clear g0 g1 g2 i0 i1 i2 e0 e1 hx hlt'
              go_wp2_with fail
              go_quiet (fail)
              go_wp2_with fail
              go_roundw
              case rel => exact ⟨k + 1, by omega, by go_num, hL.trans ((drewN_below _ _).mono hL.size)⟩
              case measure => simp [intOf]; omega
            · go_wp2_with fail
              go_ret
              exact ⟨rfl, hbC.trans (hL.mono (by omega))⟩
    · have hc0 := lexA_err her
      have hc0' : ((c : Int) == 0) = false := by simp; omega
      clear her hc0
      rcases htk4 with ⟨_, _, rfl, _⟩ | ⟨_, _, rfl, _, _, _⟩
      all_goals
        go_wp2_with fail
        go_ret
        exact ⟨rfl, hbB⟩
end Go.Proofs.YtocepddgegnfaaaDoor
