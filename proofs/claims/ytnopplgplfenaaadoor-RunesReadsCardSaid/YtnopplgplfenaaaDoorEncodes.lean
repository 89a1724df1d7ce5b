/- Any sign's bytes are the document's, and are read again; what is none has no bytes: the law returns true at every input. -/
import Derived.Test.YtnopplgplfenaaaDoorEnc
namespace Go.Proofs.YtnopplgplfenaaaDoor
open Go Go.Proofs Go.RowKit Go.Shelf

attribute [local go_sem] Oper.semAt_some

theorem D_encB (r : Int) (h : isSign r) : D (encB r) = (r.toNat, (encB r).length) := by
  obtain ⟨h0, h1, h2⟩ := h
  by_cases c1 : r ≤ 127
  · unfold encB; rw [Lib.encodeRuneZ_one h0 c1]
    unfold D Lib.decodeN
    simp
    repeat' split
    all_goals first | (exfalso; omega) | (refine Prod.ext ?_ ?_ <;> dsimp only <;> omega) | skip
  by_cases c2 : r ≤ 2047
  · unfold encB; rw [Lib.encodeRuneZ_two (by omega) c2]
    unfold D Lib.decodeN
    simp
    repeat' split
    all_goals first | (exfalso; omega) | (refine Prod.ext ?_ ?_ <;> dsimp only <;> omega) | skip
  by_cases c3 : r ≤ 65535
  · unfold encB; rw [Lib.encodeRuneZ_three (by omega)]
    unfold D Lib.decodeN
    simp
    repeat' split
    all_goals first | (exfalso; omega) | (refine Prod.ext ?_ ?_ <;> dsimp only <;> omega) | skip
  · unfold encB; rw [Lib.encodeRuneZ_four (by omega) h1]
    unfold D Lib.decodeN
    simp
    repeat' split
    all_goals first | (exfalso; omega) | (refine Prod.ext ?_ ?_ <;> dsimp only <;> omega) | skip

theorem encB_length (r : Int) : 1 ≤ (encB r).length ∧ (encB r).length ≤ 4 := by
  have := Lib.encodeRuneZ_length r
  simpa [encB] using this
theorem encB_good (r : Int) (h : isSign r) : ¬ isBad (encB r) := by
  unfold isBad
  rw [D_encB r h]
  dsimp only
  rintro ⟨h1, h2⟩
  have hr : r = 65533 := by have := h.1; omega
  subst hr
  revert h2
  decide
theorem sg_encB (r : Int) (h : isSign r) : sg (encB r) 0 = [(0, r.toNat)] ∧ badOf (encB r) = -1 := by
  have hl := encB_length r
  have hg := encB_good r h
  have hd := D_encB r h
  have hdr : (encB r).drop (encB r).length = [] := List.drop_eq_nil_of_le (Nat.le_refl _)
  constructor
  · rw [sg_cons _ 0 (by omega) hg, hd]
    dsimp only
    rw [hdr, sg_nil [] _ rfl]
  · unfold badOf
    rw [bd_cons _ 0 (by omega) hg, hd]
    dsimp only
    rw [hdr, bd_nil [] _ rfl, if_pos (by omega)]

theorem string_of_text {n₀ : Nat} {W : World} {a : Option Addr} {n c : Nat} {l : List UInt8} (h0 : 0 < l.length) (h : TextAt n₀ W (.slice a n c) l) : (convert 22 9 (.slice a n c)).run Tryd.prog W = .ok (.string ⟨l.toArray⟩) W := by
  rcases h with ⟨_, _, _, _, rfl⟩ | ⟨b, off, cap, e, _, _, hh⟩
  · simp at h0
  · cases e
    refine run_convert_bytes_back W 22 9 5 ⟨b, off, none⟩ _ l Tryd.underlying22 Tryd.underlying5 Tryd.underlying9 (fun j hj => ?_)
    rw [add_none, hh j hj]
    simp [List.getD_eq_getElem?_getD, List.getElem?_eq_getElem hj]

theorem TextAt.own {n₀ : Nat} {A B : World} {row : Option Nat} {sv : Value} {l : List UInt8} (h : TextAt n₀ A sv l) (hg : A.grownBy B row) (hr : ∀ r, row = some r → ∃ o : Obj, A.heap[r]? = some o ∧ o.isCells = false) : TextAt n₀ B sv l := by
  rcases h with e | ⟨b, off, cap, e, hb, hc, hh⟩
  · exact .inl e
  · exact .inr ⟨b, off, cap, e, hb, hc, fun j hj => cell_kept (hh j hj) hg hr⟩

/-- Between two rounds: the boxes and the two texts. -/
def EI (N S P : Nat) (r : Int) (w : World) (sb sw : Value) (L : List UInt8) (pre : List (Sg N)) (W : World) : Prop :=
  (W.cell? ⟨S, 0, none⟩ = some (.int .i32 r) ∧ W.cell? ⟨S + 1, 0, none⟩ = some (.bool false) ∧ W.frozen? ⟨S + 1, 0, none⟩ = false ∧ W.cell? ⟨P + 1, 0, none⟩ = some (.int .i64 (pre.length : Nat)) ∧ W.frozen? ⟨P + 1, 0, none⟩ = false ∧ TextAt (P + 1) W sb L ∧ TextAt (P + 1) W sw L) ∧ Below S w W
theorem EI_own (N S P : Nat) (r : Int) (w : World) (sb sw : Value) (L : List UInt8) (B : Nat) (h1 : S ≤ w.heap.size) (h2 : S ≤ B) : OwnFrom B (EI N S P r w sb sw L) :=
  OwnFrom.and (Own.from (fun _ _ _ _ hs hg hr => ⟨cell_kept hs.1 hg hr, cell_kept hs.2.1 hg hr, (frozen_kept hs.2.1 hg hr).trans hs.2.2.1, cell_kept hs.2.2.2.1 hg hr, (frozen_kept hs.2.2.2.1 hg hr).trans hs.2.2.2.2.1, hs.2.2.2.2.2.1.own hg hr, hs.2.2.2.2.2.2.own hg hr⟩) _) (ownFrom_below h1 h2)

set_option maxRecDepth 100000 in
set_option maxHeartbeats 2000000 in
theorem encodes_any (r : Int) (w : World) (h2 : 2 ≤ w.heap.size) (hr1 : -2147483648 ≤ r) (hr2 : r ≤ 2147483647) (hT : Lib.Utf8Tabs 0 1 w) :
    Calls Tryd.prog 5 #[.int .i32 r] w fun e W' => e = .returned (.bool true) ∧ Below w.heap.size w W' := by
  obtain ⟨W0, hW0⟩ : ∃ W0, (w.alloc (.cells #[.int .i32 r] 21)).alloc (.cells #[.bool false] 4) = W0 := ⟨_, rfl⟩
  have hs0 : W0.heap.size = w.heap.size + 2 := by rw [← hW0]; simp
  have bR : Boxed W0 w.heap.size 21 (.int .i32 r) := by rw [← hW0]; exact (Boxed.new _ _ _).alloc _
  have bO : Boxed W0 (w.heap.size + 1) 4 (.bool false) := by
    rw [← hW0]
    have := Boxed.new (w.alloc (.cells #[.int .i32 r] 21)) 4 (.bool false)
    simpa using this
  have hBW0 : Below w.heap.size w W0 := by rw [← hW0]; exact ((Below.refl _ w).alloc (Nat.le_refl _) _).alloc (by simp) _
  have cells : ∀ W, Below W0.heap.size W0 W → W.cell? ⟨w.heap.size, 0, none⟩ = some (.int .i32 r) ∧ W.cell? ⟨w.heap.size + 1, 0, none⟩ = some (.bool false) ∧ W.frozen? ⟨w.heap.size + 1, 0, none⟩ = false := fun W h =>
    ⟨(h.cell (p := ⟨w.heap.size, 0, none⟩) (by simp; omega)).trans bR.cell, (h.cell (p := ⟨w.heap.size + 1, 0, none⟩) (by simp; omega)).trans bO.cell, (h.frozen (p := ⟨w.heap.size + 1, 0, none⟩) (by simp; omega)).trans bO.frozen⟩
  have kL : ∀ W, Below W0.heap.size W0 W → Calls Tryd.prog 8 #[] W fun e W' => e = .returned (.bool true) ∧ Below W0.heap.size W0 W' ∧ W'.cell? ⟨w.heap.size, 0, none⟩ = some (.int .i32 r) ∧ W'.cell? ⟨w.heap.size + 1, 0, none⟩ = some (.bool false) ∧ W'.frozen? ⟨w.heap.size + 1, 0, none⟩ = false := fun W hW =>
    (lives_any W (by have := hW.size; omega) (tabs_below h2 (hBW0.trans (hW.mono (by omega))) hT)).mono fun e W' ⟨he, hb⟩ => by
      have h := hW.trans (hb.mono hW.size)
      exact ⟨he, h, cells W' h⟩
  have hr0 := Below.refl W0.heap.size W0
  have HT := Lib.hid hT
  have HS0 := Lib.hid hs0
  have CE := Lib.hid cells
  clear hT hs0 bR bO cells
  by_cases hs : isSign r
  · have cE : ∀ W, Below W0.heap.size W0 W → Calls Tryd.prog 13 #[.int .i32 r] W fun e W' => (∃ a n c, e = .returned (.tuple #[.slice a n c, .int .i64 0]) ∧ TextAt W'.heap.size W' (.slice a n c) (encB r)) ∧ Below W0.heap.size W0 W' ∧ W'.cell? ⟨w.heap.size, 0, none⟩ = some (.int .i32 r) := fun W hW =>
      (encode_any r hr1 hr2 hs W).mono fun e W' ⟨he, hb⟩ => by
        have h := hW.trans (hb.mono hW.size)
        exact ⟨he, h, (CE.out W' h).1⟩
    have cR := refEnc_ok r hs
    unfold RefEnc at cR
    have hlen := encB_length r
    have hsg := sg_encB r hs
    have hrn : 0 ≤ r := hs.1
    obtain ⟨L, hL⟩ : ∃ L, encB r = L := ⟨_, rfl⟩
    rw [hL] at hlen hsg cE cR
    have HSG := Lib.hid hsg.1
    have HBD := Lib.hid hsg.2
    clear hL hs hsg
    refine (callsIn_wide (n := 9)).1 ?_
    refine callsIn_of_wp_marks Tryd.func5 rfl trivial ?_ rfl
    simp only [Tryd.ntmps5, List.size_toArray, List.length_cons, List.length_nil, Nat.reduceAdd, Nat.reduceSub, Array.replicate_succ, Array.replicate_zero, List.push_toArray, List.append_toArray, List.nil_append, List.cons_append]
    gi_wp2_with (first | (refine ⟨trivial, ?_⟩; gi_at_call 8; refine (callsIn_wide.2 (kL _ (by assumption))).mono ?_; rintro e w1 ⟨rfl, hb1, hc1, hc2, hf2⟩) | (refine ⟨trivial, ?_⟩; gi_at_call 13; refine (callsIn_wide.2 (cE _ (by assumption))).mono ?_; rintro e w2 ⟨⟨a, n, c, rfl, ht⟩, hb3, hc3⟩; have HTb := Lib.hid ht; clear ht) | (refine ⟨trivial, ?_⟩; gi_at_call 14; refine (callsIn_wide.2 (cR _)).mono ?_; rintro e w3 ⟨rfl, rfl⟩))
    have hs0 := HS0.out
    have hP := hb3.size
    obtain ⟨P, hPd⟩ : ∃ P, w2.heap.size = P := ⟨_, rfl⟩
    have hw2P := Lib.hid hPd
    rw [hPd] at hP ⊢
    obtain ⟨W3, hW3⟩ : ∃ W3, ((w2.alloc (.cells (cells8 L).toArray 5)).alloc (.cells #[.int .i64 0] 3)) = W3 := ⟨_, rfl⟩
    have hBW3 : Below W0.heap.size W0 W3 := by rw [← hW3]; exact (hb3.alloc hb3.size _).alloc (by have := hb3.size; simp; omega) _
    have hs3 : W3.heap.size = P + 2 := by rw [← hW3]; simp; omega
    have bN : Boxed W3 (P + 1) 3 (.int .i64 0) := by
      rw [← hW3, ← hPd]
      have := Boxed.new (w2.alloc (.cells (cells8 L).toArray 5)) 3 (.int .i64 0)
      simpa using this
    have hw23 : Below w2.heap.size w2 W3 := by rw [← hW3]; exact ((Below.refl _ w2).alloc (Nat.le_refl _) _).alloc (by simp) _
    have tb : TextAt (P + 1) W3 (.slice a n c) L := TextAt.more (by omega) (HTb.out.below hw23)
    have tw : TextAt (P + 1) W3 (.slice (some ⟨P, 0, none⟩) L.length L.length) L := by
      have h1 := text_new (P + 1) w2 L _ rfl (by omega)
      have h2 : Below (P + 1) (w2.alloc (.cells (cells8 L).toArray 5)) W3 := by rw [← hW3]; exact (Below.refl _ _).alloc (by simp; omega) _
      have := h1.below h2
      rwa [hPd] at this
    obtain ⟨x1, x2, x3⟩ := CE.out W3 hBW3
    have cAll := all_any a n c L (by omega) W3 (by omega) (TextAt.more (by omega) tb)
    rw [hW3]
    clear hW3 hPd hb1 hc1 hc2 hf2 hb3 hc3 HTb hw23 kL cE cR hr0
    refine ⟨trivial, (callsIn_wide.2 cAll).mono ?_⟩
    rintro e W4 ⟨Bs, b, sv, rfl, hsv, hti, hBs, hbl, hge, hgb, hB4⟩
    clear cAll
    gi_wp2
    have hBW4 : Below w.heap.size w W4 := hBW0.trans ((hBW3.mono (by omega)).trans (hB4.mono (by omega)))
    have hT4 := tabs_below h2 hBW4 HT.out
    have hs4 := hB4.size
    have y1 : W4.cell? ⟨w.heap.size, 0, none⟩ = some (.int .i32 r) := (hB4.cell (p := ⟨w.heap.size, 0, none⟩) (by simp; omega)).trans x1
    have y2 : W4.cell? ⟨w.heap.size + 1, 0, none⟩ = some (.bool false) := (hB4.cell (p := ⟨w.heap.size + 1, 0, none⟩) (by simp; omega)).trans x2
    have y3 : W4.frozen? ⟨w.heap.size + 1, 0, none⟩ = false := (hB4.frozen (p := ⟨w.heap.size + 1, 0, none⟩) (by simp; omega)).trans x3
    have y4 : W4.cell? ⟨P + 1, 0, none⟩ = some (.int .i64 (([] : List (Sg L.length)).length : Nat)) := (hB4.cell (p := ⟨P + 1, 0, none⟩) (by simp; omega)).trans bN.cell
    have y5 : W4.frozen? ⟨P + 1, 0, none⟩ = false := (hB4.frozen (p := ⟨P + 1, 0, none⟩) (by simp; omega)).trans bN.frozen
    have tb4 := tb.below (hB4.mono (by omega))
    have tw4 := tw.below (hB4.mono (by omega))
    clear x1 x2 x3 bN tb tw hBW3
    refine wpIn_rangeFunc_ownG rfl (by omega) (gf := 25) (lb := #[.pointer (some ⟨Bs, 0, none⟩)]) rfl trivial (enters_of Tryd.func25 (by kernel_rfl) rfl)
      (signs_stops 8 (by omega) Bs b sv L (by omega) W4 hBs (by omega) hbl hsv hti hT4) Kp.trans (Kp_put (by omega) hbl hBs) (Below.refl _ _) (fun _ => rfl)
      (EI L.length w.heap.size P r w (.slice a n c) (.slice (some ⟨P, 0, none⟩) L.length L.length) L)
      (fun c pre W => (c = .ret ∧ ∃ x ∈ pre, ¬ (x.1.1 = 0 ∧ (x.1.2 : Int) = r)) ∧ Below w.heap.size w W)
      (EI_own _ _ _ _ _ _ _ _ _ (Nat.le_refl _) (by omega))
      (fun c => OwnFrom.and (Own.from (fun s A B row hs hg hr => hs) _) (ownFrom_below (Nat.le_refl _) (by omega)))
      ⟨⟨y1, y2, y3, y4, y5, tb4, tw4⟩, hBW4⟩
      (fun y => { tmps := #[.int .i32 r, .pointer (some ⟨w.heap.size, 0, none⟩), .pointer (some ⟨w.heap.size + 1, 0, none⟩), .slice a n c, .int .i64 0, .slice (some ⟨P, 0, none⟩) L.length L.length, .bool true, .pointer (some ⟨P + 1, 0, none⟩), .int .i64 (y.1.1 : Int), .int .i32 (y.1.2 : Int), .bool true, .bool false, .tuple #[.slice a n c, .int .i64 0], .int .i32 r, .tuple #[.slice a n c, .int .i64 0], .slice a n c, .int .i64 0, .tuple #[.slice (some ⟨P, 0, none⟩) L.length L.length, .bool true], .int .i32 r, .int .i64 r, .tuple #[.slice (some ⟨P, 0, none⟩) L.length L.length, .bool true], .slice (some ⟨P, 0, none⟩) L.length L.length, .bool true, .bool true, .bool false, undef, undef, undef, undef, undef, undef, undef, .slice a n c, .func (.func 25) #[] #[.pointer (some ⟨Bs, 0, none⟩)], .int .i64 (y.1.1 : Int), .int .i32 (y.1.2 : Int), undef, undef, undef, undef, undef, undef, undef, undef, undef, undef, undef, undef, undef, undef, undef, undef, undef, undef, undef, undef, undef, undef, undef, undef, undef, undef, undef], defers := [] }) ?assign ?body ?done ?stop
    case assign =>
      intro ll y W K hK
      unfold encSg
      gi_wp2
      exact hK
    case body =>
      rintro ll pre ⟨⟨p, q⟩, hp, hq⟩ W ⟨⟨z1, z2, z3, z4, z5, tb5, tw5⟩, hB⟩ hpl
      dsimp only at hp hq ⊢
      have TB := Lib.hid tb5
      have TW := Lib.hid tw5
      clear tb5 tw5
      by_cases c1 : p = 0
      · by_cases c2 : (q : Int) = r
        · have c1' : ((p : Int) != 0) = false := by simp; omega
          have c2' : ((q : Int) != r) = false := by simp; omega
          have C2 := Lib.hid c2
          clear c1 c2
          gi_wp2
          refine ⟨(KeepsOthers.setCell _ _ _).from _, Kp_set (by omega) (by omega) (by omega) _ _, ⟨⟨(cell_set_ne (by omega) _).trans z1, (cell_set_ne (by omega) _).trans z2, by rw [World.frozen?_setCell]; exact z3, ?_, by rw [World.frozen?_setCell]; exact z5, ?_, ?_⟩, hB.setCell (p := ⟨P + 1, 0, none⟩) (by simp; omega) _⟩⟩
          · have := cell_set_eq z4 (.int .i64 ((pre.length + 1 : Nat) : Int))
            simpa using this
          · exact TB.out.below ((Below.refl (P + 1) W).setCell (p := ⟨P + 1, 0, none⟩) (Nat.le_refl _) _)
          · exact TW.out.below ((Below.refl (P + 1) W).setCell (p := ⟨P + 1, 0, none⟩) (Nat.le_refl _) _)
        · have c1' : ((p : Int) != 0) = false := by simp; omega
          have c2' : ((q : Int) != r) = true := by simpa using c2
          have C2 := Lib.hid c2
          clear c1 c2
          gi_wp2
          exact ⟨(KeepsOthers.setCell _ _ _).from _, ⟨rfl, _, List.mem_append_right _ (List.mem_singleton.2 rfl), fun h => C2.out h.2⟩, hB.setCell (p := ⟨w.heap.size + 1, 0, none⟩) (by simp) _⟩
      · have c1' : ((p : Int) != 0) = true := by simp; omega
        have C1 := Lib.hid c1
        clear c1
        gi_wp2
        exact ⟨(KeepsOthers.setCell _ _ _).from _, ⟨rfl, _, List.mem_append_right _ (List.mem_singleton.2 rfl), fun h => C1.out h.1⟩, hB.setCell (p := ⟨w.heap.size + 1, 0, none⟩) (by simp) _⟩
    case done =>
      rintro D ys W hD hys ⟨⟨z1, z2, z3, z4, z5, tb5, tw5⟩, hB⟩ hK
      have hyl : ys.length = 1 := by
        have := congrArg List.length (hys.trans HSG.out)
        simpa using this
      rw [hyl] at z4
      have k1 := string_of_text (by omega) tb5
      have k2 := string_of_text (by omega) tw5
      obtain ⟨st, hst⟩ : ∃ st, (⟨L.toArray⟩ : ByteArray) = st := ⟨_, rfl⟩
      rw [hst] at k1 k2
      have hDl := (Array.getElem?_eq_some_iff.1 hK).1
      have hWs := hB.size
      have kB : Calls Tryd.prog 9 #[.slice a n c] W fun e W' => e = .returned (.int .i64 (-1)) ∧ Below W.heap.size W W' ∧ W'.cell? ⟨w.heap.size + 1, 0, none⟩ = some (.bool false) ∧ W'.frozen? ⟨w.heap.size + 1, 0, none⟩ = false ∧ W'.heap[D]? = some (.deferred (some [])) := by
        rw [← HBD.out]
        refine (bad_any a n c L (by omega) W (by omega) (TextAt.more (by omega) tb5) (tabs_below h2 hB HT.out)).mono fun e W' ⟨he, hb⟩ => ⟨he, hb, ?_, ?_, ?_⟩
        · exact (hb.cell (p := ⟨w.heap.size + 1, 0, none⟩) (by simp; omega)).trans z2
        · exact (hb.frozen (p := ⟨w.heap.size + 1, 0, none⟩) (by simp; omega)).trans z3
        · exact (hb.block D hDl).trans hK
      clear hst tb5 tw5 hyl hys
      gi_wp2_with (refine ⟨trivial, ?_⟩; gi_at_call 9; refine (callsIn_wide.2 kB).mono ?_; rintro e w5 ⟨rfl, hb5, hc5, hf5, hk5⟩)
      have hkX : (w5.setCell ⟨w.heap.size + 1, 0, none⟩ (.bool true)).heap[D]? = some (.deferred (some [])) := (Below.heap_setCell _ ⟨w.heap.size + 1, 0, none⟩ _ D (by dsimp only; omega)).trans hk5
      have hcX : ((w5.setCell ⟨w.heap.size + 1, 0, none⟩ (.bool true)).putObj D (.deferred none)).cell? ⟨w.heap.size + 1, 0, none⟩ = some (.bool true) :=
        cell_kept (cell_set_eq hc5 (.bool true)) (grownBy_putObj' _ D _) (fun r e => by cases e; exact ⟨_, hkX, rfl⟩)
      have hBX : Below w.heap.size w (w5.setCell ⟨w.heap.size + 1, 0, none⟩ (.bool true)) := (hB.trans (hb5.mono hWs)).setCell (p := ⟨w.heap.size + 1, 0, none⟩) (by simp) _
      refine ⟨by simp, .inl ⟨_, _, rfl, run_takeDeferred hkX, ?_⟩⟩
      exact ⟨.bool true, by simp [results, Tryd.results5, go_sem, hcX], rfl, hBX.trans (belowK_b (w := w) (Nat.le_refl _) _ D _ _ (by omega) hkX rfl rfl)⟩
    case stop =>
      rintro D c pre W _ ⟨rest, hpre⟩ ⟨⟨_, x, hx, hne⟩, _⟩ _
      exfalso
      rw [HSG.out] at hpre
      have hm : x.1 ∈ pre.map Subtype.val ++ rest := List.mem_append_left _ (List.mem_map_of_mem hx)
      rw [← hpre] at hm
      have := List.mem_singleton.1 hm
      exact hne ⟨by rw [this], by rw [this]; dsimp only; omega⟩
  · have cE := encode_bad r hs
    have cR := refEnc_bad r hs
    clear hs
    go_enter Tryd.func5, Tryd.ntmps5
    go_wp2_with (first | (go_at_call 8; refine (kL _ (by assumption)).mono ?_; rintro e w1 ⟨rfl, hb1, hc1, hc2, hf2⟩) | (go_at_call 13; refine (cE _).mono ?_; rintro e w' ⟨rfl, rfl⟩) | (go_at_call 14; refine (cR _).mono ?_; rintro e w2 ⟨rfl, rfl⟩))
    have hx := cell_set_eq hc2 (.bool true)
    have hs0 := HS0.out
    refine bodyPost_ret (v := .bool true) (by simp [results, Tryd.results5, go_sem, hx]) rfl ⟨rfl, ?_⟩
    exact (hBW0.trans (hb1.mono (by omega))).setCell (p := ⟨w.heap.size + 1, 0, none⟩) (by simp) _

end Go.Proofs.YtnopplgplfenaaaDoor
