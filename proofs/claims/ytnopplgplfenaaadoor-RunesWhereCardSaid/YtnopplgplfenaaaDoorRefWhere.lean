/- The document's line and column of a place, at every text of at most 400 bytes, at every place. -/
import Derived.Test.YtnopplgplfenaaaDoorSigns
namespace Go.Proofs.YtnopplgplfenaaaDoor
open Go Go.Proofs Go.RowKit Go.Shelf

/-- A sign is a line feed just if the byte at its place is. -/
theorem D_feed (l : List UInt8) (_h0 : 0 < l.length) (hb : ¬ isBad l) : decide ((D l).1 = 10) = decide ((l.getD 0 0).toNat = 10) := by
  have h : ((D l).1 = 10) ↔ ((l.getD 0 0).toNat = 10) := by
    have l0 := (l.getD 0 0).toNat_lt
    revert hb
    unfold isBad D Lib.decodeN
    repeat' split
    all_goals (dsimp only; intro hb; omega)
  simp only [h]

theorem sg_mark : ∀ (n : Nat) (l : List UInt8) (k : Nat), l.length ≤ n → ∀ x ∈ sg l k, k ≤ x.1 ∧ x.1 < k + l.length ∧ decide (x.2 = 10) = decide ((l.getD (x.1 - k) 0).toNat = 10)
  | 0, l, k, h, x, hx => by rw [sg_nil l k (by omega)] at hx; cases hx
  | n + 1, l, k, h, x, hx => by
    by_cases h0 : 0 < l.length
    · by_cases hb : isBad l
      · rw [sg_bad l k hb] at hx; cases hx
      · have hd := D_bounds l h0
        rw [sg_cons l k h0 hb] at hx
        rcases List.mem_cons.1 hx with rfl | hx
        · refine ⟨Nat.le_refl _, by dsimp only; omega, ?_⟩
          dsimp only
          rw [Nat.sub_self]
          exact D_feed l h0 hb
        · have ih := sg_mark n (l.drop (D l).2) (k + (D l).2) (by simp only [List.length_drop]; omega) x hx
          simp only [List.length_drop] at ih
          refine ⟨by omega, by omega, ih.2.2.trans ?_⟩
          have : (l.drop (D l).2).getD (x.1 - (k + (D l).2)) 0 = l.getD (x.1 - k) 0 := by
            simp only [List.getD_eq_getElem?_getD, List.getElem?_drop]
            congr 3
            omega
          rw [this]
    · rw [sg_nil l k (by omega)] at hx; cases hx

theorem marks_at (l : List UInt8) : ∀ m ∈ marks l, m.1 < l.length ∧ m.2 = decide ((l.getD m.1 0).toNat = 10) := by
  intro m hm
  have hbd := bd_le l.length l 0 (Nat.le_refl _)
  unfold marks at hm
  rcases List.mem_append.1 hm with hm | hm
  · simp only [signMarks, List.mem_map] at hm
    obtain ⟨x, hx, rfl⟩ := hm
    have := sg_mark l.length l 0 (Nat.le_refl _) x hx
    rw [Nat.sub_zero] at this
    exact ⟨by dsimp only; omega, this.2.2⟩
  · simp only [tailMarks, List.mem_map, List.mem_range] at hm
    obtain ⟨i, hi, rfl⟩ := hm
    exact ⟨by dsimp only; omega, rfl⟩

def marksTo (l : List UInt8) (j : Nat) : List (Nat × Bool) := signMarks (sg l 0) ++ tailMarks l (bd l 0) (j - bd l 0)
theorem marksTo_bd (l : List UInt8) : marksTo l (bd l 0) = signMarks (sg l 0) := by simp [marksTo, tailMarks]
theorem marksTo_succ (l : List UInt8) (j : Nat) (h : bd l 0 ≤ j) : marksTo l (j + 1) = marksTo l j ++ [(j, decide ((l.getD j 0).toNat = 10))] := by
  unfold marksTo
  rw [show j + 1 - bd l 0 = (j - bd l 0) + 1 by omega, tailMarks_succ, show bd l 0 + (j - bd l 0) = j by omega]
  simp
theorem marksTo_length (l : List UInt8) (j : Nat) : (marksTo l j).length ≤ l.length + j := by
  have := sg_length l.length l 0 (Nat.le_refl _)
  simp [marksTo, signMarks, tailMarks]
  omega

def pv (xs : List (Nat × Bool)) : List Value := xs.map fun x => Value.int .i64 (x.1 : Int)

/-- The first i marks lie ahead of the place: then the line and the column behind them. -/
theorem where_take (l : List UInt8) (q : Int) (i : Nat) (hi : i ≤ (marks l).length) (h : ∀ j (hj : j < i), (((marks l)[j]'(by omega)).1 : Int) < q)
    (he : i = (marks l).length ∨ ∃ hj : i < (marks l).length, ¬ (((marks l)[i]'hj).1 : Int) < q) : whereOf l q = lc (((marks l).take i).map Prod.snd) := by
  unfold whereOf
  have hall : ∀ y ∈ (marks l).take i, decide ((y.1 : Int) < q) = true := by
    intro y hy
    obtain ⟨j, hj, rfl⟩ := List.getElem_of_mem hy
    simp at hj
    simp only [List.getElem_take, decide_eq_true_eq]
    exact h j (by omega)
  rcases he with he | ⟨hj, he⟩
  · rw [he, List.take_length] at hall ⊢
    rw [takeWhile_all _ _ hall]
  · have hs : marks l = (marks l).take i ++ (marks l)[i] :: (marks l).drop (i + 1) := by
      rw [List.getElem_cons_drop, List.take_append_drop]
    have : (marks l).takeWhile (fun m => decide ((m.1 : Int) < q)) = (marks l).take i := by
      conv => lhs; rw [hs]
      exact takeWhile_stop _ _ _ _ hall (by simpa using he)
    rw [this]

theorem where_take' (l : List UInt8) (q : Int) (ms : List (Nat × Bool)) (hm : marks l = ms) (i : Nat) (hi : i ≤ ms.length) (h : ∀ j (hj : j < i), ((ms[j]'(by omega)).1 : Int) < q)
    (he : i = ms.length ∨ ∃ hj : i < ms.length, ¬ ((ms[i]'hj).1 : Int) < q) : whereOf l q = lc ((ms.take i).map Prod.snd) := by
  subst hm
  exact where_take l q i hi h he

theorem placesV_pv (xs : List (Nat × Nat)) : placesV xs = pv (signMarks xs) := by simp [placesV, pv, signMarks]

theorem pv_cell {W : World} {B : Nat} {g n cap : Nat} {xs : List (Nat × Bool)} (h : W.ownsRow B 3 1 (.slice (some ⟨g, 0, none⟩) n cap) n (pv xs)) (i : Nat) (hi : i < xs.length) : W.cell? ⟨g, i, none⟩ = some (.int .i64 ((xs[i].1 : Nat) : Int)) := by
  have := h.cells (g := g) rfl i (.int .i64 ((xs[i].1 : Nat) : Int)) (by simp [pv, List.getElem?_eq_getElem hi])
  rwa [add_none, Nat.zero_add] at this

set_option maxRecDepth 100000 in
set_option maxHeartbeats 4000000 in
theorem refWhere_any (a : Option Addr) (len cap : Nat) (q : Int) (l : List UInt8) (hlen : l.length ≤ 400) (w : World) (hI : TextAt w.heap.size w (.slice a len cap) l) :
    Calls Tryd.prog 16 #[.slice a len cap, .int .i64 q] w fun e w' => e = .returned (.tuple #[.int .i64 (whereOf l q).1, .int .i64 (whereOf l q).2]) ∧ Below w.heap.size w w' := by
  have cS := signs_any a len cap l hlen w hI
  have hll : len = l.length := by
    rcases hI with ⟨_, _, _, e, rfl⟩ | ⟨_, _, _, e, _⟩
    · cases e; rfl
    · cases e; rfl
  subst hll
  have hbdl := bd_le l.length l 0 (Nat.le_refl _)
  have HI := Lib.hid hI
  clear hI
  obtain ⟨i3, hi, hz0, hz1, hz2⟩ := info_parts info3
  go_enter Tryd.func16, Tryd.ntmps16
  go_wp2_with (go_at_call 11; refine cS.mono ?_; rintro e w1 ⟨v1, v2, rfl, hR, hb1⟩; have HR := Lib.hid hR; clear hR)
  have hr0 : w1.ownsRow w.heap.size 3 1 v1 (marksTo l (bd l 0)).length (pv (marksTo l (bd l 0))) := by
    have := HR.out.1
    rw [marksTo_bd]
    rw [placesV_pv] at this
    simpa [signMarks] using this
  have HR0 := Lib.hid hr0
  clear hr0 cS
  go_loopw [6, 9] (fun s6 i wr => ∃ j : Nat, bd l 0 ≤ j ∧ j ≤ l.length ∧ i = .int .i64 j ∧ Hid (wr.ownsRow w.heap.size 3 1 s6 (marksTo l j).length (pv (marksTo l j))) ∧ Below w.heap.size w wr)
    (fun _ i _ => l.length - (intOf i).toNat)
  case atStart => exact ⟨bd l 0, Nat.le_refl _, by omega, rfl, HR0, hb1⟩
  case round =>
    obtain ⟨j, hj0, hj1, rfl, HO, hB⟩ := hrel
    have hml := marksTo_length l j
    by_cases hlt : j < l.length
    · have hBs := hB.size
      go_wp2_with (at_builtin; refine wpList_append_own_at _ rfl _ _ 30 rfl w.heap.size 3 i3 (.int .i64 0) 1 8 Tryd.underlying30 hi hz0 hz1 hz2 rfl (by decide) _ _ _ rfl (row_alloc HO.out _) ⟨wr.heap.size, 0, none⟩ 1 1 [.int .i64 (j : Int)] rfl rfl (cell_one_new _ _ _) (by simp [Value.oneCell']) ?qa1 ?qa2 ?qa3 ?_)
      case qa1 => unfold maxLen; omega
      case qa2 => omega
      case qa3 => simp; omega
      intro v' W1 hown hg _ _
      have hbW1 : Below w.heap.size w W1 := (hB.alloc hBs _).grown hg (by simp; omega) (fun g hg => (HO.out.lt g hg).1)
      have HO2 : Hid (W1.ownsRow w.heap.size 3 1 v' (marksTo l (j + 1)).length (pv (marksTo l (j + 1)))) := Lib.hid (by rw [marksTo_succ l j hj0]; simpa [pv] using hown)
      clear hown hg
      go_wp2
      go_roundw
      case rel => exact ⟨j + 1, by omega, by omega, by go_num, HO2, hbW1⟩
      case measure => simp [intOf]; omega
    · obtain rfl : j = l.length := by omega
      have hmk : marksTo l l.length = marks l := rfl
      rw [hmk] at HO hml
      clear hmk hlt
      obtain ⟨ms, hms⟩ : ∃ ms, marks l = ms := ⟨_, rfl⟩
      have HM := Lib.hid (marks_at l)
      have HW := Lib.hid (where_take' l q ms hms)
      rw [hms] at HO HM hml
      clear hms
      obtain ⟨A, cp, hv, hcell⟩ : ∃ A cp, u6 = .slice A ms.length cp ∧ ∀ i (hi : i < ms.length), ∃ g, A = some ⟨g, 0, none⟩ ∧ wr.cell? ⟨g, i, none⟩ = some (.int .i64 ((ms[i].1 : Nat) : Int)) := by
        rcases HO.out.2 with ⟨e, h0⟩ | ⟨g, cp, cur, e, _⟩
        · exact ⟨none, 0, by rw [h0]; exact e, fun i hi => absurd hi (by omega)⟩
        · refine ⟨some ⟨g, 0, none⟩, cp, e, fun i hi => ⟨g, rfl, ?_⟩⟩
          have := HO.out
          rw [e] at this
          exact pv_cell this i hi
      have HC := Lib.hid hcell
      subst hv
      clear HO hcell HR0 HR
      go_wp2
      go_loop [10, 11, 33] (fun L C i => ∃ k : Nat, k ≤ ms.length ∧ i = .int .i64 k ∧ L = .int .i64 (lc ((ms.take k).map Prod.snd)).1 ∧ C = .int .i64 (lc ((ms.take k).map Prod.snd)).2 ∧ Hid (∀ j (hj : j < k) (hm : j < ms.length), ((ms[j]'hm).1 : Int) < q))
        (fun _ _ i => ms.length - (intOf i).toNat)
      case atStart => exact ⟨0, Nat.zero_le _, rfl, rfl, rfl, Lib.hid (fun j hj => absurd hj (by omega))⟩
      case round =>
        obtain ⟨k, hk, rfl, rfl, rfl, HP⟩ := hrel
        have hlb := lc_bounds ((ms.take k).map Prod.snd)
        have htl : ((ms.take k).map Prod.snd).length ≤ ms.length := by simp; omega
        obtain ⟨L, hL⟩ : ∃ L, (lc ((ms.take k).map Prod.snd)).1 = L := ⟨_, rfl⟩
        obtain ⟨C, hC⟩ : ∃ C, (lc ((ms.take k).map Prod.snd)).2 = C := ⟨_, rfl⟩
        rw [hL, hC] at hlb ⊢
        have HLC : Hid (lc ((ms.take k).map Prod.snd) = (L, C)) := Lib.hid (Prod.ext hL hC)
        clear hL hC
        obtain ⟨hl1, hl2, hl3, hl4⟩ := hlb
        have hL2 : L ≤ 1000000 := by omega
        have hC2 : C ≤ 1000000 := by omega
        clear hl2 hl4 htl
        by_cases hlt : k < ms.length
        · obtain ⟨g, rfl, hg⟩ := HC.out k hlt
          obtain ⟨hp1, hp2⟩ := HM.out ms[k] (List.getElem_mem hlt)
          have hsnoc : lc ((ms.take (k + 1)).map Prod.snd) = step (lc ((ms.take k).map Prod.snd)) ms[k].2 := by
            rw [List.take_succ_eq_append_getElem hlt, List.map_append, List.map_singleton, lc_snoc]
          rw [HLC.out] at hsnoc
          obtain ⟨x, hx⟩ : ∃ x, ms[k] = x := ⟨_, rfl⟩
          have HX := Lib.hid hx
          rw [hx] at hg hp1 hp2 hsnoc
          clear hx
          obtain ⟨p, nl⟩ := x
          dsimp only at hg hp1 hp2 hsnoc
          have HSN := Lib.hid hsnoc
          clear hsnoc
          by_cases hpq : (p : Int) < q
          · have hIW := HI.out.below hB
            rcases hIW with ⟨_, _, _, e, rfl⟩ | ⟨b, off, c', e, _, hcap, hh⟩
            · simp at hp1
            · cases e
              have hby := hh p hp1
              have hb256 := (l.getD p 0).toNat_lt
              obtain ⟨c, hc⟩ : ∃ c, (l.getD p 0).toNat = c := ⟨_, rfl⟩
              rw [hc] at hby hb256 hp2
              have hnext : Hid (∀ j (hj : j < k + 1) (hm : j < ms.length), ((ms[j]'hm).1 : Int) < q) := Lib.hid (fun j hj hm => by
                by_cases hjk : j < k
                · exact HP.out j hjk hm
                · obtain rfl : j = k := by omega
                  rw [HX.out]; exact hpq)
              clear hc hh
              by_cases h10 : c = 10
              · have hnl : nl = true := by rw [hp2]; simpa using h10
                subst hnl
                have ht : ((c : Int) == 10) = true := by simp; omega
                clear hp2 h10
                go_wp2
                go_round
                case rel => exact ⟨k + 1, by omega, by go_num, by rw [HSN.out]; rfl, by rw [HSN.out]; rfl, hnext⟩
                case measure => simp [intOf]; omega
              · have hnl : nl = false := by rw [hp2]; simpa using h10
                subst hnl
                have ht : ((c : Int) == 10) = false := by simp; omega
                clear hp2 h10
                go_wp2
                go_round
                case rel => exact ⟨k + 1, by omega, by go_num, by rw [HSN.out]; rfl, by rw [HSN.out]; rfl, hnext⟩
                case measure => simp [intOf]; omega
          · have hw : whereOf l q = (L, C) := (HW.out k (by omega) (fun j hj => HP.out j hj (by omega)) (Or.inr ⟨hlt, by rw [HX.out]; exact Int.not_lt.1 hpq⟩)).trans HLC.out
            have HWW := Lib.hid hw
            clear hw
            go_wp2
            go_ret2
            exact ⟨ret_pair (by rw [HWW.out]) (by rw [HWW.out]), hB⟩
        · have hw : whereOf l q = (L, C) := (HW.out k (by omega) (fun j hj => HP.out j hj (by omega)) (Or.inl (by omega))).trans HLC.out
          have HWW := Lib.hid hw
          clear hw
          obtain rfl : k = ms.length := by omega
          go_wp2
          go_ret2
          exact ⟨ret_pair (by rw [HWW.out]) (by rw [HWW.out]), hB⟩

end Go.Proofs.YtnopplgplfenaaaDoor
