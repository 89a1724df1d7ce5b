/- How many signs a text has, counted by a closure that is handed to the iterator. -/
import Derived.Test.YtnopplgplfenaaaDoorIterB
namespace Go.Proofs.YtnopplgplfenaaaDoor
open Go Go.Proofs Go.RowKit Go.Shelf

/-- What the counting iteration keeps: all that lay below n₀, and the iterator's own box. -/
def KpB (n₀ Bs : Nat) (W W' : World) : Prop := Below n₀ W W' ∧ W'.heap[Bs]? = W.heap[Bs]?
theorem KpB.trans {n₀ Bs : Nat} {A B C : World} (h : KpB n₀ Bs A B) (k : KpB n₀ Bs B C) : KpB n₀ Bs A C := ⟨h.1.trans k.1, k.2.trans h.2⟩
theorem KpB_set {n₀ Bs b : Nat} (hn : n₀ ≤ b) (hB : Bs ≠ b) (W : World) (v : Value) : KpB n₀ Bs W (W.setCell ⟨b, 0, none⟩ v) :=
  ⟨(Below.refl n₀ W).setCell (p := ⟨b, 0, none⟩) hn v, Below.heap_setCell W ⟨b, 0, none⟩ v Bs hB⟩

/-- What the counting iteration leaves. -/
def CountPost (n₀ Bn c : Nat) (W : World) (e : Ending) (W' : World) : Prop :=
  (∃ v, e = .returned v) ∧ W'.cell? ⟨Bn, 0, none⟩ = some (.int .i64 (c : Int)) ∧ Below n₀ W W'

set_option maxRecDepth 100000 in
set_option maxHeartbeats 2000000 in
theorem signsCount_any (Bn Bs n₀ b off cap : Nat) (l : List UInt8) (hlen : l.length ≤ 140737488351232) (hcap : l.length ≤ cap) (hb : b < n₀) (h2 : 2 ≤ n₀)
    (W : World) (hn₀ : n₀ ≤ Bn) (hne : Bs ≠ Bn) (hBs' : Bs < W.heap.size) (hBn' : Bn < W.heap.size)
    (hBs : W.cell? ⟨Bs, 0, none⟩ = some (.slice (some ⟨b, off, none⟩) l.length cap)) (hBn : W.cell? ⟨Bn, 0, none⟩ = some (.int .i64 0)) (hBf : W.frozen? ⟨Bn, 0, none⟩ = false) (hh : Holds W b off l) (hT : Lib.Utf8Tabs 0 1 W) :
    Calls Tryd.prog 25 #[.func (.func 21) #[] #[.pointer (some ⟨Bn, 0, none⟩)], .pointer (some ⟨Bs, 0, none⟩)] W (CountPost n₀ Bn (sg l 0).length W) := by
  go_enter Tryd.func25, Tryd.ntmps25
  go_wp2
  go_loopw [3] (fun i wr => ∃ k c : Nat, k ≤ l.length ∧ i = .int .i64 k ∧ c ≤ k ∧ (sg l 0).length = c + (sg (l.drop k) k).length ∧ KpB n₀ Bs W wr ∧ W.heap.size ≤ wr.heap.size ∧ wr.cell? ⟨Bn, 0, none⟩ = some (.int .i64 (c : Int)) ∧ wr.frozen? ⟨Bn, 0, none⟩ = false)
    (fun i _ => l.length - (intOf i).toNat)
  case atStart => exact ⟨0, 0, Nat.zero_le _, rfl, Nat.le_refl _, by simp, ⟨Below.refl _ _, rfl⟩, Nat.le_refl _, hBn, hBf⟩
  case round =>
    obtain ⟨k, c, hk, rfl, hck, hsg, hK, hsz, hcn, hcf⟩ := hrel
    have hSg := Lib.hid hsg
    clear hsg
    have hB1 : wr.cell? ⟨Bs, 0, none⟩ = some (.slice (some ⟨b, off, none⟩) l.length cap) := (World.cell?_of_block (a := ⟨Bs, 0, none⟩) hK.2).trans hBs
    have hh1 : Holds wr b off l := hh.below hb hK.1
    have hT1 : Lib.Utf8Tabs 0 1 wr := tabs_below h2 hK.1 hT
    by_cases hlt : k < l.length
    · have hdec := decode_any (l.drop k) (by simp; omega) b (off + k) (cap - k) wr hT1 (hh1.drop k)
      have hbd := D_bounds (l.drop k) (by simp; omega)
      have hsc := sg_cons (l.drop k) k (by simp; omega)
      have hsb := sg_bad (l.drop k) k
      rw [List.length_drop] at hdec hbd
      have HC := Lib.hid hsc
      have HB := Lib.hid hsb
      clear hsc hsb
      unfold isBad at HC HB
      obtain ⟨r, hr⟩ : ∃ r, (D (l.drop k)).1 = r := ⟨_, rfl⟩
      obtain ⟨m, hm⟩ : ∃ m, (D (l.drop k)).2 = m := ⟨_, rfl⟩
      rw [hr, hm] at hdec hbd HC HB
      clear hr hm
      obtain ⟨hm1, hm4, hml, hr1⟩ := hbd
      go_wp2_with fail
      refine hdec.mono ?_
      rintro e w1 ⟨rfl, hbw⟩
      have hK1 : KpB n₀ Bs wr w1 := ⟨hbw.mono (by omega), hbw.block Bs (by omega)⟩
      have hcn1 : w1.cell? ⟨Bn, 0, none⟩ = some (.int .i64 (c : Int)) := (hbw.cell (p := ⟨Bn, 0, none⟩) (by simp; omega)).trans hcn
      have hcf1 : w1.frozen? ⟨Bn, 0, none⟩ = false := (hbw.frozen (p := ⟨Bn, 0, none⟩) (by simp; omega)).trans hcf
      have hsz1 := hbw.size
      clear hdec hcn hcf
      by_cases hbad : r = 65533 ∧ m = 1
      · have HN := Lib.hid (HB.out hbad)
        clear HB HC
        obtain ⟨rfl, rfl⟩ := hbad
        go_wp2
        refine bodyPost_ret (results_none rfl _ _ _) rfl ?_
        refine ⟨⟨_, rfl⟩, ?_, hK.1.trans hK1.1⟩
        rw [hSg.out, HN.out]; simpa using hcn1
      · have HS := Lib.hid (HC.out hbad)
        have H5 : ((r : Int) == 65533) = false ∨ (((r : Int) == 65533) = true ∧ ((m : Int) == 1) = false) := by
          by_cases h : r = 65533
          · right; refine ⟨by simp [h], ?_⟩
            have : m ≠ 1 := fun e => hbad ⟨h, e⟩
            simp; omega
          · left; simp; omega
        clear hbad HC HB
        rcases H5 with h5 | ⟨h5, h6⟩
        all_goals
          go_wp2
          go_roundw
          case rel =>
            refine ⟨k + m, c + 1, by omega, by go_num, by omega, ?_, (hK.trans hK1).trans (KpB_set hn₀ hne _ _), by simp; omega, ?_, by rw [World.frozen?_setCell]; exact hcf1⟩
            · rw [hSg.out, HS.out, List.drop_drop]; simp; omega
            · have := World.cell?_setCell_same' w1 ⟨Bn, 0, none⟩ (.int .i64 ((c + 1 : Nat) : Int)) (by rw [hcn1]; rfl)
              simpa using this
          case measure => simp [intOf]; omega
    · obtain rfl : k = l.length := by omega
      go_wp2
      go_end0
      refine ⟨⟨_, rfl⟩, ?_, hK.1⟩
      rw [hSg.out, sg_nil _ _ (by simp)]; simpa using hcn

theorem mkSigns_any (a : Option Addr) (len cap : Nat) (w : World) :
    Calls Tryd.prog 17 #[.slice a len cap] w fun e w' => e = .returned (.func (.func 25) #[] #[.pointer (some ⟨w.heap.size, 0, none⟩)]) ∧ w' = w.alloc (.cells #[.slice a len cap] 22) :=
  (callsIn_wide (n := 9)).1 (mkSigns_in 9 a len cap w)

theorem signsCount_nil (Bn Bs : Nat) (a : Option Addr) (cap : Nat) (W : World) (hBs : W.cell? ⟨Bs, 0, none⟩ = some (.slice a 0 cap)) (hBn : W.cell? ⟨Bn, 0, none⟩ = some (.int .i64 0)) (n₀ : Nat) :
    Calls Tryd.prog 25 #[.func (.func 21) #[] #[.pointer (some ⟨Bn, 0, none⟩)], .pointer (some ⟨Bs, 0, none⟩)] W (CountPost n₀ Bn 0 W) := by
  go_enter Tryd.func25, Tryd.ntmps25
  go_wp2
  go_loopw [3] (fun i wr => i = .int .i64 0 ∧ wr = W) (fun _ _ => 0)
  case atStart => exact ⟨rfl, rfl⟩
  case round =>
    obtain ⟨rfl, rfl⟩ := hrel
    go_wp2
    go_end0
    exact ⟨⟨_, rfl⟩, hBn, Below.refl _ _⟩

set_option maxRecDepth 100000 in
set_option maxHeartbeats 2000000 in
theorem count_any (a : Option Addr) (len cap : Nat) (l : List UInt8) (hlen : l.length ≤ 140737488351232) (w : World) (h2 : 2 ≤ w.heap.size) (hI : TextAt w.heap.size w (.slice a len cap) l) (hT : Lib.Utf8Tabs 0 1 w) :
    Calls Tryd.prog 12 #[.slice a len cap] w fun e W' => e = .returned (.int .i64 ((sg l 0).length : Nat)) ∧ Below w.heap.size w W' := by
  have bN := Boxed.new w 3 (.int .i64 0)
  have bS := Boxed.new (w.alloc (.cells #[.int .i64 0] 3)) 22 (.slice a len cap)
  rw [World.size_alloc] at bS
  have bN' := bN.alloc (.cells #[.slice a len cap] 22)
  have hB0 : Below w.heap.size w ((w.alloc (.cells #[.int .i64 0] 3)).alloc (.cells #[.slice a len cap] 22)) := ((Below.refl _ w).alloc (Nat.le_refl _) _).alloc (by simp) _
  have hC : Calls Tryd.prog 25 #[.func (.func 21) #[] #[.pointer (some ⟨w.heap.size, 0, none⟩)], .pointer (some ⟨w.heap.size + 1, 0, none⟩)] ((w.alloc (.cells #[.int .i64 0] 3)).alloc (.cells #[.slice a len cap] 22)) (CountPost w.heap.size w.heap.size (sg l 0).length ((w.alloc (.cells #[.int .i64 0] 3)).alloc (.cells #[.slice a len cap] 22))) := by
    rcases hI.below hB0 with ⟨_, _, _, e, rfl⟩ | ⟨b, off, cap', e, hb, hcap, hh⟩
    · cases e
      rw [sg_nil _ _ rfl]
      exact signsCount_nil _ _ _ _ _ bS.cell bN'.cell _
    · cases e
      exact signsCount_any w.heap.size (w.heap.size + 1) w.heap.size b off cap l hlen hcap hb h2 _ (Nat.le_refl _) (by omega) (by simp) (by simp; omega) bS.cell bN'.cell bN'.frozen hh (tabs_below h2 hB0 hT)
  have HB := Lib.hid hB0
  have HI := Lib.hid hI
  clear bN bS bN' hB0 hI hT
  go_enter Tryd.func12, Tryd.ntmps12
  go_wp2_with (first | (go_at_call 17; refine (mkSigns_any _ _ _ _).mono ?_; rintro e w' ⟨rfl, rfl⟩) | (go_at_call 25; refine hC.mono ?_; rintro e w1 ⟨⟨v, rfl⟩, hc, hb⟩))
  go_ret
  exact ⟨rfl, HB.out.trans hb⟩

end Go.Proofs.YtnopplgplfenaaaDoor
