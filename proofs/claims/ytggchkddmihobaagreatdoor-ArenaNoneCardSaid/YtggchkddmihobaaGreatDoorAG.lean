/- May a graph be: the walk over its heads. -/
import Derived.Test.YtggchkddmihobaaGreatDoorAF
set_option linter.unusedVariables false
set_option linter.unusedSimpArgs false
namespace Go.Proofs.YtggchkddmihobaaGreatDoor
open Go Go.Proofs Go.RowKit
def hdB (n : Nat) (h : Hd) : Bool := h.ks.all (isHeadB n) && (riseB h.ns && checkF (treeH h))
def mayB (l : List Hd) (root : Int) : Bool := isHeadB l.length root && l.all (hdB l.length)
theorem HdsAt.low {Pb Qb : Nat → Prop} {w : World} {A : Option Addr} {l : List Hd} (h : HdsAt Pb w A l) (hk : ∀ b, Pb b → Qb b) : HdsAt Qb w A l := by
  intro hl
  obtain ⟨b, off, e, hb, hc⟩ := h hl
  refine ⟨b, off, e, hk b hb, fun i t ht => ?_⟩
  obtain ⟨p, h1, h2⟩ := hc i t ht
  exact ⟨p, ⟨h1.1.imp hk, h1.2.imp hk⟩, h2⟩
theorem HdOk.on {w w' : World} {t : Hd} {p : Ptr2} (h : HdOk (Lt w.heap.size) w t p) (hb : Below w.heap.size w w') : HdOk (Lt w'.heap.size) w' t p := by
  have := h.keep (w' := w') (fun b o hb' => hb.cell (p := ⟨b, o, none⟩) hb')
  exact ⟨this.1.imp (fun b hb' => Nat.lt_of_lt_of_le hb' hb.size), this.2.imp (fun b hb' => Nat.lt_of_lt_of_le hb' hb.size)⟩
theorem HdsAt.on {w w' : World} {A : Option Addr} {l : List Hd} (h : HdsAt (Lt w.heap.size) w A l) (hb : Below w.heap.size w w') : HdsAt (Lt w'.heap.size) w' A l :=
  (h.keep (fun b o hb' => hb.cell (p := ⟨b, o, none⟩) hb')).low (fun b hb' => Nat.lt_of_lt_of_le hb' hb.size)
theorem all_of {α : Type} {p : α → Bool} {l : List α} (h : ∀ (i : Nat) x, i < l.length → l[i]? = some x → p x = true) : l.all p = true := by
  rw [List.all_eq_true]
  intro x hx
  obtain ⟨i, hi, e⟩ := List.getElem_of_mem hx
  exact h i x hi (by rw [List.getElem?_eq_getElem hi, e])
theorem all_not {α : Type} {p : α → Bool} {l : List α} {i : Nat} {x : α} (h : l[i]? = some x) (hp : p x = false) : l.all p = false := by
  rw [Bool.eq_false_iff]
  intro u
  rw [List.all_eq_true] at u
  have := u x (List.mem_of_getElem? h)
  rw [hp] at this
  cases this
set_option maxRecDepth 100000 in
set_option maxHeartbeats 4000000 in
theorem mayBe_any (l : List Hd) (A : Option Addr) (cap : Nat) (root : Int) (w : World) (hE : Env w) (hT : HdsAt (Lt w.heap.size) w A l) (hF : ∀ h ∈ l, HdFew h) (hl : l.length ≤ 4096) :
    Calls Tryz.prog 43 #[grV A l.length cap root] w fun e w' => e = .returned (.bool (mayB l root)) ∧ Below w.heap.size w w' := by
  obtain ⟨W1, hW1⟩ : ∃ W, w.alloc (.cells #[.slice A l.length cap, .int .i64 root] 24) = W := ⟨_, rfl⟩
  have hb : Below w.heap.size w W1 := by rw [← hW1]; exact (Below.refl _ _).alloc (Nat.le_refl _) _
  have hX : Blk W1 w.heap.size 24 #[.slice A l.length cap, .int .i64 root] := by rw [← hW1]; exact Blk.new w 24 _
  have hT1 := hT.on hb
  have hE1 := hE.on hb
  have c0 := hX.cell 0
  have c1 := hX.cell 1
  simp only [List.getElem?_toArray, List.getElem?_cons_zero, List.getElem?_cons_succ] at c0 c1
  have hxl := hX.lt
  have d1 : decide ((4096 : Int) < (l.length : Int)) = false := by simp; omega
  have cR := isHead_any A l.length cap root root W1
  obtain ⟨r, hr⟩ : ∃ r, isHeadB l.length root = r := ⟨_, rfl⟩
  rw [hr] at cR
  have HR := Lib.hid hr
  have HB := Lib.hid hb
  have HT := Lib.hid hT1
  have HE := Lib.hid hE1
  have HF := Lib.hid hF
  have HX := Lib.hid hX
  clear hr hb hT1 hE1 hE hT hF hX
  cases r
  · go_enter Tryz.func43, Tryz.ntmps43
    go_wp2_with (go_at_call 48; refine cR.mono ?_; rintro e w' ⟨rfl, hb'⟩; have HC := Lib.hid hb'; clear hb')
    go_ret
    exact ⟨by rw [mayB, HR.out]; rfl, HB.out.trans (HC.out.mono HB.out.size)⟩
  · go_enter Tryz.func43, Tryz.ntmps43
    go_wp2_with (go_at_call 48; refine cR.mono ?_; rintro e w2 ⟨rfl, hb'⟩; have a0 := (hb'.cell (p := ⟨w.heap.size, 0, none⟩) hxl).trans c0; have a1 := (hb'.cell (p := ⟨w.heap.size, 1, none⟩) hxl).trans c1; have hxl2 := Nat.lt_of_lt_of_le hxl hb'.size; have HC := Lib.hid hb'; clear hb')
    clear c0 c1 cR
    go_loopw [21] (fun i wr => ∃ k : Nat, k ≤ l.length ∧ i = .int .i64 k ∧ Below w2.heap.size w2 wr ∧ Hid (∀ (j : Nat) x, j < k → l[j]? = some x → hdB l.length x = true)) (fun i _ => l.length - (intOf i).toNat)
    case atStart => exact ⟨0, Nat.zero_le _, rfl, Below.refl _ _, Lib.hid (by intro j x h; omega)⟩
    case round =>
      obtain ⟨k, hk, rfl, hbel, HA⟩ := hrel
      obtain ⟨wo, rfl⟩ : ∃ wo, wo = wr := ⟨_, rfl⟩
      have HBE := Lib.hid hbel
      have HBw : Hid (Below w.heap.size w wo) := Lib.hid (HB.out.trans ((HC.out.trans (hbel.mono HC.out.size)).mono HB.out.size))
      have HB1 : Hid (Below W1.heap.size W1 wo) := Lib.hid (HC.out.trans (hbel.mono HC.out.size))
      have g0 := (hbel.cell (p := ⟨w.heap.size, 0, none⟩) hxl2).trans a0
      have g1 := (hbel.cell (p := ⟨w.heap.size, 1, none⟩) hxl2).trans a1
      have hxr : w.heap.size < wo.heap.size := Nat.lt_of_lt_of_le hxl2 hbel.size
      clear hbel
      by_cases hlt : k < l.length
      · obtain ⟨h, hh⟩ : ∃ h, l[k]? = some h := ⟨_, List.getElem?_eq_getElem hlt⟩
        obtain ⟨b, off, rfl, hbb, hcell⟩ := (HT.out.on HB1.out) (by omega)
        obtain ⟨p, hok, hc⟩ := hcell k h hh
        have q0 := hc 0 _ rfl
        have q1 := hc 1 _ rfl
        have q2 := hc 2 _ rfl
        have q3 := hc 3 _ rfl
        rw [Nat.add_zero] at q0
        have hfew := HF.out h (List.mem_of_getElem? hh)
        obtain ⟨W3, hW3⟩ : ∃ W, wo.alloc (.cells (hdCells h p).toArray 38) = W := ⟨_, rfl⟩
        have hb3 : Below wo.heap.size wo W3 := by rw [← hW3]; exact (Below.refl _ _).alloc (Nat.le_refl _) _
        have hX3 : Blk W3 wo.heap.size 38 (hdCells h p).toArray := by rw [← hW3]; exact Blk.new wo 38 _
        have hok3 := hok.on hb3
        have v0 := hX3.cell 0
        have v1 := hX3.cell 1
        have v2 := hX3.cell 2
        have v3 := hX3.cell 3
        dsimp only [hdCells] at hW3 v0 v1 v2 v3
        simp only [List.getElem?_toArray, List.getElem?_cons_zero, List.getElem?_cons_succ] at v0 v1 v2 v3
        have i1 : (0 : Int) ≤ (k : Int) := by omega
        have i2 : (k : Int) < (l.length : Int) := by omega
        have hv3 := hX3.lt
        have f0 := (hb3.cell (p := ⟨w.heap.size, 0, none⟩) hxr).trans g0
        have f1 := (hb3.cell (p := ⟨w.heap.size, 1, none⟩) hxr).trans g1
        have hxr3 := Nat.lt_of_lt_of_le hxr hb3.size
        have HH := Lib.hid hh
        have HOK := Lib.hid hok3
        have HFEW := Lib.hid hfew
        have HB3 := Lib.hid hb3
        clear hh hok3 hok hfew hb3 hX3 hcell hc
        go_wp2
        go_loopw [28] (fun i wq => ∃ j : Nat, j ≤ h.ks.length ∧ i = .int .i64 j ∧ Below W3.heap.size W3 wq ∧ Hid (∀ (m : Nat) x, m < j → h.ks[m]? = some x → isHeadB l.length x = true)) (fun i _ => h.ks.length - (intOf i).toNat)
        case atStart => exact ⟨0, Nat.zero_le _, rfl, Below.refl _ _, Lib.hid (by intro j x h; omega)⟩
        case round =>
          obtain ⟨j, hj, rfl, hbq, HAk⟩ := hrel
          have HBq := Lib.hid hbq
          have y2 := (hbq.cell (p := ⟨wo.heap.size, 2, none⟩) hv3).trans v2
          have y0 := (hbq.cell (p := ⟨wo.heap.size, 0, none⟩) hv3).trans v0
          have y1 := (hbq.cell (p := ⟨wo.heap.size, 1, none⟩) hv3).trans v1
          have y3 := (hbq.cell (p := ⟨wo.heap.size, 3, none⟩) hv3).trans v3
          have x0 := (hbq.cell (p := ⟨w.heap.size, 0, none⟩) hxr3).trans f0
          have x1 := (hbq.cell (p := ⟨w.heap.size, 1, none⟩) hxr3).trans f1
          have HBx : Hid (Below w.heap.size w wr) := Lib.hid (HBw.out.trans ((HB3.out.trans (hbq.mono HB3.out.size)).mono HBw.out.size))
          have HBe : Hid (Below w2.heap.size w2 wr) := Lib.hid (HBE.out.trans ((HB3.out.trans (hbq.mono HB3.out.size)).mono HBE.out.size))
          have hokq := HOK.out.on hbq
          clear v0 v1 v2 v3 f0 f1 q0 q1 q2 q3 g0 g1 a0 a1
          by_cases hlt2 : j < h.ks.length
          · obtain ⟨kk, hkk⟩ : ∃ kk, h.ks[j]? = some kk := ⟨_, List.getElem?_eq_getElem hlt2⟩
            obtain ⟨kb, ko, hka, _, hkc⟩ := hokq.2.2 (by omega)
            have z0 := hkc j (iv kk) (by rw [List.getElem?_map, hkk]; rfl)
            rw [hka]
            have HKK := Lib.hid hkk
            have HKA := Lib.hid hka
            have cK := isHead_any (some ⟨b, off, none⟩) l.length cap root kk wr
            have j1 : (0 : Int) ≤ (j : Int) := by omega
            have j3 : h.ks.length ≤ 20 := HFEW.out.2.1
            have j2 : (j : Int) < (h.ks.length : Int) := by omega
            obtain ⟨rk, hrk⟩ : ∃ rk, isHeadB l.length kk = rk := ⟨_, rfl⟩
            rw [hrk] at cK
            have HRK := Lib.hid hrk
            clear hrk hbq hkk hka hkc hokq y2 y0 y1 y3
            cases rk
            · go_wp2_with (go_at_call 48; refine cK.mono ?_; rintro e w' ⟨rfl, hb'⟩; have HC' := Lib.hid hb'; clear hb')
              go_ret
              refine ⟨?_, HBx.out.trans (HC'.out.mono HBx.out.size)⟩
              rw [mayB, HR.out, all_not HH.out (by rw [hdB, all_not HKK.out HRK.out]; rfl)]; rfl
            · go_wp2_with (go_at_call 48; refine cK.mono ?_; rintro e w' ⟨rfl, hb'⟩; have HC' := Lib.hid hb'; clear hb')
              go_roundw
              case rel =>
                refine ⟨j + 1, by omega, by simp, HBq.out.trans (HC'.out.mono HBq.out.size), Lib.hid fun m x hm hx => ?_⟩
                by_cases e : m = j
                · subst e; rw [HKK.out] at hx; cases hx; exact HRK.out
                · exact HAk.out m x (by omega) hx
              case measure => simp [intOf]; omega
          · obtain rfl : j = h.ks.length := by omega
            have cS := rise_any p.a3 p.c3 h.ns wr hokq.1 (by have := HFEW.out.1; omega)
            obtain ⟨rs, hrs⟩ : ∃ rs, riseB h.ns = rs := ⟨_, rfl⟩
            rw [hrs] at cS
            have HRS := Lib.hid hrs
            have hyl : wo.heap.size < wr.heap.size := World.block_lt_of_cell? wr _ y0
            have HQ := Lib.hid hokq
            have HEq := Lib.hid (HE.out.on (HB1.out.trans ((HB3.out.trans (hbq.mono HB3.out.size)).mono HB1.out.size)))
            clear hrs hbq hokq
            cases rs
            · go_wp2_with (go_at_call 49; refine cS.mono ?_; rintro e w' ⟨rfl, hb'⟩; have HC' := Lib.hid hb'; clear hb')
              go_ret
              refine ⟨?_, HBx.out.trans (HC'.out.mono HBx.out.size)⟩
              rw [mayB, HR.out, all_not HH.out (by rw [hdB, HRS.out]; simp)]; rfl
            · obtain ⟨ra, hra⟩ : ∃ ra, checkF (treeH h) = ra := ⟨_, rfl⟩
              have HRA := Lib.hid hra
              clear hra
              cases ra
              · go_wp2_with (go_at_call 49; refine cS.mono ?_; rintro e w' ⟨rfl, hb'⟩; have t0 := (hb'.cell (p := ⟨wo.heap.size, 0, none⟩) hyl).trans y0; have t1 := (hb'.cell (p := ⟨wo.heap.size, 1, none⟩) hyl).trans y1; have t2 := (hb'.cell (p := ⟨wo.heap.size, 2, none⟩) hyl).trans y2; have t3 := (hb'.cell (p := ⟨wo.heap.size, 3, none⟩) hyl).trans y3; have HC' := Lib.hid hb'; have cA := hasAsked_any h p w' (HEq.out.on hb') (HQ.out.on hb') HFEW.out; rw [HRA.out] at cA; dsimp only [hdV, hdCells] at cA; clear hb')
                refine cA.mono ?_
                rintro e w3 ⟨rfl, hb3⟩
                have HC3 := Lib.hid hb3
                clear hb3
                go_wp2
                go_ret
                refine ⟨?_, HBx.out.trans ((HC'.out.trans (HC3.out.mono HC'.out.size)).mono HBx.out.size)⟩
                rw [mayB, HR.out, all_not HH.out (by rw [hdB, HRA.out]; simp)]; rfl
              · go_wp2_with (go_at_call 49; refine cS.mono ?_; rintro e w' ⟨rfl, hb'⟩; have t0 := (hb'.cell (p := ⟨wo.heap.size, 0, none⟩) hyl).trans y0; have t1 := (hb'.cell (p := ⟨wo.heap.size, 1, none⟩) hyl).trans y1; have t2 := (hb'.cell (p := ⟨wo.heap.size, 2, none⟩) hyl).trans y2; have t3 := (hb'.cell (p := ⟨wo.heap.size, 3, none⟩) hyl).trans y3; have HC' := Lib.hid hb'; have cA := hasAsked_any h p w' (HEq.out.on hb') (HQ.out.on hb') HFEW.out; rw [HRA.out] at cA; dsimp only [hdV, hdCells] at cA; clear hb')
                refine cA.mono ?_
                rintro e w3 ⟨rfl, hb3⟩
                have HC3 := Lib.hid hb3
                clear hb3
                go_wp2
                go_roundw
                case rel =>
                  refine ⟨k + 1, by omega, by simp, HBe.out.trans ((HC'.out.trans (HC3.out.mono HC'.out.size)).mono HBe.out.size), Lib.hid fun m x hm hx => ?_⟩
                  by_cases e : m = k
                  · subst e
                    rw [HH.out] at hx
                    cases hx
                    rw [hdB, HRS.out, HRA.out, all_of (fun i x hi hx => HAk.out i x hi hx)]; rfl
                  · exact HA.out m x (by omega) hx
                case measure => simp [intOf]; omega
      · obtain rfl : k = l.length := by omega
        go_wp2
        go_ret
        refine ⟨?_, HBw.out⟩
        rw [mayB, HR.out, all_of (fun i x hi hx => HA.out i x hi hx)]; rfl
set_option maxRecDepth 100000 in
theorem gcheck_any (l : List Hd) (A : Option Addr) (cap : Nat) (root : Int) (w : World) (hE : Env w) (hT : HdsAt (Lt w.heap.size) w A l) (hF : ∀ h ∈ l, HdFew h) (hl : l.length ≤ 4096) :
    Calls Tryz.prog 47 #[grV A l.length cap root] w fun e w' => e = .returned (.int .i64 (if mayB l root then 0 else 14)) ∧ Below w.heap.size w w' := by
  obtain ⟨W1, hW1⟩ : ∃ W, w.alloc (.cells #[.slice A l.length cap, .int .i64 root] 24) = W := ⟨_, rfl⟩
  have hb : Below w.heap.size w W1 := by rw [← hW1]; exact (Below.refl _ _).alloc (Nat.le_refl _) _
  have hX : Blk W1 w.heap.size 24 #[.slice A l.length cap, .int .i64 root] := by rw [← hW1]; exact Blk.new w 24 _
  have cM := mayBe_any l A cap root W1 (hE.on hb) (hT.on hb) hF hl
  have c0 := hX.cell 0
  have c1 := hX.cell 1
  simp only [List.getElem?_toArray, List.getElem?_cons_zero, List.getElem?_cons_succ] at c0 c1
  have HB := Lib.hid hb
  clear hb hX hT hE hF
  obtain ⟨r, hr⟩ : ∃ r, mayB l root = r := ⟨_, rfl⟩
  rw [hr] at cM ⊢
  clear hr
  cases r
  · go_enter Tryz.func47, Tryz.ntmps47
    go_wp2_with (go_at_call 43; refine cM.mono ?_; rintro e w' ⟨rfl, hb'⟩; have HC := Lib.hid hb'; clear hb')
    go_ret
    exact ⟨rfl, HB.out.trans (HC.out.mono HB.out.size)⟩
  · go_enter Tryz.func47, Tryz.ntmps47
    go_wp2_with (go_at_call 43; refine cM.mono ?_; rintro e w' ⟨rfl, hb'⟩; have HC := Lib.hid hb'; clear hb')
    go_ret
    exact ⟨rfl, HB.out.trans (HC.out.mono HB.out.size)⟩
end Go.Proofs.YtggchkddmihobaaGreatDoor
