/- May a head be put into an arena. -/
import Derived.Test.YtggchkddmihobaaGreatDoorAI
set_option linter.unusedVariables false
set_option linter.unusedSimpArgs false
namespace Go.Proofs.YtggchkddmihobaaGreatDoor
open Go Go.Proofs Go.RowKit
/-- The head alone, with itself for its kids. -/
def soloH (h : Hd) : Hd := ⟨h.k, h.ns, List.replicate h.ks.length 0, h.o⟩
def mayHB (n : Nat) (h : Hd) : Bool := h.ks.all (hasB n) && mayB [soloH h] 0
theorem hds_one {Pb : Nat → Prop} {w : World} {h : Hd} {p : Ptr2} {g : Nat} (hg : Pb g) (hok : HdOk Pb w h p) (hb : Blk w g 38 (hdCells h p).toArray) : HdsAt Pb w (some ⟨g, 0, none⟩) [h] := by
  intro _
  refine ⟨g, 0, rfl, hg, fun i t ht => ?_⟩
  have hi : i = 0 := by have := (List.getElem?_eq_some_iff.1 ht).1; simp at this; omega
  subst hi
  simp at ht
  subst ht
  refine ⟨p, hok, fun j u hu => ?_⟩
  rw [hb.cell]
  simpa using hu
theorem Ar.on {w w' : World} {base a : Nat} {most : Int} {m : Nat} {v : Value} {l : List Prt} (h : Ar w base a most m v l) {n : Nat} (hn : n = w.heap.size) (hb : Below n w w') : Ar w' base a most m v l := by
  subst hn; exact h.below hb
set_option maxRecDepth 100000 in
set_option maxHeartbeats 4000000 in
theorem amayBe_any {w : World} {base a : Nat} {most : Int} {m : Nat} {v : Value} {l : List Prt} (hA : Ar w base a most m v l) (h : Hd) (p : Ptr2) (hE : Env w) (hT : HdOk (Lt w.heap.size) w h p) (hF : HdFew h) :
    Calls Tryz.prog 41 #[arP a, hdV h p] w fun e w' => e = .returned (.bool (mayHB l.length h)) ∧ Below w.heap.size w w' := by
  obtain ⟨W1, hW1⟩ : ∃ W, w.alloc (.cells (hdCells h p).toArray 38) = W := ⟨_, rfl⟩
  have hb : Below w.heap.size w W1 := by rw [← hW1]; exact (Below.refl _ _).alloc (Nat.le_refl _) _
  have hX : Blk W1 w.heap.size 38 (hdCells h p).toArray := by rw [← hW1]; exact Blk.new w 38 _
  have s1 : W1.heap.size = w.heap.size + 1 := by rw [← hW1]; simp
  have hT1 := hT.on hb
  have hE1 := hE.on hb
  have hA1 := hA.below hb
  have cH := fun i => has_any hA1 i
  have mI := fun W => madeI h.ks.length (by have := hF.2.1; omega) W
  dsimp only [hdCells] at hW1 hX
  have c0 := hX.cell 0
  have c1 := hX.cell 1
  have c2 := hX.cell 2
  have c3 := hX.cell 3
  simp only [List.getElem?_toArray, List.getElem?_cons_zero, List.getElem?_cons_succ] at c0 c1 c2 c3
  have z2 := hX.frozen 2
  have hxl := hX.lt
  have j3 : h.ks.length ≤ 20 := hF.2.1
  have HB := Lib.hid hb
  have HT0 := Lib.hid hT
  have HE0 := Lib.hid hE
  have HT := Lib.hid hT1
  have HE := Lib.hid hE1
  have HF := Lib.hid hF
  have HX := Lib.hid hX
  have S1 := Lib.hid s1
  clear hb hT1 hE1 hE hT hF hX hA hA1 s1
  dsimp only [hdV, hdCells]
  go_enter Tryz.func41, Tryz.ntmps41
  go_wp2
  go_loopw [10] (fun i wr => ∃ k : Nat, k ≤ h.ks.length ∧ i = .int .i64 k ∧ wr = W1 ∧ Hid (∀ (j : Nat) x, j < k → h.ks[j]? = some x → hasB l.length x = true)) (fun i _ => h.ks.length - (intOf i).toNat)
  case atStart => exact ⟨0, Nat.zero_le _, rfl, rfl, Lib.hid (by intro j x h; omega)⟩
  case round =>
    obtain ⟨k, hk, rfl, rfl, HA⟩ := hrel
    by_cases hlt : k < h.ks.length
    · obtain ⟨kk, hkk⟩ : ∃ kk, h.ks[k]? = some kk := ⟨_, List.getElem?_eq_getElem hlt⟩
      obtain ⟨kb, ko, hka, _, hkc⟩ := HT.out.2.2 (by omega)
      have z0 := hkc k (iv kk) (by rw [List.getElem?_map, hkk]; rfl)
      have cK := cH kk
      have i1 : (0 : Int) ≤ (k : Int) := by omega
      have i2 : (k : Int) < (h.ks.length : Int) := by omega
      obtain ⟨rk, hrk⟩ : ∃ rk, hasB l.length kk = rk := ⟨_, rfl⟩
      rw [hrk] at cK
      have HRK := Lib.hid hrk
      have HKK := Lib.hid hkk
      rw [hka]
      clear hrk hkk hka hkc
      cases rk
      · go_wp2_with (go_at_call 31; refine cK.mono ?_; rintro e w' ⟨rfl, rfl⟩)
        go_ret
        refine ⟨?_, HB.out⟩
        rw [mayHB, all_not HKK.out HRK.out]; rfl
      · go_wp2_with (go_at_call 31; refine cK.mono ?_; rintro e w' ⟨rfl, rfl⟩)
        go_roundw
        case rel =>
          refine ⟨k + 1, by omega, by simp, by first | rfl | trivial, Lib.hid fun j x hj hx => ?_⟩
          by_cases e : j = k
          · subst e; rw [HKK.out] at hx; cases hx; exact HRK.out
          · exact HA.out j x (by omega) hx
        case measure => simp [intOf]; omega
    · obtain rfl : k = h.ks.length := by omega
      clear hlt hk
      go_wp2_with fail
      obtain ⟨V1, hV1⟩ : ∃ W, wr.setCell ⟨w.heap.size, 2, none⟩ (.slice (some ⟨wr.heap.size, 0, none⟩) h.ks.length h.ks.length) = W := ⟨_, rfl⟩
      obtain ⟨V2, hV2⟩ : ∃ W, V1.alloc (.cells (ivs (List.replicate h.ks.length 0)) 3) = W := ⟨_, rfl⟩
      obtain ⟨V3, hV3⟩ : ∃ W, V2.alloc (.cells #[.int .i64 h.k, .slice p.a3 h.ns.length p.c3, .slice (some ⟨wr.heap.size, 0, none⟩) h.ks.length h.ks.length, .bool h.o] 38) = W := ⟨_, rfl⟩
      rw [hV1, hV2, hV3]
      have v1 : V1.heap.size = wr.heap.size := by rw [← hV1]; simp
      have v2 : V2.heap.size = wr.heap.size + 1 := by rw [← hV2]; simp [v1]
      have f1 : Fr (fun b => b = w.heap.size) wr V1 := by rw [← hV1]; exact (Fr.refl _ wr).set _ _ (.inl rfl)
      have f2 : Below V1.heap.size V1 V2 := by rw [← hV2]; exact (Below.refl _ _).alloc (Nat.le_refl _) _
      have f3 : Below V2.heap.size V2 V3 := by rw [← hV3]; exact (Below.refl _ _).alloc (Nat.le_refl _) _
      have bK : Blk V2 wr.heap.size 3 (ivs (List.replicate h.ks.length 0)) := by rw [← hV2, ← v1]; exact Blk.new V1 3 _
      have bN : Blk V3 (wr.heap.size + 1) 38 #[.int .i64 h.k, .slice p.a3 h.ns.length p.c3, .slice (some ⟨wr.heap.size, 0, none⟩) h.ks.length h.ks.length, .bool h.o] := by rw [← hV3, ← v2]; exact Blk.new V2 38 _
      have bK3 := bK.below f3 bK.lt
      have s3 : V3.heap.size = wr.heap.size + 2 := by rw [← hV3]; simp [v2]
      have fw : Below w.heap.size w V1 := HB.out.trans (f1.below HB.out.size (fun x hx => by omega))
      have fw3 : Below w.heap.size w V3 := (fw.trans (f2.mono fw.size)).trans (f3.mono (by omega))
      have eq1 : (soloH h).ks.length = h.ks.length := by simp [soloH]
      have hokS : HdOk (Lt V3.heap.size) V3 (soloH h) ⟨p.a3, p.c3, some ⟨wr.heap.size, 0, none⟩, h.ks.length⟩ := by
        refine ⟨(HT0.out.on fw3).1, ?_⟩
        exact sl_blk bK3 bK3.lt (by simp [soloH]) (fun j u hu => by simp only [soloH] at hu; simp only [ivs, List.getElem?_toArray]; exact hu)
      have fewS : HdFew (soloH h) := ⟨HF.out.1, by simp only [soloH, List.length_replicate]; omega, HF.out.2.2⟩
      have hds := hds_one (Pb := Lt V3.heap.size) bN.lt hokS (by show Blk V3 _ 38 #[.int .i64 h.k, .slice p.a3 h.ns.length p.c3, .slice (some ⟨wr.heap.size, 0, none⟩) (List.replicate h.ks.length (0 : Int)).length h.ks.length, .bool h.o]; rw [List.length_replicate]; exact bN)
      have cG := gcheck_any [soloH h] (some ⟨wr.heap.size + 1, 0, none⟩) 1 0 V3 (HE0.out.on fw3) hds (by intro x hx; simp at hx; subst hx; exact fewS) (by simp)
      have HFW := Lib.hid fw3
      have HAll : h.ks.all (hasB l.length) = true := all_of (fun i x hi hx => HA.out i x hi hx)
      obtain ⟨r, hr⟩ : ∃ r, mayB [soloH h] 0 = r := ⟨_, rfl⟩
      rw [hr] at cG
      have HR : mayHB l.length h = r := by rw [mayHB, HAll, hr]; rfl
      have HRh := Lib.hid HR
      clear hV1 hV2 hV3 v1 v2 f1 f2 f3 bK bN bK3 s3 fw fw3 eq1 hokS fewS hds HAll hr HR
      dsimp only [grV, List.length_cons, List.length_nil] at cG
      refine cG.mono ?_
      rintro e w' ⟨rfl, hb'⟩
      have HC := Lib.hid hb'
      clear hb' cG
      cases r
      · go_wp2
        go_ret
        exact ⟨by rw [HRh.out]; rfl, HFW.out.trans (HC.out.mono HFW.out.size)⟩
      · go_wp2
        go_ret
        exact ⟨by rw [HRh.out]; rfl, HFW.out.trans (HC.out.mono HFW.out.size)⟩
end Go.Proofs.YtggchkddmihobaaGreatDoor
