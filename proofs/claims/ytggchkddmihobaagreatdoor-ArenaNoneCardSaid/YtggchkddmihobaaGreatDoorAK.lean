/- A head is put into an arena. -/
import Derived.Test.YtggchkddmihobaaGreatDoorAJ
set_option linter.unusedVariables false
set_option linter.unusedSimpArgs false
namespace Go.Proofs.YtggchkddmihobaaGreatDoor
open Go Go.Proofs Go.RowKit
def lvlF (l : List Prt) (ks : List Int) : Int := ks.foldl (fun m k => max m (l.getD k.toNat (0, none, none)).1) 0
theorem lvlF_snoc (l : List Prt) (ks : List Int) (k : Int) : lvlF l (ks ++ [k]) = max (lvlF l ks) (l.getD k.toNat (0, none, none)).1 := by simp [lvlF]
theorem take_snocA {α : Type} (l : List α) (k : Nat) (x : α) (h : l[k]? = some x) : l.take (k + 1) = l.take k ++ [x] := by rw [List.take_add_one, h]; rfl
set_option maxRecDepth 100000 in
set_option maxHeartbeats 4000000 in
theorem head_any {w : World} {base a : Nat} {most : Int} {m : Nat} {v : Value} {l : List Prt} (hA : Ar w base a most m v l) (hm : most ≤ 1048576) (hl : l.length ≤ 1048576) (hba : base ≤ w.heap.size) (hlt : (l.length + 1 : Nat) ≤ most)
    (h : Hd) (p : Ptr2) (hE : Env w) (hT : HdOk (Lt w.heap.size) w h p) (hF : HdFew h) (hn1 : p.a3 = none → h.ns.length = 0 ∧ p.c3 = 0) (hn2 : p.a4 = none → h.ks.length = 0 ∧ p.c4 = 0) (hmay : mayHB l.length h = true) :
    Calls Tryz.prog 24 #[arP a, hdV h p] w fun e w' => e = .returned (.tuple #[.int .i64 (l.length : Int), .int .i64 0]) ∧ ∃ v' g q, Ar w' base a most m v' (l ++ [(lvlF l h.ks, some ⟨g, 0, none⟩, none)]) ∧ Fr (ArM a v) w w' ∧ w.heap.size ≤ g ∧
      Blk w' g 38 (hdCells h q).toArray ∧ HdOk (fun b => w.heap.size ≤ b ∧ b < w'.heap.size ∧ ¬ ArM a v' b) w' h q ∧ ¬ ArM a v' g ∧ (v'.ownBlock = v.ownBlock ∨ ∃ g, v'.ownBlock = some g ∧ w.heap.size ≤ g) := by
  obtain ⟨W1, hW1⟩ : ∃ W, w.alloc (.cells (hdCells h p).toArray 38) = W := ⟨_, rfl⟩
  have hb : Below w.heap.size w W1 := by rw [← hW1]; exact (Below.refl _ _).alloc (Nat.le_refl _) _
  have hX : Blk W1 w.heap.size 38 (hdCells h p).toArray := by rw [← hW1]; exact Blk.new w 38 _
  have cM := amayBe_any (hA.below hb) h p (hE.on hb) (hT.on hb) hF
  rw [hmay] at cM
  have hall : h.ks.all (hasB l.length) = true := by
    unfold mayHB at hmay; rw [Bool.and_eq_true] at hmay; exact hmay.1
  dsimp only [hdCells] at hW1 hX
  have c0 := hX.cell 0
  have c1 := hX.cell 1
  have c2 := hX.cell 2
  have c3 := hX.cell 3
  simp only [List.getElem?_toArray, List.getElem?_cons_zero, List.getElem?_cons_succ] at c0 c1 c2 c3
  have hxl := hX.lt
  have j3 : h.ks.length ≤ 20 := hF.2.1
  have HB := Lib.hid hb
  have HT := Lib.hid hT
  have HF := Lib.hid hF
  have HX := Lib.hid hX
  have HAr := Lib.hid hA
  have HALL := Lib.hid hall
  have HN1 := Lib.hid hn1
  have HN2 := Lib.hid hn2
  clear hb hE hT hF hX hA hall hn1 hn2 hmay
  dsimp only [hdV, hdCells] at cM ⊢
  go_enter Tryz.func24, Tryz.ntmps24
  go_wp2_with (go_at_call 41; refine cM.mono ?_; rintro e w2 ⟨rfl, hb'⟩; have c20 := (hb'.cell (p := ⟨w.heap.size, 0, none⟩) hxl).trans c0; have c21 := (hb'.cell (p := ⟨w.heap.size, 1, none⟩) hxl).trans c1; have c22 := (hb'.cell (p := ⟨w.heap.size, 2, none⟩) hxl).trans c2; have c23 := (hb'.cell (p := ⟨w.heap.size, 3, none⟩) hxl).trans c3; have HC := Lib.hid hb'; clear hb')
  have hb2 : Below w.heap.size w w2 := HB.out.trans (HC.out.mono HB.out.size)
  have hA2 := HAr.out.below hb2
  have HT2 := Lib.hid (HT.out.on hb2)
  have HB2 := Lib.hid hb2
  obtain ⟨A0, ca, hva⟩ := own_form hA2.own
  have hc1 := hA2.blk.cell 1
  simp only [List.getElem?_toArray, List.getElem?_cons_zero, List.getElem?_cons_succ] at hc1
  have hgp : 0 < h.ks.length → ∃ g, A0 = some ⟨g, 0, none⟩ := fun hp => by
    have h0 : 0 < l.length := by
      obtain ⟨x, hx⟩ : ∃ x, h.ks[0]? = some x := ⟨_, List.getElem?_eq_getElem hp⟩
      have := List.all_eq_true.1 HALL.out x (List.mem_of_getElem? hx)
      simp [hasB] at this; omega
    obtain ⟨g, cap, e, _, _⟩ := hA2.own.form h0
    rw [hva] at e; cases e; exact ⟨g, rfl⟩
  have hcells : ∀ g (i : Nat) x, A0 = some ⟨g, 0, none⟩ → l[i]? = some x → w2.cell? ⟨g, i * 3, none⟩ = some (.int .i64 x.1) := fun g i x hg hx => by
    have ho := hA2.own
    rw [hva, hg] at ho
    exact (ho.cellAt (i * 3) (by have := (List.getElem?_eq_some_iff.1 hx).1; omega)).trans (prtC_get l i x hx 0 _ rfl)
  rw [hva] at hc1
  have HA2 := Lib.hid hA2
  have HG := Lib.hid hgp
  have HCE := Lib.hid hcells
  have HVA := Lib.hid hva
  clear hb2 hA2 hgp hcells hva c0 c1 c2 c3 cM
  go_loopw [6, 19] (fun x i wr => ∃ k : Nat, k ≤ h.ks.length ∧ x = .int .i64 (lvlF l (h.ks.take k)) ∧ i = .int .i64 k ∧ wr = w2) (fun _ i _ => h.ks.length - (intOf i).toNat)
  case atStart => exact ⟨0, Nat.zero_le _, rfl, rfl, rfl⟩
  case round =>
    obtain ⟨k, hk, rfl, rfl, rfl⟩ := hrel
    by_cases hlt : k < h.ks.length
    · obtain ⟨kk, hkk⟩ : ∃ kk, h.ks[k]? = some kk := ⟨_, List.getElem?_eq_getElem hlt⟩
      obtain ⟨kb, ko, hka, _, hkc⟩ := HT2.out.2.2 (by omega)
      have z0 := hkc k (iv kk) (by rw [List.getElem?_map, hkk]; rfl)
      have hin := List.all_eq_true.1 HALL.out kk (List.mem_of_getElem? hkk)
      simp only [hasB, Bool.and_eq_true, decide_eq_true_eq] at hin
      obtain ⟨n, rfl⟩ : ∃ n : Nat, kk = n := ⟨kk.toNat, by omega⟩
      obtain ⟨x, hx⟩ : ∃ x, l[n]? = some x := ⟨_, List.getElem?_eq_getElem (by omega)⟩
      obtain ⟨g, hg⟩ := HG.out (by omega)
      have z1 := HCE.out g n x hg hx
      have hts := take_snocA h.ks k _ hkk
      have hsn := lvlF_snoc l (h.ks.take k) (n : Int)
      rw [← hts] at hsn
      have hgd : (l.getD (n : Int).toNat (0, none, none)).1 = x.1 := by rw [Int.toNat_natCast, List.getD_eq_getElem?_getD, hx]; rfl
      rw [hgd] at hsn
      have HSN := Lib.hid hsn
      have i1 : (0 : Int) ≤ (k : Int) := by omega
      have i2 : (k : Int) < (h.ks.length : Int) := by omega
      have i3 : (0 : Int) ≤ (n : Int) := by omega
      have i4 : (n : Int) < (l.length : Int) := by omega
      obtain ⟨y, hy⟩ : ∃ y, x.1 = y := ⟨_, rfl⟩
      obtain ⟨u, hu⟩ : ∃ u, lvlF l (h.ks.take k) = u := ⟨_, rfl⟩
      subst hg
      rw [hka]
      dsimp only [iv] at z0
      rw [hy] at z1 HSN
      rw [hu] at HSN ⊢
      have HX := Lib.hid hx
      clear hkk hka hkc hin hx hts hsn hgd hu hy
      go_wp2
      go_roundw
      case rel => exact ⟨k + 1, by omega, by rw [HSN.out], by simp, by first | rfl | trivial⟩
      case measure => simp [intOf]; omega
    · obtain rfl : k = h.ks.length := by omega
      rw [List.take_length]
      clear hlt hk
      have cC := copied_any h p wr HT2.out HF.out HN1.out HN2.out
      dsimp only [hdV, hdCells] at cC
      obtain ⟨lv, hlv⟩ : ∃ lv, lvlF l h.ks = lv := ⟨_, rfl⟩
      rw [hlv]
      have HLV := Lib.hid hlv
      clear hlv
      go_wp2_with (go_at_call 32; refine cC.mono ?_; rintro e w3 ⟨q, rfl, hok, hb3, hq1, hq2⟩; have HOK := Lib.hid hok; have HB3 := Lib.hid hb3; clear hok hb3 hq1 hq2 cC)
      obtain ⟨V1, hV1⟩ : ∃ W, w3.alloc (.cells #[.int .i64 h.k, .slice q.a3 h.ns.length q.c3, .slice q.a4 h.ks.length q.c4, .bool h.o] 38) = W := ⟨_, rfl⟩
      obtain ⟨V2, hV2⟩ : ∃ W, V1.alloc (.cells #[.int .i64 lv, .pointer (some ⟨w3.heap.size, 0, none⟩), .pointer none] 76) = W := ⟨_, rfl⟩
      rw [hV1, hV2]
      have v1 : V1.heap.size = w3.heap.size + 1 := by rw [← hV1]; simp
      have v2 : V2.heap.size = w3.heap.size + 2 := by rw [← hV2]; simp [v1]
      have f1 : Below w3.heap.size w3 V1 := by rw [← hV1]; exact (Below.refl _ _).alloc (Nat.le_refl _) _
      have f2 : Below V1.heap.size V1 V2 := by rw [← hV2]; exact (Below.refl _ _).alloc (Nat.le_refl _) _
      have bN1 : Blk V1 w3.heap.size 38 (hdCells h q).toArray := by rw [← hV1]; exact Blk.new w3 38 _
      have bN := bN1.below f2 bN1.lt
      have hR : RdAt V2 (some ⟨w3.heap.size + 1, 0, none⟩) ([((lv, some ⟨w3.heap.size, 0, none⟩, none) : Prt)].flatMap prtC) := by rw [← hV2, ← v1]; exact rd_prt V1 (lv, some ⟨w3.heap.size, 0, none⟩, none)
      have g2 : Below w3.heap.size w3 V2 := f1.trans (f2.mono (by omega))
      have g1 : Below wr.heap.size wr V2 := HB3.out.trans (g2.mono HB3.out.size)
      have g0 : Below w.heap.size w V2 := HB2.out.trans (g1.mono HB2.out.size)
      have hAV := HAr.out.below g0
      have cP := put_any hAV hm [(lv, some ⟨w3.heap.size, 0, none⟩, none)] (some ⟨w3.heap.size + 1, 0, none⟩) 1 hl (by simp) hR (Nat.le_trans hba g0.size) (by omega)
      have hal := HAr.out.blk.lt
      have hvlt := fun g hg => (World.ownsRow.lt HAr.out.own g hg).2
      have HV := Lib.hid hvlt
      have hw3 : w.heap.size ≤ wr.heap.size := HB2.out.size
      have hw4 : wr.heap.size ≤ w3.heap.size := HB3.out.size
      have HOKV := Lib.hid (HOK.out.keep (w' := V2) (fun b o hb' => g2.cell (p := ⟨b, o, none⟩) hb'.2))
      have HG0 := Lib.hid g0
      have HBN := Lib.hid bN
      have HV2 := Lib.hid v2
      clear hV1 hV2 v1 f1 f2 bN1 bN hR g1 g2 g0 hAV hvlt v2 HOK c20 c21 c22 c23
      refine cP.mono ?_
      intro e w' hp
      obtain ⟨rfl, v', hA', hF', hv'⟩ := hp.yes (by simpa using (show (l.length + 1 : Nat) ≤ most by assumption))
      have HA' := Lib.hid hA'
      have HF' := Lib.hid hF'
      have HVV := Lib.hid hv'
      clear hA' hF' hv' hp cP
      go_wp2
      go_ret2
      have nb : ∀ b, w.heap.size ≤ b → ¬ ArM a v b := by
        rintro b hb (u | u)
        · omega
        · have := HV.out _ u; omega
      have nb' : ∀ b, w.heap.size ≤ b → b < V2.heap.size → ¬ ArM a v' b := by
        rintro b hb h2 (u | u)
        · omega
        · rcases HVV.out with k | ⟨g, k, k2⟩
          · rw [k] at u; exact nb b hb (.inr u)
          · rw [k] at u; injection u with u; omega
      have hv2 := HV2.out
      refine ⟨rfl, v', w3.heap.size, q, ?_, ?_, by omega, ?_, ?_, nb' _ (by omega) (by omega), ?_⟩
      · rw [HLV.out]; exact HA'.out
      · exact (Fr.of_below HG0.out : Fr (ArM a v) w V2).trans HF'.out (fun x hx => .inl hx)
      · exact (HF'.out.block _ HBN.out.lt (nb _ (by omega))).trans HBN.out
      · have hk := HOKV.out.keep (w' := w') (fun b o hb' => World.cell?_of_block (HF'.out.block b (by have := hb'.2; omega) (nb b (by have := hb'.1; omega))))
        have hs := HF'.out.size
        exact ⟨hk.1.imp (fun b hb' => ⟨by have := hb'.1; omega, by have := hb'.2; omega, nb' b (by have := hb'.1; omega) (by have := hb'.2; omega)⟩), hk.2.imp (fun b hb' => ⟨by have := hb'.1; omega, by have := hb'.2; omega, nb' b (by have := hb'.1; omega) (by have := hb'.2; omega)⟩)⟩
      · rcases HVV.out with k | ⟨g, k, k2⟩
        · exact .inl k
        · exact .inr ⟨g, k, by omega⟩
end Go.Proofs.YtggchkddmihobaaGreatDoor
