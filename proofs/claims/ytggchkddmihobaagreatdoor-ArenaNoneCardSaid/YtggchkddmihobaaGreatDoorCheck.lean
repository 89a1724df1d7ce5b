/- Whether a tree may be: at every tree of parts of a bounded size. -/
import Derived.Test.YtggchkddmihobaaGreatDoorTypes
import Derived.RegionTactic
import Derived.ChangeAlike
import Derived.Laws.MakeOwn
namespace Go.Proofs.YtggchkddmihobaaGreatDoor
open Go Go.Proofs Go.RowKit

theorem whole_any (t : TreeD) (p : Ptr6) (w : World) (h1 : 1 ≤ t.nodes.length) (h2 : t.nodes.length ≤ 65536) :
    Calls Tryz.prog 73 #[treeV t p] w fun e w' => e = .returned (.int .i64 ((t.nodes.length - 1 : Nat) : Int)) ∧ Below w.heap.size w w' := by
  obtain ⟨nodes, types, aliases⟩ := t
  obtain ⟨a1, c1, a2, c2, a3, c3⟩ := p
  dsimp only at *
  go_enter Tryz.func73, Tryz.ntmps73
  go_wp2
  go_ret
  exact ⟨ret_int (by omega), (Below.refl _ _).alloc (Nat.le_refl _) _⟩

theorem termsF_len (nt : Int) : ∀ (ns : List TermD) (i : Nat) (us ts : List Int), (termsF nt i ns us ts).1 = true → (termsF nt i ns us ts).2.1.length = us.length ∧ (termsF nt i ns us ts).2.2.length = ts.length
  | [], _, us, ts, _ => ⟨rfl, rfl⟩
  | n :: ns, i, us, ts, h => by
    unfold termsF at h ⊢
    split at h
    · rename_i h1
      rw [if_pos h1]
      split at h
      · rename_i h2
        rw [if_pos h2]
        split at h
        · rename_i h3
          rw [if_pos h3]
          have := termsF_len nt ns _ _ _ h
          rw [takeF_len, takeF_len] at this
          exact this
        · cases h
      · cases h
    · cases h
theorem termsF_bits (nt : Int) : ∀ (ns : List TermD) (i : Nat) (us ts : List Int), Bits01 us → Bits01 ts → (termsF nt i ns us ts).1 = true → Bits01 (termsF nt i ns us ts).2.1 ∧ Bits01 (termsF nt i ns us ts).2.2
  | [], _, us, ts, h1, h2, _ => ⟨h1, h2⟩
  | n :: ns, i, us, ts, hu, ht, h => by
    unfold termsF at h ⊢
    split at h
    · rename_i h1
      rw [if_pos h1]
      split at h
      · rename_i h2
        rw [if_pos h2]
        split at h
        · rename_i h3
          rw [if_pos h3]
          exact termsF_bits nt ns _ _ _ (takeF_bits _ _ _ hu h1) (takeF_bits _ _ _ ht h2) h
        · cases h
      · cases h
    · cases h
theorem typsF_len : ∀ (ns : List TypD) (i : Nat) (us : List Int), (typsF i ns us).1 = true → (typsF i ns us).2.length = us.length
  | [], _, us, _ => rfl
  | n :: ns, i, us, h => by
    unfold typsF at h ⊢
    split at h
    · rename_i h1
      rw [if_pos h1]
      split at h
      · rename_i h2
        rw [if_pos h2]
        have := typsF_len ns _ _ h
        rw [takeF_len] at this
        exact this
      · cases h
    · cases h
theorem typsF_bits : ∀ (ns : List TypD) (i : Nat) (us : List Int), Bits01 us → (typsF i ns us).1 = true → Bits01 (typsF i ns us).2
  | [], _, us, h1, _ => h1
  | n :: ns, i, us, hu, h => by
    unfold typsF at h ⊢
    split at h
    · rename_i h1
      rw [if_pos h1]
      split at h
      · rename_i h2
        rw [if_pos h2]
        exact typsF_bits ns _ _ (takeF_bits _ _ _ hu h1) h
      · cases h
    · cases h
theorem alisF_len (nt : Int) : ∀ (ns : List AliD) (us : List Int), (alisF nt ns us).1 = true → (alisF nt ns us).2.length = us.length
  | [], us, _ => rfl
  | n :: ns, us, h => by
    unfold alisF at h ⊢
    split at h
    · rename_i h1
      rw [if_pos h1]
      split at h
      · rename_i h2
        rw [if_pos h2]
        have := alisF_len nt ns _ h
        rw [takeF_len] at this
        exact this
      · cases h
    · cases h

/-- May a tree be, by the counts? -/
def checkF (t : TreeD) : Bool :=
  decide (1 ≤ t.nodes.length ∧ t.nodes.length ≤ 65536 ∧ t.types.length ≤ 65536) &&
    (let F := termsF t.types.length 0 t.nodes (List.replicate t.nodes.length 0) (List.replicate t.types.length 0)
     F.1 && (let G := typsF 0 t.types F.2.2
       G.1 && (let H := alisF t.types.length t.aliases G.2
         H.1 && (!decide (0 ∈ F.2.1.take (t.nodes.length - 1)) && !decide (0 ∈ H.2.take t.types.length)))))

/-- A tree of parts of a bounded size. -/
def TreeFew (t : TreeD) : Prop := (∀ x ∈ t.nodes, TermFew x) ∧ (∀ x ∈ t.types, TypFew x) ∧ (∀ x ∈ t.aliases, x.name.size ≤ 1000) ∧ t.aliases.length ≤ 1000 ∧ t.nodes.length ≤ 1000 ∧ t.types.length ≤ 1000

theorem made_ivs (n : Nat) : madeCells #[.int .i64 0] n = ivs (List.replicate n 0) := by
  apply Array.ext
  · simp [size_madeCells, ivs]
  · intro i h1 h2
    simp [madeCells, ivs, Nat.mod_one]

theorem made_any (n : Nat) (hn : n ≤ 65536) (W : World) : (Instr.makeSlice 145 (.int .i64 (n : Int)) (.int .i64 (n : Int))).run Tryz.prog W = .ok (.slice (some ⟨W.heap.size, 0, none⟩) n n) (W.alloc (.cells (ivs (List.replicate n 0)) 3)) := by
  obtain ⟨i0, hi, hz0, hz1, hz2⟩ := info_parts info3
  have := run_make (P := Tryz.prog) W 145 3 i0 (.int .i64 0) Tryz.underlying145 hi hz0 .i64 .i64 (n : Int) (n : Int) (by omega) (by omega) (by rw [hz2]; omega) (by omega)
  rw [this, hz1]
  simp only [Int.toNat_natCast, Nat.mul_one]
  have e : (Value.int IntKind.i64 0).cells = #[.int .i64 0] := rfl
  rw [e, made_ivs]

set_option maxRecDepth 100000 in
set_option maxHeartbeats 4000000 in
theorem check_any (t : TreeD) (p : Ptr6) (w : World) (hE : Env w) (hT : TreeAt (Lt w.heap.size) w t p) (hF : TreeFew t) :
    Calls Tryz.prog 60 #[treeV t p] w fun e w' => e = .returned (.int .i64 (if checkF t then 0 else 14)) ∧ Below w.heap.size w w' := by
  obtain ⟨F1, F2, F3, F4, F5, F6⟩ := hF
  have kM := made_any
  by_cases h1 : 1 ≤ t.nodes.length
  · have kM1 := made_any t.nodes.length (by omega)
    have kM2 := made_any t.types.length (by omega)
    clear kM
    obtain ⟨r, hr⟩ : ∃ r : Int, (if checkF t = true then 0 else 14) = r := ⟨_, rfl⟩
    rw [hr]
    have HR := Lib.hid hr
    clear hr
    obtain ⟨nodes, types, aliases⟩ := t
    obtain ⟨a1, c1, a2, c2, a3, c3⟩ := p
    dsimp only at *
    have h0 : ((nodes.length : Int) == 0) = false := by rw [beq_eq_false_iff_ne]; omega
    have d1 : decide ((65536 : Int) < nodes.length) = false := by simp; omega
    have d2 : decide ((65536 : Int) < types.length) = false := by simp; omega
    go_enter Tryz.func60, Tryz.ntmps60
    go_wp2
    go_region
    · obtain ⟨W1, hW1⟩ : ∃ W1, (((w.alloc (.cells #[.slice a1 nodes.length c1, .slice a2 types.length c2, .slice a3 aliases.length c3] 126)).alloc (.cells (ivs (List.replicate nodes.length 0)) 3)).alloc (.cells (ivs (List.replicate types.length 0)) 3)).drew = W1 := ⟨_, rfl⟩
      have hb : Below w.heap.size w W1 := by rw [← hW1]; exact ((((Below.refl _ w).alloc (Nat.le_refl _) _).alloc (by simp) _).alloc (by simp only [World.size_alloc]; omega) _).drew
      have hX : Blk W1 w.heap.size 126 #[.slice a1 nodes.length c1, .slice a2 types.length c2, .slice a3 aliases.length c3] := by rw [← hW1]; exact (((Blk.new w 126 _).alloc _).alloc _).drew
      have hA : Blk W1 (w.heap.size + 1) 3 (ivs (List.replicate nodes.length 0)) := by
        rw [← hW1]
        have := ((Blk.new (w.alloc (.cells #[.slice a1 nodes.length c1, .slice a2 types.length c2, .slice a3 aliases.length c3] 126)) 3 (ivs (List.replicate nodes.length 0))).alloc (.cells (ivs (List.replicate types.length 0)) 3)).drew
        rwa [World.size_alloc] at this
      have hB : Blk W1 (w.heap.size + 1 + 1) 3 (ivs (List.replicate types.length 0)) := by
        rw [← hW1]
        have := (Blk.new ((w.alloc (.cells #[.slice a1 nodes.length c1, .slice a2 types.length c2, .slice a3 aliases.length c3] 126)).alloc (.cells (ivs (List.replicate nodes.length 0)) 3)) 3 (ivs (List.replicate types.length 0))).drew
        rwa [World.size_alloc, World.size_alloc] at this
      rw [hW1]
      clear hW1
      obtain ⟨G, hG⟩ : ∃ G, w.heap.size + 1 = G := ⟨_, rfl⟩
      obtain ⟨H, hH⟩ : ∃ H, w.heap.size + 1 + 1 = H := ⟨_, rfl⟩
      have gG : w.heap.size + 1 ≤ G := by omega
      have gH : w.heap.size + 1 ≤ H := by omega
      have gN : G ≠ H := by omega
      rw [hG] at hA
      rw [hH] at hB
      rw [hH, hG]
      clear hG hH
      have hg : Blk W1 G 3 (ivs (List.replicate nodes.length 0)) := hA
      have hh : Blk W1 H 3 (ivs (List.replicate types.length 0)) := hB
      clear hA hB
      have hzW := hX.lt
      have x0 := hX.cell 0
      have x1 := hX.cell 1
      have x2 := hX.cell 2
      simp only [List.getElem?_toArray, List.getElem?_cons_zero, List.getElem?_cons_succ] at x0 x1 x2
      have hbits : ∀ n, Bits01 (List.replicate n 0) := fun n u hu => by rw [List.eq_of_mem_replicate hu]; omega
      have hT1 : TreeAt (Lt (w.heap.size + 1)) W1 ⟨nodes, types, aliases⟩ ⟨a1, c1, a2, c2, a3, c3⟩ := (hT.keep (keep_below hb)).imp (lt_mono (by omega))
      have hE1 : Env W1 := hE.on hb
      have k20 := terms_any ⟨nodes, types, aliases⟩ ⟨a1, c1, a2, c2, a3, c3⟩ (w.heap.size + 1) G H nodes.length types.length _ _ W1 hE1 (by omega) gG gH gN hT1 F1 hg hh (by simp) (by simp) (hbits _) (hbits _) (by dsimp only; omega) (by dsimp only; omega) (by have := hE.2; omega)
      have HW := Lib.hid hb
      have hbz := hb.size
      clear hg hh hX hb
      obtain ⟨F, hF⟩ : ∃ F, termsF types.length 0 nodes (List.replicate nodes.length 0) (List.replicate types.length 0) = F := ⟨_, rfl⟩
      dsimp only at k20
      rw [hF] at k20
      have hFl := termsF_len types.length nodes 0 (List.replicate nodes.length 0) (List.replicate types.length 0)
      have hFb := termsF_bits types.length nodes 0 (List.replicate nodes.length 0) (List.replicate types.length 0) (hbits _) (hbits _)
      rw [hF] at hFl hFb
      have hck : checkF ⟨nodes, types, aliases⟩ = (F.1 && (let G := typsF 0 types F.2.2
       G.1 && (let H := alisF types.length aliases G.2
         H.1 && (!decide (0 ∈ F.2.1.take (nodes.length - 1)) && !decide (0 ∈ H.2.take types.length))))) := by
        unfold checkF
        rw [decide_eq_true (by dsimp only; omega), Bool.true_and]
        dsimp only
        rw [hF]
      unfold TermsPost at k20
      obtain ⟨f, us, ts⟩ := F
      dsimp only at k20 hck hFl hFb
      have HFL := Lib.hid hFl
      have HFB := Lib.hid hFb
      have HC := Lib.hid hck
      clear hF hck hFl hFb
      cases f
      · have h14 : r = 14 := by rw [← HR.out, HC.out]; rfl
        have H14 := Lib.hid h14
        clear h14
        go_wp2_with (go_at_call 70; refine k20.mono ?_; rintro e w2 ⟨rfl, _, hb2⟩)
        go_ret
        exact ⟨ret_int H14.out.symm, HW.out.trans (hb2.mono (by omega))⟩
      · obtain ⟨hul, htl⟩ := HFL.out rfl
        obtain ⟨hub, htb⟩ := HFB.out rfl
        rw [List.length_replicate] at hul htl
        have HU := Lib.hid (And.intro hul htl)
        have HUB := Lib.hid (And.intro hub htb)
        clear hul htl hub htb HFL HFB
        go_wp2_with fail
        refine k20.mono ?_
        rintro e w2 ⟨rfl, hbl, hb2⟩
        obtain ⟨hg2, hh2⟩ := hbl trivial
        have hs2 := hb2.size
        have y0 := (hb2.cell (p := ⟨w.heap.size, 0, none⟩) (by dsimp only; omega)).trans x0
        have y1 := (hb2.cell (p := ⟨w.heap.size, 1, none⟩) (by dsimp only; omega)).trans x1
        have y2 := (hb2.cell (p := ⟨w.heap.size, 2, none⟩) (by dsimp only; omega)).trans x2
        clear k20 hbl
        have hT2 := hT1.keep (keep_below hb2)
        have k21 := typs_any ⟨nodes, types, aliases⟩ ⟨a1, c1, a2, c2, a3, c3⟩ (w.heap.size + 1) H types.length ts w2 (by omega) gH hT2 F2 hh2 HU.out.2 HUB.out.2 (by dsimp only; omega)
        have hTl := typsF_len types 0 ts
        have hTb := typsF_bits types 0 ts HUB.out.2
        obtain ⟨T, hT'⟩ : ∃ T, typsF 0 types ts = T := ⟨_, rfl⟩
        dsimp only at k21
        rw [hT'] at k21 hTl hTb
        unfold TypsPost at k21
        have HC2 : Hid (checkF ⟨nodes, types, aliases⟩ = (T.1 && (let H := alisF types.length aliases T.2
         H.1 && (!decide (0 ∈ us.take (nodes.length - 1)) && !decide (0 ∈ H.2.take types.length))))) := by
          rw [HC.out]
          show (true && _) = _
          rw [Bool.true_and, hT']
        obtain ⟨f, ts'⟩ := T
        dsimp only at k21 hTl hTb
        have HTL := Lib.hid hTl
        have HTB := Lib.hid hTb
        clear hT' hTl hTb HC
        cases f
        · have h14 : r = 14 := by rw [← HR.out, HC2.out]; rfl
          have H14 := Lib.hid h14
          clear h14
          go_wp2_with (go_at_call 71; refine k21.mono ?_; rintro e w3 ⟨rfl, _, _, hb3⟩)
          go_ret
          exact ⟨ret_int H14.out.symm, (HW.out.trans (hb2.mono (by omega))).trans (hb3.mono (by omega))⟩
        · have hl := HTL.out rfl
          have hbt := HTB.out rfl
          have HL := Lib.hid (And.intro (hl.trans HU.out.2) hbt)
          clear hl hbt HTL HTB
          go_wp2_with fail
          refine k21.mono ?_
          rintro e w3 ⟨rfl, hbl, hkp, hb3⟩
          have hh3 := hbl trivial
          have hg3 := hkp G _ gN hg2
          have hs3 := hb3.size
          have z0 := (hb3.cell (p := ⟨w.heap.size, 0, none⟩) (by dsimp only; omega)).trans y0
          have z1 := (hb3.cell (p := ⟨w.heap.size, 1, none⟩) (by dsimp only; omega)).trans y1
          have z2 := (hb3.cell (p := ⟨w.heap.size, 2, none⟩) (by dsimp only; omega)).trans y2
          clear k21 hbl hkp y0 y1 y2 hg2 hh2
          have hT3 := hT2.keep (keep_below hb3)
          have k22 := alis_any ⟨nodes, types, aliases⟩ ⟨a1, c1, a2, c2, a3, c3⟩ (w.heap.size + 1) H types.length ts' w3 (by omega) gH hT3 F3 hh3 HL.out.1 HL.out.2 (by dsimp only; omega) (by dsimp only; omega)
          have hTl := alisF_len types.length aliases ts'
          obtain ⟨T, hT'⟩ : ∃ T, alisF types.length aliases ts' = T := ⟨_, rfl⟩
          dsimp only at k22
          rw [hT'] at k22 hTl
          unfold TypsPost at k22
          have HC3 : Hid (checkF ⟨nodes, types, aliases⟩ = (T.1 && (!decide (0 ∈ us.take (nodes.length - 1)) && !decide (0 ∈ T.2.take types.length)))) := by
            rw [HC2.out]
            show (true && _) = _
            rw [Bool.true_and]
            show (let H := alisF types.length aliases ts'; H.1 && _) = _
            rw [hT']
          obtain ⟨f, tz⟩ := T
          dsimp only at k22 hTl
          have HTL := Lib.hid hTl
          clear hT' hTl HC2
          cases f
          · have h14 : r = 14 := by rw [← HR.out, HC3.out]; rfl
            have H14 := Lib.hid h14
            clear h14
            go_wp2_with (go_at_call 72; refine k22.mono ?_; rintro e w4 ⟨rfl, _, _, hb4⟩)
            go_ret
            exact ⟨ret_int H14.out.symm, ((HW.out.trans (hb2.mono (by omega))).trans (hb3.mono (by omega))).trans (hb4.mono (by omega))⟩
          · have hl := HTL.out rfl
            have HL2 := Lib.hid (hl.trans HL.out.1)
            clear hl HTL
            go_wp2_with fail
            refine k22.mono ?_
            rintro e w4 ⟨rfl, hbl, hkp, hb4⟩
            have hh4 := hbl trivial
            have hg4 := hkp G _ gN hg3
            have hs4 := hb4.size
            have v0 := (hb4.cell (p := ⟨w.heap.size, 0, none⟩) (by dsimp only; omega)).trans z0
            have v1 := (hb4.cell (p := ⟨w.heap.size, 1, none⟩) (by dsimp only; omega)).trans z1
            have v2 := (hb4.cell (p := ⟨w.heap.size, 2, none⟩) (by dsimp only; omega)).trans z2
            clear k22 hbl hkp z0 z1 z2 hg3 hh3
            have kW := whole_any ⟨nodes, types, aliases⟩ ⟨a1, c1, a2, c2, a3, c3⟩ w4 h1 (by dsimp only; omega)
            have hbf := ((HW.out.trans (hb2.mono (by omega))).trans (hb3.mono (by omega))).trans (hb4.mono (Nat.le_succ _))
            have HBF := Lib.hid hbf
            clear hbf
            dsimp only at kW
            go_wp2_with fail
            refine kW.mono ?_
            rintro e w5 ⟨rfl, hb5⟩
            have hg5 := hg4.below hb5 hg4.lt
            have hh5 := hh4.below hb5 hh4.lt
            have hm1 : ((nodes.length - 1 : Nat) : Int) ≤ nodes.length := by omega
            clear hg4 hh4 kW
            have kA := all_any G (nodes.length - 1) nodes.length us w5 hg5 (by rw [HU.out.1]; omega) (by rw [HU.out.1]; omega)
            have kB := all_any H types.length types.length tz w5 hh5 (by rw [HL2.out]; omega) (by rw [HL2.out]; omega)
            obtain ⟨bA, hbA⟩ : ∃ bA, decide (0 ∈ us.take (nodes.length - 1)) = bA := ⟨_, rfl⟩
            obtain ⟨bB, hbB⟩ : ∃ bB, decide (0 ∈ tz.take types.length) = bB := ⟨_, rfl⟩
            have HC4 : Hid (checkF ⟨nodes, types, aliases⟩ = (!bA && !bB)) := by
              rw [HC3.out, ← hbA, ← hbB]
              exact rfl
            rw [hbA] at kA
            rw [hbB] at kB
            clear hbA hbB HC3
            obtain ⟨m, hm⟩ : ∃ m, nodes.length - 1 = m := ⟨_, rfl⟩
            rw [hm] at hm1 kA ⊢
            have HM := Lib.hid hm
            clear hm
            cases bA <;> cases bB
            all_goals
              have hfin := HC4.out
              have hr2 := HR.out
              rw [hfin] at hr2
              have HFIN := Lib.hid hr2
              clear hfin hr2
              go_wp2_with (first | (go_at_call 74; first | (refine kA.mono ?_; rintro e w6 ⟨rfl, rfl⟩) | (refine kB.mono ?_; rintro e w6 ⟨rfl, rfl⟩)))
              go_ret
              exact ⟨ret_int (by have := HFIN.out; simpa using this), HBF.out.trans (hb5.mono (by omega))⟩
    · obtain ⟨W1, hW1⟩ : ∃ W1, (((w.alloc (.cells #[.slice a1 nodes.length c1, .slice a2 types.length c2, .slice a3 aliases.length c3] 126)).alloc (.cells (ivs (List.replicate types.length 0)) 3)).alloc (.cells (ivs (List.replicate nodes.length 0)) 3)).drew = W1 := ⟨_, rfl⟩
      have hb : Below w.heap.size w W1 := by rw [← hW1]; exact ((((Below.refl _ w).alloc (Nat.le_refl _) _).alloc (by simp) _).alloc (by simp only [World.size_alloc]; omega) _).drew
      have hX : Blk W1 w.heap.size 126 #[.slice a1 nodes.length c1, .slice a2 types.length c2, .slice a3 aliases.length c3] := by rw [← hW1]; exact (((Blk.new w 126 _).alloc _).alloc _).drew
      have hA : Blk W1 (w.heap.size + 1) 3 (ivs (List.replicate types.length 0)) := by
        rw [← hW1]
        have := ((Blk.new (w.alloc (.cells #[.slice a1 nodes.length c1, .slice a2 types.length c2, .slice a3 aliases.length c3] 126)) 3 (ivs (List.replicate types.length 0))).alloc (.cells (ivs (List.replicate nodes.length 0)) 3)).drew
        rwa [World.size_alloc] at this
      have hB : Blk W1 (w.heap.size + 1 + 1) 3 (ivs (List.replicate nodes.length 0)) := by
        rw [← hW1]
        have := (Blk.new ((w.alloc (.cells #[.slice a1 nodes.length c1, .slice a2 types.length c2, .slice a3 aliases.length c3] 126)).alloc (.cells (ivs (List.replicate types.length 0)) 3)) 3 (ivs (List.replicate nodes.length 0))).drew
        rwa [World.size_alloc, World.size_alloc] at this
      rw [hW1]
      clear hW1
      obtain ⟨G, hG⟩ : ∃ G, w.heap.size + 1 + 1 = G := ⟨_, rfl⟩
      obtain ⟨H, hH⟩ : ∃ H, w.heap.size + 1 = H := ⟨_, rfl⟩
      have gG : w.heap.size + 1 ≤ G := by omega
      have gH : w.heap.size + 1 ≤ H := by omega
      have gN : G ≠ H := by omega
      rw [hH] at hA
      rw [hG] at hB
      rw [hG, hH]
      clear hG hH
      have hg : Blk W1 G 3 (ivs (List.replicate nodes.length 0)) := hB
      have hh : Blk W1 H 3 (ivs (List.replicate types.length 0)) := hA
      clear hA hB
      have hzW := hX.lt
      have x0 := hX.cell 0
      have x1 := hX.cell 1
      have x2 := hX.cell 2
      simp only [List.getElem?_toArray, List.getElem?_cons_zero, List.getElem?_cons_succ] at x0 x1 x2
      have hbits : ∀ n, Bits01 (List.replicate n 0) := fun n u hu => by rw [List.eq_of_mem_replicate hu]; omega
      have hT1 : TreeAt (Lt (w.heap.size + 1)) W1 ⟨nodes, types, aliases⟩ ⟨a1, c1, a2, c2, a3, c3⟩ := (hT.keep (keep_below hb)).imp (lt_mono (by omega))
      have hE1 : Env W1 := hE.on hb
      have k20 := terms_any ⟨nodes, types, aliases⟩ ⟨a1, c1, a2, c2, a3, c3⟩ (w.heap.size + 1) G H nodes.length types.length _ _ W1 hE1 (by omega) gG gH gN hT1 F1 hg hh (by simp) (by simp) (hbits _) (hbits _) (by dsimp only; omega) (by dsimp only; omega) (by have := hE.2; omega)
      have HW := Lib.hid hb
      have hbz := hb.size
      clear hg hh hX hb
      obtain ⟨F, hF⟩ : ∃ F, termsF types.length 0 nodes (List.replicate nodes.length 0) (List.replicate types.length 0) = F := ⟨_, rfl⟩
      dsimp only at k20
      rw [hF] at k20
      have hFl := termsF_len types.length nodes 0 (List.replicate nodes.length 0) (List.replicate types.length 0)
      have hFb := termsF_bits types.length nodes 0 (List.replicate nodes.length 0) (List.replicate types.length 0) (hbits _) (hbits _)
      rw [hF] at hFl hFb
      have hck : checkF ⟨nodes, types, aliases⟩ = (F.1 && (let G := typsF 0 types F.2.2
       G.1 && (let H := alisF types.length aliases G.2
         H.1 && (!decide (0 ∈ F.2.1.take (nodes.length - 1)) && !decide (0 ∈ H.2.take types.length))))) := by
        unfold checkF
        rw [decide_eq_true (by dsimp only; omega), Bool.true_and]
        dsimp only
        rw [hF]
      unfold TermsPost at k20
      obtain ⟨f, us, ts⟩ := F
      dsimp only at k20 hck hFl hFb
      have HFL := Lib.hid hFl
      have HFB := Lib.hid hFb
      have HC := Lib.hid hck
      clear hF hck hFl hFb
      cases f
      · have h14 : r = 14 := by rw [← HR.out, HC.out]; rfl
        have H14 := Lib.hid h14
        clear h14
        go_wp2_with (go_at_call 70; refine k20.mono ?_; rintro e w2 ⟨rfl, _, hb2⟩)
        go_ret
        exact ⟨ret_int H14.out.symm, HW.out.trans (hb2.mono (by omega))⟩
      · obtain ⟨hul, htl⟩ := HFL.out rfl
        obtain ⟨hub, htb⟩ := HFB.out rfl
        rw [List.length_replicate] at hul htl
        have HU := Lib.hid (And.intro hul htl)
        have HUB := Lib.hid (And.intro hub htb)
        clear hul htl hub htb HFL HFB
        go_wp2_with fail
        refine k20.mono ?_
        rintro e w2 ⟨rfl, hbl, hb2⟩
        obtain ⟨hg2, hh2⟩ := hbl trivial
        have hs2 := hb2.size
        have y0 := (hb2.cell (p := ⟨w.heap.size, 0, none⟩) (by dsimp only; omega)).trans x0
        have y1 := (hb2.cell (p := ⟨w.heap.size, 1, none⟩) (by dsimp only; omega)).trans x1
        have y2 := (hb2.cell (p := ⟨w.heap.size, 2, none⟩) (by dsimp only; omega)).trans x2
        clear k20 hbl
        have hT2 := hT1.keep (keep_below hb2)
        have k21 := typs_any ⟨nodes, types, aliases⟩ ⟨a1, c1, a2, c2, a3, c3⟩ (w.heap.size + 1) H types.length ts w2 (by omega) gH hT2 F2 hh2 HU.out.2 HUB.out.2 (by dsimp only; omega)
        have hTl := typsF_len types 0 ts
        have hTb := typsF_bits types 0 ts HUB.out.2
        obtain ⟨T, hT'⟩ : ∃ T, typsF 0 types ts = T := ⟨_, rfl⟩
        dsimp only at k21
        rw [hT'] at k21 hTl hTb
        unfold TypsPost at k21
        have HC2 : Hid (checkF ⟨nodes, types, aliases⟩ = (T.1 && (let H := alisF types.length aliases T.2
         H.1 && (!decide (0 ∈ us.take (nodes.length - 1)) && !decide (0 ∈ H.2.take types.length))))) := by
          rw [HC.out]
          show (true && _) = _
          rw [Bool.true_and, hT']
        obtain ⟨f, ts'⟩ := T
        dsimp only at k21 hTl hTb
        have HTL := Lib.hid hTl
        have HTB := Lib.hid hTb
        clear hT' hTl hTb HC
        cases f
        · have h14 : r = 14 := by rw [← HR.out, HC2.out]; rfl
          have H14 := Lib.hid h14
          clear h14
          go_wp2_with (go_at_call 71; refine k21.mono ?_; rintro e w3 ⟨rfl, _, _, hb3⟩)
          go_ret
          exact ⟨ret_int H14.out.symm, (HW.out.trans (hb2.mono (by omega))).trans (hb3.mono (by omega))⟩
        · have hl := HTL.out rfl
          have hbt := HTB.out rfl
          have HL := Lib.hid (And.intro (hl.trans HU.out.2) hbt)
          clear hl hbt HTL HTB
          go_wp2_with fail
          refine k21.mono ?_
          rintro e w3 ⟨rfl, hbl, hkp, hb3⟩
          have hh3 := hbl trivial
          have hg3 := hkp G _ gN hg2
          have hs3 := hb3.size
          have z0 := (hb3.cell (p := ⟨w.heap.size, 0, none⟩) (by dsimp only; omega)).trans y0
          have z1 := (hb3.cell (p := ⟨w.heap.size, 1, none⟩) (by dsimp only; omega)).trans y1
          have z2 := (hb3.cell (p := ⟨w.heap.size, 2, none⟩) (by dsimp only; omega)).trans y2
          clear k21 hbl hkp y0 y1 y2 hg2 hh2
          have hT3 := hT2.keep (keep_below hb3)
          have k22 := alis_any ⟨nodes, types, aliases⟩ ⟨a1, c1, a2, c2, a3, c3⟩ (w.heap.size + 1) H types.length ts' w3 (by omega) gH hT3 F3 hh3 HL.out.1 HL.out.2 (by dsimp only; omega) (by dsimp only; omega)
          have hTl := alisF_len types.length aliases ts'
          obtain ⟨T, hT'⟩ : ∃ T, alisF types.length aliases ts' = T := ⟨_, rfl⟩
          dsimp only at k22
          rw [hT'] at k22 hTl
          unfold TypsPost at k22
          have HC3 : Hid (checkF ⟨nodes, types, aliases⟩ = (T.1 && (!decide (0 ∈ us.take (nodes.length - 1)) && !decide (0 ∈ T.2.take types.length)))) := by
            rw [HC2.out]
            show (true && _) = _
            rw [Bool.true_and]
            show (let H := alisF types.length aliases ts'; H.1 && _) = _
            rw [hT']
          obtain ⟨f, tz⟩ := T
          dsimp only at k22 hTl
          have HTL := Lib.hid hTl
          clear hT' hTl HC2
          cases f
          · have h14 : r = 14 := by rw [← HR.out, HC3.out]; rfl
            have H14 := Lib.hid h14
            clear h14
            go_wp2_with (go_at_call 72; refine k22.mono ?_; rintro e w4 ⟨rfl, _, _, hb4⟩)
            go_ret
            exact ⟨ret_int H14.out.symm, ((HW.out.trans (hb2.mono (by omega))).trans (hb3.mono (by omega))).trans (hb4.mono (by omega))⟩
          · have hl := HTL.out rfl
            have HL2 := Lib.hid (hl.trans HL.out.1)
            clear hl HTL
            go_wp2_with fail
            refine k22.mono ?_
            rintro e w4 ⟨rfl, hbl, hkp, hb4⟩
            have hh4 := hbl trivial
            have hg4 := hkp G _ gN hg3
            have hs4 := hb4.size
            have v0 := (hb4.cell (p := ⟨w.heap.size, 0, none⟩) (by dsimp only; omega)).trans z0
            have v1 := (hb4.cell (p := ⟨w.heap.size, 1, none⟩) (by dsimp only; omega)).trans z1
            have v2 := (hb4.cell (p := ⟨w.heap.size, 2, none⟩) (by dsimp only; omega)).trans z2
            clear k22 hbl hkp z0 z1 z2 hg3 hh3
            have kW := whole_any ⟨nodes, types, aliases⟩ ⟨a1, c1, a2, c2, a3, c3⟩ w4 h1 (by dsimp only; omega)
            have hbf := ((HW.out.trans (hb2.mono (by omega))).trans (hb3.mono (by omega))).trans (hb4.mono (Nat.le_succ _))
            have HBF := Lib.hid hbf
            clear hbf
            dsimp only at kW
            go_wp2_with fail
            refine kW.mono ?_
            rintro e w5 ⟨rfl, hb5⟩
            have hg5 := hg4.below hb5 hg4.lt
            have hh5 := hh4.below hb5 hh4.lt
            have hm1 : ((nodes.length - 1 : Nat) : Int) ≤ nodes.length := by omega
            clear hg4 hh4 kW
            have kA := all_any G (nodes.length - 1) nodes.length us w5 hg5 (by rw [HU.out.1]; omega) (by rw [HU.out.1]; omega)
            have kB := all_any H types.length types.length tz w5 hh5 (by rw [HL2.out]; omega) (by rw [HL2.out]; omega)
            obtain ⟨bA, hbA⟩ : ∃ bA, decide (0 ∈ us.take (nodes.length - 1)) = bA := ⟨_, rfl⟩
            obtain ⟨bB, hbB⟩ : ∃ bB, decide (0 ∈ tz.take types.length) = bB := ⟨_, rfl⟩
            have HC4 : Hid (checkF ⟨nodes, types, aliases⟩ = (!bA && !bB)) := by
              rw [HC3.out, ← hbA, ← hbB]
              exact rfl
            rw [hbA] at kA
            rw [hbB] at kB
            clear hbA hbB HC3
            obtain ⟨m, hm⟩ : ∃ m, nodes.length - 1 = m := ⟨_, rfl⟩
            rw [hm] at hm1 kA ⊢
            have HM := Lib.hid hm
            clear hm
            cases bA <;> cases bB
            all_goals
              have hfin := HC4.out
              have hr2 := HR.out
              rw [hfin] at hr2
              have HFIN := Lib.hid hr2
              clear hfin hr2
              go_wp2_with (first | (go_at_call 74; first | (refine kA.mono ?_; rintro e w6 ⟨rfl, rfl⟩) | (refine kB.mono ?_; rintro e w6 ⟨rfl, rfl⟩)))
              go_ret
              exact ⟨ret_int (by have := HFIN.out; simpa using this), HBF.out.trans (hb5.mono (by omega))⟩
  · have hc : checkF t = false := by unfold checkF; rw [decide_eq_false (by omega), Bool.false_and]
    rw [hc]
    obtain ⟨nodes, types, aliases⟩ := t
    obtain ⟨a1, c1, a2, c2, a3, c3⟩ := p
    dsimp only at *
    obtain rfl : nodes = [] := List.eq_nil_of_length_eq_zero (by omega)
    clear hc kM
    go_enter Tryz.func60, Tryz.ntmps60
    go_wp2
    go_ret
    exact ⟨rfl, (Below.refl _ _).alloc (Nat.le_refl _) _⟩
end Go.Proofs.YtggchkddmihobaaGreatDoor
