/- Whether the terms of a tree may be: at every tree of parts of a bounded size. -/
import Derived.Test.YtggchkddmihobaaGreatDoorMayB
namespace Go.Proofs.YtggchkddmihobaaGreatDoor
open Go Go.Proofs Go.RowKit

theorem takeF_len : ∀ (ks us : List Int) (e : Int), (takeF us ks e).2.length = us.length
  | [], us, e => rfl
  | k :: ks, us, e => by
    unfold takeF
    split
    · rfl
    · split
      · simp
      · rw [takeF_len ks]; simp
theorem takeF_bits : ∀ (ks us : List Int) (e : Int), Bits01 us → (takeF us ks e).1 = true → Bits01 (takeF us ks e).2
  | [], us, e, h, _ => h
  | k :: ks, us, e, h, ht => by
    unfold takeF at ht ⊢
    split at ht
    · cases ht
    · rename_i h1
      rw [if_neg h1]
      split at ht
      · cases ht
      · rename_i h2
        rw [if_neg h2]
        refine takeF_bits ks _ e (h.set _ ?_) ht
        by_cases hl : k.toNat < us.length
        · have := h _ (List.getElem_mem hl)
          have hg : us.getD k.toNat 0 = us[k.toNat] := by simp [List.getD_eq_getElem?_getD, hl]
          rw [hg] at h2 ⊢
          omega
        · have hg : us.getD k.toNat 0 = 0 := by simp [List.getD_eq_getElem?_getD, Nat.not_lt.1 hl]
          rw [hg]; omega

/-- What becomes of the counts when the terms are asked, from number i on. -/
def termsF (nt : Int) : Nat → List TermD → List Int → List Int → Bool × List Int × List Int
  | _, [], us, ts => (true, us, ts)
  | i, n :: ns, us, ts =>
    if (takeF us n.kids i).1 then
      if (takeF ts n.types nt).1 then
        if termB n then termsF nt (i + 1) ns (takeF us n.kids i).2 (takeF ts n.types nt).2
        else (false, [], [])
      else (false, [], [])
    else (false, [], [])

def TermsPost (n₀ g h : Nat) (F : Bool × List Int × List Int) (w : World) (e : Ending) (w' : World) : Prop :=
  e = .returned (.bool F.1) ∧ (F.1 = true → Blk w' g 3 (ivs F.2.1) ∧ Blk w' h 3 (ivs F.2.2)) ∧ Below n₀ w w'
theorem TermsPost.no {n₀ g h : Nat} {F : Bool × List Int × List Int} {w w' : World} (hF : F.1 = false) (hb : Below n₀ w w') : TermsPost n₀ g h F w (.returned (.bool false)) w' :=
  ⟨by rw [hF], (fun h => by rw [hF] at h; cases h), hb⟩
theorem TermsPost.yes {n₀ g h : Nat} {F : Bool × List Int × List Int} {us ts : List Int} {w w' : World} (hF : F = (true, us, ts)) (h1 : Blk w' g 3 (ivs us)) (h2 : Blk w' h 3 (ivs ts)) (hb : Below n₀ w w') : TermsPost n₀ g h F w (.returned (.bool true)) w' := by
  subst hF
  exact ⟨rfl, fun _ => ⟨h1, h2⟩, hb⟩

theorem take_at {n₀ g : Nat} {w : World} {A : Option Addr} {n : Nat} {xs : List Value} (h : SlAt (Lt n₀) w A n xs) (hg : n₀ ≤ g) (hs : n₀ ≤ w.heap.size) : SlAt (fun b => b < w.heap.size ∧ b ≠ g) w A n xs :=
  h.imp fun b hb => ⟨Nat.lt_of_lt_of_le hb hs, fun e => by subst e; exact absurd hb (Nat.not_lt.2 hg)⟩

set_option maxRecDepth 100000 in
set_option maxHeartbeats 4000000 in
theorem terms_any (t : TreeD) (p : Ptr6) (n₀ g h cg ch : Nat) (us ts : List Int) (w : World) (hE : Env w) (hn₀ : n₀ ≤ w.heap.size) (hg : n₀ ≤ g) (hh : n₀ ≤ h) (hgh : g ≠ h) (hT : TreeAt (Lt n₀) w t p) (hF : ∀ x ∈ t.nodes, TermFew x)
    (hBg : Blk w g 3 (ivs us)) (hBh : Blk w h 3 (ivs ts)) (hu : us.length = t.nodes.length) (ht : ts.length = t.types.length) (hb1 : Bits01 us) (hb2 : Bits01 ts) (hn : t.nodes.length ≤ 65536) (hm : t.types.length ≤ 65536) (h3 : 4 ≤ n₀) :
    Calls Tryz.prog 70 #[treeV t p, .slice (some ⟨g, 0, none⟩) t.nodes.length cg, .slice (some ⟨h, 0, none⟩) t.types.length ch] w (TermsPost n₀ g h (termsF t.types.length 0 t.nodes us ts) w) := by
  obtain ⟨nodes, types, aliases⟩ := t
  obtain ⟨a1, c1, a2, c2, a3, c3⟩ := p
  have hN := hT.1
  clear hT
  dsimp only at *
  have hr0 := (Below.refl n₀ w).alloc hn₀ (.cells #[.slice a1 nodes.length c1, .slice a2 types.length c2, .slice a3 aliases.length c3] 126)
  have hg1 := hBg.alloc (.cells #[.slice a1 nodes.length c1, .slice a2 types.length c2, .slice a3 aliases.length c3] 126)
  have hh1 := hBh.alloc (.cells #[.slice a1 nodes.length c1, .slice a2 types.length c2, .slice a3 aliases.length c3] 126)
  obtain ⟨F, hF'⟩ : ∃ F, termsF types.length 0 nodes us ts = F := ⟨_, rfl⟩
  rw [hF']
  have HF' := Lib.hid hF'
  clear hF'
  go_enter Tryz.func70, Tryz.ntmps70
  go_wp2
  go_loopw [7, 8, 12] (fun _ _ i wr => ∃ (k : Nat) (cu ct : List Int), k ≤ nodes.length ∧ i = .int .i64 k ∧ Below n₀ w wr ∧ Blk wr g 3 (ivs cu) ∧ Blk wr h 3 (ivs ct) ∧ Hid (cu.length = nodes.length ∧ ct.length = types.length ∧ Bits01 cu ∧ Bits01 ct ∧ F = termsF types.length k (nodes.drop k) cu ct)) (fun _ _ i _ => nodes.length - (intOf i).toNat)
  case atStart => exact ⟨0, us, ts, Nat.zero_le _, rfl, hr0, hg1, hh1, Lib.hid ⟨hu, ht, hb1, hb2, HF'.out.symm⟩⟩
  case round =>
    obtain ⟨k, cu, ct, hk, rfl, hB, hBu, hBt, HI⟩ := hrel
    have hws := hB.size
    have hgl := hBu.lt
    have hhl := hBt.lt
    by_cases hlt : k < nodes.length
    · obtain ⟨b, off, rfl, hb, hcell⟩ := hN (by omega)
      obtain ⟨q, hq, hcq⟩ := hcell k nodes[k] (List.getElem?_eq_getElem hlt)
      have hfew := hF _ (List.getElem_mem hlt)
      have hd : nodes.drop k = nodes[k] :: nodes.drop (k + 1) := List.drop_eq_getElem_cons hlt
      obtain ⟨x, hx⟩ : ∃ x, nodes[k] = x := ⟨_, rfl⟩
      rw [hx] at hq hcq hfew hd
      clear hx hcell
      have e0 := (hB.cell (p := ⟨b, off + k * 8, none⟩) hb).trans (hcq 0 _ rfl)
      have e1 := (hB.cell (p := ⟨b, off + k * 8 + 1, none⟩) hb).trans (hcq 1 _ rfl)
      have e2 := (hB.cell (p := ⟨b, off + k * 8 + 2, none⟩) hb).trans (hcq 2 _ rfl)
      have e3 := (hB.cell (p := ⟨b, off + k * 8 + 3, none⟩) hb).trans (hcq 3 _ rfl)
      have e4 := (hB.cell (p := ⟨b, off + k * 8 + 4, none⟩) hb).trans (hcq 4 _ rfl)
      have e5 := (hB.cell (p := ⟨b, off + k * 8 + 5, none⟩) hb).trans (hcq 5 _ rfl)
      have e6 := (hB.cell (p := ⟨b, off + k * 8 + 6, none⟩) hb).trans (hcq 6 _ rfl)
      have e7 := (hB.cell (p := ⟨b, off + k * 8 + 7, none⟩) hb).trans (hcq 7 _ rfl)
      clear hcq
      have HD := Lib.hid hd
      clear hd
      obtain ⟨f1, f2, f3, f4, f5⟩ := hfew
      have HQ := Lib.hid (HI.out)
      have hBA : Below n₀ w (wr.alloc (.cells (termCells x q).toArray 121)) := hB.alloc (by omega) _
      have hzA : (wr.alloc (.cells (termCells x q).toArray 121)).heap.size = wr.heap.size + 1 := World.size_alloc _ _
      have k1 := take_any g nodes.length cg q.c6 cu x.kids q.a6 k (wr.alloc (.cells (termCells x q).toArray 121)) (hBu.alloc _) HI.out.1 (take_at (hq.2.1.keep (keep_below hBA)) hg (by omega)) (by omega) (by omega) HI.out.2.2.1
      obtain ⟨R, hR⟩ : ∃ R, takeF cu x.kids k = R := ⟨_, rfl⟩
      have hR1 := takeF_len x.kids cu k
      have hR2 := takeF_bits x.kids cu k HI.out.2.2.1
      unfold TakePost at k1
      rw [hR] at k1 hR1 hR2
      obtain ⟨r, cu'⟩ := R
      dsimp only at k1 hR1 hR2
      have HR := Lib.hid hR
      have HR1 := Lib.hid hR1
      have HR2 := Lib.hid hR2
      have HZ := Lib.hid hzA
      clear hR hR1 hR2 hzA
      unfold termCells at k1 HZ hBA
      cases r
      · have hfin : F.1 = false := by rw [HQ.out.2.2.2.2, HD.out, termsF, HR.out]; rfl
        have HN := Lib.hid hfin
        clear hfin
        go_wp2_with (go_at_call 81; refine k1.mono ?_; rintro e w2 ⟨rfl, hB2, hg2⟩)
        go_ret
        exact TermsPost.no HN.out (hBA.trans (only_below hg2 hg (by have := HZ.out; omega)))
      · have hbit := HR2.out rfl
        have hblen := HR1.out
        have HBT := Lib.hid (And.intro hblen hbit)
        clear HR1 HR2 hbit hblen
        go_wp2_with fail
        refine k1.mono ?_
        rintro e w2 ⟨rfl, hB2, hg2⟩
        have hb2 : Below n₀ w w2 := hBA.trans (only_below hg2 hg (by have := HZ.out; omega))
        have hs2 := hg2.size
        rw [HZ.out] at hs2
        have hx2 : ∀ o, w2.cell? ⟨wr.heap.size, o, none⟩ = (wr.alloc (.cells #[.int .i64 x.kind, .int .i64 x.pos, .string x.name, .int .i64 x.int, .int .u64 (x.bits : Int), .slice q.a5 x.names.length q.c5, .slice q.a6 x.kids.length q.c6, .slice q.a7 x.types.length q.c7] 121)).cell? ⟨wr.heap.size, o, none⟩ :=
          fun o => only_cell hg2 (by dsimp only; rw [HZ.out]; omega) (by dsimp only; omega)
        have hBh2 := (hBt.alloc (.cells #[.int .i64 x.kind, .int .i64 x.pos, .string x.name, .int .i64 x.int, .int .u64 (x.bits : Int), .slice q.a5 x.names.length q.c5, .slice q.a6 x.kids.length q.c6, .slice q.a7 x.types.length q.c7] 121)).grown hg2 (fun e => by injection e with e; exact hgh e.symm)
        clear k1
        have k2 := take_any h types.length ch q.c7 ct x.types q.a7 types.length w2 hBh2 HQ.out.2.1 (take_at (hq.2.2.keep (keep_below hb2)) hh (by omega)) (by omega) (by omega) HQ.out.2.2.2.1
        obtain ⟨R, hR⟩ : ∃ R, takeF ct x.types types.length = R := ⟨_, rfl⟩
        have hR1 := takeF_len x.types ct types.length
        have hR2 := takeF_bits x.types ct types.length HQ.out.2.2.2.1
        unfold TakePost at k2
        rw [hR] at k2 hR1 hR2
        obtain ⟨r, ct'⟩ := R
        dsimp only at k2 hR1 hR2
        have HRt := Lib.hid hR
        have HR1 := Lib.hid hR1
        have HR2 := Lib.hid hR2
        clear hR hR1 hR2
        cases r
        · have hfin : F.1 = false := by rw [HQ.out.2.2.2.2, HD.out, termsF, HR.out, HRt.out]; rfl
          have HN := Lib.hid hfin
          clear hfin
          go_wp2_with (go_at_call 81; refine k2.mono ?_; rintro e w3 ⟨rfl, hB3, hg3⟩)
          go_ret
          exact TermsPost.no HN.out (hb2.trans (only_below hg3 hh (by omega)))
        · have hbit := HR2.out rfl
          have hblen := HR1.out
          have HBT2 := Lib.hid (And.intro hblen hbit)
          clear HR1 HR2 hbit hblen
          go_wp2_with fail
          refine k2.mono ?_
          rintro e w3 ⟨rfl, hB3, hg3⟩
          have hb3 : Below n₀ w w3 := hb2.trans (only_below hg3 hh (by omega))
          have hs3 := hg3.size
          have hx3 : ∀ o, w3.cell? ⟨wr.heap.size, o, none⟩ = w2.cell? ⟨wr.heap.size, o, none⟩ := fun o => only_cell hg3 (by dsimp only; omega) (by dsimp only; omega)
          have hBg3 := hB2.grown hg3 (fun e => by injection e with e; exact hgh e)
          clear k2
          have kM := termMay_any x q w3 ⟨tabs_below (n₀ := n₀) h3 hb3 hE.1, by omega⟩ ⟨f1, f2, f3, f4, f5⟩ ⟨(hq.1.keep (keep_below hb3)).imp (lt_mono (by omega)), (hq.2.1.keep (keep_below hb3)).imp (lt_mono (by omega)), (hq.2.2.keep (keep_below hb3)).imp (lt_mono (by omega))⟩
          unfold termCells at kM
          cases hM : termB x
          · rw [hM] at kM
            have hfin : F.1 = false := by rw [HQ.out.2.2.2.2, HD.out, termsF, HR.out, HRt.out, hM]; rfl
            have HN := Lib.hid hfin
            clear hfin hM
            go_wp2_with (go_at_call 82; refine kM.mono ?_; rintro e w4 ⟨rfl, hb4⟩)
            go_ret
            exact TermsPost.no HN.out (hb3.trans (hb4.mono (by omega)))
          · rw [hM] at kM
            have hfin : F = termsF types.length (k + 1) (nodes.drop (k + 1)) cu' ct' := by rw [HQ.out.2.2.2.2, HD.out, termsF, HR.out, HRt.out, hM]; rfl
            have HN := Lib.hid hfin
            clear hfin hM
            go_wp2_with (go_at_call 82; refine kM.mono ?_; rintro e w4 ⟨rfl, hb4⟩)
            go_roundw
            case rel => exact ⟨k + 1, cu', ct', by omega, by go_num, hb3.trans (hb4.mono (by omega)), hBg3.below hb4 (by omega), hB3.below hb4 (by omega), Lib.hid ⟨by rw [HBT.out.1]; exact HQ.out.1, by rw [HBT2.out.1]; exact HQ.out.2.1, HBT.out.2, HBT2.out.2, HN.out⟩⟩
            case measure => simp [intOf]; omega
    · obtain rfl : k = nodes.length := by omega
      go_wp2
      go_ret
      exact TermsPost.yes (by rw [HI.out.2.2.2.2, List.drop_length, termsF]) hBu hBt hB
end Go.Proofs.YtggchkddmihobaaGreatDoor
