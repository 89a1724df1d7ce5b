/- Whether the types and the aliases of a tree may be: at every tree of parts of a bounded size. -/
import Derived.Test.YtggchkddmihobaaGreatDoorTerms
namespace Go.Proofs.YtggchkddmihobaaGreatDoor
open Go Go.Proofs Go.RowKit

def typsF : Nat → List TypD → List Int → Bool × List Int
  | _, [], us => (true, us)
  | i, n :: ns, us => if (takeF us n.kids i).1 then if typB n then typsF (i + 1) ns (takeF us n.kids i).2 else (false, []) else (false, [])
def alisF (nt : Int) : List AliD → List Int → Bool × List Int
  | [], us => (true, us)
  | a :: al, us => if aliasB (tl a.name) then if (takeF us [a.type] nt).1 then alisF nt al (takeF us [a.type] nt).2 else (false, []) else (false, [])

def TypsPost (n₀ h : Nat) (F : Bool × List Int) (w : World) (e : Ending) (w' : World) : Prop :=
  e = .returned (.bool F.1) ∧ (F.1 = true → Blk w' h 3 (ivs F.2)) ∧ (∀ g cs, g ≠ h → Blk w g 3 cs → Blk w' g 3 cs) ∧ Below n₀ w w'
theorem TypsPost.no {n₀ h : Nat} {F : Bool × List Int} {w w' : World} (hF : F.1 = false) (hk : ∀ g cs, g ≠ h → Blk w g 3 cs → Blk w' g 3 cs) (hb : Below n₀ w w') : TypsPost n₀ h F w (.returned (.bool false)) w' :=
  ⟨by rw [hF], (fun h => by rw [hF] at h; cases h), hk, hb⟩
theorem TypsPost.yes {n₀ h : Nat} {F : Bool × List Int} {us : List Int} {w w' : World} (hF : F = (true, us)) (h1 : Blk w' h 3 (ivs us)) (hk : ∀ g cs, g ≠ h → Blk w g 3 cs → Blk w' g 3 cs) (hb : Below n₀ w w') : TypsPost n₀ h F w (.returned (.bool true)) w' := by
  subst hF
  exact ⟨rfl, fun _ => h1, hk, hb⟩

/-- Blocks of numbers but h are kept. -/
def KeepBut (h : Nat) (w w' : World) : Prop := ∀ g cs, g ≠ h → Blk w g 3 cs → Blk w' g 3 cs
theorem KeepBut.refl (h : Nat) (w : World) : KeepBut h w w := fun _ _ _ hb => hb
theorem KeepBut.alloc {h : Nat} {w w' : World} (k : KeepBut h w w') (o : Obj) : KeepBut h w (w'.alloc o) := fun g cs hg hb => (k g cs hg hb).alloc o
theorem KeepBut.only {h : Nat} {w w' w2 : World} (k : KeepBut h w w') (hg : w'.grownBy w2 (some h)) : KeepBut h w w2 := fun g cs hne hb => (k g cs hne hb).grown hg (fun e => by injection e with e; exact hne e)
theorem KeepBut.below {h : Nat} {w w' w2 : World} (k : KeepBut h w w') (hb : Below w'.heap.size w' w2) : KeepBut h w w2 := fun g cs hne h1 => (k g cs hne h1).below hb (k g cs hne h1).lt

set_option maxRecDepth 100000 in
set_option maxHeartbeats 4000000 in
theorem typs_any (t : TreeD) (p : Ptr6) (n₀ h ch : Nat) (ts : List Int) (w : World) (hn₀ : n₀ ≤ w.heap.size) (hh : n₀ ≤ h) (hT : TreeAt (Lt n₀) w t p) (hF : ∀ x ∈ t.types, TypFew x)
    (hBh : Blk w h 3 (ivs ts)) (ht : ts.length = t.types.length) (hb2 : Bits01 ts) (hm : t.types.length ≤ 65536) :
    Calls Tryz.prog 71 #[treeV t p, .slice (some ⟨h, 0, none⟩) t.types.length ch] w (TypsPost n₀ h (typsF 0 t.types ts) w) := by
  obtain ⟨nodes, types, aliases⟩ := t
  obtain ⟨a1, c1, a2, c2, a3, c3⟩ := p
  have hN := hT.2.1
  clear hT
  dsimp only at *
  have hr0 := (Below.refl n₀ w).alloc hn₀ (.cells #[.slice a1 nodes.length c1, .slice a2 types.length c2, .slice a3 aliases.length c3] 126)
  have hh1 := hBh.alloc (.cells #[.slice a1 nodes.length c1, .slice a2 types.length c2, .slice a3 aliases.length c3] 126)
  have hk1 := (KeepBut.refl h w).alloc (.cells #[.slice a1 nodes.length c1, .slice a2 types.length c2, .slice a3 aliases.length c3] 126)
  obtain ⟨F, hF'⟩ : ∃ F, typsF 0 types ts = F := ⟨_, rfl⟩
  rw [hF']
  have HF' := Lib.hid hF'
  clear hF'
  go_enter Tryz.func71, Tryz.ntmps71
  go_wp2
  go_loopw [5, 6, 10] (fun _ _ i wr => ∃ (k : Nat) (ct : List Int), k ≤ types.length ∧ i = .int .i64 k ∧ Below n₀ w wr ∧ Blk wr h 3 (ivs ct) ∧ Hid (KeepBut h w wr) ∧ Hid (ct.length = types.length ∧ Bits01 ct ∧ F = typsF k (types.drop k) ct)) (fun _ _ i _ => types.length - (intOf i).toNat)
  case atStart => exact ⟨0, ts, Nat.zero_le _, rfl, hr0, hh1, Lib.hid hk1, Lib.hid ⟨ht, hb2, HF'.out.symm⟩⟩
  case round =>
    obtain ⟨k, ct, hk, rfl, hB, hBt, HK, HI⟩ := hrel
    have hws := hB.size
    have hhl := hBt.lt
    by_cases hlt : k < types.length
    · obtain ⟨b, off, rfl, hb, hcell⟩ := hN (by omega)
      obtain ⟨q, hq, hcq⟩ := hcell k types[k] (List.getElem?_eq_getElem hlt)
      have hfew := hF _ (List.getElem_mem hlt)
      have hd : types.drop k = types[k] :: types.drop (k + 1) := List.drop_eq_getElem_cons hlt
      obtain ⟨x, hx⟩ : ∃ x, types[k] = x := ⟨_, rfl⟩
      rw [hx] at hq hcq hfew hd
      clear hx hcell
      have e0 := (hB.cell (p := ⟨b, off + k * 6, none⟩) hb).trans (hcq 0 _ rfl)
      have e1 := (hB.cell (p := ⟨b, off + k * 6 + 1, none⟩) hb).trans (hcq 1 _ rfl)
      have e2 := (hB.cell (p := ⟨b, off + k * 6 + 2, none⟩) hb).trans (hcq 2 _ rfl)
      have e3 := (hB.cell (p := ⟨b, off + k * 6 + 3, none⟩) hb).trans (hcq 3 _ rfl)
      have e4 := (hB.cell (p := ⟨b, off + k * 6 + 4, none⟩) hb).trans (hcq 4 _ rfl)
      have e5 := (hB.cell (p := ⟨b, off + k * 6 + 5, none⟩) hb).trans (hcq 5 _ rfl)
      clear hcq
      have HD := Lib.hid hd
      clear hd
      have f4 := hfew.2.2.2
      have HFew := Lib.hid hfew
      clear hfew
      have HQ := Lib.hid (HI.out)
      have hBA : Below n₀ w (wr.alloc (.cells (typCells x q).toArray 128)) := hB.alloc (by omega) _
      have hzA : (wr.alloc (.cells (typCells x q).toArray 128)).heap.size = wr.heap.size + 1 := World.size_alloc _ _
      have k1 := take_any h types.length ch q.c4 ct x.kids q.a4 k (wr.alloc (.cells (typCells x q).toArray 128)) (hBt.alloc _) HI.out.1 (take_at (hq.2.keep (keep_below hBA)) hh (by omega)) (by omega) (by omega) HI.out.2.1
      obtain ⟨R, hR⟩ : ∃ R, takeF ct x.kids k = R := ⟨_, rfl⟩
      have hR1 := takeF_len x.kids ct k
      have hR2 := takeF_bits x.kids ct k HI.out.2.1
      unfold TakePost at k1
      rw [hR] at k1 hR1 hR2
      obtain ⟨r, ct'⟩ := R
      dsimp only at k1 hR1 hR2
      have HR := Lib.hid hR
      have HR1 := Lib.hid hR1
      have HR2 := Lib.hid hR2
      have HZ := Lib.hid hzA
      clear hR hR1 hR2 hzA
      unfold typCells at k1 HZ hBA
      cases r
      · have hfin : F.1 = false := by rw [HQ.out.2.2, HD.out, typsF, HR.out]; rfl
        have HN := Lib.hid hfin
        clear hfin
        go_wp2_with (go_at_call 81; refine k1.mono ?_; rintro e w2 ⟨rfl, hB2, hg2⟩)
        go_ret
        exact TypsPost.no HN.out ((HK.out.alloc _).only hg2) (hBA.trans (only_below hg2 hh (by have := HZ.out; omega)))
      · have hbit := HR2.out rfl
        have hblen := HR1.out
        have HBT := Lib.hid (And.intro hblen hbit)
        clear HR1 HR2 hbit hblen
        go_wp2_with fail
        refine k1.mono ?_
        rintro e w2 ⟨rfl, hB2, hg2⟩
        have hb2 : Below n₀ w w2 := hBA.trans (only_below hg2 hh (by have := HZ.out; omega))
        have hs2 := hg2.size
        rw [HZ.out] at hs2
        have hx2 : ∀ o, w2.cell? ⟨wr.heap.size, o, none⟩ = (wr.alloc (.cells #[.int .i64 x.kind, .int .i64 x.pos, .string x.name, .slice q.a3 x.names.length q.c3, .slice q.a4 x.kids.length q.c4, .bool x.opn] 128)).cell? ⟨wr.heap.size, o, none⟩ :=
          fun o => only_cell hg2 (by dsimp only; rw [HZ.out]; omega) (by dsimp only; omega)
        have HK2 := Lib.hid ((HK.out.alloc (.cells #[.int .i64 x.kind, .int .i64 x.pos, .string x.name, .slice q.a3 x.names.length q.c3, .slice q.a4 x.kids.length q.c4, .bool x.opn] 128)).only hg2)
        clear k1
        have kM := typMay_any x q w2 HFew.out ⟨(hq.1.keep (keep_below hb2)).imp (lt_mono (by omega)), (hq.2.keep (keep_below hb2)).imp (lt_mono (by omega))⟩
        unfold typCells at kM
        cases hM : typB x
        · rw [hM] at kM
          have hfin : F.1 = false := by rw [HQ.out.2.2, HD.out, typsF, HR.out, hM]; rfl
          have HN := Lib.hid hfin
          clear hfin hM
          go_wp2_with (go_at_call 83; refine kM.mono ?_; rintro e w4 ⟨rfl, hb4⟩)
          go_ret
          exact TypsPost.no HN.out (HK2.out.below hb4) (hb2.trans (hb4.mono (by omega)))
        · rw [hM] at kM
          have hfin : F = typsF (k + 1) (types.drop (k + 1)) ct' := by rw [HQ.out.2.2, HD.out, typsF, HR.out, hM]; rfl
          have HN := Lib.hid hfin
          clear hfin hM
          go_wp2_with (go_at_call 83; refine kM.mono ?_; rintro e w4 ⟨rfl, hb4⟩)
          go_roundw
          case rel => exact ⟨k + 1, ct', by omega, by go_num, hb2.trans (hb4.mono (by omega)), hB2.below hb4 (by omega), Lib.hid (HK2.out.below hb4), Lib.hid ⟨by rw [HBT.out.1]; exact HQ.out.1, HBT.out.2, HN.out⟩⟩
          case measure => simp [intOf]; omega
    · obtain rfl : k = types.length := by omega
      go_wp2
      go_ret
      exact TypsPost.yes (by rw [HI.out.2.2, List.drop_length, typsF]) hBt HK.out hB

set_option maxRecDepth 100000 in
set_option maxHeartbeats 4000000 in
theorem alis_any (t : TreeD) (p : Ptr6) (n₀ h ch : Nat) (ts : List Int) (w : World) (hn₀ : n₀ ≤ w.heap.size) (hh : n₀ ≤ h) (hT : TreeAt (Lt n₀) w t p) (hF : ∀ x ∈ t.aliases, x.name.size ≤ 1000)
    (hBh : Blk w h 3 (ivs ts)) (ht : ts.length = t.types.length) (hb2 : Bits01 ts) (hm : t.types.length ≤ 65536) (hl : t.aliases.length ≤ 65536) :
    Calls Tryz.prog 72 #[treeV t p, .slice (some ⟨h, 0, none⟩) t.types.length ch] w (TypsPost n₀ h (alisF t.types.length t.aliases ts) w) := by
  obtain ⟨nodes, types, aliases⟩ := t
  obtain ⟨a1, c1, a2, c2, a3, c3⟩ := p
  have hN := hT.2.2
  clear hT
  dsimp only at *
  have hr0 := (Below.refl n₀ w).alloc hn₀ (.cells #[.slice a1 nodes.length c1, .slice a2 types.length c2, .slice a3 aliases.length c3] 126)
  have hh1 := hBh.alloc (.cells #[.slice a1 nodes.length c1, .slice a2 types.length c2, .slice a3 aliases.length c3] 126)
  have hk1 := (KeepBut.refl h w).alloc (.cells #[.slice a1 nodes.length c1, .slice a2 types.length c2, .slice a3 aliases.length c3] 126)
  obtain ⟨F, hF'⟩ : ∃ F, alisF types.length aliases ts = F := ⟨_, rfl⟩
  rw [hF']
  have HF' := Lib.hid hF'
  clear hF'
  go_enter Tryz.func72, Tryz.ntmps72
  go_wp2
  go_loopw [6, 10] (fun _ i wr => ∃ (k : Nat) (ct : List Int), k ≤ aliases.length ∧ i = .int .i64 k ∧ Below n₀ w wr ∧ Blk wr h 3 (ivs ct) ∧ Hid (KeepBut h w wr) ∧ Hid (ct.length = types.length ∧ Bits01 ct ∧ F = alisF types.length (aliases.drop k) ct)) (fun _ i _ => aliases.length - (intOf i).toNat)
  case atStart => exact ⟨0, ts, Nat.zero_le _, rfl, hr0, hh1, Lib.hid hk1, Lib.hid ⟨ht, hb2, HF'.out.symm⟩⟩
  case round =>
    obtain ⟨k, ct, hk, rfl, hB, hBt, HK, HI⟩ := hrel
    have hws := hB.size
    have hhl := hBt.lt
    by_cases hlt : k < aliases.length
    · obtain ⟨b, off, rfl, hb, hcell⟩ := hN (by omega)
      have hcq := hcell k aliases[k] (List.getElem?_eq_getElem hlt)
      have hfew := hF _ (List.getElem_mem hlt)
      have hd : aliases.drop k = aliases[k] :: aliases.drop (k + 1) := List.drop_eq_getElem_cons hlt
      obtain ⟨x, hx⟩ : ∃ x, aliases[k] = x := ⟨_, rfl⟩
      rw [hx] at hcq hfew hd
      clear hx hcell
      have e0 := (hB.cell (p := ⟨b, off + k * 3, none⟩) hb).trans (hcq 0 _ rfl)
      have e1 := (hB.cell (p := ⟨b, off + k * 3 + 1, none⟩) hb).trans (hcq 1 _ rfl)
      have e2 := (hB.cell (p := ⟨b, off + k * 3 + 2, none⟩) hb).trans (hcq 2 _ rfl)
      clear hcq
      have HD := Lib.hid hd
      clear hd
      have HQ := Lib.hid (HI.out)
      have kA := isAlias_any x.name hfew
      have hBA : Below n₀ w (wr.alloc (.cells #[.string x.name, .int .i64 x.type, .int .i64 x.pos] 158)) := hB.alloc (by omega) _
      cases hA : aliasB (tl x.name)
      · rw [hA] at kA
        have hfin : F.1 = false := by rw [HQ.out.2.2, HD.out, alisF, hA]; rfl
        have HN := Lib.hid hfin
        clear hfin hA
        go_wp2_with (go_at_call 84; refine (kA _).mono ?_; rintro e w2 ⟨rfl, rfl⟩)
        go_ret
        exact TypsPost.no HN.out (HK.out.alloc _) hBA
      · rw [hA] at kA
        have HA := Lib.hid hA
        clear hA
        have hB2 : Below n₀ w ((wr.alloc (.cells #[.string x.name, .int .i64 x.type, .int .i64 x.pos] 158)).alloc (.cells #[.int .i64 x.type] 3)) := hBA.alloc (by simp only [World.size_alloc]; omega) _
        have hz2 : ((wr.alloc (.cells #[.string x.name, .int .i64 x.type, .int .i64 x.pos] 158)).alloc (.cells #[.int .i64 x.type] 3)).heap.size = wr.heap.size + 2 := by simp only [World.size_alloc]
        have k1 := take_any h types.length ch 1 ct [x.type] (some ⟨wr.heap.size + 1, 0, none⟩) types.length ((wr.alloc (.cells #[.string x.name, .int .i64 x.type, .int .i64 x.pos] 158)).alloc (.cells #[.int .i64 x.type] 3)) ((hBt.alloc _).alloc _) HI.out.1
          ⟨rfl, fun _ => ⟨_, _, rfl, ⟨by rw [hz2]; omega, by omega⟩, fun j u hu => by
            have := (Blk.new (wr.alloc (.cells #[.string x.name, .int .i64 x.type, .int .i64 x.pos] 158)) 3 #[.int .i64 x.type]).cell (0 + j)
            rw [World.size_alloc] at this
            rw [this, Nat.zero_add]
            simpa using hu⟩⟩ (by simp) (by omega) HI.out.2.1
        obtain ⟨R, hR⟩ : ∃ R, takeF ct [x.type] types.length = R := ⟨_, rfl⟩
        have hR1 := takeF_len [x.type] ct types.length
        have hR2 := takeF_bits [x.type] ct types.length HI.out.2.1
        unfold TakePost at k1
        rw [hR] at k1 hR1 hR2
        obtain ⟨r, ct'⟩ := R
        dsimp only at k1 hR1 hR2
        have HR := Lib.hid hR
        have HR1 := Lib.hid hR1
        have HR2 := Lib.hid hR2
        have HZ := Lib.hid hz2
        clear hR hR1 hR2 hz2
        have k1' : Calls Tryz.prog 81 #[.slice (some ⟨h, 0, none⟩) types.length ch, .slice (some ⟨wr.heap.size + 1, 0, none⟩) 1 1, .int .i64 types.length] _ _ := k1
        clear k1
        cases r
        · have hfin : F.1 = false := by rw [HQ.out.2.2, HD.out, alisF, HA.out, HR.out]; rfl
          have HN := Lib.hid hfin
          clear hfin
          go_wp2_with (first | (go_at_call 84; refine (kA _).mono ?_; rintro e w2 ⟨rfl, rfl⟩) | (go_at_call 81; refine k1'.mono ?_; rintro e w2 ⟨rfl, hB2', hg2⟩))
          go_ret
          exact TypsPost.no HN.out (((HK.out.alloc _).alloc _).only hg2) (hB2.trans (only_below hg2 hh (by have := HZ.out; omega)))
        · have hbit := HR2.out rfl
          have HBT := Lib.hid hbit
          clear hbit HR2
          have hfin : F = alisF types.length (aliases.drop (k + 1)) ct' := by rw [HQ.out.2.2, HD.out, alisF, HA.out, HR.out]; rfl
          have HN := Lib.hid hfin
          clear hfin
          go_wp2_with (first | (go_at_call 84; refine (kA _).mono ?_; rintro e w2 ⟨rfl, rfl⟩) | (go_at_call 81; refine k1'.mono ?_; rintro e w2 ⟨rfl, hB2', hg2⟩))
          have hs2 := hg2.size
          go_roundw
          case rel => exact ⟨k + 1, ct', by omega, by go_num, hB2.trans (only_below hg2 hh (by have := HZ.out; omega)), hB2', Lib.hid (((HK.out.alloc _).alloc _).only hg2), Lib.hid ⟨by rw [HR1.out]; exact HQ.out.1, HBT.out, HN.out⟩⟩
          case measure => simp [intOf]; omega
    · obtain rfl : k = aliases.length := by omega
      go_wp2
      go_ret
      exact TypsPost.yes (by rw [HI.out.2.2, List.drop_length, alisF]) hBt HK.out hB
end Go.Proofs.YtggchkddmihobaaGreatDoor
