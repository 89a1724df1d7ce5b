/- A part and all in it, each ahead of its kids, as the program tells them: the loop over a list that waits, with an iterator backward within. -/
import Derived.Test.YtinajnkjfhbmkaaDoorStack
namespace Go.Proofs.YtinajnkjfhbmkaaDoor
open Go Go.Proofs Go.RowKit Go.Shelf

attribute [local go_sem] Oper.semAt_some

abbrev nz (l : List Nat) : List Int := l.map fun k : Nat => (k : Int)
def slLen : Value → Nat
  | .slice _ n _ => n
  | _ => 0

/-- What holds at the loop's head. -/
structure AtHead (w : World) (kids : Nat → List Nat) (n : Nat) (L : List Nat) (out st : List Nat) (v1 v2 : Value) (Ds : List Nat) (W : World) : Prop where
  tell : L = out ++ st.reverse.flatMap (walk kids)
  lt : ∀ k ∈ st, k < n
  two : Two W w.heap.size v1 (nz out) v2 (nz st)
  box : Boxed W (w.heap.size + 1) 29 v2
  marks : Marks w.heap.size W Ds
  below : Below w.heap.size w W

/-- What holds between the rounds of the loop within: the kids pre have been laid to those that wait. -/
structure Within (b0 Bs : Nat) (v1 : Value) (out st : List Int) (Ds : List Nat) (u : Value) (w : World) (pre : List (Int × Int)) (W : World) : Prop where
  two : ∃ v2, Two W b0 v1 out v2 (st ++ pre.map Prod.snd) ∧ Boxed W (b0 + 1) 29 v2
  seq : Boxed W Bs 29 u
  marks : Marks b0 W Ds
  below : Below b0 w W

theorem within_own {b0 Bs B : Nat} {v1 : Value} {out st : List Int} {Ds : List Nat} {u : Value} {w : World} (hB : b0 ≤ B) (hD : ∀ D ∈ Ds, D < B) (hs : b0 ≤ w.heap.size) : OwnFrom B (Within b0 Bs v1 out st Ds u w) := by
  rintro pre W W' row ⟨⟨v2, hT, hb⟩, hq, hM, hbl⟩ hg hr
  have far : ∀ (C : Nat) (u : Value), Boxed W C 29 u → Boxed W' C 29 u := fun C u hC => hC.kept hg (fun e => by
    obtain ⟨_, o, ho, hc⟩ := hr C e.symm
    rw [show W.heap[C]? = _ from hC] at ho
    cases ho
    cases hc)
  refine ⟨⟨v2, hT.kept hg (fun g e => ?_), far _ _ hb⟩, far _ _ hq, ⟨hM.1, fun D hD' => ⟨(hM.2 D hD').1, (hg.block D (hM.lt D hD') (fun e => ?_)).trans (hM.2 D hD').2⟩⟩, hbl.grown hg (Nat.le_trans hs hbl.size) (fun k e => ?_)⟩
  · obtain ⟨_, o, ho, hc⟩ := hr g e
    exact .inr ⟨o, ho, fun cur he => by subst he; cases hc⟩
  · have := (hr D e.symm).1
    have := hD D hD'
    omega
  · have := (hr k e).1
    omega

/-- What a part's kids are, as the program asks for them. -/
def KidsPost (B : Nat) (ks : List Nat) (W : World) (e : Ending) (W' : World) : Prop :=
  (∃ A c, e = .returned (.slice A ks.length c) ∧ SlAt (Lt B) W A ks.length ((nz ks).map iv)) ∧ W = W'

theorem snd_bk (ks : List Nat) : (bk (nz ks)).map Prod.snd = nz ks.reverse := by rw [bk_snd]; exact List.map_reverse.symm

set_option maxRecDepth 100000 in
set_option maxHeartbeats 4000000 in
theorem ahead_any (fk : Nat) (hfk : fk = 48 ∨ fk = 60) (cap : Value) (kids : Nat → List Nat) (n root : Nat) (w : World) (hd : Dn kids n) (hr : root < n) (L : List Nat) (hL : walk kids root = L) (hLn : L.length ≤ 65536) (h0 : 0 < w.heap.size)
    (hk : ∀ i W, i < n → Below w.heap.size w W → Calls Tryd.prog fk #[.int .i64 (i : Int), cap] W (KidsPost w.heap.size (kids i) W)) :
    Calls Tryd.prog 28 #[.int .i64 (root : Int), .func (.func fk) #[] #[cap]] w (CopyPost w L.length ((nz L).map iv)) := by
  obtain ⟨i0, hi, hz0, hz1, hz2⟩ := info_parts info3
  refine (callsIn_wide (n := 9)).1 ?_
  refine callsIn_of_wp_marks Tryd.func28 rfl trivial ?_ rfl
  simp only [Tryd.ntmps28, List.size_toArray, List.length_cons, List.length_nil, Nat.reduceAdd, Nat.reduceSub, Array.replicate_succ, Array.replicate_zero, List.push_toArray, List.append_toArray, List.nil_append, List.cons_append]
  have HL := Lib.hid hL
  have HD := Lib.hid hd
  have HK := Lib.hid hk
  clear hL hd hk
  gi_wp2
  refine wpIn_loop (fun a W => ∃ (out st : List Nat) (v1 v2 : Value) (Ds : List Nat) (u7 u8 u13 u14 u15 u16 u17 u18 u19 u20 u21 u22 u23 u24 u25 u26 u27 u28 u29 u30 u31 u32 u33 : Value), Hid (AtHead w kids n L out st v1 v2 Ds W) ∧
      a = { tmps := #[.int .i64 (root : Int), .func (.func fk) #[] #[cap], undef, undef, .slice none 0 0, v1, .pointer (some { block := w.heap.size + 1, off := 0 }), u7, u8, undef, undef, .int .i64 (root : Int), .slice (some { block := w.heap.size, off := 0 }) 1 1, u13, u14, u15, u16, u17, u18, u19, u20, u21, u22, u23, u24, u25, u26, u27, u28, u29, u30, u31, u32, u33, undef, undef, undef, undef, undef, undef, undef], defers := Ds.map mark })
    (fun a _ => L.length - slLen (a.tmps.getD 5 undef)) ?start ?round
  case start =>
    refine ⟨[], [root], .slice none 0 0, .slice (some { block := w.heap.size, off := 0 }) 1 1, [], _, _, _, _, _, _, _, _, _, _, _, _, _, _, _, _, _, _, _, _, _, _, _, Lib.hid ?_, rfl⟩
    have hW := Blk.new w 3 #[.int .i64 (root : Int)]
    refine ⟨by simp [HL.out], fun k hk => by simp at hk; omega, ⟨World.ownsRow_nil _ _ _ _, ⟨rfl, .inr ⟨w.heap.size, 1, #[.int .i64 (root : Int)], rfl, Nat.le_refl _, hW.alloc _, Nat.le_refl _, by decide, rfl, rfl⟩⟩, .inl rfl⟩, ?_, Marks.nil _ _, ((Below.refl _ _).alloc (Nat.le_refl _) _).alloc (by simp) _⟩
    have := Boxed.new (w.alloc (.cells #[.int .i64 (root : Int)] 3)) 29 (.slice (some { block := w.heap.size, off := 0 }) 1 1)
    simpa using this
  case round =>
    rintro a W ⟨out, st, v1, v2, Ds, u7, u8, u13, u14, u15, u16, u17, u18, u19, u20, u21, u22, u23, u24, u25, u26, u27, u28, u29, u30, u31, u32, u33, HA, rfl⟩
    have hcb := HA.out.box.cell
    have hfb := HA.out.box.frozen
    rcases List.eq_nil_or_concat st with rfl | ⟨st, i, rfl⟩
    · obtain ⟨A2, c2, hv2⟩ : ∃ A2 c2, v2 = .slice A2 0 c2 := by
        obtain ⟨A2, c2, h, _, _⟩ := SlAt.of_own HA.out.two.2.1
        exact ⟨A2, c2, h⟩
      subst hv2
      have hLo : L = out := by have := HA.out.tell; simpa using this
      have HLO := Lib.hid hLo
      clear hLo
      gi_wp2
      have hsz : w.heap.size ≤ W.heap.size := HA.out.below.size
      refine leave_marks (B := w.heap.size) Ds W HA.out.marks hsz fun W' hS => ?_
      have hown := SlAt.shut HA.out.two.1 hS
      rw [← HLO.out, List.length_map] at hown
      obtain ⟨A1, c1, hv1, _, h1⟩ := SlAt.of_own hown
      subst hv1
      exact ⟨_, results_tmp rfl _ _ _, A1, c1, rfl, h1, HA.out.below.trans hS.below⟩
    · rw [List.concat_eq_append] at HA
      obtain ⟨g, c2, hv2⟩ : ∃ g c, v2 = .slice (some ⟨g, 0, none⟩) (st.length + 1) c := by
        have h2 := HA.out.two.2.1
        rw [show (nz (st ++ [i])).length = st.length + 1 by simp] at h2
        exact ownsRow_succ h2
      subst hv2
      have hcap : st.length + 1 ≤ c2 := by
        rcases HA.out.two.2.1.2 with h | ⟨g', cap', cur, he, _, _, hnc, _⟩
        · cases h.1
        · have h1 : c2 = cap' := by injection he
          rw [h1]
          simpa using hnc
      have hsl := stack_len HA.out.tell
      rw [List.length_append, List.length_singleton] at hsl
      have hci : W.cell? ⟨g, st.length, none⟩ = some (.int .i64 (i : Int)) := by
        obtain ⟨A2, c2, he, _, h2⟩ := SlAt.of_own HA.out.two.2.1
        have he1 : some ⟨g, 0, none⟩ = A2 := by injection he
        subst he1
        obtain ⟨b, off, hA, _, hc⟩ := h2.2 (by simp)
        cases hA
        have := hc st.length (.int .i64 (i : Int)) (by simp)
        rwa [Nat.zero_add] at this
      have hT0 := HA.out.two
      rw [show nz (st ++ [i]) = nz st ++ [(i : Int)] by simp] at hT0
      obtain ⟨hT1, hb1, hk1, hl1⟩ := two_cut hT0 (by simp) HA.out.box (Nat.le_succ _)
      have hin : i < n := HA.out.lt i (by simp)
      have hst := stack_step HD.out hin HA.out.tell
      have hsl2 := stack_len hst
      rw [List.length_append, List.length_append, List.length_reverse, List.length_singleton] at hsl2
      have hB1 := HA.out.below.trans hl1
      have hM1 := HA.out.marks.others hk1
      obtain ⟨W1, hW1⟩ : ∃ W1, W.setCell { block := w.heap.size + 1, off := 0 } (.slice (some { block := g, off := 0 }) st.length c2) = W1 := ⟨_, rfl⟩
      rw [hW1] at hT1 hb1 hB1 hM1
      have hzW : w.heap.size ≤ W1.heap.size := hB1.size
      have HT1 := Lib.hid hT1
      have HB1 := Lib.hid hb1
      have HM1 := Lib.hid hM1
      have HST := Lib.hid hst
      have hrd := rd_one W1 (.int .i64 (i : Int)) 3
      have HRD := Lib.hid hrd
      clear hT0 hT1 hb1 hk1 hl1 hM1 hst hrd
      obtain ⟨fj, hfj⟩ : ∃ fj, fj = fk := ⟨fk, rfl⟩
      have HFJ := Lib.hid hfj
      clear hfj
      rcases hfk with rfl | rfl
      all_goals
        gi_wp2_with (gi_at_builtin; refine wpListIn_app _ rfl _ _ 29 rfl w.heap.size 3 i0 (.int .i64 0) 1 8 Tryd.underlying29 hi hz0 hz1 hz2 rfl (by decide) v1 out.length ((nz out).map iv) rfl (by have := HT1.out.1; rw [List.length_map] at this; exact this.alloc _) (some ⟨W1.heap.size, 0, none⟩) 1 1 [.int .i64 (i : Int)] rfl rfl HRD.out (by simp [Value.oneCell']) (by unfold maxLen; omega) (by omega) (by simp; omega) ?_; intro v1' W3 hown3 hgrow3 hloc3)
        have hz2' : (W1.alloc (.cells #[.int .i64 (i : Int)] 3)).heap.size = W1.heap.size + 1 := by simp
        have hout := two_out (news := [(i : Int)]) HT1.out hzW (by rw [List.length_map]; exact hown3) hgrow3 hloc3
        obtain ⟨hT3, hf3, hk3, hl3⟩ := hout
        have hb3 := hf3 _ _ HB1.out
        have hM3 := HM1.out.others hk3
        have hB3 := hB1.trans hl3
        have hz3 : w.heap.size + 1 < W3.heap.size := hb3.lt
        have HK3 := Lib.hid (HK.out i W3 hin hB3)
        have HT3 := Lib.hid hT3
        have HB3 := Lib.hid hb3
        have HM3 := Lib.hid hM3
        clear hT3 hb3 hM3 hf3 hk3 hl3 hown3 hgrow3 hloc3 hz2' hci hcb hfb
        refine ⟨trivial, ?_⟩
        first
          | (gi_at_call 48; refine (callsIn_wide.2 HK3.out).mono ?_)
          | (gi_at_call 60; refine (callsIn_wide.2 HK3.out).mono ?_)
        rintro e W4 ⟨⟨A, c, rfl, hS⟩, rfl⟩
        gi_wp2_with (refine ⟨trivial, ?_⟩; gi_at_call 47; refine (callsIn_wide.2 (mkBack_any _ _ _ _)).mono ?_; rintro e W5 ⟨rfl, rfl⟩)
        obtain ⟨b, hbB, hSb⟩ := hS.named h0
        have hlk : (nz (kids i)).length = (kids i).length := List.length_map _
        have hbox5 := Boxed.new W3 29 (.slice A (kids i).length c)
        obtain ⟨W5, hW5⟩ : ∃ W5, W3.alloc (.cells #[.slice A (kids i).length c] 29) = W5 := ⟨_, rfl⟩
        have hb35 : Below W3.heap.size W3 W5 := by rw [← hW5]; exact (Below.refl _ _).alloc (Nat.le_refl _) _
        have hk35 : KeepsOthers W3 W5 := by rw [← hW5]; exact KeepsOthers.alloc _ _
        have hT5 : Two W5 w.heap.size v1' (nz out ++ [(i : Int)]) (.slice (some ⟨g, 0, none⟩) st.length c2) (nz st) := HT3.out.kept (row := none) (by rw [← hW5]; exact World.grownBy_alloc W3 _ none) (fun g e => by cases e)
        have hB5 : Boxed W5 (w.heap.size + 1) 29 (.slice (some ⟨g, 0, none⟩) st.length c2) := by rw [← hW5]; exact HB3.out.alloc _
        have hM5 := HM3.out.others hk35
        have hbl5 : Below w.heap.size w W5 := hB3.trans (hb35.mono (by omega))
        have hS5 : SlAt (fun k => k = b) W5 A (kids i).length ((nz (kids i)).map iv) := hSb.block (hb35.block b (by omega))
        have hD5 := hM5.lt
        have hz5 : W5.heap.size = W3.heap.size + 1 := by rw [← hW5]; simp
        have hI0 : Within w.heap.size W3.heap.size v1' (nz out ++ [(i : Int)]) (nz st) Ds (.slice A (kids i).length c) w [] W5 := ⟨⟨_, by simpa using hT5, hB5⟩, by rw [← hW5]; exact hbox5, hM5, hbl5⟩
        rw [hW5]
        have HI0 := Lib.hid hI0
        have HS5 := Lib.hid hS5
        have HD5 := Lib.hid hD5
        have HBX : Hid (Boxed W5 W3.heap.size 29 (.slice A (kids i).length c)) := Lib.hid (by rw [← hW5]; exact hbox5)
        clear hW5 hbox5 hb35 hk35 hT5 hB5 hM5 hS5 hD5 hI0 hS hSb
        refine wpIn_rangeFunc_ownG rfl (by omega) (gf := 59) (lb := #[.pointer (some ⟨W3.heap.size, 0, none⟩)]) rfl trivial (enters_of Tryd.func59 (by kernel_rfl) rfl)
          (back_stops 8 (by omega) W3.heap.size b A c (nz (kids i)) (by omega) W5 (by omega) (by omega) (by rw [hlk]; exact HBX.out.cell) (by rw [hlk]; exact HS5.out)) Kq.trans (Kq_put (by omega) (by omega)) (Below.refl _ _) (fun _ => rfl)
          (Within w.heap.size W3.heap.size v1' (nz out ++ [(i : Int)]) (nz st) Ds (.slice A (kids i).length c) w)
          (fun _ _ _ => False)
          (within_own (by omega) HD5.out (Nat.le_refl _))
          (fun _ _ _ _ _ hs _ _ => hs)
          HI0.out
          (fun x => { tmps := #[.int .i64 (root : Int), .func (.func fj) #[] #[cap], undef, undef, .slice none 0 0, v1', .pointer (some { block := w.heap.size + 1, off := 0 }), .int .i64 (st.length : Int), .int .i64 (i : Int), undef, .int .i64 x.2, .int .i64 (root : Int), .slice (some { block := w.heap.size, off := 0 }) 1 1,
              .slice (some { block := g, off := 0 }) (st.length + 1) c2, .int .i64 ((st.length : Int) + 1), .bool true, .slice (some { block := g, off := 0 }) (st.length + 1) c2, .int .i64 ((st.length : Int) + 1), .int .i64 (st.length : Int), .slice (some { block := g, off := 0 }) (st.length + 1) c2, .int .i64 (st.length : Int),
              .pointer (some { block := g, off := st.length }), .int .i64 (i : Int), .slice (some { block := g, off := 0 }) (st.length + 1) c2, .int .i64 (st.length : Int), .slice (some { block := g, off := 0 }) st.length c2, v1, .int .i64 (i : Int), .slice (some { block := W1.heap.size, off := 0 }) 1 1, v1', .func (.func fj) #[] #[cap], .int .i64 (i : Int),
              .slice A (kids i).length c, .func (.func 59) #[] #[.pointer (some { block := W3.heap.size, off := 0 })], .int .i64 x.1, .int .i64 x.2, undef, undef, undef, undef, undef], defers := [] }) ?assign ?body ?done ?stop
        case assign =>
          intro ll x W K hK
          have := HFJ.out
          subst this
          gi_wp2
          exact hK
        case body =>
          rintro ll pre x W HW hpl
          have := HFJ.out
          subst this
          rw [hlk] at hpl
          obtain ⟨⟨v2, hT, hbx⟩, hq, hM, hbl⟩ := HW
          have hcl := hbx.cell
          have hzW' := hbl.size
          have hlen : (nz st ++ pre.map Prod.snd).length = st.length + pre.length := by simp
          have HT := Lib.hid hT
          have HQ := Lib.hid hq
          have HM := Lib.hid hM
          have HBX2 := Lib.hid hbx
          have HRD2 := Lib.hid (rd_one W (.int .i64 x.2) 3)
          have HLEN := Lib.hid hlen
          clear hT hq hM hbx hlen
          gi_wp2_with (gi_at_builtin; refine wpListIn_app _ rfl _ _ 29 rfl w.heap.size 3 i0 (.int .i64 0) 1 8 Tryd.underlying29 hi hz0 hz1 hz2 rfl (by decide) v2 (st.length + pre.length) ((nz st ++ pre.map Prod.snd).map iv) rfl (by have := HT.out.2.1; rw [HLEN.out] at this; exact this.alloc _) (some ⟨W.heap.size, 0, none⟩) 1 1 [.int .i64 x.2] rfl rfl HRD2.out (by simp [Value.oneCell']) (by unfold maxLen; omega) (by omega) (by simp; omega) ?_; intro v2' w1 hown' hgrow hloc; obtain ⟨gb, capb, hv2'⟩ := ownsRow_succ hown'; subst hv2'; have hp := two_push (news := [x.2]) HT.out HBX2.out (Nat.le_succ _) hzW' (by rw [HLEN.out]; exact hown') hgrow hloc; have hc1 := hp.1.cell; have hf1 := hp.1.frozen; have HP := Lib.hid hp; clear hp hown' hgrow hloc)
          obtain ⟨-, hT', hb', hk', hl', hfar⟩ := HP.out
          have hq' := hfar W3.heap.size _ (by omega) HQ.out
          refine ⟨hk'.from _, ⟨hk'.size, fun k hk => ?_⟩, ⟨⟨_, by rw [List.map_append, ← List.append_assoc]; exact hT', hb'⟩, hq', HM.out.others hk', hbl.trans hl'⟩⟩
          rcases hk with rfl | rfl
          · exact hl'.block _ hbB
          · exact (show _ = _ from hq').trans (show _ = _ from HQ.out).symm
        case done =>
          rintro D ys W hD rfl HW hK
          have := HFJ.out
          subst this
          obtain ⟨⟨v2, hT, hbx⟩, hq, hM, hbl⟩ := HW
          rw [snd_bk] at hT
          have hh : AtHead w kids n L (out ++ [i]) (st ++ (kids i).reverse) v1' v2 (D :: Ds) W := by
            refine ⟨HST.out, fun k hk => ?_, by simpa using hT, hbx, hM.cons (by omega) hK (fun E hE => by have := HD5.out E hE; omega), hbl⟩
            rcases List.mem_append.1 hk with hk | hk
            · exact HA.out.lt k (by simp [hk])
            · have := HD.out i hin k (by simpa using hk)
              omega
          have hlv : slLen v1' = out.length + 1 := by
            obtain ⟨A9, c9, h9, _⟩ := SlAt.of_own hT.1
            rw [h9]
            simp [slLen]
          have hlv0 : slLen v1 = out.length := by
            obtain ⟨A9, c9, h9, _⟩ := SlAt.of_own HA.out.two.1
            rw [h9]
            simp [slLen]
          refine ⟨⟨out ++ [i], st ++ (kids i).reverse, v1', v2, D :: Ds, _, _, _, _, _, _, _, _, _, _, _, _, _, _, _, _, _, _, _, _, _, _, _, Lib.hid hh, rfl⟩, ?_⟩
          show L.length - slLen v1' < L.length - slLen v1
          omega
        case stop =>
          rintro D c pre W _ _ h _
          exact h.elim
end Go.Proofs.YtinajnkjfhbmkaaDoor
