/- ScopeFree returns true at every tree and at every name: a free name is no more free in a function of it, and what is put around leaves the others; seven variables of the library start as the program's text lays them, tied. -/
import Derived.Test.YtjbdgjbmbohfmaaGreatDoorTie
import Derived.ProofKit
import Derived.LaidMore
import Derived.Lay
import Derived.PinnedBridge
import Derived.Lib.LaidU8T
import Derived.Stop.Joined
import Derived.Stop.LaidErr
import Derived.Test.YtjbdgjbmbohfmaaGreatDoorFreeLaw
import Derived.ChangeOld
import Derived.ChangeMaps5
import Derived.Test.YtjbdgjbmbohfmaaGreatDoorFreeFacts
namespace Go.Proofs.YtjbdgjbmbohfmaaGreatDoor
open Go Go.Proofs Go.RowKit Go.Shelf Go.Lib
open Go.ChangeShapes Go.WideShapes Go.ChangeAt

theorem own : ownKnob Tryz.prog.godebug = none := by kernel_rfl
theorem laidOut : laidOutB Tryz.prog = true := by kernel_rfl

def laid2 : List (String × DataW Unit) := Rows.scopeFreeRow.laid

/-- The numbers of this dump's types and tables. -/
def tabRen : Ren := ⟨fun n => n, fun | 5 => 5 | 119 => 275 | 138 => 277 | 139 => 278 | n => n, fun | 3 => 2 | 4 => 3 | n => n⟩
theorem tabTypes : U8Types Tryz.prog tabRen := ⟨by kernel_rfl, by kernel_rfl, by kernel_rfl, by kernel_rfl⟩
theorem tabExtra : U8Extra Tryz.prog tabRen := ⟨by kernel_rfl, by kernel_rfl, by kernel_rfl, by kernel_rfl, by kernel_rfl, by kernel_rfl, by kernel_rfl⟩
theorem accept_eq : (Rows.laid_unicode_utf8_acceptRanges : DataW Unit) = acceptData := by kernel_rfl
theorem first_eq : Rows.laid_unicode_utf8_first = firstData := Pinned.utf8First_eq

theorem gER : Tryz.prog.globalNamed "strconv.ErrRange" = some 6 := by kernel_rfl
theorem gERType : (Tryz.prog.globals[6]?).map (·.type) = some 232 := by kernel_rfl
theorem cellsE : Tryz.prog.cellsOf 300 = 1 := by kernel_rfl
/-- The name of the error's type, out of the row's own cell. -/
def nmES : String := match (Rows.laid_strconv_ErrRange : DataW Unit) with
  | .iface n _ => n
  | _ => ""
theorem rowE (u : TypeId) (h : Tryz.prog.typeName? 3 u = some nmES) : u = 298 :=
  typeName_ptr_named (nm := "errors.errorString") (by kernel_rfl) (by kernel_rfl) (by decide) u (h.trans (congrArg some (by kernel_rfl)))
theorem env_of_laid {W : World} (h : laidMetH Tryz.prog laid2 W) : Env W := by
  rw [MakeChecks.laidMetH_plain _ _ _ (by kernel_rfl)] at h
  have hT : Lib.Utf8Tabs 2 3 W := utf8Tabs_of_readsT (ρ := tabRen) tabTypes tabExtra (first_eq ▸ Lib.laidMet.reads h (.tail _ (.tail _ (.tail _ (.tail _ (.tail _ (.tail _ (.head _)))))))) (accept_eq ▸ Lib.laidMet.reads h (.tail _ (.tail _ (.tail _ (.head _)))))
  obtain ⟨a, s, hv, _⟩ := laid_sentinel (h.tail.tail.tail.tail) gER gERType Tryz.underlying232 rowE Tryz.underlying298 Tryz.underlying300 rfl rfl Tryz.underlying9 cellsE cells9
  have hc : W.cell? ⟨6, 0, none⟩ = some (.iface 298 (.pointer (some a))) := by
    have := World.var?_cell gER hv 0
    simpa using this
  exact ⟨hT, ⟨298, _, hc⟩, by have := block_lt_of_cell hc; dsimp only at this; omega⟩

theorem weight_of {H : Type} {P : Program} {ts : List TypeId} {d0 : DataW H} {gs : List (DataW H)} {s : ByteArray} (h : (DataW.weightsEach P (Tryz.f13.params.toList ++ ts) ([d0, .lit (.string s.data.toList)] ++ gs)).all (· ≤ reachBytes) = true) : s.size ≤ 140737488355328 := by
  rw [Tryz.params13] at h
  rw [List.all_eq_true] at h
  have h2 := h s.data.toList.length (by
    show s.data.toList.length ∈ d0.weights P 28 ++ (([s.data.toList.length] : List Nat) ++ _)
    simp)
  have h3 : s.data.toList.length ≤ 140737488355328 := Nat.le_trans (of_decide_eq_true h2 : s.data.toList.length ≤ reachBytes) (by unfold reachBytes; decide)
  have h4 : s.size = s.data.toList.length := (Array.length_toList (xs := s.data)).symm
  omega

set_option maxRecDepth 100000 in
theorem scopeFree_lifted (os : Os) (started : os.Started) (H : Type) (enc : TypeId × Value → H) :
    ReturnsInHanded {} Tryz.checked os 13 .any (fun w args => (Rows.scopeFreeSpec.pre enc Tryz.prog Tryz.f13 [] false w args ∧ laidMetH Tryz.prog laid2 w) ∧ sizedMet enc Tryz.prog Tryz.f13 (OpenSpec.ofChange Rows.scopeFreeSpec) false w args)
      (Rows.scopeFreeSpec.post enc Tryz.prog Tryz.f13 false true false false) := by
  refine returnsInHanded_of_change_and (C := Tryz.checked) (X := fun w _ => laidMetH Tryz.prog laid2 w) (fun _ _ _ hh h => h.of_heap hh) own started (by kernel_rfl) Tryz.func13
    (ChangeSpec.witness_shaped (enc := enc) (C := Tryz.checked) (os := os) (X := fun w _ => laidMetH Tryz.prog laid2 w) false (World.laidAll Tryz.prog os laid2) #[.agg #[.slice none 0 0, .slice none 0 0, .slice none 0 0], .string ByteArray.empty] 8 (World.laidAll_os _ _ _)
      (World.shaped_of_ZipB (by kernel_rfl) (by kernel_rfl)) (by kernel_rfl) (by kernel_rfl) (by kernel_rfl)
      (by rw [MakeChecks.laidMetH_plain _ _ _ (by kernel_rfl)]; exact laidMet_laidAll _ (by kernel_rfl) (by kernel_rfl))) ?_
  intro W base args ds gs before hval0 hW _ hz hL _
  have hval : ∀ (j : Nat) t v, Tryz.f13.params[j]? = some t → args[j]? = some v → Value.okWide Tryz.prog W .any base t v := hval0
  have hW' := hW
  obtain ⟨p, q, hA0, hV, rfl, hfz, hnd⟩ := hW
  have hA : DataW.TrodAll enc Tryz.prog W 0 (fun _ => true) true Tryz.f13.params.toList args.toList ds p := hA0
  rw [Tryz.params13] at hA hval
  obtain ⟨v0, vs0, d0, ds0, p0, q0, hargs, rfl, rfl, h0, r0⟩ := trodAll_cons hA
  obtain ⟨v1, vs1, d1, ds1, p1, q1, rfl, rfl, rfl, h1, r1⟩ := trodAll_cons r0
  obtain ⟨rfl, rfl, rfl⟩ := trodAll_nil r1
  obtain rfl : args = #[v0, v1] := by cases args; simp_all
  obtain ⟨rfl, rfl⟩ := trodVars_none hV
  have k0 := h0
  have lt0 : ∀ x ∈ p0, x.block < W.heap.size := by obtain ⟨m, hm⟩ := k0; exact DataW.trod_lt m _ _ _ hm
  obtain ⟨t, q6, rfl, hT, m1, m2, m3, mI⟩ := open_tree26 (hval 0 28 v0 rfl rfl) h0
  obtain ⟨s, rfl, rfl, rfl, hsz⟩ := ChangeMaps.open_string Tryz.underlying9 (hval 1 9 v1 rfl rfl) h1
  have hs : s.size ≤ 140737488355328 := weight_of (d0 := d0) (gs := _) hz
  clear hA0 hval0
  have hE := env_of_laid hL
  unfold maxLen at m1 m2 m3
  refine (law13_any t q6 s W hE hT (by omega) (by omega) (by omega) mI hs).mono fun e W' ⟨he, bel⟩ => ?_
  subst he
  exact ⟨_, rfl, _, _, _, [], _, [], hW', trodAll_mk1 (shut_bool Tryz.underlying4 _), (trodAll_cons_mk (Below.trod laidOut (by kernel_rfl) (of_decide_eq_true (by kernel_rfl)) k0 bel lt0) (trodAll_cons_mk (ChangeMaps.shut_string Tryz.underlying9 hsz) trodAll_mk0)), rfl, bel.frame _, fun h => by cases h⟩

theorem scopeFree_row : Rows.ScopeFreeSaid :=
  OpenClaim.holds_of_wide 13 Tryz.f13 rfl rfl rfl rfl rfl rfl rfl ⟨rfl, rfl, rfl, rfl, rfl⟩ rfl rfl rfl rfl rfl row_named row_func row_facts row_inst row_wrap
    (fun os started H enc _ => scopeFree_lifted os started H enc)

theorem scopeFree_holds : Rows.ScopeFreeCardSaid :=
  Claim7.holds_tied_plain_at .later [] [.data, .data, .data, .data, .sentinel, .sentinel, .pinned] true (true, "379936594f8785246bdb2f6d918e55f19078cb7589e0629c608f74028fee7240") true
    scopeFree_row (fun _ h => by cases h) row_text (fun _ h => by cases h) scopeFree_row_tie rfl ⟨rfl, rfl⟩ row_main rfl
    (fun f fn hf hfn => by
      obtain rfl : f = 13 := Option.some.inj (row_named.symm.trans hf) |>.symm
      obtain rfl : fn = Tryz.f13 := (Option.some.inj (row_func.symm.trans hfn)).symm
      exact ⟨row_looks, fun j t ht => by
        rw [Tryz.params13] at ht
        have hm : t ∈ [28, 9] := by simpa using Array.mem_of_getElem? ht
        exact (show Tryz.pinned.checked.prog.wantsStandIn t = false by simpa using List.all_eq_true.1 row_stand t hm)⟩)
    row_goes
end Go.Proofs.YtjbdgjbmbohfmaaGreatDoor
