/- ScopeChecks returns true at every tree: what is wrong with it first, and its free names, are what the document says; seven variables of the library start as the program's text lays them, tied. -/
import Derived.Test.YtjbdgjbmbohfmaaGreatDoorTie
import Derived.ProofKit
import Derived.LaidMore
import Derived.Lay
import Derived.PinnedBridge
import Derived.Lib.LaidU8T
import Derived.Stop.Joined
import Derived.Stop.LaidErr
import Derived.Test.YtjbdgjbmbohfmaaGreatDoorChecksLaw
import Derived.ChangeOld
import Derived.ChangeMaps5
import Derived.Test.YtjbdgjbmbohfmaaGreatDoorChecksFacts
namespace Go.Proofs.YtjbdgjbmbohfmaaGreatDoor
open Go Go.Proofs Go.RowKit Go.Shelf Go.Lib
open Go.ChangeShapes Go.WideShapes Go.ChangeAt

theorem own : ownKnob Tryz.prog.godebug = none := by kernel_rfl
theorem laidOut : laidOutB Tryz.prog = true := by kernel_rfl

def laid2 : List (String × DataW Unit) := Rows.scopeChecksRow.laid

/-- The numbers of this dump's types and tables. -/
def tabRen : Ren := ⟨fun n => n, fun | 5 => 5 | 119 => 275 | 138 => 277 | 139 => 278 | n => n, fun | 3 => 2 | 4 => 3 | n => n⟩
theorem tabTypes : U8Types Tryz.prog tabRen := ⟨by kernel_rfl, by kernel_rfl, by kernel_rfl, by kernel_rfl⟩
theorem tabExtra : U8Extra Tryz.prog tabRen := ⟨by kernel_rfl, by kernel_rfl, by kernel_rfl, by kernel_rfl, by kernel_rfl, by kernel_rfl, by kernel_rfl⟩
theorem accept_eq : (Rows.laid_unicode_utf8_acceptRanges : DataW Unit) = acceptData := by kernel_rfl
theorem first_eq : Rows.laid_unicode_utf8_first = firstData := Pinned.utf8First_eq

theorem gER : Tryz.prog.globalNamed "strconv.ErrRange" = some 6 := by kernel_rfl
theorem gERType : (Tryz.prog.globals[6]?).map (·.type) = some 232 := by kernel_rfl
theorem cellsE : Tryz.prog.cellsOf 300 = 1 := by kernel_rfl
/-- The name of the error's type, out of the row's own cell. -/
def nmES : String := match (Rows.laid_strconv_ErrRange : DataW Unit) with
 | .iface n _ => n
 | _ => ""
theorem rowE (u : TypeId) (h : Tryz.prog.typeName? 3 u = some nmES) : u = 298 :=
 typeName_ptr_named (nm := "errors.errorString") (by kernel_rfl) (by kernel_rfl) (by decide) u (h.trans (congrArg some (by kernel_rfl)))
theorem env_of_laid {W : World} (h : laidMetH Tryz.prog laid2 W) : Env W := by
 rw [MakeChecks.laidMetH_plain _ _ _ (by kernel_rfl)] at h
 have hT : Lib.Utf8Tabs 2 3 W := utf8Tabs_of_readsT (ρ := tabRen) tabTypes tabExtra (first_eq ▸ Lib.laidMet.reads h (.tail _ (.tail _ (.tail _ (.tail _ (.tail _ (.tail _ (.head _)))))))) (accept_eq ▸ Lib.laidMet.reads h (.tail _ (.tail _ (.tail _ (.head _)))))
 obtain ⟨a, s, hv, _⟩ := laid_sentinel (h.tail.tail.tail.tail) gER gERType Tryz.underlying232 rowE Tryz.underlying298 Tryz.underlying300 rfl rfl Tryz.underlying9 cellsE cells9
 have hc : W.cell? ⟨6, 0, none⟩ = some (.iface 298 (.pointer (some a))) := by
  have := World.var?_cell gER hv 0
  simpa using this
 exact ⟨hT, ⟨298, _, hc⟩, by have := block_lt_of_cell hc; dsimp only at this; omega⟩

set_option maxRecDepth 100000 in
theorem scopeChecks_lifted (os : Os) (started : os.Started) (H : Type) (enc : TypeId × Value → H) :
 ReturnsInHanded {} Tryz.checked os 11 .any (fun w args => (Rows.scopeChecksSpec.pre enc Tryz.prog Tryz.f11 [] false w args ∧ laidMetH Tryz.prog laid2 w) ∧ sizedMet enc Tryz.prog Tryz.f11 (OpenSpec.ofChange Rows.scopeChecksSpec) false w args)
  (Rows.scopeChecksSpec.post enc Tryz.prog Tryz.f11 false true false false) := by
 refine returnsInHanded_of_change_and (C := Tryz.checked) (X := fun w _ => laidMetH Tryz.prog laid2 w) (fun _ _ _ hh h => h.of_heap hh) own started (by kernel_rfl) Tryz.func11
  (ChangeSpec.witness_shaped (enc := enc) (C := Tryz.checked) (os := os) (X := fun w _ => laidMetH Tryz.prog laid2 w) false (World.laidAll Tryz.prog os laid2) #[.agg #[.slice none 0 0, .slice none 0 0, .slice none 0 0]] 8 (World.laidAll_os _ _ _)
   (World.shaped_of_ZipB (by kernel_rfl) (by kernel_rfl)) (by kernel_rfl) (by kernel_rfl) (by kernel_rfl)
   (by rw [MakeChecks.laidMetH_plain _ _ _ (by kernel_rfl)]; exact laidMet_laidAll _ (by kernel_rfl) (by kernel_rfl))) ?_
 intro W base args ds gs before hval0 hW _ _ hL _
 have hval : ∀ (j : Nat) t v, Tryz.f11.params[j]? = some t → args[j]? = some v → Value.okWide Tryz.prog W .any base t v := hval0
 have hW' := hW
 obtain ⟨p, q, hA0, hV, rfl, hfz, hnd⟩ := hW
 have hA : DataW.TrodAll enc Tryz.prog W 0 (fun _ => true) true Tryz.f11.params.toList args.toList ds p := hA0
 rw [Tryz.params11] at hA hval
 obtain ⟨v0, vs0, d0, ds0, p0, q0, hargs, rfl, rfl, h0, r0⟩ := trodAll_cons hA
 obtain ⟨rfl, rfl, rfl⟩ := trodAll_nil r0
 obtain rfl : args = #[v0] := by cases args; simp_all
 obtain ⟨rfl, rfl⟩ := trodVars_none hV
 have k0 := h0
 have lt0 : ∀ x ∈ p0, x.block < W.heap.size := by obtain ⟨m, hm⟩ := k0; exact DataW.trod_lt m _ _ _ hm
 obtain ⟨t, q6, rfl, hT, m1, m2, m3, mI⟩ := open_tree26 (hval 0 28 v0 rfl rfl) h0
 clear hA0 hval0
 have hE := env_of_laid hL
 unfold maxLen at m1 m2 m3
 refine (law11_any t q6 W hE hT (by omega) (by omega) (by omega) mI).mono fun e W' ⟨he, bel⟩ => ?_
 subst he
 exact ⟨_, rfl, _, _, _, [], _, [], hW', trodAll_mk1 (shut_bool Tryz.underlying4 _), (trodAll_cons_mk (Below.trod laidOut (by kernel_rfl) (of_decide_eq_true (by kernel_rfl)) k0 bel lt0) trodAll_mk0), rfl, bel.frame _, fun h => by cases h⟩

theorem scopeChecks_row : Rows.ScopeChecksSaid :=
 OpenClaim.holds_of_wide 11 Tryz.f11 rfl rfl rfl rfl rfl rfl rfl ⟨rfl, rfl, rfl, rfl, rfl⟩ rfl rfl rfl rfl rfl row_named row_func row_facts row_inst row_wrap
  (fun os started H enc _ => scopeChecks_lifted os started H enc)

theorem scopeChecks_holds : Rows.ScopeChecksCardSaid :=
 Claim7.holds_tied_plain_at .later [] [.data, .data, .data, .data, .sentinel, .sentinel, .pinned] true (true, "379936594f8785246bdb2f6d918e55f19078cb7589e0629c608f74028fee7240") true
  scopeChecks_row (fun _ h => by cases h) row_text (fun _ h => by cases h) scopeChecks_row_tie rfl ⟨rfl, rfl⟩ row_main rfl
  (fun f fn hf hfn => by
   obtain rfl : f = 11 := Option.some.inj (row_named.symm.trans hf) |>.symm
   obtain rfl : fn = Tryz.f11 := (Option.some.inj (row_func.symm.trans hfn)).symm
   exact ⟨row_looks, fun j t ht => by
    rw [Tryz.params11] at ht
    have hm : t ∈ [28] := by simpa using Array.mem_of_getElem? ht
    exact (show Tryz.pinned.checked.prog.wantsStandIn t = false by simpa using List.all_eq_true.1 row_stand t hm)⟩)
  row_goes
end Go.Proofs.YtjbdgjbmbohfmaaGreatDoor
