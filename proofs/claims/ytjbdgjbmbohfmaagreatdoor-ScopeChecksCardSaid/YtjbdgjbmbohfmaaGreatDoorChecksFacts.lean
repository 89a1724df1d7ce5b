/- The row's facts: what the program's own text says of it. -/
import Derived.Test.YtjbdgjbmbohfmaaGreatDoorCards
import Derived.Test.YtjbdgjbmbohfmaaGreatDoorK31
import Derived.JoinedOf
namespace Go.Proofs.YtjbdgjbmbohfmaaGreatDoor
open Go Go.Proofs Go.RowKit
set_option linter.unusedVariables false

theorem jf0 : (Rows.scopeChecksRow.wf (OpenSpec.ofChange Rows.scopeChecksSpec) : Bool) = true := by kernel_rfl
theorem jf1 : (laidOutB Tryz.pinned.checked.prog : Bool) = true := by kernel_rfl
theorem jf2 : (mapsRowed Tryz.pinned.checked.prog : Bool) = true := by kernel_rfl
theorem jf3 : (Tryz.f11.params.all (Tryz.pinned.checked.prog.readableRec ·) : Bool) = true := by kernel_rfl
theorem jf4 : (namedTie Tryz.pinned.checked.prog Rows.scopeChecksRow.named Rows.scopeChecksSpec.vars : Bool) = true := by kernel_rfl
theorem jf5 : ((Rows.scopeChecksRow.stops == []) : Bool) = true := by kernel_rfl
theorem jf6 : ((Tryz.pinned.checked.prog.stops == []) : Bool) = true := by kernel_rfl
theorem jf7 : ((Rows.scopeChecksRow.knobs == []) : Bool) = true := by kernel_rfl
theorem jf8 : ((Tryz.pinned.checked.prog.stopKnobs == []) : Bool) = true := by kernel_rfl
theorem jf9 : ((Rows.scopeChecksRow.inPlace == Tryz.pinned.checked.prog.inPlace 11) : Bool) = true := by kernel_rfl
theorem jf10 : ((Rows.scopeChecksRow.unfollowed == Tryz.pinned.checked.prog.unfollowed 11) : Bool) = true := by kernel_rfl
theorem jf11 : ((Rows.scopeChecksRow.recurses == Tryz.pinned.checked.prog.recurses 11) : Bool) = true := by kernel_rfl
theorem jf12 : ((Rows.scopeChecksRow.named == Tryz.pinned.checked.prog.varsNamed 11) : Bool) = true := by kernel_rfl
theorem jf13 : ((Rows.scopeChecksRow.maps == (Tryz.f11.params.toList ++ Rows.scopeChecksSpec.plain.varTypes Tryz.pinned.checked.prog).any (Tryz.pinned.checked.prog.mapsRec ·)) : Bool) = true := by kernel_rfl
theorem jf14 : ((Rows.scopeChecksRow.ifaces == (Tryz.f11.params.toList ++ Rows.scopeChecksSpec.plain.varTypes Tryz.pinned.checked.prog).any (Tryz.pinned.checked.prog.ifacesRec ·)) : Bool) = true := by kernel_rfl
theorem jf15 : ((Rows.scopeChecksRow.mapsOut == Tryz.pinned.checked.prog.mapsAmong Tryz.f11.resultTypes.toList) : Bool) = true := by kernel_rfl
theorem jf16 : ((Rows.scopeChecksRow.loops == (Tryz.f11.params.toList ++ Rows.scopeChecksSpec.plain.varTypes Tryz.pinned.checked.prog).any (Tryz.pinned.checked.prog.loopsFrom ·)) : Bool) = true := by kernel_rfl
theorem jf17 : ((Rows.scopeChecksRow.wideKeys == (Tryz.f11.params.toList ++ Rows.scopeChecksSpec.plain.varTypes Tryz.pinned.checked.prog ++ Tryz.f11.resultTypes.toList).any (Tryz.pinned.checked.prog.wideKeysFrom ·)) : Bool) = true := by kernel_rfl
theorem jf18 : (Rows.scopeChecksSpec.vars.all (Tryz.pinned.checked.prog.varReadable ·) : Bool) = true := by kernel_rfl
theorem jf19 : (Tryz.f11.resultTypes.all (fun t => Tryz.pinned.checked.prog.readableRec t && decide (t < Tryz.pinned.checked.prog.types.size)) : Bool) = true := by kernel_rfl
theorem jf20 : ((Rows.scopeChecksRow.ifacesOut == Tryz.f11.resultTypes.toList.any (Tryz.pinned.checked.prog.ifacesRec ·)) : Bool) = true := by kernel_rfl
theorem jf21 : ((Rows.scopeChecksRow.loopsOut == Tryz.f11.resultTypes.toList.any (Tryz.pinned.checked.prog.loopsFrom ·)) : Bool) = true := by kernel_rfl
theorem jf22 : ((Rows.scopeChecksRow.plainKeys == Tryz.pinned.checked.prog.plainKeys) : Bool) = true := by kernel_rfl
theorem jf23 : (Rows.scopeChecksRow.shortTexts.isNone : Bool) = true := by kernel_rfl
theorem jf24 : (Tryz.pinned.checked.prog.stopsHeard : Bool) = true := by kernel_rfl
theorem jf25 : (Tryz.pinned.checked.prog.mayEnter : Bool) = true := by kernel_rfl
theorem jf26 : ((Rows.scopeChecksRow.lifted == Tryz.pinned.checked.prog.liftsFinal) : Bool) = true := by kernel_rfl
theorem jf27 : ((Tryz.pinned.checked.prog.make == some Rows.scopeChecksRow.make) : Bool) = true := by kernel_rfl
theorem jf28 : ((Rows.scopeChecksRow.kinds == (if Rows.scopeChecksRow.domain.isEmpty then [] else Tryz.f11.params.toList.map fun t => match Tryz.pinned.checked.prog.underlying t with | some (.int k) => some k | _ => none)) : Bool) = true := by kernel_rfl
theorem jf29 : ((Rows.scopeChecksRow.pinned == Rows.scopeChecksRow.pinnedBy) : Bool) = true := by kernel_rfl
theorem jf30 : ((Rows.scopeChecksRow.veiled == (Tryz.f11.params.toList ++ Rows.scopeChecksSpec.plain.varTypes Tryz.pinned.checked.prog ++ Tryz.f11.resultTypes.toList).any (Tryz.pinned.checked.prog.veiledRec ·)) : Bool) = true := by kernel_rfl
theorem jf31 : (Rows.scopeChecksRow.veiledFits Tryz.pinned.checked.prog Tryz.f11.params.toList (Tryz.f11.params.toList ++ Rows.scopeChecksSpec.plain.varTypes Tryz.pinned.checked.prog ++ Tryz.f11.resultTypes.toList) : Bool) = true := by kernel_rfl
theorem bt {a b : Bool} (h : a = true) (g : b = true) : (a && b) = true := by rw [h, g]; rfl
set_option maxRecDepth 100000 in
theorem row_facts : joinedFacts Tryz.pinned.checked.prog 11 Tryz.f11 Rows.scopeChecksSpec Rows.scopeChecksRow = true := bt (bt (bt (bt (bt (bt (bt (bt (bt (bt (bt (bt (bt (bt (bt (bt (bt (bt (bt (bt (bt (bt (bt (bt (bt (bt (bt (bt (bt (bt (bt jf0 jf1) jf2) jf3) jf4) jf5) jf6) jf7) jf8) jf9) jf10) jf11) jf12) jf13) jf14) jf15) jf16) jf17) jf18) jf19) jf20) jf21) jf22) jf23) jf24) jf25) jf26) jf27) jf28) jf29) jf30) jf31

theorem row_inst : Tryz.f11.isInstance Tryz.pinned.checked.prog Rows.scopeChecksRow.origin Rows.scopeChecksRow.targs := of_decide_eq_true (by kernel_rfl)
theorem row_wrap : Tryz.f11.isWrapper Tryz.pinned.checked.prog Rows.scopeChecksRow.wrapper Rows.scopeChecksRow.mainSum := by unfold Func.isWrapper; first | (rw [if_pos (by decide +kernel)]; kernel_rfl) | (rw [if_neg (by decide +kernel)]; exact ⟨rfl, rfl⟩)
theorem row_named : Tryz.pinned.checked.prog.funcNamed Rows.scopeChecksRow.func = some 11 := by kernel_rfl
theorem row_func : Tryz.pinned.checked.prog.funcs[11]? = some Tryz.f11 := Tryz.func11
theorem row_text : Rows.scopeChecksRow.wfByText (OpenSpec.ofChange Rows.scopeChecksSpec) = true := by kernel_rfl
theorem row_main : Tryz.pinned.checked.prog.mainIs = some (true, "379936594f8785246bdb2f6d918e55f19078cb7589e0629c608f74028fee7240".toList) := by kernel_rfl
theorem row_looks : true = Tryz.pinned.checked.prog.looks [] := by kernel_rfl
theorem row_stand : ([28].all fun u => !Tryz.pinned.checked.prog.wantsStandIn u) = true := by kernel_rfl
theorem row_goes : false = Rows.scopeChecksRow.goesBy Tryz.pinned.checked.prog := by kernel_rfl
end Go.Proofs.YtjbdgjbmbohfmaaGreatDoor
