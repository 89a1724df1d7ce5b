/- The row's facts: what the program's own text says of it. -/
import Derived.Test.YtjbdgjbmbohfmaaGreatDoorCards
import Derived.Test.YtjbdgjbmbohfmaaGreatDoorK31
import Derived.JoinedOf
namespace Go.Proofs.YtjbdgjbmbohfmaaGreatDoor
open Go Go.Proofs Go.RowKit
set_option linter.unusedVariables false

theorem jf0 : (Rows.scopeFreeRow.wf (OpenSpec.ofChange Rows.scopeFreeSpec) : Bool) = true := by kernel_rfl
theorem jf1 : (laidOutB Tryz.pinned.checked.prog : Bool) = true := by kernel_rfl
theorem jf2 : (mapsRowed Tryz.pinned.checked.prog : Bool) = true := by kernel_rfl
theorem jf3 : (Tryz.f13.params.all (Tryz.pinned.checked.prog.readableRec ·) : Bool) = true := by kernel_rfl
theorem jf4 : (namedTie Tryz.pinned.checked.prog Rows.scopeFreeRow.named Rows.scopeFreeSpec.vars : Bool) = true := by kernel_rfl
theorem jf5 : ((Rows.scopeFreeRow.stops == []) : Bool) = true := by kernel_rfl
theorem jf6 : ((Tryz.pinned.checked.prog.stops == []) : Bool) = true := by kernel_rfl
theorem jf7 : ((Rows.scopeFreeRow.knobs == []) : Bool) = true := by kernel_rfl
theorem jf8 : ((Tryz.pinned.checked.prog.stopKnobs == []) : Bool) = true := by kernel_rfl
theorem jf9 : ((Rows.scopeFreeRow.inPlace == Tryz.pinned.checked.prog.inPlace 13) : Bool) = true := by kernel_rfl
theorem jf10 : ((Rows.scopeFreeRow.unfollowed == Tryz.pinned.checked.prog.unfollowed 13) : Bool) = true := by kernel_rfl
theorem jf11 : ((Rows.scopeFreeRow.recurses == Tryz.pinned.checked.prog.recurses 13) : Bool) = true := by kernel_rfl
theorem jf12 : ((Rows.scopeFreeRow.named == Tryz.pinned.checked.prog.varsNamed 13) : Bool) = true := by kernel_rfl
theorem jf13 : ((Rows.scopeFreeRow.maps == (Tryz.f13.params.toList ++ Rows.scopeFreeSpec.plain.varTypes Tryz.pinned.checked.prog).any (Tryz.pinned.checked.prog.mapsRec ·)) : Bool) = true := by kernel_rfl
theorem jf14 : ((Rows.scopeFreeRow.ifaces == (Tryz.f13.params.toList ++ Rows.scopeFreeSpec.plain.varTypes Tryz.pinned.checked.prog).any (Tryz.pinned.checked.prog.ifacesRec ·)) : Bool) = true := by kernel_rfl
theorem jf15 : ((Rows.scopeFreeRow.mapsOut == Tryz.pinned.checked.prog.mapsAmong Tryz.f13.resultTypes.toList) : Bool) = true := by kernel_rfl
theorem jf16 : ((Rows.scopeFreeRow.loops == (Tryz.f13.params.toList ++ Rows.scopeFreeSpec.plain.varTypes Tryz.pinned.checked.prog).any (Tryz.pinned.checked.prog.loopsFrom ·)) : Bool) = true := by kernel_rfl
theorem jf17 : ((Rows.scopeFreeRow.wideKeys == (Tryz.f13.params.toList ++ Rows.scopeFreeSpec.plain.varTypes Tryz.pinned.checked.prog ++ Tryz.f13.resultTypes.toList).any (Tryz.pinned.checked.prog.wideKeysFrom ·)) : Bool) = true := by kernel_rfl
theorem jf18 : (Rows.scopeFreeSpec.vars.all (Tryz.pinned.checked.prog.varReadable ·) : Bool) = true := by kernel_rfl
theorem jf19 : (Tryz.f13.resultTypes.all (fun t => Tryz.pinned.checked.prog.readableRec t && decide (t < Tryz.pinned.checked.prog.types.size)) : Bool) = true := by kernel_rfl
theorem jf20 : ((Rows.scopeFreeRow.ifacesOut == Tryz.f13.resultTypes.toList.any (Tryz.pinned.checked.prog.ifacesRec ·)) : Bool) = true := by kernel_rfl
theorem jf21 : ((Rows.scopeFreeRow.loopsOut == Tryz.f13.resultTypes.toList.any (Tryz.pinned.checked.prog.loopsFrom ·)) : Bool) = true := by kernel_rfl
theorem jf22 : ((Rows.scopeFreeRow.plainKeys == Tryz.pinned.checked.prog.plainKeys) : Bool) = true := by kernel_rfl
theorem jf23 : (Rows.scopeFreeRow.shortTexts.isNone : Bool) = true := by kernel_rfl
theorem jf24 : (Tryz.pinned.checked.prog.stopsHeard : Bool) = true := by kernel_rfl
theorem jf25 : (Tryz.pinned.checked.prog.mayEnter : Bool) = true := by kernel_rfl
theorem jf26 : ((Rows.scopeFreeRow.lifted == Tryz.pinned.checked.prog.liftsFinal) : Bool) = true := by kernel_rfl
theorem jf27 : ((Tryz.pinned.checked.prog.make == some Rows.scopeFreeRow.make) : Bool) = true := by kernel_rfl
theorem jf28 : ((Rows.scopeFreeRow.kinds == (if Rows.scopeFreeRow.domain.isEmpty then [] else Tryz.f13.params.toList.map fun t => match Tryz.pinned.checked.prog.underlying t with | some (.int k) => some k | _ => none)) : Bool) = true := by kernel_rfl
theorem jf29 : ((Rows.scopeFreeRow.pinned == Rows.scopeFreeRow.pinnedBy) : Bool) = true := by kernel_rfl
theorem jf30 : ((Rows.scopeFreeRow.veiled == (Tryz.f13.params.toList ++ Rows.scopeFreeSpec.plain.varTypes Tryz.pinned.checked.prog ++ Tryz.f13.resultTypes.toList).any (Tryz.pinned.checked.prog.veiledRec ·)) : Bool) = true := by kernel_rfl
theorem jf31 : (Rows.scopeFreeRow.veiledFits Tryz.pinned.checked.prog Tryz.f13.params.toList (Tryz.f13.params.toList ++ Rows.scopeFreeSpec.plain.varTypes Tryz.pinned.checked.prog ++ Tryz.f13.resultTypes.toList) : Bool) = true := by kernel_rfl
theorem bt {a b : Bool} (h : a = true) (g : b = true) : (a && b) = true := by rw [h, g]; rfl
set_option maxRecDepth 100000 in
theorem row_facts : joinedFacts Tryz.pinned.checked.prog 13 Tryz.f13 Rows.scopeFreeSpec Rows.scopeFreeRow = true := bt (bt (bt (bt (bt (bt (bt (bt (bt (bt (bt (bt (bt (bt (bt (bt (bt (bt (bt (bt (bt (bt (bt (bt (bt (bt (bt (bt (bt (bt (bt jf0 jf1) jf2) jf3) jf4) jf5) jf6) jf7) jf8) jf9) jf10) jf11) jf12) jf13) jf14) jf15) jf16) jf17) jf18) jf19) jf20) jf21) jf22) jf23) jf24) jf25) jf26) jf27) jf28) jf29) jf30) jf31

theorem row_inst : Tryz.f13.isInstance Tryz.pinned.checked.prog Rows.scopeFreeRow.origin Rows.scopeFreeRow.targs := of_decide_eq_true (by kernel_rfl)
theorem row_wrap : Tryz.f13.isWrapper Tryz.pinned.checked.prog Rows.scopeFreeRow.wrapper Rows.scopeFreeRow.mainSum := by unfold Func.isWrapper; first | (rw [if_pos (by decide +kernel)]; kernel_rfl) | (rw [if_neg (by decide +kernel)]; exact ⟨rfl, rfl⟩)
theorem row_named : Tryz.pinned.checked.prog.funcNamed Rows.scopeFreeRow.func = some 13 := by kernel_rfl
theorem row_func : Tryz.pinned.checked.prog.funcs[13]? = some Tryz.f13 := Tryz.func13
theorem row_text : Rows.scopeFreeRow.wfByText (OpenSpec.ofChange Rows.scopeFreeSpec) = true := by kernel_rfl
theorem row_main : Tryz.pinned.checked.prog.mainIs = some (true, "379936594f8785246bdb2f6d918e55f19078cb7589e0629c608f74028fee7240".toList) := by kernel_rfl
theorem row_looks : true = Tryz.pinned.checked.prog.looks [] := by kernel_rfl
theorem row_stand : ([28, 9].all fun u => !Tryz.pinned.checked.prog.wantsStandIn u) = true := by kernel_rfl
theorem row_goes : false = Rows.scopeFreeRow.goesBy Tryz.pinned.checked.prog := by kernel_rfl
end Go.Proofs.YtjbdgjbmbohfmaaGreatDoor
