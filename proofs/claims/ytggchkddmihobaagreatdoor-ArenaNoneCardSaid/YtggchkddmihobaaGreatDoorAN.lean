/- The row's facts: what the program's own text says of it. -/
import Derived.Test.YtggchkddmihobaaGreatDoorCards
import Derived.JoinedOf
import Derived.Test.YtggchkddmihobaaGreatDoorAA
namespace Go.Proofs.YtggchkddmihobaaGreatDoor
open Go Go.Proofs Go.RowKit
set_option linter.unusedVariables false

theorem jf0 : (Rows.arenaNoneRow.wf (OpenSpec.ofChange Rows.arenaNoneSpec) : Bool) = true := by kernel_rfl
theorem jf1 : (laidOutB Tryz.pinned.checked.prog : Bool) = true := by kernel_rfl
theorem jf2 : (mapsRowed Tryz.pinned.checked.prog : Bool) = true := by kernel_rfl
theorem jf3 : (Tryz.f5.params.all (Tryz.pinned.checked.prog.readableRec ·) : Bool) = true := by kernel_rfl
theorem jf4 : (namedTie Tryz.pinned.checked.prog Rows.arenaNoneRow.named Rows.arenaNoneSpec.vars : Bool) = true := by kernel_rfl
theorem jf5 : ((Rows.arenaNoneRow.stops == []) : Bool) = true := by kernel_rfl
theorem jf6 : ((Tryz.pinned.checked.prog.stops == []) : Bool) = true := by kernel_rfl
theorem jf7 : ((Rows.arenaNoneRow.knobs == []) : Bool) = true := by kernel_rfl
theorem jf8 : ((Tryz.pinned.checked.prog.stopKnobs == []) : Bool) = true := by kernel_rfl
theorem jf9 : ((Rows.arenaNoneRow.inPlace == Tryz.pinned.checked.prog.inPlace 5) : Bool) = true := by kernel_rfl
theorem jf10 : ((Rows.arenaNoneRow.unfollowed == Tryz.pinned.checked.prog.unfollowed 5) : Bool) = true := by kernel_rfl
theorem jf11 : ((Rows.arenaNoneRow.recurses == Tryz.pinned.checked.prog.recurses 5) : Bool) = true := by kernel_rfl
theorem jf12 : ((Rows.arenaNoneRow.named == Tryz.pinned.checked.prog.varsNamed 5) : Bool) = true := by kernel_rfl
theorem jf13 : ((Rows.arenaNoneRow.maps == (Tryz.f5.params.toList ++ Rows.arenaNoneSpec.plain.varTypes Tryz.pinned.checked.prog).any (Tryz.pinned.checked.prog.mapsRec ·)) : Bool) = true := by kernel_rfl
theorem jf14 : ((Rows.arenaNoneRow.ifaces == (Tryz.f5.params.toList ++ Rows.arenaNoneSpec.plain.varTypes Tryz.pinned.checked.prog).any (Tryz.pinned.checked.prog.ifacesRec ·)) : Bool) = true := by kernel_rfl
theorem jf15 : ((Rows.arenaNoneRow.mapsOut == Tryz.pinned.checked.prog.mapsAmong Tryz.f5.resultTypes.toList) : Bool) = true := by kernel_rfl
theorem jf16 : ((Rows.arenaNoneRow.loops == (Tryz.f5.params.toList ++ Rows.arenaNoneSpec.plain.varTypes Tryz.pinned.checked.prog).any (Tryz.pinned.checked.prog.loopsFrom ·)) : Bool) = true := by kernel_rfl
theorem jf17 : ((Rows.arenaNoneRow.wideKeys == (Tryz.f5.params.toList ++ Rows.arenaNoneSpec.plain.varTypes Tryz.pinned.checked.prog ++ Tryz.f5.resultTypes.toList).any (Tryz.pinned.checked.prog.wideKeysFrom ·)) : Bool) = true := by kernel_rfl
theorem jf18 : (Rows.arenaNoneSpec.vars.all (Tryz.pinned.checked.prog.varReadable ·) : Bool) = true := by kernel_rfl
theorem jf19 : (Tryz.f5.resultTypes.all (fun t => Tryz.pinned.checked.prog.readableRec t && decide (t < Tryz.pinned.checked.prog.types.size)) : Bool) = true := by kernel_rfl
theorem jf20 : ((Rows.arenaNoneRow.ifacesOut == Tryz.f5.resultTypes.toList.any (Tryz.pinned.checked.prog.ifacesRec ·)) : Bool) = true := by kernel_rfl
theorem jf21 : ((Rows.arenaNoneRow.loopsOut == Tryz.f5.resultTypes.toList.any (Tryz.pinned.checked.prog.loopsFrom ·)) : Bool) = true := by kernel_rfl
theorem jf22 : ((Rows.arenaNoneRow.plainKeys == Tryz.pinned.checked.prog.plainKeys) : Bool) = true := by kernel_rfl
theorem jf23 : (Rows.arenaNoneRow.shortTexts.isNone : Bool) = true := by kernel_rfl
theorem jf24 : (Tryz.pinned.checked.prog.stopsHeard : Bool) = true := by kernel_rfl
theorem jf25 : (Tryz.pinned.checked.prog.mayEnter : Bool) = true := by kernel_rfl
theorem jf26 : ((Rows.arenaNoneRow.lifted == Tryz.pinned.checked.prog.liftsFinal) : Bool) = true := by kernel_rfl
theorem jf27 : ((Tryz.pinned.checked.prog.make == some Rows.arenaNoneRow.make) : Bool) = true := by kernel_rfl
theorem jf28 : ((Rows.arenaNoneRow.kinds == (if Rows.arenaNoneRow.domain.isEmpty then [] else Tryz.f5.params.toList.map fun t => match Tryz.pinned.checked.prog.underlying t with | some (.int k) => some k | _ => none)) : Bool) = true := by kernel_rfl
theorem jf29 : ((Rows.arenaNoneRow.pinned == Rows.arenaNoneRow.pinnedBy) : Bool) = true := by kernel_rfl
theorem jf30 : ((Rows.arenaNoneRow.veiled == (Tryz.f5.params.toList ++ Rows.arenaNoneSpec.plain.varTypes Tryz.pinned.checked.prog ++ Tryz.f5.resultTypes.toList).any (Tryz.pinned.checked.prog.veiledRec ·)) : Bool) = true := by kernel_rfl
theorem jf31 : (Rows.arenaNoneRow.veiledFits Tryz.pinned.checked.prog Tryz.f5.params.toList (Tryz.f5.params.toList ++ Rows.arenaNoneSpec.plain.varTypes Tryz.pinned.checked.prog ++ Tryz.f5.resultTypes.toList) : Bool) = true := by kernel_rfl
theorem bt {a b : Bool} (h : a = true) (g : b = true) : (a && b) = true := by rw [h, g]; rfl
set_option maxRecDepth 100000 in
theorem row_facts : joinedFacts Tryz.pinned.checked.prog 5 Tryz.f5 Rows.arenaNoneSpec Rows.arenaNoneRow = true := bt (bt (bt (bt (bt (bt (bt (bt (bt (bt (bt (bt (bt (bt (bt (bt (bt (bt (bt (bt (bt (bt (bt (bt (bt (bt (bt (bt (bt (bt (bt jf0 jf1) jf2) jf3) jf4) jf5) jf6) jf7) jf8) jf9) jf10) jf11) jf12) jf13) jf14) jf15) jf16) jf17) jf18) jf19) jf20) jf21) jf22) jf23) jf24) jf25) jf26) jf27) jf28) jf29) jf30) jf31
theorem row_inst : Tryz.f5.isInstance Tryz.pinned.checked.prog Rows.arenaNoneRow.origin Rows.arenaNoneRow.targs := of_decide_eq_true (by kernel_rfl)
theorem row_wrap : Tryz.f5.isWrapper Tryz.pinned.checked.prog Rows.arenaNoneRow.wrapper Rows.arenaNoneRow.mainSum := by unfold Func.isWrapper; first | (rw [if_pos (by decide +kernel)]; kernel_rfl) | (rw [if_neg (by decide +kernel)]; exact ⟨rfl, rfl⟩)
theorem row_named : Tryz.pinned.checked.prog.funcNamed Rows.arenaNoneRow.func = some 5 := by kernel_rfl
theorem row_func : Tryz.pinned.checked.prog.funcs[5]? = some Tryz.f5 := Tryz.func5
theorem row_text : Rows.arenaNoneRow.wfByText (OpenSpec.ofChange Rows.arenaNoneSpec) = true := by kernel_rfl
theorem row_main : Tryz.pinned.checked.prog.mainIs = some (true, "13b0e2414233447e60893d301aa146b264f141d2ec44dd0898219fc2b9e5bab7".toList) := by kernel_rfl
theorem row_looks : false = Tryz.pinned.checked.prog.looks [] := by kernel_rfl
theorem row_stand : ([3, 3, 4].all fun u => !Tryz.pinned.checked.prog.wantsStandIn u) = true := by kernel_rfl
theorem row_goes : false = Rows.arenaNoneRow.goesBy Tryz.pinned.checked.prog := by kernel_rfl
end Go.Proofs.YtggchkddmihobaaGreatDoor
