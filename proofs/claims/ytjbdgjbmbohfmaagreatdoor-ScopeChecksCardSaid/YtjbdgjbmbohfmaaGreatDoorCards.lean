/-
  DERIVED. GIVEN WITH THE SEED: THE CARDS: each row of YtjbdgjbmbohfmaaGreatDoorRows.lean that lists a variable, with what it lists TIED to the program's text (the seventh form; the later family's looks); each row that meets fmt, with fmt's text TOLD by the authors' own Lean function (tested against real Go, not proved from fmt's source: count such statements apart). THE CARD IS WHAT COUNTS. Prove the row's statement (the work); the ties are given (YtjbdgjbmbohfmaaGreatDoorTie.lean); close each card by the builder's one call (the guide's Derived/Test/ToyasCard.lean, 'card_holds'). Laid BY PROGRAM, IN A SANDBOX (cutbox-door.mjs). By AI agents, Wed Nov 11 2026. No macro, syntax, notation, axiom, sorry.
-/
import Derived.Test.YtjbdgjbmbohfmaaGreatDoorRows
import GoSem.ClaimSeven
namespace Go.Proofs.YtjbdgjbmbohfmaaGreatDoor
namespace Rows

/-- THE TIED CARD OF 'azimuthlaw05.ParseTypes'. -/
def parseTypesCard : Claim7 := { stood := { row := parseTypesRow, standIns := [], harness := (true, "379936594f8785246bdb2f6d918e55f19078cb7589e0629c608f74028fee7240"), looks := true }, kinds := [], alts := [], laidByText := true, laidKinds := [.data, .data, .data, .data, .sentinel, .sentinel, .pinned], laidTests := true, laidLooks := .later }
def ParseTypesCardSaid : Prop := Claim7.holds Tryz.pinned (.plain (OpenSpec.ofChange parseTypesSpec)) parseTypesCard

/-- THE TIED CARD OF 'azimuthlaw06.PrintTerms'. -/
def printTermsCard : Claim7 := { stood := { row := printTermsRow, standIns := [], harness := (true, "379936594f8785246bdb2f6d918e55f19078cb7589e0629c608f74028fee7240"), looks := true }, kinds := [], alts := [], laidByText := true, laidKinds := [.data, .data, .data, .data, .sentinel, .sentinel, .pinned], laidTests := true, laidLooks := .later }
def PrintTermsCardSaid : Prop := Claim7.holds Tryz.pinned (.plain (OpenSpec.ofChange printTermsSpec)) printTermsCard

/-- THE TIED CARD OF 'azimuthlaw06.PrintTexts'. -/
def printTextsCard : Claim7 := { stood := { row := printTextsRow, standIns := [], harness := (true, "379936594f8785246bdb2f6d918e55f19078cb7589e0629c608f74028fee7240"), looks := true }, kinds := [], alts := [], laidByText := true, laidKinds := [.data, .data, .data, .data, .sentinel, .sentinel, .pinned], laidTests := true, laidLooks := .later }
def PrintTextsCardSaid : Prop := Claim7.holds Tryz.pinned (.plain (OpenSpec.ofChange printTextsSpec)) printTextsCard

/-- THE TIED CARD OF 'azimuthlaw06.PrintBack'. -/
def printBackCard : Claim7 := { stood := { row := printBackRow, standIns := [], harness := (true, "379936594f8785246bdb2f6d918e55f19078cb7589e0629c608f74028fee7240"), looks := true }, kinds := [], alts := [], laidByText := true, laidKinds := [.data, .data, .data, .data, .sentinel, .sentinel, .pinned], laidTests := true, laidLooks := .later }
def PrintBackCardSaid : Prop := Claim7.holds Tryz.pinned (.plain (OpenSpec.ofChange printBackSpec)) printBackCard

/-- THE TIED CARD OF 'azimuthlaw06.PrintParsed'. -/
def printParsedCard : Claim7 := { stood := { row := printParsedRow, standIns := [], harness := (true, "379936594f8785246bdb2f6d918e55f19078cb7589e0629c608f74028fee7240"), looks := true }, kinds := [], alts := [], laidByText := true, laidKinds := [.data, .data, .data, .data, .sentinel, .sentinel, .pinned], laidTests := true, laidLooks := .later }
def PrintParsedCardSaid : Prop := Claim7.holds Tryz.pinned (.plain (OpenSpec.ofChange printParsedSpec)) printParsedCard

/-- THE TIED CARD OF 'azimuthlaw06.PrintFewest'. -/
def printFewestCard : Claim7 := { stood := { row := printFewestRow, standIns := [], harness := (true, "379936594f8785246bdb2f6d918e55f19078cb7589e0629c608f74028fee7240"), looks := true }, kinds := [], alts := [], laidByText := true, laidKinds := [.data, .data, .data, .data, .sentinel, .sentinel, .pinned], laidTests := true, laidLooks := .later }
def PrintFewestCardSaid : Prop := Claim7.holds Tryz.pinned (.plain (OpenSpec.ofChange printFewestSpec)) printFewestCard

/-- THE TIED CARD OF 'azimuthlaw06.PrintAlone'. -/
def printAloneCard : Claim7 := { stood := { row := printAloneRow, standIns := [], harness := (true, "379936594f8785246bdb2f6d918e55f19078cb7589e0629c608f74028fee7240"), looks := true }, kinds := [], alts := [], laidByText := true, laidKinds := [.data, .data, .data, .data, .sentinel, .sentinel, .pinned], laidTests := true, laidLooks := .later }
def PrintAloneCardSaid : Prop := Claim7.holds Tryz.pinned (.plain (OpenSpec.ofChange printAloneSpec)) printAloneCard

/-- THE TIED CARD OF 'azimuthlaw07.ScopeThrough'. -/
def scopeThroughCard : Claim7 := { stood := { row := scopeThroughRow, standIns := [], harness := (true, "379936594f8785246bdb2f6d918e55f19078cb7589e0629c608f74028fee7240"), looks := true }, kinds := [], alts := [], laidByText := true, laidKinds := [.data, .data, .data, .data, .sentinel, .sentinel, .pinned], laidTests := true, laidLooks := .later }
def ScopeThroughCardSaid : Prop := Claim7.holds Tryz.pinned (.plain (OpenSpec.ofChange scopeThroughSpec)) scopeThroughCard

/-- THE TIED CARD OF 'azimuthlaw07.ScopeChecks'. -/
def scopeChecksCard : Claim7 := { stood := { row := scopeChecksRow, standIns := [], harness := (true, "379936594f8785246bdb2f6d918e55f19078cb7589e0629c608f74028fee7240"), looks := true }, kinds := [], alts := [], laidByText := true, laidKinds := [.data, .data, .data, .data, .sentinel, .sentinel, .pinned], laidTests := true, laidLooks := .later }
def ScopeChecksCardSaid : Prop := Claim7.holds Tryz.pinned (.plain (OpenSpec.ofChange scopeChecksSpec)) scopeChecksCard

/-- THE TIED CARD OF 'azimuthlaw07.ScopeBinds'. -/
def scopeBindsCard : Claim7 := { stood := { row := scopeBindsRow, standIns := [], harness := (true, "379936594f8785246bdb2f6d918e55f19078cb7589e0629c608f74028fee7240"), looks := true }, kinds := [], alts := [], laidByText := true, laidKinds := [.data, .data, .data, .data, .sentinel, .sentinel, .pinned], laidTests := true, laidLooks := .later }
def ScopeBindsCardSaid : Prop := Claim7.holds Tryz.pinned (.plain (OpenSpec.ofChange scopeBindsSpec)) scopeBindsCard

/-- THE TIED CARD OF 'azimuthlaw07.ScopeFree'. -/
def scopeFreeCard : Claim7 := { stood := { row := scopeFreeRow, standIns := [], harness := (true, "379936594f8785246bdb2f6d918e55f19078cb7589e0629c608f74028fee7240"), looks := true }, kinds := [], alts := [], laidByText := true, laidKinds := [.data, .data, .data, .data, .sentinel, .sentinel, .pinned], laidTests := true, laidLooks := .later }
def ScopeFreeCardSaid : Prop := Claim7.holds Tryz.pinned (.plain (OpenSpec.ofChange scopeFreeSpec)) scopeFreeCard

/-- THE SECOND FORM's CARD OF 'azimuthlaw05.ParseTypes'. -/
def parseTypesUptoCard : Claim7 := { stood := { row := parseTypesUptoRow, standIns := [], harness := (true, "379936594f8785246bdb2f6d918e55f19078cb7589e0629c608f74028fee7240"), looks := true }, kinds := [], alts := [], laidByText := true, laidKinds := [.data, .data, .data, .data, .sentinel, .sentinel, .pinned], laidTests := true, laidLooks := .later }
def ParseTypesUptoCardSaid : Prop := Claim7.holds Tryz.pinned (.plain (OpenSpec.upto parseTypesSpec)) parseTypesUptoCard

/-- THE SECOND FORM's CARD OF 'azimuthlaw06.PrintTerms'. -/
def printTermsUptoCard : Claim7 := { stood := { row := printTermsUptoRow, standIns := [], harness := (true, "379936594f8785246bdb2f6d918e55f19078cb7589e0629c608f74028fee7240"), looks := true }, kinds := [], alts := [], laidByText := true, laidKinds := [.data, .data, .data, .data, .sentinel, .sentinel, .pinned], laidTests := true, laidLooks := .later }
def PrintTermsUptoCardSaid : Prop := Claim7.holds Tryz.pinned (.plain (OpenSpec.upto printTermsSpec)) printTermsUptoCard

/-- THE SECOND FORM's CARD OF 'azimuthlaw06.PrintTexts'. -/
def printTextsUptoCard : Claim7 := { stood := { row := printTextsUptoRow, standIns := [], harness := (true, "379936594f8785246bdb2f6d918e55f19078cb7589e0629c608f74028fee7240"), looks := true }, kinds := [], alts := [], laidByText := true, laidKinds := [.data, .data, .data, .data, .sentinel, .sentinel, .pinned], laidTests := true, laidLooks := .later }
def PrintTextsUptoCardSaid : Prop := Claim7.holds Tryz.pinned (.plain (OpenSpec.upto printTextsSpec)) printTextsUptoCard

/-- THE SECOND FORM's CARD OF 'azimuthlaw06.PrintBack'. -/
def printBackUptoCard : Claim7 := { stood := { row := printBackUptoRow, standIns := [], harness := (true, "379936594f8785246bdb2f6d918e55f19078cb7589e0629c608f74028fee7240"), looks := true }, kinds := [], alts := [], laidByText := true, laidKinds := [.data, .data, .data, .data, .sentinel, .sentinel, .pinned], laidTests := true, laidLooks := .later }
def PrintBackUptoCardSaid : Prop := Claim7.holds Tryz.pinned (.plain (OpenSpec.upto printBackSpec)) printBackUptoCard

/-- THE SECOND FORM's CARD OF 'azimuthlaw06.PrintParsed'. -/
def printParsedUptoCard : Claim7 := { stood := { row := printParsedUptoRow, standIns := [], harness := (true, "379936594f8785246bdb2f6d918e55f19078cb7589e0629c608f74028fee7240"), looks := true }, kinds := [], alts := [], laidByText := true, laidKinds := [.data, .data, .data, .data, .sentinel, .sentinel, .pinned], laidTests := true, laidLooks := .later }
def PrintParsedUptoCardSaid : Prop := Claim7.holds Tryz.pinned (.plain (OpenSpec.upto printParsedSpec)) printParsedUptoCard

/-- THE SECOND FORM's CARD OF 'azimuthlaw06.PrintFewest'. -/
def printFewestUptoCard : Claim7 := { stood := { row := printFewestUptoRow, standIns := [], harness := (true, "379936594f8785246bdb2f6d918e55f19078cb7589e0629c608f74028fee7240"), looks := true }, kinds := [], alts := [], laidByText := true, laidKinds := [.data, .data, .data, .data, .sentinel, .sentinel, .pinned], laidTests := true, laidLooks := .later }
def PrintFewestUptoCardSaid : Prop := Claim7.holds Tryz.pinned (.plain (OpenSpec.upto printFewestSpec)) printFewestUptoCard

/-- THE SECOND FORM's CARD OF 'azimuthlaw06.PrintAlone'. -/
def printAloneUptoCard : Claim7 := { stood := { row := printAloneUptoRow, standIns := [], harness := (true, "379936594f8785246bdb2f6d918e55f19078cb7589e0629c608f74028fee7240"), looks := true }, kinds := [], alts := [], laidByText := true, laidKinds := [.data, .data, .data, .data, .sentinel, .sentinel, .pinned], laidTests := true, laidLooks := .later }
def PrintAloneUptoCardSaid : Prop := Claim7.holds Tryz.pinned (.plain (OpenSpec.upto printAloneSpec)) printAloneUptoCard

/-- THE SECOND FORM's CARD OF 'azimuthlaw07.ScopeThrough'. -/
def scopeThroughUptoCard : Claim7 := { stood := { row := scopeThroughUptoRow, standIns := [], harness := (true, "379936594f8785246bdb2f6d918e55f19078cb7589e0629c608f74028fee7240"), looks := true }, kinds := [], alts := [], laidByText := true, laidKinds := [.data, .data, .data, .data, .sentinel, .sentinel, .pinned], laidTests := true, laidLooks := .later }
def ScopeThroughUptoCardSaid : Prop := Claim7.holds Tryz.pinned (.plain (OpenSpec.upto scopeThroughSpec)) scopeThroughUptoCard

/-- THE SECOND FORM's CARD OF 'azimuthlaw07.ScopeChecks'. -/
def scopeChecksUptoCard : Claim7 := { stood := { row := scopeChecksUptoRow, standIns := [], harness := (true, "379936594f8785246bdb2f6d918e55f19078cb7589e0629c608f74028fee7240"), looks := true }, kinds := [], alts := [], laidByText := true, laidKinds := [.data, .data, .data, .data, .sentinel, .sentinel, .pinned], laidTests := true, laidLooks := .later }
def ScopeChecksUptoCardSaid : Prop := Claim7.holds Tryz.pinned (.plain (OpenSpec.upto scopeChecksSpec)) scopeChecksUptoCard

/-- THE SECOND FORM's CARD OF 'azimuthlaw07.ScopeBinds'. -/
def scopeBindsUptoCard : Claim7 := { stood := { row := scopeBindsUptoRow, standIns := [], harness := (true, "379936594f8785246bdb2f6d918e55f19078cb7589e0629c608f74028fee7240"), looks := true }, kinds := [], alts := [], laidByText := true, laidKinds := [.data, .data, .data, .data, .sentinel, .sentinel, .pinned], laidTests := true, laidLooks := .later }
def ScopeBindsUptoCardSaid : Prop := Claim7.holds Tryz.pinned (.plain (OpenSpec.upto scopeBindsSpec)) scopeBindsUptoCard

/-- THE SECOND FORM's CARD OF 'azimuthlaw07.ScopeFree'. -/
def scopeFreeUptoCard : Claim7 := { stood := { row := scopeFreeUptoRow, standIns := [], harness := (true, "379936594f8785246bdb2f6d918e55f19078cb7589e0629c608f74028fee7240"), looks := true }, kinds := [], alts := [], laidByText := true, laidKinds := [.data, .data, .data, .data, .sentinel, .sentinel, .pinned], laidTests := true, laidLooks := .later }
def ScopeFreeUptoCardSaid : Prop := Claim7.holds Tryz.pinned (.plain (OpenSpec.upto scopeFreeSpec)) scopeFreeUptoCard
end Rows
end Go.Proofs.YtjbdgjbmbohfmaaGreatDoor
