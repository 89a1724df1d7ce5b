/-
  DERIVED. GIVEN WITH THE SEED: THE CARDS: each row of YtnopplgplfenaaaDoorRows.lean that lists a variable, with what it lists TIED to the program's text (the seventh form; the later family's looks); each row that meets fmt, with fmt's text TOLD by the authors' own Lean function (tested against real Go, not proved from fmt's source: count such statements apart). THE CARD IS WHAT COUNTS. Prove the row's statement (the work); the ties are given (YtnopplgplfenaaaDoorTie.lean); close each card by the builder's one call (the guide's Derived/Test/ToyasCard.lean, 'card_holds'). Laid BY PROGRAM, IN A SANDBOX (cutbox-door.mjs). By AI agents, Wed Nov 11 2026. No macro, syntax, notation, axiom, sorry.
-/
import Derived.Test.YtnopplgplfenaaaDoorRows
import GoSem.ClaimSeven
namespace Go.Proofs.YtnopplgplfenaaaDoor
namespace Rows

/-- THE TIED CARD OF 'azimuthlaw01.RunesCuts'. -/
def runesCutsCard : Claim7 := { stood := { row := runesCutsRow, standIns := [], harness := (true, "93a74133eab43cbf1a951ebeccbcaee5c429ae6548cab6a984f149e22cc71cdc"), looks := false }, kinds := [], alts := [], laidByText := true, laidKinds := [.data, .pinned], laidTests := true, laidLooks := .later }
def RunesCutsCardSaid : Prop := Claim7.holds Tryd.pinned (.plain (OpenSpec.ofChange runesCutsSpec)) runesCutsCard

/-- THE TIED CARD OF 'azimuthlaw01.RunesReads'. -/
def runesReadsCard : Claim7 := { stood := { row := runesReadsRow, standIns := [], harness := (true, "93a74133eab43cbf1a951ebeccbcaee5c429ae6548cab6a984f149e22cc71cdc"), looks := false }, kinds := [], alts := [], laidByText := true, laidKinds := [.data, .pinned], laidTests := true, laidLooks := .later }
def RunesReadsCardSaid : Prop := Claim7.holds Tryd.pinned (.plain (OpenSpec.ofChange runesReadsSpec)) runesReadsCard

/-- THE TIED CARD OF 'azimuthlaw01.RunesEncodes'. -/
def runesEncodesCard : Claim7 := { stood := { row := runesEncodesRow, standIns := [], harness := (true, "93a74133eab43cbf1a951ebeccbcaee5c429ae6548cab6a984f149e22cc71cdc"), looks := false }, kinds := [], alts := [], laidByText := true, laidKinds := [.data, .pinned], laidTests := true, laidLooks := .later }
def RunesEncodesCardSaid : Prop := Claim7.holds Tryd.pinned (.plain (OpenSpec.ofChange runesEncodesSpec)) runesEncodesCard

/-- THE TIED CARD OF 'azimuthlaw01.RunesWhere'. -/
def runesWhereCard : Claim7 := { stood := { row := runesWhereRow, standIns := [], harness := (true, "93a74133eab43cbf1a951ebeccbcaee5c429ae6548cab6a984f149e22cc71cdc"), looks := false }, kinds := [], alts := [], laidByText := true, laidKinds := [.data, .pinned], laidTests := true, laidLooks := .later }
def RunesWhereCardSaid : Prop := Claim7.holds Tryd.pinned (.plain (OpenSpec.ofChange runesWhereSpec)) runesWhereCard

/-- THE TIED CARD OF 'azimuthlaw01.RunesJoin'. -/
def runesJoinCard : Claim7 := { stood := { row := runesJoinRow, standIns := [], harness := (true, "93a74133eab43cbf1a951ebeccbcaee5c429ae6548cab6a984f149e22cc71cdc"), looks := false }, kinds := [], alts := [], laidByText := true, laidKinds := [.data, .pinned], laidTests := true, laidLooks := .later }
def RunesJoinCardSaid : Prop := Claim7.holds Tryd.pinned (.plain (OpenSpec.ofChange runesJoinSpec)) runesJoinCard

/-- THE SECOND FORM's CARD OF 'azimuthlaw01.RunesCuts'. -/
def runesCutsUptoCard : Claim7 := { stood := { row := runesCutsUptoRow, standIns := [], harness := (true, "93a74133eab43cbf1a951ebeccbcaee5c429ae6548cab6a984f149e22cc71cdc"), looks := false }, kinds := [], alts := [], laidByText := true, laidKinds := [.data, .pinned], laidTests := true, laidLooks := .later }
def RunesCutsUptoCardSaid : Prop := Claim7.holds Tryd.pinned (.plain (OpenSpec.upto runesCutsSpec)) runesCutsUptoCard

/-- THE SECOND FORM's CARD OF 'azimuthlaw01.RunesReads'. -/
def runesReadsUptoCard : Claim7 := { stood := { row := runesReadsUptoRow, standIns := [], harness := (true, "93a74133eab43cbf1a951ebeccbcaee5c429ae6548cab6a984f149e22cc71cdc"), looks := false }, kinds := [], alts := [], laidByText := true, laidKinds := [.data, .pinned], laidTests := true, laidLooks := .later }
def RunesReadsUptoCardSaid : Prop := Claim7.holds Tryd.pinned (.plain (OpenSpec.upto runesReadsSpec)) runesReadsUptoCard

/-- THE SECOND FORM's CARD OF 'azimuthlaw01.RunesEncodes'. -/
def runesEncodesUptoCard : Claim7 := { stood := { row := runesEncodesUptoRow, standIns := [], harness := (true, "93a74133eab43cbf1a951ebeccbcaee5c429ae6548cab6a984f149e22cc71cdc"), looks := false }, kinds := [], alts := [], laidByText := true, laidKinds := [.data, .pinned], laidTests := true, laidLooks := .later }
def RunesEncodesUptoCardSaid : Prop := Claim7.holds Tryd.pinned (.plain (OpenSpec.upto runesEncodesSpec)) runesEncodesUptoCard

/-- THE SECOND FORM's CARD OF 'azimuthlaw01.RunesWhere'. -/
def runesWhereUptoCard : Claim7 := { stood := { row := runesWhereUptoRow, standIns := [], harness := (true, "93a74133eab43cbf1a951ebeccbcaee5c429ae6548cab6a984f149e22cc71cdc"), looks := false }, kinds := [], alts := [], laidByText := true, laidKinds := [.data, .pinned], laidTests := true, laidLooks := .later }
def RunesWhereUptoCardSaid : Prop := Claim7.holds Tryd.pinned (.plain (OpenSpec.upto runesWhereSpec)) runesWhereUptoCard

/-- THE SECOND FORM's CARD OF 'azimuthlaw01.RunesJoin'. -/
def runesJoinUptoCard : Claim7 := { stood := { row := runesJoinUptoRow, standIns := [], harness := (true, "93a74133eab43cbf1a951ebeccbcaee5c429ae6548cab6a984f149e22cc71cdc"), looks := false }, kinds := [], alts := [], laidByText := true, laidKinds := [.data, .pinned], laidTests := true, laidLooks := .later }
def RunesJoinUptoCardSaid : Prop := Claim7.holds Tryd.pinned (.plain (OpenSpec.upto runesJoinSpec)) runesJoinUptoCard
end Rows
end Go.Proofs.YtnopplgplfenaaaDoor
