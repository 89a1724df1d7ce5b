/-
  DERIVED. GIVEN WITH THE SEED: THE CARDS: each row of YtinajnkjfhbmkaaDoorRows.lean that lists a variable, with what it lists TIED to the program's text (the seventh form; the later family's looks); each row that meets fmt, with fmt's text TOLD by the authors' own Lean function (tested against real Go, not proved from fmt's source: count such statements apart). THE CARD IS WHAT COUNTS. Prove the row's statement (the work); the ties are given (YtinajnkjfhbmkaaDoorTie.lean); close each card by the builder's one call (the guide's Derived/Test/ToyasCard.lean, 'card_holds'). Laid BY PROGRAM, IN A SANDBOX (cutbox-door.mjs). By AI agents, Wed Nov 11 2026. No macro, syntax, notation, axiom, sorry.
-/
import Derived.Test.YtinajnkjfhbmkaaDoorRows
import GoSem.ClaimSeven
namespace Go.Proofs.YtinajnkjfhbmkaaDoor
namespace Rows

/-- THE TIED CARD OF 'azimuthlaw04.TreeAround'. -/
def treeAroundCard : Claim7 := { stood := { row := treeAroundRow, standIns := [], harness := (true, "e64b6b0d73efe6ea5a11a9bc0dcbc1f9c6dd6cbe72a7931f095a580499dcb1cb"), looks := false }, kinds := [], alts := [], laidByText := true, laidKinds := [.data, .pinned], laidTests := true, laidLooks := .later }
def TreeAroundCardSaid : Prop := Claim7.holds Tryd.pinned (.plain (OpenSpec.ofChange treeAroundSpec)) treeAroundCard

/-- THE TIED CARD OF 'azimuthlaw04.TreeBuilds'. -/
def treeBuildsCard : Claim7 := { stood := { row := treeBuildsRow, standIns := [], harness := (true, "e64b6b0d73efe6ea5a11a9bc0dcbc1f9c6dd6cbe72a7931f095a580499dcb1cb"), looks := false }, kinds := [], alts := [], laidByText := true, laidKinds := [.data, .pinned], laidTests := true, laidLooks := .later }
def TreeBuildsCardSaid : Prop := Claim7.holds Tryd.pinned (.plain (OpenSpec.ofChange treeBuildsSpec)) treeBuildsCard

/-- THE TIED CARD OF 'azimuthlaw04.TreeFull'. -/
def treeFullCard : Claim7 := { stood := { row := treeFullRow, standIns := [], harness := (true, "e64b6b0d73efe6ea5a11a9bc0dcbc1f9c6dd6cbe72a7931f095a580499dcb1cb"), looks := false }, kinds := [], alts := [], laidByText := true, laidKinds := [.data, .pinned], laidTests := true, laidLooks := .later }
def TreeFullCardSaid : Prop := Claim7.holds Tryd.pinned (.plain (OpenSpec.ofChange treeFullSpec)) treeFullCard

/-- THE SECOND FORM's CARD OF 'azimuthlaw04.TreeAround'. -/
def treeAroundUptoCard : Claim7 := { stood := { row := treeAroundUptoRow, standIns := [], harness := (true, "e64b6b0d73efe6ea5a11a9bc0dcbc1f9c6dd6cbe72a7931f095a580499dcb1cb"), looks := false }, kinds := [], alts := [], laidByText := true, laidKinds := [.data, .pinned], laidTests := true, laidLooks := .later }
def TreeAroundUptoCardSaid : Prop := Claim7.holds Tryd.pinned (.plain (OpenSpec.upto treeAroundSpec)) treeAroundUptoCard

/-- THE SECOND FORM's CARD OF 'azimuthlaw04.TreeBuilds'. -/
def treeBuildsUptoCard : Claim7 := { stood := { row := treeBuildsUptoRow, standIns := [], harness := (true, "e64b6b0d73efe6ea5a11a9bc0dcbc1f9c6dd6cbe72a7931f095a580499dcb1cb"), looks := false }, kinds := [], alts := [], laidByText := true, laidKinds := [.data, .pinned], laidTests := true, laidLooks := .later }
def TreeBuildsUptoCardSaid : Prop := Claim7.holds Tryd.pinned (.plain (OpenSpec.upto treeBuildsSpec)) treeBuildsUptoCard

/-- THE SECOND FORM's CARD OF 'azimuthlaw04.TreeFull'. -/
def treeFullUptoCard : Claim7 := { stood := { row := treeFullUptoRow, standIns := [], harness := (true, "e64b6b0d73efe6ea5a11a9bc0dcbc1f9c6dd6cbe72a7931f095a580499dcb1cb"), looks := false }, kinds := [], alts := [], laidByText := true, laidKinds := [.data, .pinned], laidTests := true, laidLooks := .later }
def TreeFullUptoCardSaid : Prop := Claim7.holds Tryd.pinned (.plain (OpenSpec.upto treeFullSpec)) treeFullUptoCard
end Rows
end Go.Proofs.YtinajnkjfhbmkaaDoor
