/-
  DERIVED. GIVEN WITH THE SEED: THE CARDS: each row of YtminmadaeaiihaaDoorRows.lean that lists a variable, with what it lists TIED to the program's text (the seventh form; the later family's looks); each row that meets fmt, with fmt's text TOLD by the authors' own Lean function (tested against real Go, not proved from fmt's source: count such statements apart). THE CARD IS WHAT COUNTS. Prove the row's statement (the work); the ties are given (YtminmadaeaiihaaDoorTie.lean); close each card by the builder's one call (the guide's Derived/Test/ToyasCard.lean, 'card_holds'). Laid BY PROGRAM, IN A SANDBOX (cutbox-door.mjs). By AI agents, Wed Nov 11 2026. No macro, syntax, notation, axiom, sorry.
-/
import Derived.Test.YtminmadaeaiihaaDoorRows
import GoSem.ClaimSeven
namespace Go.Proofs.YtminmadaeaiihaaDoor
namespace Rows

/-- THE TIED CARD OF 'inglenooklaw7.TreeSays'. -/
def treeSaysCard : Claim7 := { stood := { row := treeSaysRow, standIns := [], harness := (true, "c502ad787b304169487af729c8a1a81ee35f6d06b90b28396989d2acc04cb0bb"), looks := false }, kinds := [], alts := [], laidByText := true, laidKinds := [.sentinel, .sentinel, .sentinel, .sentinel, .sentinel], laidTests := true, laidLooks := .later }
def TreeSaysCardSaid : Prop := Claim7.holds Tryd.pinned (.plain (OpenSpec.ofChange treeSaysSpec)) treeSaysCard

/-- THE TIED CARD OF 'inglenooklaw7.TreeEach'. -/
def treeEachCard : Claim7 := { stood := { row := treeEachRow, standIns := [], harness := (true, "c502ad787b304169487af729c8a1a81ee35f6d06b90b28396989d2acc04cb0bb"), looks := false }, kinds := [], alts := [], laidByText := true, laidKinds := [.sentinel, .sentinel, .sentinel, .sentinel, .sentinel], laidTests := true, laidLooks := .later }
def TreeEachCardSaid : Prop := Claim7.holds Tryd.pinned (.plain (OpenSpec.ofChange treeEachSpec)) treeEachCard

/-- THE TIED CARD OF 'inglenooklaw8.ShowNames'. -/
def showNamesCard : Claim7 := { stood := { row := showNamesRow, standIns := [], harness := (true, "c502ad787b304169487af729c8a1a81ee35f6d06b90b28396989d2acc04cb0bb"), looks := false }, kinds := [], alts := [], laidByText := true, laidKinds := [.data, .data, .data, .sentinel, .sentinel, .sentinel, .sentinel, .sentinel, .data, .data], laidTests := true, laidLooks := .later }
def ShowNamesCardSaid : Prop := Claim7.holds Tryd.pinned (.plain (OpenSpec.ofChange showNamesSpec)) showNamesCard

/-- THE SECOND FORM's CARD OF 'inglenooklaw7.TreeSays'. -/
def treeSaysUptoCard : Claim7 := { stood := { row := treeSaysUptoRow, standIns := [], harness := (true, "c502ad787b304169487af729c8a1a81ee35f6d06b90b28396989d2acc04cb0bb"), looks := false }, kinds := [], alts := [], laidByText := true, laidKinds := [.sentinel, .sentinel, .sentinel, .sentinel, .sentinel], laidTests := true, laidLooks := .later }
def TreeSaysUptoCardSaid : Prop := Claim7.holds Tryd.pinned (.plain (OpenSpec.upto treeSaysSpec)) treeSaysUptoCard

/-- THE SECOND FORM's CARD OF 'inglenooklaw7.TreeEach'. -/
def treeEachUptoCard : Claim7 := { stood := { row := treeEachUptoRow, standIns := [], harness := (true, "c502ad787b304169487af729c8a1a81ee35f6d06b90b28396989d2acc04cb0bb"), looks := false }, kinds := [], alts := [], laidByText := true, laidKinds := [.sentinel, .sentinel, .sentinel, .sentinel, .sentinel], laidTests := true, laidLooks := .later }
def TreeEachUptoCardSaid : Prop := Claim7.holds Tryd.pinned (.plain (OpenSpec.upto treeEachSpec)) treeEachUptoCard

/-- THE SECOND FORM's CARD OF 'inglenooklaw8.ShowNames'. -/
def showNamesUptoCard : Claim7 := { stood := { row := showNamesUptoRow, standIns := [], harness := (true, "c502ad787b304169487af729c8a1a81ee35f6d06b90b28396989d2acc04cb0bb"), looks := false }, kinds := [], alts := [], laidByText := true, laidKinds := [.data, .data, .data, .sentinel, .sentinel, .sentinel, .sentinel, .sentinel, .data, .data], laidTests := true, laidLooks := .later }
def ShowNamesUptoCardSaid : Prop := Claim7.holds Tryd.pinned (.plain (OpenSpec.upto showNamesSpec)) showNamesUptoCard
end Rows
end Go.Proofs.YtminmadaeaiihaaDoor
