/-
  DERIVED. GIVEN WITH THE SEED: THE CARDS: each row of YtnlbibfjhobmjaaDoorRows.lean that lists a variable, with what it lists TIED to the program's text (the seventh form; the later family's looks); each row that meets fmt, with fmt's text TOLD by the authors' own Lean function (tested against real Go, not proved from fmt's source: count such statements apart). THE CARD IS WHAT COUNTS. Prove the row's statement (the work); the ties are given (YtnlbibfjhobmjaaDoorTie.lean); close each card by the builder's one call (the guide's Derived/Test/ToyasCard.lean, 'card_holds'). Laid BY PROGRAM, IN A SANDBOX (cutbox-door.mjs). By AI agents, Wed Nov 11 2026. No macro, syntax, notation, axiom, sorry.
-/
import Derived.Test.YtnlbibfjhobmjaaDoorRows
import GoSem.ClaimSeven
namespace Go.Proofs.YtnlbibfjhobmjaaDoor
namespace Rows

/-- THE TIED CARD OF 'inglenooklaw3.StrSays'. -/
def strSaysCard : Claim7 := { stood := { row := strSaysRow, standIns := [], harness := (true, "93e4c2b55acd8c843b99ddb7609f11293ae92ed817fd4586a3bc305244a982ff"), looks := false }, kinds := [], alts := [], laidByText := true, laidKinds := [.data, .pinned], laidTests := true, laidLooks := .later }
def StrSaysCardSaid : Prop := Claim7.holds Tryd.pinned (.plain (OpenSpec.ofChange strSaysSpec)) strSaysCard

/-- THE TIED CARD OF 'inglenooklaw3.StrParts'. -/
def strPartsCard : Claim7 := { stood := { row := strPartsRow, standIns := [], harness := (true, "93e4c2b55acd8c843b99ddb7609f11293ae92ed817fd4586a3bc305244a982ff"), looks := false }, kinds := [], alts := [], laidByText := true, laidKinds := [.data, .pinned], laidTests := true, laidLooks := .later }
def StrPartsCardSaid : Prop := Claim7.holds Tryd.pinned (.plain (OpenSpec.ofChange strPartsSpec)) strPartsCard

/-- THE SECOND FORM's CARD OF 'inglenooklaw3.StrSays'. -/
def strSaysUptoCard : Claim7 := { stood := { row := strSaysUptoRow, standIns := [], harness := (true, "93e4c2b55acd8c843b99ddb7609f11293ae92ed817fd4586a3bc305244a982ff"), looks := false }, kinds := [], alts := [], laidByText := true, laidKinds := [.data, .pinned], laidTests := true, laidLooks := .later }
def StrSaysUptoCardSaid : Prop := Claim7.holds Tryd.pinned (.plain (OpenSpec.upto strSaysSpec)) strSaysUptoCard

/-- THE SECOND FORM's CARD OF 'inglenooklaw3.StrParts'. -/
def strPartsUptoCard : Claim7 := { stood := { row := strPartsUptoRow, standIns := [], harness := (true, "93e4c2b55acd8c843b99ddb7609f11293ae92ed817fd4586a3bc305244a982ff"), looks := false }, kinds := [], alts := [], laidByText := true, laidKinds := [.data, .pinned], laidTests := true, laidLooks := .later }
def StrPartsUptoCardSaid : Prop := Claim7.holds Tryd.pinned (.plain (OpenSpec.upto strPartsSpec)) strPartsUptoCard
end Rows
end Go.Proofs.YtnlbibfjhobmjaaDoor
