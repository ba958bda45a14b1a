/-
  DERIVED. GIVEN WITH THE SEED: THE CARDS: each row of YtcinhndidkllbaaDoorRows.lean that lists a variable, with what it lists TIED to the program's text (the seventh form; the later family's looks); each row that meets fmt, with fmt's text TOLD by the authors' own Lean function (tested against real Go, not proved from fmt's source: count such statements apart). THE CARD IS WHAT COUNTS. Prove the row's statement (the work); the ties are given (YtcinhndidkllbaaDoorTie.lean); close each card by the builder's one call (the guide's Derived/Test/ToyasCard.lean, 'card_holds'). Laid BY PROGRAM, IN A SANDBOX (cutbox-door.mjs). By AI agents, Wed Nov 11 2026. No macro, syntax, notation, axiom, sorry.
-/
import Derived.Test.YtcinhndidkllbaaDoorRows
import GoSem.ClaimSeven
namespace Go.Proofs.YtcinhndidkllbaaDoor
namespace Rows

/-- THE TIED CARD OF 'inglenooklaw1.ValMakes'. -/
def valMakesCard : Claim7 := { stood := { row := valMakesRow, standIns := [], harness := (true, "c27b9c746a20d5d0abe61d8c1e46b85ba6d3542a14d131095415a6f86a16257d"), looks := true }, kinds := [], alts := [], laidByText := true, laidKinds := [.sentinel, .sentinel, .sentinel, .sentinel], laidTests := true, laidLooks := .later }
def ValMakesCardSaid : Prop := Claim7.holds Tryd.pinned (.plain (OpenSpec.ofChange valMakesSpec)) valMakesCard

/-- THE TIED CARD OF 'inglenooklaw2.LitSays'. -/
def litSaysCard : Claim7 := { stood := { row := litSaysRow, standIns := [], harness := (true, "c27b9c746a20d5d0abe61d8c1e46b85ba6d3542a14d131095415a6f86a16257d"), looks := true }, kinds := [], alts := [], laidByText := true, laidKinds := [.data, .data, .data, .sentinel, .sentinel, .sentinel, .sentinel, .sentinel, .data], laidTests := true, laidLooks := .later }
def LitSaysCardSaid : Prop := Claim7.holds Tryd.pinned (.plain (OpenSpec.ofChange litSaysSpec)) litSaysCard

/-- THE TIED CARD OF 'inglenooklaw2.LitReads'. -/
def litReadsCard : Claim7 := { stood := { row := litReadsRow, standIns := [], harness := (true, "c27b9c746a20d5d0abe61d8c1e46b85ba6d3542a14d131095415a6f86a16257d"), looks := true }, kinds := [], alts := [], laidByText := true, laidKinds := [.data, .data, .data, .sentinel, .sentinel, .sentinel, .sentinel, .sentinel, .sentinel, .sentinel, .sentinel, .sentinel, .sentinel, .sentinel, .sentinel, .sentinel, .sentinel, .sentinel, .sentinel, .sentinel, .data], laidTests := true, laidLooks := .later }
def LitReadsCardSaid : Prop := Claim7.holds Tryd.pinned (.plain (OpenSpec.ofChange litReadsSpec)) litReadsCard

/-- THE TIED CARD OF 'inglenooklaw2.LitNames'. -/
def litNamesCard : Claim7 := { stood := { row := litNamesRow, standIns := [], harness := (true, "c27b9c746a20d5d0abe61d8c1e46b85ba6d3542a14d131095415a6f86a16257d"), looks := true }, kinds := [], alts := [], laidByText := true, laidKinds := [.sentinel, .sentinel, .sentinel, .sentinel, .sentinel, .data], laidTests := true, laidLooks := .later }
def LitNamesCardSaid : Prop := Claim7.holds Tryd.pinned (.plain (OpenSpec.ofChange litNamesSpec)) litNamesCard

/-- THE TIED CARD OF 'inglenooklaw2.LitSpoilt'. -/
def litSpoiltCard : Claim7 := { stood := { row := litSpoiltRow, standIns := [], harness := (true, "c27b9c746a20d5d0abe61d8c1e46b85ba6d3542a14d131095415a6f86a16257d"), looks := true }, kinds := [], alts := [], laidByText := true, laidKinds := [.data, .data, .data, .sentinel, .sentinel, .sentinel, .sentinel, .sentinel, .data], laidTests := true, laidLooks := .later }
def LitSpoiltCardSaid : Prop := Claim7.holds Tryd.pinned (.plain (OpenSpec.ofChange litSpoiltSpec)) litSpoiltCard

/-- THE SECOND FORM's CARD OF 'inglenooklaw1.ValMakes'. -/
def valMakesUptoCard : Claim7 := { stood := { row := valMakesUptoRow, standIns := [], harness := (true, "c27b9c746a20d5d0abe61d8c1e46b85ba6d3542a14d131095415a6f86a16257d"), looks := true }, kinds := [], alts := [], laidByText := true, laidKinds := [.sentinel, .sentinel, .sentinel, .sentinel], laidTests := true, laidLooks := .later }
def ValMakesUptoCardSaid : Prop := Claim7.holds Tryd.pinned (.plain (OpenSpec.upto valMakesSpec)) valMakesUptoCard

/-- THE SECOND FORM's CARD OF 'inglenooklaw2.LitSays'. -/
def litSaysUptoCard : Claim7 := { stood := { row := litSaysUptoRow, standIns := [], harness := (true, "c27b9c746a20d5d0abe61d8c1e46b85ba6d3542a14d131095415a6f86a16257d"), looks := true }, kinds := [], alts := [], laidByText := true, laidKinds := [.data, .data, .data, .sentinel, .sentinel, .sentinel, .sentinel, .sentinel, .data], laidTests := true, laidLooks := .later }
def LitSaysUptoCardSaid : Prop := Claim7.holds Tryd.pinned (.plain (OpenSpec.upto litSaysSpec)) litSaysUptoCard

/-- THE SECOND FORM's CARD OF 'inglenooklaw2.LitReads'. -/
def litReadsUptoCard : Claim7 := { stood := { row := litReadsUptoRow, standIns := [], harness := (true, "c27b9c746a20d5d0abe61d8c1e46b85ba6d3542a14d131095415a6f86a16257d"), looks := true }, kinds := [], alts := [], laidByText := true, laidKinds := [.data, .data, .data, .sentinel, .sentinel, .sentinel, .sentinel, .sentinel, .sentinel, .sentinel, .sentinel, .sentinel, .sentinel, .sentinel, .sentinel, .sentinel, .sentinel, .sentinel, .sentinel, .sentinel, .data], laidTests := true, laidLooks := .later }
def LitReadsUptoCardSaid : Prop := Claim7.holds Tryd.pinned (.plain (OpenSpec.upto litReadsSpec)) litReadsUptoCard

/-- THE SECOND FORM's CARD OF 'inglenooklaw2.LitNames'. -/
def litNamesUptoCard : Claim7 := { stood := { row := litNamesUptoRow, standIns := [], harness := (true, "c27b9c746a20d5d0abe61d8c1e46b85ba6d3542a14d131095415a6f86a16257d"), looks := true }, kinds := [], alts := [], laidByText := true, laidKinds := [.sentinel, .sentinel, .sentinel, .sentinel, .sentinel, .data], laidTests := true, laidLooks := .later }
def LitNamesUptoCardSaid : Prop := Claim7.holds Tryd.pinned (.plain (OpenSpec.upto litNamesSpec)) litNamesUptoCard

/-- THE SECOND FORM's CARD OF 'inglenooklaw2.LitSpoilt'. -/
def litSpoiltUptoCard : Claim7 := { stood := { row := litSpoiltUptoRow, standIns := [], harness := (true, "c27b9c746a20d5d0abe61d8c1e46b85ba6d3542a14d131095415a6f86a16257d"), looks := true }, kinds := [], alts := [], laidByText := true, laidKinds := [.data, .data, .data, .sentinel, .sentinel, .sentinel, .sentinel, .sentinel, .data], laidTests := true, laidLooks := .later }
def LitSpoiltUptoCardSaid : Prop := Claim7.holds Tryd.pinned (.plain (OpenSpec.upto litSpoiltSpec)) litSpoiltUptoCard
end Rows
end Go.Proofs.YtcinhndidkllbaaDoor
