/-
  DERIVED. GIVEN WITH THE SEED: THE CARDS: each row of YtcecgfijfnnpeaaDoorRows.lean that lists a variable, with what it lists TIED to the program's text (the seventh form; the later family's looks); each row that meets fmt, with fmt's text TOLD by the authors' own Lean function (tested against real Go, not proved from fmt's source: count such statements apart). THE CARD IS WHAT COUNTS. Prove the row's statement (the work); the ties are given (YtcecgfijfnnpeaaDoorTie.lean); close each card by the builder's one call (the guide's Derived/Test/ToyasCard.lean, 'card_holds'). Laid BY PROGRAM, IN A SANDBOX (cutbox-door.mjs). By AI agents, Wed Nov 11 2026. No macro, syntax, notation, axiom, sorry.
-/
import Derived.Test.YtcecgfijfnnpeaaDoorRows
import GoSem.ClaimSeven
namespace Go.Proofs.YtcecgfijfnnpeaaDoor
namespace Rows

/-- THE TIED CARD OF 'inglenooklaw10.MatchSays'. -/
def matchSaysCard : Claim7 := { stood := { row := matchSaysRow, standIns := [], harness := (true, "dc62a295a3a0b2ebe4f6c533003ae7a351e0f6428c93f6b95d59a1f22a31a183"), looks := true }, kinds := [], alts := [], laidByText := true, laidKinds := [.data, .data, .data, .data, .sentinel, .sentinel, .data, .pinned], laidTests := true, laidLooks := .later }
def MatchSaysCardSaid : Prop := Claim7.holds Tryd.pinned (.plain (OpenSpec.ofChange matchSaysSpec)) matchSaysCard

/-- THE TIED CARD OF 'inglenooklaw10.MatchStars'. -/
def matchStarsCard : Claim7 := { stood := { row := matchStarsRow, standIns := [], harness := (true, "dc62a295a3a0b2ebe4f6c533003ae7a351e0f6428c93f6b95d59a1f22a31a183"), looks := true }, kinds := [], alts := [], laidByText := true, laidKinds := [.data, .pinned], laidTests := true, laidLooks := .later }
def MatchStarsCardSaid : Prop := Claim7.holds Tryd.pinned (.plain (OpenSpec.ofChange matchStarsSpec)) matchStarsCard

/-- THE TIED CARD OF 'inglenooklaw10.MatchMeans'. -/
def matchMeansCard : Claim7 := { stood := { row := matchMeansRow, standIns := [], harness := (true, "dc62a295a3a0b2ebe4f6c533003ae7a351e0f6428c93f6b95d59a1f22a31a183"), looks := true }, kinds := [], alts := [], laidByText := true, laidKinds := [.data, .data, .data, .data, .sentinel, .sentinel, .pinned], laidTests := true, laidLooks := .later }
def MatchMeansCardSaid : Prop := Claim7.holds Tryd.pinned (.plain (OpenSpec.ofChange matchMeansSpec)) matchMeansCard

/-- THE TIED CARD OF 'inglenooklaw10.MatchPreps'. -/
def matchPrepsCard : Claim7 := { stood := { row := matchPrepsRow, standIns := [], harness := (true, "dc62a295a3a0b2ebe4f6c533003ae7a351e0f6428c93f6b95d59a1f22a31a183"), looks := true }, kinds := [], alts := [], laidByText := true, laidKinds := [.data, .data, .pinned], laidTests := true, laidLooks := .later }
def MatchPrepsCardSaid : Prop := Claim7.holds Tryd.pinned (.plain (OpenSpec.ofChange matchPrepsSpec)) matchPrepsCard

/-- THE TIED CARD OF 'inglenooklaw10.MatchNumbers'. -/
def matchNumbersCard : Claim7 := { stood := { row := matchNumbersRow, standIns := [], harness := (true, "dc62a295a3a0b2ebe4f6c533003ae7a351e0f6428c93f6b95d59a1f22a31a183"), looks := true }, kinds := [], alts := [], laidByText := true, laidKinds := [.data, .data, .data, .data, .sentinel, .sentinel, .pinned], laidTests := true, laidLooks := .later }
def MatchNumbersCardSaid : Prop := Claim7.holds Tryd.pinned (.plain (OpenSpec.ofChange matchNumbersSpec)) matchNumbersCard

/-- THE SECOND FORM's CARD OF 'inglenooklaw10.MatchSays'. -/
def matchSaysUptoCard : Claim7 := { stood := { row := matchSaysUptoRow, standIns := [], harness := (true, "dc62a295a3a0b2ebe4f6c533003ae7a351e0f6428c93f6b95d59a1f22a31a183"), looks := true }, kinds := [], alts := [], laidByText := true, laidKinds := [.data, .data, .data, .data, .sentinel, .sentinel, .data, .pinned], laidTests := true, laidLooks := .later }
def MatchSaysUptoCardSaid : Prop := Claim7.holds Tryd.pinned (.plain (OpenSpec.upto matchSaysSpec)) matchSaysUptoCard

/-- THE SECOND FORM's CARD OF 'inglenooklaw10.MatchStars'. -/
def matchStarsUptoCard : Claim7 := { stood := { row := matchStarsUptoRow, standIns := [], harness := (true, "dc62a295a3a0b2ebe4f6c533003ae7a351e0f6428c93f6b95d59a1f22a31a183"), looks := true }, kinds := [], alts := [], laidByText := true, laidKinds := [.data, .pinned], laidTests := true, laidLooks := .later }
def MatchStarsUptoCardSaid : Prop := Claim7.holds Tryd.pinned (.plain (OpenSpec.upto matchStarsSpec)) matchStarsUptoCard

/-- THE SECOND FORM's CARD OF 'inglenooklaw10.MatchMeans'. -/
def matchMeansUptoCard : Claim7 := { stood := { row := matchMeansUptoRow, standIns := [], harness := (true, "dc62a295a3a0b2ebe4f6c533003ae7a351e0f6428c93f6b95d59a1f22a31a183"), looks := true }, kinds := [], alts := [], laidByText := true, laidKinds := [.data, .data, .data, .data, .sentinel, .sentinel, .pinned], laidTests := true, laidLooks := .later }
def MatchMeansUptoCardSaid : Prop := Claim7.holds Tryd.pinned (.plain (OpenSpec.upto matchMeansSpec)) matchMeansUptoCard

/-- THE SECOND FORM's CARD OF 'inglenooklaw10.MatchPreps'. -/
def matchPrepsUptoCard : Claim7 := { stood := { row := matchPrepsUptoRow, standIns := [], harness := (true, "dc62a295a3a0b2ebe4f6c533003ae7a351e0f6428c93f6b95d59a1f22a31a183"), looks := true }, kinds := [], alts := [], laidByText := true, laidKinds := [.data, .data, .pinned], laidTests := true, laidLooks := .later }
def MatchPrepsUptoCardSaid : Prop := Claim7.holds Tryd.pinned (.plain (OpenSpec.upto matchPrepsSpec)) matchPrepsUptoCard

/-- THE SECOND FORM's CARD OF 'inglenooklaw10.MatchNumbers'. -/
def matchNumbersUptoCard : Claim7 := { stood := { row := matchNumbersUptoRow, standIns := [], harness := (true, "dc62a295a3a0b2ebe4f6c533003ae7a351e0f6428c93f6b95d59a1f22a31a183"), looks := true }, kinds := [], alts := [], laidByText := true, laidKinds := [.data, .data, .data, .data, .sentinel, .sentinel, .pinned], laidTests := true, laidLooks := .later }
def MatchNumbersUptoCardSaid : Prop := Claim7.holds Tryd.pinned (.plain (OpenSpec.upto matchNumbersSpec)) matchNumbersUptoCard
end Rows
end Go.Proofs.YtcecgfijfnnpeaaDoor
