/-
  DERIVED. GIVEN WITH THE SEED: THE CARDS: each row of YtllogjmepflnoaaDoorRows.lean that lists a variable, with what it lists TIED to the program's text (the seventh form; the later family's looks); each row that meets fmt, with fmt's text TOLD by the authors' own Lean function (tested against real Go, not proved from fmt's source: count such statements apart). THE CARD IS WHAT COUNTS. Prove the row's statement (the work); the ties are given (YtllogjmepflnoaaDoorTie.lean); close each card by the builder's one call (the guide's Derived/Test/ToyasCard.lean, 'card_holds'). Laid BY PROGRAM, IN A SANDBOX (cutbox-door.mjs). By AI agents, Wed Nov 11 2026. No macro, syntax, notation, axiom, sorry.
-/
import Derived.Test.YtllogjmepflnoaaDoorRows
import GoSem.ClaimSeven
namespace Go.Proofs.YtllogjmepflnoaaDoor
namespace Rows

/-- THE TIED CARD OF 'quadformlaw01.IntegerNormalizes'. -/
def integerNormalizesCard : Claim7 := { stood := { row := integerNormalizesRow, standIns := [], harness := (true, "a9d94c2cb87a2d3d14f86c9dc14d75e3c34e29b638d8f5d5ccd89ca93181addd"), looks := false }, kinds := [], alts := [], laidByText := true, laidKinds := [.data, .pinned], laidTests := true, laidLooks := .later }
def IntegerNormalizesCardSaid : Prop := Claim7.holds Tryd.pinned (.plain (OpenSpec.ofChange integerNormalizesSpec)) integerNormalizesCard

/-- THE TIED CARD OF 'quadformlaw01.IntegerSmall'. -/
def integerSmallCard : Claim7 := { stood := { row := integerSmallRow, standIns := [], harness := (true, "a9d94c2cb87a2d3d14f86c9dc14d75e3c34e29b638d8f5d5ccd89ca93181addd"), looks := false }, kinds := [], alts := [], laidByText := true, laidKinds := [.data, .pinned], laidTests := true, laidLooks := .later }
def IntegerSmallCardSaid : Prop := Claim7.holds Tryd.pinned (.plain (OpenSpec.ofChange integerSmallSpec)) integerSmallCard

/-- THE TIED CARD OF 'quadformlaw01.IntegerFits'. -/
def integerFitsCard : Claim7 := { stood := { row := integerFitsRow, standIns := [], harness := (true, "a9d94c2cb87a2d3d14f86c9dc14d75e3c34e29b638d8f5d5ccd89ca93181addd"), looks := false }, kinds := [], alts := [], laidByText := true, laidKinds := [.data, .pinned], laidTests := true, laidLooks := .later }
def IntegerFitsCardSaid : Prop := Claim7.holds Tryd.pinned (.plain (OpenSpec.ofChange integerFitsSpec)) integerFitsCard

/-- THE TIED CARD OF 'quadformlaw01.IntegerCompares'. -/
def integerComparesCard : Claim7 := { stood := { row := integerComparesRow, standIns := [], harness := (true, "a9d94c2cb87a2d3d14f86c9dc14d75e3c34e29b638d8f5d5ccd89ca93181addd"), looks := false }, kinds := [], alts := [], laidByText := true, laidKinds := [.data, .pinned], laidTests := true, laidLooks := .later }
def IntegerComparesCardSaid : Prop := Claim7.holds Tryd.pinned (.plain (OpenSpec.ofChange integerComparesSpec)) integerComparesCard

/-- THE TIED CARD OF 'quadformlaw01.IntegerMultiplies'. -/
def integerMultipliesCard : Claim7 := { stood := { row := integerMultipliesRow, standIns := [], harness := (true, "a9d94c2cb87a2d3d14f86c9dc14d75e3c34e29b638d8f5d5ccd89ca93181addd"), looks := false }, kinds := [], alts := [], laidByText := true, laidKinds := [.data, .pinned], laidTests := true, laidLooks := .later }
def IntegerMultipliesCardSaid : Prop := Claim7.holds Tryd.pinned (.plain (OpenSpec.ofChange integerMultipliesSpec)) integerMultipliesCard

/-- THE TIED CARD OF 'quadformlaw01.IntegerDivides'. -/
def integerDividesCard : Claim7 := { stood := { row := integerDividesRow, standIns := [], harness := (true, "a9d94c2cb87a2d3d14f86c9dc14d75e3c34e29b638d8f5d5ccd89ca93181addd"), looks := false }, kinds := [], alts := [], laidByText := true, laidKinds := [.data, .pinned], laidTests := true, laidLooks := .later }
def IntegerDividesCardSaid : Prop := Claim7.holds Tryd.pinned (.plain (OpenSpec.ofChange integerDividesSpec)) integerDividesCard

/-- THE TIED CARD OF 'quadformlaw01.IntegerDivision'. -/
def integerDivisionCard : Claim7 := { stood := { row := integerDivisionRow, standIns := [], harness := (true, "a9d94c2cb87a2d3d14f86c9dc14d75e3c34e29b638d8f5d5ccd89ca93181addd"), looks := false }, kinds := [], alts := [], laidByText := true, laidKinds := [.data, .pinned], laidTests := true, laidLooks := .later }
def IntegerDivisionCardSaid : Prop := Claim7.holds Tryd.pinned (.plain (OpenSpec.ofChange integerDivisionSpec)) integerDivisionCard

/-- THE TIED CARD OF 'quadformlaw01.IntegerGcds'. -/
def integerGcdsCard : Claim7 := { stood := { row := integerGcdsRow, standIns := [], harness := (true, "a9d94c2cb87a2d3d14f86c9dc14d75e3c34e29b638d8f5d5ccd89ca93181addd"), looks := false }, kinds := [], alts := [], laidByText := true, laidKinds := [.data, .pinned], laidTests := true, laidLooks := .later }
def IntegerGcdsCardSaid : Prop := Claim7.holds Tryd.pinned (.plain (OpenSpec.ofChange integerGcdsSpec)) integerGcdsCard

/-- THE TIED CARD OF 'quadformlaw01.IntegerCommon'. -/
def integerCommonCard : Claim7 := { stood := { row := integerCommonRow, standIns := [], harness := (true, "a9d94c2cb87a2d3d14f86c9dc14d75e3c34e29b638d8f5d5ccd89ca93181addd"), looks := false }, kinds := [], alts := [], laidByText := true, laidKinds := [.data, .pinned], laidTests := true, laidLooks := .later }
def IntegerCommonCardSaid : Prop := Claim7.holds Tryd.pinned (.plain (OpenSpec.ofChange integerCommonSpec)) integerCommonCard

/-- THE TIED CARD OF 'quadformlaw01.IntegerRoots'. -/
def integerRootsCard : Claim7 := { stood := { row := integerRootsRow, standIns := [], harness := (true, "a9d94c2cb87a2d3d14f86c9dc14d75e3c34e29b638d8f5d5ccd89ca93181addd"), looks := false }, kinds := [], alts := [], laidByText := true, laidKinds := [.data, .pinned], laidTests := true, laidLooks := .later }
def IntegerRootsCardSaid : Prop := Claim7.holds Tryd.pinned (.plain (OpenSpec.ofChange integerRootsSpec)) integerRootsCard

/-- THE TIED CARD OF 'quadformlaw01.IntegerSquares'. -/
def integerSquaresCard : Claim7 := { stood := { row := integerSquaresRow, standIns := [], harness := (true, "a9d94c2cb87a2d3d14f86c9dc14d75e3c34e29b638d8f5d5ccd89ca93181addd"), looks := false }, kinds := [], alts := [], laidByText := true, laidKinds := [.data, .pinned], laidTests := true, laidLooks := .later }
def IntegerSquaresCardSaid : Prop := Claim7.holds Tryd.pinned (.plain (OpenSpec.ofChange integerSquaresSpec)) integerSquaresCard

/-- THE TIED CARD OF 'quadformlaw01.IntegerPowers'. -/
def integerPowersCard : Claim7 := { stood := { row := integerPowersRow, standIns := [], harness := (true, "a9d94c2cb87a2d3d14f86c9dc14d75e3c34e29b638d8f5d5ccd89ca93181addd"), looks := false }, kinds := [], alts := [], laidByText := true, laidKinds := [.data, .pinned], laidTests := true, laidLooks := .later }
def IntegerPowersCardSaid : Prop := Claim7.holds Tryd.pinned (.plain (OpenSpec.ofChange integerPowersSpec)) integerPowersCard

/-- THE TIED CARD OF 'quadformlaw01.IntegerParses'. -/
def integerParsesCard : Claim7 := { stood := { row := integerParsesRow, standIns := [], harness := (true, "a9d94c2cb87a2d3d14f86c9dc14d75e3c34e29b638d8f5d5ccd89ca93181addd"), looks := false }, kinds := [], alts := [], laidByText := true, laidKinds := [.data, .pinned], laidTests := true, laidLooks := .later }
def IntegerParsesCardSaid : Prop := Claim7.holds Tryd.pinned (.plain (OpenSpec.ofChange integerParsesSpec)) integerParsesCard

/-- THE TIED CARD OF 'quadformlaw01.IntegerDigits'. -/
def integerDigitsCard : Claim7 := { stood := { row := integerDigitsRow, standIns := [], harness := (true, "a9d94c2cb87a2d3d14f86c9dc14d75e3c34e29b638d8f5d5ccd89ca93181addd"), looks := false }, kinds := [], alts := [], laidByText := true, laidKinds := [.data, .pinned], laidTests := true, laidLooks := .later }
def IntegerDigitsCardSaid : Prop := Claim7.holds Tryd.pinned (.plain (OpenSpec.ofChange integerDigitsSpec)) integerDigitsCard

/-- THE TIED CARD OF 'quadformlaw01.IntegerFormats'. -/
def integerFormatsCard : Claim7 := { stood := { row := integerFormatsRow, standIns := [], harness := (true, "a9d94c2cb87a2d3d14f86c9dc14d75e3c34e29b638d8f5d5ccd89ca93181addd"), looks := false }, kinds := [], alts := [], laidByText := true, laidKinds := [.data, .pinned], laidTests := true, laidLooks := .later }
def IntegerFormatsCardSaid : Prop := Claim7.holds Tryd.pinned (.plain (OpenSpec.ofChange integerFormatsSpec)) integerFormatsCard

/-- THE TIED CARD OF 'quadformlaw01.IntegerRoundTrip'. -/
def integerRoundTripCard : Claim7 := { stood := { row := integerRoundTripRow, standIns := [], harness := (true, "a9d94c2cb87a2d3d14f86c9dc14d75e3c34e29b638d8f5d5ccd89ca93181addd"), looks := false }, kinds := [], alts := [], laidByText := true, laidKinds := [.data, .pinned], laidTests := true, laidLooks := .later }
def IntegerRoundTripCardSaid : Prop := Claim7.holds Tryd.pinned (.plain (OpenSpec.ofChange integerRoundTripSpec)) integerRoundTripCard

/-- THE SECOND FORM's CARD OF 'quadformlaw01.IntegerNormalizes'. -/
def integerNormalizesUptoCard : Claim7 := { stood := { row := integerNormalizesUptoRow, standIns := [], harness := (true, "a9d94c2cb87a2d3d14f86c9dc14d75e3c34e29b638d8f5d5ccd89ca93181addd"), looks := false }, kinds := [], alts := [], laidByText := true, laidKinds := [.data, .pinned], laidTests := true, laidLooks := .later }
def IntegerNormalizesUptoCardSaid : Prop := Claim7.holds Tryd.pinned (.plain (OpenSpec.upto integerNormalizesSpec)) integerNormalizesUptoCard

/-- THE SECOND FORM's CARD OF 'quadformlaw01.IntegerSmall'. -/
def integerSmallUptoCard : Claim7 := { stood := { row := integerSmallUptoRow, standIns := [], harness := (true, "a9d94c2cb87a2d3d14f86c9dc14d75e3c34e29b638d8f5d5ccd89ca93181addd"), looks := false }, kinds := [], alts := [], laidByText := true, laidKinds := [.data, .pinned], laidTests := true, laidLooks := .later }
def IntegerSmallUptoCardSaid : Prop := Claim7.holds Tryd.pinned (.plain (OpenSpec.upto integerSmallSpec)) integerSmallUptoCard

/-- THE SECOND FORM's CARD OF 'quadformlaw01.IntegerFits'. -/
def integerFitsUptoCard : Claim7 := { stood := { row := integerFitsUptoRow, standIns := [], harness := (true, "a9d94c2cb87a2d3d14f86c9dc14d75e3c34e29b638d8f5d5ccd89ca93181addd"), looks := false }, kinds := [], alts := [], laidByText := true, laidKinds := [.data, .pinned], laidTests := true, laidLooks := .later }
def IntegerFitsUptoCardSaid : Prop := Claim7.holds Tryd.pinned (.plain (OpenSpec.upto integerFitsSpec)) integerFitsUptoCard

/-- THE SECOND FORM's CARD OF 'quadformlaw01.IntegerCompares'. -/
def integerComparesUptoCard : Claim7 := { stood := { row := integerComparesUptoRow, standIns := [], harness := (true, "a9d94c2cb87a2d3d14f86c9dc14d75e3c34e29b638d8f5d5ccd89ca93181addd"), looks := false }, kinds := [], alts := [], laidByText := true, laidKinds := [.data, .pinned], laidTests := true, laidLooks := .later }
def IntegerComparesUptoCardSaid : Prop := Claim7.holds Tryd.pinned (.plain (OpenSpec.upto integerComparesSpec)) integerComparesUptoCard

/-- THE SECOND FORM's CARD OF 'quadformlaw01.IntegerMultiplies'. -/
def integerMultipliesUptoCard : Claim7 := { stood := { row := integerMultipliesUptoRow, standIns := [], harness := (true, "a9d94c2cb87a2d3d14f86c9dc14d75e3c34e29b638d8f5d5ccd89ca93181addd"), looks := false }, kinds := [], alts := [], laidByText := true, laidKinds := [.data, .pinned], laidTests := true, laidLooks := .later }
def IntegerMultipliesUptoCardSaid : Prop := Claim7.holds Tryd.pinned (.plain (OpenSpec.upto integerMultipliesSpec)) integerMultipliesUptoCard

/-- THE SECOND FORM's CARD OF 'quadformlaw01.IntegerDivides'. -/
def integerDividesUptoCard : Claim7 := { stood := { row := integerDividesUptoRow, standIns := [], harness := (true, "a9d94c2cb87a2d3d14f86c9dc14d75e3c34e29b638d8f5d5ccd89ca93181addd"), looks := false }, kinds := [], alts := [], laidByText := true, laidKinds := [.data, .pinned], laidTests := true, laidLooks := .later }
def IntegerDividesUptoCardSaid : Prop := Claim7.holds Tryd.pinned (.plain (OpenSpec.upto integerDividesSpec)) integerDividesUptoCard

/-- THE SECOND FORM's CARD OF 'quadformlaw01.IntegerDivision'. -/
def integerDivisionUptoCard : Claim7 := { stood := { row := integerDivisionUptoRow, standIns := [], harness := (true, "a9d94c2cb87a2d3d14f86c9dc14d75e3c34e29b638d8f5d5ccd89ca93181addd"), looks := false }, kinds := [], alts := [], laidByText := true, laidKinds := [.data, .pinned], laidTests := true, laidLooks := .later }
def IntegerDivisionUptoCardSaid : Prop := Claim7.holds Tryd.pinned (.plain (OpenSpec.upto integerDivisionSpec)) integerDivisionUptoCard

/-- THE SECOND FORM's CARD OF 'quadformlaw01.IntegerGcds'. -/
def integerGcdsUptoCard : Claim7 := { stood := { row := integerGcdsUptoRow, standIns := [], harness := (true, "a9d94c2cb87a2d3d14f86c9dc14d75e3c34e29b638d8f5d5ccd89ca93181addd"), looks := false }, kinds := [], alts := [], laidByText := true, laidKinds := [.data, .pinned], laidTests := true, laidLooks := .later }
def IntegerGcdsUptoCardSaid : Prop := Claim7.holds Tryd.pinned (.plain (OpenSpec.upto integerGcdsSpec)) integerGcdsUptoCard

/-- THE SECOND FORM's CARD OF 'quadformlaw01.IntegerCommon'. -/
def integerCommonUptoCard : Claim7 := { stood := { row := integerCommonUptoRow, standIns := [], harness := (true, "a9d94c2cb87a2d3d14f86c9dc14d75e3c34e29b638d8f5d5ccd89ca93181addd"), looks := false }, kinds := [], alts := [], laidByText := true, laidKinds := [.data, .pinned], laidTests := true, laidLooks := .later }
def IntegerCommonUptoCardSaid : Prop := Claim7.holds Tryd.pinned (.plain (OpenSpec.upto integerCommonSpec)) integerCommonUptoCard

/-- THE SECOND FORM's CARD OF 'quadformlaw01.IntegerRoots'. -/
def integerRootsUptoCard : Claim7 := { stood := { row := integerRootsUptoRow, standIns := [], harness := (true, "a9d94c2cb87a2d3d14f86c9dc14d75e3c34e29b638d8f5d5ccd89ca93181addd"), looks := false }, kinds := [], alts := [], laidByText := true, laidKinds := [.data, .pinned], laidTests := true, laidLooks := .later }
def IntegerRootsUptoCardSaid : Prop := Claim7.holds Tryd.pinned (.plain (OpenSpec.upto integerRootsSpec)) integerRootsUptoCard

/-- THE SECOND FORM's CARD OF 'quadformlaw01.IntegerSquares'. -/
def integerSquaresUptoCard : Claim7 := { stood := { row := integerSquaresUptoRow, standIns := [], harness := (true, "a9d94c2cb87a2d3d14f86c9dc14d75e3c34e29b638d8f5d5ccd89ca93181addd"), looks := false }, kinds := [], alts := [], laidByText := true, laidKinds := [.data, .pinned], laidTests := true, laidLooks := .later }
def IntegerSquaresUptoCardSaid : Prop := Claim7.holds Tryd.pinned (.plain (OpenSpec.upto integerSquaresSpec)) integerSquaresUptoCard

/-- THE SECOND FORM's CARD OF 'quadformlaw01.IntegerPowers'. -/
def integerPowersUptoCard : Claim7 := { stood := { row := integerPowersUptoRow, standIns := [], harness := (true, "a9d94c2cb87a2d3d14f86c9dc14d75e3c34e29b638d8f5d5ccd89ca93181addd"), looks := false }, kinds := [], alts := [], laidByText := true, laidKinds := [.data, .pinned], laidTests := true, laidLooks := .later }
def IntegerPowersUptoCardSaid : Prop := Claim7.holds Tryd.pinned (.plain (OpenSpec.upto integerPowersSpec)) integerPowersUptoCard

/-- THE SECOND FORM's CARD OF 'quadformlaw01.IntegerParses'. -/
def integerParsesUptoCard : Claim7 := { stood := { row := integerParsesUptoRow, standIns := [], harness := (true, "a9d94c2cb87a2d3d14f86c9dc14d75e3c34e29b638d8f5d5ccd89ca93181addd"), looks := false }, kinds := [], alts := [], laidByText := true, laidKinds := [.data, .pinned], laidTests := true, laidLooks := .later }
def IntegerParsesUptoCardSaid : Prop := Claim7.holds Tryd.pinned (.plain (OpenSpec.upto integerParsesSpec)) integerParsesUptoCard

/-- THE SECOND FORM's CARD OF 'quadformlaw01.IntegerDigits'. -/
def integerDigitsUptoCard : Claim7 := { stood := { row := integerDigitsUptoRow, standIns := [], harness := (true, "a9d94c2cb87a2d3d14f86c9dc14d75e3c34e29b638d8f5d5ccd89ca93181addd"), looks := false }, kinds := [], alts := [], laidByText := true, laidKinds := [.data, .pinned], laidTests := true, laidLooks := .later }
def IntegerDigitsUptoCardSaid : Prop := Claim7.holds Tryd.pinned (.plain (OpenSpec.upto integerDigitsSpec)) integerDigitsUptoCard

/-- THE SECOND FORM's CARD OF 'quadformlaw01.IntegerFormats'. -/
def integerFormatsUptoCard : Claim7 := { stood := { row := integerFormatsUptoRow, standIns := [], harness := (true, "a9d94c2cb87a2d3d14f86c9dc14d75e3c34e29b638d8f5d5ccd89ca93181addd"), looks := false }, kinds := [], alts := [], laidByText := true, laidKinds := [.data, .pinned], laidTests := true, laidLooks := .later }
def IntegerFormatsUptoCardSaid : Prop := Claim7.holds Tryd.pinned (.plain (OpenSpec.upto integerFormatsSpec)) integerFormatsUptoCard

/-- THE SECOND FORM's CARD OF 'quadformlaw01.IntegerRoundTrip'. -/
def integerRoundTripUptoCard : Claim7 := { stood := { row := integerRoundTripUptoRow, standIns := [], harness := (true, "a9d94c2cb87a2d3d14f86c9dc14d75e3c34e29b638d8f5d5ccd89ca93181addd"), looks := false }, kinds := [], alts := [], laidByText := true, laidKinds := [.data, .pinned], laidTests := true, laidLooks := .later }
def IntegerRoundTripUptoCardSaid : Prop := Claim7.holds Tryd.pinned (.plain (OpenSpec.upto integerRoundTripSpec)) integerRoundTripUptoCard
end Rows
end Go.Proofs.YtllogjmepflnoaaDoor
