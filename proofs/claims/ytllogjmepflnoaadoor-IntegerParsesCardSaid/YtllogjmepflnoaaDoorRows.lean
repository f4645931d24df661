/-
  NARROWER THAN 'FOR EVERY INPUT', by the rows' own cells (each row's printed sentence says how): IntegerNormalizes: laid · IntegerSmall: laid · IntegerFits: laid · IntegerCompares: laid · IntegerMultiplies: laid · IntegerDivides: laid · IntegerDivision: laid · IntegerGcds: laid · IntegerCommon: laid · IntegerRoots: laid · IntegerSquares: laid · IntegerPowers: laid · IntegerParses: laid · IntegerDigits: laid · IntegerFormats: laid · IntegerRoundTrip: laid.
  DERIVED. THE GIVEN ROWS OF THIS SEAT. 16 by the template 'for every input the law returns true; each argument reads behind the call as it read before'; 0 by the template 'total and deterministic' (their statements: YtllogjmepflnoaaDoorTotals.lean).
  GIVEN WITH THE SEED: the statements are not yours to turn. If you find one false, say at which input.
  Laid BY PROGRAM, IN A SANDBOX (cutbox-rows.mjs): the forced cells as the released guide's own fill.sh prints them over the translation ed38f414a604a7cd… (all of the seat's roots in one cut). By AI agents, Wed Nov 11 2026. No macro, syntax, notation, axiom, sorry.
-/
import Derived.Test.YtllogjmepflnoaaDoorChecked
import GoSem.PinnedTables
import GoSem.Claim
import GoSem.ClaimJoined
import GoSem.ClaimMapViews
import Derived.JoinedTies
import Derived.KernelRfl
namespace Go.Proofs.YtllogjmepflnoaaDoor
/- THE CELL 'sum', in the pinned program and in every row, IS THE sha256 OF THE DUMP (.gsa) THAT YtllogjmepflnoaaDoorProg.lean LOADS. Nothing in Lean hashes anything: it is a label: what it is worth is what the hold of that sum in a sandbox is worth. -/
noncomputable def Tryd.pinned : Pinned := { name := "ytllogjmepflnoaadoor", sum := "ed38f414a604a7cde52b06db7765a0e1ca8856936a84360f37ec57137029d4ab", checked := Tryd.checked }
namespace Rows
def none {H : Type} : Left H := { results := [], args := [] }

/- WHAT THE LISTED PACKAGE-LEVEL VARIABLES READ AS WHEN THE CALL BEGINS. Each datum BY PROGRAM (the guide's laid-datum.mjs) off the statement by which the dump's own 'gosem.cut.vars' lays the variable. In a bare row this is a premise. The card (YtllogjmepflnoaaDoorCards.lean) ties it to the program's text. -/
def laid_unicode_utf8_acceptRanges {H : Type} : DataW H := .agg [.agg [.lit (.int .u8 128), .lit (.int .u8 191)], .agg [.lit (.int .u8 160), .lit (.int .u8 191)], .agg [.lit (.int .u8 128), .lit (.int .u8 159)], .agg [.lit (.int .u8 144), .lit (.int .u8 191)], .agg [.lit (.int .u8 128), .lit (.int .u8 143)], .agg [.lit (.int .u8 0), .lit (.int .u8 0)], .agg [.lit (.int .u8 0), .lit (.int .u8 0)], .agg [.lit (.int .u8 0), .lit (.int .u8 0)], .agg [.lit (.int .u8 0), .lit (.int .u8 0)], .agg [.lit (.int .u8 0), .lit (.int .u8 0)], .agg [.lit (.int .u8 0), .lit (.int .u8 0)], .agg [.lit (.int .u8 0), .lit (.int .u8 0)], .agg [.lit (.int .u8 0), .lit (.int .u8 0)], .agg [.lit (.int .u8 0), .lit (.int .u8 0)], .agg [.lit (.int .u8 0), .lit (.int .u8 0)], .agg [.lit (.int .u8 0), .lit (.int .u8 0)]]
/-- One of Go's own tables, pinned by name: the form's constant. -/
def laid_unicode_utf8_first : DataW Unit := Go.Pinned.utf8First

/-- 'quadformlaw01.IntegerNormalizes': WHATEVER THE INPUT: true; the input reads as it did. -/
def integerNormalizesSpec : ChangeSpec := { name := "integerNormalizes", fn := fun _ => fun
  | [d] => { results := [.lit (.bool true)], args := [d] }
  | _ => none }
def integerNormalizesRow : OpenClaim := { program := "ytllogjmepflnoaadoor", sum := "ed38f414a604a7cde52b06db7765a0e1ca8856936a84360f37ec57137029d4ab", func := "quadform/quadformlaw01.IntegerNormalizes", spec := "integerNormalizes", named := ["unicode/utf8.first", "unicode/utf8.acceptRanges"], apart := false, laid := [("unicode/utf8.acceptRanges", laid_unicode_utf8_acceptRanges), ("unicode/utf8.first", laid_unicode_utf8_first)] }
def IntegerNormalizesSaid : Prop := integerNormalizesRow.holds Tryd.pinned (OpenSpec.ofChange integerNormalizesSpec)

/-- ITS FALSE NEIGHBOUR: 'it returns false'. Refute it at one input. -/
def integerNormalizesWrong : ChangeSpec := { name := "integerNormalizes", fn := fun _ => fun
  | [d] => { results := [.lit (.bool false)], args := [d] }
  | _ => none }
def IntegerNormalizesWrongFalsely : Prop := integerNormalizesRow.holds Tryd.pinned (OpenSpec.ofChange integerNormalizesWrong)

/-- 'quadformlaw01.IntegerSmall': WHATEVER THE INPUT: true; the input reads as it did. -/
def integerSmallSpec : ChangeSpec := { name := "integerSmall", fn := fun _ => fun
  | [d] => { results := [.lit (.bool true)], args := [d] }
  | _ => none }
def integerSmallRow : OpenClaim := { program := "ytllogjmepflnoaadoor", sum := "ed38f414a604a7cde52b06db7765a0e1ca8856936a84360f37ec57137029d4ab", func := "quadform/quadformlaw01.IntegerSmall", spec := "integerSmall", named := ["unicode/utf8.first", "unicode/utf8.acceptRanges"], apart := false, laid := [("unicode/utf8.acceptRanges", laid_unicode_utf8_acceptRanges), ("unicode/utf8.first", laid_unicode_utf8_first)] }
def IntegerSmallSaid : Prop := integerSmallRow.holds Tryd.pinned (OpenSpec.ofChange integerSmallSpec)

/-- ITS FALSE NEIGHBOUR: 'it returns false'. Refute it at one input. -/
def integerSmallWrong : ChangeSpec := { name := "integerSmall", fn := fun _ => fun
  | [d] => { results := [.lit (.bool false)], args := [d] }
  | _ => none }
def IntegerSmallWrongFalsely : Prop := integerSmallRow.holds Tryd.pinned (OpenSpec.ofChange integerSmallWrong)

/-- 'quadformlaw01.IntegerFits': WHATEVER THE INPUT: true; the input reads as it did. -/
def integerFitsSpec : ChangeSpec := { name := "integerFits", fn := fun _ => fun
  | [d] => { results := [.lit (.bool true)], args := [d] }
  | _ => none }
def integerFitsRow : OpenClaim := { program := "ytllogjmepflnoaadoor", sum := "ed38f414a604a7cde52b06db7765a0e1ca8856936a84360f37ec57137029d4ab", func := "quadform/quadformlaw01.IntegerFits", spec := "integerFits", named := ["unicode/utf8.first", "unicode/utf8.acceptRanges"], apart := false, laid := [("unicode/utf8.acceptRanges", laid_unicode_utf8_acceptRanges), ("unicode/utf8.first", laid_unicode_utf8_first)] }
def IntegerFitsSaid : Prop := integerFitsRow.holds Tryd.pinned (OpenSpec.ofChange integerFitsSpec)

/-- ITS FALSE NEIGHBOUR: 'it returns false'. Refute it at one input. -/
def integerFitsWrong : ChangeSpec := { name := "integerFits", fn := fun _ => fun
  | [d] => { results := [.lit (.bool false)], args := [d] }
  | _ => none }
def IntegerFitsWrongFalsely : Prop := integerFitsRow.holds Tryd.pinned (OpenSpec.ofChange integerFitsWrong)

/-- 'quadformlaw01.IntegerCompares': WHATEVER THE INPUT: true; the input reads as it did. -/
def integerComparesSpec : ChangeSpec := { name := "integerCompares", fn := fun _ => fun
  | [d1, d2] => { results := [.lit (.bool true)], args := [d1, d2] }
  | _ => none }
def integerComparesRow : OpenClaim := { program := "ytllogjmepflnoaadoor", sum := "ed38f414a604a7cde52b06db7765a0e1ca8856936a84360f37ec57137029d4ab", func := "quadform/quadformlaw01.IntegerCompares", spec := "integerCompares", named := ["unicode/utf8.first", "unicode/utf8.acceptRanges"], apart := false, laid := [("unicode/utf8.acceptRanges", laid_unicode_utf8_acceptRanges), ("unicode/utf8.first", laid_unicode_utf8_first)] }
def IntegerComparesSaid : Prop := integerComparesRow.holds Tryd.pinned (OpenSpec.ofChange integerComparesSpec)

/-- ITS FALSE NEIGHBOUR: 'it returns false'. Refute it at one input. -/
def integerComparesWrong : ChangeSpec := { name := "integerCompares", fn := fun _ => fun
  | [d1, d2] => { results := [.lit (.bool false)], args := [d1, d2] }
  | _ => none }
def IntegerComparesWrongFalsely : Prop := integerComparesRow.holds Tryd.pinned (OpenSpec.ofChange integerComparesWrong)

/-- 'quadformlaw01.IntegerMultiplies': WHATEVER THE INPUT: true; the input reads as it did. -/
def integerMultipliesSpec : ChangeSpec := { name := "integerMultiplies", fn := fun _ => fun
  | [d1, d2] => { results := [.lit (.bool true)], args := [d1, d2] }
  | _ => none }
def integerMultipliesRow : OpenClaim := { program := "ytllogjmepflnoaadoor", sum := "ed38f414a604a7cde52b06db7765a0e1ca8856936a84360f37ec57137029d4ab", func := "quadform/quadformlaw01.IntegerMultiplies", spec := "integerMultiplies", named := ["unicode/utf8.first", "unicode/utf8.acceptRanges"], apart := false, laid := [("unicode/utf8.acceptRanges", laid_unicode_utf8_acceptRanges), ("unicode/utf8.first", laid_unicode_utf8_first)] }
def IntegerMultipliesSaid : Prop := integerMultipliesRow.holds Tryd.pinned (OpenSpec.ofChange integerMultipliesSpec)

/-- ITS FALSE NEIGHBOUR: 'it returns false'. Refute it at one input. -/
def integerMultipliesWrong : ChangeSpec := { name := "integerMultiplies", fn := fun _ => fun
  | [d1, d2] => { results := [.lit (.bool false)], args := [d1, d2] }
  | _ => none }
def IntegerMultipliesWrongFalsely : Prop := integerMultipliesRow.holds Tryd.pinned (OpenSpec.ofChange integerMultipliesWrong)

/-- 'quadformlaw01.IntegerDivides': WHATEVER THE INPUT: true; the input reads as it did. -/
def integerDividesSpec : ChangeSpec := { name := "integerDivides", fn := fun _ => fun
  | [d1, d2] => { results := [.lit (.bool true)], args := [d1, d2] }
  | _ => none }
def integerDividesRow : OpenClaim := { program := "ytllogjmepflnoaadoor", sum := "ed38f414a604a7cde52b06db7765a0e1ca8856936a84360f37ec57137029d4ab", func := "quadform/quadformlaw01.IntegerDivides", spec := "integerDivides", named := ["unicode/utf8.first", "unicode/utf8.acceptRanges"], apart := false, laid := [("unicode/utf8.acceptRanges", laid_unicode_utf8_acceptRanges), ("unicode/utf8.first", laid_unicode_utf8_first)] }
def IntegerDividesSaid : Prop := integerDividesRow.holds Tryd.pinned (OpenSpec.ofChange integerDividesSpec)

/-- ITS FALSE NEIGHBOUR: 'it returns false'. Refute it at one input. -/
def integerDividesWrong : ChangeSpec := { name := "integerDivides", fn := fun _ => fun
  | [d1, d2] => { results := [.lit (.bool false)], args := [d1, d2] }
  | _ => none }
def IntegerDividesWrongFalsely : Prop := integerDividesRow.holds Tryd.pinned (OpenSpec.ofChange integerDividesWrong)

/-- 'quadformlaw01.IntegerDivision': WHATEVER THE INPUT: true; the input reads as it did. -/
def integerDivisionSpec : ChangeSpec := { name := "integerDivision", fn := fun _ => fun
  | [d1, d2] => { results := [.lit (.bool true)], args := [d1, d2] }
  | _ => none }
def integerDivisionRow : OpenClaim := { program := "ytllogjmepflnoaadoor", sum := "ed38f414a604a7cde52b06db7765a0e1ca8856936a84360f37ec57137029d4ab", func := "quadform/quadformlaw01.IntegerDivision", spec := "integerDivision", named := ["unicode/utf8.first", "unicode/utf8.acceptRanges"], apart := false, laid := [("unicode/utf8.acceptRanges", laid_unicode_utf8_acceptRanges), ("unicode/utf8.first", laid_unicode_utf8_first)] }
def IntegerDivisionSaid : Prop := integerDivisionRow.holds Tryd.pinned (OpenSpec.ofChange integerDivisionSpec)

/-- ITS FALSE NEIGHBOUR: 'it returns false'. Refute it at one input. -/
def integerDivisionWrong : ChangeSpec := { name := "integerDivision", fn := fun _ => fun
  | [d1, d2] => { results := [.lit (.bool false)], args := [d1, d2] }
  | _ => none }
def IntegerDivisionWrongFalsely : Prop := integerDivisionRow.holds Tryd.pinned (OpenSpec.ofChange integerDivisionWrong)

/-- 'quadformlaw01.IntegerGcds': WHATEVER THE INPUT: true; the input reads as it did. -/
def integerGcdsSpec : ChangeSpec := { name := "integerGcds", fn := fun _ => fun
  | [d1, d2] => { results := [.lit (.bool true)], args := [d1, d2] }
  | _ => none }
def integerGcdsRow : OpenClaim := { program := "ytllogjmepflnoaadoor", sum := "ed38f414a604a7cde52b06db7765a0e1ca8856936a84360f37ec57137029d4ab", func := "quadform/quadformlaw01.IntegerGcds", spec := "integerGcds", named := ["unicode/utf8.first", "unicode/utf8.acceptRanges"], apart := false, laid := [("unicode/utf8.acceptRanges", laid_unicode_utf8_acceptRanges), ("unicode/utf8.first", laid_unicode_utf8_first)] }
def IntegerGcdsSaid : Prop := integerGcdsRow.holds Tryd.pinned (OpenSpec.ofChange integerGcdsSpec)

/-- ITS FALSE NEIGHBOUR: 'it returns false'. Refute it at one input. -/
def integerGcdsWrong : ChangeSpec := { name := "integerGcds", fn := fun _ => fun
  | [d1, d2] => { results := [.lit (.bool false)], args := [d1, d2] }
  | _ => none }
def IntegerGcdsWrongFalsely : Prop := integerGcdsRow.holds Tryd.pinned (OpenSpec.ofChange integerGcdsWrong)

/-- 'quadformlaw01.IntegerCommon': WHATEVER THE INPUT: true; the input reads as it did. -/
def integerCommonSpec : ChangeSpec := { name := "integerCommon", fn := fun _ => fun
  | [d1, d2, d3] => { results := [.lit (.bool true)], args := [d1, d2, d3] }
  | _ => none }
def integerCommonRow : OpenClaim := { program := "ytllogjmepflnoaadoor", sum := "ed38f414a604a7cde52b06db7765a0e1ca8856936a84360f37ec57137029d4ab", func := "quadform/quadformlaw01.IntegerCommon", spec := "integerCommon", named := ["unicode/utf8.first", "unicode/utf8.acceptRanges"], apart := false, laid := [("unicode/utf8.acceptRanges", laid_unicode_utf8_acceptRanges), ("unicode/utf8.first", laid_unicode_utf8_first)] }
def IntegerCommonSaid : Prop := integerCommonRow.holds Tryd.pinned (OpenSpec.ofChange integerCommonSpec)

/-- ITS FALSE NEIGHBOUR: 'it returns false'. Refute it at one input. -/
def integerCommonWrong : ChangeSpec := { name := "integerCommon", fn := fun _ => fun
  | [d1, d2, d3] => { results := [.lit (.bool false)], args := [d1, d2, d3] }
  | _ => none }
def IntegerCommonWrongFalsely : Prop := integerCommonRow.holds Tryd.pinned (OpenSpec.ofChange integerCommonWrong)

/-- 'quadformlaw01.IntegerRoots': WHATEVER THE INPUT: true; the input reads as it did. -/
def integerRootsSpec : ChangeSpec := { name := "integerRoots", fn := fun _ => fun
  | [d] => { results := [.lit (.bool true)], args := [d] }
  | _ => none }
def integerRootsRow : OpenClaim := { program := "ytllogjmepflnoaadoor", sum := "ed38f414a604a7cde52b06db7765a0e1ca8856936a84360f37ec57137029d4ab", func := "quadform/quadformlaw01.IntegerRoots", spec := "integerRoots", named := ["unicode/utf8.first", "unicode/utf8.acceptRanges"], apart := false, laid := [("unicode/utf8.acceptRanges", laid_unicode_utf8_acceptRanges), ("unicode/utf8.first", laid_unicode_utf8_first)] }
def IntegerRootsSaid : Prop := integerRootsRow.holds Tryd.pinned (OpenSpec.ofChange integerRootsSpec)

/-- ITS FALSE NEIGHBOUR: 'it returns false'. Refute it at one input. -/
def integerRootsWrong : ChangeSpec := { name := "integerRoots", fn := fun _ => fun
  | [d] => { results := [.lit (.bool false)], args := [d] }
  | _ => none }
def IntegerRootsWrongFalsely : Prop := integerRootsRow.holds Tryd.pinned (OpenSpec.ofChange integerRootsWrong)

/-- 'quadformlaw01.IntegerSquares': WHATEVER THE INPUT: true; the input reads as it did. -/
def integerSquaresSpec : ChangeSpec := { name := "integerSquares", fn := fun _ => fun
  | [d1, d2] => { results := [.lit (.bool true)], args := [d1, d2] }
  | _ => none }
def integerSquaresRow : OpenClaim := { program := "ytllogjmepflnoaadoor", sum := "ed38f414a604a7cde52b06db7765a0e1ca8856936a84360f37ec57137029d4ab", func := "quadform/quadformlaw01.IntegerSquares", spec := "integerSquares", named := ["unicode/utf8.first", "unicode/utf8.acceptRanges"], apart := false, laid := [("unicode/utf8.acceptRanges", laid_unicode_utf8_acceptRanges), ("unicode/utf8.first", laid_unicode_utf8_first)] }
def IntegerSquaresSaid : Prop := integerSquaresRow.holds Tryd.pinned (OpenSpec.ofChange integerSquaresSpec)

/-- ITS FALSE NEIGHBOUR: 'it returns false'. Refute it at one input. -/
def integerSquaresWrong : ChangeSpec := { name := "integerSquares", fn := fun _ => fun
  | [d1, d2] => { results := [.lit (.bool false)], args := [d1, d2] }
  | _ => none }
def IntegerSquaresWrongFalsely : Prop := integerSquaresRow.holds Tryd.pinned (OpenSpec.ofChange integerSquaresWrong)

/-- 'quadformlaw01.IntegerPowers': WHATEVER THE INPUT: true; the input reads as it did. -/
def integerPowersSpec : ChangeSpec := { name := "integerPowers", fn := fun _ => fun
  | [d1, d2] => { results := [.lit (.bool true)], args := [d1, d2] }
  | _ => none }
def integerPowersRow : OpenClaim := { program := "ytllogjmepflnoaadoor", sum := "ed38f414a604a7cde52b06db7765a0e1ca8856936a84360f37ec57137029d4ab", func := "quadform/quadformlaw01.IntegerPowers", spec := "integerPowers", named := ["unicode/utf8.first", "unicode/utf8.acceptRanges"], apart := false, laid := [("unicode/utf8.acceptRanges", laid_unicode_utf8_acceptRanges), ("unicode/utf8.first", laid_unicode_utf8_first)] }
def IntegerPowersSaid : Prop := integerPowersRow.holds Tryd.pinned (OpenSpec.ofChange integerPowersSpec)

/-- ITS FALSE NEIGHBOUR: 'it returns false'. Refute it at one input. -/
def integerPowersWrong : ChangeSpec := { name := "integerPowers", fn := fun _ => fun
  | [d1, d2] => { results := [.lit (.bool false)], args := [d1, d2] }
  | _ => none }
def IntegerPowersWrongFalsely : Prop := integerPowersRow.holds Tryd.pinned (OpenSpec.ofChange integerPowersWrong)

/-- 'quadformlaw01.IntegerParses': WHATEVER THE INPUT: true; the input reads as it did. -/
def integerParsesSpec : ChangeSpec := { name := "integerParses", fn := fun _ => fun
  | [d] => { results := [.lit (.bool true)], args := [d] }
  | _ => none }
def integerParsesRow : OpenClaim := { program := "ytllogjmepflnoaadoor", sum := "ed38f414a604a7cde52b06db7765a0e1ca8856936a84360f37ec57137029d4ab", func := "quadform/quadformlaw01.IntegerParses", spec := "integerParses", named := ["unicode/utf8.first", "unicode/utf8.acceptRanges"], apart := false, laid := [("unicode/utf8.acceptRanges", laid_unicode_utf8_acceptRanges), ("unicode/utf8.first", laid_unicode_utf8_first)] }
def IntegerParsesSaid : Prop := integerParsesRow.holds Tryd.pinned (OpenSpec.ofChange integerParsesSpec)

/-- ITS FALSE NEIGHBOUR: 'it returns false'. Refute it at one input. -/
def integerParsesWrong : ChangeSpec := { name := "integerParses", fn := fun _ => fun
  | [d] => { results := [.lit (.bool false)], args := [d] }
  | _ => none }
def IntegerParsesWrongFalsely : Prop := integerParsesRow.holds Tryd.pinned (OpenSpec.ofChange integerParsesWrong)

/-- 'quadformlaw01.IntegerDigits': WHATEVER THE INPUT: true; the input reads as it did. -/
def integerDigitsSpec : ChangeSpec := { name := "integerDigits", fn := fun _ => fun
  | [d1, d2, d3] => { results := [.lit (.bool true)], args := [d1, d2, d3] }
  | _ => none }
def integerDigitsRow : OpenClaim := { program := "ytllogjmepflnoaadoor", sum := "ed38f414a604a7cde52b06db7765a0e1ca8856936a84360f37ec57137029d4ab", func := "quadform/quadformlaw01.IntegerDigits", spec := "integerDigits", named := ["unicode/utf8.first", "unicode/utf8.acceptRanges"], apart := false, laid := [("unicode/utf8.acceptRanges", laid_unicode_utf8_acceptRanges), ("unicode/utf8.first", laid_unicode_utf8_first)] }
def IntegerDigitsSaid : Prop := integerDigitsRow.holds Tryd.pinned (OpenSpec.ofChange integerDigitsSpec)

/-- ITS FALSE NEIGHBOUR: 'it returns false'. Refute it at one input. -/
def integerDigitsWrong : ChangeSpec := { name := "integerDigits", fn := fun _ => fun
  | [d1, d2, d3] => { results := [.lit (.bool false)], args := [d1, d2, d3] }
  | _ => none }
def IntegerDigitsWrongFalsely : Prop := integerDigitsRow.holds Tryd.pinned (OpenSpec.ofChange integerDigitsWrong)

/-- 'quadformlaw01.IntegerFormats': WHATEVER THE INPUT: true; the input reads as it did. -/
def integerFormatsSpec : ChangeSpec := { name := "integerFormats", fn := fun _ => fun
  | [d] => { results := [.lit (.bool true)], args := [d] }
  | _ => none }
def integerFormatsRow : OpenClaim := { program := "ytllogjmepflnoaadoor", sum := "ed38f414a604a7cde52b06db7765a0e1ca8856936a84360f37ec57137029d4ab", func := "quadform/quadformlaw01.IntegerFormats", spec := "integerFormats", named := ["unicode/utf8.first", "unicode/utf8.acceptRanges"], apart := false, laid := [("unicode/utf8.acceptRanges", laid_unicode_utf8_acceptRanges), ("unicode/utf8.first", laid_unicode_utf8_first)] }
def IntegerFormatsSaid : Prop := integerFormatsRow.holds Tryd.pinned (OpenSpec.ofChange integerFormatsSpec)

/-- ITS FALSE NEIGHBOUR: 'it returns false'. Refute it at one input. -/
def integerFormatsWrong : ChangeSpec := { name := "integerFormats", fn := fun _ => fun
  | [d] => { results := [.lit (.bool false)], args := [d] }
  | _ => none }
def IntegerFormatsWrongFalsely : Prop := integerFormatsRow.holds Tryd.pinned (OpenSpec.ofChange integerFormatsWrong)

/-- 'quadformlaw01.IntegerRoundTrip': WHATEVER THE INPUT: true; the input reads as it did. -/
def integerRoundTripSpec : ChangeSpec := { name := "integerRoundTrip", fn := fun _ => fun
  | [d] => { results := [.lit (.bool true)], args := [d] }
  | _ => none }
def integerRoundTripRow : OpenClaim := { program := "ytllogjmepflnoaadoor", sum := "ed38f414a604a7cde52b06db7765a0e1ca8856936a84360f37ec57137029d4ab", func := "quadform/quadformlaw01.IntegerRoundTrip", spec := "integerRoundTrip", named := ["unicode/utf8.first", "unicode/utf8.acceptRanges"], apart := false, laid := [("unicode/utf8.acceptRanges", laid_unicode_utf8_acceptRanges), ("unicode/utf8.first", laid_unicode_utf8_first)] }
def IntegerRoundTripSaid : Prop := integerRoundTripRow.holds Tryd.pinned (OpenSpec.ofChange integerRoundTripSpec)

/-- ITS FALSE NEIGHBOUR: 'it returns false'. Refute it at one input. -/
def integerRoundTripWrong : ChangeSpec := { name := "integerRoundTrip", fn := fun _ => fun
  | [d] => { results := [.lit (.bool false)], args := [d] }
  | _ => none }
def IntegerRoundTripWrongFalsely : Prop := integerRoundTripRow.holds Tryd.pinned (OpenSpec.ofChange integerRoundTripWrong)

/- THE SECOND FORM. 'bulk': how many values and letters a reading holds, each counted each time it is reached (what is shared counts as often as it is met; a slice's spare places count too). A statement '..UptoSaid' is the law's where the arguments, and the package variables that the reading takes, are together of bulk at most 1048576: NARROWER than '..Said'. Prove '..Said' where nothing that the law and all that it calls make is longer than what came in: it says more and counts as full. Else prove '..UptoSaid'. A law counts once. -/
mutual
def uptoBulk {H : Type} : DataW H → Nat
  | .lit (.string bytes) => bytes.length + 1
  | .lit _ => 1
  | .nil => 1
  | .ptr d => uptoBulk d + 1
  | .slice elems spare => uptoBulkAll elems + uptoBulkAll spare + 1
  | .agg parts => uptoBulkAll parts + 1
  | .iface _ d => uptoBulk d + 1
  | .map entries => uptoBulkEntries entries + 1
  | .held _ => 1
def uptoBulkAll {H : Type} : List (DataW H) → Nat
  | [] => 0
  | d :: r => uptoBulk d + uptoBulkAll r
def uptoBulkEntries {H : Type} : List (Lit × DataW H) → Nat
  | [] => 0
  | x :: r => uptoBulkEntry x + uptoBulkEntries r
def uptoBulkEntry {H : Type} : Lit × DataW H → Nat
  | (.string bytes, d) => bytes.length + uptoBulk d + 1
  | (_, d) => uptoBulk d + 1
 end
def uptoSmall : (H : Type) → List (DataW H) → Bool := fun _ ds => decide (uptoBulkAll ds ≤ 1048576)
def OpenSpec.upto (s : _root_.Go.ChangeSpec) : _root_.Go.OpenSpec := { _root_.Go.OpenSpec.ofChange s with cond := some uptoSmall }

/-- 'quadformlaw01.IntegerNormalizes', WHERE WHAT IT READS IS OF BULK AT MOST 1048576: true; the input reads as it did. -/
def integerNormalizesUptoRow : OpenClaim := { program := "ytllogjmepflnoaadoor", sum := "ed38f414a604a7cde52b06db7765a0e1ca8856936a84360f37ec57137029d4ab", func := "quadform/quadformlaw01.IntegerNormalizes", spec := "integerNormalizes", named := ["unicode/utf8.first", "unicode/utf8.acceptRanges"], apart := false, laid := [("unicode/utf8.acceptRanges", laid_unicode_utf8_acceptRanges), ("unicode/utf8.first", laid_unicode_utf8_first)], narrowed := true }
def IntegerNormalizesUptoSaid : Prop := integerNormalizesUptoRow.holds Tryd.pinned (OpenSpec.upto integerNormalizesSpec)

/-- 'quadformlaw01.IntegerSmall', WHERE WHAT IT READS IS OF BULK AT MOST 1048576: true; the input reads as it did. -/
def integerSmallUptoRow : OpenClaim := { program := "ytllogjmepflnoaadoor", sum := "ed38f414a604a7cde52b06db7765a0e1ca8856936a84360f37ec57137029d4ab", func := "quadform/quadformlaw01.IntegerSmall", spec := "integerSmall", named := ["unicode/utf8.first", "unicode/utf8.acceptRanges"], apart := false, laid := [("unicode/utf8.acceptRanges", laid_unicode_utf8_acceptRanges), ("unicode/utf8.first", laid_unicode_utf8_first)], narrowed := true }
def IntegerSmallUptoSaid : Prop := integerSmallUptoRow.holds Tryd.pinned (OpenSpec.upto integerSmallSpec)

/-- 'quadformlaw01.IntegerFits', WHERE WHAT IT READS IS OF BULK AT MOST 1048576: true; the input reads as it did. -/
def integerFitsUptoRow : OpenClaim := { program := "ytllogjmepflnoaadoor", sum := "ed38f414a604a7cde52b06db7765a0e1ca8856936a84360f37ec57137029d4ab", func := "quadform/quadformlaw01.IntegerFits", spec := "integerFits", named := ["unicode/utf8.first", "unicode/utf8.acceptRanges"], apart := false, laid := [("unicode/utf8.acceptRanges", laid_unicode_utf8_acceptRanges), ("unicode/utf8.first", laid_unicode_utf8_first)], narrowed := true }
def IntegerFitsUptoSaid : Prop := integerFitsUptoRow.holds Tryd.pinned (OpenSpec.upto integerFitsSpec)

/-- 'quadformlaw01.IntegerCompares', WHERE WHAT IT READS IS OF BULK AT MOST 1048576: true; the input reads as it did. -/
def integerComparesUptoRow : OpenClaim := { program := "ytllogjmepflnoaadoor", sum := "ed38f414a604a7cde52b06db7765a0e1ca8856936a84360f37ec57137029d4ab", func := "quadform/quadformlaw01.IntegerCompares", spec := "integerCompares", named := ["unicode/utf8.first", "unicode/utf8.acceptRanges"], apart := false, laid := [("unicode/utf8.acceptRanges", laid_unicode_utf8_acceptRanges), ("unicode/utf8.first", laid_unicode_utf8_first)], narrowed := true }
def IntegerComparesUptoSaid : Prop := integerComparesUptoRow.holds Tryd.pinned (OpenSpec.upto integerComparesSpec)

/-- 'quadformlaw01.IntegerMultiplies', WHERE WHAT IT READS IS OF BULK AT MOST 1048576: true; the input reads as it did. -/
def integerMultipliesUptoRow : OpenClaim := { program := "ytllogjmepflnoaadoor", sum := "ed38f414a604a7cde52b06db7765a0e1ca8856936a84360f37ec57137029d4ab", func := "quadform/quadformlaw01.IntegerMultiplies", spec := "integerMultiplies", named := ["unicode/utf8.first", "unicode/utf8.acceptRanges"], apart := false, laid := [("unicode/utf8.acceptRanges", laid_unicode_utf8_acceptRanges), ("unicode/utf8.first", laid_unicode_utf8_first)], narrowed := true }
def IntegerMultipliesUptoSaid : Prop := integerMultipliesUptoRow.holds Tryd.pinned (OpenSpec.upto integerMultipliesSpec)

/-- 'quadformlaw01.IntegerDivides', WHERE WHAT IT READS IS OF BULK AT MOST 1048576: true; the input reads as it did. -/
def integerDividesUptoRow : OpenClaim := { program := "ytllogjmepflnoaadoor", sum := "ed38f414a604a7cde52b06db7765a0e1ca8856936a84360f37ec57137029d4ab", func := "quadform/quadformlaw01.IntegerDivides", spec := "integerDivides", named := ["unicode/utf8.first", "unicode/utf8.acceptRanges"], apart := false, laid := [("unicode/utf8.acceptRanges", laid_unicode_utf8_acceptRanges), ("unicode/utf8.first", laid_unicode_utf8_first)], narrowed := true }
def IntegerDividesUptoSaid : Prop := integerDividesUptoRow.holds Tryd.pinned (OpenSpec.upto integerDividesSpec)

/-- 'quadformlaw01.IntegerDivision', WHERE WHAT IT READS IS OF BULK AT MOST 1048576: true; the input reads as it did. -/
def integerDivisionUptoRow : OpenClaim := { program := "ytllogjmepflnoaadoor", sum := "ed38f414a604a7cde52b06db7765a0e1ca8856936a84360f37ec57137029d4ab", func := "quadform/quadformlaw01.IntegerDivision", spec := "integerDivision", named := ["unicode/utf8.first", "unicode/utf8.acceptRanges"], apart := false, laid := [("unicode/utf8.acceptRanges", laid_unicode_utf8_acceptRanges), ("unicode/utf8.first", laid_unicode_utf8_first)], narrowed := true }
def IntegerDivisionUptoSaid : Prop := integerDivisionUptoRow.holds Tryd.pinned (OpenSpec.upto integerDivisionSpec)

/-- 'quadformlaw01.IntegerGcds', WHERE WHAT IT READS IS OF BULK AT MOST 1048576: true; the input reads as it did. -/
def integerGcdsUptoRow : OpenClaim := { program := "ytllogjmepflnoaadoor", sum := "ed38f414a604a7cde52b06db7765a0e1ca8856936a84360f37ec57137029d4ab", func := "quadform/quadformlaw01.IntegerGcds", spec := "integerGcds", named := ["unicode/utf8.first", "unicode/utf8.acceptRanges"], apart := false, laid := [("unicode/utf8.acceptRanges", laid_unicode_utf8_acceptRanges), ("unicode/utf8.first", laid_unicode_utf8_first)], narrowed := true }
def IntegerGcdsUptoSaid : Prop := integerGcdsUptoRow.holds Tryd.pinned (OpenSpec.upto integerGcdsSpec)

/-- 'quadformlaw01.IntegerCommon', WHERE WHAT IT READS IS OF BULK AT MOST 1048576: true; the input reads as it did. -/
def integerCommonUptoRow : OpenClaim := { program := "ytllogjmepflnoaadoor", sum := "ed38f414a604a7cde52b06db7765a0e1ca8856936a84360f37ec57137029d4ab", func := "quadform/quadformlaw01.IntegerCommon", spec := "integerCommon", named := ["unicode/utf8.first", "unicode/utf8.acceptRanges"], apart := false, laid := [("unicode/utf8.acceptRanges", laid_unicode_utf8_acceptRanges), ("unicode/utf8.first", laid_unicode_utf8_first)], narrowed := true }
def IntegerCommonUptoSaid : Prop := integerCommonUptoRow.holds Tryd.pinned (OpenSpec.upto integerCommonSpec)

/-- 'quadformlaw01.IntegerRoots', WHERE WHAT IT READS IS OF BULK AT MOST 1048576: true; the input reads as it did. -/
def integerRootsUptoRow : OpenClaim := { program := "ytllogjmepflnoaadoor", sum := "ed38f414a604a7cde52b06db7765a0e1ca8856936a84360f37ec57137029d4ab", func := "quadform/quadformlaw01.IntegerRoots", spec := "integerRoots", named := ["unicode/utf8.first", "unicode/utf8.acceptRanges"], apart := false, laid := [("unicode/utf8.acceptRanges", laid_unicode_utf8_acceptRanges), ("unicode/utf8.first", laid_unicode_utf8_first)], narrowed := true }
def IntegerRootsUptoSaid : Prop := integerRootsUptoRow.holds Tryd.pinned (OpenSpec.upto integerRootsSpec)

/-- 'quadformlaw01.IntegerSquares', WHERE WHAT IT READS IS OF BULK AT MOST 1048576: true; the input reads as it did. -/
def integerSquaresUptoRow : OpenClaim := { program := "ytllogjmepflnoaadoor", sum := "ed38f414a604a7cde52b06db7765a0e1ca8856936a84360f37ec57137029d4ab", func := "quadform/quadformlaw01.IntegerSquares", spec := "integerSquares", named := ["unicode/utf8.first", "unicode/utf8.acceptRanges"], apart := false, laid := [("unicode/utf8.acceptRanges", laid_unicode_utf8_acceptRanges), ("unicode/utf8.first", laid_unicode_utf8_first)], narrowed := true }
def IntegerSquaresUptoSaid : Prop := integerSquaresUptoRow.holds Tryd.pinned (OpenSpec.upto integerSquaresSpec)

/-- 'quadformlaw01.IntegerPowers', WHERE WHAT IT READS IS OF BULK AT MOST 1048576: true; the input reads as it did. -/
def integerPowersUptoRow : OpenClaim := { program := "ytllogjmepflnoaadoor", sum := "ed38f414a604a7cde52b06db7765a0e1ca8856936a84360f37ec57137029d4ab", func := "quadform/quadformlaw01.IntegerPowers", spec := "integerPowers", named := ["unicode/utf8.first", "unicode/utf8.acceptRanges"], apart := false, laid := [("unicode/utf8.acceptRanges", laid_unicode_utf8_acceptRanges), ("unicode/utf8.first", laid_unicode_utf8_first)], narrowed := true }
def IntegerPowersUptoSaid : Prop := integerPowersUptoRow.holds Tryd.pinned (OpenSpec.upto integerPowersSpec)

/-- 'quadformlaw01.IntegerParses', WHERE WHAT IT READS IS OF BULK AT MOST 1048576: true; the input reads as it did. -/
def integerParsesUptoRow : OpenClaim := { program := "ytllogjmepflnoaadoor", sum := "ed38f414a604a7cde52b06db7765a0e1ca8856936a84360f37ec57137029d4ab", func := "quadform/quadformlaw01.IntegerParses", spec := "integerParses", named := ["unicode/utf8.first", "unicode/utf8.acceptRanges"], apart := false, laid := [("unicode/utf8.acceptRanges", laid_unicode_utf8_acceptRanges), ("unicode/utf8.first", laid_unicode_utf8_first)], narrowed := true }
def IntegerParsesUptoSaid : Prop := integerParsesUptoRow.holds Tryd.pinned (OpenSpec.upto integerParsesSpec)

/-- 'quadformlaw01.IntegerDigits', WHERE WHAT IT READS IS OF BULK AT MOST 1048576: true; the input reads as it did. -/
def integerDigitsUptoRow : OpenClaim := { program := "ytllogjmepflnoaadoor", sum := "ed38f414a604a7cde52b06db7765a0e1ca8856936a84360f37ec57137029d4ab", func := "quadform/quadformlaw01.IntegerDigits", spec := "integerDigits", named := ["unicode/utf8.first", "unicode/utf8.acceptRanges"], apart := false, laid := [("unicode/utf8.acceptRanges", laid_unicode_utf8_acceptRanges), ("unicode/utf8.first", laid_unicode_utf8_first)], narrowed := true }
def IntegerDigitsUptoSaid : Prop := integerDigitsUptoRow.holds Tryd.pinned (OpenSpec.upto integerDigitsSpec)

/-- 'quadformlaw01.IntegerFormats', WHERE WHAT IT READS IS OF BULK AT MOST 1048576: true; the input reads as it did. -/
def integerFormatsUptoRow : OpenClaim := { program := "ytllogjmepflnoaadoor", sum := "ed38f414a604a7cde52b06db7765a0e1ca8856936a84360f37ec57137029d4ab", func := "quadform/quadformlaw01.IntegerFormats", spec := "integerFormats", named := ["unicode/utf8.first", "unicode/utf8.acceptRanges"], apart := false, laid := [("unicode/utf8.acceptRanges", laid_unicode_utf8_acceptRanges), ("unicode/utf8.first", laid_unicode_utf8_first)], narrowed := true }
def IntegerFormatsUptoSaid : Prop := integerFormatsUptoRow.holds Tryd.pinned (OpenSpec.upto integerFormatsSpec)

/-- 'quadformlaw01.IntegerRoundTrip', WHERE WHAT IT READS IS OF BULK AT MOST 1048576: true; the input reads as it did. -/
def integerRoundTripUptoRow : OpenClaim := { program := "ytllogjmepflnoaadoor", sum := "ed38f414a604a7cde52b06db7765a0e1ca8856936a84360f37ec57137029d4ab", func := "quadform/quadformlaw01.IntegerRoundTrip", spec := "integerRoundTrip", named := ["unicode/utf8.first", "unicode/utf8.acceptRanges"], apart := false, laid := [("unicode/utf8.acceptRanges", laid_unicode_utf8_acceptRanges), ("unicode/utf8.first", laid_unicode_utf8_first)], narrowed := true }
def IntegerRoundTripUptoSaid : Prop := integerRoundTripUptoRow.holds Tryd.pinned (OpenSpec.upto integerRoundTripSpec)

end Rows
end Go.Proofs.YtllogjmepflnoaaDoor
