/-
  DERIVED. GIVEN WITH THE SEED: THE CARDS: each row of YtgnjjmbphangnaaDoorRows.lean that lists a variable, with what it lists TIED to the program's text (the seventh form; the later family's looks); each row that meets fmt, with fmt's text TOLD by the authors' own Lean function (tested against real Go, not proved from fmt's source: count such statements apart). THE CARD IS WHAT COUNTS. Prove the row's statement (the work); the ties are given (YtgnjjmbphangnaaDoorTie.lean); close each card by the builder's one call (the guide's Derived/Test/ToyasCard.lean, 'card_holds'). Laid BY PROGRAM, IN A SANDBOX (cutbox-door.mjs). By AI agents, Wed Nov 11 2026. No macro, syntax, notation, axiom, sorry.
-/
import Derived.Test.YtgnjjmbphangnaaDoorRows
import GoSem.ClaimSeven
namespace Go.Proofs.YtgnjjmbphangnaaDoor
namespace Rows

/-- THE TIED CARD OF 'quadformlaw01.IntegerDigits'. -/
def integerDigitsCard : Claim7 := { stood := { row := integerDigitsRow, standIns := [], harness := (true, "5753248c1b8a2d9bc0549f9ab93ddcedf210ab4d136f6da15f9016a4159104dd"), looks := false }, kinds := [], alts := [], laidByText := true, laidKinds := [.data, .pinned], laidTests := true, laidLooks := .later }
def IntegerDigitsCardSaid : Prop := Claim7.holds Tryd.pinned (.plain (OpenSpec.ofChange integerDigitsSpec)) integerDigitsCard

/-- THE TIED CARD OF 'quadformlaw01.IntegerFormats'. -/
def integerFormatsCard : Claim7 := { stood := { row := integerFormatsRow, standIns := [], harness := (true, "5753248c1b8a2d9bc0549f9ab93ddcedf210ab4d136f6da15f9016a4159104dd"), looks := false }, kinds := [], alts := [], laidByText := true, laidKinds := [.data, .pinned], laidTests := true, laidLooks := .later }
def IntegerFormatsCardSaid : Prop := Claim7.holds Tryd.pinned (.plain (OpenSpec.ofChange integerFormatsSpec)) integerFormatsCard

/-- THE SECOND FORM's CARD OF 'quadformlaw01.IntegerDigits'. -/
def integerDigitsUptoCard : Claim7 := { stood := { row := integerDigitsUptoRow, standIns := [], harness := (true, "5753248c1b8a2d9bc0549f9ab93ddcedf210ab4d136f6da15f9016a4159104dd"), looks := false }, kinds := [], alts := [], laidByText := true, laidKinds := [.data, .pinned], laidTests := true, laidLooks := .later }
def IntegerDigitsUptoCardSaid : Prop := Claim7.holds Tryd.pinned (.plain (OpenSpec.upto integerDigitsSpec)) integerDigitsUptoCard

/-- THE SECOND FORM's CARD OF 'quadformlaw01.IntegerFormats'. -/
def integerFormatsUptoCard : Claim7 := { stood := { row := integerFormatsUptoRow, standIns := [], harness := (true, "5753248c1b8a2d9bc0549f9ab93ddcedf210ab4d136f6da15f9016a4159104dd"), looks := false }, kinds := [], alts := [], laidByText := true, laidKinds := [.data, .pinned], laidTests := true, laidLooks := .later }
def IntegerFormatsUptoCardSaid : Prop := Claim7.holds Tryd.pinned (.plain (OpenSpec.upto integerFormatsSpec)) integerFormatsUptoCard
end Rows
end Go.Proofs.YtgnjjmbphangnaaDoor
