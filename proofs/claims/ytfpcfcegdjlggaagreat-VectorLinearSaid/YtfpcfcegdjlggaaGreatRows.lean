/-
  No cell of these rows narrows 'for every input' (looked for: loops, veiled, ifaces, maps, wideKeys, modest, calm, conditions, laid).
  DERIVED. THE GIVEN ROWS OF THIS SEAT. 7 by the template 'for every input the law returns true; each argument reads behind the call as it read before'; 0 by the template 'total and deterministic' (their statements: YtfpcfcegdjlggaaGreatTotals.lean).
  GIVEN WITH THE SEED: the statements are not yours to turn. If you find one false, say at which input.
  Laid BY PROGRAM, IN A SANDBOX (cutbox-rows.mjs): the forced cells as the released guide's own fill.sh prints them over the translation 86f78fcc7073a8b0… (all of the seat's roots in one cut). By AI agents, Wed Nov 11 2026. No macro, syntax, notation, axiom, sorry.
-/
import Derived.Test.YtfpcfcegdjlggaaGreatChecked
import GoSem.Claim
import GoSem.ClaimJoined
import GoSem.ClaimMapViews
import Derived.JoinedTies
import Derived.KernelRfl
namespace Go.Proofs.YtfpcfcegdjlggaaGreat
/- THE CELL 'sum', in the pinned program and in every row, IS THE sha256 OF THE DUMP (.gsa) THAT YtfpcfcegdjlggaaGreatProg.lean LOADS. Nothing in Lean hashes anything: it is a label: what it is worth is what the hold of that sum in a sandbox is worth. -/
noncomputable def Tryz.pinned : Pinned := { name := "ytfpcfcegdjlggaagreat", sum := "86f78fcc7073a8b03cbcac59203a80336a73f227119ade9c8ee9442a1771a230", checked := Tryz.checked }
namespace Rows
def none {H : Type} : Left H := { results := [], args := [] }

/-- 'quadformlaw09.VectorValid': WHATEVER THE INPUT: true; the input reads as it did. -/
def vectorValidSpec : ChangeSpec := { name := "vectorValid", fn := fun _ => fun
  | [d1, d2, d3, d4, d5] => { results := [.lit (.bool true)], args := [d1, d2, d3, d4, d5] }
  | _ => none }
def vectorValidRow : OpenClaim := { program := "ytfpcfcegdjlggaagreat", sum := "86f78fcc7073a8b03cbcac59203a80336a73f227119ade9c8ee9442a1771a230", func := "quadform/quadformlaw09.VectorValid", spec := "vectorValid", inPlace := ["math/bits.Add64"], unfollowed := true, recurses := true, apart := false }
def VectorValidSaid : Prop := vectorValidRow.holds Tryz.pinned (OpenSpec.ofChange vectorValidSpec)

/-- ITS FALSE NEIGHBOUR: 'it returns false'. Refute it at one input. -/
def vectorValidWrong : ChangeSpec := { name := "vectorValid", fn := fun _ => fun
  | [d1, d2, d3, d4, d5] => { results := [.lit (.bool false)], args := [d1, d2, d3, d4, d5] }
  | _ => none }
def VectorValidWrongFalsely : Prop := vectorValidRow.holds Tryz.pinned (OpenSpec.ofChange vectorValidWrong)

/-- 'quadformlaw09.VectorNorms': WHATEVER THE INPUT: true; the input reads as it did. -/
def vectorNormsSpec : ChangeSpec := { name := "vectorNorms", fn := fun _ => fun
  | [d1, d2, d3] => { results := [.lit (.bool true)], args := [d1, d2, d3] }
  | _ => none }
def vectorNormsRow : OpenClaim := { program := "ytfpcfcegdjlggaagreat", sum := "86f78fcc7073a8b03cbcac59203a80336a73f227119ade9c8ee9442a1771a230", func := "quadform/quadformlaw09.VectorNorms", spec := "vectorNorms", inPlace := ["math/bits.Add64"], unfollowed := true, recurses := true, apart := false }
def VectorNormsSaid : Prop := vectorNormsRow.holds Tryz.pinned (OpenSpec.ofChange vectorNormsSpec)

/-- ITS FALSE NEIGHBOUR: 'it returns false'. Refute it at one input. -/
def vectorNormsWrong : ChangeSpec := { name := "vectorNorms", fn := fun _ => fun
  | [d1, d2, d3] => { results := [.lit (.bool false)], args := [d1, d2, d3] }
  | _ => none }
def VectorNormsWrongFalsely : Prop := vectorNormsRow.holds Tryz.pinned (OpenSpec.ofChange vectorNormsWrong)

/-- 'quadformlaw09.VectorLarge': WHATEVER THE INPUT: true; the input reads as it did. -/
def vectorLargeSpec : ChangeSpec := { name := "vectorLarge", fn := fun _ => fun
  | [d1, d2, d3, d4] => { results := [.lit (.bool true)], args := [d1, d2, d3, d4] }
  | _ => none }
def vectorLargeRow : OpenClaim := { program := "ytfpcfcegdjlggaagreat", sum := "86f78fcc7073a8b03cbcac59203a80336a73f227119ade9c8ee9442a1771a230", func := "quadform/quadformlaw09.VectorLarge", spec := "vectorLarge", inPlace := ["math/bits.Add64"], unfollowed := true, recurses := true, apart := false }
def VectorLargeSaid : Prop := vectorLargeRow.holds Tryz.pinned (OpenSpec.ofChange vectorLargeSpec)

/-- ITS FALSE NEIGHBOUR: 'it returns false'. Refute it at one input. -/
def vectorLargeWrong : ChangeSpec := { name := "vectorLarge", fn := fun _ => fun
  | [d1, d2, d3, d4] => { results := [.lit (.bool false)], args := [d1, d2, d3, d4] }
  | _ => none }
def VectorLargeWrongFalsely : Prop := vectorLargeRow.holds Tryz.pinned (OpenSpec.ofChange vectorLargeWrong)

/-- 'quadformlaw09.VectorGrams': WHATEVER THE INPUT: true; the input reads as it did. -/
def vectorGramsSpec : ChangeSpec := { name := "vectorGrams", fn := fun _ => fun
  | [d1, d2, d3, d4] => { results := [.lit (.bool true)], args := [d1, d2, d3, d4] }
  | _ => none }
def vectorGramsRow : OpenClaim := { program := "ytfpcfcegdjlggaagreat", sum := "86f78fcc7073a8b03cbcac59203a80336a73f227119ade9c8ee9442a1771a230", func := "quadform/quadformlaw09.VectorGrams", spec := "vectorGrams", inPlace := ["math/bits.Add64"], unfollowed := true, recurses := true, apart := false }
def VectorGramsSaid : Prop := vectorGramsRow.holds Tryz.pinned (OpenSpec.ofChange vectorGramsSpec)

/-- ITS FALSE NEIGHBOUR: 'it returns false'. Refute it at one input. -/
def vectorGramsWrong : ChangeSpec := { name := "vectorGrams", fn := fun _ => fun
  | [d1, d2, d3, d4] => { results := [.lit (.bool false)], args := [d1, d2, d3, d4] }
  | _ => none }
def VectorGramsWrongFalsely : Prop := vectorGramsRow.holds Tryz.pinned (OpenSpec.ofChange vectorGramsWrong)

/-- 'quadformlaw09.VectorSorts': WHATEVER THE INPUT: true; the input reads as it did. -/
def vectorSortsSpec : ChangeSpec := { name := "vectorSorts", fn := fun _ => fun
  | [d1, d2, d3, d4, d5] => { results := [.lit (.bool true)], args := [d1, d2, d3, d4, d5] }
  | _ => none }
def vectorSortsRow : OpenClaim := { program := "ytfpcfcegdjlggaagreat", sum := "86f78fcc7073a8b03cbcac59203a80336a73f227119ade9c8ee9442a1771a230", func := "quadform/quadformlaw09.VectorSorts", spec := "vectorSorts", inPlace := ["math/bits.Add64"], unfollowed := true, recurses := true, apart := false }
def VectorSortsSaid : Prop := vectorSortsRow.holds Tryz.pinned (OpenSpec.ofChange vectorSortsSpec)

/-- ITS FALSE NEIGHBOUR: 'it returns false'. Refute it at one input. -/
def vectorSortsWrong : ChangeSpec := { name := "vectorSorts", fn := fun _ => fun
  | [d1, d2, d3, d4, d5] => { results := [.lit (.bool false)], args := [d1, d2, d3, d4, d5] }
  | _ => none }
def VectorSortsWrongFalsely : Prop := vectorSortsRow.holds Tryz.pinned (OpenSpec.ofChange vectorSortsWrong)

/-- 'quadformlaw09.VectorSortedOnce': WHATEVER THE INPUT: true; the input reads as it did. -/
def vectorSortedOnceSpec : ChangeSpec := { name := "vectorSortedOnce", fn := fun _ => fun
  | [d1, d2, d3] => { results := [.lit (.bool true)], args := [d1, d2, d3] }
  | _ => none }
def vectorSortedOnceRow : OpenClaim := { program := "ytfpcfcegdjlggaagreat", sum := "86f78fcc7073a8b03cbcac59203a80336a73f227119ade9c8ee9442a1771a230", func := "quadform/quadformlaw09.VectorSortedOnce", spec := "vectorSortedOnce", inPlace := ["math/bits.Add64"], unfollowed := true, recurses := true, apart := false }
def VectorSortedOnceSaid : Prop := vectorSortedOnceRow.holds Tryz.pinned (OpenSpec.ofChange vectorSortedOnceSpec)

/-- ITS FALSE NEIGHBOUR: 'it returns false'. Refute it at one input. -/
def vectorSortedOnceWrong : ChangeSpec := { name := "vectorSortedOnce", fn := fun _ => fun
  | [d1, d2, d3] => { results := [.lit (.bool false)], args := [d1, d2, d3] }
  | _ => none }
def VectorSortedOnceWrongFalsely : Prop := vectorSortedOnceRow.holds Tryz.pinned (OpenSpec.ofChange vectorSortedOnceWrong)

/-- 'quadformlaw09.VectorLinear': WHATEVER THE INPUT: true; the input reads as it did. -/
def vectorLinearSpec : ChangeSpec := { name := "vectorLinear", fn := fun _ => fun
  | [d1, d2, d3, d4, d5] => { results := [.lit (.bool true)], args := [d1, d2, d3, d4, d5] }
  | _ => none }
def vectorLinearRow : OpenClaim := { program := "ytfpcfcegdjlggaagreat", sum := "86f78fcc7073a8b03cbcac59203a80336a73f227119ade9c8ee9442a1771a230", func := "quadform/quadformlaw09.VectorLinear", spec := "vectorLinear", inPlace := ["math/bits.Add64"], unfollowed := true, recurses := true, apart := false }
def VectorLinearSaid : Prop := vectorLinearRow.holds Tryz.pinned (OpenSpec.ofChange vectorLinearSpec)

/-- ITS FALSE NEIGHBOUR: 'it returns false'. Refute it at one input. -/
def vectorLinearWrong : ChangeSpec := { name := "vectorLinear", fn := fun _ => fun
  | [d1, d2, d3, d4, d5] => { results := [.lit (.bool false)], args := [d1, d2, d3, d4, d5] }
  | _ => none }
def VectorLinearWrongFalsely : Prop := vectorLinearRow.holds Tryz.pinned (OpenSpec.ofChange vectorLinearWrong)

/- THE SECOND FORM. 'bulk': how many values and letters a reading holds, each counted each time it is reached (what is shared counts as often as it is met; a slice's spare places count too). A statement '..UptoSaid' is the law's where the arguments, and the package variables that the reading takes, are together of bulk at most 1048576: NARROWER than '..Said'. Prove '..Said' where nothing that the law and all that it calls make is longer than what came in: it says more and counts as full. Else prove '..UptoSaid'. A law counts once. -/
mutual
def uptoBulk {H : Type} : DataW H → Nat
  | .lit (.string bytes) => bytes.length + 1
  | .lit _ => 1
  | .nil => 1
  | .ptr d => uptoBulk d + 1
  | .slice elems spare => uptoBulkAll elems + uptoBulkAll spare + 1
  | .agg parts => uptoBulkAll parts + 1
  | .iface _ d => uptoBulk d + 1
  | .map entries => uptoBulkEntries entries + 1
  | .held _ => 1
def uptoBulkAll {H : Type} : List (DataW H) → Nat
  | [] => 0
  | d :: r => uptoBulk d + uptoBulkAll r
def uptoBulkEntries {H : Type} : List (Lit × DataW H) → Nat
  | [] => 0
  | x :: r => uptoBulkEntry x + uptoBulkEntries r
def uptoBulkEntry {H : Type} : Lit × DataW H → Nat
  | (.string bytes, d) => bytes.length + uptoBulk d + 1
  | (_, d) => uptoBulk d + 1
 end
def uptoSmall : (H : Type) → List (DataW H) → Bool := fun _ ds => decide (uptoBulkAll ds ≤ 1048576)
def OpenSpec.upto (s : _root_.Go.ChangeSpec) : _root_.Go.OpenSpec := { _root_.Go.OpenSpec.ofChange s with cond := some uptoSmall }

/-- 'quadformlaw09.VectorValid', WHERE WHAT IT READS IS OF BULK AT MOST 1048576: true; the input reads as it did. -/
def vectorValidUptoRow : OpenClaim := { program := "ytfpcfcegdjlggaagreat", sum := "86f78fcc7073a8b03cbcac59203a80336a73f227119ade9c8ee9442a1771a230", func := "quadform/quadformlaw09.VectorValid", spec := "vectorValid", inPlace := ["math/bits.Add64"], unfollowed := true, recurses := true, apart := false, narrowed := true }
def VectorValidUptoSaid : Prop := vectorValidUptoRow.holds Tryz.pinned (OpenSpec.upto vectorValidSpec)

/-- 'quadformlaw09.VectorNorms', WHERE WHAT IT READS IS OF BULK AT MOST 1048576: true; the input reads as it did. -/
def vectorNormsUptoRow : OpenClaim := { program := "ytfpcfcegdjlggaagreat", sum := "86f78fcc7073a8b03cbcac59203a80336a73f227119ade9c8ee9442a1771a230", func := "quadform/quadformlaw09.VectorNorms", spec := "vectorNorms", inPlace := ["math/bits.Add64"], unfollowed := true, recurses := true, apart := false, narrowed := true }
def VectorNormsUptoSaid : Prop := vectorNormsUptoRow.holds Tryz.pinned (OpenSpec.upto vectorNormsSpec)

/-- 'quadformlaw09.VectorLarge', WHERE WHAT IT READS IS OF BULK AT MOST 1048576: true; the input reads as it did. -/
def vectorLargeUptoRow : OpenClaim := { program := "ytfpcfcegdjlggaagreat", sum := "86f78fcc7073a8b03cbcac59203a80336a73f227119ade9c8ee9442a1771a230", func := "quadform/quadformlaw09.VectorLarge", spec := "vectorLarge", inPlace := ["math/bits.Add64"], unfollowed := true, recurses := true, apart := false, narrowed := true }
def VectorLargeUptoSaid : Prop := vectorLargeUptoRow.holds Tryz.pinned (OpenSpec.upto vectorLargeSpec)

/-- 'quadformlaw09.VectorGrams', WHERE WHAT IT READS IS OF BULK AT MOST 1048576: true; the input reads as it did. -/
def vectorGramsUptoRow : OpenClaim := { program := "ytfpcfcegdjlggaagreat", sum := "86f78fcc7073a8b03cbcac59203a80336a73f227119ade9c8ee9442a1771a230", func := "quadform/quadformlaw09.VectorGrams", spec := "vectorGrams", inPlace := ["math/bits.Add64"], unfollowed := true, recurses := true, apart := false, narrowed := true }
def VectorGramsUptoSaid : Prop := vectorGramsUptoRow.holds Tryz.pinned (OpenSpec.upto vectorGramsSpec)

/-- 'quadformlaw09.VectorSorts', WHERE WHAT IT READS IS OF BULK AT MOST 1048576: true; the input reads as it did. -/
def vectorSortsUptoRow : OpenClaim := { program := "ytfpcfcegdjlggaagreat", sum := "86f78fcc7073a8b03cbcac59203a80336a73f227119ade9c8ee9442a1771a230", func := "quadform/quadformlaw09.VectorSorts", spec := "vectorSorts", inPlace := ["math/bits.Add64"], unfollowed := true, recurses := true, apart := false, narrowed := true }
def VectorSortsUptoSaid : Prop := vectorSortsUptoRow.holds Tryz.pinned (OpenSpec.upto vectorSortsSpec)

/-- 'quadformlaw09.VectorSortedOnce', WHERE WHAT IT READS IS OF BULK AT MOST 1048576: true; the input reads as it did. -/
def vectorSortedOnceUptoRow : OpenClaim := { program := "ytfpcfcegdjlggaagreat", sum := "86f78fcc7073a8b03cbcac59203a80336a73f227119ade9c8ee9442a1771a230", func := "quadform/quadformlaw09.VectorSortedOnce", spec := "vectorSortedOnce", inPlace := ["math/bits.Add64"], unfollowed := true, recurses := true, apart := false, narrowed := true }
def VectorSortedOnceUptoSaid : Prop := vectorSortedOnceUptoRow.holds Tryz.pinned (OpenSpec.upto vectorSortedOnceSpec)

/-- 'quadformlaw09.VectorLinear', WHERE WHAT IT READS IS OF BULK AT MOST 1048576: true; the input reads as it did. -/
def vectorLinearUptoRow : OpenClaim := { program := "ytfpcfcegdjlggaagreat", sum := "86f78fcc7073a8b03cbcac59203a80336a73f227119ade9c8ee9442a1771a230", func := "quadform/quadformlaw09.VectorLinear", spec := "vectorLinear", inPlace := ["math/bits.Add64"], unfollowed := true, recurses := true, apart := false, narrowed := true }
def VectorLinearUptoSaid : Prop := vectorLinearUptoRow.holds Tryz.pinned (OpenSpec.upto vectorLinearSpec)

end Rows
end Go.Proofs.YtfpcfcegdjlggaaGreat
