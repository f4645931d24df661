/-
  The contract of timesPlus.
-/
import Derived.Test.YtgnjjmbphangnaaDoorS
import Derived.Test.YtgnjjmbphangnaaDoorRA
import Derived.Lib.OthersKept
namespace Go.Proofs.YtgnjjmbphangnaaDoor
open Go.RowKit

theorem limbs_mono {a b : Nat} (h : a ≤ b) : (limbs a).length ≤ (limbs b).length := by
  rcases Nat.lt_or_ge (limbs b).length (limbs a).length with h1 | h1
  · have := limbs_length_lt h1; omega
  · exact h1

end Go.Proofs.YtgnjjmbphangnaaDoor
