/-
  The reference's sum, difference and double of limbs.
-/
import Derived.Test.YtgnjjmbphangnaaDoorR
namespace Go.Proofs.YtgnjjmbphangnaaDoor
open Go.RowKit

theorem u32s_snoc (zs : List Nat) (d : Nat) (v : Int) (h : v = (d : Int)) : u32s zs ++ [.int .u32 v] = u32s (zs ++ [d]) := by subst h; simp [u32s]

end Go.Proofs.YtgnjjmbphangnaaDoor
