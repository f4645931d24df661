/-
  The contracts of natural and Parse on texts that are no numbers.
-/
import Derived.Test.YtgnjjmbphangnaaDoorPL
import Derived.Test.YtgnjjmbphangnaaDoorPW
import Derived.Test.YtgnjjmbphangnaaDoorRX
namespace Go.Proofs.YtgnjjmbphangnaaDoor
open Go.RowKit Go.Lib

def Byt (l : List Nat) : Prop := ∀ c ∈ l, c < 256
theorem Byt.getD {l : List Nat} (h : Byt l) (i : Nat) : l.getD i 0 < 256 := by
  by_cases hi : i < l.length
  · rw [List.getD_eq_getElem?_getD, List.getElem?_eq_getElem hi]; exact h _ (List.getElem_mem hi)
  · rw [List.getD_eq_getElem?_getD, List.getElem?_eq_none (by omega)]; simp

end Go.Proofs.YtgnjjmbphangnaaDoor
