/-
  The contracts of limbsOfDigits and natural on the digits of a number.
-/
import Derived.Test.YtgnjjmbphangnaaDoorPT
import Derived.Test.YtgnjjmbphangnaaDoorP
import Derived.Lib.Bytes
import Derived.Deep.LoopGhost
namespace Go.Proofs.YtgnjjmbphangnaaDoor
open Go.RowKit Go.Lib

/-- The number that decimal digits denote. -/
def num (l : List Nat) : Nat := l.foldl (fun a c => 10 * a + (c - 48)) 0
def Dig (l : List Nat) : Prop := ∀ c ∈ l, 48 ≤ c ∧ c ≤ 57

theorem Dig.getD {l : List Nat} (h : Dig l) {i : Nat} (hi : i < l.length) : 48 ≤ l.getD i 0 ∧ l.getD i 0 ≤ 57 := by
  rw [List.getD_eq_getElem?_getD, List.getElem?_eq_getElem hi]; exact h _ (List.getElem_mem hi)

theorem num_snoc (l : List Nat) (c : Nat) : num (l ++ [c]) = 10 * num l + (c - 48) := by unfold num; rw [List.foldl_append]; rfl
theorem str_size (l : List Nat) : (str l).size = l.length := by unfold str; rw [strOfNums_size]; simp
theorem str_get (l : List Nat) (i : Nat) (hi : i < (str l).size) (hc : l.getD i 0 < 256) : ((str l)[i]'hi).toNat = l.getD i 0 := by
  have hl : i < l.length := by rwa [str_size] at hi
  rw [List.getD_eq_getElem?_getD, List.getElem?_eq_getElem hl] at hc ⊢
  simp only [Option.getD_some] at hc ⊢
  show ((str l).data[i]'_).toNat = _
  simp [str, strOfNums]
  omega

end Go.Proofs.YtgnjjmbphangnaaDoor
