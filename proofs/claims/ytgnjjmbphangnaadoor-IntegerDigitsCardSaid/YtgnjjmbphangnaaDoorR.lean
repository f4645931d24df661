/-
  The contracts of the reference's small functions.
-/
import Derived.Test.YtgnjjmbphangnaaDoorQ
namespace Go.Proofs.YtgnjjmbphangnaaDoor
open Go.RowKit

theorem new_of_row {w w' : World} {v : Value} {zs : List Nat} (hb : Below w.heap.size w w') (hz : Lim zs) (h : w'.ownsRow w.heap.size 52 1 v zs.length (u32s zs)) : ∃ a cap, v = .slice a zs.length cap ∧ New w zs a cap w' := by
  rcases h.2 with ⟨rfl, h0⟩ | ⟨g, cap, cur, rfl, hg, hh, hn, _, _, ht⟩
  · have : zs = [] := List.eq_nil_of_length_eq_zero h0
    subst this
    exact ⟨none, 0, rfl, New.none hb 0⟩
  · exact ⟨some ⟨g, 0, none⟩, cap, rfl, hb, hn, .inr ⟨g, rfl, hg, hz, cur, hh, by rw [← ht, Nat.mul_one]⟩⟩

end Go.Proofs.YtgnjjmbphangnaaDoor
