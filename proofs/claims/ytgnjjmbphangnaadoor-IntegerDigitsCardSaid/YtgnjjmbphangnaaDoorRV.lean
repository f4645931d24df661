/-
  The reference's divide: bit by bit.
-/
import Derived.Test.YtgnjjmbphangnaaDoorRD
import Derived.Test.YtgnjjmbphangnaaDoorR
import Derived.Test.YtgnjjmbphangnaaDoorM
import Derived.Deep.RegionHeld3
import Derived.Deep.DrawnRows
import Derived.Deep.AppendLies
import Derived.Test.YtgnjjmbphangnaaDoorH
import Derived.Test.YtgnjjmbphangnaaDoorQ
namespace Go.Proofs.YtgnjjmbphangnaaDoor
open Go.RowKit

/-- A list of limbs in a block of the call's own behind block B. -/
structure Away (B : Nat) (zs : List Nat) (a : Option Addr) (cap : Nat) (w : World) : Prop where
  fits : zs.length ≤ cap
  own : (a = none ∧ zs = []) ∨ ∃ g, a = some ⟨g, 0, none⟩ ∧ B < g ∧ Own w g zs

theorem Away.rd {B : Nat} {zs : List Nat} {a : Option Addr} {cap : Nat} {w : World} (h : Away B zs a cap w) : Rd w a cap zs := by
  rcases h.own with ⟨rfl, rfl⟩ | ⟨g, rfl, _, ho⟩
  · exact Rd.nil _ _ _
  · exact ho.rd h.fits
theorem Away.below {B : Nat} {zs : List Nat} {a : Option Addr} {cap : Nat} {w w' : World} (h : Away B zs a cap w) (hb : Below w.heap.size w w') : Away B zs a cap w' := by
  refine ⟨h.fits, ?_⟩
  rcases h.own with h0 | ⟨g, rfl, hg, ho⟩
  · exact .inl h0
  · exact .inr ⟨g, rfl, hg, ho.below hb ho.lt⟩
theorem Away.store {B : Nat} {zs : List Nat} {a : Option Addr} {cap : Nat} {w : World} (h : Away B zs a cap w) (i : Nat) (v : Value) : Away B zs a cap (w.setCell ⟨B, i, none⟩ v) := by
  refine ⟨h.fits, ?_⟩
  rcases h.own with h0 | ⟨g, rfl, hg, ho⟩
  · exact .inl h0
  · exact .inr ⟨g, rfl, hg, ho.of_heap (Below.heap_setCell _ _ _ _ (by simp; omega))⟩
attribute [local go_sem ↓] Go.wp_at_zero Go.wp_at_succ

end Go.Proofs.YtgnjjmbphangnaaDoor
