/-
  The contracts of Pow, the program's and the reference's.
-/
import Derived.Test.YtgnjjmbphangnaaDoorRV
import Derived.Test.YtgnjjmbphangnaaDoorR
import Derived.Test.YtgnjjmbphangnaaDoorM
import Derived.Deep.RegionHeld3
import Derived.Deep.DrawnRows
import Derived.Deep.AppendLies
import Derived.Test.YtgnjjmbphangnaaDoorH
import Derived.Test.YtgnjjmbphangnaaDoorDL
namespace Go.Proofs.YtgnjjmbphangnaaDoor
open Go.RowKit

/-- A list of limbs in a block of the call's own, which is neither of two given ones. -/
structure Apart (B0 B1 B2 : Nat) (zs : List Nat) (a : Option Addr) (cap : Nat) (w : World) : Prop where
  fits : zs.length ≤ cap
  own : (a = none ∧ zs = []) ∨ ∃ g, a = some ⟨g, 0, none⟩ ∧ B0 ≤ g ∧ g ≠ B1 ∧ g ≠ B2 ∧ Own w g zs

theorem Apart.rd {B0 B1 B2 : Nat} {zs : List Nat} {a : Option Addr} {cap : Nat} {w : World} (h : Apart B0 B1 B2 zs a cap w) : Rd w a cap zs := by
  rcases h.own with ⟨rfl, rfl⟩ | ⟨g, rfl, _, _, _, ho⟩
  · exact Rd.nil _ _ _
  · exact ho.rd h.fits
theorem Apart.below {B0 B1 B2 : Nat} {zs : List Nat} {a : Option Addr} {cap : Nat} {w w' : World} (h : Apart B0 B1 B2 zs a cap w) (hb : Below w.heap.size w w') : Apart B0 B1 B2 zs a cap w' := by
  refine ⟨h.fits, ?_⟩
  rcases h.own with h' | ⟨g, rfl, hg, h1, h2, ho⟩
  · exact .inl h'
  · exact .inr ⟨g, rfl, hg, h1, h2, ho.below hb ho.lt⟩
theorem Box.stored {B : Nat} {u v : Value} {w : World} (h : Box B u v w) (x y : Value) : Box B x y ((w.setCell ⟨B, 0, none⟩ x).setCell ⟨B, 1, none⟩ y) := by
  obtain ⟨c0, c1, f0, f1, hs⟩ := h
  refine ⟨?_, ?_, ?_, ?_, ?_⟩
  all_goals simp [go_sem, c0, c1, f0, f1, hs]

attribute [local go_sem ↓] Go.wp_at_zero Go.wp_at_succ

end Go.Proofs.YtgnjjmbphangnaaDoor
