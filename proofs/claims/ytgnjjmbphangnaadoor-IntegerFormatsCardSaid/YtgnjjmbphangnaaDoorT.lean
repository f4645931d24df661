/-
  The walk of IntegerSmall.
-/
import Derived.Test.YtgnjjmbphangnaaDoorQ
import Derived.Test.YtgnjjmbphangnaaDoorS
import Derived.Deep.RegionHeld3
import Derived.Deep.DrawnRows
namespace Go.Proofs.YtgnjjmbphangnaaDoor
open Go.RowKit

/-- What a region that draws its order holds: a struct's two cells, and all that was there. -/
theorem held_draw {B : Nat} {v0 v1 : Value} {W : World} (h : Box B v0 v1 W) : W.drew.cell? ⟨B, 0, none⟩ = some v0 ∧ W.drew.cell? ⟨B, 1, none⟩ = some v1 ∧ Below W.heap.size W W.drew :=
  ⟨h.c0, h.c1, (Below.refl _ _).drew⟩
theorem held_step {B : Nat} {v0 v1 : Value} {W v v' : World} (hB : Box B v0 v1 W) (h : v.cell? ⟨B, 0, none⟩ = some v0 ∧ v.cell? ⟨B, 1, none⟩ = some v1 ∧ Below W.heap.size W v) (hb : Below v.heap.size v v') :
    v'.cell? ⟨B, 0, none⟩ = some v0 ∧ v'.cell? ⟨B, 1, none⟩ = some v1 ∧ Below W.heap.size W v' :=
  have hb' := h.2.2.trans (hb.mono h.2.2.size)
  ⟨(hB.below hb').c0, (hB.below hb').c1, hb'⟩
theorem held_rd {B : Nat} {v0 v1 : Value} {W v : World} {a : Option Addr} {cap : Nat} {xs : List Nat} (hr : Rd W a cap xs) (h : v.cell? ⟨B, 0, none⟩ = some v0 ∧ v.cell? ⟨B, 1, none⟩ = some v1 ∧ Below W.heap.size W v) : Rd v a cap xs :=
  hr.below h.2.2

theorem held_below {B : Nat} {v0 v1 : Value} {W v : World} (h : v.cell? ⟨B, 0, none⟩ = some v0 ∧ v.cell? ⟨B, 1, none⟩ = some v1 ∧ Below W.heap.size W v) : Below W.heap.size W v := h.2.2

attribute [local go_sem ↓] Go.wp_at_zero Go.wp_at_succ
end Go.Proofs.YtgnjjmbphangnaaDoor
