/-
  The laws' copied: an Int with its own limbs.
-/
import Derived.Test.YtgnjjmbphangnaaDoorRC
import Derived.Deep.AppendLies
namespace Go.Proofs.YtgnjjmbphangnaaDoor
open Go.RowKit

section
variable {A R : Nat} {u0 u1 : Value} {W v v' : World}
theorem kept_draw (h : Box A u0 u1 W) (hR : R ≤ W.heap.size) : W.drew.cell? ⟨A, 0, none⟩ = some u0 ∧ W.drew.cell? ⟨A, 1, none⟩ = some u1 ∧ Below R W W.drew :=
  ⟨h.c0, h.c1, ((Below.refl _ _).drew).mono hR⟩
theorem kept_step (_h : Box A u0 u1 W) (hA : A < R) (_hR : R ≤ W.heap.size) (hs : v.cell? ⟨A, 0, none⟩ = some u0 ∧ v.cell? ⟨A, 1, none⟩ = some u1 ∧ Below R W v) (hb : Below R v v') :
    v'.cell? ⟨A, 0, none⟩ = some u0 ∧ v'.cell? ⟨A, 1, none⟩ = some u1 ∧ Below R W v' :=
  ⟨(hb.cell hA).trans hs.1, (hb.cell hA).trans hs.2.1, hs.2.2.trans hb⟩
theorem kept_store (h : Box A u0 u1 W) (hA : A < R) (hR : R ≤ W.heap.size) (x y : Value) (hs : v.cell? ⟨A, 0, none⟩ = some u0 ∧ v.cell? ⟨A, 1, none⟩ = some u1 ∧ Below R W v) :
    ((v.setCell ⟨R, 0, none⟩ x).setCell ⟨R, 1, none⟩ y).cell? ⟨A, 0, none⟩ = some u0 ∧ ((v.setCell ⟨R, 0, none⟩ x).setCell ⟨R, 1, none⟩ y).cell? ⟨A, 1, none⟩ = some u1 ∧ Below R W ((v.setCell ⟨R, 0, none⟩ x).setCell ⟨R, 1, none⟩ y) :=
  kept_step h hA hR hs (((Below.refl _ _).setCell (p := ⟨R, 0, none⟩) (Nat.le_refl _) _).setCell (p := ⟨R, 1, none⟩) (Nat.le_refl _) _)
end

attribute [local go_sem ↓] Go.wp_at_zero Go.wp_at_succ

end Go.Proofs.YtgnjjmbphangnaaDoor
