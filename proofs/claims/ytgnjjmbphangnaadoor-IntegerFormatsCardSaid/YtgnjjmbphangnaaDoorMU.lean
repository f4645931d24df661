/-
  The contract of Mul.
-/
import Derived.Test.YtgnjjmbphangnaaDoorNZ
import Derived.Test.YtgnjjmbphangnaaDoorH
namespace Go.Proofs.YtgnjjmbphangnaaDoor
open Go.RowKit

section
variable {A B R : Nat} {u0 u1 v0 v1 : Value} {W v v' : World}
/-- Two structs' cells, and all that lies below R. -/
abbrev Kept2 (A B R : Nat) (u0 u1 v0 v1 : Value) (W v : World) : Prop :=
  v.cell? ⟨A, 0, none⟩ = some u0 ∧ v.cell? ⟨A, 1, none⟩ = some u1 ∧ v.cell? ⟨B, 0, none⟩ = some v0 ∧ v.cell? ⟨B, 1, none⟩ = some v1 ∧ Below R W v
theorem kept2_draw (h : Box A u0 u1 W) (h' : Box B v0 v1 W) (hR : R ≤ W.heap.size) : Kept2 A B R u0 u1 v0 v1 W W.drew :=
  ⟨h.c0, h.c1, h'.c0, h'.c1, ((Below.refl _ _).drew).mono hR⟩
theorem kept2_step (hA : A < R) (hB : B < R) (hs : Kept2 A B R u0 u1 v0 v1 W v) (hb : Below R v v') : Kept2 A B R u0 u1 v0 v1 W v' :=
  ⟨(hb.cell hA).trans hs.1, (hb.cell hA).trans hs.2.1, (hb.cell hB).trans hs.2.2.1, (hb.cell hB).trans hs.2.2.2.1, hs.2.2.2.2.trans hb⟩
theorem kept2_call (hA : A < R) (hB : B < R) (hR : R ≤ W.heap.size) (hs : Kept2 A B R u0 u1 v0 v1 W v) (hb : Below v.heap.size v v') : Kept2 A B R u0 u1 v0 v1 W v' :=
  kept2_step hA hB hs (hb.mono (Nat.le_trans hR hs.2.2.2.2.size))
theorem kept2_store (hA : A < R) (hB : B < R) (x y : Value) (hs : Kept2 A B R u0 u1 v0 v1 W v) : Kept2 A B R u0 u1 v0 v1 W ((v.setCell ⟨R, 0, none⟩ x).setCell ⟨R, 1, none⟩ y) :=
  kept2_step hA hB hs (((Below.refl _ _).setCell (p := ⟨R, 0, none⟩) (Nat.le_refl _) _).setCell (p := ⟨R, 1, none⟩) (Nat.le_refl _) _)
theorem kept2_rd {a : Option Addr} {cap : Nat} {xs : List Nat} {C : Nat} (hr : Rd W a cap xs) (hu : Under C a xs) (hC : C ≤ R) (hs : Kept2 A B R u0 u1 v0 v1 W v) : Rd v a cap xs :=
  hr.belowU hu (hs.2.2.2.2.mono hC)
end

attribute [local go_sem ↓] Go.wp_at_zero Go.wp_at_succ

end Go.Proofs.YtgnjjmbphangnaaDoor
