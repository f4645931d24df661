/-
  The contracts of Normalize, the program's and the reference's.
-/
import Derived.Test.YtgnjjmbphangnaaDoorCC
namespace Go.Proofs.YtgnjjmbphangnaaDoor
open Go.RowKit

attribute [local go_sem ↓] Go.wp_at_zero Go.wp_at_succ

section
variable {A R : Nat} {u0 u1 : Value} {W v v' : World}
theorem kept_call (h : Box A u0 u1 W) (hA : A < R) (hR : R ≤ W.heap.size) (hs : v.cell? ⟨A, 0, none⟩ = some u0 ∧ v.cell? ⟨A, 1, none⟩ = some u1 ∧ Below R W v) (hb : Below v.heap.size v v') :
    v'.cell? ⟨A, 0, none⟩ = some u0 ∧ v'.cell? ⟨A, 1, none⟩ = some u1 ∧ Below R W v' :=
  kept_step h hA hR hs (hb.mono (Nat.le_trans hR hs.2.2.size))
end

end Go.Proofs.YtgnjjmbphangnaaDoor
