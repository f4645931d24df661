/-
  Comparing two Ints: the program's Cmp, the reference's Sign and Cmp.
-/
import Derived.Test.YtgnjjmbphangnaaDoorAA
import Derived.Test.YtgnjjmbphangnaaDoorM
import Derived.Deep.RegionHeld3
import Derived.Deep.DrawnRows
namespace Go.Proofs.YtgnjjmbphangnaaDoor
open Go.RowKit

section
variable {A B : Nat} {u0 u1 v0 v1 : Value} {W v v' : World}
/-- What a region that draws its order holds: two structs' cells, and all that was there. -/
theorem two_draw (h : Box A u0 u1 W) (h' : Box B v0 v1 W) : W.drew.cell? ⟨A, 0, none⟩ = some u0 ∧ W.drew.cell? ⟨A, 1, none⟩ = some u1 ∧ W.drew.cell? ⟨B, 0, none⟩ = some v0 ∧ W.drew.cell? ⟨B, 1, none⟩ = some v1 ∧ Below W.heap.size W W.drew :=
  ⟨h.c0, h.c1, h'.c0, h'.c1, (Below.refl _ _).drew⟩
theorem two_step (h : Box A u0 u1 W) (h' : Box B v0 v1 W) (hs : v.cell? ⟨A, 0, none⟩ = some u0 ∧ v.cell? ⟨A, 1, none⟩ = some u1 ∧ v.cell? ⟨B, 0, none⟩ = some v0 ∧ v.cell? ⟨B, 1, none⟩ = some v1 ∧ Below W.heap.size W v) (hb : Below v.heap.size v v') :
    v'.cell? ⟨A, 0, none⟩ = some u0 ∧ v'.cell? ⟨A, 1, none⟩ = some u1 ∧ v'.cell? ⟨B, 0, none⟩ = some v0 ∧ v'.cell? ⟨B, 1, none⟩ = some v1 ∧ Below W.heap.size W v' :=
  have hb' := hs.2.2.2.2.trans (hb.mono hs.2.2.2.2.size)
  ⟨(h.below hb').c0, (h.below hb').c1, (h'.below hb').c0, (h'.below hb').c1, hb'⟩
theorem two_rd {a : Option Addr} {cap : Nat} {xs : List Nat} (hr : Rd W a cap xs) (hs : v.cell? ⟨A, 0, none⟩ = some u0 ∧ v.cell? ⟨A, 1, none⟩ = some u1 ∧ v.cell? ⟨B, 0, none⟩ = some v0 ∧ v.cell? ⟨B, 1, none⟩ = some v1 ∧ Below W.heap.size W v) : Rd v a cap xs :=
  hr.below hs.2.2.2.2
theorem two_below (hs : v.cell? ⟨A, 0, none⟩ = some u0 ∧ v.cell? ⟨A, 1, none⟩ = some u1 ∧ v.cell? ⟨B, 0, none⟩ = some v0 ∧ v.cell? ⟨B, 1, none⟩ = some v1 ∧ Below W.heap.size W v) : Below W.heap.size W v := hs.2.2.2.2
end

theorem trimL_trimL {xs : List Nat} (h : Lim xs) : trimL (trimL xs) = trimL xs := by rw [← limbs_val h, trimL_limbs]

attribute [local go_sem ↓] Go.wp_at_zero Go.wp_at_succ

end Go.Proofs.YtgnjjmbphangnaaDoor
