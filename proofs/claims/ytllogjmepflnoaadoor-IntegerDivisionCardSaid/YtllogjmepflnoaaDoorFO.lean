/-
  Four structs held in a region that draws its order.
-/
import Derived.Test.YtllogjmepflnoaaDoorCP
namespace Go.Proofs.YtllogjmepflnoaaDoor
open Go.RowKit

section
variable {A B C D : Nat} {u0 v0 u1 v1 u2 v2 u3 v3 : Value} {W v v' : World}
theorem four_draw (h0 : Box A u0 v0 W) (h1 : Box B u1 v1 W) (h2 : Box C u2 v2 W) (h3 : Box D u3 v3 W) : W.drew.cell? ⟨A, 0, none⟩ = some u0 ∧ W.drew.cell? ⟨A, 1, none⟩ = some v0 ∧ W.drew.cell? ⟨B, 0, none⟩ = some u1 ∧ W.drew.cell? ⟨B, 1, none⟩ = some v1 ∧ W.drew.cell? ⟨C, 0, none⟩ = some u2 ∧ W.drew.cell? ⟨C, 1, none⟩ = some v2 ∧ W.drew.cell? ⟨D, 0, none⟩ = some u3 ∧ W.drew.cell? ⟨D, 1, none⟩ = some v3 ∧ Below W.heap.size W W.drew :=
  ⟨h0.c0, h0.c1, h1.c0, h1.c1, h2.c0, h2.c1, h3.c0, h3.c1, (Below.refl _ _).drew⟩
theorem four_step (h0 : Box A u0 v0 W) (h1 : Box B u1 v1 W) (h2 : Box C u2 v2 W) (h3 : Box D u3 v3 W) (hs : v.cell? ⟨A, 0, none⟩ = some u0 ∧ v.cell? ⟨A, 1, none⟩ = some v0 ∧ v.cell? ⟨B, 0, none⟩ = some u1 ∧ v.cell? ⟨B, 1, none⟩ = some v1 ∧ v.cell? ⟨C, 0, none⟩ = some u2 ∧ v.cell? ⟨C, 1, none⟩ = some v2 ∧ v.cell? ⟨D, 0, none⟩ = some u3 ∧ v.cell? ⟨D, 1, none⟩ = some v3 ∧ Below W.heap.size W v) (hb : Below v.heap.size v v') : v'.cell? ⟨A, 0, none⟩ = some u0 ∧ v'.cell? ⟨A, 1, none⟩ = some v0 ∧ v'.cell? ⟨B, 0, none⟩ = some u1 ∧ v'.cell? ⟨B, 1, none⟩ = some v1 ∧ v'.cell? ⟨C, 0, none⟩ = some u2 ∧ v'.cell? ⟨C, 1, none⟩ = some v2 ∧ v'.cell? ⟨D, 0, none⟩ = some u3 ∧ v'.cell? ⟨D, 1, none⟩ = some v3 ∧ Below W.heap.size W v' :=
  have hb' := hs.2.2.2.2.2.2.2.2.trans (hb.mono hs.2.2.2.2.2.2.2.2.size)
  ⟨(h0.below hb').c0, (h0.below hb').c1, (h1.below hb').c0, (h1.below hb').c1, (h2.below hb').c0, (h2.below hb').c1, (h3.below hb').c0, (h3.below hb').c1, hb'⟩
theorem four_rd {a : Option Addr} {cap : Nat} {xs : List Nat} (hr : Rd W a cap xs) (hs : v.cell? ⟨A, 0, none⟩ = some u0 ∧ v.cell? ⟨A, 1, none⟩ = some v0 ∧ v.cell? ⟨B, 0, none⟩ = some u1 ∧ v.cell? ⟨B, 1, none⟩ = some v1 ∧ v.cell? ⟨C, 0, none⟩ = some u2 ∧ v.cell? ⟨C, 1, none⟩ = some v2 ∧ v.cell? ⟨D, 0, none⟩ = some u3 ∧ v.cell? ⟨D, 1, none⟩ = some v3 ∧ Below W.heap.size W v) : Rd v a cap xs := hr.below hs.2.2.2.2.2.2.2.2
theorem four_below (hs : v.cell? ⟨A, 0, none⟩ = some u0 ∧ v.cell? ⟨A, 1, none⟩ = some v0 ∧ v.cell? ⟨B, 0, none⟩ = some u1 ∧ v.cell? ⟨B, 1, none⟩ = some v1 ∧ v.cell? ⟨C, 0, none⟩ = some u2 ∧ v.cell? ⟨C, 1, none⟩ = some v2 ∧ v.cell? ⟨D, 0, none⟩ = some u3 ∧ v.cell? ⟨D, 1, none⟩ = some v3 ∧ Below W.heap.size W v) : Below W.heap.size W v := hs.2.2.2.2.2.2.2.2
end
end Go.Proofs.YtllogjmepflnoaaDoor
