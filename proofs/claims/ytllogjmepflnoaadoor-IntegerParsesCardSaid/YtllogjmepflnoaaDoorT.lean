/-
  The walk of IntegerSmall.
-/
import Derived.Test.YtllogjmepflnoaaDoorQ
import Derived.Test.YtllogjmepflnoaaDoorS
import Derived.Deep.RegionHeld3
import Derived.Deep.DrawnRows
namespace Go.Proofs.YtllogjmepflnoaaDoor
open Go.RowKit

theorem in64_of {z : Int} (h0 : -9223372036854775808 ≤ z) (h1 : z ≤ 9223372036854775807) : in64 z = true := by unfold in64; simp; omega
theorem to64_of {z : Int} (h0 : -9223372036854775808 ≤ z) (h1 : z ≤ 9223372036854775807) : to64 z = z := by unfold to64; rw [in64_of h0 h1]; simp

/-- What a region that draws its order holds: a struct's two cells, and all that was there. -/
theorem held_draw {B : Nat} {v0 v1 : Value} {W : World} (h : Box B v0 v1 W) : W.drew.cell? ⟨B, 0, none⟩ = some v0 ∧ W.drew.cell? ⟨B, 1, none⟩ = some v1 ∧ Below W.heap.size W W.drew :=
  ⟨h.c0, h.c1, (Below.refl _ _).drew⟩
theorem held_step {B : Nat} {v0 v1 : Value} {W v v' : World} (hB : Box B v0 v1 W) (h : v.cell? ⟨B, 0, none⟩ = some v0 ∧ v.cell? ⟨B, 1, none⟩ = some v1 ∧ Below W.heap.size W v) (hb : Below v.heap.size v v') :
    v'.cell? ⟨B, 0, none⟩ = some v0 ∧ v'.cell? ⟨B, 1, none⟩ = some v1 ∧ Below W.heap.size W v' :=
  have hb' := h.2.2.trans (hb.mono h.2.2.size)
  ⟨(hB.below hb').c0, (hB.below hb').c1, hb'⟩
theorem held_rd {B : Nat} {v0 v1 : Value} {W v : World} {a : Option Addr} {cap : Nat} {xs : List Nat} (hr : Rd W a cap xs) (h : v.cell? ⟨B, 0, none⟩ = some v0 ∧ v.cell? ⟨B, 1, none⟩ = some v1 ∧ Below W.heap.size W v) : Rd v a cap xs :=
  hr.below h.2.2

theorem held_below {B : Nat} {v0 v1 : Value} {W v : World} (h : v.cell? ⟨B, 0, none⟩ = some v0 ∧ v.cell? ⟨B, 1, none⟩ = some v1 ∧ Below W.heap.size W v) : Below W.heap.size W v := h.2.2

attribute [local go_sem ↓] Go.wp_at_zero Go.wp_at_succ
set_option maxRecDepth 100000 in
set_option maxHeartbeats 1000000 in
theorem integerSmall_walk (hlong : DivLong) (z : Int) (w : World) (h0 : -9223372036854775808 ≤ z) (h1 : z ≤ 9223372036854775807) :
    Calls Tryd.prog 4 #[.int .i64 z] w fun e w' => e = .returned (.bool true) ∧ Below w.heap.size w w' := by
  have hlen : (mg z).length ≤ 1000000000 := by
    have : (mg z).length ≤ 2 := by unfold mg; exact length_limbs_le (by omega)
    omega
  have HLO := Lib.hid hlong
  clear hlong
  go_enter Tryd.func4, Tryd.ntmps4
  go_wp2_with fail
  refine (small_any z _ h0 h1).mono ?_
  rintro e w1 ⟨a1, c1, rfl, hN1⟩
  obtain ⟨W, hW⟩ : ∃ W, W = w1.alloc (.cells #[.bool (sg z), .slice a1 (mg z).length c1] 24) := ⟨_, rfl⟩
  have hbW : Below w1.heap.size w1 W := by rw [hW]; exact (Below.refl _ _).alloc (Nat.le_refl _) _
  have hx : Box w1.heap.size (.bool (sg z)) (.slice a1 (mg z).length c1) W := by rw [hW]; exact Box.made _ _ rfl _ _ _
  have hr : Rd W a1 c1 (mg z) := (hN1.after hbW).rd
  have hB : Below w.heap.size w W := (hN1.after hbW).below
  clear hN1 hbW
  go_wp2_with fail
  rw [← hW]
  have HW := Lib.hid hW
  clear hW
  refine (int64_any (sg z) a1 _ c1 (mg z) _ hr rfl hlen).mono ?_
  rw [den_mg, to64_of h0 h1, in64_of h0 h1]
  rintro e w2 ⟨rfl, hb2⟩
  have hx2 := hx.below hb2
  have hr2 := hr.below hb2
  have hB2 := hB.trans (hb2.mono hB.size)
  clear hx hr hb2 HW hB
  have hzz : (z == z) = true := by simp
  go_wp2_with fail
  go_region_held3 (fun w' => w'.cell? ⟨w1.heap.size, 0, none⟩ = some (.bool (sg z)) ∧ w'.cell? ⟨w1.heap.size, 1, none⟩ = some (.slice a1 (mg z).length c1) ∧ Below w2.heap.size w2 w')
    (first | exact held_draw hx2 | exact held_step hx2 (by assumption) hN3.below | exact held_step hx2 (by assumption) hb4 | exact held_step hx2 (by assumption) hb5)
    ((first
      | (go_at_call 27; refine (rsmall_any z _ h0 h1).mono ?_; rintro e w3 ⟨a3, c3, rfl, hN3⟩)
      | (go_at_call 23; refine (same_true (sg z) a1 a3 _ c1 c3 (mg z) _ (held_rd hr2 (by assumption)) hN3.rd rfl (by omega)).mono ?_; rintro e w4 ⟨rfl, hb4⟩)
      | (go_at_call 20; refine (awake_any HLO.out _).mono ?_; rintro e w5 ⟨rfl, hb5⟩)))
  have hB5 : Below w.heap.size w w5 := hB2.trans ((held_below (by assumption)).mono hB2.size)
  go_wp2_with fail
  go_ret
  exact ⟨rfl, hB5⟩
end Go.Proofs.YtllogjmepflnoaaDoor
