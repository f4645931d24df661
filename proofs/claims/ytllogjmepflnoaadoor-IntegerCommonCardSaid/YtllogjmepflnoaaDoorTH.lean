/-
  Three structs held in a region that draws its order; the reference's Divides.
-/
import Derived.Test.YtllogjmepflnoaaDoorGR
import Derived.Test.YtllogjmepflnoaaDoorGD
namespace Go.Proofs.YtllogjmepflnoaaDoor
open Go.RowKit

section
variable {A B C : Nat} {u0 v0 u1 v1 u2 v2 : Value} {W v v' : World}
theorem three_of (h0 : Box A u0 v0 W) (h1 : Box B u1 v1 W) (h2 : Box C u2 v2 W) (hb : Below W.heap.size W v) : v.cell? ⟨A, 0, none⟩ = some u0 ∧ v.cell? ⟨A, 1, none⟩ = some v0 ∧ v.cell? ⟨B, 0, none⟩ = some u1 ∧ v.cell? ⟨B, 1, none⟩ = some v1 ∧ v.cell? ⟨C, 0, none⟩ = some u2 ∧ v.cell? ⟨C, 1, none⟩ = some v2 ∧ Below W.heap.size W v := ⟨(h0.below hb).c0, (h0.below hb).c1, (h1.below hb).c0, (h1.below hb).c1, (h2.below hb).c0, (h2.below hb).c1, hb⟩
theorem three_draw (h0 : Box A u0 v0 W) (h1 : Box B u1 v1 W) (h2 : Box C u2 v2 W) : W.drew.cell? ⟨A, 0, none⟩ = some u0 ∧ W.drew.cell? ⟨A, 1, none⟩ = some v0 ∧ W.drew.cell? ⟨B, 0, none⟩ = some u1 ∧ W.drew.cell? ⟨B, 1, none⟩ = some v1 ∧ W.drew.cell? ⟨C, 0, none⟩ = some u2 ∧ W.drew.cell? ⟨C, 1, none⟩ = some v2 ∧ Below W.heap.size W W.drew := three_of h0 h1 h2 (Below.refl _ _).drew
theorem three_alloc (h0 : Box A u0 v0 W) (h1 : Box B u1 v1 W) (h2 : Box C u2 v2 W) (o : Obj) (hs : v.cell? ⟨A, 0, none⟩ = some u0 ∧ v.cell? ⟨A, 1, none⟩ = some v0 ∧ v.cell? ⟨B, 0, none⟩ = some u1 ∧ v.cell? ⟨B, 1, none⟩ = some v1 ∧ v.cell? ⟨C, 0, none⟩ = some u2 ∧ v.cell? ⟨C, 1, none⟩ = some v2 ∧ Below W.heap.size W v) : (v.alloc o).cell? ⟨A, 0, none⟩ = some u0 ∧ (v.alloc o).cell? ⟨A, 1, none⟩ = some v0 ∧ (v.alloc o).cell? ⟨B, 0, none⟩ = some u1 ∧ (v.alloc o).cell? ⟨B, 1, none⟩ = some v1 ∧ (v.alloc o).cell? ⟨C, 0, none⟩ = some u2 ∧ (v.alloc o).cell? ⟨C, 1, none⟩ = some v2 ∧ Below W.heap.size W (v.alloc o) := three_of h0 h1 h2 (hs.2.2.2.2.2.2.alloc hs.2.2.2.2.2.2.size o)
theorem three_step (h0 : Box A u0 v0 W) (h1 : Box B u1 v1 W) (h2 : Box C u2 v2 W) (hs : v.cell? ⟨A, 0, none⟩ = some u0 ∧ v.cell? ⟨A, 1, none⟩ = some v0 ∧ v.cell? ⟨B, 0, none⟩ = some u1 ∧ v.cell? ⟨B, 1, none⟩ = some v1 ∧ v.cell? ⟨C, 0, none⟩ = some u2 ∧ v.cell? ⟨C, 1, none⟩ = some v2 ∧ Below W.heap.size W v) (hb : Below v.heap.size v v') : v'.cell? ⟨A, 0, none⟩ = some u0 ∧ v'.cell? ⟨A, 1, none⟩ = some v0 ∧ v'.cell? ⟨B, 0, none⟩ = some u1 ∧ v'.cell? ⟨B, 1, none⟩ = some v1 ∧ v'.cell? ⟨C, 0, none⟩ = some u2 ∧ v'.cell? ⟨C, 1, none⟩ = some v2 ∧ Below W.heap.size W v' := three_of h0 h1 h2 (below_step hs.2.2.2.2.2.2 hb)
theorem three_rd {a : Option Addr} {cap : Nat} {xs : List Nat} (hr : Rd W a cap xs) (hs : v.cell? ⟨A, 0, none⟩ = some u0 ∧ v.cell? ⟨A, 1, none⟩ = some v0 ∧ v.cell? ⟨B, 0, none⟩ = some u1 ∧ v.cell? ⟨B, 1, none⟩ = some v1 ∧ v.cell? ⟨C, 0, none⟩ = some u2 ∧ v.cell? ⟨C, 1, none⟩ = some v2 ∧ Below W.heap.size W v) : Rd v a cap xs := hr.below hs.2.2.2.2.2.2
theorem three_below (hs : v.cell? ⟨A, 0, none⟩ = some u0 ∧ v.cell? ⟨A, 1, none⟩ = some v0 ∧ v.cell? ⟨B, 0, none⟩ = some u1 ∧ v.cell? ⟨B, 1, none⟩ = some v1 ∧ v.cell? ⟨C, 0, none⟩ = some u2 ∧ v.cell? ⟨C, 1, none⟩ = some v2 ∧ Below W.heap.size W v) : Below W.heap.size W v := hs.2.2.2.2.2.2
end

attribute [local go_sem ↓] Go.wp_at_zero Go.wp_at_succ

set_option maxRecDepth 100000 in
set_option maxHeartbeats 4000000 in
theorem rdivides_true (na nb : Bool) (a b : Option Addr) (n m cap cap' : Nat) (xs ys : List Nat) (w : World) (rdx : Rd w a cap xs) (rdy : Rd w b cap' ys) (hl : xs.length = n) (hl' : ys.length = m) (hn : n ≤ 1000000) (hm : m ≤ 1000000) (hd : den na xs ∣ den nb ys) :
    Calls Tryd.prog 41 #[.agg #[.bool na, .slice a n cap], .agg #[.bool nb, .slice b m cap']] w fun e w' => e = .returned (.bool true) ∧ Below w.heap.size w w' := by
  obtain ⟨W, hW⟩ : ∃ W, W = (w.alloc (.cells #[.bool na, .slice a n cap] 24)).alloc (.cells #[.bool nb, .slice b m cap'] 24) := ⟨_, rfl⟩
  have hb0 : Below w.heap.size w W := by rw [hW]; exact ((Below.refl _ _).alloc (Nat.le_refl _) _).alloc (by simp) _
  have hxa : Box w.heap.size (.bool na) (.slice a n cap) W := by rw [hW]; exact (Box.made _ _ rfl _ _ _).alloc _
  have hxb : Box (w.heap.size + 1) (.bool nb) (.slice b m cap') W := by rw [hW]; exact Box.made _ _ (by simp) _ _ _
  have hra : Rd W a cap xs := rdx.below hb0
  have hrb : Rd W b cap' ys := rdy.below hb0
  have HW := Lib.hid hW
  have HL := Lib.hid hl
  have HL' := Lib.hid hl'
  have HB0 := Lib.hid hb0
  have HXA := Lib.hid hxa
  have HXB := Lib.hid hxb
  have HRA := Lib.hid hra
  have HRB := Lib.hid hrb
  have HD := Lib.hid hd
  clear hW hl hl' rdx rdy hb0 hxa hxb hra hrb hd
  obtain ⟨p0, p1, p2, p3, p4⟩ := HXA.out
  obtain ⟨q0, q1, q2, q3, q4⟩ := HXB.out
  by_cases h0 : den na xs = 0
  · have h1 : den nb ys = 0 := by have := HD.out; rw [h0] at this; exact Int.zero_dvd.1 this
    have e0 : (sign3 (den na xs) == 0) = true := by rw [h0]; rfl
    have e1 : (sign3 (den nb ys) == 0) = true := by rw [h1]; rfl
    clear h0 h1
    go_enter Tryd.func41, Tryd.ntmps41
    go_wp2_with fail
    rw [← HW.out]
    go_wp2_with fail
    refine (rsign_any na a n cap xs _ HRA.out HL.out (by omega)).mono ?_
    rintro e w1 ⟨rfl, hb1⟩
    have hB1 := HB0.out.trans (hb1.mono HB0.out.size)
    have hxb1 := HXB.out.below hb1
    clear p0 p1 p2 p3 p4 q0 q1 q2 q3 q4
    obtain ⟨q0, q1, q2, q3, q4⟩ := hxb1
    go_wp2_with fail
    refine (rsign_any nb b m cap' ys _ (HRB.out.below hb1) HL'.out (by omega)).mono ?_
    rintro e w2 ⟨rfl, hb2⟩
    have hB2 := hB1.trans (hb2.mono hB1.size)
    go_wp2_with fail
    go_ret
    exact ⟨rfl, hB2⟩
  · have e0 : (sign3 (den na xs) == 0) = false := by unfold sign3; split <;> (try split) <;> simp_all
    have hr : den nb ys % den na xs = 0 := Int.emod_eq_zero_of_dvd HD.out
    have HR := Lib.hid hr
    have H0 := Lib.hid h0
    have hz : (sign3 (den (sg 0) (mg 0)) == 0) = true := by decide
    clear h0 hr
    go_enter Tryd.func41, Tryd.ntmps41
    go_wp2_with fail
    rw [← HW.out]
    go_wp2_with fail
    refine (rsign_any na a n cap xs _ HRA.out HL.out (by omega)).mono ?_
    rintro e w1 ⟨rfl, hb1⟩
    have hB1 := HB0.out.trans (hb1.mono HB0.out.size)
    have hxa1 := HXA.out.below hb1
    have hxb1 := HXB.out.below hb1
    clear p0 p1 p2 p3 p4 q0 q1 q2 q3 q4
    obtain ⟨p0, p1, p2, p3, p4⟩ := hxa1
    obtain ⟨q0, q1, q2, q3, q4⟩ := hxb1
    go_wp2_with fail
    refine (rrem_any nb na b a m n cap' cap ys xs _ (HRB.out.below hb1) (HRA.out.below hb1) HL'.out HL.out hm hn H0.out).mono ?_
    rw [HR.out]
    rintro e w2 ⟨a2, c2, rfl, hN2⟩
    have hB2 := hB1.trans (hN2.below.mono hB1.size)
    go_wp2_with fail
    refine (rsign_any (sg 0) a2 _ c2 (mg 0) _ hN2.rd rfl (by decide)).mono ?_
    rintro e w3 ⟨rfl, hb3⟩
    have hB3 := hB2.trans (hb3.mono hB2.size)
    go_wp2_with fail
    go_ret
    exact ⟨rfl, hB3⟩
end Go.Proofs.YtllogjmepflnoaaDoor
