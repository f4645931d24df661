/-
  The walk of IntegerMultiplies.
-/
import Derived.Test.YtllogjmepflnoaaDoorRM
import Derived.Test.YtllogjmepflnoaaDoorDL
namespace Go.Proofs.YtllogjmepflnoaaDoor
open Go.RowKit

theorem mg_mul (na nb : Bool) (xs ys : List Nat) : mg (den na xs * den nb ys) = limbs (val xs * val ys) := by
  have h : den na xs * den nb ys = den (na != nb) (limbs (val xs * val ys)) := by rw [den_mul]; unfold den; rw [val_limbs]
  rw [h, mg_den, val_limbs]
theorem mg_mul_len (na nb : Bool) {xs ys : List Nat} (hx : Lim xs) (hy : Lim ys) : (mg (den na xs * den nb ys)).length ≤ xs.length + ys.length := by
  rw [mg_mul]
  refine length_limbs_le ?_
  rw [Nat.pow_add]
  have h1 := val_lt hx
  have h2 := val_lt hy
  exact Nat.mul_lt_mul'' h1 h2

attribute [local go_sem ↓] Go.wp_at_zero Go.wp_at_succ

set_option maxRecDepth 100000 in
set_option maxHeartbeats 4000000 in
theorem integerMultiplies_walk (na nb : Bool) (a b : Option Addr) (n m cap cap' : Nat) (xs ys : List Nat) (w : World) (rdx : Rd w a cap xs) (rdy : Rd w b cap' ys) (hl : xs.length = n) (hl' : ys.length = m) :
    Calls Tryd.prog 7 #[.agg #[.bool na, .slice a n cap], .agg #[.bool nb, .slice b m cap']] w fun e w' => e = .returned (.bool true) ∧ Below w.heap.size w w' := by
  obtain ⟨W, hW⟩ : ∃ W, W = (w.alloc (.cells #[.bool na, .slice a n cap] 24)).alloc (.cells #[.bool nb, .slice b m cap'] 24) := ⟨_, rfl⟩
  have hb0 : Below w.heap.size w W := by rw [hW]; exact ((Below.refl _ _).alloc (Nat.le_refl _) _).alloc (by simp) _
  have hxa : Box w.heap.size (.bool na) (.slice a n cap) W := by rw [hW]; exact (Box.made _ _ rfl _ _ _).alloc _
  have hxb : Box (w.heap.size + 1) (.bool nb) (.slice b m cap') W := by rw [hW]; exact Box.made _ _ (by simp) _ _ _
  have hra : Rd W a cap xs := rdx.below hb0
  have hrb : Rd W b cap' ys := rdy.below hb0
  have HW := Lib.hid hW
  have HL := Lib.hid hl
  have HL' := Lib.hid hl'
  have HB0 := Lib.hid hb0
  have HXA := Lib.hid hxa
  have HXB := Lib.hid hxb
  have HRA := Lib.hid hra
  have HRB := Lib.hid hrb
  have hlx := rdx.lim
  have hly := rdy.lim
  clear hW hl hl' rdx rdy hb0 hxa hxb hra hrb
  have hmul := mg_mul_len na nb hlx hly
  rw [HL.out, HL'.out] at hmul
  have HMUL := Lib.hid hmul
  clear hlx hly hmul
  by_cases h1 : 40 < n
  · have d1 : decide ((40 : Int) < (n : Int)) = true := decide_eq_true (by omega)
    clear h1
    go_enter Tryd.func7, Tryd.ntmps7
    go_wp2_with fail
    rw [← HW.out]
    obtain ⟨p0, p1, p2, p3, p4⟩ := HXA.out
    obtain ⟨q0, q1, q2, q3, q4⟩ := HXB.out
    refine (long_any na a n cap W true d1).mono ?_
    rintro e w1 ⟨rfl, hb1⟩
    have hB1 := HB0.out.trans (hb1.mono HB0.out.size)
    have hxa1 := HXA.out.below hb1
    have hxb1 := HXB.out.below hb1
    have hra1 := HRA.out.below hb1
    have hrb1 := HRB.out.below hb1
    have HXA1 := Lib.hid hxa1
    have HXB1 := Lib.hid hxb1
    clear p0 p1 p2 p3 p4 q0 q1 q2 q3 q4
    obtain ⟨p0, p1, p2, p3, p4⟩ := hxa1
    obtain ⟨q0, q1, q2, q3, q4⟩ := hxb1
    go_wp2_with fail
    refine (awake_any divLong_any _).mono ?_
    rintro e w9 ⟨rfl, hb9⟩
    have hB9 := hB1.trans (hb9.mono hB1.size)
    go_wp2_with fail
    go_ret
    exact ⟨rfl, hB9⟩
  · have d1 : decide ((40 : Int) < (n : Int)) = false := decide_eq_false (by omega)
    by_cases h2 : 40 < m
    · have d2 : decide ((40 : Int) < (m : Int)) = true := decide_eq_true (by omega)
      clear h1 h2
      go_enter Tryd.func7, Tryd.ntmps7
      go_wp2_with fail
      rw [← HW.out]
      obtain ⟨p0, p1, p2, p3, p4⟩ := HXA.out
      obtain ⟨q0, q1, q2, q3, q4⟩ := HXB.out
      refine (long_any na a n cap W false d1).mono ?_
      rintro e w1 ⟨rfl, hb1⟩
      have hB1 := HB0.out.trans (hb1.mono HB0.out.size)
      have hxa1 := HXA.out.below hb1
      have hxb1 := HXB.out.below hb1
      have hra1 := HRA.out.below hb1
      have hrb1 := HRB.out.below hb1
      have HXA1 := Lib.hid hxa1
      have HXB1 := Lib.hid hxb1
      clear p0 p1 p2 p3 p4 q0 q1 q2 q3 q4
      obtain ⟨p0, p1, p2, p3, p4⟩ := hxa1
      obtain ⟨q0, q1, q2, q3, q4⟩ := hxb1
      go_wp2_with fail
      refine (long_any nb b m cap' _ true d2).mono ?_
      rintro e w2 ⟨rfl, hb2⟩
      have hB2 := hB1.trans (hb2.mono hB1.size)
      have hxa2 := HXA1.out.below hb2
      have hxb2 := HXB1.out.below hb2
      have hra2 := hra1.below hb2
      have hrb2 := hrb1.below hb2
      clear p0 p1 p2 p3 p4 q0 q1 q2 q3 q4 hra1 hrb1
      go_wp2_with fail
      refine (awake_any divLong_any _).mono ?_
      rintro e w9 ⟨rfl, hb9⟩
      have hB9 := hB2.trans (hb9.mono hB2.size)
      go_wp2_with fail
      go_ret
      exact ⟨rfl, hB9⟩
    · have d2 : decide ((40 : Int) < (m : Int)) = false := decide_eq_false (by omega)
      have hn : n ≤ 1000000000 := by omega
      have hm : m ≤ 1000000000 := by omega
      have hz9 : (mg (den na xs * den nb ys)).length ≤ 4000000000 := Nat.le_trans HMUL.out (by omega)
      have HZ9 := Lib.hid hz9
      clear h1 h2 hz9
      obtain ⟨z, hz⟩ : ∃ z, z = den na xs * den nb ys := ⟨_, rfl⟩
      rw [← hz] at HZ9
      have HZ := Lib.hid hz
      clear hz HMUL
      go_enter Tryd.func7, Tryd.ntmps7
      go_wp2_with fail
      rw [← HW.out]
      obtain ⟨p0, p1, p2, p3, p4⟩ := HXA.out
      obtain ⟨q0, q1, q2, q3, q4⟩ := HXB.out
      refine (long_any na a n cap W false d1).mono ?_
      rintro e w1 ⟨rfl, hb1⟩
      have hB1 := HB0.out.trans (hb1.mono HB0.out.size)
      have hxa1 := HXA.out.below hb1
      have hxb1 := HXB.out.below hb1
      have hra1 := HRA.out.below hb1
      have hrb1 := HRB.out.below hb1
      have HXA1 := Lib.hid hxa1
      have HXB1 := Lib.hid hxb1
      clear p0 p1 p2 p3 p4 q0 q1 q2 q3 q4
      obtain ⟨p0, p1, p2, p3, p4⟩ := hxa1
      obtain ⟨q0, q1, q2, q3, q4⟩ := hxb1
      go_wp2_with fail
      refine (long_any nb b m cap' _ false d2).mono ?_
      rintro e w2 ⟨rfl, hb2⟩
      have hB2 := hB1.trans (hb2.mono hB1.size)
      have hxa2 := HXA1.out.below hb2
      have hxb2 := HXB1.out.below hb2
      have hra2 := hra1.below hb2
      have hrb2 := hrb1.below hb2
      clear p0 p1 p2 p3 p4 q0 q1 q2 q3 q4 hra1 hrb1
      go_wp2_with fail
      have HXA2 := Lib.hid hxa2
      have HXB2 := Lib.hid hxb2
      go_region_held3 (fun w' => w'.cell? ⟨w.heap.size, 0, none⟩ = some (.bool na) ∧ w'.cell? ⟨w.heap.size, 1, none⟩ = some (.slice a n cap) ∧ w'.cell? ⟨w.heap.size + 1, 0, none⟩ = some (.bool nb) ∧ w'.cell? ⟨w.heap.size + 1, 1, none⟩ = some (.slice b m cap') ∧ Below w2.heap.size w2 w')
        (first | exact two_draw HXA2.out HXB2.out | exact two_step HXA2.out HXB2.out (by assumption) hN3.below | exact two_step HXA2.out HXB2.out (by assumption) hN4.below | exact two_step HXA2.out HXB2.out (by assumption) k5 | exact two_step HXA2.out HXB2.out (by assumption) k8)
        ((first
          | (go_at_call 33; have hq := two_rd hra2 (by assumption); have hq' := two_rd hrb2 (by assumption); refine (mul_any na nb a b n m cap cap' xs ys _ hq hq' HL.out HL'.out hn hm).mono ?_; clear hq hq'; rintro e y3 ⟨a3, c3, rfl, hN3⟩; rw [← HZ.out] at hN3; rw [← HZ.out])
          | (go_at_call 34; have hq := two_rd hra2 (by assumption); have hq' := two_rd hrb2 (by assumption); refine (rmul_any na nb a b n m cap cap' xs ys _ hq hq' HL.out HL'.out hn hm).mono ?_; clear hq hq'; rintro e y4 ⟨a4, c4, rfl, hN4⟩; rw [← HZ.out] at hN4; rw [← HZ.out])
          | (go_at_call 23; refine (same_true (sg z) a3 a4 _ c3 c4 (mg z) _ (hN3.rd.below hN4.below) hN4.rd rfl HZ9.out).mono ?_; rintro e y5 ⟨rfl, k5⟩)
          | (go_at_call 20; refine (awake_any divLong_any _).mono ?_; rintro e y8 ⟨rfl, k8⟩)))
      have hB9 := hB2.trans ((two_below (by assumption)).mono hB2.size)
      go_wp2_with fail
      go_ret
      exact ⟨rfl, hB9⟩
end Go.Proofs.YtllogjmepflnoaaDoor
