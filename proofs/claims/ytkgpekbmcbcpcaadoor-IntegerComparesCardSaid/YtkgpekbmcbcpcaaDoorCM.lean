/-
  The walk of IntegerCompares.
-/
import Derived.Test.YtkgpekbmcbcpcaaDoorCC
import Derived.Test.YtkgpekbmcbcpcaaDoorDL
namespace Go.Proofs.YtkgpekbmcbcpcaaDoor
open Go.RowKit

theorem cmpZ_turn (x y : Int) : cmpZ y x = -cmpZ x y := by
  unfold cmpZ; split <;> (try split) <;> (try split) <;> (try split) <;> omega
theorem cmpZ_same (x : Int) : cmpZ x x = 0 := by unfold cmpZ; simp
theorem cmpZ_range (x y : Int) : -1 ≤ cmpZ x y ∧ cmpZ x y ≤ 1 := by
  unfold cmpZ; split
  · omega
  · split <;> omega

attribute [local go_sem ↓] Go.wp_at_zero Go.wp_at_succ

set_option maxRecDepth 100000 in
set_option maxHeartbeats 4000000 in
theorem integerCompares_walk (na nb : Bool) (a b : Option Addr) (n m cap cap' : Nat) (xs ys : List Nat) (w : World) (rdx : Rd w a cap xs) (rdy : Rd w b cap' ys) (hl : xs.length = n) (hl' : ys.length = m) :
    Calls Tryd.prog 6 #[.agg #[.bool na, .slice a n cap], .agg #[.bool nb, .slice b m cap']] w fun e w' => e = .returned (.bool true) ∧ Below w.heap.size w w' := by
  obtain ⟨W, hW⟩ : ∃ W, W = (w.alloc (.cells #[.bool na, .slice a n cap] 24)).alloc (.cells #[.bool nb, .slice b m cap'] 24) := ⟨_, rfl⟩
  have hb0 : Below w.heap.size w W := by rw [hW]; exact ((Below.refl _ _).alloc (Nat.le_refl _) _).alloc (by simp) _
  have hxa : Box w.heap.size (.bool na) (.slice a n cap) W := by rw [hW]; exact (Box.made _ _ rfl _ _ _).alloc _
  have hxb : Box (w.heap.size + 1) (.bool nb) (.slice b m cap') W := by rw [hW]; exact Box.made _ _ (by simp) _ _ _
  have hra : Rd W a cap xs := rdx.below hb0
  have hrb : Rd W b cap' ys := rdy.below hb0
  have HW := Lib.hid hW
  have HL := Lib.hid hl
  have HL' := Lib.hid hl'
  have HB0 := Lib.hid hb0
  have HXA := Lib.hid hxa
  have HXB := Lib.hid hxb
  have HRA := Lib.hid hra
  have HRB := Lib.hid hrb
  have hlx := rdx.lim
  have hly := rdy.lim
  clear hW hl hl' rdx rdy hb0 hxa hxb hra hrb
  clear hlx hly
  by_cases h1 : 40 < n
  · have d1 : decide ((40 : Int) < (n : Int)) = true := decide_eq_true (by omega)
    clear h1
    go_enter Tryd.func6, Tryd.ntmps6
    go_wp2_with fail
    rw [← HW.out]
    obtain ⟨p0, p1, p2, p3, p4⟩ := HXA.out
    obtain ⟨q0, q1, q2, q3, q4⟩ := HXB.out
    refine (long_any na a n cap W true d1).mono ?_
    rintro e w1 ⟨rfl, hb1⟩
    have hB1 := HB0.out.trans (hb1.mono HB0.out.size)
    have hxa1 := HXA.out.below hb1
    have hxb1 := HXB.out.below hb1
    have hra1 := HRA.out.below hb1
    have hrb1 := HRB.out.below hb1
    have HXA1 := Lib.hid hxa1
    have HXB1 := Lib.hid hxb1
    clear p0 p1 p2 p3 p4 q0 q1 q2 q3 q4
    obtain ⟨p0, p1, p2, p3, p4⟩ := hxa1
    obtain ⟨q0, q1, q2, q3, q4⟩ := hxb1
    go_wp2_with fail
    refine (awake_any divLong_any _).mono ?_
    rintro e w9 ⟨rfl, hb9⟩
    have hB9 := hB1.trans (hb9.mono hB1.size)
    go_wp2_with fail
    go_ret
    exact ⟨rfl, hB9⟩
  · have d1 : decide ((40 : Int) < (n : Int)) = false := decide_eq_false (by omega)
    by_cases h2 : 40 < m
    · have d2 : decide ((40 : Int) < (m : Int)) = true := decide_eq_true (by omega)
      clear h1 h2
      go_enter Tryd.func6, Tryd.ntmps6
      go_wp2_with fail
      rw [← HW.out]
      obtain ⟨p0, p1, p2, p3, p4⟩ := HXA.out
      obtain ⟨q0, q1, q2, q3, q4⟩ := HXB.out
      refine (long_any na a n cap W false d1).mono ?_
      rintro e w1 ⟨rfl, hb1⟩
      have hB1 := HB0.out.trans (hb1.mono HB0.out.size)
      have hxa1 := HXA.out.below hb1
      have hxb1 := HXB.out.below hb1
      have hra1 := HRA.out.below hb1
      have hrb1 := HRB.out.below hb1
      have HXA1 := Lib.hid hxa1
      have HXB1 := Lib.hid hxb1
      clear p0 p1 p2 p3 p4 q0 q1 q2 q3 q4
      obtain ⟨p0, p1, p2, p3, p4⟩ := hxa1
      obtain ⟨q0, q1, q2, q3, q4⟩ := hxb1
      go_wp2_with fail
      refine (long_any nb b m cap' _ true d2).mono ?_
      rintro e w2 ⟨rfl, hb2⟩
      have hB2 := hB1.trans (hb2.mono hB1.size)
      have hxa2 := HXA1.out.below hb2
      have hxb2 := HXB1.out.below hb2
      have hra2 := hra1.below hb2
      have hrb2 := hrb1.below hb2
      clear p0 p1 p2 p3 p4 q0 q1 q2 q3 q4 hra1 hrb1
      go_wp2_with fail
      refine (awake_any divLong_any _).mono ?_
      rintro e w9 ⟨rfl, hb9⟩
      have hB9 := hB2.trans (hb9.mono hB2.size)
      go_wp2_with fail
      go_ret
      exact ⟨rfl, hB9⟩
    · have d2 : decide ((40 : Int) < (m : Int)) = false := decide_eq_false (by omega)
      have hn : n ≤ 1000000000 := by omega
      have hm : m ≤ 1000000000 := by omega
      have hnx : xs.length ≤ 1000000000 := by rw [HL.out]; exact hn
      have HNX := Lib.hid hnx
      have e1 : (sign3 (den na xs) == sign3 (den na xs)) = true := by simp
      have e2 : (cmpZ (den na xs) (den nb ys) == cmpZ (den na xs) (den nb ys)) = true := by simp
      have r1 := (cmpZ_range (den na xs) (den nb ys)).1
      have r2 := (cmpZ_range (den na xs) (den nb ys)).2
      have e3 : (cmpZ (den nb ys) (den na xs) == IntKind.i64.wrap (-cmpZ (den na xs) (den nb ys))) = true := by
        have h : IntKind.i64.wrap (-cmpZ (den na xs) (den nb ys)) = cmpZ (den nb ys) (den na xs) := by rw [IntKind.wrap_i64, cmpZ_turn (den na xs)]; omega
        rw [h]; simp
      have HZ := Lib.hid (cmpZ_same (den na xs))
      clear h1 h2 hnx
      go_enter Tryd.func6, Tryd.ntmps6
      go_wp2_with fail
      rw [← HW.out]
      obtain ⟨p0, p1, p2, p3, p4⟩ := HXA.out
      obtain ⟨q0, q1, q2, q3, q4⟩ := HXB.out
      refine (long_any na a n cap W false d1).mono ?_
      rintro e w1 ⟨rfl, hb1⟩
      have hB1 := HB0.out.trans (hb1.mono HB0.out.size)
      have hxa1 := HXA.out.below hb1
      have hxb1 := HXB.out.below hb1
      have hra1 := HRA.out.below hb1
      have hrb1 := HRB.out.below hb1
      have HXA1 := Lib.hid hxa1
      have HXB1 := Lib.hid hxb1
      clear p0 p1 p2 p3 p4 q0 q1 q2 q3 q4
      obtain ⟨p0, p1, p2, p3, p4⟩ := hxa1
      obtain ⟨q0, q1, q2, q3, q4⟩ := hxb1
      go_wp2_with fail
      refine (long_any nb b m cap' _ false d2).mono ?_
      rintro e w2 ⟨rfl, hb2⟩
      have hB2 := hB1.trans (hb2.mono hB1.size)
      have hxa2 := HXA1.out.below hb2
      have hxb2 := HXB1.out.below hb2
      have hra2 := hra1.below hb2
      have hrb2 := hrb1.below hb2
      clear p0 p1 p2 p3 p4 q0 q1 q2 q3 q4 hra1 hrb1
      go_wp2_with fail
      have HXA2 := Lib.hid hxa2
      have HXB2 := Lib.hid hxb2
      go_region_held3 (fun w' => w'.cell? ⟨w.heap.size, 0, none⟩ = some (.bool na) ∧ w'.cell? ⟨w.heap.size, 1, none⟩ = some (.slice a n cap) ∧ w'.cell? ⟨w.heap.size + 1, 0, none⟩ = some (.bool nb) ∧ w'.cell? ⟨w.heap.size + 1, 1, none⟩ = some (.slice b m cap') ∧ Below w2.heap.size w2 w')
        (first | exact two_draw HXA2.out HXB2.out | exact two_step HXA2.out HXB2.out (by assumption) k1 | exact two_step HXA2.out HXB2.out (by assumption) k2 | exact two_step HXA2.out HXB2.out (by assumption) k3 | exact two_step HXA2.out HXB2.out (by assumption) k4 | exact two_step HXA2.out HXB2.out (by assumption) k5 | exact two_step HXA2.out HXB2.out (by assumption) hN6.below | exact two_step HXA2.out HXB2.out (by assumption) k7 | exact two_step HXA2.out HXB2.out (by assumption) k8)
        ((first
          | (go_at_call 29; refine (sign_any na a n cap xs _ (two_rd hra2 (by assumption)) HL.out hn).mono ?_; rintro e y1 ⟨rfl, k1⟩)
          | (go_at_call 30; refine (rsign_any na a n cap xs _ (two_rd hra2 (by assumption)) HL.out hn).mono ?_; rintro e y2 ⟨rfl, k2⟩)
          | (go_at_call 31; with_reducible refine (cmp_any na nb a b n m cap cap' xs ys _ (two_rd hra2 (by assumption)) (two_rd hrb2 (by assumption)) HL.out HL'.out hn hm).mono ?_; rintro e y3 ⟨rfl, k3⟩)
          | (go_at_call 31; with_reducible refine (cmp_any nb na b a m n cap' cap ys xs _ (two_rd hrb2 (by assumption)) (two_rd hra2 (by assumption)) HL'.out HL.out hm hn).mono ?_; rintro e y4 ⟨rfl, k4⟩)
          | (go_at_call 32; refine (rcmpz_any na nb a b n m cap cap' xs ys _ (two_rd hra2 (by assumption)) (two_rd hrb2 (by assumption)) HL.out HL'.out hn hm).mono ?_; rintro e y5 ⟨rfl, k5⟩)
          | (go_at_call 21; refine (copied_any na a n cap xs _ (two_rd hra2 (by assumption)) HL.out hn).mono ?_; rintro e y6 ⟨a6, c6, rfl, hN6⟩)
          | (go_at_call 31; refine (cmp_any na na a a6 n xs.length cap c6 xs xs _ (two_rd hra2 (by assumption)) hN6.rd HL.out rfl hn HNX.out).mono ?_; rintro e y7 ⟨rfl, k7⟩; rw [HZ.out])
          | (go_at_call 20; refine (awake_any divLong_any _).mono ?_; rintro e y8 ⟨rfl, k8⟩)))
      have hB9 := hB2.trans ((two_below (by assumption)).mono hB2.size)
      go_wp2_with fail
      go_ret
      exact ⟨rfl, hB9⟩
end Go.Proofs.YtkgpekbmcbcpcaaDoor
