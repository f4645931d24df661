/-
  The walk of IntegerGcds.
-/
import Derived.Test.YtllogjmepflnoaaDoorGR
import Derived.Test.YtllogjmepflnoaaDoorGD
namespace Go.Proofs.YtllogjmepflnoaaDoor
open Go.RowKit

attribute [local go_sem ↓] Go.wp_at_zero Go.wp_at_succ

set_option maxRecDepth 100000 in
set_option maxHeartbeats 8000000 in
theorem integerGcds_walk (na nb : Bool) (a b : Option Addr) (n m cap cap' : Nat) (xs ys : List Nat) (w : World) (rdx : Rd w a cap xs) (rdy : Rd w b cap' ys) (hl : xs.length = n) (hl' : ys.length = m) :
    Calls Tryd.prog 10 #[.agg #[.bool na, .slice a n cap], .agg #[.bool nb, .slice b m cap']] w fun e w' => e = .returned (.bool true) ∧ Below w.heap.size w w' := by
  obtain ⟨W, hW⟩ : ∃ W, W = (w.alloc (.cells #[.bool na, .slice a n cap] 24)).alloc (.cells #[.bool nb, .slice b m cap'] 24) := ⟨_, rfl⟩
  have hb0 : Below w.heap.size w W := by rw [hW]; exact ((Below.refl _ _).alloc (Nat.le_refl _) _).alloc (by simp) _
  have hxa : Box w.heap.size (.bool na) (.slice a n cap) W := by rw [hW]; exact (Box.made _ _ rfl _ _ _).alloc _
  have hxb : Box (w.heap.size + 1) (.bool nb) (.slice b m cap') W := by rw [hW]; exact Box.made _ _ (by simp) _ _ _
  have hra : Rd W a cap xs := rdx.below hb0
  have hrb : Rd W b cap' ys := rdy.below hb0
  have HW := Lib.hid hW
  have HL := Lib.hid hl
  have HL' := Lib.hid hl'
  have HB0 := Lib.hid hb0
  have HXA := Lib.hid hxa
  have HXB := Lib.hid hxb
  have HRA := Lib.hid hra
  have HRB := Lib.hid hrb
  have hlx := rdx.lim
  have hly := rdy.lim
  clear hW hl hl' rdx rdy hb0 hxa hxb hra hrb
  by_cases h1 : 12 < n
  · have d1 : decide ((12 : Int) < (n : Int)) = true := decide_eq_true (by omega)
    clear h1
    go_enter Tryd.func10, Tryd.ntmps10
    go_wp2_with fail
    rw [← HW.out]
    obtain ⟨p0, p1, p2, p3, p4⟩ := HXA.out
    obtain ⟨q0, q1, q2, q3, q4⟩ := HXB.out
    go_wp2_with fail
    refine (awake_any divLong_any _).mono ?_
    rintro e w9 ⟨rfl, hb9⟩
    have hB9 := HB0.out.trans (hb9.mono HB0.out.size)
    go_wp2_with fail
    go_ret
    exact ⟨rfl, hB9⟩
  · have d1 : decide ((12 : Int) < (n : Int)) = false := decide_eq_false (by omega)
    by_cases h2 : 12 < m
    · have d2 : decide ((12 : Int) < (m : Int)) = true := decide_eq_true (by omega)
      clear h1 h2
      go_enter Tryd.func10, Tryd.ntmps10
      go_wp2_with fail
      rw [← HW.out]
      obtain ⟨p0, p1, p2, p3, p4⟩ := HXA.out
      obtain ⟨q0, q1, q2, q3, q4⟩ := HXB.out
      go_wp2_with fail
      refine (awake_any divLong_any _).mono ?_
      rintro e w9 ⟨rfl, hb9⟩
      have hB9 := HB0.out.trans (hb9.mono HB0.out.size)
      go_wp2_with fail
      go_ret
      exact ⟨rfl, hB9⟩
    · have d2 : decide ((12 : Int) < (m : Int)) = false := decide_eq_false (by omega)
      have hn : n ≤ 12 := by omega
      have hm : m ≤ 12 := by omega
      clear h1 h2
      obtain ⟨G, hG⟩ : ∃ G, G = Nat.gcd (val xs) (val ys) := ⟨_, rfl⟩
      have hgl : (mg (G : Int)).length ≤ 12 := by
        refine length_limbs_le ?_
        simp only [Int.natAbs_natCast]
        have h1 := val_lt hlx
        have h2 := val_lt hly
        rw [HL.out] at h1
        rw [HL'.out] at h2
        have h1' := Nat.lt_of_lt_of_le h1 (Nat.pow_le_pow_right (show 0 < 4294967296 by omega) hn)
        have h2' := Nat.lt_of_lt_of_le h2 (Nat.pow_le_pow_right (show 0 < 4294967296 by omega) hm)
        rcases Nat.eq_zero_or_pos (val xs) with h | h
        · rw [hG, h, Nat.gcd_zero_left]; exact h2'
        · rw [hG]; exact Nat.lt_of_le_of_lt (Nat.gcd_le_left _ h) h1'
      have HG := Lib.hid hG
      clear hG
      go_enter Tryd.func10, Tryd.ntmps10
      go_wp2_with fail
      rw [← HW.out]
      obtain ⟨p0, p1, p2, p3, p4⟩ := HXA.out
      obtain ⟨q0, q1, q2, q3, q4⟩ := HXB.out
      go_wp2_with fail
      clear p0 p1 p2 p3 p4 q0 q1 q2 q3 q4
      go_region_held3 (fun w' => w'.cell? ⟨w.heap.size, 0, none⟩ = some (.bool na) ∧ w'.cell? ⟨w.heap.size, 1, none⟩ = some (.slice a n cap) ∧ w'.cell? ⟨w.heap.size + 1, 0, none⟩ = some (.bool nb) ∧ w'.cell? ⟨w.heap.size + 1, 1, none⟩ = some (.slice b m cap') ∧ Below W.heap.size W w')
        (first | exact two_draw HXA.out HXB.out | exact two_step HXA.out HXB.out (by assumption) hN3.below | exact two_step HXA.out HXB.out (by assumption) hN4.below | exact two_step HXA.out HXB.out (by assumption) k5 | exact two_step HXA.out HXB.out (by assumption) k8)
        ((first
          | (go_at_call 39; have hq := two_rd HRA.out (by assumption); have hq' := two_rd HRB.out (by assumption); refine (gcd_any na nb a b n m cap cap' xs ys _ hq hq' HL.out HL'.out (by omega) (by omega)).mono ?_; clear hq hq'; rw [← HG.out]; rintro e y3 ⟨a3, c3, rfl, hN3⟩)
          | (go_at_call 40; have hq := two_rd HRA.out (by assumption); have hq' := two_rd HRB.out (by assumption); refine (rgcd_any na nb a b n m cap cap' xs ys _ hq hq' HL.out HL'.out (by omega) (by omega)).mono ?_; clear hq hq'; rw [← HG.out]; rintro e y4 ⟨a4, c4, rfl, hN4⟩)
          | (go_at_call 23; refine (same_true (sg (G : Int)) a3 a4 _ c3 c4 (mg (G : Int)) _ (hN3.rd.below hN4.below) hN4.rd rfl (by omega)).mono ?_; rintro e y5 ⟨rfl, k5⟩)
          | (go_at_call 20; refine (awake_any divLong_any _).mono ?_; rintro e y8 ⟨rfl, k8⟩)))
      have hB9 := HB0.out.trans ((two_below (by assumption)).mono HB0.out.size)
      go_wp2_with fail
      go_ret
      exact ⟨rfl, hB9⟩
end Go.Proofs.YtllogjmepflnoaaDoor
