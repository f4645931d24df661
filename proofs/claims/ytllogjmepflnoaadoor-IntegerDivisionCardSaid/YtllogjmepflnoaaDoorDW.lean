/-
  The walk of IntegerDivision.
-/
import Derived.Test.YtllogjmepflnoaaDoorRE
import Derived.Test.YtllogjmepflnoaaDoorMW
import Derived.Test.YtllogjmepflnoaaDoorFO
namespace Go.Proofs.YtllogjmepflnoaaDoor
open Go.RowKit

theorem mg_len {z : Int} {k : Nat} (h : z.natAbs < 4294967296 ^ k) : (mg z).length ≤ k := length_limbs_le h
theorem natAbs_lt {neg : Bool} {xs : List Nat} (h : Lim xs) : (den neg xs).natAbs < 4294967296 ^ xs.length := by rw [natAbs_den]; exact val_lt h

attribute [local go_sem ↓] Go.wp_at_zero Go.wp_at_succ

set_option maxRecDepth 100000 in
set_option maxHeartbeats 4000000 in
theorem integerDivision_walk (na nb : Bool) (a b : Option Addr) (n m cap cap' : Nat) (xs ys : List Nat) (w : World) (rdx : Rd w a cap xs) (rdy : Rd w b cap' ys) (hl : xs.length = n) (hl' : ys.length = m) :
    Calls Tryd.prog 9 #[.agg #[.bool na, .slice a n cap], .agg #[.bool nb, .slice b m cap']] w fun e w' => e = .returned (.bool true) ∧ Below w.heap.size w w' := by
  obtain ⟨W, hW⟩ : ∃ W, W = (w.alloc (.cells #[.bool na, .slice a n cap] 24)).alloc (.cells #[.bool nb, .slice b m cap'] 24) := ⟨_, rfl⟩
  have hb0 : Below w.heap.size w W := by rw [hW]; exact ((Below.refl _ _).alloc (Nat.le_refl _) _).alloc (by simp) _
  have hxa : Box w.heap.size (.bool na) (.slice a n cap) W := by rw [hW]; exact (Box.made _ _ rfl _ _ _).alloc _
  have hxb : Box (w.heap.size + 1) (.bool nb) (.slice b m cap') W := by rw [hW]; exact Box.made _ _ (by simp) _ _ _
  have hra : Rd W a cap xs := rdx.below hb0
  have hrb : Rd W b cap' ys := rdy.below hb0
  have HW := Lib.hid hW
  have HL := Lib.hid hl
  have HL' := Lib.hid hl'
  have HB0 := Lib.hid hb0
  have HXA := Lib.hid hxa
  have HXB := Lib.hid hxb
  have HRA := Lib.hid hra
  have HRB := Lib.hid hrb
  have hlx := rdx.lim
  have hly := rdy.lim
  clear hW hl hl' rdx rdy hb0 hxa hxb hra hrb
  skip
  by_cases h1 : 40 < n
  · have d1 : decide ((40 : Int) < (n : Int)) = true := decide_eq_true (by omega)
    clear h1
    go_enter Tryd.func9, Tryd.ntmps9
    go_wp2_with fail
    rw [← HW.out]
    obtain ⟨p0, p1, p2, p3, p4⟩ := HXA.out
    obtain ⟨q0, q1, q2, q3, q4⟩ := HXB.out
    refine (long_any na a n cap W true d1).mono ?_
    rintro e w1 ⟨rfl, hb1⟩
    have hB1 := HB0.out.trans (hb1.mono HB0.out.size)
    have hxa1 := HXA.out.below hb1
    have hxb1 := HXB.out.below hb1
    have hra1 := HRA.out.below hb1
    have hrb1 := HRB.out.below hb1
    have HXA1 := Lib.hid hxa1
    have HXB1 := Lib.hid hxb1
    clear p0 p1 p2 p3 p4 q0 q1 q2 q3 q4
    obtain ⟨p0, p1, p2, p3, p4⟩ := hxa1
    obtain ⟨q0, q1, q2, q3, q4⟩ := hxb1
    go_wp2_with fail
    refine (awake_any divLong_any _).mono ?_
    rintro e w9 ⟨rfl, hb9⟩
    have hB9 := hB1.trans (hb9.mono hB1.size)
    go_wp2_with fail
    go_ret
    exact ⟨rfl, hB9⟩
  · have d1 : decide ((40 : Int) < (n : Int)) = false := decide_eq_false (by omega)
    by_cases h2 : 40 < m
    · have d2 : decide ((40 : Int) < (m : Int)) = true := decide_eq_true (by omega)
      clear h1 h2
      go_enter Tryd.func9, Tryd.ntmps9
      go_wp2_with fail
      rw [← HW.out]
      obtain ⟨p0, p1, p2, p3, p4⟩ := HXA.out
      obtain ⟨q0, q1, q2, q3, q4⟩ := HXB.out
      refine (long_any na a n cap W false d1).mono ?_
      rintro e w1 ⟨rfl, hb1⟩
      have hB1 := HB0.out.trans (hb1.mono HB0.out.size)
      have hxa1 := HXA.out.below hb1
      have hxb1 := HXB.out.below hb1
      have hra1 := HRA.out.below hb1
      have hrb1 := HRB.out.below hb1
      have HXA1 := Lib.hid hxa1
      have HXB1 := Lib.hid hxb1
      clear p0 p1 p2 p3 p4 q0 q1 q2 q3 q4
      obtain ⟨p0, p1, p2, p3, p4⟩ := hxa1
      obtain ⟨q0, q1, q2, q3, q4⟩ := hxb1
      go_wp2_with fail
      refine (long_any nb b m cap' _ true d2).mono ?_
      rintro e w2 ⟨rfl, hb2⟩
      have hB2 := hB1.trans (hb2.mono hB1.size)
      have hxa2 := HXA1.out.below hb2
      have hxb2 := HXB1.out.below hb2
      have hra2 := hra1.below hb2
      have hrb2 := hrb1.below hb2
      clear p0 p1 p2 p3 p4 q0 q1 q2 q3 q4 hra1 hrb1
      go_wp2_with fail
      refine (awake_any divLong_any _).mono ?_
      rintro e w9 ⟨rfl, hb9⟩
      have hB9 := hB2.trans (hb9.mono hB2.size)
      go_wp2_with fail
      go_ret
      exact ⟨rfl, hB9⟩
    · have d2 : decide ((40 : Int) < (m : Int)) = false := decide_eq_false (by omega)
      have hn : n ≤ 1000000000 := by omega
      have hm : m ≤ 1000000000 := by omega
      have hn4 : n ≤ 40 := by omega
      have hm4 : m ≤ 40 := by omega
      clear h1 h2
      by_cases hz : den nb ys = 0
      · have hs3 : sign3 (den nb ys) = 0 := by rw [hz]; rfl
        have HS3 := Lib.hid hs3
        clear hs3 hz
        go_enter Tryd.func9, Tryd.ntmps9
        go_wp2_with fail
        rw [← HW.out]
        obtain ⟨p0, p1, p2, p3, p4⟩ := HXA.out
        obtain ⟨q0, q1, q2, q3, q4⟩ := HXB.out
        refine (long_any na a n cap W false d1).mono ?_
        rintro e w1 ⟨rfl, hb1⟩
        have hB1 := HB0.out.trans (hb1.mono HB0.out.size)
        have hxa1 := HXA.out.below hb1
        have hxb1 := HXB.out.below hb1
        have hra1 := HRA.out.below hb1
        have hrb1 := HRB.out.below hb1
        have HXA1 := Lib.hid hxa1
        have HXB1 := Lib.hid hxb1
        clear p0 p1 p2 p3 p4 q0 q1 q2 q3 q4
        obtain ⟨p0, p1, p2, p3, p4⟩ := hxa1
        obtain ⟨q0, q1, q2, q3, q4⟩ := hxb1
        go_wp2_with fail
        refine (long_any nb b m cap' _ false d2).mono ?_
        rintro e w2 ⟨rfl, hb2⟩
        have hB2 := hB1.trans (hb2.mono hB1.size)
        have hxa2 := HXA1.out.below hb2
        have hxb2 := HXB1.out.below hb2
        have HXA2 := Lib.hid hxa2
        have HXB2 := Lib.hid hxb2
        have hra2 := hra1.below hb2
        have hrb2 := hrb1.below hb2
        clear p0 p1 p2 p3 p4 q0 q1 q2 q3 q4 hra1 hrb1
        obtain ⟨p0, p1, p2, p3, p4⟩ := hxa2
        obtain ⟨q0, q1, q2, q3, q4⟩ := hxb2
        go_wp2_with fail
        refine (rsign_any nb b m cap' ys _ hrb2 HL'.out hm).mono ?_
        rintro e w3 ⟨rfl, hb3⟩
        rw [HS3.out]
        have hB3 := hB2.trans (hb3.mono hB2.size)
        have hxa3 := HXA2.out.below hb3
        have hxb3 := HXB2.out.below hb3
        have hra3 := hra2.below hb3
        have hrb3 := hrb2.below hb3
        have HXA3 := Lib.hid hxa3
        have HXB3 := Lib.hid hxb3
        clear p0 p1 p2 p3 p4 q0 q1 q2 q3 q4 hra2 hrb2
        obtain ⟨p0, p1, p2, p3, p4⟩ := hxa3
        obtain ⟨q0, q1, q2, q3, q4⟩ := hxb3
        go_wp2_with fail
        refine (awake_any divLong_any _).mono ?_
        rintro e w9 ⟨rfl, hb9⟩
        have hB9 := hB3.trans (hb9.mono hB3.size)
        go_wp2_with fail
        go_ret
        exact ⟨rfl, hB9⟩
      · obtain ⟨sv, hsv, hsv0⟩ : ∃ sv, sign3 (den nb ys) = sv ∧ (sv == 0) = false := ⟨_, rfl, by unfold sign3; split <;> (try split) <;> simp_all⟩
        have HS3 := Lib.hid hsv
        have HNZ := Lib.hid hz
        clear hsv hz
        obtain ⟨Q, hQ⟩ : ∃ Q, Q = den na xs / den nb ys := ⟨_, rfl⟩
        obtain ⟨R, hR⟩ : ∃ R, R = den na xs % den nb ys := ⟨_, rfl⟩
        have hQl : (mg Q).length ≤ 40 := by
          refine Nat.le_trans (mg_len (k := n) ?_) hn4
          rw [hQ]
          exact Nat.lt_of_le_of_lt (Int.natAbs_ediv_le_natAbs _ _) (by rw [← HL.out]; exact natAbs_lt hlx)
        have hR0 : 0 ≤ R := by rw [hR]; exact Int.emod_nonneg _ HNZ.out
        have hR1 : R < den false ys := by
          rw [hR]
          have := Int.emod_lt (den na xs) HNZ.out
          have e : den false ys = ((den nb ys).natAbs : Int) := by rw [natAbs_den]; rfl
          rw [e]; exact this
        have hRl : (mg R).length ≤ 40 := by
          refine Nat.le_trans (mg_len (k := m) ?_) hm4
          have h1 := natAbs_lt (neg := false) hly
          rw [HL'.out] at h1
          omega
        have hid : Q * den nb ys + R = den na xs := by rw [hQ, hR, Int.mul_comm]; exact Int.mul_ediv_add_emod _ _
        have hml : (mg (Q * den nb ys)).length ≤ 80 := by
          have := mg_mul_len (sg Q) nb (Lim_mg Q) hly
          rw [den_mg, HL'.out] at this
          omega
        have hsr : decide (0 ≤ sign3 R) = true := by unfold sign3; rw [if_neg (by omega)]; split <;> simp
        have hcr : decide (cmpZ R (den false ys) < 0) = true := by unfold cmpZ; rw [if_pos hR1]; simp
        have HQ := Lib.hid hQ
        have HR := Lib.hid hR
        have HID := Lib.hid hid
        clear hQ hR hid hR0 hR1
        have hnl : (mg (den na xs)).length ≤ 40 := by
          refine Nat.le_trans (mg_len (k := n) ?_) hn4
          have := natAbs_lt (neg := na) hlx
          rwa [HL.out] at this
        have hdl : (mg (den false ys)).length ≤ 40 := by
          refine Nat.le_trans (mg_len (k := m) ?_) hm4
          have := natAbs_lt (neg := false) hly
          rwa [HL'.out] at this
        go_enter Tryd.func9, Tryd.ntmps9
        go_wp2_with fail
        rw [← HW.out]
        obtain ⟨p0, p1, p2, p3, p4⟩ := HXA.out
        obtain ⟨q0, q1, q2, q3, q4⟩ := HXB.out
        refine (long_any na a n cap W false d1).mono ?_
        rintro e w1 ⟨rfl, hb1⟩
        have hB1 := HB0.out.trans (hb1.mono HB0.out.size)
        have hxa1 := HXA.out.below hb1
        have hxb1 := HXB.out.below hb1
        have hra1 := HRA.out.below hb1
        have hrb1 := HRB.out.below hb1
        have HXA1 := Lib.hid hxa1
        have HXB1 := Lib.hid hxb1
        clear p0 p1 p2 p3 p4 q0 q1 q2 q3 q4
        obtain ⟨p0, p1, p2, p3, p4⟩ := hxa1
        obtain ⟨q0, q1, q2, q3, q4⟩ := hxb1
        go_wp2_with fail
        refine (long_any nb b m cap' _ false d2).mono ?_
        rintro e w2 ⟨rfl, hb2⟩
        have hB2 := hB1.trans (hb2.mono hB1.size)
        have hxa2 := HXA1.out.below hb2
        have hxb2 := HXB1.out.below hb2
        have HXA2 := Lib.hid hxa2
        have HXB2 := Lib.hid hxb2
        have hra2 := hra1.below hb2
        have hrb2 := hrb1.below hb2
        clear p0 p1 p2 p3 p4 q0 q1 q2 q3 q4 hra1 hrb1
        obtain ⟨p0, p1, p2, p3, p4⟩ := hxa2
        obtain ⟨q0, q1, q2, q3, q4⟩ := hxb2
        go_wp2_with fail
        refine (rsign_any nb b m cap' ys _ hrb2 HL'.out hm).mono ?_
        rintro e w3 ⟨rfl, hb3⟩
        rw [HS3.out]
        have hB3 := hB2.trans (hb3.mono hB2.size)
        have hxa3 := HXA2.out.below hb3
        have hxb3 := HXB2.out.below hb3
        have hra3 := hra2.below hb3
        have hrb3 := hrb2.below hb3
        have HXA3 := Lib.hid hxa3
        have HXB3 := Lib.hid hxb3
        clear p0 p1 p2 p3 p4 q0 q1 q2 q3 q4 hra2 hrb2
        obtain ⟨p0, p1, p2, p3, p4⟩ := hxa3
        obtain ⟨q0, q1, q2, q3, q4⟩ := hxb3
        go_wp2_with fail
        refine (divmod_any divLong_any na nb a b n m cap cap' xs ys _ hra3 hrb3 HL.out HL'.out (by omega) (by omega) HNZ.out).mono ?_
        rintro e w4 ⟨qa, qc, ra, rc, rfl, hNq, hNr⟩
        rw [← HQ.out] at hNq
        rw [← HR.out] at hNr
        rw [← HQ.out, ← HR.out]
        clear p0 p1 p2 p3 p4 q0 q1 q2 q3 q4
        go_wp2_with fail
        obtain ⟨X, hX⟩ : ∃ X, X = (w4.alloc (Obj.cells #[Value.bool (sg Q), Value.slice qa (mg Q).length qc] 24)).alloc (Obj.cells #[Value.bool (sg R), Value.slice ra (mg R).length rc] 24) := ⟨_, rfl⟩
        rw [← hX]
        have hb5 : Below w4.heap.size w4 X := by rw [hX]; exact ((Below.refl _ _).alloc (Nat.le_refl _) _).alloc (by simp) _
        have hxq : Box w4.heap.size (.bool (sg Q)) (.slice qa (mg Q).length qc) X := by rw [hX]; exact (Box.made _ _ rfl _ _ _).alloc _
        have hxr : Box (w4.heap.size + 1) (.bool (sg R)) (.slice ra (mg R).length rc) X := by rw [hX]; exact Box.made _ _ (by simp) _ _ _
        have hb35 : Below w3.heap.size w3 X := hNq.below.trans (hb5.mono hNq.below.size)
        have HB5 := Lib.hid (hB3.trans (hb35.mono hB3.size))
        have HXA5 := Lib.hid (HXA3.out.below hb35)
        have HXB5 := Lib.hid (HXB3.out.below hb35)
        have HRA5 := Lib.hid (hra3.below hb35)
        have HRB5 := Lib.hid (hrb3.below hb35)
        have HXQ := Lib.hid hxq
        have HXR := Lib.hid hxr
        have HRQ := Lib.hid (hNq.rd.below hb5)
        have HRR := Lib.hid (hNr.rd.below hb5)
        clear hX hb5 hxq hxr hb35 hNq hNr hra3 hrb3 hB3
        go_region_held3 (fun w' => w'.cell? ⟨w.heap.size, 0, none⟩ = some (.bool na) ∧ w'.cell? ⟨w.heap.size, 1, none⟩ = some (.slice a n cap) ∧ w'.cell? ⟨w.heap.size + 1, 0, none⟩ = some (.bool nb) ∧ w'.cell? ⟨w.heap.size + 1, 1, none⟩ = some (.slice b m cap') ∧ w'.cell? ⟨w4.heap.size, 0, none⟩ = some (.bool (sg Q)) ∧ w'.cell? ⟨w4.heap.size, 1, none⟩ = some (.slice qa (mg Q).length qc) ∧ w'.cell? ⟨w4.heap.size + 1, 0, none⟩ = some (.bool (sg R)) ∧ w'.cell? ⟨w4.heap.size + 1, 1, none⟩ = some (.slice ra (mg R).length rc) ∧ Below X.heap.size X w')
          (first | exact four_draw HXA5.out HXB5.out HXQ.out HXR.out | exact four_step HXA5.out HXB5.out HXQ.out HXR.out (by assumption) k6 | exact four_step HXA5.out HXB5.out HXQ.out HXR.out (by assumption) hN7.below | exact four_step HXA5.out HXB5.out HXQ.out HXR.out (by assumption) k8 | exact four_step HXA5.out HXB5.out HXQ.out HXR.out (by assumption) hN9.below | exact four_step HXA5.out HXB5.out HXQ.out HXR.out (by assumption) hN10.below | exact four_step HXA5.out HXB5.out HXQ.out HXR.out (by assumption) hN11.below | exact four_step HXA5.out HXB5.out HXQ.out HXR.out (by assumption) k12 | exact four_step HXA5.out HXB5.out HXQ.out HXR.out (by assumption) k13)
          ((first
            | (go_at_call 29; have hq := four_rd HRR.out (by assumption); refine (sign_any (sg R) ra _ rc (mg R) _ hq rfl (by omega)).mono ?_; clear hq; rw [den_mg]; rintro e y6 ⟨rfl, k6⟩)
            | (go_at_call 37; have hq := four_rd HRB5.out (by assumption); refine (rabs_any nb b m cap' ys _ hq HL'.out hm).mono ?_; clear hq; rintro e y7 ⟨a7, c7, rfl, hN7⟩)
            | (go_at_call 32; have hq := four_rd HRR.out (by assumption); refine (rcmpz_any (sg R) (sg (den false ys)) ra a7 _ _ rc c7 (mg R) (mg (den false ys)) _ hq hN7.rd rfl rfl (by omega) (by omega)).mono ?_; clear hq; rw [den_mg, den_mg]; rintro e y8 ⟨rfl, k8⟩)
            | (go_at_call 34; have hq := four_rd HRQ.out (by assumption); have hq' := four_rd HRB5.out (by assumption); refine (rmul_any (sg Q) nb qa b _ m qc cap' (mg Q) ys _ hq hq' rfl HL'.out (by omega) hm).mono ?_; clear hq hq'; rw [den_mg]; rintro e y9 ⟨a9, c9, rfl, hN9⟩)
            | (go_at_call 38; have hq := four_rd HRR.out (by assumption); refine (radd_any (sg (Q * den nb ys)) (sg R) a9 ra _ _ c9 rc (mg (Q * den nb ys)) (mg R) _ hN9.rd hq rfl rfl (by omega) (by omega)).mono ?_; clear hq; rw [den_mg, den_mg, HID.out]; rintro e y10 ⟨a10, c10, rfl, hN10⟩)
            | (go_at_call 24; have hq := four_rd HRA5.out (by assumption); refine (rnormalize_any na a n cap xs _ hq HL.out hn).mono ?_; clear hq; rintro e y11 ⟨a11, c11, rfl, hN11⟩)
            | (go_at_call 23; refine (same_true (sg (den na xs)) a10 a11 _ c10 c11 (mg (den na xs)) _ (hN10.rd.below hN11.below) hN11.rd rfl (by omega)).mono ?_; rintro e y12 ⟨rfl, k12⟩)
            | (go_at_call 20; refine (awake_any divLong_any _).mono ?_; rintro e y13 ⟨rfl, k13⟩)))
        have hB9 := HB5.out.trans ((four_below (by assumption)).mono HB5.out.size)
        go_wp2_with fail
        go_ret
        exact ⟨rfl, hB9⟩
end Go.Proofs.YtllogjmepflnoaaDoor
