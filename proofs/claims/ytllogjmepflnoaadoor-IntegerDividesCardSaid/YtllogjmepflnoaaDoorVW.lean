/-
  The walk of IntegerDivides; the program's DivMod by 0.
-/
import Derived.Test.YtllogjmepflnoaaDoorRX
import Derived.Test.YtllogjmepflnoaaDoorMW
namespace Go.Proofs.YtllogjmepflnoaaDoor
open Go.RowKit

attribute [local go_sem ↓] Go.wp_at_zero Go.wp_at_succ

set_option maxRecDepth 100000 in
set_option maxHeartbeats 4000000 in
theorem divmod_zero (na nb : Bool) (a b : Option Addr) (n m cap cap' : Nat) (xs ys : List Nat) (w : World) (rdx : Rd w a cap xs) (rdy : Rd w b cap' ys) (hl : xs.length = n) (hl' : ys.length = m) (hn : n ≤ 1000000) (hm : m ≤ 1000000) (h0 : den nb ys = 0) :
    Calls Tryd.prog 35 #[.agg #[.bool na, .slice a n cap], .agg #[.bool nb, .slice b m cap']] w (fun e w' => GivesZero e ∧ Below w.heap.size w w') := by
  have hly := rdy.lim
  obtain ⟨W, hW⟩ : ∃ W, W = (((w.alloc (.cells #[.bool na, .slice a n cap] 24)).alloc (.cells #[.bool nb, .slice b m cap'] 24)).alloc (.cells #[.bool false, .slice none 0 0] 24)).alloc (.cells #[.bool false, .slice none 0 0] 24) := ⟨_, rfl⟩
  have hb0 : Below w.heap.size w W := by rw [hW]; exact below4 _ _ _ _ _
  have hx : Box4 w.heap.size (.bool na) (.slice a n cap) (.bool nb) (.slice b m cap') (.bool false) (.slice none 0 0) (.bool false) (.slice none 0 0) W := by rw [hW]; exact Box4.made _ _ _ _ _ _ _ _ _ _
  have hy0 : (trimL ys).length = 0 := (trim_length_zero hly).2 (den_zero.1 h0)
  obtain ⟨T, hT⟩ : ∃ T, T = (trimL ys).length := ⟨_, rfl⟩
  have hb : ((T : Int) == 0) = true := by rw [hT, hy0]; rfl
  have HT := Lib.hid hT
  have hrx := rdx.below hb0
  have hry := rdy.below hb0
  have HW := Lib.hid hW
  have HB0 := Lib.hid hb0
  have HX := Lib.hid hx
  have HL := Lib.hid hl
  have HL' := Lib.hid hl'
  clear hW hl hl' hT hy0 h0 hb0 rdx rdy
  obtain ⟨⟨p0, p1, p2, p3, p4⟩, ⟨q0, q1, q2, q3, q4⟩, ⟨r0, r1, r2, r3, r4⟩, ⟨s0, s1, s2, s3, s4⟩⟩ := hx
  go_enter Tryd.func35, Tryd.ntmps35
  go_wp2_with fail
  rw [← HW.out]
  go_quiet ((go_at_call 53; first | with_reducible exact quiet_eq (trim_any a n cap xs _ (hrx.drewN _) HL.out (by omega)) | with_reducible exact quiet_eq (trim_any b m cap' ys _ (hry.drewN _) HL'.out (by omega))))
  rw [← HT.out]
  go_wp2_with fail
  refine bodyPost_ret (v := .tuple #[.agg #[.bool false, .slice none 0 0], .agg #[.bool false, .slice none 0 0], .bool false]) ?_ rfl ⟨rfl, ?_⟩
  · simp [results, Tryd.results35, go_sem, r0, r1, s0, s1]
  · exact below_set4 (below_drewN HB0.out _) _ _ _ _

theorem mg_len {z : Int} {k : Nat} (h : z.natAbs < 4294967296 ^ k) : (mg z).length ≤ k := length_limbs_le h

set_option maxRecDepth 100000 in
set_option maxHeartbeats 8000000 in
theorem integerDivides_walk (na nb : Bool) (a b : Option Addr) (n m cap cap' : Nat) (xs ys : List Nat) (w : World) (rdx : Rd w a cap xs) (rdy : Rd w b cap' ys) (hl : xs.length = n) (hl' : ys.length = m) :
    Calls Tryd.prog 8 #[.agg #[.bool na, .slice a n cap], .agg #[.bool nb, .slice b m cap']] w fun e w' => e = .returned (.bool true) ∧ Below w.heap.size w w' := by
  obtain ⟨W, hW⟩ : ∃ W, W = (w.alloc (.cells #[.bool na, .slice a n cap] 24)).alloc (.cells #[.bool nb, .slice b m cap'] 24) := ⟨_, rfl⟩
  have hb0 : Below w.heap.size w W := by rw [hW]; exact ((Below.refl _ _).alloc (Nat.le_refl _) _).alloc (by simp) _
  have hxa : Box w.heap.size (.bool na) (.slice a n cap) W := by rw [hW]; exact (Box.made _ _ rfl _ _ _).alloc _
  have hxb : Box (w.heap.size + 1) (.bool nb) (.slice b m cap') W := by rw [hW]; exact Box.made _ _ (by simp) _ _ _
  have hra : Rd W a cap xs := rdx.below hb0
  have hrb : Rd W b cap' ys := rdy.below hb0
  have HW := Lib.hid hW
  have HL := Lib.hid hl
  have HL' := Lib.hid hl'
  have HB0 := Lib.hid hb0
  have HXA := Lib.hid hxa
  have HXB := Lib.hid hxb
  have HRA := Lib.hid hra
  have HRB := Lib.hid hrb
  have hlx := rdx.lim
  have hly := rdy.lim
  clear hW hl hl' rdx rdy hb0 hxa hxb hra hrb
  skip
  by_cases h1 : 40 < n
  · have d1 : decide ((40 : Int) < (n : Int)) = true := decide_eq_true (by omega)
    clear h1
    go_enter Tryd.func8, Tryd.ntmps8
    go_wp2_with fail
    rw [← HW.out]
    obtain ⟨p0, p1, p2, p3, p4⟩ := HXA.out
    obtain ⟨q0, q1, q2, q3, q4⟩ := HXB.out
    refine (long_any na a n cap W true d1).mono ?_
    rintro e w1 ⟨rfl, hb1⟩
    have hB1 := HB0.out.trans (hb1.mono HB0.out.size)
    have hxa1 := HXA.out.below hb1
    have hxb1 := HXB.out.below hb1
    have hra1 := HRA.out.below hb1
    have hrb1 := HRB.out.below hb1
    have HXA1 := Lib.hid hxa1
    have HXB1 := Lib.hid hxb1
    clear p0 p1 p2 p3 p4 q0 q1 q2 q3 q4
    obtain ⟨p0, p1, p2, p3, p4⟩ := hxa1
    obtain ⟨q0, q1, q2, q3, q4⟩ := hxb1
    go_wp2_with fail
    refine (awake_any divLong_any _).mono ?_
    rintro e w9 ⟨rfl, hb9⟩
    have hB9 := hB1.trans (hb9.mono hB1.size)
    go_wp2_with fail
    go_ret
    exact ⟨rfl, hB9⟩
  · have d1 : decide ((40 : Int) < (n : Int)) = false := decide_eq_false (by omega)
    by_cases h2 : 40 < m
    · have d2 : decide ((40 : Int) < (m : Int)) = true := decide_eq_true (by omega)
      clear h1 h2
      go_enter Tryd.func8, Tryd.ntmps8
      go_wp2_with fail
      rw [← HW.out]
      obtain ⟨p0, p1, p2, p3, p4⟩ := HXA.out
      obtain ⟨q0, q1, q2, q3, q4⟩ := HXB.out
      refine (long_any na a n cap W false d1).mono ?_
      rintro e w1 ⟨rfl, hb1⟩
      have hB1 := HB0.out.trans (hb1.mono HB0.out.size)
      have hxa1 := HXA.out.below hb1
      have hxb1 := HXB.out.below hb1
      have hra1 := HRA.out.below hb1
      have hrb1 := HRB.out.below hb1
      have HXA1 := Lib.hid hxa1
      have HXB1 := Lib.hid hxb1
      clear p0 p1 p2 p3 p4 q0 q1 q2 q3 q4
      obtain ⟨p0, p1, p2, p3, p4⟩ := hxa1
      obtain ⟨q0, q1, q2, q3, q4⟩ := hxb1
      go_wp2_with fail
      refine (long_any nb b m cap' _ true d2).mono ?_
      rintro e w2 ⟨rfl, hb2⟩
      have hB2 := hB1.trans (hb2.mono hB1.size)
      have hxa2 := HXA1.out.below hb2
      have hxb2 := HXB1.out.below hb2
      have hra2 := hra1.below hb2
      have hrb2 := hrb1.below hb2
      clear p0 p1 p2 p3 p4 q0 q1 q2 q3 q4 hra1 hrb1
      go_wp2_with fail
      refine (awake_any divLong_any _).mono ?_
      rintro e w9 ⟨rfl, hb9⟩
      have hB9 := hB2.trans (hb9.mono hB2.size)
      go_wp2_with fail
      go_ret
      exact ⟨rfl, hB9⟩
    · have d2 : decide ((40 : Int) < (m : Int)) = false := decide_eq_false (by omega)
      have hn : n ≤ 1000000000 := by omega
      have hm : m ≤ 1000000000 := by omega
      have hn4 : n ≤ 40 := by omega
      have hm4 : m ≤ 40 := by omega
      clear h1 h2
      by_cases hz : den nb ys = 0
      · have HZ := Lib.hid hz
        clear hz
        go_enter Tryd.func8, Tryd.ntmps8
        go_wp2_with fail
        rw [← HW.out]
        obtain ⟨p0, p1, p2, p3, p4⟩ := HXA.out
        obtain ⟨q0, q1, q2, q3, q4⟩ := HXB.out
        refine (long_any na a n cap W false d1).mono ?_
        rintro e w1 ⟨rfl, hb1⟩
        have hB1 := HB0.out.trans (hb1.mono HB0.out.size)
        have hxa1 := HXA.out.below hb1
        have hxb1 := HXB.out.below hb1
        have hra1 := HRA.out.below hb1
        have hrb1 := HRB.out.below hb1
        have HXA1 := Lib.hid hxa1
        have HXB1 := Lib.hid hxb1
        clear p0 p1 p2 p3 p4 q0 q1 q2 q3 q4
        obtain ⟨p0, p1, p2, p3, p4⟩ := hxa1
        obtain ⟨q0, q1, q2, q3, q4⟩ := hxb1
        go_wp2_with fail
        refine (long_any nb b m cap' _ false d2).mono ?_
        rintro e w2 ⟨rfl, hb2⟩
        have hB2 := hB1.trans (hb2.mono hB1.size)
        have hxa2 := HXA1.out.below hb2
        have hxb2 := HXB1.out.below hb2
        have HXA2 := Lib.hid hxa2
        have HXB2 := Lib.hid hxb2
        have hra2 := hra1.below hb2
        have hrb2 := hrb1.below hb2
        have HRA2 := Lib.hid hra2
        have HRB2 := Lib.hid hrb2
        have HB2 := Lib.hid hB2
        clear p0 p1 p2 p3 p4 q0 q1 q2 q3 q4 hra1 hrb1 hra2 hrb2
        obtain ⟨p0, p1, p2, p3, p4⟩ := hxa2
        obtain ⟨q0, q1, q2, q3, q4⟩ := hxb2
        go_wp2_with fail
        refine (divmod_zero na nb a b n m cap cap' xs ys _ HRA2.out HRB2.out HL.out HL'.out (by omega) (by omega) HZ.out).mono ?_
        rintro e w3 ⟨he, hb3⟩
        unfold GivesZero at he
        subst he
        have hxa3 := HXA2.out.below hb3
        have hxb3 := HXB2.out.below hb3
        clear p0 p1 p2 p3 p4 q0 q1 q2 q3 q4
        obtain ⟨p0, p1, p2, p3, p4⟩ := hxa3
        obtain ⟨q0, q1, q2, q3, q4⟩ := hxb3
        go_wp2_with fail
        obtain ⟨X1, hX1⟩ : ∃ V, V = (w3.alloc (.cells #[.bool false, .slice none 0 0] 24)).alloc (.cells #[.bool false, .slice none 0 0] 24) := ⟨_, rfl⟩
        rw [← hX1]
        have hbb : Below w3.heap.size w3 X1 := by rw [hX1]; exact ((Below.refl _ _).alloc (Nat.le_refl _) _).alloc (by simp) _
        have HQ1 : Hid (Box w3.heap.size (.bool false) (.slice none 0 0) X1) := by unfold Hid; rw [hX1]; exact (Box.made _ _ rfl _ _ _).alloc _
        have HR1 : Hid (Box (w3.heap.size + 1) (.bool false) (.slice none 0 0) X1) := by unfold Hid; rw [hX1]; exact Box.made _ _ (by simp) _ _ _
        have hb4 : Below w2.heap.size w2 X1 := hb3.trans (hbb.mono hb3.size)
        have HRA4 := Lib.hid (HRA2.out.below hb4)
        have HRB4 := Lib.hid (HRB2.out.below hb4)
        have HB4 := Lib.hid (HB2.out.trans (hb4.mono HB2.out.size))
        clear hX1 hbb hb3 hb4 p0 p1 p2 p3 p4 q0 q1 q2 q3 q4
        refine (rdivmod_zero na nb a b n m cap cap' xs ys _ HRA4.out HRB4.out HL.out HL'.out (by omega) (by omega) HZ.out).mono ?_
        rintro e w5 ⟨he, hb5⟩
        unfold GivesZero at he
        subst he
        have hq5 := HQ1.out.below hb5
        have hr5 := HR1.out.below hb5
        obtain ⟨p0, p1, p2, p3, p4⟩ := hq5
        obtain ⟨q0, q1, q2, q3, q4⟩ := hr5
        go_wp2_with fail
        obtain ⟨X2, hX2⟩ : ∃ V, V = (w5.alloc (.cells #[.bool false, .slice none 0 0] 24)).alloc (.cells #[.bool false, .slice none 0 0] 24) := ⟨_, rfl⟩
        rw [← hX2]
        have hbb : Below w5.heap.size w5 X2 := by rw [hX2]; exact ((Below.refl _ _).alloc (Nat.le_refl _) _).alloc (by simp) _
        have HY2 : Hid (Box (w5.heap.size + 1) (.bool false) (.slice none 0 0) X2) := by unfold Hid; rw [hX2]; exact Box.made _ _ (by simp) _ _ _
        have hb6 : Below X1.heap.size X1 X2 := hb5.trans (hbb.mono hb5.size)
        have HR2 := Lib.hid (HR1.out.below hb6)
        have HB6 := Lib.hid (HB4.out.trans (hb6.mono HB4.out.size))
        clear hX2 hbb hb5 hb6 p0 p1 p2 p3 p4 q0 q1 q2 q3 q4
        refine (same_true false none none 0 0 0 [] _ (Rd.nil _ _ _) (Rd.nil _ _ _) rfl (by omega)).mono ?_
        rintro e w7 ⟨rfl, hb7⟩
        have hr7 := HR2.out.below hb7
        have hy7 := HY2.out.below hb7
        obtain ⟨p0, p1, p2, p3, p4⟩ := hr7
        obtain ⟨q0, q1, q2, q3, q4⟩ := hy7
        go_wp2_with fail
        refine (same_true false none none 0 0 0 [] _ (Rd.nil _ _ _) (Rd.nil _ _ _) rfl (by omega)).mono ?_
        rintro e w8 ⟨rfl, hb8⟩
        have hB8 := HB6.out.trans ((hb7.trans (hb8.mono hb7.size)).mono HB6.out.size)
        clear p0 p1 p2 p3 p4 q0 q1 q2 q3 q4
        go_wp2_with fail
        refine (awake_any divLong_any _).mono ?_
        rintro e w9 ⟨rfl, hb9⟩
        have hB9 := hB8.trans (hb9.mono hB8.size)
        go_wp2_with fail
        go_ret
        exact ⟨rfl, hB9⟩

      · have HZ := Lib.hid hz
        obtain ⟨Q, hQ⟩ : ∃ Q, Q = den na xs / den nb ys := ⟨_, rfl⟩
        obtain ⟨R, hR⟩ : ∃ R, R = den na xs % den nb ys := ⟨_, rfl⟩
        have hQl : (mg Q).length ≤ 40 := by
          refine Nat.le_trans (mg_len (k := n) ?_) hn4
          rw [hQ]
          exact Nat.lt_of_le_of_lt (Int.natAbs_ediv_le_natAbs _ _) (by rw [← HL.out]; exact natAbs_lt' hlx)
        have hRl : (mg R).length ≤ 40 := by
          refine Nat.le_trans (mg_len (k := m) ?_) hm4
          have h1 := natAbs_lt' (neg := nb) hly
          have h2 := Int.emod_nonneg (den na xs) hz
          have h3 := Int.emod_lt (den na xs) hz
          rw [HL'.out] at h1
          omega
        have HQ := Lib.hid hQ
        have HR := Lib.hid hR
        clear hz hQ hR
        go_enter Tryd.func8, Tryd.ntmps8
        go_wp2_with fail
        rw [← HW.out]
        obtain ⟨p0, p1, p2, p3, p4⟩ := HXA.out
        obtain ⟨q0, q1, q2, q3, q4⟩ := HXB.out
        refine (long_any na a n cap W false d1).mono ?_
        rintro e w1 ⟨rfl, hb1⟩
        have hB1 := HB0.out.trans (hb1.mono HB0.out.size)
        have hxa1 := HXA.out.below hb1
        have hxb1 := HXB.out.below hb1
        have hra1 := HRA.out.below hb1
        have hrb1 := HRB.out.below hb1
        have HXA1 := Lib.hid hxa1
        have HXB1 := Lib.hid hxb1
        clear p0 p1 p2 p3 p4 q0 q1 q2 q3 q4
        obtain ⟨p0, p1, p2, p3, p4⟩ := hxa1
        obtain ⟨q0, q1, q2, q3, q4⟩ := hxb1
        go_wp2_with fail
        refine (long_any nb b m cap' _ false d2).mono ?_
        rintro e w2 ⟨rfl, hb2⟩
        have hB2 := hB1.trans (hb2.mono hB1.size)
        have hxa2 := HXA1.out.below hb2
        have hxb2 := HXB1.out.below hb2
        have HXA2 := Lib.hid hxa2
        have HXB2 := Lib.hid hxb2
        have hra2 := hra1.below hb2
        have hrb2 := hrb1.below hb2
        have HRA2 := Lib.hid hra2
        have HRB2 := Lib.hid hrb2
        have HB2 := Lib.hid hB2
        clear p0 p1 p2 p3 p4 q0 q1 q2 q3 q4 hra1 hrb1 hra2 hrb2
        obtain ⟨p0, p1, p2, p3, p4⟩ := hxa2
        obtain ⟨q0, q1, q2, q3, q4⟩ := hxb2
        go_wp2_with fail
        refine (divmod_any divLong_any na nb a b n m cap cap' xs ys _ HRA2.out HRB2.out HL.out HL'.out (by omega) (by omega) HZ.out).mono ?_
        rintro e w3 ⟨qa, qc, ra, rc, rfl, hNq, hNr⟩
        rw [← HQ.out] at hNq
        rw [← HR.out] at hNr
        rw [← HQ.out, ← HR.out]
        have hb3 := hNq.below
        have hxa3 := HXA2.out.below hb3
        have hxb3 := HXB2.out.below hb3
        clear p0 p1 p2 p3 p4 q0 q1 q2 q3 q4
        obtain ⟨p0, p1, p2, p3, p4⟩ := hxa3
        obtain ⟨q0, q1, q2, q3, q4⟩ := hxb3
        go_wp2_with fail
        obtain ⟨X1, hX1⟩ : ∃ V, V = (w3.alloc (.cells #[.bool (sg Q), .slice qa (mg Q).length qc] 24)).alloc (.cells #[.bool (sg R), .slice ra (mg R).length rc] 24) := ⟨_, rfl⟩
        rw [← hX1]
        have hbb : Below w3.heap.size w3 X1 := by rw [hX1]; exact ((Below.refl _ _).alloc (Nat.le_refl _) _).alloc (by simp) _
        have HQ1 : Hid (Box w3.heap.size (.bool (sg Q)) (.slice qa (mg Q).length qc) X1) := by unfold Hid; rw [hX1]; exact (Box.made _ _ rfl _ _ _).alloc _
        have HR1 : Hid (Box (w3.heap.size + 1) (.bool (sg R)) (.slice ra (mg R).length rc) X1) := by unfold Hid; rw [hX1]; exact Box.made _ _ (by simp) _ _ _
        have hb4 : Below w2.heap.size w2 X1 := hb3.trans (hbb.mono hb3.size)
        have HRQ := Lib.hid (hNq.rd.below hbb)
        have HRR := Lib.hid (hNr.rd.below hbb)
        have HRA4 := Lib.hid (HRA2.out.below hb4)
        have HRB4 := Lib.hid (HRB2.out.below hb4)
        have HB4 := Lib.hid (HB2.out.trans (hb4.mono HB2.out.size))
        clear hX1 hbb hb3 hb4 p0 p1 p2 p3 p4 q0 q1 q2 q3 q4 hNq hNr
        refine (rdivmod_pos na nb a b n m cap cap' xs ys _ HRA4.out HRB4.out HL.out HL'.out (by omega) (by omega) HZ.out).mono ?_
        rintro e w5 ⟨xa, xc, ya, yc, rfl, hNx, hNy⟩
        rw [← HQ.out] at hNx
        rw [← HR.out] at hNy
        rw [← HQ.out, ← HR.out]
        have hb5 := hNx.below
        have hq5 := HQ1.out.below hb5
        have hr5 := HR1.out.below hb5
        obtain ⟨p0, p1, p2, p3, p4⟩ := hq5
        obtain ⟨q0, q1, q2, q3, q4⟩ := hr5
        go_wp2_with fail
        obtain ⟨X2, hX2⟩ : ∃ V, V = (w5.alloc (.cells #[.bool (sg Q), .slice xa (mg Q).length xc] 24)).alloc (.cells #[.bool (sg R), .slice ya (mg R).length yc] 24) := ⟨_, rfl⟩
        rw [← hX2]
        have hbb : Below w5.heap.size w5 X2 := by rw [hX2]; exact ((Below.refl _ _).alloc (Nat.le_refl _) _).alloc (by simp) _
        have HY2 : Hid (Box (w5.heap.size + 1) (.bool (sg R)) (.slice ya (mg R).length yc) X2) := by unfold Hid; rw [hX2]; exact Box.made _ _ (by simp) _ _ _
        have hb6 : Below X1.heap.size X1 X2 := hb5.trans (hbb.mono hb5.size)
        have HRX := Lib.hid (hNx.rd.below hbb)
        have HRY := Lib.hid (hNy.rd.below hbb)
        have HRQ2 := Lib.hid (HRQ.out.below hb6)
        have HRR2 := Lib.hid (HRR.out.below hb6)
        have HR2 := Lib.hid (HR1.out.below hb6)
        have HB6 := Lib.hid (HB4.out.trans (hb6.mono HB4.out.size))
        clear hX2 hbb hb5 hb6 p0 p1 p2 p3 p4 q0 q1 q2 q3 q4 hNx hNy
        refine (same_true (sg Q) qa xa _ qc xc (mg Q) _ HRQ2.out HRX.out rfl (by omega)).mono ?_
        rintro e w7 ⟨rfl, hb7⟩
        have hr7 := HR2.out.below hb7
        have hy7 := HY2.out.below hb7
        obtain ⟨p0, p1, p2, p3, p4⟩ := hr7
        obtain ⟨q0, q1, q2, q3, q4⟩ := hy7
        go_wp2_with fail
        refine (same_true (sg R) ra ya _ rc yc (mg R) _ (HRR2.out.below hb7) (HRY.out.below hb7) rfl (by omega)).mono ?_
        rintro e w8 ⟨rfl, hb8⟩
        have hB8 := HB6.out.trans ((hb7.trans (hb8.mono hb7.size)).mono HB6.out.size)
        clear p0 p1 p2 p3 p4 q0 q1 q2 q3 q4
        go_wp2_with fail
        refine (awake_any divLong_any _).mono ?_
        rintro e w9 ⟨rfl, hb9⟩
        have hB9 := hB8.trans (hb9.mono hB8.size)
        go_wp2_with fail
        go_ret
        exact ⟨rfl, hB9⟩

end Go.Proofs.YtllogjmepflnoaaDoor
