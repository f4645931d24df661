/-
  The walk of IntegerSquares.
-/
import Derived.Test.YtllogjmepflnoaaDoorGR
import Derived.Test.YtllogjmepflnoaaDoorMW
namespace Go.Proofs.YtllogjmepflnoaaDoor
open Go.RowKit

attribute [local go_sem ↓] Go.wp_at_zero Go.wp_at_succ

set_option maxRecDepth 100000 in
set_option maxHeartbeats 8000000 in
theorem integerSquares_walk (na nb : Bool) (a b : Option Addr) (n m cap cap' : Nat) (xs ys : List Nat) (w : World) (rdx : Rd w a cap xs) (rdy : Rd w b cap' ys) (hl : xs.length = n) (hl' : ys.length = m) :
    Calls Tryd.prog 13 #[.agg #[.bool na, .slice a n cap], .agg #[.bool nb, .slice b m cap']] w fun e w' => e = .returned (.bool true) ∧ Below w.heap.size w w' := by
  obtain ⟨W, hW⟩ : ∃ W, W = (w.alloc (.cells #[.bool na, .slice a n cap] 24)).alloc (.cells #[.bool nb, .slice b m cap'] 24) := ⟨_, rfl⟩
  have hb0 : Below w.heap.size w W := by rw [hW]; exact ((Below.refl _ _).alloc (Nat.le_refl _) _).alloc (by simp) _
  have hxa : Box w.heap.size (.bool na) (.slice a n cap) W := by rw [hW]; exact (Box.made _ _ rfl _ _ _).alloc _
  have hxb : Box (w.heap.size + 1) (.bool nb) (.slice b m cap') W := by rw [hW]; exact Box.made _ _ (by simp) _ _ _
  have hra : Rd W a cap xs := rdx.below hb0
  have hrb : Rd W b cap' ys := rdy.below hb0
  have HW := Lib.hid hW
  have HL := Lib.hid hl
  have HL' := Lib.hid hl'
  have HB0 := Lib.hid hb0
  have HXA := Lib.hid hxa
  have HXB := Lib.hid hxb
  have HRA := Lib.hid hra
  have HRB := Lib.hid hrb
  have hlx := rdx.lim
  have hly := rdy.lim
  clear hW hl hl' rdx rdy hb0 hxa hxb hra hrb
  by_cases h1 : 10 < n
  · have d1 : decide ((10 : Int) < (n : Int)) = true := decide_eq_true (by omega)
    clear h1
    go_enter Tryd.func13, Tryd.ntmps13
    go_wp2_with fail
    rw [← HW.out]
    obtain ⟨p0, p1, p2, p3, p4⟩ := HXA.out
    obtain ⟨q0, q1, q2, q3, q4⟩ := HXB.out
    go_wp2_with fail
    refine (awake_any divLong_any _).mono ?_
    rintro e w9 ⟨rfl, hb9⟩
    have hB9 := HB0.out.trans (hb9.mono HB0.out.size)
    go_wp2_with fail
    go_ret
    exact ⟨rfl, hB9⟩
  · have d1 : decide ((10 : Int) < (n : Int)) = false := decide_eq_false (by omega)
    by_cases h2 : 10 < m
    · have d2 : decide ((10 : Int) < (m : Int)) = true := decide_eq_true (by omega)
      clear h1 h2
      go_enter Tryd.func13, Tryd.ntmps13
      go_wp2_with fail
      rw [← HW.out]
      obtain ⟨p0, p1, p2, p3, p4⟩ := HXA.out
      obtain ⟨q0, q1, q2, q3, q4⟩ := HXB.out
      go_wp2_with fail
      refine (awake_any divLong_any _).mono ?_
      rintro e w9 ⟨rfl, hb9⟩
      have hB9 := HB0.out.trans (hb9.mono HB0.out.size)
      go_wp2_with fail
      go_ret
      exact ⟨rfl, hB9⟩
    · have d2 : decide ((10 : Int) < (m : Int)) = false := decide_eq_false (by omega)
      have hn : n ≤ 10 := by omega
      have hm : m ≤ 10 := by omega
      clear h1 h2
      obtain ⟨A, hA⟩ : ∃ A, A = val xs := ⟨_, rfl⟩
      obtain ⟨B, hB⟩ : ∃ B, B = val ys := ⟨_, rfl⟩
      have hAb : A < 4294967296 ^ 10 := by rw [hA]; have := val_lt hlx; rw [HL.out] at this; exact Nat.lt_of_lt_of_le this (Nat.pow_le_pow_right (by omega) hn)
      have hBb : B < 4294967296 ^ 10 := by rw [hB]; have := val_lt hly; rw [HL'.out] at this; exact Nat.lt_of_lt_of_le this (Nat.pow_le_pow_right (by omega) hm)
      obtain ⟨SQ, hSQ⟩ : ∃ SQ, SQ = A * A := ⟨_, rfl⟩
      obtain ⟨D0, hD0⟩ : ∃ D, D = A + A := ⟨_, rfl⟩
      obtain ⟨D, hD⟩ : ∃ D, D = A + A + 1 := ⟨_, rfl⟩
      obtain ⟨M, hM⟩ : ∃ M, M = B % D := ⟨_, rfl⟩
      obtain ⟨T, hT⟩ : ∃ T, T = SQ + M := ⟨_, rfl⟩
      have hMD : M ≤ A + A := by have := Nat.mod_lt B (show 0 < D by omega); omega
      have nl : ∀ (v k : Nat), v < 4294967296 ^ k → (mg (v : Int)).length ≤ k := fun v k h => length_limbs_le (by simpa using h)
      have hSQb : SQ < 4294967296 ^ 20 := by
        rw [hSQ, show (4294967296 : Nat) ^ 20 = 4294967296 ^ 10 * 4294967296 ^ 10 by rw [← Nat.pow_add]]
        exact Nat.mul_lt_mul'' hAb hAb
      have lA : (mg (A : Int)).length ≤ 10 := nl A 10 hAb
      have lB : (mg (B : Int)).length ≤ 10 := nl B 10 hBb
      have lSQ : (mg (SQ : Int)).length ≤ 20 := nl SQ 20 hSQb
      have hp : (4294967296 : Nat) ^ 11 = 4294967296 * 4294967296 ^ 10 := by rw [Nat.pow_succ, Nat.mul_comm]
      have hp2 : (4294967296 : Nat) ^ 21 = 4294967296 * 4294967296 ^ 20 := by rw [Nat.pow_succ, Nat.mul_comm]
      have hp3 : (4294967296 : Nat) ^ 11 ≤ 4294967296 ^ 20 := Nat.pow_le_pow_right (by omega) (by omega)
      have lD0 : (mg (D0 : Int)).length ≤ 11 := nl D0 11 (by generalize 4294967296 ^ 10 = z at *; omega)
      have lD : (mg (D : Int)).length ≤ 11 := nl D 11 (by generalize 4294967296 ^ 10 = z at *; omega)
      have lM : (mg (M : Int)).length ≤ 11 := nl M 11 (by generalize 4294967296 ^ 10 = z at *; omega)
      have lT : (mg (T : Int)).length ≤ 21 := nl T 21 (by generalize 4294967296 ^ 10 = z at *; generalize 4294967296 ^ 20 = y at *; generalize 4294967296 ^ 11 = x at *; omega)
      have l1 : (mg 1).length ≤ 5 := by decide
      have dA : Hid (den false xs = (A : Int)) := Lib.hid (by rw [hA]; rfl)
      have dB : Hid (den false ys = (B : Int)) := Lib.hid (by rw [hB]; rfl)
      have dSQ : Hid ((A : Int) * (A : Int) = (SQ : Int)) := Lib.hid (by rw [hSQ]; simp)
      have dAA : Hid ((A : Int) + (A : Int) = (D0 : Int)) := Lib.hid (by omega)
      have dD : Hid ((D0 : Int) + 1 = (D : Int)) := Lib.hid (by omega)
      have dD0 : Hid ((D : Int) ≠ 0) := Lib.hid (by omega)
      have dM : Hid ((B : Int) % (D : Int) = (M : Int)) := Lib.hid (by rw [hM]; simp)
      have dT : Hid ((SQ : Int) + (M : Int) = (T : Int)) := Lib.hid (by omega)
      have vSQ : Hid (val (mg (SQ : Int)) = SQ) := Lib.hid (by unfold mg; rw [val_limbs]; simp)
      have vT : Hid (val (mg (T : Int)) = T) := Lib.hid (by unfold mg; rw [val_limbs]; simp)
      have sqe : (A + 1) * (A + 1) = A * A + A + A + 1 := by rw [Nat.add_mul, Nat.mul_add]; omega
      have r1 : Hid (A * A ≤ SQ) := Lib.hid (by omega)
      have r2 : Hid (SQ < (A + 1) * (A + 1)) := Lib.hid (by rw [sqe]; omega)
      have r3 : Hid (A * A ≤ T) := Lib.hid (by omega)
      have r4 : Hid (T < (A + 1) * (A + 1)) := Lib.hid (by rw [sqe]; omega)
      clear hA hB hAb hBb hSQ hD0 hD hM hT hMD nl hSQb hp hp2 hp3 sqe hlx hly
      go_enter Tryd.func13, Tryd.ntmps13
      go_wp2_with fail
      rw [← HW.out]
      obtain ⟨p0, p1, p2, p3, p4⟩ := HXA.out
      obtain ⟨q0, q1, q2, q3, q4⟩ := HXB.out
      go_wp2_with fail
      refine (rabs_any na a n cap xs _ HRA.out HL.out (by omega)).mono ?_
      rw [dA.out]
      rintro e w1 ⟨a1, c1, rfl, hN1⟩
      clear p0 p1 p2 p3 p4 q0 q1 q2 q3 q4
      go_wp2_with fail
      obtain ⟨W1, hW1⟩ : ∃ V, V = w1.alloc (.cells #[.bool (sg (A : Int)), .slice a1 (mg (A : Int)).length c1] 24) := ⟨_, rfl⟩
      rw [← hW1]
      have hbb : Below w1.heap.size w1 W1 := by rw [hW1]; exact (Below.refl _ _).alloc (Nat.le_refl _) _
      have HXX1 : Hid (Box w1.heap.size (.bool (sg (A : Int))) (.slice a1 (mg (A : Int)).length c1) W1) := by unfold Hid; rw [hW1]; exact Box.made _ _ rfl _ _ _
      have hb1 := hN1.below.trans (hbb.mono hN1.below.size)
      have HRX1 := Lib.hid (hN1.rd.below hbb)
      have HXB1 := Lib.hid (HXB.out.below hb1)
      have HRB1 := Lib.hid (HRB.out.below hb1)
      have HB1 := Lib.hid (HB0.out.trans (hb1.mono HB0.out.size))
      clear hW1 hbb hb1 hN1
      refine (rmul_any (sg (A : Int)) (sg (A : Int)) a1 a1 _ _ c1 c1 (mg (A : Int)) (mg (A : Int)) _ HRX1.out HRX1.out rfl rfl (by omega) (by omega)).mono ?_
      rw [den_mg, dSQ.out]
      rintro e w2 ⟨a2, c2, rfl, hN2⟩
      go_wp2_with fail
      obtain ⟨W2, hW2⟩ : ∃ V, V = w2.alloc (.cells #[.bool (sg (SQ : Int)), .slice a2 (mg (SQ : Int)).length c2] 24) := ⟨_, rfl⟩
      rw [← hW2]
      have hbb : Below w2.heap.size w2 W2 := by rw [hW2]; exact (Below.refl _ _).alloc (Nat.le_refl _) _
      have HXS2 : Hid (Box w2.heap.size (.bool (sg (SQ : Int))) (.slice a2 (mg (SQ : Int)).length c2) W2) := by unfold Hid; rw [hW2]; exact Box.made _ _ rfl _ _ _
      have hb2 := hN2.below.trans (hbb.mono hN2.below.size)
      have HRS2 := Lib.hid (hN2.rd.below hbb)
      have HXX2 := Lib.hid (HXX1.out.below hb2)
      have HRX2 := Lib.hid (HRX1.out.below hb2)
      have HXB2 := Lib.hid (HXB1.out.below hb2)
      have HRB2 := Lib.hid (HRB1.out.below hb2)
      have HB2 := Lib.hid (HB1.out.trans (hb2.mono HB1.out.size))
      clear hW2 hbb hb2 hN2
      go_cut [7] from 28 (fun q wx => ∃ (g : Nat) (ma : Option Addr) (mc : Nat), q = .pointer (some ⟨g, 0, none⟩) ∧ Box g (.bool (sg (M : Int))) (.slice ma (mg (M : Int)).length mc) wx ∧ Apart W2.heap.size g g (mg (M : Int)) ma mc wx ∧ Below W2.heap.size W2 wx)
      case first =>
        go_region_held3 (fun w' => w'.cell? ⟨w.heap.size + 1, 0, none⟩ = some (.bool nb) ∧ w'.cell? ⟨w.heap.size + 1, 1, none⟩ = some (.slice b m cap') ∧ w'.cell? ⟨w1.heap.size, 0, none⟩ = some (.bool (sg (A : Int))) ∧ w'.cell? ⟨w1.heap.size, 1, none⟩ = some (.slice a1 (mg (A : Int)).length c1) ∧ Below W2.heap.size W2 w')
          (first | with_reducible exact two_draw HXB2.out HXX2.out | with_reducible exact two_of HXB2.out HXX2.out hby5 | with_reducible exact two_of HXB2.out HXX2.out hby4 | with_reducible exact two_of HXB2.out HXX2.out hby3 | with_reducible exact two_of HXB2.out HXX2.out hby2 | with_reducible exact two_of HXB2.out HXX2.out hby1 | with_reducible exact two_alloc HXB2.out HXX2.out _ (by assumption) | (refine two_of HXB2.out HXX2.out ?_; repeat (first | with_reducible exact hby5 | with_reducible exact Below.refl _ _ | with_reducible refine Below.drew ?_ | with_reducible refine Below.alloc ?_ ?_ _ | with_reducible refine Below.setCell ?_ ?_ _ | omega | (simp only [World.size_alloc]; omega) | (simp; omega))))
          ((first
            | (go_at_call 37; have hz := two_below (W := W2) (by assumption); have hq := two_rd HRB2.out (by assumption); refine (rabs_any nb b m cap' ys _ hq HL'.out (by omega)).mono ?_; clear hq; rw [dB.out]; rintro e y1 ⟨l1, k1, rfl, hM1⟩; have rl1 := hM1.rd; have hby1 := below_step hz hM1.below; have hr1 := hby1.size; have hs1 := hM1.below.size; clear hz; (first | have eb : Box (W2.heap.size) (.bool false) (.slice none 0 0) y1 := (by with_reducible exact ((Box.made W2 W2.heap.size rfl (.bool false) (.slice none 0 0) 24).below (Below.refl _ _).drew).below hM1.below) | skip); (try (have se1 := eb.size)))
            | (go_at_call 38; have hz := two_below (W := W2) (by assumption); have hq := two_rd HRX2.out (by assumption); have hq2 := radd_any (sg (A : Int)) (sg (A : Int)) a1 a1 _ _ c1 c1 (mg (A : Int)) (mg (A : Int)) _ hq hq rfl rfl (by omega) (by omega); (with_reducible refine hq2.mono ?_); clear hq hq2; rw [den_mg, dAA.out]; rintro e y2 ⟨l2, k2, rfl, hM2⟩; have rl2 := hM2.rd; (first | have rl1 := (by with_reducible exact rl1.below hM2.below) | have rl1 := (by with_reducible exact (rl1.alloc (Obj.cells #[Value.bool false, Value.slice none 0 0] 24)).below hM2.below)); have hby2 := below_step hz hM2.below; have hr2 := hby2.size; have hs2 := hM2.below.size; clear hz; (first | have eb : Box (y1.heap.size) (.bool false) (.slice none 0 0) y2 := (by with_reducible exact (Box.made y1 y1.heap.size rfl (.bool false) (.slice none 0 0) 24).below hM2.below) | have eb := (by with_reducible exact eb.below hM2.below) | skip); (try (have se2 := eb.size)))
            | (go_at_call 27; have hz := two_below (W := W2) (by assumption); refine (rsmall_any 1 _ (by omega) (by omega)).mono ?_; rintro e y3 ⟨l3, k3, rfl, hM3⟩; have rl3 := hM3.rd; (first | have rl1 := (by with_reducible exact rl1.below hM3.below) | have rl1 := (by with_reducible exact (rl1.alloc (Obj.cells #[Value.bool false, Value.slice none 0 0] 24)).below hM3.below)); (first | have rl2 := (by with_reducible exact rl2.below hM3.below) | have rl2 := (by with_reducible exact (rl2.alloc (Obj.cells #[Value.bool false, Value.slice none 0 0] 24)).below hM3.below)); have hby3 := below_step hz hM3.below; have hr3 := hby3.size; have hs3 := hM3.below.size; clear hz; (first | have eb : Box (y2.heap.size) (.bool false) (.slice none 0 0) y3 := (by with_reducible exact (Box.made y2 y2.heap.size rfl (.bool false) (.slice none 0 0) 24).below hM3.below) | have eb := (by with_reducible exact eb.below hM3.below) | skip); (try (have se3 := eb.size)))
            | (go_at_call 38; have hz := two_below (W := W2) (by assumption); refine (radd_any (sg (D0 : Int)) (sg 1) l2 l3 _ _ k2 k3 (mg (D0 : Int)) (mg 1) _ (by first | with_reducible exact rl2 | with_reducible exact rl2.alloc _) (by first | with_reducible exact rl3 | with_reducible exact rl3.alloc _) rfl rfl (by omega) (by omega)).mono ?_; rw [den_mg, den_mg, dD.out]; rintro e y4 ⟨l4, k4, rfl, hM4⟩; have rl4 := hM4.rd; (first | have rl1 := (by with_reducible exact rl1.below hM4.below) | have rl1 := (by with_reducible exact (rl1.alloc (Obj.cells #[Value.bool false, Value.slice none 0 0] 24)).below hM4.below)); have hby4 := below_step hz hM4.below; have hr4 := hby4.size; have hs4 := hM4.below.size; clear hz; (first | have eb : Box (y3.heap.size) (.bool false) (.slice none 0 0) y4 := (by with_reducible exact (Box.made y3 y3.heap.size rfl (.bool false) (.slice none 0 0) 24).below hM4.below) | have eb := (by with_reducible exact eb.below hM4.below) | skip); (try (have se4 := eb.size)))
            | (go_at_call 44; have hz := two_below (W := W2) (by assumption); refine (rrem_any (sg (B : Int)) (sg (D : Int)) l1 l4 _ _ k1 k4 (mg (B : Int)) (mg (D : Int)) _ (by first | with_reducible exact rl1 | with_reducible exact rl1.alloc _) (by first | with_reducible exact rl4 | with_reducible exact rl4.alloc _) rfl rfl (by omega) (by omega) (by rw [den_mg]; exact dD0.out)).mono ?_; rw [den_mg, den_mg, dM.out]; rintro e y5 ⟨l5, k5, rfl, hM5⟩; have hby5 := below_step hz hM5.below; have hr5 := hby5.size; have hs5 := hM5.below.size; clear hz; (first | have eb : Box (y4.heap.size) (.bool false) (.slice none 0 0) y5 := (by with_reducible exact (Box.made y4 y4.heap.size rfl (.bool false) (.slice none 0 0) 24).below hM5.below) | have eb := (by with_reducible exact eb.below hM5.below) | skip); (try (have eb' := eb; obtain ⟨b0, b1, b2, b3, b4⟩ := eb')))))
        all_goals go_wp2_with fail
        all_goals go_meet
        all_goals refine ⟨_, l5, k5, rfl, ?_, ?_, ?_⟩
        all_goals first
          | ((repeat (first | with_reducible assumption | with_reducible exact Box.made _ _ (by first | rfl | simp) _ _ _ | with_reducible refine Box.alloc ?_ _ | with_reducible refine Box.stored (u := .bool false) (v := .slice none 0 0) ?_ _ _)); done)
          | ((repeat (first | with_reducible exact Apart.of_new hM5 (by first | omega | (simp <;> omega)) (by first | omega | (simp <;> omega)) (by first | omega | (simp <;> omega)) | with_reducible refine Apart.alloc ?_ _ | with_reducible refine Apart.store1 ?_ _ _)); done)
          | ((repeat (first | with_reducible exact hby5 | with_reducible refine Below.alloc ?_ ?_ _ | with_reducible refine Below.setCell ?_ ?_ _ | omega | (simp only [World.size_alloc]; omega) | (simp; omega))); done)
      case rest =>
      obtain ⟨g, ma, mc, rfl, hBM, hAM, hbw⟩ := hcut
      have HBM := Lib.hid hBM
      have HRM := Lib.hid hAM.rd
      have HXX3 := Lib.hid (HXX2.out.below hbw)
      have HXS3 := Lib.hid (HXS2.out.below hbw)
      have HRX3 := Lib.hid (HRX2.out.below hbw)
      have HRS3 := Lib.hid (HRS2.out.below hbw)
      have HB3 := Lib.hid (HB2.out.trans (hbw.mono HB2.out.size))
      clear hBM hAM hbw
      obtain ⟨p0, p1, p2, p3, p4⟩ := HXS3.out
      go_wp2_with fail
      refine (sqrt_any divLong_any (sg (SQ : Int)) a2 _ c2 (mg (SQ : Int)) _ HRS3.out rfl (by omega) (by rw [den_mg]; omega)).mono ?_
      rintro e w4 ⟨s, sa, sc, hs1, hs2, rfl, hN4⟩
      have e1 := hs1.out
      have e2 := hs2.out
      rw [vSQ.out] at e1 e2
      obtain rfl : s = A := root_unique e1 e2 r1.out r2.out
      clear e1 e2 hs1 hs2 p0 p1 p2 p3 p4
      obtain ⟨p0, p1, p2, p3, p4⟩ := HXS3.out.below hN4.below
      obtain ⟨q0, q1, q2, q3, q4⟩ := HBM.out.below hN4.below
      go_wp2_with fail
      obtain ⟨W4, hW4⟩ : ∃ V, V = w4.alloc (.cells #[.bool (sg (s : Int)), .slice sa (mg (s : Int)).length sc] 24) := ⟨_, rfl⟩
      rw [← hW4]
      have hbb : Below w4.heap.size w4 W4 := by rw [hW4]; exact (Below.refl _ _).alloc (Nat.le_refl _) _
      have HXR4 : Hid (Box w4.heap.size (.bool (sg (s : Int))) (.slice sa (mg (s : Int)).length sc) W4) := by unfold Hid; rw [hW4]; exact Box.made _ _ rfl _ _ _
      have hb4 := hN4.below.trans (hbb.mono hN4.below.size)
      have HRR4 := Lib.hid (hN4.rd.below hbb)
      have HXX4 := Lib.hid (HXX3.out.below hb4)
      have HRX4 := Lib.hid (HRX3.out.below hb4)
      have HRS4 := Lib.hid (HRS3.out.below hb4)
      have HRM4 := Lib.hid (HRM.out.below hb4)
      have HB4 := Lib.hid (HB3.out.trans (hb4.mono HB3.out.size))
      clear hW4 hbb hb4 hN4 p0 p1 p2 p3 p4 q0 q1 q2 q3 q4
      refine (radd_any (sg (SQ : Int)) (sg (M : Int)) a2 ma _ _ c2 mc (mg (SQ : Int)) (mg (M : Int)) _ HRS4.out HRM4.out rfl rfl (by omega) (by omega)).mono ?_
      rw [den_mg, den_mg, dT.out]
      rintro e w5 ⟨a5, c5, rfl, hN5⟩
      go_wp2_with fail
      refine (sqrt_any divLong_any (sg (T : Int)) a5 _ c5 (mg (T : Int)) _ hN5.rd rfl (by omega) (by rw [den_mg]; omega)).mono ?_
      rintro e w6 ⟨s', ta, tc, hs1, hs2, rfl, hN6⟩
      have e1 := hs1.out
      have e2 := hs2.out
      rw [vT.out] at e1 e2
      obtain rfl : s' = s := root_unique e1 e2 r3.out r4.out
      have hb6 := hN5.below.trans (hN6.below.mono hN5.below.size)
      clear e1 e2 hs1 hs2
      obtain ⟨p0, p1, p2, p3, p4⟩ := HXR4.out.below hb6
      obtain ⟨q0, q1, q2, q3, q4⟩ := HXX4.out.below hb6
      go_wp2_with fail
      obtain ⟨W7, hW7⟩ : ∃ V, V = w6.alloc (.cells #[.bool (sg (s' : Int)), .slice ta (mg (s' : Int)).length tc] 24) := ⟨_, rfl⟩
      rw [← hW7]
      have hbb : Below w6.heap.size w6 W7 := by rw [hW7]; exact (Below.refl _ _).alloc (Nat.le_refl _) _
      have HXT7 : Hid (Box w6.heap.size (.bool (sg (s' : Int))) (.slice ta (mg (s' : Int)).length tc) W7) := by unfold Hid; rw [hW7]; exact Box.made _ _ rfl _ _ _
      have hb7 := hb6.trans (hbb.mono hb6.size)
      have HRT7 := Lib.hid (hN6.rd.below hbb)
      have HRR7 := Lib.hid (HRR4.out.below hb7)
      have HRX7 := Lib.hid (HRX4.out.below hb7)
      have HXX7 := Lib.hid (HXX4.out.below hb7)
      have HB7 := Lib.hid (HB4.out.trans (hb7.mono HB4.out.size))
      clear hW7 hbb hb7 hb6 hN5 hN6 p0 p1 p2 p3 p4 q0 q1 q2 q3 q4
      refine (same_true (sg (s' : Int)) sa a1 _ sc c1 (mg (s' : Int)) _ HRR7.out HRX7.out rfl (by omega)).mono ?_
      rintro e w8 ⟨rfl, hb8⟩
      obtain ⟨p0, p1, p2, p3, p4⟩ := HXT7.out.below hb8
      obtain ⟨q0, q1, q2, q3, q4⟩ := HXX7.out.below hb8
      go_wp2_with fail
      refine (same_true (sg (s' : Int)) ta a1 _ tc c1 (mg (s' : Int)) _ (HRT7.out.below hb8) (HRX7.out.below hb8) rfl (by omega)).mono ?_
      rintro e w9 ⟨rfl, hb9'⟩
      have hb9 := hb8.trans (hb9'.mono hb8.size)
      have hB9 := HB7.out.trans (hb9.mono HB7.out.size)
      clear p0 p1 p2 p3 p4 q0 q1 q2 q3 q4
      go_wp2_with fail
      refine (awake_any divLong_any _).mono ?_
      rintro e w10 ⟨rfl, hb10⟩
      have hB10 := hB9.trans (hb10.mono hB9.size)
      go_wp2_with fail
      go_ret
      exact ⟨rfl, hB10⟩
end Go.Proofs.YtllogjmepflnoaaDoor
