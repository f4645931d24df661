/-
  The walk of IntegerCommon.
-/
import Derived.Test.YtllogjmepflnoaaDoorTH
import Derived.Test.YtllogjmepflnoaaDoorMW
namespace Go.Proofs.YtllogjmepflnoaaDoor
open Go.RowKit

theorem val_mg (z : Int) : val (mg z) = z.natAbs := val_limbs _
theorem common_dvd (a b c : Int) : (((Nat.gcd (val (mg (a * c))) (val (mg (b * c))) : Nat) : Int) ∣ a * c) ∧ (((Nat.gcd (val (mg (a * c))) (val (mg (b * c))) : Nat) : Int) ∣ b * c) ∧ (c ∣ ((Nat.gcd (val (mg (a * c))) (val (mg (b * c))) : Nat) : Int)) := by
  rw [val_mg, val_mg]
  refine ⟨?_, ?_, ?_⟩
  · exact Int.ofNat_dvd_left.2 (Nat.gcd_dvd_left _ _)
  · exact Int.ofNat_dvd_left.2 (Nat.gcd_dvd_right _ _)
  · rw [Int.ofNat_dvd_right]
    refine Nat.dvd_gcd ?_ ?_
    · rw [Int.natAbs_mul]; exact Nat.dvd_mul_left _ _
    · rw [Int.natAbs_mul]; exact Nat.dvd_mul_left _ _

attribute [local go_sem ↓] Go.wp_at_zero Go.wp_at_succ

set_option maxRecDepth 100000 in
set_option maxHeartbeats 8000000 in
theorem integerCommon_walk (na nb nc : Bool) (a b c : Option Addr) (n m k cap cap' cap'' : Nat) (xs ys zs : List Nat) (w : World) (rdx : Rd w a cap xs) (rdy : Rd w b cap' ys) (rdz : Rd w c cap'' zs) (hl : xs.length = n) (hl' : ys.length = m) (hlz : zs.length = k) :
    Calls Tryd.prog 11 #[.agg #[.bool na, .slice a n cap], .agg #[.bool nb, .slice b m cap'], .agg #[.bool nc, .slice c k cap'']] w fun e w' => e = .returned (.bool true) ∧ Below w.heap.size w w' := by
  obtain ⟨W, hW⟩ : ∃ W, W = ((w.alloc (.cells #[.bool na, .slice a n cap] 24)).alloc (.cells #[.bool nb, .slice b m cap'] 24)).alloc (.cells #[.bool nc, .slice c k cap''] 24) := ⟨_, rfl⟩
  have hb0 : Below w.heap.size w W := by rw [hW]; exact (((Below.refl _ _).alloc (Nat.le_refl _) _).alloc (by simp) _).alloc (by simp; omega) _
  have hxa : Box w.heap.size (.bool na) (.slice a n cap) W := by rw [hW]; exact ((Box.made _ _ rfl _ _ _).alloc _).alloc _
  have hxb : Box (w.heap.size + 1) (.bool nb) (.slice b m cap') W := by rw [hW]; exact (Box.made _ _ (by simp) _ _ _).alloc _
  have hxc : Box (w.heap.size + 2) (.bool nc) (.slice c k cap'') W := by rw [hW]; exact Box.made _ _ (by simp) _ _ _
  have HW := Lib.hid hW
  have HL := Lib.hid hl
  have HL' := Lib.hid hl'
  have HLC := Lib.hid hlz
  have HB0 := Lib.hid hb0
  have HXA := Lib.hid hxa
  have HXB := Lib.hid hxb
  have HXC := Lib.hid hxc
  have HRA := Lib.hid (rdx.below hb0)
  have HRB := Lib.hid (rdy.below hb0)
  have HRC := Lib.hid (rdz.below hb0)
  have hlx := rdx.lim
  have hly := rdy.lim
  have hlz' := rdz.lim
  clear hW hl hl' hlz rdx rdy rdz hb0 hxa hxb hxc
  by_cases h1 : 6 < n
  · have d1 : decide ((6 : Int) < (n : Int)) = true := decide_eq_true (by omega)
    clear h1
    go_enter Tryd.func11, Tryd.ntmps11
    go_wp2_with fail
    rw [← HW.out]
    obtain ⟨p0, p1, p2, p3, p4⟩ := HXA.out
    obtain ⟨q0, q1, q2, q3, q4⟩ := HXB.out
    obtain ⟨r0, r1, r2, r3, r4⟩ := HXC.out
    go_wp2_with fail
    refine (awake_any divLong_any _).mono ?_
    rintro e w9 ⟨rfl, hb9⟩
    have hB9 := HB0.out.trans (hb9.mono HB0.out.size)
    go_wp2_with fail
    go_ret
    exact ⟨rfl, hB9⟩
  · have d1 : decide ((6 : Int) < (n : Int)) = false := decide_eq_false (by omega)
    by_cases h2 : 6 < m
    · have d2 : decide ((6 : Int) < (m : Int)) = true := decide_eq_true (by omega)
      clear h1 h2
      go_enter Tryd.func11, Tryd.ntmps11
      go_wp2_with fail
      rw [← HW.out]
      obtain ⟨p0, p1, p2, p3, p4⟩ := HXA.out
      obtain ⟨q0, q1, q2, q3, q4⟩ := HXB.out
      obtain ⟨r0, r1, r2, r3, r4⟩ := HXC.out
      go_wp2_with fail
      refine (awake_any divLong_any _).mono ?_
      rintro e w9 ⟨rfl, hb9⟩
      have hB9 := HB0.out.trans (hb9.mono HB0.out.size)
      go_wp2_with fail
      go_ret
      exact ⟨rfl, hB9⟩
    · have d2 : decide ((6 : Int) < (m : Int)) = false := decide_eq_false (by omega)
      by_cases h3 : 4 < k
      · have d3 : decide ((4 : Int) < (k : Int)) = true := decide_eq_true (by omega)
        clear h1 h2 h3
        go_enter Tryd.func11, Tryd.ntmps11
        go_wp2_with fail
        rw [← HW.out]
        obtain ⟨p0, p1, p2, p3, p4⟩ := HXA.out
        obtain ⟨q0, q1, q2, q3, q4⟩ := HXB.out
        obtain ⟨r0, r1, r2, r3, r4⟩ := HXC.out
        go_wp2_with fail
        refine (awake_any divLong_any _).mono ?_
        rintro e w9 ⟨rfl, hb9⟩
        have hB9 := HB0.out.trans (hb9.mono HB0.out.size)
        go_wp2_with fail
        go_ret
        exact ⟨rfl, hB9⟩
      · have d3 : decide ((4 : Int) < (k : Int)) = false := decide_eq_false (by omega)
        have hn : n ≤ 6 := by omega
        have hm : m ≤ 6 := by omega
        have hk : k ≤ 4 := by omega
        clear h1 h2 h3
        have hml1 := mg_mul_len na nc hlx hlz'
        have hml2 := mg_mul_len nb nc hly hlz'
        rw [HL.out, HLC.out] at hml1
        rw [HL'.out, HLC.out] at hml2
        obtain ⟨v1, v2, v3⟩ := common_dvd (den na xs) (den nb ys) (den nc zs)
        obtain ⟨zx, hzx⟩ : ∃ z, z = den na xs * den nc zs := ⟨_, rfl⟩
        obtain ⟨zy, hzy⟩ : ∃ z, z = den nb ys * den nc zs := ⟨_, rfl⟩
        rw [← hzx] at hml1 v1 v2 v3
        rw [← hzy] at hml2 v1 v2 v3
        obtain ⟨G, hG⟩ : ∃ G, G = Nat.gcd (val (mg zx)) (val (mg zy)) := ⟨_, rfl⟩
        rw [← hG] at v1 v2 v3
        have hgl : (mg (G : Int)).length ≤ 10 := by
          refine length_limbs_le ?_
          simp only [Int.natAbs_natCast]
          have h1 := val_lt (Lim_mg zx)
          have h2 := val_lt (Lim_mg zy)
          have h1' := Nat.lt_of_lt_of_le h1 (Nat.pow_le_pow_right (show 0 < 4294967296 by omega) (show (mg zx).length ≤ 10 by omega))
          have h2' := Nat.lt_of_lt_of_le h2 (Nat.pow_le_pow_right (show 0 < 4294967296 by omega) (show (mg zy).length ≤ 10 by omega))
          rcases Nat.eq_zero_or_pos (val (mg zx)) with h | h
          · rw [hG, h, Nat.gcd_zero_left]; exact h2'
          · rw [hG]; exact Nat.lt_of_le_of_lt (Nat.gcd_le_left _ h) h1'
        have hsg : decide (0 ≤ sign3 (G : Int)) = true := by unfold sign3; rw [if_neg (by omega)]; split <;> simp
        have HZX := Lib.hid hzx
        have HZY := Lib.hid hzy
        have HG := Lib.hid hG
        have HV1 := Lib.hid v1
        have HV2 := Lib.hid v2
        have HV3 := Lib.hid v3
        have hw8 : w.heap.size + 3 ≤ W.heap.size := by have := HXC.out.size; omega
        clear hzx hzy hG v1 v2 v3
        go_enter Tryd.func11, Tryd.ntmps11
        go_wp2_with fail
        rw [← HW.out]
        obtain ⟨p0, p1, p2, p3, p4⟩ := HXA.out
        obtain ⟨q0, q1, q2, q3, q4⟩ := HXB.out
        obtain ⟨r0, r1, r2, r3, r4⟩ := HXC.out
        go_wp2_with fail
        clear p0 p1 p2 p3 p4 q0 q1 q2 q3 q4 r0 r1 r2 r3 r4
        have hdz : Hid (W.heap.size = W.drew.heap.size) := Lib.hid rfl
        have hdz2 : Hid (W.heap.size + 1 = (W.alloc (Obj.cells #[Value.bool false, Value.slice none 0 0] 24)).heap.size) := Lib.hid (by simp)
        go_cut [7, 8] from 27 (fun q r wx => ∃ (gq gr : Nat) (qa : Option Addr) (qc : Nat) (ra : Option Addr) (rc : Nat), q = .pointer (some ⟨gq, 0, none⟩) ∧ r = .pointer (some ⟨gr, 0, none⟩) ∧ gq ≠ gr ∧ W.heap.size ≤ gq ∧ W.heap.size ≤ gr ∧ Box gq (.bool (sg (zx))) (.slice qa (mg (zx)).length qc) wx ∧ Box gr (.bool (sg (zy))) (.slice ra (mg (zy)).length rc) wx ∧ Apart W.heap.size gq gr (mg (zx)) qa qc wx ∧ Apart W.heap.size gq gr (mg (zy)) ra rc wx ∧ Below W.heap.size W wx)
        case first =>
          go_region_held3 (fun w' => w'.cell? ⟨w.heap.size, 0, none⟩ = some (.bool na) ∧ w'.cell? ⟨w.heap.size, 1, none⟩ = some (.slice a n cap) ∧ w'.cell? ⟨w.heap.size + 1, 0, none⟩ = some (.bool nb) ∧ w'.cell? ⟨w.heap.size + 1, 1, none⟩ = some (.slice b m cap') ∧ w'.cell? ⟨w.heap.size + 2, 0, none⟩ = some (.bool nc) ∧ w'.cell? ⟨w.heap.size + 2, 1, none⟩ = some (.slice c k cap'') ∧ Below W.heap.size W w')
            (first | with_reducible exact three_draw HXA.out HXB.out HXC.out | with_reducible exact three_of HXA.out HXB.out HXC.out hb11 | with_reducible exact three_of HXA.out HXB.out HXC.out hb10 | with_reducible exact three_alloc HXA.out HXB.out HXC.out _ (by assumption) | (refine three_of HXA.out HXB.out HXC.out ?_; repeat (first | with_reducible exact hb11 | with_reducible exact hb10 | with_reducible exact Below.refl _ _ | with_reducible refine Below.drew ?_ | with_reducible refine Below.alloc ?_ ?_ _ | with_reducible refine Below.setCell ?_ ?_ _ | omega | (simp only [World.size_alloc]; omega) | (simp; omega))))
            ((first
              | (go_at_call 34; have hby := three_below (W := W) (by assumption); have hq := three_rd HRA.out (by assumption); have hq' := three_rd HRC.out (by assumption); have hq2 := rmul_any na nc a c n k cap cap'' xs zs _ hq hq' HL.out HLC.out (by omega) (by omega); (with_reducible refine hq2.mono ?_); clear hq hq' hq2; rintro e w10 ⟨a10, c10, rfl, hN10⟩; rw [← HZX.out] at hN10; rw [← HZX.out]; have hb10 : Below W.heap.size W w10 := below_step hby hN10.below; have hs10 := hb10.size; have hz10 := hN10.below.size
                 (first
                  | (have e1 : Box (W.heap.size) (.bool false) (.slice none 0 0) w10 := (by with_reducible exact (((Box.made W W.heap.size rfl (.bool false) (.slice none 0 0) 24).alloc (Obj.cells #[Value.bool false, Value.slice none 0 0] 24)).below (Below.refl _ _).drew).below hN10.below); have s1 := e1.size; have e2 : Box (W.heap.size + 1) (.bool false) (.slice none 0 0) w10 := (by with_reducible exact ((Box.made (W.alloc (Obj.cells #[Value.bool false, Value.slice none 0 0] 24)) (W.heap.size + 1) hdz2.out (.bool false) (.slice none 0 0) 24).below (Below.refl _ _).drew).below hN10.below); have s2 := e2.size)
                  | (have e1 : Box (W.heap.size) (.bool false) (.slice none 0 0) w10 := (by with_reducible exact ((Box.made W W.heap.size rfl (.bool false) (.slice none 0 0) 24).below (Below.refl _ _).drew).below hN10.below); have s1 := e1.size)
                  | skip))
              | (go_at_call 34; have hby := three_below (W := W) (by assumption); have hq := three_rd HRB.out (by assumption); have hq' := three_rd HRC.out (by assumption); have hq2 := rmul_any nb nc b c m k cap' cap'' ys zs _ hq hq' HL'.out HLC.out (by omega) (by omega); (with_reducible refine hq2.mono ?_); clear hq hq' hq2; rintro e w11 ⟨a11, c11, rfl, hN11⟩; rw [← HZY.out] at hN11; rw [← HZY.out]; have hb11 : Below W.heap.size W w11 := below_step hby hN11.below; have hs11 := hb11.size; have hz11 := hN11.below.size
                 (first
                  | (have f1 : Box (w10.heap.size) (.bool false) (.slice none 0 0) w11 := (by with_reducible exact ((Box.made w10 w10.heap.size rfl (.bool false) (.slice none 0 0) 24).alloc (Obj.cells #[Value.bool false, Value.slice none 0 0] 24)).below hN11.below); have f2 : Box (w10.heap.size + 1) (.bool false) (.slice none 0 0) w11 := (by with_reducible exact (Box.made (w10.alloc (Obj.cells #[Value.bool false, Value.slice none 0 0] 24)) (w10.heap.size + 1) (by simp) (.bool false) (.slice none 0 0) 24).below hN11.below); have n1 : w10.heap.size ≠ w10.heap.size + 1 := (by omega); have n2 := Ne.symm n1; have f1' := f1; have f2' := f2; obtain ⟨b0, b1, b2, b3, b4⟩ := f1'; obtain ⟨d0, d1, d2, d3, d4⟩ := f2')
                  | (have f1 : Box (W.heap.size) (.bool false) (.slice none 0 0) w11 := (by with_reducible exact (e1.alloc (Obj.cells #[Value.bool false, Value.slice none 0 0] 24)).below hN11.below); have f2 : Box (w10.heap.size) (.bool false) (.slice none 0 0) w11 := (by with_reducible exact (Box.made w10 w10.heap.size rfl (.bool false) (.slice none 0 0) 24).below hN11.below); have n0 := e1.size; have n1 : W.heap.size ≠ w10.heap.size := (by omega); have n2 := Ne.symm n1; have f1' := f1; have f2' := f2; obtain ⟨b0, b1, b2, b3, b4⟩ := f1'; obtain ⟨d0, d1, d2, d3, d4⟩ := f2')
                  | (have f1 : Box (w10.heap.size) (.bool false) (.slice none 0 0) w11 := (by with_reducible exact (Box.made w10 w10.heap.size rfl (.bool false) (.slice none 0 0) 24).below hN11.below); have f1' := f1; obtain ⟨b0, b1, b2, b3, b4⟩ := f1')
                  | (have f1 : Box (W.heap.size) (.bool false) (.slice none 0 0) w11 := (by with_reducible exact e1.below hN11.below); have f2 : Box (W.heap.size + 1) (.bool false) (.slice none 0 0) w11 := (by with_reducible exact e2.below hN11.below); have n1 : W.heap.size ≠ W.heap.size + 1 := (by omega); have n2 := Ne.symm n1; have f1' := f1; have f2' := f2; obtain ⟨b0, b1, b2, b3, b4⟩ := f1'; obtain ⟨d0, d1, d2, d3, d4⟩ := f2')
                  | (have f1 : Box (W.heap.size) (.bool false) (.slice none 0 0) w11 := (by with_reducible exact e1.below hN11.below); have f1' := f1; obtain ⟨b0, b1, b2, b3, b4⟩ := f1')
                  | skip))))
          all_goals go_wp2_with fail
          all_goals go_meet
          all_goals refine ⟨_, _, a10, c10, a11, c11, rfl, rfl, ?_, ?_, ?_, ?_, ?_, ?_, ?_, ?_⟩
          all_goals first
            | omega
            | ((repeat (first | with_reducible exact hb11 | with_reducible refine Below.alloc ?_ ?_ _ | with_reducible refine Below.setCell ?_ ?_ _ | omega | (simp only [World.size_alloc]; omega) | (simp; omega))); done)
            | ((repeat (first | with_reducible assumption | with_reducible exact Box.made _ _ (by first | rfl | simp) _ _ _ | with_reducible refine Box.alloc ?_ _ | with_reducible refine Box.stored (u := .bool false) (v := .slice none 0 0) ?_ _ _ | with_reducible refine Box.other ?_ (by first | omega | (simp <;> omega)) _ _)); done)
            | ((repeat (first | with_reducible exact Apart.of_new hN10 (by first | omega | (simp <;> omega)) (by first | omega | (simp <;> omega)) (by first | omega | (simp <;> omega)) | with_reducible refine Apart.below ?_ hN11.below | with_reducible refine Apart.alloc ?_ _ | with_reducible refine Apart.store1 ?_ _ _ | with_reducible refine Apart.store2 ?_ _ _)); done)
            | ((repeat (first | with_reducible exact Apart.of_new hN11 (by first | omega | (simp <;> omega)) (by first | omega | (simp <;> omega)) (by first | omega | (simp <;> omega)) | with_reducible refine Apart.alloc ?_ _ | with_reducible refine Apart.store1 ?_ _ _ | with_reducible refine Apart.store2 ?_ _ _)); done)
        case rest =>
        obtain ⟨gx, gy, xa, xc, ya, yc, rfl, rfl, hne, hgx, hgy, hBX, hBY, hAX, hAY, hBw⟩ := hcut
        have HBX := Lib.hid hBX
        have HBY := Lib.hid hBY
        have HRX := Lib.hid hAX.rd
        have HRY := Lib.hid hAY.rd
        have HRC1 := Lib.hid (HRC.out.below hBw)
        have HXC1 := Lib.hid (HXC.out.below hBw)
        have HB1 := Lib.hid (HB0.out.trans (hBw.mono HB0.out.size))
        clear hAX hAY hBw
        obtain ⟨p0, p1, p2, p3, p4⟩ := hBX
        obtain ⟨q0, q1, q2, q3, q4⟩ := hBY
        go_wp2_with fail
        refine (gcd_any (sg zx) (sg zy) xa ya _ _ xc yc (mg zx) (mg zy) _ HRX.out HRY.out rfl rfl (by omega) (by omega)).mono ?_
        rw [← HG.out]
        rintro e w3 ⟨a3, c3, rfl, hN3⟩
        go_wp2_with fail
        obtain ⟨W4, hW4⟩ : ∃ V, V = w3.alloc (.cells #[.bool (sg (G : Int)), .slice a3 (mg (G : Int)).length c3] 24) := ⟨_, rfl⟩
        rw [← hW4]
        have hbb : Below w3.heap.size w3 W4 := by rw [hW4]; exact (Below.refl _ _).alloc (Nat.le_refl _) _
        have HXG : Hid (Box w3.heap.size (.bool (sg (G : Int))) (.slice a3 (mg (G : Int)).length c3) W4) := by unfold Hid; rw [hW4]; exact Box.made _ _ rfl _ _ _
        have hb4 := hN3.below.trans (hbb.mono hN3.below.size)
        have HRG4 := Lib.hid (hN3.rd.below hbb)
        have HBX4 := Lib.hid (HBX.out.below hb4)
        have HBY4 := Lib.hid (HBY.out.below hb4)
        have HRX4 := Lib.hid (HRX.out.below hb4)
        have HRY4 := Lib.hid (HRY.out.below hb4)
        have HRC4 := Lib.hid (HRC1.out.below hb4)
        have HXC4 := Lib.hid (HXC1.out.below hb4)
        have HB4 := Lib.hid (HB1.out.trans (hb4.mono HB1.out.size))
        clear hW4 hbb hb4 hN3 p0 p1 p2 p3 p4 q0 q1 q2 q3 q4
        obtain ⟨g0, g1, g2, g3, g4⟩ := HXG.out
        go_wp2_with fail
        refine (sign_any (sg (G : Int)) a3 _ c3 (mg (G : Int)) _ HRG4.out rfl (by omega)).mono ?_
        rw [den_mg]
        rintro e w5 ⟨rfl, hb5⟩
        clear g0 g1 g2 g3 g4
        obtain ⟨g0, g1, g2, g3, g4⟩ := HXG.out.below hb5
        obtain ⟨p0, p1, p2, p3, p4⟩ := HBX4.out.below hb5
        go_wp2_with fail
        refine (rdivides_true (sg (G : Int)) (sg zx) a3 xa _ _ c3 xc (mg (G : Int)) (mg zx) _ (HRG4.out.below hb5) (HRX4.out.below hb5) rfl rfl (by omega) (by omega) (by rw [den_mg, den_mg]; exact HV1.out)).mono ?_
        rintro e w6 ⟨rfl, hb6'⟩
        have hb6 := hb5.trans (hb6'.mono hb5.size)
        clear g0 g1 g2 g3 g4 p0 p1 p2 p3 p4
        obtain ⟨g0, g1, g2, g3, g4⟩ := HXG.out.below hb6
        obtain ⟨p0, p1, p2, p3, p4⟩ := HBY4.out.below hb6
        go_wp2_with fail
        refine (rdivides_true (sg (G : Int)) (sg zy) a3 ya _ _ c3 yc (mg (G : Int)) (mg zy) _ (HRG4.out.below hb6) (HRY4.out.below hb6) rfl rfl (by omega) (by omega) (by rw [den_mg, den_mg]; exact HV2.out)).mono ?_
        rintro e w7 ⟨rfl, hb7'⟩
        have hb7 := hb6.trans (hb7'.mono hb6.size)
        clear g0 g1 g2 g3 g4 p0 p1 p2 p3 p4
        obtain ⟨g0, g1, g2, g3, g4⟩ := HXG.out.below hb7
        obtain ⟨p0, p1, p2, p3, p4⟩ := HXC4.out.below hb7
        go_wp2_with fail
        refine (rdivides_true nc (sg (G : Int)) c a3 k _ cap'' c3 zs (mg (G : Int)) _ (HRC4.out.below hb7) (HRG4.out.below hb7) HLC.out rfl (by omega) (by omega) (by rw [den_mg]; exact HV3.out)).mono ?_
        rintro e w8 ⟨rfl, hb8'⟩
        have hb8 := hb7.trans (hb8'.mono hb7.size)
        have hB8 := HB4.out.trans (hb8.mono HB4.out.size)
        clear g0 g1 g2 g3 g4 p0 p1 p2 p3 p4
        go_wp2_with fail
        refine (awake_any divLong_any _).mono ?_
        rintro e w9 ⟨rfl, hb9⟩
        have hB9 := hB8.trans (hb9.mono hB8.size)
        go_wp2_with fail
        go_ret
        exact ⟨rfl, hB9⟩
end Go.Proofs.YtllogjmepflnoaaDoor
