/-
  The reference's Add and Sub.
-/
import Derived.Test.YtgnjjmbphangnaaDoorRB
import Derived.Test.YtgnjjmbphangnaaDoorMU
import Derived.Test.YtgnjjmbphangnaaDoorT
namespace Go.Proofs.YtgnjjmbphangnaaDoor
open Go.RowKit

theorem den_add_same (na : Bool) {xs ys zs : List Nat} (h : val zs = val xs + val ys) : den na zs = den na xs + den na ys := by
  unfold den; rw [h]; cases na <;> simp <;> omega
theorem den_sub_left (na : Bool) {xs ys zs : List Nat} (h : val zs = val xs - val ys) (hle : val ys ≤ val xs) : den na zs = den na xs + den (!na) ys := by
  unfold den; rw [h]; cases na <;> simp <;> omega
theorem den_sub_right (na : Bool) {xs ys zs : List Nat} (h : val zs = val ys - val xs) (hle : val xs ≤ val ys) : den (!na) zs = den na xs + den (!na) ys := by
  unfold den; rw [h]; cases na <;> simp <;> omega

attribute [local go_sem ↓] Go.wp_at_zero Go.wp_at_succ

set_option maxRecDepth 100000 in
set_option maxHeartbeats 4000000 in
theorem radd_any (na nb : Bool) (a b : Option Addr) (n m cap cap' : Nat) (xs ys : List Nat) (w : World) (rdx : Rd w a cap xs) (rdy : Rd w b cap' ys) (hl : xs.length = n) (hl' : ys.length = m) (hn : n ≤ 1000000000) (hm : m ≤ 1000000000) :
    Calls Tryd.prog 42 #[.agg #[.bool na, .slice a n cap], .agg #[.bool nb, .slice b m cap']] w (GivesInt w (den na xs + den nb ys)) := by
  have hlx := rdx.lim
  have hly := rdy.lim
  obtain ⟨V, hV⟩ : ∃ V, V = (w.alloc (.cells #[.bool na, .slice a n cap] 25)).alloc (.cells #[.bool nb, .slice b m cap'] 25) := ⟨_, rfl⟩
  obtain ⟨W, hW⟩ : ∃ W, W = V.alloc (.cells #[.bool false, .slice none 0 0] 25) := ⟨_, rfl⟩
  have hb0 : Below w.heap.size w V := by rw [hV]; exact ((Below.refl _ _).alloc (Nat.le_refl _) _).alloc (by simp) _
  have hVs : V.heap.size = w.heap.size + 2 := by rw [hV]; simp
  have hWs : W.heap.size = w.heap.size + 3 := by rw [hW, World.size_alloc, hVs]
  have hx0 : Box w.heap.size (.bool na) (.slice a n cap) V := by rw [hV]; exact (Box.made _ _ rfl _ _ _).alloc _
  have hx1 : Box (w.heap.size + 1) (.bool nb) (.slice b m cap') V := by rw [hV]; exact Box.made _ _ (by simp) _ _ _
  have hxa : Box w.heap.size (.bool na) (.slice a n cap) W := by rw [hW]; exact hx0.alloc _
  have hxb : Box (w.heap.size + 1) (.bool nb) (.slice b m cap') W := by rw [hW]; exact hx1.alloc _
  have hy : Box (w.heap.size + 2) (.bool false) (.slice none 0 0) W := by rw [hW]; exact Box.made _ _ hVs.symm _ _ _
  have hra : Rd W a cap xs := by rw [hW]; exact (rdx.below hb0).alloc _
  have hrb : Rd W b cap' ys := by rw [hW]; exact (rdy.below hb0).alloc _
  have hWW : ((w.alloc (.cells #[.bool na, .slice a n cap] 25)).alloc (.cells #[.bool nb, .slice b m cap'] 25)).alloc (.cells #[.bool false, .slice none 0 0] 25) = W := by rw [hW, hV]
  have hvx := val_trimL hlx
  have hvy := val_trimL hly
  have htx := trimL_trimL hlx
  have hty := trimL_trimL hly
  have hlenx : (trimL xs).length ≤ 1000000000 := Nat.le_trans (length_trimL_le xs) (by omega)
  have hleny : (trimL ys).length ≤ 1000000000 := Nat.le_trans (length_trimL_le ys) (by omega)
  have HWW := Lib.hid hWW
  have HW := Lib.hid hW
  have HVS := Lib.hid hVs
  have HWS := Lib.hid hWs
  have HB0 := Lib.hid hb0
  have HXA := Lib.hid hxa
  have HXB := Lib.hid hxb
  have HY := Lib.hid hy
  have HL := Lib.hid hl
  have HL' := Lib.hid hl'
  have HRA := Lib.hid hra
  have HRB := Lib.hid hrb
  have HVX := Lib.hid hvx
  have HVY := Lib.hid hvy
  have HTX := Lib.hid htx
  have HTY := Lib.hid hty
  have HNX := Lib.hid hlenx
  have HNY := Lib.hid hleny
  clear hWs hV hW hVs hb0 hx0 hx1 hWW hl hl' rdx rdy hy hra hrb hxa hxb hvx hvy htx hty hlenx hleny
  have hn1 : (trimL xs).length ≤ 1000000000 := HNX.out
  have hn2 : (trimL ys).length ≤ 1000000000 := HNY.out
  by_cases he : na = nb
  · have d0 : (na == nb) = true := by simp [he]
    have HE := Lib.hid he
    clear he
    go_enter Tryd.func42, Tryd.ntmps42
    go_wp2_with fail
    rw [HWW.out]
    go_region_held3 (fun w' => w'.cell? ⟨w.heap.size, 0, none⟩ = some (.bool na) ∧ w'.cell? ⟨w.heap.size, 1, none⟩ = some (.slice a n cap) ∧ w'.cell? ⟨w.heap.size + 1, 0, none⟩ = some (.bool nb) ∧ w'.cell? ⟨w.heap.size + 1, 1, none⟩ = some (.slice b m cap') ∧ Below W.heap.size W w')
      (first | exact two_draw HXA.out HXB.out | exact two_step HXA.out HXB.out (by assumption) hN6.below | exact two_step HXA.out HXB.out (by assumption) hN7.below)
      ((first
        | (go_at_call 39; have hq := two_rd HRA.out (by assumption); have hq2 := rtrim_any a n cap xs _ hq HL.out (by omega); (with_reducible refine hq2.mono ?_); clear hq hq2; rintro e w6 ⟨a6, c6, rfl, hN6⟩)
        | (go_at_call 39; have hq := two_rd HRB.out (by assumption); have hq2 := rtrim_any b m cap' ys _ hq HL'.out (by omega); (with_reducible refine hq2.mono ?_); clear hq hq2; rintro e w7 ⟨a7, c7, rfl, hN7⟩)))
    have hb7 : Below W.heap.size W w7 := two_below (by assumption)
    have hxa7 := HXA.out.below hb7
    have hxb7 := HXB.out.below hb7
    have hrx7 : Rd w7 a6 c6 (trimL xs) := hN6.rd.below hN7.below
    have hry7 : Rd w7 a7 c7 (trimL ys) := hN7.rd
    have hy7 := HY.out.below hb7
    have HB7 := Lib.hid hb7
    have HXA7 := Lib.hid hxa7
    have HXB7 := Lib.hid hxb7
    have HRX7 := Lib.hid hrx7
    have HRY7 := Lib.hid hry7
    have HY7 := Lib.hid hy7
    clear hb7 hrx7 hry7 hN6 hN7 hy7
    obtain ⟨p0, p1, p2, p3, p4⟩ := hxa7
    obtain ⟨q0, q1, q2, q3, q4⟩ := hxb7
    have HRX9 : Rd (w7).drew a6 c6 (trimL xs) := HRX7.out.below (Below.refl _ _).drew
    have HRY9 : Rd (w7).drew a7 c7 (trimL ys) := HRY7.out.below (Below.refl _ _).drew
    have hsz7 : w.heap.size + 3 ≤ (w7).heap.size := by have := HB7.out.size; have := HWS.out; omega
    go_wp2_with fail
    go_region_held3 (fun w' => w'.cell? ⟨w.heap.size, 0, none⟩ = some (.bool na) ∧ w'.cell? ⟨w.heap.size, 1, none⟩ = some (.slice a n cap) ∧ Below (w.heap.size + 2) (w7) w')
      (first | exact kept_draw HXA7.out (by omega) | assumption | exact kept_call HXA7.out (by omega) (by omega) (by assumption) hN8.below | exact kept_call HXA7.out (by omega) (by omega) (by assumption) hN9.below | exact kept_store HXA7.out (by omega) (by omega) _ _ (by assumption))
      ((first
        | (go_at_call 58; refine (rsum_any a6 a7 _ _ c6 c7 (trimL xs) (trimL ys) _ HRX9 HRY9 rfl rfl HNX.out HNY.out).mono ?_; rintro e w8 ⟨zs, a8, c8, hzv, hzl0, rfl, hN8⟩; have hzl : zs.length ≤ 1000000001 := (by omega); clear hzl0)
        | (go_at_call 40; refine (make_any na a8 zs.length c8 zs _ hN8.rd rfl (by omega)).mono ?_; rintro e w9 ⟨a9, c9, rfl, hN9⟩; obtain ⟨y0, y1, y2, y3, y4⟩ := HY7.out.below ((Below.refl _ _).drew.trans (hN8.below.trans (hN9.below.mono hN8.below.size))))))
    have hz : den na zs = den na xs + den nb ys := by rw [den_add_same na (xs := xs) (ys := ys) (by rw [hzv.out, HVX.out, HVY.out]), HE.out]
    rw [hz] at hN9
    rw [hz]
    clear hz
    have hB8 := HB7.out.trans (((Below.refl _ _).drew.trans hN8.below).mono HB7.out.size)
    have hN : New W (mg (den na xs + den nb ys)) a9 c9 w9 := New.before hB8 hN9
    rw [HW.out] at hN
    have hN3 := new_result hN
    rw [HVS.out] at hN3
    have hfin := New.before HB0.out (hN3 (.bool (sg (den na xs + den nb ys))) (.slice a9 (mg (den na xs + den nb ys)).length c9))
    have HF := Lib.hid hfin
    clear hN8 hN9 hN hN3 hfin hB8 p0 p1 p2 p3 p4 q0 q1 q2 q3 q4
    go_wp2_with fail
    exact bodyPost_ret (v := .agg #[.bool (sg (den na xs + den nb ys)), .slice a9 (mg (den na xs + den nb ys)).length c9]) (by simp [results, Tryd.results42, go_sem, y0, y1]) rfl ⟨a9, c9, rfl, HF.out⟩
  · have d0 : (na == nb) = false := by simp [he]
    have hnn : nb = !na := by cases na <;> cases nb <;> simp_all
    have HE := Lib.hid hnn
    clear he hnn
    by_cases hle : val ys ≤ val xs
    · have d1 : decide (0 ≤ cmpI (val xs) (val ys)) = true := by unfold cmpI; rw [if_neg (by omega)]; split <;> simp
      have HLE := Lib.hid hle
      clear hle
      go_enter Tryd.func42, Tryd.ntmps42
      go_wp2_with fail
      rw [HWW.out]
      go_region_held3 (fun w' => w'.cell? ⟨w.heap.size, 0, none⟩ = some (.bool na) ∧ w'.cell? ⟨w.heap.size, 1, none⟩ = some (.slice a n cap) ∧ w'.cell? ⟨w.heap.size + 1, 0, none⟩ = some (.bool nb) ∧ w'.cell? ⟨w.heap.size + 1, 1, none⟩ = some (.slice b m cap') ∧ Below W.heap.size W w')
        (first | exact two_draw HXA.out HXB.out | exact two_step HXA.out HXB.out (by assumption) hN6.below | exact two_step HXA.out HXB.out (by assumption) hN7.below)
        ((first
          | (go_at_call 39; have hq := two_rd HRA.out (by assumption); have hq2 := rtrim_any a n cap xs _ hq HL.out (by omega); (with_reducible refine hq2.mono ?_); clear hq hq2; rintro e w6 ⟨a6, c6, rfl, hN6⟩)
          | (go_at_call 39; have hq := two_rd HRB.out (by assumption); have hq2 := rtrim_any b m cap' ys _ hq HL'.out (by omega); (with_reducible refine hq2.mono ?_); clear hq hq2; rintro e w7 ⟨a7, c7, rfl, hN7⟩)))
      have hb7 : Below W.heap.size W w7 := two_below (by assumption)
      have hxa7 := HXA.out.below hb7
      have hxb7 := HXB.out.below hb7
      have hrx7 : Rd w7 a6 c6 (trimL xs) := hN6.rd.below hN7.below
      have hry7 : Rd w7 a7 c7 (trimL ys) := hN7.rd
      have hy7 := HY.out.below hb7
      have HB7 := Lib.hid hb7
      have HXA7 := Lib.hid hxa7
      have HXB7 := Lib.hid hxb7
      have HRX7 := Lib.hid hrx7
      have HRY7 := Lib.hid hry7
      have HY7 := Lib.hid hy7
      clear hb7 hrx7 hry7 hN6 hN7 hy7
      obtain ⟨p0, p1, p2, p3, p4⟩ := hxa7
      obtain ⟨q0, q1, q2, q3, q4⟩ := hxb7
      go_wp2_with fail
      have hq2 := rcmp_any a6 a7 _ _ c6 c7 (trimL xs) (trimL ys) _ HRX7.out HRY7.out rfl rfl (by omega) (by omega) (.inr ⟨HTX.out, HTY.out⟩)
      rw [HVX.out, HVY.out] at hq2
      refine hq2.mono ?_
      clear hq2
      rintro e w8 ⟨rfl, qq, rfl⟩
      have HBQ : Below w7.heap.size w7 (w7.drewN qq) := below_drewN (Below.refl _ _) qq
      have HXA8 := Lib.hid (HXA7.out.below HBQ)
      have HXB8 := Lib.hid (HXB7.out.below HBQ)
      have HRX8 := Lib.hid (HRX7.out.below HBQ)
      have HRY8 := Lib.hid (HRY7.out.below HBQ)
      have HY8 := Lib.hid (HY7.out.below HBQ)
      have HB8 := Lib.hid (HB7.out.trans (HBQ.mono HB7.out.size))
      clear HBQ
      have HRX9 : Rd ((w7.drewN qq)).drew a6 c6 (trimL xs) := HRX8.out.below (Below.refl _ _).drew
      have HRY9 : Rd ((w7.drewN qq)).drew a7 c7 (trimL ys) := HRY8.out.below (Below.refl _ _).drew
      have hsz7 : w.heap.size + 3 ≤ ((w7.drewN qq)).heap.size := by have := HB8.out.size; have := HWS.out; omega
      go_wp2_with fail
      go_region_held3 (fun w' => w'.cell? ⟨w.heap.size, 0, none⟩ = some (.bool na) ∧ w'.cell? ⟨w.heap.size, 1, none⟩ = some (.slice a n cap) ∧ Below (w.heap.size + 2) ((w7.drewN qq)) w')
        (first | exact kept_draw HXA8.out (by omega) | assumption | exact kept_call HXA8.out (by omega) (by omega) (by assumption) hN10.below | exact kept_call HXA8.out (by omega) (by omega) (by assumption) hN9.below | exact kept_store HXA8.out (by omega) (by omega) _ _ (by assumption))
        ((first
          | (go_at_call 57; refine (rdiff_any a6 a7 _ _ c6 c7 (trimL xs) (trimL ys) _ HRX9 HRY9 rfl rfl HNX.out HNY.out (by rw [HVX.out, HVY.out]; exact HLE.out)).mono ?_; rintro e w10 ⟨zs, a10, c10, hzv, hzl0, rfl, hN10⟩; have hzl : zs.length ≤ 1000000001 := (by omega); clear hzl0)
          | (go_at_call 40; refine (make_any na a10 zs.length c10 zs _ hN10.rd rfl (by omega)).mono ?_; rintro e w9 ⟨a9, c9, rfl, hN9⟩; obtain ⟨y0, y1, y2, y3, y4⟩ := HY8.out.below ((Below.refl _ _).drew.trans (hN10.below.trans (hN9.below.mono hN10.below.size))))))
      have hz : den na zs = den na xs + den nb ys := by rw [den_sub_left na (xs := xs) (ys := ys) (by rw [hzv.out, HVX.out, HVY.out]) HLE.out, HE.out]
      rw [hz] at hN9
      rw [hz]
      clear hz
      have hB8 := HB8.out.trans (((Below.refl _ _).drew.trans hN10.below).mono HB8.out.size)
      have hN : New W (mg (den na xs + den nb ys)) a9 c9 w9 := New.before hB8 hN9
      rw [HW.out] at hN
      have hN3 := new_result hN
      rw [HVS.out] at hN3
      have hfin := New.before HB0.out (hN3 (.bool (sg (den na xs + den nb ys))) (.slice a9 (mg (den na xs + den nb ys)).length c9))
      have HF := Lib.hid hfin
      clear hN10 hN9 hN hN3 hfin hB8 p0 p1 p2 p3 p4 q0 q1 q2 q3 q4
      go_wp2_with fail
      exact bodyPost_ret (v := .agg #[.bool (sg (den na xs + den nb ys)), .slice a9 (mg (den na xs + den nb ys)).length c9]) (by simp [results, Tryd.results42, go_sem, y0, y1]) rfl ⟨a9, c9, rfl, HF.out⟩
    · have d1 : decide (0 ≤ cmpI (val xs) (val ys)) = false := by unfold cmpI; rw [if_pos (by omega)]; simp
      have hle2 : val xs ≤ val ys := by omega
      have HLE := Lib.hid hle2
      clear hle hle2
      go_enter Tryd.func42, Tryd.ntmps42
      go_wp2_with fail
      rw [HWW.out]
      go_region_held3 (fun w' => w'.cell? ⟨w.heap.size, 0, none⟩ = some (.bool na) ∧ w'.cell? ⟨w.heap.size, 1, none⟩ = some (.slice a n cap) ∧ w'.cell? ⟨w.heap.size + 1, 0, none⟩ = some (.bool nb) ∧ w'.cell? ⟨w.heap.size + 1, 1, none⟩ = some (.slice b m cap') ∧ Below W.heap.size W w')
        (first | exact two_draw HXA.out HXB.out | exact two_step HXA.out HXB.out (by assumption) hN6.below | exact two_step HXA.out HXB.out (by assumption) hN7.below)
        ((first
          | (go_at_call 39; have hq := two_rd HRA.out (by assumption); have hq2 := rtrim_any a n cap xs _ hq HL.out (by omega); (with_reducible refine hq2.mono ?_); clear hq hq2; rintro e w6 ⟨a6, c6, rfl, hN6⟩)
          | (go_at_call 39; have hq := two_rd HRB.out (by assumption); have hq2 := rtrim_any b m cap' ys _ hq HL'.out (by omega); (with_reducible refine hq2.mono ?_); clear hq hq2; rintro e w7 ⟨a7, c7, rfl, hN7⟩)))
      have hb7 : Below W.heap.size W w7 := two_below (by assumption)
      have hxa7 := HXA.out.below hb7
      have hxb7 := HXB.out.below hb7
      have hrx7 : Rd w7 a6 c6 (trimL xs) := hN6.rd.below hN7.below
      have hry7 : Rd w7 a7 c7 (trimL ys) := hN7.rd
      have hy7 := HY.out.below hb7
      have HB7 := Lib.hid hb7
      have HXA7 := Lib.hid hxa7
      have HXB7 := Lib.hid hxb7
      have HRX7 := Lib.hid hrx7
      have HRY7 := Lib.hid hry7
      have HY7 := Lib.hid hy7
      clear hb7 hrx7 hry7 hN6 hN7 hy7
      obtain ⟨p0, p1, p2, p3, p4⟩ := hxa7
      obtain ⟨q0, q1, q2, q3, q4⟩ := hxb7
      go_wp2_with fail
      have hq2 := rcmp_any a6 a7 _ _ c6 c7 (trimL xs) (trimL ys) _ HRX7.out HRY7.out rfl rfl (by omega) (by omega) (.inr ⟨HTX.out, HTY.out⟩)
      rw [HVX.out, HVY.out] at hq2
      refine hq2.mono ?_
      clear hq2
      rintro e w8 ⟨rfl, qq, rfl⟩
      have HBQ : Below w7.heap.size w7 (w7.drewN qq) := below_drewN (Below.refl _ _) qq
      have HXA8 := Lib.hid (HXA7.out.below HBQ)
      have HXB8 := Lib.hid (HXB7.out.below HBQ)
      have HRX8 := Lib.hid (HRX7.out.below HBQ)
      have HRY8 := Lib.hid (HRY7.out.below HBQ)
      have HY8 := Lib.hid (HY7.out.below HBQ)
      have HB8 := Lib.hid (HB7.out.trans (HBQ.mono HB7.out.size))
      clear HBQ
      have HRX9 : Rd ((w7.drewN qq)).drew a6 c6 (trimL xs) := HRX8.out.below (Below.refl _ _).drew
      have HRY9 : Rd ((w7.drewN qq)).drew a7 c7 (trimL ys) := HRY8.out.below (Below.refl _ _).drew
      have hsz7 : w.heap.size + 3 ≤ ((w7.drewN qq)).heap.size := by have := HB8.out.size; have := HWS.out; omega
      go_wp2_with fail
      go_region_held3 (fun w' => w'.cell? ⟨w.heap.size + 1, 0, none⟩ = some (.bool nb) ∧ w'.cell? ⟨w.heap.size + 1, 1, none⟩ = some (.slice b m cap') ∧ Below (w.heap.size + 2) ((w7.drewN qq)) w')
        (first | exact kept_draw HXB8.out (by omega) | assumption | exact kept_call HXB8.out (by omega) (by omega) (by assumption) hN10.below | exact kept_call HXB8.out (by omega) (by omega) (by assumption) hN9.below | exact kept_store HXB8.out (by omega) (by omega) _ _ (by assumption))
        ((first
          | (go_at_call 57; refine (rdiff_any a7 a6 _ _ c7 c6 (trimL ys) (trimL xs) _ HRY9 HRX9 rfl rfl HNY.out HNX.out (by rw [HVX.out, HVY.out]; exact HLE.out)).mono ?_; rintro e w10 ⟨zs, a10, c10, hzv, hzl0, rfl, hN10⟩; have hzl : zs.length ≤ 1000000001 := (by omega); clear hzl0)
          | (go_at_call 40; refine (make_any nb a10 zs.length c10 zs _ hN10.rd rfl (by omega)).mono ?_; rintro e w9 ⟨a9, c9, rfl, hN9⟩; obtain ⟨y0, y1, y2, y3, y4⟩ := HY8.out.below ((Below.refl _ _).drew.trans (hN10.below.trans (hN9.below.mono hN10.below.size))))))
      have hz : den nb zs = den na xs + den nb ys := by rw [HE.out, den_sub_right na (xs := xs) (ys := ys) (by rw [hzv.out, HVX.out, HVY.out]) HLE.out]
      rw [hz] at hN9
      rw [hz]
      clear hz
      have hB8 := HB8.out.trans (((Below.refl _ _).drew.trans hN10.below).mono HB8.out.size)
      have hN : New W (mg (den na xs + den nb ys)) a9 c9 w9 := New.before hB8 hN9
      rw [HW.out] at hN
      have hN3 := new_result hN
      rw [HVS.out] at hN3
      have hfin := New.before HB0.out (hN3 (.bool (sg (den na xs + den nb ys))) (.slice a9 (mg (den na xs + den nb ys)).length c9))
      have HF := Lib.hid hfin
      clear hN10 hN9 hN hN3 hfin hB8 p0 p1 p2 p3 p4 q0 q1 q2 q3 q4
      go_wp2_with fail
      exact bodyPost_ret (v := .agg #[.bool (sg (den na xs + den nb ys)), .slice a9 (mg (den na xs + den nb ys)).length c9]) (by simp [results, Tryd.results42, go_sem, y0, y1]) rfl ⟨a9, c9, rfl, HF.out⟩
end Go.Proofs.YtgnjjmbphangnaaDoor
