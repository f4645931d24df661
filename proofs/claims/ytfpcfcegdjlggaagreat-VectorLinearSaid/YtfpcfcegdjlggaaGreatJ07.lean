/-
  Joined texts: RE RV RS U V DL PW.
-/
import Derived.Test.YtfpcfcegdjlggaaGreatJ06
import Derived.Test.YtfpcfcegdjlggaaGreatJ05
import Derived.Deep.RegionHeld3
import Derived.Deep.DrawnRows
import Derived.Test.YtfpcfcegdjlggaaGreatJ04
namespace Go.Proofs.YtfpcfcegdjlggaaGreat
open Go.RowKit

theorem den_add_same (na : Bool) {xs ys zs : List Nat} (h : val zs = val xs + val ys) : den na zs = den na xs + den na ys := by
  unfold den; rw [h]; cases na <;> simp <;> omega
theorem den_sub_left (na : Bool) {xs ys zs : List Nat} (h : val zs = val xs - val ys) (hle : val ys ≤ val xs) : den na zs = den na xs + den (!na) ys := by
  unfold den; rw [h]; cases na <;> simp <;> omega
theorem den_sub_right (na : Bool) {xs ys zs : List Nat} (h : val zs = val ys - val xs) (hle : val xs ≤ val ys) : den (!na) zs = den na xs + den (!na) ys := by
  unfold den; rw [h]; cases na <;> simp <;> omega

attribute [local go_sem ↓] Go.wp_at_zero Go.wp_at_succ

set_option maxRecDepth 100000 in
set_option maxHeartbeats 4000000 in
theorem radd_any (na nb : Bool) (a b : Option Addr) (n m cap cap' : Nat) (xs ys : List Nat) (w : World) (rdx : Rd w a cap xs) (rdy : Rd w b cap' ys) (hl : xs.length = n) (hl' : ys.length = m) (hn : n ≤ 1000000000) (hm : m ≤ 1000000000) :
    Calls Tryz.prog 112 #[.agg #[.bool na, .slice a n cap], .agg #[.bool nb, .slice b m cap']] w (GivesInt w (den na xs + den nb ys)) := by
  have hlx := rdx.lim
  have hly := rdy.lim
  obtain ⟨V, hV⟩ : ∃ V, V = (w.alloc (.cells #[.bool na, .slice a n cap] 51)).alloc (.cells #[.bool nb, .slice b m cap'] 51) := ⟨_, rfl⟩
  obtain ⟨W, hW⟩ : ∃ W, W = V.alloc (.cells #[.bool false, .slice none 0 0] 51) := ⟨_, rfl⟩
  have hb0 : Below w.heap.size w V := by rw [hV]; exact ((Below.refl _ _).alloc (Nat.le_refl _) _).alloc (by simp) _
  have hVs : V.heap.size = w.heap.size + 2 := by rw [hV]; simp
  have hWs : W.heap.size = w.heap.size + 3 := by rw [hW, World.size_alloc, hVs]
  have hx0 : Box w.heap.size (.bool na) (.slice a n cap) V := by rw [hV]; exact (Box.made _ _ rfl _ _ _).alloc _
  have hx1 : Box (w.heap.size + 1) (.bool nb) (.slice b m cap') V := by rw [hV]; exact Box.made _ _ (by simp) _ _ _
  have hxa : Box w.heap.size (.bool na) (.slice a n cap) W := by rw [hW]; exact hx0.alloc _
  have hxb : Box (w.heap.size + 1) (.bool nb) (.slice b m cap') W := by rw [hW]; exact hx1.alloc _
  have hy : Box (w.heap.size + 2) (.bool false) (.slice none 0 0) W := by rw [hW]; exact Box.made _ _ hVs.symm _ _ _
  have hra : Rd W a cap xs := by rw [hW]; exact (rdx.below hb0).alloc _
  have hrb : Rd W b cap' ys := by rw [hW]; exact (rdy.below hb0).alloc _
  have hWW : ((w.alloc (.cells #[.bool na, .slice a n cap] 51)).alloc (.cells #[.bool nb, .slice b m cap'] 51)).alloc (.cells #[.bool false, .slice none 0 0] 51) = W := by rw [hW, hV]
  have hvx := val_trimL hlx
  have hvy := val_trimL hly
  have htx := trimL_trimL hlx
  have hty := trimL_trimL hly
  have hlenx : (trimL xs).length ≤ 1000000000 := Nat.le_trans (length_trimL_le xs) (by omega)
  have hleny : (trimL ys).length ≤ 1000000000 := Nat.le_trans (length_trimL_le ys) (by omega)
  have HWW := Lib.hid hWW
  have HW := Lib.hid hW
  have HVS := Lib.hid hVs
  have HWS := Lib.hid hWs
  have HB0 := Lib.hid hb0
  have HXA := Lib.hid hxa
  have HXB := Lib.hid hxb
  have HY := Lib.hid hy
  have HL := Lib.hid hl
  have HL' := Lib.hid hl'
  have HRA := Lib.hid hra
  have HRB := Lib.hid hrb
  have HVX := Lib.hid hvx
  have HVY := Lib.hid hvy
  have HTX := Lib.hid htx
  have HTY := Lib.hid hty
  have HNX := Lib.hid hlenx
  have HNY := Lib.hid hleny
  clear hWs hV hW hVs hb0 hx0 hx1 hWW hl hl' rdx rdy hy hra hrb hxa hxb hvx hvy htx hty hlenx hleny
  have hn1 : (trimL xs).length ≤ 1000000000 := HNX.out
  have hn2 : (trimL ys).length ≤ 1000000000 := HNY.out
  by_cases he : na = nb
  · have d0 : (na == nb) = true := by simp [he]
    have HE := Lib.hid he
    clear he
    go_enter Tryz.func112, Tryz.ntmps112
    go_wp2_with fail
    rw [HWW.out]
    go_region_held3 (fun w' => w'.cell? ⟨w.heap.size, 0, none⟩ = some (.bool na) ∧ w'.cell? ⟨w.heap.size, 1, none⟩ = some (.slice a n cap) ∧ w'.cell? ⟨w.heap.size + 1, 0, none⟩ = some (.bool nb) ∧ w'.cell? ⟨w.heap.size + 1, 1, none⟩ = some (.slice b m cap') ∧ Below W.heap.size W w')
      (first | exact two_draw HXA.out HXB.out | exact two_step HXA.out HXB.out (by assumption) hN6.below | exact two_step HXA.out HXB.out (by assumption) hN7.below)
      ((first
        | (go_at_call 51; have hq := two_rd HRA.out (by assumption); have hq2 := rtrim_any a n cap xs _ hq HL.out (by omega); (with_reducible refine hq2.mono ?_); clear hq hq2; rintro e w6 ⟨a6, c6, rfl, hN6⟩)
        | (go_at_call 51; have hq := two_rd HRB.out (by assumption); have hq2 := rtrim_any b m cap' ys _ hq HL'.out (by omega); (with_reducible refine hq2.mono ?_); clear hq hq2; rintro e w7 ⟨a7, c7, rfl, hN7⟩)))
    have hb7 : Below W.heap.size W w7 := two_below (by assumption)
    have hxa7 := HXA.out.below hb7
    have hxb7 := HXB.out.below hb7
    have hrx7 : Rd w7 a6 c6 (trimL xs) := hN6.rd.below hN7.below
    have hry7 : Rd w7 a7 c7 (trimL ys) := hN7.rd
    have hy7 := HY.out.below hb7
    have HB7 := Lib.hid hb7
    have HXA7 := Lib.hid hxa7
    have HXB7 := Lib.hid hxb7
    have HRX7 := Lib.hid hrx7
    have HRY7 := Lib.hid hry7
    have HY7 := Lib.hid hy7
    clear hb7 hrx7 hry7 hN6 hN7 hy7
    obtain ⟨p0, p1, p2, p3, p4⟩ := hxa7
    obtain ⟨q0, q1, q2, q3, q4⟩ := hxb7
    have HRX9 : Rd (w7).drew a6 c6 (trimL xs) := HRX7.out.below (Below.refl _ _).drew
    have HRY9 : Rd (w7).drew a7 c7 (trimL ys) := HRY7.out.below (Below.refl _ _).drew
    have hsz7 : w.heap.size + 3 ≤ (w7).heap.size := by have := HB7.out.size; have := HWS.out; omega
    go_wp2_with fail
    go_region_held3 (fun w' => w'.cell? ⟨w.heap.size, 0, none⟩ = some (.bool na) ∧ w'.cell? ⟨w.heap.size, 1, none⟩ = some (.slice a n cap) ∧ Below (w.heap.size + 2) (w7) w')
      (first | exact kept_draw HXA7.out (by omega) | assumption | exact kept_call HXA7.out (by omega) (by omega) (by assumption) hN8.below | exact kept_call HXA7.out (by omega) (by omega) (by assumption) hN9.below | exact kept_store HXA7.out (by omega) (by omega) _ _ (by assumption))
      ((first
        | (go_at_call 126; refine (rsum_any a6 a7 _ _ c6 c7 (trimL xs) (trimL ys) _ HRX9 HRY9 rfl rfl HNX.out HNY.out).mono ?_; rintro e w8 ⟨zs, a8, c8, hzv, hzl0, rfl, hN8⟩; have hzl : zs.length ≤ 1000000001 := (by omega); clear hzl0)
        | (go_at_call 52; refine (make_any na a8 zs.length c8 zs _ hN8.rd rfl (by omega)).mono ?_; rintro e w9 ⟨a9, c9, rfl, hN9⟩; obtain ⟨y0, y1, y2, y3, y4⟩ := HY7.out.below ((Below.refl _ _).drew.trans (hN8.below.trans (hN9.below.mono hN8.below.size))))))
    have hz : den na zs = den na xs + den nb ys := by rw [den_add_same na (xs := xs) (ys := ys) (by rw [hzv.out, HVX.out, HVY.out]), HE.out]
    rw [hz] at hN9
    rw [hz]
    clear hz
    have hB8 := HB7.out.trans (((Below.refl _ _).drew.trans hN8.below).mono HB7.out.size)
    have hN : New W (mg (den na xs + den nb ys)) a9 c9 w9 := New.before hB8 hN9
    rw [HW.out] at hN
    have hN3 := new_result hN
    rw [HVS.out] at hN3
    have hfin := New.before HB0.out (hN3 (.bool (sg (den na xs + den nb ys))) (.slice a9 (mg (den na xs + den nb ys)).length c9))
    have HF := Lib.hid hfin
    clear hN8 hN9 hN hN3 hfin hB8 p0 p1 p2 p3 p4 q0 q1 q2 q3 q4
    go_wp2_with fail
    exact bodyPost_ret (v := .agg #[.bool (sg (den na xs + den nb ys)), .slice a9 (mg (den na xs + den nb ys)).length c9]) (by simp [results, Tryz.results112, go_sem, y0, y1]) rfl ⟨a9, c9, rfl, HF.out⟩
  · have d0 : (na == nb) = false := by simp [he]
    have hnn : nb = !na := by cases na <;> cases nb <;> simp_all
    have HE := Lib.hid hnn
    clear he hnn
    by_cases hle : val ys ≤ val xs
    · have d1 : decide (0 ≤ cmpI (val xs) (val ys)) = true := by unfold cmpI; rw [if_neg (by omega)]; split <;> simp
      have HLE := Lib.hid hle
      clear hle
      go_enter Tryz.func112, Tryz.ntmps112
      go_wp2_with fail
      rw [HWW.out]
      go_region_held3 (fun w' => w'.cell? ⟨w.heap.size, 0, none⟩ = some (.bool na) ∧ w'.cell? ⟨w.heap.size, 1, none⟩ = some (.slice a n cap) ∧ w'.cell? ⟨w.heap.size + 1, 0, none⟩ = some (.bool nb) ∧ w'.cell? ⟨w.heap.size + 1, 1, none⟩ = some (.slice b m cap') ∧ Below W.heap.size W w')
        (first | exact two_draw HXA.out HXB.out | exact two_step HXA.out HXB.out (by assumption) hN6.below | exact two_step HXA.out HXB.out (by assumption) hN7.below)
        ((first
          | (go_at_call 51; have hq := two_rd HRA.out (by assumption); have hq2 := rtrim_any a n cap xs _ hq HL.out (by omega); (with_reducible refine hq2.mono ?_); clear hq hq2; rintro e w6 ⟨a6, c6, rfl, hN6⟩)
          | (go_at_call 51; have hq := two_rd HRB.out (by assumption); have hq2 := rtrim_any b m cap' ys _ hq HL'.out (by omega); (with_reducible refine hq2.mono ?_); clear hq hq2; rintro e w7 ⟨a7, c7, rfl, hN7⟩)))
      have hb7 : Below W.heap.size W w7 := two_below (by assumption)
      have hxa7 := HXA.out.below hb7
      have hxb7 := HXB.out.below hb7
      have hrx7 : Rd w7 a6 c6 (trimL xs) := hN6.rd.below hN7.below
      have hry7 : Rd w7 a7 c7 (trimL ys) := hN7.rd
      have hy7 := HY.out.below hb7
      have HB7 := Lib.hid hb7
      have HXA7 := Lib.hid hxa7
      have HXB7 := Lib.hid hxb7
      have HRX7 := Lib.hid hrx7
      have HRY7 := Lib.hid hry7
      have HY7 := Lib.hid hy7
      clear hb7 hrx7 hry7 hN6 hN7 hy7
      obtain ⟨p0, p1, p2, p3, p4⟩ := hxa7
      obtain ⟨q0, q1, q2, q3, q4⟩ := hxb7
      go_wp2_with fail
      have hq2 := rcmp_any a6 a7 _ _ c6 c7 (trimL xs) (trimL ys) _ HRX7.out HRY7.out rfl rfl (by omega) (by omega) (.inr ⟨HTX.out, HTY.out⟩)
      rw [HVX.out, HVY.out] at hq2
      refine hq2.mono ?_
      clear hq2
      rintro e w8 ⟨rfl, qq, rfl⟩
      have HBQ : Below w7.heap.size w7 (w7.drewN qq) := below_drewN (Below.refl _ _) qq
      have HXA8 := Lib.hid (HXA7.out.below HBQ)
      have HXB8 := Lib.hid (HXB7.out.below HBQ)
      have HRX8 := Lib.hid (HRX7.out.below HBQ)
      have HRY8 := Lib.hid (HRY7.out.below HBQ)
      have HY8 := Lib.hid (HY7.out.below HBQ)
      have HB8 := Lib.hid (HB7.out.trans (HBQ.mono HB7.out.size))
      clear HBQ
      have HRX9 : Rd ((w7.drewN qq)).drew a6 c6 (trimL xs) := HRX8.out.below (Below.refl _ _).drew
      have HRY9 : Rd ((w7.drewN qq)).drew a7 c7 (trimL ys) := HRY8.out.below (Below.refl _ _).drew
      have hsz7 : w.heap.size + 3 ≤ ((w7.drewN qq)).heap.size := by have := HB8.out.size; have := HWS.out; omega
      go_wp2_with fail
      go_region_held3 (fun w' => w'.cell? ⟨w.heap.size, 0, none⟩ = some (.bool na) ∧ w'.cell? ⟨w.heap.size, 1, none⟩ = some (.slice a n cap) ∧ Below (w.heap.size + 2) ((w7.drewN qq)) w')
        (first | exact kept_draw HXA8.out (by omega) | assumption | exact kept_call HXA8.out (by omega) (by omega) (by assumption) hN10.below | exact kept_call HXA8.out (by omega) (by omega) (by assumption) hN9.below | exact kept_store HXA8.out (by omega) (by omega) _ _ (by assumption))
        ((first
          | (go_at_call 127; refine (rdiff_any a6 a7 _ _ c6 c7 (trimL xs) (trimL ys) _ HRX9 HRY9 rfl rfl HNX.out HNY.out (by rw [HVX.out, HVY.out]; exact HLE.out)).mono ?_; rintro e w10 ⟨zs, a10, c10, hzv, hzl0, rfl, hN10⟩; have hzl : zs.length ≤ 1000000001 := (by omega); clear hzl0)
          | (go_at_call 52; refine (make_any na a10 zs.length c10 zs _ hN10.rd rfl (by omega)).mono ?_; rintro e w9 ⟨a9, c9, rfl, hN9⟩; obtain ⟨y0, y1, y2, y3, y4⟩ := HY8.out.below ((Below.refl _ _).drew.trans (hN10.below.trans (hN9.below.mono hN10.below.size))))))
      have hz : den na zs = den na xs + den nb ys := by rw [den_sub_left na (xs := xs) (ys := ys) (by rw [hzv.out, HVX.out, HVY.out]) HLE.out, HE.out]
      rw [hz] at hN9
      rw [hz]
      clear hz
      have hB8 := HB8.out.trans (((Below.refl _ _).drew.trans hN10.below).mono HB8.out.size)
      have hN : New W (mg (den na xs + den nb ys)) a9 c9 w9 := New.before hB8 hN9
      rw [HW.out] at hN
      have hN3 := new_result hN
      rw [HVS.out] at hN3
      have hfin := New.before HB0.out (hN3 (.bool (sg (den na xs + den nb ys))) (.slice a9 (mg (den na xs + den nb ys)).length c9))
      have HF := Lib.hid hfin
      clear hN10 hN9 hN hN3 hfin hB8 p0 p1 p2 p3 p4 q0 q1 q2 q3 q4
      go_wp2_with fail
      exact bodyPost_ret (v := .agg #[.bool (sg (den na xs + den nb ys)), .slice a9 (mg (den na xs + den nb ys)).length c9]) (by simp [results, Tryz.results112, go_sem, y0, y1]) rfl ⟨a9, c9, rfl, HF.out⟩
    · have d1 : decide (0 ≤ cmpI (val xs) (val ys)) = false := by unfold cmpI; rw [if_pos (by omega)]; simp
      have hle2 : val xs ≤ val ys := by omega
      have HLE := Lib.hid hle2
      clear hle hle2
      go_enter Tryz.func112, Tryz.ntmps112
      go_wp2_with fail
      rw [HWW.out]
      go_region_held3 (fun w' => w'.cell? ⟨w.heap.size, 0, none⟩ = some (.bool na) ∧ w'.cell? ⟨w.heap.size, 1, none⟩ = some (.slice a n cap) ∧ w'.cell? ⟨w.heap.size + 1, 0, none⟩ = some (.bool nb) ∧ w'.cell? ⟨w.heap.size + 1, 1, none⟩ = some (.slice b m cap') ∧ Below W.heap.size W w')
        (first | exact two_draw HXA.out HXB.out | exact two_step HXA.out HXB.out (by assumption) hN6.below | exact two_step HXA.out HXB.out (by assumption) hN7.below)
        ((first
          | (go_at_call 51; have hq := two_rd HRA.out (by assumption); have hq2 := rtrim_any a n cap xs _ hq HL.out (by omega); (with_reducible refine hq2.mono ?_); clear hq hq2; rintro e w6 ⟨a6, c6, rfl, hN6⟩)
          | (go_at_call 51; have hq := two_rd HRB.out (by assumption); have hq2 := rtrim_any b m cap' ys _ hq HL'.out (by omega); (with_reducible refine hq2.mono ?_); clear hq hq2; rintro e w7 ⟨a7, c7, rfl, hN7⟩)))
      have hb7 : Below W.heap.size W w7 := two_below (by assumption)
      have hxa7 := HXA.out.below hb7
      have hxb7 := HXB.out.below hb7
      have hrx7 : Rd w7 a6 c6 (trimL xs) := hN6.rd.below hN7.below
      have hry7 : Rd w7 a7 c7 (trimL ys) := hN7.rd
      have hy7 := HY.out.below hb7
      have HB7 := Lib.hid hb7
      have HXA7 := Lib.hid hxa7
      have HXB7 := Lib.hid hxb7
      have HRX7 := Lib.hid hrx7
      have HRY7 := Lib.hid hry7
      have HY7 := Lib.hid hy7
      clear hb7 hrx7 hry7 hN6 hN7 hy7
      obtain ⟨p0, p1, p2, p3, p4⟩ := hxa7
      obtain ⟨q0, q1, q2, q3, q4⟩ := hxb7
      go_wp2_with fail
      have hq2 := rcmp_any a6 a7 _ _ c6 c7 (trimL xs) (trimL ys) _ HRX7.out HRY7.out rfl rfl (by omega) (by omega) (.inr ⟨HTX.out, HTY.out⟩)
      rw [HVX.out, HVY.out] at hq2
      refine hq2.mono ?_
      clear hq2
      rintro e w8 ⟨rfl, qq, rfl⟩
      have HBQ : Below w7.heap.size w7 (w7.drewN qq) := below_drewN (Below.refl _ _) qq
      have HXA8 := Lib.hid (HXA7.out.below HBQ)
      have HXB8 := Lib.hid (HXB7.out.below HBQ)
      have HRX8 := Lib.hid (HRX7.out.below HBQ)
      have HRY8 := Lib.hid (HRY7.out.below HBQ)
      have HY8 := Lib.hid (HY7.out.below HBQ)
      have HB8 := Lib.hid (HB7.out.trans (HBQ.mono HB7.out.size))
      clear HBQ
      have HRX9 : Rd ((w7.drewN qq)).drew a6 c6 (trimL xs) := HRX8.out.below (Below.refl _ _).drew
      have HRY9 : Rd ((w7.drewN qq)).drew a7 c7 (trimL ys) := HRY8.out.below (Below.refl _ _).drew
      have hsz7 : w.heap.size + 3 ≤ ((w7.drewN qq)).heap.size := by have := HB8.out.size; have := HWS.out; omega
      go_wp2_with fail
      go_region_held3 (fun w' => w'.cell? ⟨w.heap.size + 1, 0, none⟩ = some (.bool nb) ∧ w'.cell? ⟨w.heap.size + 1, 1, none⟩ = some (.slice b m cap') ∧ Below (w.heap.size + 2) ((w7.drewN qq)) w')
        (first | exact kept_draw HXB8.out (by omega) | assumption | exact kept_call HXB8.out (by omega) (by omega) (by assumption) hN10.below | exact kept_call HXB8.out (by omega) (by omega) (by assumption) hN9.below | exact kept_store HXB8.out (by omega) (by omega) _ _ (by assumption))
        ((first
          | (go_at_call 127; refine (rdiff_any a7 a6 _ _ c7 c6 (trimL ys) (trimL xs) _ HRY9 HRX9 rfl rfl HNY.out HNX.out (by rw [HVX.out, HVY.out]; exact HLE.out)).mono ?_; rintro e w10 ⟨zs, a10, c10, hzv, hzl0, rfl, hN10⟩; have hzl : zs.length ≤ 1000000001 := (by omega); clear hzl0)
          | (go_at_call 52; refine (make_any nb a10 zs.length c10 zs _ hN10.rd rfl (by omega)).mono ?_; rintro e w9 ⟨a9, c9, rfl, hN9⟩; obtain ⟨y0, y1, y2, y3, y4⟩ := HY8.out.below ((Below.refl _ _).drew.trans (hN10.below.trans (hN9.below.mono hN10.below.size))))))
      have hz : den nb zs = den na xs + den nb ys := by rw [HE.out, den_sub_right na (xs := xs) (ys := ys) (by rw [hzv.out, HVX.out, HVY.out]) HLE.out]
      rw [hz] at hN9
      rw [hz]
      clear hz
      have hB8 := HB8.out.trans (((Below.refl _ _).drew.trans hN10.below).mono HB8.out.size)
      have hN : New W (mg (den na xs + den nb ys)) a9 c9 w9 := New.before hB8 hN9
      rw [HW.out] at hN
      have hN3 := new_result hN
      rw [HVS.out] at hN3
      have hfin := New.before HB0.out (hN3 (.bool (sg (den na xs + den nb ys))) (.slice a9 (mg (den na xs + den nb ys)).length c9))
      have HF := Lib.hid hfin
      clear hN10 hN9 hN hN3 hfin hB8 p0 p1 p2 p3 p4 q0 q1 q2 q3 q4
      go_wp2_with fail
      exact bodyPost_ret (v := .agg #[.bool (sg (den na xs + den nb ys)), .slice a9 (mg (den na xs + den nb ys)).length c9]) (by simp [results, Tryz.results112, go_sem, y0, y1]) rfl ⟨a9, c9, rfl, HF.out⟩
end Go.Proofs.YtfpcfcegdjlggaaGreat
namespace Go.Proofs.YtfpcfcegdjlggaaGreat
open Go.RowKit

/-- A list of limbs in a block of the call's own behind block B. -/
structure Away (B : Nat) (zs : List Nat) (a : Option Addr) (cap : Nat) (w : World) : Prop where
  fits : zs.length ≤ cap
  own : (a = none ∧ zs = []) ∨ ∃ g, a = some ⟨g, 0, none⟩ ∧ B < g ∧ Own w g zs

theorem Away.rd {B : Nat} {zs : List Nat} {a : Option Addr} {cap : Nat} {w : World} (h : Away B zs a cap w) : Rd w a cap zs := by
  rcases h.own with ⟨rfl, rfl⟩ | ⟨g, rfl, _, ho⟩
  · exact Rd.nil _ _ _
  · exact ho.rd h.fits
theorem Away.of_new {B : Nat} {zs : List Nat} {a : Option Addr} {cap : Nat} {v w : World} (h : New v zs a cap w) (hB : B < v.heap.size) : Away B zs a cap w := by
  refine ⟨h.fits, ?_⟩
  rcases h.own with h0 | ⟨g, rfl, hg, ho⟩
  · exact .inl h0
  · exact .inr ⟨g, rfl, by omega, ho⟩
theorem Away.below {B : Nat} {zs : List Nat} {a : Option Addr} {cap : Nat} {w w' : World} (h : Away B zs a cap w) (hb : Below w.heap.size w w') : Away B zs a cap w' := by
  refine ⟨h.fits, ?_⟩
  rcases h.own with h0 | ⟨g, rfl, hg, ho⟩
  · exact .inl h0
  · exact .inr ⟨g, rfl, hg, ho.below hb ho.lt⟩
theorem Away.store {B : Nat} {zs : List Nat} {a : Option Addr} {cap : Nat} {w : World} (h : Away B zs a cap w) (i : Nat) (v : Value) : Away B zs a cap (w.setCell ⟨B, i, none⟩ v) := by
  refine ⟨h.fits, ?_⟩
  rcases h.own with h0 | ⟨g, rfl, hg, ho⟩
  · exact .inl h0
  · exact .inr ⟨g, rfl, hg, ho.of_heap (Below.heap_setCell _ _ _ _ (by simp; omega))⟩
theorem Away.to_new {w w' : World} {zs : List Nat} {a : Option Addr} {cap : Nat} (h : Away w.heap.size zs a cap w') (hb : Below w.heap.size w w') : New w zs a cap w' := by
  refine ⟨hb, h.fits, ?_⟩
  rcases h.own with h0 | ⟨g, rfl, hg, ho⟩
  · exact .inl h0
  · exact .inr ⟨g, rfl, by omega, ho⟩

def GivesQR (w : World) (q r : Nat) (e : Ending) (w' : World) : Prop :=
  ∃ a cap b cap', e = .returned (.tuple #[.slice a (limbs q).length cap, .slice b (limbs r).length cap']) ∧ New w (limbs q) a cap w' ∧ New w (limbs r) b cap' w'

theorem and_one {x : Int} (h0 : 0 ≤ x) (h1 : x ≤ 4294967295) : bits .and .u32 x 1 = x % 2 := by
  rw [u32_and _ _ h0 (by omega) (by omega) (by omega)]
  have : (1 : Int).toNat = 1 := rfl
  rw [this, Nat.and_one_is_mod]; omega

theorem or_free {a m x : Nat} (hx : x = a * (2 * 2 ^ m)) (h : x + 2 ^ m < 4294967296) : bits .or .u32 (x : Int) ((2 ^ m : Nat) : Int) = ((x + 2 ^ m : Nat) : Int) := by
  have hp : 0 < 2 ^ m := Nat.pow_pos (by omega)
  rw [u32_or_nat _ _ (by omega) (by omega)]
  have e : x = 2 ^ (m + 1) * a := by rw [hx, Nat.pow_succ, Nat.mul_comm a, Nat.mul_comm 2]
  rw [e, ← Nat.two_pow_add_eq_or_of_lt (by rw [Nat.pow_succ]; omega)]

theorem bit_read {xs : List Nat} (h : Lim xs) (d mm e : Nat) (he : e = 32 * d + mm) (hm : mm < 32) : bits .and .u32 (nth xs d / 2 ^ mm) 1 = ((val xs / 2 ^ e % 2 : Nat) : Int) := by
  have hx := h.getD d
  have hp : 0 < 2 ^ mm := Nat.pow_pos (by omega)
  have e1 : nth xs d / 2 ^ mm = ((xs.getD d 0 / 2 ^ mm : Nat) : Int) := by unfold nth; simp
  have hle : xs.getD d 0 / 2 ^ mm ≤ xs.getD d 0 := Nat.div_le_self _ _
  rw [e1]
  have hb := bit_of_val h e
  have d1 : e / 32 = d := by omega
  have d2 : e % 32 = mm := by omega
  rw [d1, d2] at hb
  rw [← hb]
  generalize xs.getD d 0 / 2 ^ mm = Y at *
  rw [and_one (by omega) (by omega)]; omega

theorem below_step {W v v' : World} (hs : Below W.heap.size W v) (hb : Below v.heap.size v v') : Below W.heap.size W v' := hs.trans (hb.mono hs.size)

attribute [local go_sem ↓] Go.wp_at_zero Go.wp_at_succ

set_option maxRecDepth 100000 in
set_option maxHeartbeats 2000000 in
theorem rdivide_small (a b : Option Addr) (n m cap cap' : Nat) (xs ys : List Nat) (w : World) (rdx : Rd w a cap xs) (rdy : Rd w b cap' ys) (hl : xs.length = n) (hl' : ys.length = m) (hn : n ≤ 2) (hm : m ≤ 2) (hpos : 0 < val ys) :
    Calls Tryz.prog 146 #[.slice a n cap, .slice b m cap'] w (GivesQR w (val xs / val ys) (val xs % val ys)) := by
  have hlx := rdx.lim
  have hly := rdy.lim
  have hU := (two_of_short hlx (by omega)).2
  have hV := (two_of_short hly (by omega)).2
  have t1 : xs.take 2 = xs := List.take_of_length_le (by omega)
  have t2 : ys.take 2 = ys := List.take_of_length_le (by omega)
  obtain ⟨U, hUe⟩ : ∃ U, U = val xs := ⟨_, rfl⟩
  obtain ⟨V, hVe⟩ : ∃ V, V = val ys := ⟨_, rfl⟩
  rw [← hUe, ← hVe]
  rw [← hUe] at hU
  rw [← hVe] at hV hpos
  obtain ⟨Qn, hQ⟩ : ∃ Qn, Qn = U / V := ⟨_, rfl⟩
  obtain ⟨Rn, hR⟩ : ∃ Rn, Rn = U % V := ⟨_, rfl⟩
  have hq1 : (U : Int) / (V : Int) = (Qn : Int) := by rw [hQ]; simp
  have hr1 : (U : Int) % (V : Int) = (Rn : Int) := by rw [hR]; simp
  have hq2 : Qn ≤ 18446744073709551615 := by rw [hQ]; have := Nat.div_le_self U V; omega
  have hr2 : Rn ≤ 18446744073709551615 := by rw [hR]; have := Nat.mod_le U V; omega
  rw [← hQ, ← hR]
  have hv0 : (V == 0) = false := by simp; omega
  have hv1 : ((V : Int) == 0) = false := by simp; omega
  have hv2 : ¬V = 0 := by omega
  have ht1 : (U : Int).tdiv (V : Int) = (Qn : Int) := by rw [Int.tdiv_eq_ediv_of_nonneg (by omega)]; exact hq1
  have ht2 : (U : Int).tmod (V : Int) = (Rn : Int) := by rw [Int.tmod_eq_emod_of_nonneg (by omega)]; exact hr1
  have hw1 : IntKind.u64.wrap (Qn : Int) = (Qn : Int) := by rw [IntKind.wrap_u64]; omega
  have hw2 : IntKind.u64.wrap (Rn : Int) = (Rn : Int) := by rw [IntKind.wrap_u64]; omega
  have hfd : ∀ (s : Bool) (v : Value) (w : World), Sem.run Tryz.prog (Instr.field 51 (.agg #[.bool s, v]) 1) w = .ok v w := fun _ _ _ => by kernel_rfl
  have HU : U ≤ 18446744073709551615 := by omega
  have HV : V ≤ 18446744073709551615 := by omega
  have HL := Lib.hid hl
  have HL' := Lib.hid hl'
  have HT1 := Lib.hid t1
  have HT2 := Lib.hid t2
  have HUE := Lib.hid hUe
  have HVE := Lib.hid hVe
  clear hU hV hQ hR t1 t2 hUe hVe hl hl'
  go_enter Tryz.func146, Tryz.ntmps146
  go_wp2_with fail
  refine (low_any a n cap xs _ rdx HL.out (by omega)).mono ?_
  rintro e w1 ⟨rfl, q1, rfl⟩
  rw [HT1.out, ← HUE.out]
  go_wp2_with fail
  refine (low_any b m cap' ys _ (rdy.below (below_drewN (Below.refl _ _) q1)) HL'.out (by omega)).mono ?_
  rintro e w2 ⟨rfl, q2, rfl⟩
  rw [HT2.out, ← HVE.out]
  go_wp2_with fail
  have hB2 : Below w.heap.size w (w.drewN (q1 + q2)) := below_drewN (Below.refl _ _) _
  obtain ⟨W, hW⟩ : ∃ W, W = w.drewN (q1 + q2) := ⟨_, rfl⟩
  rw [← hW]
  rw [← hW] at hB2
  have HB2 := Lib.hid hB2
  clear hW hB2 rdx rdy
  go_region_held3 (fun w' => Below W.heap.size W w')
    (first | exact (Below.refl _ _).drew | exact below_step (by assumption) hN3.below | exact below_step (by assumption) hN4.below)
    ((first
      | (go_at_call 53; (with_reducible refine (word_any false Qn _ (by omega)).mono ?_); rintro e w3 ⟨a3, c3, rfl, hN3⟩)
      | (go_at_call 53; (with_reducible refine (word_any false Rn _ (by omega)).mono ?_); rintro e w4 ⟨a4, c4, rfl, hN4⟩)))
  all_goals
    have m1 : mg (Qn : Int) = limbs Qn := by simp [mg]
    have m2 : mg (Rn : Int) = limbs Rn := by simp [mg]
    simp only [Bool.false_eq_true, if_false, m1, m2] at hN3 hN4 ⊢
    have hbw : Below w.heap.size w w3 := HB2.out.trans (((Below.refl _ _).drew.trans hN3.below).mono HB2.out.size)
    have n3 : New w (limbs Qn) a3 c3 w4 := (New.before (HB2.out.trans ((Below.refl _ _).drew.mono HB2.out.size)) hN3).after hN4.below
    have n4 : New w (limbs Rn) a4 c4 w4 := New.before hbw hN4
    have HN3 := Lib.hid n3
    have HN4 := Lib.hid n4
    clear hN3 hN4 n3 n4 hbw m1 m2
    go_wp2_with fail
    refine bodyPost_ret (v := .tuple #[.slice a3 (limbs Qn).length c3, .slice a4 (limbs Rn).length c4]) ?_ ?_ ?_
    · simp [results, Tryz.results146, go_sem]
    · rfl
    exact ⟨a3, c3, a4, c4, rfl, HN3.out, HN4.out⟩

set_option maxRecDepth 100000 in
set_option maxHeartbeats 4000000 in
theorem rdivide_loop (a b : Option Addr) (n m cap cap' : Nat) (xs ys : List Nat) (w : World) (rdx : Rd w a cap xs) (rdy : Rd w b cap' ys) (hl : xs.length = n) (hl' : ys.length = m) (hn : n ≤ 10000000) (hm : m ≤ 10000000) (hpos : 0 < val ys) (hty : trimL ys = ys) (h2 : 2 < n ∨ 2 < m) :
    Calls Tryz.prog 146 #[.slice a n cap, .slice b m cap'] w (GivesQR w (val xs / val ys) (val xs % val ys)) := by
  obtain ⟨i, hi, hz0, hz1, hz2⟩ := info_parts Tryz.infoU32
  have hlx := rdx.lim
  have hly := rdy.lim
  have hux := rdx.under
  have huy := rdy.under
  have hst := BitInv.start (val xs) (val ys) n hpos (by rw [← hl]; exact val_lt hlx)
  have hvy : val ys < 4294967296 ^ m := by rw [← hl']; exact val_lt hly
  have HVY := Lib.hid hvy
  have HL := Lib.hid hl
  have HL' := Lib.hid hl'
  have HTY := Lib.hid hty
  have HST := Lib.hid hst
  clear hl hl' hty hst hvy
  have hn' : (decide ((n : Int) ≤ 2) && decide ((m : Int) ≤ 2)) = false := by simp; omega
  by_cases hn2 : n ≤ 2
  all_goals
    have hm2 : n ≤ 2 → 2 < m := by omega
    clear h2
    go_enter Tryz.func146, Tryz.ntmps146
    go_wp2_with (at_make; refine wpList_make_full _ rfl _ _ 49 rfl w.heap.size 87 i (.int .u32 0) 1 Tryz.underlying49 hi hz0 hz1 _ _ _ _ n rfl rfl ?_ ?_ ?_ ?_ (Nat.le_refl _) ?_)
    all_goals try (omega)
    all_goals try rfl
    all_goals try (rw [hz2]; omega)
    all_goals try (unfold maxLen; omega)
    intro w1 hown hgrow
    have ho1 := own_made hown
    have hb1 : Below w.heap.size w w1 := (Below.refl _ _).grown hgrow (Nat.le_refl _) (by intro k hk; cases hk)
    clear hown hgrow
    go_wp2_with fail
    go_loopw [5, 8] (fun tx ii wr => ∃ (k r : Nat) (qs : List Nat) (ra : Option Addr) (rc : Nat), k ≤ 32 * n ∧ ii = .int .i64 ((k : Int) - 1) ∧ tx = .slice ra (limbs r).length rc ∧ Hid (BitInv (val xs) (val ys) n k qs r) ∧ Own wr w.heap.size qs ∧ Away w.heap.size (limbs r) ra rc wr ∧ Below w.heap.size w wr) (fun _ ii _ => (intOf ii + 1).toNat)
    case atStart => exact ⟨32 * n, 0, List.replicate n 0, none, 0, Nat.le_refl _, by simp, rfl, HST.out, ho1, ⟨by simp [limbs_zero], .inl ⟨rfl, limbs_zero⟩⟩, hb1⟩
    case round =>
      clear ho1 hb1
      obtain ⟨k, r, qs, ra, rc, hk, rfl, rfl, hI, hO, hA, hB⟩ := hrel
      have hql := hI.out.qlen
      have hrs := hI.out.small
      have hrl : (limbs r).length ≤ m := length_limbs_le (Nat.lt_trans hrs HVY.out)
      by_cases h0 : 0 < k
      · obtain ⟨e, rfl⟩ : ∃ e, k = e + 1 := ⟨k - 1, by omega⟩
        have ee : ((e + 1 : Nat) : Int) - 1 = (e : Int) := by omega
        rw [ee]
        clear ee
        obtain ⟨d, mm, hmm, hed⟩ : ∃ d mm, mm < 32 ∧ e = 32 * d + mm := ⟨e / 32, e % 32, by omega, by omega⟩
        have hE2 : (e : Int) / 32 = (d : Int) := by omega
        have hE3 : (e : Int) % 32 = (mm : Int) := by omega
        have hd : d < n := by omega
        have hrx := rdx.belowU hux hB
        have hry := rdy.belowU huy hB
        obtain ⟨bx, ox, rfl, hcx⟩ := hrx.cells d (by rw [HL.out]; exact hd)
        have g1 := nth_ge xs d
        have g2 := nth_le hlx d
        have hbit := bit_read hlx d mm e hed hmm
        obtain ⟨bt, hbt⟩ : ∃ bt, bt = val xs / 2 ^ e % 2 := ⟨_, rfl⟩
        rw [← hbt] at hbit
        have hbt1 : bt ≤ 1 := by omega
        have HBT := Lib.hid hbt
        have HED := Lib.hid hed
        have HQL := Lib.hid hql
        clear hbt hed hql hrs
        obtain ⟨S, hS⟩ : ∃ S, S = 2 * r + bt := ⟨_, rfl⟩
        have HS := Lib.hid hS
        go_wp2_with fail
        refine (rdouble_any ra _ rc bt (limbs r) _ hA.rd rfl (by omega) hbt1).mono ?_
        rintro ev w2 ⟨zs, a2, c2, hzv, hzl, rfl, hN2⟩
        rw [val_limbs, ← hS] at hzv
        go_wp2_with fail
        refine (rtrim_any a2 _ c2 zs _ hN2.rd rfl (by omega)).mono ?_
        rintro ev w3 ⟨a3, c3, rfl, hN3⟩
        have hz2 : trimL zs = limbs S := by rw [← limbs_val hN2.rd.lim, hzv.out]
        rw [hz2] at hN3
        rw [hz2]
        have hb3 : Below wr.heap.size wr w3 := hN2.below.trans (hN3.below.mono hN2.below.size)
        have hO3 := hO.below hb3 hO.lt
        have hB3 := hB.trans (hb3.mono hB.size)
        have hry3 := hry.below hb3
        have hA3 : Away w.heap.size (limbs S) a3 c3 w3 := Away.of_new hN3 (Nat.lt_of_lt_of_le hO.lt hN2.below.size)
        have hSl : (limbs S).length ≤ m + 1 := by
          have h1 := length_trimL_le zs
          rw [hz2] at h1; omega
        obtain ⟨bz, oz, ez, hcz⟩ := (rdx.belowU hux hB3).cells d (by rw [HL.out]; exact hd)
        simp only [Option.some.injEq, Addr.mk.injEq, and_true] at ez
        obtain ⟨rfl, rfl⟩ := ez
        clear hN2 hN3 hz2 hzv hzl hb3 hO hA hB hrx hry hcx hS hbit
        go_wp2_with fail
        refine (rcmp_any a3 b _ m c3 cap' (limbs S) ys _ hA3.rd hry3 rfl HL'.out (by omega) (by omega) (.inr ⟨trimL_limbs _, HTY.out⟩)).mono ?_
        rintro ev w4 ⟨rfl, q4, rfl⟩
        rw [val_limbs]
        have hO4 := hO3.below (below_drewN (Below.refl _ _) q4) hO3.lt
        have hA4 := hA3.below (below_drewN (Below.refl _ _) q4)
        have hB4 := below_drewN hB3 q4
        have hry4 := hry3.below (below_drewN (Below.refl _ _) q4)
        clear hO3 hA3 hB3 hry3
        by_cases hge : val ys ≤ S
        · have hc : decide (0 ≤ cmpI S (val ys)) = true := by unfold cmpI; rw [if_neg (by omega)]; split <;> simp
          have HGE := Lib.hid hge
          obtain ⟨hlow, hI2⟩ := hI.out.step_yes (by omega) (by rw [← HBT.out, ← HS.out]; exact hge)
          rw [← HBT.out, ← HS.out] at hI2
          have d1 : e / 32 = d := by have := HED.out; omega
          have d2 : e % 32 = mm := by have := HED.out; omega
          rw [d1, d2] at hI2 hlow
          obtain ⟨aa, hl1, hl2⟩ := hlow
          have hor : bits .or .u32 (nth qs d) ((2 ^ mm : Nat) : Int) = ((qs.getD d 0 + 2 ^ mm : Nat) : Int) := or_free hl1 hl2
          have hpw := pow_wrap mm hmm
          have hps := pow_small mm hmm
          obtain ⟨pw, hpwe⟩ : ∃ pw, pw = 2 ^ mm := ⟨_, rfl⟩
          rw [← hpwe] at hor hpw hps hI2 hl2
          have g5 := nth_ge qs d
          have g6 := nth_le hI.out.qlim d
          obtain ⟨vq, hvq⟩ : ∃ vq, vq = qs.getD d 0 + pw := ⟨_, rfl⟩
          rw [← hvq] at hor hI2 hl2
          have HI2 := Lib.hid hI2
          clear hI hI2 hge hl1 hpwe hvq d1 d2
          go_wp2_with fail
          refine (rdiff_any a3 b _ m c3 cap' (limbs S) ys _ hA4.rd hry4 rfl HL'.out (by omega) (by omega) (by rw [val_limbs]; exact HGE.out)).mono ?_
          rintro ev w5 ⟨zs5, a5, c5, hzv5, hzl5, rfl, hN5⟩
          rw [val_limbs] at hzv5
          go_wp2_with fail
          refine (rtrim_any a5 _ c5 zs5 _ hN5.rd rfl (by omega)).mono ?_
          rintro ev w6 ⟨a6, c6, rfl, hN6⟩
          have hz6 : trimL zs5 = limbs (S - val ys) := by rw [← limbs_val hN5.rd.lim, hzv5.out]
          rw [hz6] at hN6
          rw [hz6]
          have hb6 := hN5.below.trans (hN6.below.mono hN5.below.size)
          have hO6 := hO4.below hb6 hO4.lt
          have hB6 := hB4.trans (hb6.mono hB4.size)
          have hA6 : Away w.heap.size (limbs (S - val ys)) a6 c6 w6 := Away.of_new hN6 (Nat.lt_of_lt_of_le hO4.lt hN5.below.size)
          have hcell := hO6.cell d (by rw [HQL.out]; exact hd)
          have hfree := hO6.free d
          clear hN5 hN6 hz6 hzv5 hzl5 hb6 hO4 hA4 hB4 hry4
          go_wp2_with fail
          go_region
          all_goals go_wp2_with fail
          go_roundw
          case rel =>
            have hst := (hO6.store d vq hl2 (vq : Int) rfl).1
            exact ⟨e, S - val ys, qs.set d vq, a6, c6, by omega, rfl, rfl, HI2.out, hst.below (Below.refl _ _).drew hst.lt, (hA6.store d _).below (Below.refl _ _).drew, (hB6.setCell (p := ⟨w.heap.size, d, none⟩) (Nat.le_refl _) _).drew⟩
          case measure => simp [intOf]
        · have hc : decide (0 ≤ cmpI S (val ys)) = false := by unfold cmpI; rw [if_pos (by omega)]; simp
          have hI2 := hI.out.step_no (by rw [← HBT.out, ← HS.out]; omega)
          rw [← HBT.out, ← HS.out] at hI2
          have HI2 := Lib.hid hI2
          clear hI hI2 hge
          go_wp2_with fail
          go_roundw
          case rel => exact ⟨e, S, qs, a3, c3, by omega, rfl, rfl, HI2.out, hO4, hA4, hB4⟩
          case measure => simp [intOf]
      · obtain rfl : k = 0 := by omega
        obtain ⟨hdq, hdr⟩ := hI.out.done
        subst hdr
        have hzq : trimL qs = limbs (val xs / val ys) := by rw [← limbs_val hI.out.qlim, hdq]
        have HZQ := Lib.hid hzq
        clear hzq hdq hI hrs
        go_wp2_with fail
        refine (rtrim_any _ n n qs _ (hO.rd (by omega)) hql (by omega)).mono ?_
        rintro ev w2 ⟨a2, c2, rfl, hN2⟩
        rw [HZQ.out] at hN2
        rw [HZQ.out]
        have n1 : New w (limbs (val xs / val ys)) a2 c2 w2 := New.before hB hN2
        have n2 : New w (limbs (val xs % val ys)) ra rc w2 := (hA.below hN2.below).to_new (hB.trans (hN2.below.mono hB.size))
        have N1 := Lib.hid n1
        have N2 := Lib.hid n2
        clear n1 n2 hN2 hA hO hB
        go_wp2_with fail
        refine bodyPost_ret (v := .tuple #[.slice a2 (limbs (val xs / val ys)).length c2, .slice ra (limbs (val xs % val ys)).length rc]) ?_ ?_ ?_
        · simp [results, Tryz.results146, go_sem]
        · rfl
        exact ⟨a2, c2, ra, rc, rfl, N1.out, N2.out⟩
theorem rdivide_any (a b : Option Addr) (n m cap cap' : Nat) (xs ys : List Nat) (w : World) (rdx : Rd w a cap xs) (rdy : Rd w b cap' ys) (hl : xs.length = n) (hl' : ys.length = m) (hn : n ≤ 10000000) (hm : m ≤ 10000000) (hpos : 0 < val ys) (hty : trimL ys = ys) :
    Calls Tryz.prog 146 #[.slice a n cap, .slice b m cap'] w (GivesQR w (val xs / val ys) (val xs % val ys)) := by
  by_cases h : n ≤ 2 ∧ m ≤ 2
  · exact rdivide_small a b n m cap cap' xs ys w rdx rdy hl hl' h.1 h.2 hpos
  · exact rdivide_loop a b n m cap cap' xs ys w rdx rdy hl hl' hn hm hpos hty (by omega)
end Go.Proofs.YtfpcfcegdjlggaaGreat
namespace Go.Proofs.YtfpcfcegdjlggaaGreat
open Go.RowKit

attribute [local go_sem ↓] Go.wp_at_zero Go.wp_at_succ

set_option maxRecDepth 100000 in
set_option maxHeartbeats 4000000 in
theorem rsub_raw (na nb : Bool) (a b : Option Addr) (n m cap cap' : Nat) (xs ys : List Nat) (w : World) (rdx : Rd w a cap xs) (rdy : Rd w b cap' ys) (hl : xs.length = n) (hl' : ys.length = m) (hn : n ≤ 1000000000) (hm : m ≤ 1000000000) :
    Calls Tryz.prog 118 #[.agg #[.bool na, .slice a n cap], .agg #[.bool nb, .slice b m cap']] w (GivesInt w (den na xs + -den nb ys)) := by
  have hlx := rdx.lim
  have hly := rdy.lim
  obtain ⟨V, hV⟩ : ∃ V, V = (w.alloc (.cells #[.bool na, .slice a n cap] 51)).alloc (.cells #[.bool nb, .slice b m cap'] 51) := ⟨_, rfl⟩
  obtain ⟨W, hW⟩ : ∃ W, W = V.alloc (.cells #[.bool false, .slice none 0 0] 51) := ⟨_, rfl⟩
  have hb0 : Below w.heap.size w V := by rw [hV]; exact ((Below.refl _ _).alloc (Nat.le_refl _) _).alloc (by simp) _
  have hVs : V.heap.size = w.heap.size + 2 := by rw [hV]; simp
  have hWs : W.heap.size = w.heap.size + 3 := by rw [hW, World.size_alloc, hVs]
  have hx0 : Box w.heap.size (.bool na) (.slice a n cap) V := by rw [hV]; exact (Box.made _ _ rfl _ _ _).alloc _
  have hx1 : Box (w.heap.size + 1) (.bool nb) (.slice b m cap') V := by rw [hV]; exact Box.made _ _ (by simp) _ _ _
  have hxa : Box w.heap.size (.bool na) (.slice a n cap) W := by rw [hW]; exact hx0.alloc _
  have hxb : Box (w.heap.size + 1) (.bool nb) (.slice b m cap') W := by rw [hW]; exact hx1.alloc _
  have hy : Box (w.heap.size + 2) (.bool false) (.slice none 0 0) W := by rw [hW]; exact Box.made _ _ hVs.symm _ _ _
  have hra : Rd W a cap xs := by rw [hW]; exact (rdx.below hb0).alloc _
  have hrb : Rd W b cap' ys := by rw [hW]; exact (rdy.below hb0).alloc _
  have hWW : ((w.alloc (.cells #[.bool na, .slice a n cap] 51)).alloc (.cells #[.bool nb, .slice b m cap'] 51)).alloc (.cells #[.bool false, .slice none 0 0] 51) = W := by rw [hW, hV]
  have hvx := val_trimL hlx
  have hvy := val_trimL hly
  have htx := trimL_trimL hlx
  have hty := trimL_trimL hly
  have hlenx : (trimL xs).length ≤ 1000000000 := Nat.le_trans (length_trimL_le xs) (by omega)
  have hleny : (trimL ys).length ≤ 1000000000 := Nat.le_trans (length_trimL_le ys) (by omega)
  have HUA := Lib.hid rdx.under
  have HUB := Lib.hid rdy.under
  have HWW := Lib.hid hWW
  have HW := Lib.hid hW
  have HVS := Lib.hid hVs
  have HWS := Lib.hid hWs
  have HB0 := Lib.hid hb0
  have HXA := Lib.hid hxa
  have HXB := Lib.hid hxb
  have HY := Lib.hid hy
  have HL := Lib.hid hl
  have HL' := Lib.hid hl'
  have HRA := Lib.hid hra
  have HRB := Lib.hid hrb
  have HVX := Lib.hid hvx
  have HVY := Lib.hid hvy
  have HTX := Lib.hid htx
  have HTY := Lib.hid hty
  have HNX := Lib.hid hlenx
  have HNY := Lib.hid hleny
  clear hWs hV hW hVs hb0 hx0 hx1 hWW hl hl' rdx rdy hy hra hrb hxa hxb hvx hvy htx hty hlenx hleny
  go_enter Tryz.func118, Tryz.ntmps118
  go_wp2_with fail
  rw [HWW.out]
  have hws : w.heap.size + 3 ≤ W.heap.size := by have := HWS.out; omega
  have hml : (mg (-den nb ys)).length ≤ 1000000000 := by
    have : mg (-den nb ys) = limbs (val ys) := by unfold mg; rw [Int.natAbs_neg, natAbs_den]
    rw [this, ← HVY.out, val_trimL hly, limbs_val hly]; exact HNY.out
  go_region_held3 (fun w' => w'.cell? ⟨w.heap.size, 0, none⟩ = some (.bool na) ∧ w'.cell? ⟨w.heap.size, 1, none⟩ = some (.slice a n cap) ∧ w'.cell? ⟨w.heap.size + 1, 0, none⟩ = some (.bool nb) ∧ w'.cell? ⟨w.heap.size + 1, 1, none⟩ = some (.slice b m cap') ∧ Below (w.heap.size + 2) W w')
    (first | exact kept2_draw HXA.out HXB.out (by omega) | assumption | exact kept2_call (by omega) (by omega) (by omega) (by assumption) hN1.below | exact kept2_call (by omega) (by omega) (by omega) (by assumption) hN2.below | exact kept2_store (by omega) (by omega) _ _ (by assumption))
    ((first
      | (go_at_call 99; have hq := kept2_rd (R := w.heap.size + 2) HRB.out HUB.out (by omega) (by assumption); refine (rneg_any nb b m cap' ys _ hq HL'.out hm).mono ?_; clear hq; rintro e w1 ⟨a1, c1, rfl, hN1⟩)
      | (go_at_call 112; have hq := kept2_rd (R := w.heap.size + 2) HRA.out HUA.out (by omega) (by assumption); refine (radd_any na (sg (-den nb ys)) a a1 n _ cap c1 xs (mg (-den nb ys)) _ hq hN1.rd HL.out rfl hn hml).mono ?_; clear hq; rw [den_mg]; rintro e w2 ⟨a2, c2, rfl, hN2⟩; obtain ⟨y0, y1, y2, y3, y4⟩ := (HY.out.drewN 1).below (hN1.below.trans (hN2.below.mono hN1.below.size)))))
  have hN : New W (mg (den na xs + -den nb ys)) a2 c2 w2 := New.before ((Below.refl _ _).drew.trans hN1.below) hN2
  rw [HW.out] at hN
  have hN3 := new_result hN
  rw [HVS.out] at hN3
  have hfin := New.before HB0.out (hN3 (.bool (sg (den na xs + -den nb ys))) (.slice a2 (mg (den na xs + -den nb ys)).length c2))
  have HF := Lib.hid hfin
  clear hN1 hN2 hN hN3 hfin
  go_wp2_with fail
  exact bodyPost_ret (v := .agg #[.bool (sg (den na xs + -den nb ys)), .slice a2 (mg (den na xs + -den nb ys)).length c2]) (by simp [results, Tryz.results118, go_sem, y0, y1]) rfl ⟨a2, c2, rfl, HF.out⟩

theorem rsub_any (na nb : Bool) (a b : Option Addr) (n m cap cap' : Nat) (xs ys : List Nat) (w : World) (rdx : Rd w a cap xs) (rdy : Rd w b cap' ys) (hl : xs.length = n) (hl' : ys.length = m) (hn : n ≤ 1000000000) (hm : m ≤ 1000000000) :
    Calls Tryz.prog 118 #[.agg #[.bool na, .slice a n cap], .agg #[.bool nb, .slice b m cap']] w (GivesInt w (den na xs - den nb ys)) := by
  rw [Int.sub_eq_add_neg]; exact rsub_raw na nb a b n m cap cap' xs ys w rdx rdy hl hl' hn hm
end Go.Proofs.YtfpcfcegdjlggaaGreat
namespace Go.Proofs.YtfpcfcegdjlggaaGreat
open Go.RowKit

/-- A row whose window from j on begins with zs. -/
def win (us : List Nat) (j : Nat) (zs : List Nat) : List Nat := us.take j ++ zs ++ us.drop (j + zs.length)

/-- What subtractTimes has done. -/
structure SubOut (ps vs : List Nat) (d n : Nat) (zs : List Nat) (b : Bool) : Prop where
  len : zs.length = n + 1
  lim : Lim zs
  small : val zs < 4294967296 ^ (n + 1)
  eq : val zs + d * val vs = val ps + 4294967296 ^ (n + 1) * (if b then 1 else 0)

end Go.Proofs.YtfpcfcegdjlggaaGreat
namespace Go.Proofs.YtfpcfcegdjlggaaGreat
open Go.RowKit

/-- The highest limbs of the part and of the divisor. -/
structure EstIn (P V W top lead next third : Nat) : Prop where
  v0 : (lead * 4294967296 + next) * W ≤ V
  v1 : V < (lead * 4294967296 + next + 1) * W
  p0 : (top * 4294967296 + third) * W ≤ P
  p1 : P < (top * 4294967296 + third + 1) * W
  lt : P < 4294967296 * V
  lead : 0 < lead
  next : next < 4294967296
  third : third < 4294967296

theorem EstIn.top {P V W top lead next third : Nat} (h : EstIn P V W top lead next third) : top < (lead + 1) * 4294967296 := by
  have h1 := h.v1
  have h2 := h.p0
  have h3 := h.lt
  have h4 := h.next
  have h5 : (top * 4294967296 + third) * W < 4294967296 * (lead * 4294967296 + next + 1) * W := by
    have : 4294967296 * V ≤ 4294967296 * ((lead * 4294967296 + next + 1) * W) := Nat.mul_le_mul_left _ (Nat.le_of_lt h1)
    rw [← Nat.mul_assoc] at this
    omega
  have h6 := Nat.lt_of_mul_lt_mul_right h5
  omega
theorem EstIn.q {P V W top lead next third : Nat} (h : EstIn P V W top lead next third) : 0 < V ∧ P / V * V ≤ P ∧ P < (P / V + 1) * V ∧ P / V < 4294967296 := by
  have h3 := h.lt
  have hV : 0 < V := by omega
  refine ⟨hV, Nat.div_mul_le_self _ _, ?_, ?_⟩
  · rw [Nat.mul_comm]; exact Nat.lt_mul_div_succ P hV
  · rw [Nat.div_lt_iff_lt_mul hV]; exact h3

/-- The loop of the estimate: what is known of the digit and of the rest. -/
structure EstAt (P V W top lead next third dg r : Nat) : Prop where
  ins : EstIn P V W top lead next third
  inv : EstInv top lead (P / V) dg r

theorem EstIn.start {P V W top lead next third : Nat} (h : EstIn P V W top lead next third) : EstAt P V W top lead next third (top / lead) (top % lead) := by
  refine ⟨h, est_start top lead _ ?_ h.lead⟩
  obtain ⟨hV, h1, h2, h3⟩ := h.q
  have h4 : P / V * (lead * 4294967296 + next) * W < (top * 4294967296 + third + 1) * W := by
    have : P / V * ((lead * 4294967296 + next) * W) ≤ P / V * V := Nat.mul_le_mul_left _ h.v0
    rw [← Nat.mul_assoc] at this
    have := h.p1
    omega
  have h5 := Nat.lt_of_mul_lt_mul_right h4
  have h6 := h.third
  have h7 : P / V * lead * 4294967296 ≤ P / V * (lead * 4294967296 + next) := by rw [Nat.mul_assoc]; exact Nat.mul_le_mul_left _ (by omega)
  generalize P / V * lead = A at *
  omega

theorem EstAt.big {P V W top lead next third dg r : Nat} (h : EstAt P V W top lead next third dg r) (hb : 4294967296 ≤ dg) : EstAt P V W top lead next third (dg - 1) (r + lead) :=
  ⟨h.ins, est_next h.inv (Nat.lt_of_lt_of_le h.ins.q.2.2.2 hb)⟩
theorem EstAt.greater {P V W top lead next third dg r : Nat} (h : EstAt P V W top lead next third dg r) (ht : r * 4294967296 + third < dg * next) : EstAt P V W top lead next third (dg - 1) (r + lead) ∧ 1 ≤ dg := by
  have := est_greater h.inv h.ins.v0 h.ins.p1 h.ins.q.2.1 ht
  exact ⟨⟨h.ins, est_next h.inv this⟩, Nat.lt_of_le_of_lt (Nat.zero_le _) this⟩
theorem EstAt.done {P V W top lead next third dg r : Nat} (h : EstAt P V W top lead next third dg r) (hx : 4294967296 ≤ r ∨ dg < 4294967296 ∧ dg * next ≤ r * 4294967296 + third) :
    dg < 4294967296 ∧ P / V ≤ dg ∧ dg ≤ P / V + 1 := by
  obtain ⟨h1, h2⟩ := est_done h.inv h.ins.next h.ins.lead h.ins.top h.ins.v1 h.ins.p0 h.ins.q.2.2.1 hx
  exact ⟨h1, h.inv.ge, h2⟩

end Go.Proofs.YtfpcfcegdjlggaaGreat
namespace Go.Proofs.YtfpcfcegdjlggaaGreat
open Go.RowKit

/-- The digit fits. -/
theorem LongInv.fits {U V n m j dg : Nat} {us qs zs vs : List Nat} (h : LongInv U V n m (j + 1) us qs) (hVp : 0 < V) (hV : V < 4294967296 ^ n) (hj : j + 1 ≤ m - n + 1) (hnm : n ≤ m) (hv : val vs = V)
    (hd : val ((us.drop j).take (n + 1)) / V ≤ dg ∧ dg ≤ val ((us.drop j).take (n + 1)) / V + 1) (hs : SubOut ((us.drop j).take (n + 1)) vs dg n zs false) : LongInv U V n m j (win us j zs) (dg :: qs) := by
  obtain ⟨p1, p2, p3, p4⟩ := h.part hV hj hnm
  rw [p1] at hd
  have he := hs.eq
  rw [p1, hv] at he
  have hq := Nat.div_mul_le_self (val (us.drop j)) V
  have hq' : val (us.drop j) < (val (us.drop j) / V + 1) * V := by rw [Nat.mul_comm]; exact Nat.lt_mul_div_succ _ hVp
  obtain ⟨rfl, hz⟩ := digit_fits hq hq' hd.1 hd.2 he
  have := (h.step hVp hV hj hnm hs.len hs.lim hz).2
  unfold win
  rw [hs.len]
  exact this

theorem SubOut.pos {ps vs zs : List Nat} {d n : Nat} (h : SubOut ps vs d n zs true) : 1 ≤ d := by
  rcases Nat.eq_zero_or_pos d with h0 | h0
  · have e := h.eq
    have s := h.small
    rw [h0, Nat.zero_mul, if_pos rfl] at e
    omega
  · exact h0

/-- The part is below the divisor times the base. -/
theorem LongInv.below {U V n m j : Nat} {us qs : List Nat} (h : LongInv U V n m (j + 1) us qs) (hV : V < 4294967296 ^ n) (hj : j + 1 ≤ m - n + 1) (hnm : n ≤ m) : val ((us.drop j).take (n + 1)) < 4294967296 * V := by
  obtain ⟨p1, p2, p3, p4⟩ := h.part hV hj hnm
  rw [p1]; exact p3

end Go.Proofs.YtfpcfcegdjlggaaGreat
namespace Go.Proofs.YtfpcfcegdjlggaaGreat
open Go.RowKit

/-- A list of limbs in a block of the call's own, which is neither of two given ones. -/
structure Apart (B0 B1 B2 : Nat) (zs : List Nat) (a : Option Addr) (cap : Nat) (w : World) : Prop where
  fits : zs.length ≤ cap
  own : (a = none ∧ zs = []) ∨ ∃ g, a = some ⟨g, 0, none⟩ ∧ B0 ≤ g ∧ g ≠ B1 ∧ g ≠ B2 ∧ Own w g zs

theorem Apart.rd {B0 B1 B2 : Nat} {zs : List Nat} {a : Option Addr} {cap : Nat} {w : World} (h : Apart B0 B1 B2 zs a cap w) : Rd w a cap zs := by
  rcases h.own with ⟨rfl, rfl⟩ | ⟨g, rfl, _, _, _, ho⟩
  · exact Rd.nil _ _ _
  · exact ho.rd h.fits
theorem Apart.of_new {B0 B1 B2 : Nat} {zs : List Nat} {a : Option Addr} {cap : Nat} {v w : World} (h : New v zs a cap w) (h0 : B0 ≤ v.heap.size) (h1 : B1 < v.heap.size ∨ w.heap.size ≤ B1) (h2 : B2 < v.heap.size ∨ w.heap.size ≤ B2) : Apart B0 B1 B2 zs a cap w := by
  refine ⟨h.fits, ?_⟩
  rcases h.own with h' | ⟨g, rfl, hg, ho⟩
  · exact .inl h'
  · have := ho.lt
    exact .inr ⟨g, rfl, by omega, by omega, by omega, ho⟩
theorem Apart.below {B0 B1 B2 : Nat} {zs : List Nat} {a : Option Addr} {cap : Nat} {w w' : World} (h : Apart B0 B1 B2 zs a cap w) (hb : Below w.heap.size w w') : Apart B0 B1 B2 zs a cap w' := by
  refine ⟨h.fits, ?_⟩
  rcases h.own with h' | ⟨g, rfl, hg, h1, h2, ho⟩
  · exact .inl h'
  · exact .inr ⟨g, rfl, hg, h1, h2, ho.below hb ho.lt⟩
theorem Apart.store1 {B0 B1 B2 : Nat} {zs : List Nat} {a : Option Addr} {cap : Nat} {w : World} (h : Apart B0 B1 B2 zs a cap w) (i : Nat) (v : Value) : Apart B0 B1 B2 zs a cap (w.setCell ⟨B1, i, none⟩ v) := by
  refine ⟨h.fits, ?_⟩
  rcases h.own with h' | ⟨g, rfl, hg, h1, h2, ho⟩
  · exact .inl h'
  · exact .inr ⟨g, rfl, hg, h1, h2, ho.of_heap (Below.heap_setCell _ _ _ _ (by simpa using h1))⟩
theorem Apart.store2 {B0 B1 B2 : Nat} {zs : List Nat} {a : Option Addr} {cap : Nat} {w : World} (h : Apart B0 B1 B2 zs a cap w) (i : Nat) (v : Value) : Apart B0 B1 B2 zs a cap (w.setCell ⟨B2, i, none⟩ v) := by
  refine ⟨h.fits, ?_⟩
  rcases h.own with h' | ⟨g, rfl, hg, h1, h2, ho⟩
  · exact .inl h'
  · exact .inr ⟨g, rfl, hg, h1, h2, ho.of_heap (Below.heap_setCell _ _ _ _ (by simpa using h2))⟩
theorem Apart.to_new {w w' : World} {B0 B1 B2 : Nat} {zs : List Nat} {a : Option Addr} {cap : Nat} (h : Apart B0 B1 B2 zs a cap w') (hB : w.heap.size ≤ B0) (hb : Below w.heap.size w w') : New w zs a cap w' := by
  refine ⟨hb, h.fits, ?_⟩
  rcases h.own with h' | ⟨g, rfl, hg, h1, h2, ho⟩
  · exact .inl h'
  · exact .inr ⟨g, rfl, by omega, ho⟩

theorem Box.stored {B : Nat} {u v : Value} {w : World} (h : Box B u v w) (x y : Value) : Box B x y ((w.setCell ⟨B, 0, none⟩ x).setCell ⟨B, 1, none⟩ y) := by
  obtain ⟨c0, c1, f0, f1, hs⟩ := h
  refine ⟨?_, ?_, ?_, ?_, ?_⟩
  all_goals simp [go_sem, c0, c1, f0, f1, hs]

theorem natAbs_lt' {neg : Bool} {xs : List Nat} (h : Lim xs) : (den neg xs).natAbs < 4294967296 ^ xs.length := by rw [natAbs_den]; exact val_lt h

attribute [local go_sem ↓] Go.wp_at_zero Go.wp_at_succ

end Go.Proofs.YtfpcfcegdjlggaaGreat
