/-
  Comparing two Ints: the program's Cmp, the reference's Sign and Cmp.
-/
import Derived.Test.YtllogjmepflnoaaDoorAA
import Derived.Test.YtllogjmepflnoaaDoorM
import Derived.Deep.RegionHeld3
import Derived.Deep.DrawnRows
namespace Go.Proofs.YtllogjmepflnoaaDoor
open Go.RowKit

section
variable {A B : Nat} {u0 u1 v0 v1 : Value} {W v v' : World}
/-- What a region that draws its order holds: two structs' cells, and all that was there. -/
theorem two_draw (h : Box A u0 u1 W) (h' : Box B v0 v1 W) : W.drew.cell? ⟨A, 0, none⟩ = some u0 ∧ W.drew.cell? ⟨A, 1, none⟩ = some u1 ∧ W.drew.cell? ⟨B, 0, none⟩ = some v0 ∧ W.drew.cell? ⟨B, 1, none⟩ = some v1 ∧ Below W.heap.size W W.drew :=
  ⟨h.c0, h.c1, h'.c0, h'.c1, (Below.refl _ _).drew⟩
theorem two_step (h : Box A u0 u1 W) (h' : Box B v0 v1 W) (hs : v.cell? ⟨A, 0, none⟩ = some u0 ∧ v.cell? ⟨A, 1, none⟩ = some u1 ∧ v.cell? ⟨B, 0, none⟩ = some v0 ∧ v.cell? ⟨B, 1, none⟩ = some v1 ∧ Below W.heap.size W v) (hb : Below v.heap.size v v') :
    v'.cell? ⟨A, 0, none⟩ = some u0 ∧ v'.cell? ⟨A, 1, none⟩ = some u1 ∧ v'.cell? ⟨B, 0, none⟩ = some v0 ∧ v'.cell? ⟨B, 1, none⟩ = some v1 ∧ Below W.heap.size W v' :=
  have hb' := hs.2.2.2.2.trans (hb.mono hs.2.2.2.2.size)
  ⟨(h.below hb').c0, (h.below hb').c1, (h'.below hb').c0, (h'.below hb').c1, hb'⟩
theorem two_rd {a : Option Addr} {cap : Nat} {xs : List Nat} (hr : Rd W a cap xs) (hs : v.cell? ⟨A, 0, none⟩ = some u0 ∧ v.cell? ⟨A, 1, none⟩ = some u1 ∧ v.cell? ⟨B, 0, none⟩ = some v0 ∧ v.cell? ⟨B, 1, none⟩ = some v1 ∧ Below W.heap.size W v) : Rd v a cap xs :=
  hr.below hs.2.2.2.2
theorem two_below (hs : v.cell? ⟨A, 0, none⟩ = some u0 ∧ v.cell? ⟨A, 1, none⟩ = some u1 ∧ v.cell? ⟨B, 0, none⟩ = some v0 ∧ v.cell? ⟨B, 1, none⟩ = some v1 ∧ Below W.heap.size W v) : Below W.heap.size W v := hs.2.2.2.2
end

/-- The order of two numbers. -/
def cmpZ (x y : Int) : Int := if x < y then -1 else if y < x then 1 else 0

theorem sign_lt {x y : Int} (h : sign3 x < sign3 y) : cmpZ x y = -1 := by
  unfold sign3 at h; unfold cmpZ
  rw [if_pos]; split at h <;> split at h <;> (try split at h) <;> (try split at h) <;> omega
theorem sign_gt {x y : Int} (h : sign3 y < sign3 x) : cmpZ x y = 1 := by
  unfold sign3 at h; unfold cmpZ
  rw [if_neg, if_pos] <;> (split at h <;> split at h <;> (try split at h) <;> (try split at h) <;> omega)
theorem sign_neg {na nb : Bool} {xs ys : List Nat} (h : sign3 (den na xs) = sign3 (den nb ys)) (h0 : sign3 (den na xs) < 0) : cmpZ (den na xs) (den nb ys) = cmpI (val ys) (val xs) := by
  have h1 : sign3 (den nb ys) < 0 := by omega
  have e1 : den na xs = -(val xs : Int) := by cases na; · exfalso; unfold sign3 den at h0; simp at h0; split at h0 <;> omega
                                              · rfl
  have e2 : den nb ys = -(val ys : Int) := by cases nb; · exfalso; unfold sign3 den at h1; simp at h1; split at h1 <;> omega
                                              · rfl
  rw [e1, e2]; unfold cmpZ cmpI
  split <;> split <;> first | rfl | omega | (split <;> first | rfl | omega | (split <;> first | rfl | omega))
theorem sign_pos {na nb : Bool} {xs ys : List Nat} (h : sign3 (den na xs) = sign3 (den nb ys)) (h0 : ¬sign3 (den na xs) < 0) : cmpZ (den na xs) (den nb ys) = cmpI (val xs) (val ys) := by
  have h1 : ¬sign3 (den nb ys) < 0 := by omega
  have f : ∀ (s : Bool) (zs : List Nat), ¬sign3 (den s zs) < 0 → den s zs = (val zs : Int) := by
    intro s zs hs
    cases s
    · rfl
    · unfold sign3 den at hs
      simp at hs
      unfold den
      split at hs
      · omega
      · simp; omega
  rw [f _ _ h0, f _ _ h1]; unfold cmpZ cmpI
  split <;> split <;> first | rfl | omega | (split <;> first | rfl | omega | (split <;> first | rfl | omega))

theorem trimL_trimL {xs : List Nat} (h : Lim xs) : trimL (trimL xs) = trimL xs := by rw [← limbs_val h, trimL_limbs]

attribute [local go_sem ↓] Go.wp_at_zero Go.wp_at_succ

set_option maxRecDepth 100000 in
set_option maxHeartbeats 2000000 in
theorem cmp_any (na nb : Bool) (a b : Option Addr) (n m cap cap' : Nat) (xs ys : List Nat) (w : World) (rdx : Rd w a cap xs) (rdy : Rd w b cap' ys) (hl : xs.length = n) (hl' : ys.length = m) (hn : n ≤ 1000000000) (hm : m ≤ 1000000000) :
    Calls Tryd.prog 31 #[.agg #[.bool na, .slice a n cap], .agg #[.bool nb, .slice b m cap']] w fun e w' => e = .returned (.int .i64 (cmpZ (den na xs) (den nb ys))) ∧ Below w.heap.size w w' := by
  obtain ⟨W, hW⟩ : ∃ W, W = (w.alloc (.cells #[.bool na, .slice a n cap] 24)).alloc (.cells #[.bool nb, .slice b m cap'] 24) := ⟨_, rfl⟩
  have hb0 : Below w.heap.size w W := by rw [hW]; exact ((Below.refl _ _).alloc (Nat.le_refl _) _).alloc (by simp) _
  have hxa : Box w.heap.size (.bool na) (.slice a n cap) W := by rw [hW]; exact (Box.made _ _ rfl _ _ _).alloc _
  have hxb : Box (w.heap.size + 1) (.bool nb) (.slice b m cap') W := by rw [hW]; exact Box.made _ _ (by simp) _ _ _
  have hra : Rd W a cap xs := rdx.below hb0
  have hrb : Rd W b cap' ys := rdy.below hb0
  have HW := Lib.hid hW
  have HL := Lib.hid hl
  have HL' := Lib.hid hl'
  have HB0 := Lib.hid hb0
  have HXA := Lib.hid hxa
  have HXB := Lib.hid hxb
  have HRA := Lib.hid hra
  have HRB := Lib.hid hrb
  have hlx := rdx.lim
  have hly := rdy.lim
  clear hW hl hl' rdx rdy hb0 hxa hxb hra hrb
  have hvx := val_trimL hlx
  have hvy := val_trimL hly
  have htx := trimL_trimL hlx
  have hty := trimL_trimL hly
  have HVX := Lib.hid hvx
  have HVY := Lib.hid hvy
  have HTX := Lib.hid htx
  have HTY := Lib.hid hty
  have hlenx : (trimL xs).length ≤ 4000000000 := Nat.le_trans (length_trimL_le xs) (by rw [HL.out]; omega)
  have hleny : (trimL ys).length ≤ 4000000000 := Nat.le_trans (length_trimL_le ys) (by rw [HL'.out]; omega)
  have HNX := Lib.hid hlenx
  have HNY := Lib.hid hleny
  clear hvx hvy htx hty hlenx hleny
  by_cases h1 : sign3 (den na xs) < sign3 (den nb ys)
  · have d1 : decide (sign3 (den na xs) < sign3 (den nb ys)) = true := decide_eq_true h1
    have HR := Lib.hid (sign_lt h1)
    clear h1
    go_enter Tryd.func31, Tryd.ntmps31
    go_wp2_with fail
    rw [← HW.out]
    go_region_held3 (fun w' => w'.cell? ⟨w.heap.size, 0, none⟩ = some (.bool na) ∧ w'.cell? ⟨w.heap.size, 1, none⟩ = some (.slice a n cap) ∧ w'.cell? ⟨w.heap.size + 1, 0, none⟩ = some (.bool nb) ∧ w'.cell? ⟨w.heap.size + 1, 1, none⟩ = some (.slice b m cap') ∧ Below W.heap.size W w')
      (first | exact two_draw HXA.out HXB.out | exact two_step HXA.out HXB.out (by assumption) hb3 | exact two_step HXA.out HXB.out (by assumption) hb4)
      ((first
        | (go_at_call 29; with_reducible refine (sign_any na a n cap xs _ (two_rd HRA.out (by assumption)) HL.out hn).mono ?_; rintro e w3 ⟨rfl, hb3⟩)
        | (go_at_call 29; with_reducible refine (sign_any nb b m cap' ys _ (two_rd HRB.out (by assumption)) HL'.out hm).mono ?_; rintro e w4 ⟨rfl, hb4⟩)))
    have hb5 : Below W.heap.size W w4 := two_below (by assumption)
    have hB5 := HB0.out.trans (hb5.mono HB0.out.size)
    have hxa5 := HXA.out.below hb5
    have hxb5 := HXB.out.below hb5
    have hra5 := HRA.out.below hb5
    have hrb5 := HRB.out.below hb5
    obtain ⟨p0, p1, p2, p3, p4⟩ := hxa5
    obtain ⟨q0, q1, q2, q3, q4⟩ := hxb5
    go_wp2_with fail
    go_ret
    exact ⟨by rw [HR.out]; rfl, hB5⟩
  · have d1 : decide (sign3 (den na xs) < sign3 (den nb ys)) = false := decide_eq_false h1
    by_cases h2 : sign3 (den nb ys) < sign3 (den na xs)
    · have d2 : decide (sign3 (den nb ys) < sign3 (den na xs)) = true := decide_eq_true h2
      have HR := Lib.hid (sign_gt h2)
      clear h1 h2
      go_enter Tryd.func31, Tryd.ntmps31
      go_wp2_with fail
      rw [← HW.out]
      go_region_held3 (fun w' => w'.cell? ⟨w.heap.size, 0, none⟩ = some (.bool na) ∧ w'.cell? ⟨w.heap.size, 1, none⟩ = some (.slice a n cap) ∧ w'.cell? ⟨w.heap.size + 1, 0, none⟩ = some (.bool nb) ∧ w'.cell? ⟨w.heap.size + 1, 1, none⟩ = some (.slice b m cap') ∧ Below W.heap.size W w')
        (first | exact two_draw HXA.out HXB.out | exact two_step HXA.out HXB.out (by assumption) hb3 | exact two_step HXA.out HXB.out (by assumption) hb4)
        ((first
          | (go_at_call 29; with_reducible refine (sign_any na a n cap xs _ (two_rd HRA.out (by assumption)) HL.out hn).mono ?_; rintro e w3 ⟨rfl, hb3⟩)
          | (go_at_call 29; with_reducible refine (sign_any nb b m cap' ys _ (two_rd HRB.out (by assumption)) HL'.out hm).mono ?_; rintro e w4 ⟨rfl, hb4⟩)))
      have hb5 : Below W.heap.size W w4 := two_below (by assumption)
      have hB5 := HB0.out.trans (hb5.mono HB0.out.size)
      have hxa5 := HXA.out.below hb5
      have hxb5 := HXB.out.below hb5
      have hra5 := HRA.out.below hb5
      have hrb5 := HRB.out.below hb5
      obtain ⟨p0, p1, p2, p3, p4⟩ := hxa5
      obtain ⟨q0, q1, q2, q3, q4⟩ := hxb5
      go_wp2_with fail
      go_ret
      exact ⟨by rw [HR.out]; rfl, hB5⟩
    · have d2 : decide (sign3 (den nb ys) < sign3 (den na xs)) = false := decide_eq_false h2
      have he : sign3 (den na xs) = sign3 (den nb ys) := by omega
      by_cases h3 : sign3 (den na xs) < 0
      · have d3 : decide (sign3 (den na xs) < 0) = true := decide_eq_true h3
        have HR := Lib.hid (sign_neg he h3)
        clear h1 h2 h3 he
        go_enter Tryd.func31, Tryd.ntmps31
        go_wp2_with fail
        rw [← HW.out]
        go_region_held3 (fun w' => w'.cell? ⟨w.heap.size, 0, none⟩ = some (.bool na) ∧ w'.cell? ⟨w.heap.size, 1, none⟩ = some (.slice a n cap) ∧ w'.cell? ⟨w.heap.size + 1, 0, none⟩ = some (.bool nb) ∧ w'.cell? ⟨w.heap.size + 1, 1, none⟩ = some (.slice b m cap') ∧ Below W.heap.size W w')
          (first | exact two_draw HXA.out HXB.out | exact two_step HXA.out HXB.out (by assumption) hb3 | exact two_step HXA.out HXB.out (by assumption) hb4)
          ((first
            | (go_at_call 29; with_reducible refine (sign_any na a n cap xs _ (two_rd HRA.out (by assumption)) HL.out hn).mono ?_; rintro e w3 ⟨rfl, hb3⟩)
            | (go_at_call 29; with_reducible refine (sign_any nb b m cap' ys _ (two_rd HRB.out (by assumption)) HL'.out hm).mono ?_; rintro e w4 ⟨rfl, hb4⟩)))
        have hb5 : Below W.heap.size W w4 := two_below (by assumption)
        have hB5 := HB0.out.trans (hb5.mono HB0.out.size)
        have hxa5 := HXA.out.below hb5
        have hxb5 := HXB.out.below hb5
        have hra5 := HRA.out.below hb5
        have hrb5 := HRB.out.below hb5
        obtain ⟨p0, p1, p2, p3, p4⟩ := hxa5
        obtain ⟨q0, q1, q2, q3, q4⟩ := hxb5
        go_wp2_with fail
        go_quiet ((first
          | (go_at_call 53; first | with_reducible exact quiet_eq (trim_any a n cap xs _ (hra5.drewN _) HL.out (by omega)) | with_reducible exact quiet_eq (trim_any b m cap' ys _ (hrb5.drewN _) HL'.out (by omega)))
          | (go_at_call 62; exact Calls.quiet_of ((cmpLimbs_any _ _ _ _ _ _ (trimL ys) (trimL xs) _ (hrb5.drewN _).trim (hra5.drewN _).trim rfl rfl HNY.out HNX.out HTY.out HTX.out).mono fun _ _ ⟨he, q, hq⟩ => ⟨he, q, hq.symm⟩))))
        rw [HVX.out, HVY.out]
        go_wp2_with fail
        go_ret
        exact ⟨by rw [HR.out]; rfl, below_drewN hB5 _⟩
      · have d3 : decide (sign3 (den na xs) < 0) = false := decide_eq_false h3
        have HR := Lib.hid (sign_pos he h3)
        clear h1 h2 h3 he
        go_enter Tryd.func31, Tryd.ntmps31
        go_wp2_with fail
        rw [← HW.out]
        go_region_held3 (fun w' => w'.cell? ⟨w.heap.size, 0, none⟩ = some (.bool na) ∧ w'.cell? ⟨w.heap.size, 1, none⟩ = some (.slice a n cap) ∧ w'.cell? ⟨w.heap.size + 1, 0, none⟩ = some (.bool nb) ∧ w'.cell? ⟨w.heap.size + 1, 1, none⟩ = some (.slice b m cap') ∧ Below W.heap.size W w')
          (first | exact two_draw HXA.out HXB.out | exact two_step HXA.out HXB.out (by assumption) hb3 | exact two_step HXA.out HXB.out (by assumption) hb4)
          ((first
            | (go_at_call 29; with_reducible refine (sign_any na a n cap xs _ (two_rd HRA.out (by assumption)) HL.out hn).mono ?_; rintro e w3 ⟨rfl, hb3⟩)
            | (go_at_call 29; with_reducible refine (sign_any nb b m cap' ys _ (two_rd HRB.out (by assumption)) HL'.out hm).mono ?_; rintro e w4 ⟨rfl, hb4⟩)))
        have hb5 : Below W.heap.size W w4 := two_below (by assumption)
        have hB5 := HB0.out.trans (hb5.mono HB0.out.size)
        have hxa5 := HXA.out.below hb5
        have hxb5 := HXB.out.below hb5
        have hra5 := HRA.out.below hb5
        have hrb5 := HRB.out.below hb5
        obtain ⟨p0, p1, p2, p3, p4⟩ := hxa5
        obtain ⟨q0, q1, q2, q3, q4⟩ := hxb5
        go_wp2_with fail
        go_quiet ((first
          | (go_at_call 53; first | with_reducible exact quiet_eq (trim_any a n cap xs _ (hra5.drewN _) HL.out (by omega)) | with_reducible exact quiet_eq (trim_any b m cap' ys _ (hrb5.drewN _) HL'.out (by omega)))
          | (go_at_call 62; exact Calls.quiet_of ((cmpLimbs_any _ _ _ _ _ _ (trimL xs) (trimL ys) _ (hra5.drewN _).trim (hrb5.drewN _).trim rfl rfl HNX.out HNY.out HTX.out HTY.out).mono fun _ _ ⟨he, q, hq⟩ => ⟨he, q, hq.symm⟩))))
        rw [HVX.out, HVY.out]
        go_wp2_with fail
        go_ret
        exact ⟨by rw [HR.out]; rfl, below_drewN hB5 _⟩
end Go.Proofs.YtllogjmepflnoaaDoor
