/-
  Joined texts: CP RC CC NZ RB ML MU RM.
-/
import Derived.Test.YtfpcfcegdjlggaaGreatJ05
import Derived.Deep.RegionHeld3
import Derived.Deep.DrawnRows
import Derived.Deep.AppendLies
import Derived.Test.YtfpcfcegdjlggaaGreatJ04
namespace Go.Proofs.YtfpcfcegdjlggaaGreat
open Go.RowKit

section
variable {A B : Nat} {u0 u1 v0 v1 : Value} {W v v' : World}
/-- What a region that draws its order holds: two structs' cells, and all that was there. -/
theorem two_draw (h : Box A u0 u1 W) (h' : Box B v0 v1 W) : W.drew.cell? ⟨A, 0, none⟩ = some u0 ∧ W.drew.cell? ⟨A, 1, none⟩ = some u1 ∧ W.drew.cell? ⟨B, 0, none⟩ = some v0 ∧ W.drew.cell? ⟨B, 1, none⟩ = some v1 ∧ Below W.heap.size W W.drew :=
  ⟨h.c0, h.c1, h'.c0, h'.c1, (Below.refl _ _).drew⟩
theorem two_step (h : Box A u0 u1 W) (h' : Box B v0 v1 W) (hs : v.cell? ⟨A, 0, none⟩ = some u0 ∧ v.cell? ⟨A, 1, none⟩ = some u1 ∧ v.cell? ⟨B, 0, none⟩ = some v0 ∧ v.cell? ⟨B, 1, none⟩ = some v1 ∧ Below W.heap.size W v) (hb : Below v.heap.size v v') :
    v'.cell? ⟨A, 0, none⟩ = some u0 ∧ v'.cell? ⟨A, 1, none⟩ = some u1 ∧ v'.cell? ⟨B, 0, none⟩ = some v0 ∧ v'.cell? ⟨B, 1, none⟩ = some v1 ∧ Below W.heap.size W v' :=
  have hb' := hs.2.2.2.2.trans (hb.mono hs.2.2.2.2.size)
  ⟨(h.below hb').c0, (h.below hb').c1, (h'.below hb').c0, (h'.below hb').c1, hb'⟩
theorem two_rd {a : Option Addr} {cap : Nat} {xs : List Nat} (hr : Rd W a cap xs) (hs : v.cell? ⟨A, 0, none⟩ = some u0 ∧ v.cell? ⟨A, 1, none⟩ = some u1 ∧ v.cell? ⟨B, 0, none⟩ = some v0 ∧ v.cell? ⟨B, 1, none⟩ = some v1 ∧ Below W.heap.size W v) : Rd v a cap xs :=
  hr.below hs.2.2.2.2
theorem two_below (hs : v.cell? ⟨A, 0, none⟩ = some u0 ∧ v.cell? ⟨A, 1, none⟩ = some u1 ∧ v.cell? ⟨B, 0, none⟩ = some v0 ∧ v.cell? ⟨B, 1, none⟩ = some v1 ∧ Below W.heap.size W v) : Below W.heap.size W v := hs.2.2.2.2
end

/-- The order of two numbers. -/
def cmpZ (x y : Int) : Int := if x < y then -1 else if y < x then 1 else 0

theorem sign_lt {x y : Int} (h : sign3 x < sign3 y) : cmpZ x y = -1 := by
  unfold sign3 at h; unfold cmpZ
  rw [if_pos]; split at h <;> split at h <;> (try split at h) <;> (try split at h) <;> omega
theorem sign_gt {x y : Int} (h : sign3 y < sign3 x) : cmpZ x y = 1 := by
  unfold sign3 at h; unfold cmpZ
  rw [if_neg, if_pos] <;> (split at h <;> split at h <;> (try split at h) <;> (try split at h) <;> omega)
theorem sign_neg {na nb : Bool} {xs ys : List Nat} (h : sign3 (den na xs) = sign3 (den nb ys)) (h0 : sign3 (den na xs) < 0) : cmpZ (den na xs) (den nb ys) = cmpI (val ys) (val xs) := by
  have h1 : sign3 (den nb ys) < 0 := by omega
  have e1 : den na xs = -(val xs : Int) := by cases na; · exfalso; unfold sign3 den at h0; simp at h0; split at h0 <;> omega
                                              · rfl
  have e2 : den nb ys = -(val ys : Int) := by cases nb; · exfalso; unfold sign3 den at h1; simp at h1; split at h1 <;> omega
                                              · rfl
  rw [e1, e2]; unfold cmpZ cmpI
  split <;> split <;> first | rfl | omega | (split <;> first | rfl | omega | (split <;> first | rfl | omega))
theorem sign_pos {na nb : Bool} {xs ys : List Nat} (h : sign3 (den na xs) = sign3 (den nb ys)) (h0 : ¬sign3 (den na xs) < 0) : cmpZ (den na xs) (den nb ys) = cmpI (val xs) (val ys) := by
  have h1 : ¬sign3 (den nb ys) < 0 := by omega
  have f : ∀ (s : Bool) (zs : List Nat), ¬sign3 (den s zs) < 0 → den s zs = (val zs : Int) := by
    intro s zs hs
    cases s
    · rfl
    · unfold sign3 den at hs
      simp at hs
      unfold den
      split at hs
      · omega
      · simp; omega
  rw [f _ _ h0, f _ _ h1]; unfold cmpZ cmpI
  split <;> split <;> first | rfl | omega | (split <;> first | rfl | omega | (split <;> first | rfl | omega))

theorem trimL_trimL {xs : List Nat} (h : Lim xs) : trimL (trimL xs) = trimL xs := by rw [← limbs_val h, trimL_limbs]

attribute [local go_sem ↓] Go.wp_at_zero Go.wp_at_succ

end Go.Proofs.YtfpcfcegdjlggaaGreat
namespace Go.Proofs.YtfpcfcegdjlggaaGreat
open Go.RowKit

attribute [local go_sem ↓] Go.wp_at_zero Go.wp_at_succ

set_option maxRecDepth 100000 in
set_option maxHeartbeats 1000000 in
theorem rsign_any (neg : Bool) (a : Option Addr) (n cap : Nat) (xs : List Nat) (w : World) (rdx : Rd w a cap xs) (hl : xs.length = n) (hn : n ≤ 1000000000) :
    Calls Tryz.prog 49 #[.agg #[.bool neg, .slice a n cap]] w fun e w' => e = .returned (.int .i64 (sign3 (den neg xs))) ∧ Below w.heap.size w w' := by
  have htz := trim_length_zero rdx.lim
  have hr1 := rdx.alloc (.cells #[.bool neg, .slice a n cap] 51)
  obtain ⟨T, hT⟩ : ∃ T, T = (trimL xs).length := ⟨_, rfl⟩
  have HL := Lib.hid hl
  have HT := Lib.hid hT
  rw [← hT] at htz
  clear hT hl
  by_cases h0 : T = 0
  · have hs : sign3 (den neg xs) = 0 := by
      have := htz.1 h0
      unfold den sign3; rw [this]; cases neg <;> rfl
    have hb : ((T : Int) == 0) = true := by simp; omega
    have HS := Lib.hid hs
    clear hs htz h0
    go_enter Tryz.func49, Tryz.ntmps49
    go_wp2_with fail
    refine (rtrim_any _ n _ xs _ hr1 HL.out (by omega)).mono ?_
    rintro e w1 ⟨a1, c1, rfl, hN1⟩
    rw [← HT.out]
    have hB := ((Below.refl w.heap.size w).alloc (Nat.le_refl _) _).trans (hN1.below.mono (by simp))
    clear hN1
    go_wp2_with fail
    go_ret
    exact ⟨by rw [HS.out]; rfl, hB⟩
  · have hb : ((T : Int) == 0) = false := by simp; omega
    have hv : val xs ≠ 0 := fun h => h0 (htz.2 h)
    have hs : sign3 (den neg xs) = if neg then -1 else 1 := by
      unfold den sign3; cases neg
      · simp; omega
      · simp; omega
    have HS := Lib.hid hs
    clear hs htz h0 hv
    cases neg
    all_goals
      go_enter Tryz.func49, Tryz.ntmps49
      go_wp2_with fail
      refine (rtrim_any _ n _ xs _ hr1 HL.out (by omega)).mono ?_
      rintro e w1 ⟨a1, c1, rfl, hN1⟩
      rw [← HT.out]
      have hB := ((Below.refl w.heap.size w).alloc (Nat.le_refl _) _).trans (hN1.below.mono (by simp))
      obtain ⟨f1, f2, f3, f4, f5⟩ := held2 hN1.below
      clear hN1
      go_wp2_with fail
      go_ret
      exact ⟨by rw [HS.out]; rfl, hB⟩

theorem cmpI_neg (x y : Nat) : -1 * cmpI y x = cmpI x y := by
  unfold cmpI; split <;> split <;> first | rfl | omega | (split <;> first | rfl | omega)
theorem cmpI_range (x y : Nat) : -1 ≤ cmpI x y ∧ cmpI x y ≤ 1 := by
  unfold cmpI; split
  · omega
  · split <;> omega
theorem sign3_cases (z : Int) : sign3 z = -1 ∨ sign3 z = 0 ∨ sign3 z = 1 := by
  unfold sign3; split
  · exact .inl rfl
  · split
    · exact .inr (.inl rfl)
    · exact .inr (.inr rfl)
theorem sign_mul {na nb : Bool} {xs ys : List Nat} (h : sign3 (den na xs) = sign3 (den nb ys)) : sign3 (den na xs) * cmpI (val xs) (val ys) = cmpZ (den na xs) (den nb ys) := by
  rcases sign3_cases (den na xs) with e | e | e
  · rw [sign_neg h (by omega), e, cmpI_neg]
  · rw [sign_pos h (by omega), e, Int.zero_mul]
    have f : ∀ (s : Bool) (zs : List Nat), sign3 (den s zs) = 0 → val zs = 0 := by
      intro s zs hs
      unfold sign3 at hs
      have hd : den s zs = 0 := by
        split at hs
        · omega
        · split at hs
          · assumption
          · omega
      unfold den at hd
      cases s <;> simp at hd <;> omega
    rw [f _ _ e, f _ _ (h.symm.trans e)]; rfl
  · rw [sign_pos h (by omega), e, Int.one_mul]

set_option maxRecDepth 100000 in
set_option maxHeartbeats 2000000 in
theorem rcmpz_any (na nb : Bool) (a b : Option Addr) (n m cap cap' : Nat) (xs ys : List Nat) (w : World) (rdx : Rd w a cap xs) (rdy : Rd w b cap' ys) (hl : xs.length = n) (hl' : ys.length = m) (hn : n ≤ 1000000000) (hm : m ≤ 1000000000) :
    Calls Tryz.prog 26 #[.agg #[.bool na, .slice a n cap], .agg #[.bool nb, .slice b m cap']] w fun e w' => e = .returned (.int .i64 (cmpZ (den na xs) (den nb ys))) ∧ Below w.heap.size w w' := by
  obtain ⟨W, hW⟩ : ∃ W, W = (w.alloc (.cells #[.bool na, .slice a n cap] 51)).alloc (.cells #[.bool nb, .slice b m cap'] 51) := ⟨_, rfl⟩
  have hb0 : Below w.heap.size w W := by rw [hW]; exact ((Below.refl _ _).alloc (Nat.le_refl _) _).alloc (by simp) _
  have hxa : Box w.heap.size (.bool na) (.slice a n cap) W := by rw [hW]; exact (Box.made _ _ rfl _ _ _).alloc _
  have hxb : Box (w.heap.size + 1) (.bool nb) (.slice b m cap') W := by rw [hW]; exact Box.made _ _ (by simp) _ _ _
  have hra : Rd W a cap xs := rdx.below hb0
  have hrb : Rd W b cap' ys := rdy.below hb0
  have HW := Lib.hid hW
  have HL := Lib.hid hl
  have HL' := Lib.hid hl'
  have HB0 := Lib.hid hb0
  have HXA := Lib.hid hxa
  have HXB := Lib.hid hxb
  have HRA := Lib.hid hra
  have HRB := Lib.hid hrb
  have hlx := rdx.lim
  have hly := rdy.lim
  clear hW hl hl' rdx rdy hb0 hxa hxb hra hrb
  have hvx := val_trimL hlx
  have hvy := val_trimL hly
  have htx := trimL_trimL hlx
  have hty := trimL_trimL hly
  have HVX := Lib.hid hvx
  have HVY := Lib.hid hvy
  have HTX := Lib.hid htx
  have HTY := Lib.hid hty
  have hlenx : (trimL xs).length ≤ 4000000000 := Nat.le_trans (length_trimL_le xs) (by rw [HL.out]; omega)
  have hleny : (trimL ys).length ≤ 4000000000 := Nat.le_trans (length_trimL_le ys) (by rw [HL'.out]; omega)
  have HNX := Lib.hid hlenx
  have HNY := Lib.hid hleny
  clear hvx hvy htx hty hlenx hleny
  by_cases he : sign3 (den na xs) = sign3 (den nb ys)
  · have d0 : (sign3 (den na xs) != sign3 (den nb ys)) = false := by simp [he]
    have HR := Lib.hid (sign_mul he)
    have hr1 := cmpI_range (val xs) (val ys)
    have hr2 : -1 ≤ cmpZ (den na xs) (den nb ys) ∧ cmpZ (den na xs) (den nb ys) ≤ 1 := by unfold cmpZ; split <;> (try split) <;> omega
    have hmul : sign3 (den na xs) * cmpI (val xs) (val ys) = cmpZ (den na xs) (den nb ys) := HR.out
    clear he
    go_enter Tryz.func26, Tryz.ntmps26
    go_wp2_with fail
    rw [← HW.out]
    go_region_held3 (fun w' => w'.cell? ⟨w.heap.size, 0, none⟩ = some (.bool na) ∧ w'.cell? ⟨w.heap.size, 1, none⟩ = some (.slice a n cap) ∧ w'.cell? ⟨w.heap.size + 1, 0, none⟩ = some (.bool nb) ∧ w'.cell? ⟨w.heap.size + 1, 1, none⟩ = some (.slice b m cap') ∧ Below W.heap.size W w')
      (first | exact two_draw HXA.out HXB.out | exact two_step HXA.out HXB.out (by assumption) hb3 | exact two_step HXA.out HXB.out (by assumption) hb4)
      ((first
        | (go_at_call 49; with_reducible refine (rsign_any na a n cap xs _ (two_rd HRA.out (by assumption)) HL.out hn).mono ?_; rintro e w3 ⟨rfl, hb3⟩)
        | (go_at_call 49; with_reducible refine (rsign_any nb b m cap' ys _ (two_rd HRB.out (by assumption)) HL'.out hm).mono ?_; rintro e w4 ⟨rfl, hb4⟩)))
    have hb5 : Below W.heap.size W w4 := two_below (by assumption)
    have hB5 := HB0.out.trans (hb5.mono HB0.out.size)
    have hxa5 := HXA.out.below hb5
    have hxb5 := HXB.out.below hb5
    have hra5 := HRA.out.below hb5
    have hrb5 := HRB.out.below hb5
    go_wp2_with fail
    go_region_held3 (fun w' => w'.cell? ⟨w.heap.size, 0, none⟩ = some (.bool na) ∧ w'.cell? ⟨w.heap.size, 1, none⟩ = some (.slice a n cap) ∧ w'.cell? ⟨w.heap.size + 1, 0, none⟩ = some (.bool nb) ∧ w'.cell? ⟨w.heap.size + 1, 1, none⟩ = some (.slice b m cap') ∧ Below w4.heap.size w4 w')
      (first | exact two_draw hxa5 hxb5 | exact two_step hxa5 hxb5 (by assumption) hN6.below | exact two_step hxa5 hxb5 (by assumption) hN7.below | exact two_step hxa5 hxb5 (by assumption) (below_drewN (Below.refl _ _) qq))
      ((first
        | (go_at_call 51; have hq := two_rd hra5 (by assumption); have hq2 := rtrim_any a n cap xs _ hq HL.out (by omega); (with_reducible refine hq2.mono ?_); clear hq hq2; rintro e w6 ⟨a6, c6, rfl, hN6⟩)
        | (go_at_call 51; have hq := two_rd hrb5 (by assumption); have hq2 := rtrim_any b m cap' ys _ hq HL'.out (by omega); (with_reducible refine hq2.mono ?_); clear hq hq2; rintro e w7 ⟨a7, c7, rfl, hN7⟩)
        | (go_at_call 50; have hq2 := rcmp_any a6 a7 _ _ c6 c7 (trimL xs) (trimL ys) _ (hN6.rd.below hN7.below) hN7.rd rfl rfl HNX.out HNY.out (.inr ⟨HTX.out, HTY.out⟩); refine hq2.mono ?_; clear hq2; rintro e w8 ⟨rfl, qq, rfl⟩; rw [HVX.out, HVY.out])))
    have hb8 := hB5.trans ((two_below (by assumption)).mono hB5.size)
    have hwr : IntKind.i64.wrap (cmpZ (den na xs) (den nb ys)) = cmpZ (den na xs) (den nb ys) := by rw [IntKind.wrap_i64]; omega
    go_wp2_with fail
    go_ret
    exact ⟨by show Ending.returned (.int .i64 (IntKind.i64.wrap (cmpZ (den na xs) (den nb ys)))) = _; rw [hwr], hb8⟩
  · have d0 : (sign3 (den na xs) != sign3 (den nb ys)) = true := by simp [he]
    by_cases h1 : sign3 (den na xs) < sign3 (den nb ys)
    · have d1 : decide (sign3 (den na xs) < sign3 (den nb ys)) = true := decide_eq_true h1
      have HR := Lib.hid (sign_lt h1)
      clear h1 he
      go_enter Tryz.func26, Tryz.ntmps26
      go_wp2_with fail
      rw [← HW.out]
      go_region_held3 (fun w' => w'.cell? ⟨w.heap.size, 0, none⟩ = some (.bool na) ∧ w'.cell? ⟨w.heap.size, 1, none⟩ = some (.slice a n cap) ∧ w'.cell? ⟨w.heap.size + 1, 0, none⟩ = some (.bool nb) ∧ w'.cell? ⟨w.heap.size + 1, 1, none⟩ = some (.slice b m cap') ∧ Below W.heap.size W w')
        (first | exact two_draw HXA.out HXB.out | exact two_step HXA.out HXB.out (by assumption) hb3 | exact two_step HXA.out HXB.out (by assumption) hb4)
        ((first
          | (go_at_call 49; with_reducible refine (rsign_any na a n cap xs _ (two_rd HRA.out (by assumption)) HL.out hn).mono ?_; rintro e w3 ⟨rfl, hb3⟩)
          | (go_at_call 49; with_reducible refine (rsign_any nb b m cap' ys _ (two_rd HRB.out (by assumption)) HL'.out hm).mono ?_; rintro e w4 ⟨rfl, hb4⟩)))
      have hb5 : Below W.heap.size W w4 := two_below (by assumption)
      have hB5 := HB0.out.trans (hb5.mono HB0.out.size)
      have hxa5 := HXA.out.below hb5
      have hxb5 := HXB.out.below hb5
      have hra5 := HRA.out.below hb5
      have hrb5 := HRB.out.below hb5
      obtain ⟨p0, p1, p2, p3, p4⟩ := hxa5
      obtain ⟨q0, q1, q2, q3, q4⟩ := hxb5
      go_wp2_with fail
      go_ret
      exact ⟨by rw [HR.out]; rfl, hB5⟩
    · have d1 : decide (sign3 (den na xs) < sign3 (den nb ys)) = false := decide_eq_false h1
      have HR := Lib.hid (sign_gt (x := den na xs) (y := den nb ys) (by omega))
      clear h1 he
      go_enter Tryz.func26, Tryz.ntmps26
      go_wp2_with fail
      rw [← HW.out]
      go_region_held3 (fun w' => w'.cell? ⟨w.heap.size, 0, none⟩ = some (.bool na) ∧ w'.cell? ⟨w.heap.size, 1, none⟩ = some (.slice a n cap) ∧ w'.cell? ⟨w.heap.size + 1, 0, none⟩ = some (.bool nb) ∧ w'.cell? ⟨w.heap.size + 1, 1, none⟩ = some (.slice b m cap') ∧ Below W.heap.size W w')
        (first | exact two_draw HXA.out HXB.out | exact two_step HXA.out HXB.out (by assumption) hb3 | exact two_step HXA.out HXB.out (by assumption) hb4)
        ((first
          | (go_at_call 49; with_reducible refine (rsign_any na a n cap xs _ (two_rd HRA.out (by assumption)) HL.out hn).mono ?_; rintro e w3 ⟨rfl, hb3⟩)
          | (go_at_call 49; with_reducible refine (rsign_any nb b m cap' ys _ (two_rd HRB.out (by assumption)) HL'.out hm).mono ?_; rintro e w4 ⟨rfl, hb4⟩)))
      have hb5 : Below W.heap.size W w4 := two_below (by assumption)
      have hB5 := HB0.out.trans (hb5.mono HB0.out.size)
      have hxa5 := HXA.out.below hb5
      have hxb5 := HXB.out.below hb5
      have hra5 := HRA.out.below hb5
      have hrb5 := HRB.out.below hb5
      obtain ⟨p0, p1, p2, p3, p4⟩ := hxa5
      obtain ⟨q0, q1, q2, q3, q4⟩ := hxb5
      go_wp2_with fail
      go_ret
      exact ⟨by rw [HR.out]; rfl, hB5⟩
end Go.Proofs.YtfpcfcegdjlggaaGreat
namespace Go.Proofs.YtfpcfcegdjlggaaGreat
open Go.RowKit

section
variable {A R : Nat} {u0 u1 : Value} {W v v' : World}
theorem kept_draw (h : Box A u0 u1 W) (hR : R ≤ W.heap.size) : W.drew.cell? ⟨A, 0, none⟩ = some u0 ∧ W.drew.cell? ⟨A, 1, none⟩ = some u1 ∧ Below R W W.drew :=
  ⟨h.c0, h.c1, ((Below.refl _ _).drew).mono hR⟩
theorem kept_step (_h : Box A u0 u1 W) (hA : A < R) (_hR : R ≤ W.heap.size) (hs : v.cell? ⟨A, 0, none⟩ = some u0 ∧ v.cell? ⟨A, 1, none⟩ = some u1 ∧ Below R W v) (hb : Below R v v') :
    v'.cell? ⟨A, 0, none⟩ = some u0 ∧ v'.cell? ⟨A, 1, none⟩ = some u1 ∧ Below R W v' :=
  ⟨(hb.cell hA).trans hs.1, (hb.cell hA).trans hs.2.1, hs.2.2.trans hb⟩
theorem kept_store (h : Box A u0 u1 W) (hA : A < R) (hR : R ≤ W.heap.size) (x y : Value) (hs : v.cell? ⟨A, 0, none⟩ = some u0 ∧ v.cell? ⟨A, 1, none⟩ = some u1 ∧ Below R W v) :
    ((v.setCell ⟨R, 0, none⟩ x).setCell ⟨R, 1, none⟩ y).cell? ⟨A, 0, none⟩ = some u0 ∧ ((v.setCell ⟨R, 0, none⟩ x).setCell ⟨R, 1, none⟩ y).cell? ⟨A, 1, none⟩ = some u1 ∧ Below R W ((v.setCell ⟨R, 0, none⟩ x).setCell ⟨R, 1, none⟩ y) :=
  kept_step h hA hR hs (((Below.refl _ _).setCell (p := ⟨R, 0, none⟩) (Nat.le_refl _) _).setCell (p := ⟨R, 1, none⟩) (Nat.le_refl _) _)
end

attribute [local go_sem ↓] Go.wp_at_zero Go.wp_at_succ

end Go.Proofs.YtfpcfcegdjlggaaGreat
namespace Go.Proofs.YtfpcfcegdjlggaaGreat
open Go.RowKit

attribute [local go_sem ↓] Go.wp_at_zero Go.wp_at_succ

section
variable {A R : Nat} {u0 u1 : Value} {W v v' : World}
theorem kept_call (h : Box A u0 u1 W) (hA : A < R) (hR : R ≤ W.heap.size) (hs : v.cell? ⟨A, 0, none⟩ = some u0 ∧ v.cell? ⟨A, 1, none⟩ = some u1 ∧ Below R W v) (hb : Below v.heap.size v v') :
    v'.cell? ⟨A, 0, none⟩ = some u0 ∧ v'.cell? ⟨A, 1, none⟩ = some u1 ∧ Below R W v' :=
  kept_step h hA hR hs (hb.mono (Nat.le_trans hR hs.2.2.size))
end

set_option maxRecDepth 100000 in
set_option maxHeartbeats 2000000 in
theorem rnormalize_any (neg : Bool) (a : Option Addr) (n cap : Nat) (xs : List Nat) (w : World) (rdx : Rd w a cap xs) (hl : xs.length = n) (hn : n ≤ 1000000000) :
    Calls Tryz.prog 95 #[.agg #[.bool neg, .slice a n cap]] w (GivesInt w (den neg xs)) := by
  have hlx := rdx.lim
  obtain ⟨V, hV⟩ : ∃ V, V = w.alloc (.cells #[.bool neg, .slice a n cap] 51) := ⟨_, rfl⟩
  obtain ⟨W, hW⟩ : ∃ W, W = V.alloc (.cells #[.bool false, .slice none 0 0] 51) := ⟨_, rfl⟩
  have hb0 : Below w.heap.size w V := by rw [hV]; exact (Below.refl _ _).alloc (Nat.le_refl _) _
  have hVs : V.heap.size = w.heap.size + 1 := by rw [hV]; simp
  have hWs : W.heap.size = w.heap.size + 2 := by rw [hW, World.size_alloc, hVs]
  have hx0 : Box w.heap.size (.bool neg) (.slice a n cap) V := by rw [hV]; exact Box.made _ _ rfl _ _ _
  have hx : Box w.heap.size (.bool neg) (.slice a n cap) W := by rw [hW]; exact hx0.alloc _
  have hy : Box (w.heap.size + 1) (.bool false) (.slice none 0 0) W := by rw [hW]; exact Box.made _ _ hVs.symm _ _ _
  have hr : Rd W a cap xs := by rw [hW]; exact (rdx.below hb0).alloc _
  have hu := rdx.under
  have hWW : (w.alloc (.cells #[.bool neg, .slice a n cap] 51)).alloc (.cells #[.bool false, .slice none 0 0] 51) = W := by rw [hW, hV]
  have HWW := Lib.hid hWW
  have HW := Lib.hid hW
  have HVS := Lib.hid hVs
  have HB0 := Lib.hid hb0
  have HX := Lib.hid hx
  have HL := Lib.hid hl
  have HU := Lib.hid hu
  have HR := Lib.hid hr
  clear hx0 hx hu hr hy hl rdx hb0 hV hW hWW hVs
  go_enter Tryz.func95, Tryz.ntmps95
  go_wp2_with fail
  rw [HWW.out]
  refine (make_any neg a n cap xs _ HR.out HL.out (by omega)).mono ?_
  rintro e w1 ⟨a1, c1, rfl, hN1⟩
  rw [HW.out] at hN1
  obtain ⟨f1, f2, f3, f4, f5⟩ := held2 hN1.below
  have hn := new_result hN1
  rw [HVS.out] at f1 f2 f3 f4 f5 hn
  have hfin := New.before HB0.out (hn (.bool (sg (den neg xs))) (.slice a1 (mg (den neg xs)).length c1))
  have HF := Lib.hid hfin
  clear hN1 hn hfin
  go_wp2_with fail
  exact bodyPost_ret (v := .agg #[.bool (sg (den neg xs)), .slice a1 (mg (den neg xs)).length c1]) (by simp [results, Tryz.results95, go_sem, f1, f2]) rfl ⟨a1, c1, rfl, HF.out⟩
end Go.Proofs.YtfpcfcegdjlggaaGreat
namespace Go.Proofs.YtfpcfcegdjlggaaGreat
open Go.RowKit

theorem den_not (neg : Bool) (xs : List Nat) : den (!neg) xs = -den neg xs := by unfold den; cases neg <;> simp

set_option maxRecDepth 100000 in
set_option maxHeartbeats 2000000 in
theorem rabs_any (neg : Bool) (a : Option Addr) (n cap : Nat) (xs : List Nat) (w : World) (rdx : Rd w a cap xs) (hl : xs.length = n) (hn : n ≤ 1000000000) :
    Calls Tryz.prog 121 #[.agg #[.bool neg, .slice a n cap]] w (GivesInt w (den false xs)) := by
  have hlx := rdx.lim
  obtain ⟨V, hV⟩ : ∃ V, V = w.alloc (.cells #[.bool neg, .slice a n cap] 51) := ⟨_, rfl⟩
  obtain ⟨W, hW⟩ : ∃ W, W = V.alloc (.cells #[.bool false, .slice none 0 0] 51) := ⟨_, rfl⟩
  have hb0 : Below w.heap.size w V := by rw [hV]; exact (Below.refl _ _).alloc (Nat.le_refl _) _
  have hVs : V.heap.size = w.heap.size + 1 := by rw [hV]; simp
  have hWs : W.heap.size = w.heap.size + 2 := by rw [hW, World.size_alloc, hVs]
  have hx0 : Box w.heap.size (.bool neg) (.slice a n cap) V := by rw [hV]; exact Box.made _ _ rfl _ _ _
  have hx : Box w.heap.size (.bool neg) (.slice a n cap) W := by rw [hW]; exact hx0.alloc _
  have hy : Box (w.heap.size + 1) (.bool false) (.slice none 0 0) W := by rw [hW]; exact Box.made _ _ hVs.symm _ _ _
  have hr : Rd W a cap xs := by rw [hW]; exact (rdx.below hb0).alloc _
  have hu := rdx.under
  have hWW : (w.alloc (.cells #[.bool neg, .slice a n cap] 51)).alloc (.cells #[.bool false, .slice none 0 0] 51) = W := by rw [hW, hV]
  have HWW := Lib.hid hWW
  have HW := Lib.hid hW
  have HVS := Lib.hid hVs
  have HB0 := Lib.hid hb0
  have HX := Lib.hid hx
  have HL := Lib.hid hl
  have HU := Lib.hid hu
  have HR := Lib.hid hr
  clear hx0 hx hu hr hy hl rdx hb0 hV hW hWW hVs
  go_enter Tryz.func121, Tryz.ntmps121
  go_wp2_with fail
  rw [HWW.out]
  refine (make_any false a n cap xs _ HR.out HL.out (by omega)).mono ?_
  rintro e w1 ⟨a1, c1, rfl, hN1⟩
  rw [HW.out] at hN1
  obtain ⟨f1, f2, f3, f4, f5⟩ := held2 hN1.below
  have hn := new_result hN1
  rw [HVS.out] at f1 f2 f3 f4 f5 hn
  have hfin := New.before HB0.out (hn (.bool (sg (den false xs))) (.slice a1 (mg (den false xs)).length c1))
  have HF := Lib.hid hfin
  clear hN1 hn hfin
  go_wp2_with fail
  exact bodyPost_ret (v := .agg #[.bool (sg (den false xs)), .slice a1 (mg (den false xs)).length c1]) (by simp [results, Tryz.results121, go_sem, f1, f2]) rfl ⟨a1, c1, rfl, HF.out⟩

set_option maxRecDepth 100000 in
set_option maxHeartbeats 2000000 in
theorem rneg_raw (neg : Bool) (a : Option Addr) (n cap : Nat) (xs : List Nat) (w : World) (rdx : Rd w a cap xs) (hl : xs.length = n) (hn : n ≤ 1000000000) :
    Calls Tryz.prog 99 #[.agg #[.bool neg, .slice a n cap]] w (GivesInt w (den (!neg) xs)) := by
  have hlx := rdx.lim
  obtain ⟨V, hV⟩ : ∃ V, V = w.alloc (.cells #[.bool neg, .slice a n cap] 51) := ⟨_, rfl⟩
  obtain ⟨W, hW⟩ : ∃ W, W = V.alloc (.cells #[.bool false, .slice none 0 0] 51) := ⟨_, rfl⟩
  have hb0 : Below w.heap.size w V := by rw [hV]; exact (Below.refl _ _).alloc (Nat.le_refl _) _
  have hVs : V.heap.size = w.heap.size + 1 := by rw [hV]; simp
  have hWs : W.heap.size = w.heap.size + 2 := by rw [hW, World.size_alloc, hVs]
  have hx0 : Box w.heap.size (.bool neg) (.slice a n cap) V := by rw [hV]; exact Box.made _ _ rfl _ _ _
  have hx : Box w.heap.size (.bool neg) (.slice a n cap) W := by rw [hW]; exact hx0.alloc _
  have hy : Box (w.heap.size + 1) (.bool false) (.slice none 0 0) W := by rw [hW]; exact Box.made _ _ hVs.symm _ _ _
  have hr : Rd W a cap xs := by rw [hW]; exact (rdx.below hb0).alloc _
  have hu := rdx.under
  have hWW : (w.alloc (.cells #[.bool neg, .slice a n cap] 51)).alloc (.cells #[.bool false, .slice none 0 0] 51) = W := by rw [hW, hV]
  have HWW := Lib.hid hWW
  have HW := Lib.hid hW
  have HVS := Lib.hid hVs
  have HB0 := Lib.hid hb0
  have HX := Lib.hid hx
  have HL := Lib.hid hl
  have HU := Lib.hid hu
  have HR := Lib.hid hr
  clear hx0 hx hu hr hy hl rdx hb0 hV hW hWW hVs
  go_enter Tryz.func99, Tryz.ntmps99
  go_wp2_with fail
  rw [HWW.out]
  refine (make_any (!neg) a n cap xs _ HR.out HL.out (by omega)).mono ?_
  rintro e w1 ⟨a1, c1, rfl, hN1⟩
  rw [HW.out] at hN1
  obtain ⟨f1, f2, f3, f4, f5⟩ := held2 hN1.below
  have hn := new_result hN1
  rw [HVS.out] at f1 f2 f3 f4 f5 hn
  have hfin := New.before HB0.out (hn (.bool (sg (den (!neg) xs))) (.slice a1 (mg (den (!neg) xs)).length c1))
  have HF := Lib.hid hfin
  clear hN1 hn hfin
  go_wp2_with fail
  exact bodyPost_ret (v := .agg #[.bool (sg (den (!neg) xs)), .slice a1 (mg (den (!neg) xs)).length c1]) (by simp [results, Tryz.results99, go_sem, f1, f2]) rfl ⟨a1, c1, rfl, HF.out⟩


theorem rneg_any (neg : Bool) (a : Option Addr) (n cap : Nat) (xs : List Nat) (w : World) (rdx : Rd w a cap xs) (hl : xs.length = n) (hn : n ≤ 1000000000) :
    Calls Tryz.prog 99 #[.agg #[.bool neg, .slice a n cap]] w (GivesInt w (-den neg xs)) := by
  rw [← den_not]; exact rneg_raw neg a n cap xs w rdx hl hn
end Go.Proofs.YtfpcfcegdjlggaaGreat
namespace Go.Proofs.YtfpcfcegdjlggaaGreat
open Go.RowKit

/-- One digit of a product, as the machine computes it. -/
theorem prod_digit {zs0 xs ys zs : List Nat} {i j c : Nat} (hx : Lim xs) (hy : Lim ys) (hk : i + j < zs0.length) (h : MulInv zs0 (xs.getD i 0) i ys j zs c) :
    ∃ P : Int, nth xs i * nth ys j = P ∧ 0 ≤ P ∧ P ≤ 18446744065119617025 ∧ P + nth zs (i + j) + (c : Int) ≤ 18446744073709551615 ∧
      ∃ z c' : Nat, z < 4294967296 ∧ (P + nth zs (i + j) + (c : Int)) % 4294967296 = (z : Int) ∧ (P + nth zs (i + j) + (c : Int)) / 4294967296 = (c' : Int) ∧ c' ≤ 4294967295 ∧ MulInv zs0 (xs.getD i 0) i ys (j + 1) (zs.set (i + j) z) c' := by
  have h1 := hx.getD i
  have h2 := hy.getD j
  obtain ⟨hs, hI⟩ := h.step (hx.getD i) hy hk
  have hm : xs.getD i 0 * ys.getD j 0 ≤ 4294967295 * 4294967295 := Nat.mul_le_mul (by omega) (by omega)
  have e : nth xs i * nth ys j = ((xs.getD i 0 * ys.getD j 0 : Nat) : Int) := by unfold nth; simp
  have hc := hI.small
  refine ⟨_, e, by omega, by omega, ?_, _, _, ?_, ?_, ?_, by omega, hI⟩
  · unfold nth; omega
  · exact Nat.mod_lt _ (by omega)
  · unfold nth; omega
  · unfold nth; omega

end Go.Proofs.YtfpcfcegdjlggaaGreat
namespace Go.Proofs.YtfpcfcegdjlggaaGreat
open Go.RowKit

section
variable {A B R : Nat} {u0 u1 v0 v1 : Value} {W v v' : World}
/-- Two structs' cells, and all that lies below R. -/
abbrev Kept2 (A B R : Nat) (u0 u1 v0 v1 : Value) (W v : World) : Prop :=
  v.cell? ⟨A, 0, none⟩ = some u0 ∧ v.cell? ⟨A, 1, none⟩ = some u1 ∧ v.cell? ⟨B, 0, none⟩ = some v0 ∧ v.cell? ⟨B, 1, none⟩ = some v1 ∧ Below R W v
theorem kept2_draw (h : Box A u0 u1 W) (h' : Box B v0 v1 W) (hR : R ≤ W.heap.size) : Kept2 A B R u0 u1 v0 v1 W W.drew :=
  ⟨h.c0, h.c1, h'.c0, h'.c1, ((Below.refl _ _).drew).mono hR⟩
theorem kept2_step (hA : A < R) (hB : B < R) (hs : Kept2 A B R u0 u1 v0 v1 W v) (hb : Below R v v') : Kept2 A B R u0 u1 v0 v1 W v' :=
  ⟨(hb.cell hA).trans hs.1, (hb.cell hA).trans hs.2.1, (hb.cell hB).trans hs.2.2.1, (hb.cell hB).trans hs.2.2.2.1, hs.2.2.2.2.trans hb⟩
theorem kept2_call (hA : A < R) (hB : B < R) (hR : R ≤ W.heap.size) (hs : Kept2 A B R u0 u1 v0 v1 W v) (hb : Below v.heap.size v v') : Kept2 A B R u0 u1 v0 v1 W v' :=
  kept2_step hA hB hs (hb.mono (Nat.le_trans hR hs.2.2.2.2.size))
theorem kept2_store (hA : A < R) (hB : B < R) (x y : Value) (hs : Kept2 A B R u0 u1 v0 v1 W v) : Kept2 A B R u0 u1 v0 v1 W ((v.setCell ⟨R, 0, none⟩ x).setCell ⟨R, 1, none⟩ y) :=
  kept2_step hA hB hs (((Below.refl _ _).setCell (p := ⟨R, 0, none⟩) (Nat.le_refl _) _).setCell (p := ⟨R, 1, none⟩) (Nat.le_refl _) _)
theorem kept2_rd {a : Option Addr} {cap : Nat} {xs : List Nat} {C : Nat} (hr : Rd W a cap xs) (hu : Under C a xs) (hC : C ≤ R) (hs : Kept2 A B R u0 u1 v0 v1 W v) : Rd v a cap xs :=
  hr.belowU hu (hs.2.2.2.2.mono hC)
end

theorem den_mul (na nb : Bool) (xs ys : List Nat) : den na xs * den nb ys = if (na != nb) then -((val xs * val ys : Nat) : Int) else ((val xs * val ys : Nat) : Int) := by
  unfold den
  cases na <;> cases nb <;> simp [Int.neg_mul, Int.mul_neg]

attribute [local go_sem ↓] Go.wp_at_zero Go.wp_at_succ

end Go.Proofs.YtfpcfcegdjlggaaGreat
namespace Go.Proofs.YtfpcfcegdjlggaaGreat
open Go.RowKit

theorem rprod_digit {zs0 xs ys zs : List Nat} {i j c : Nat} (hx : Lim xs) (hy : Lim ys) (hk : i + j < zs0.length) (h : MulInv zs0 (xs.getD i 0) i ys j zs c) :
    ∃ P : Int, nth xs i * nth ys j = P ∧ 0 ≤ P ∧ P ≤ 18446744065119617025 ∧ (c : Int) + (P + nth zs (i + j)) ≤ 18446744073709551615 ∧
      ∃ z c' : Nat, z < 4294967296 ∧ ((c : Int) + (P + nth zs (i + j))) % 4294967296 = (z : Int) ∧ ((c : Int) + (P + nth zs (i + j))) / 4294967296 = (c' : Int) ∧ c' ≤ 4294967295 ∧ MulInv zs0 (xs.getD i 0) i ys (j + 1) (zs.set (i + j) z) c' := by
  obtain ⟨P, h1, h2, h3, h4, z, c', h5, h6, h7, h8, h9⟩ := prod_digit hx hy hk h
  have e : (c : Int) + (P + nth zs (i + j)) = P + nth zs (i + j) + (c : Int) := by omega
  exact ⟨P, h1, h2, h3, by omega, z, c', h5, by rw [e]; exact h6, by rw [e]; exact h7, h8, h9⟩

set_option maxRecDepth 100000 in
set_option maxHeartbeats 4000000 in
theorem rmul_any (na nb : Bool) (a b : Option Addr) (n m cap cap' : Nat) (xs ys : List Nat) (w : World) (rdx : Rd w a cap xs) (rdy : Rd w b cap' ys) (hl : xs.length = n) (hl' : ys.length = m) (hn : n ≤ 1000000000) (hm : m ≤ 1000000000) :
    Calls Tryz.prog 27 #[.agg #[.bool na, .slice a n cap], .agg #[.bool nb, .slice b m cap']] w (GivesInt w (den na xs * den nb ys)) := by
  obtain ⟨i, hi, hz0, hz1, hz2⟩ := info_parts Tryz.infoU32
  have hlx := rdx.lim
  have hly := rdy.lim
  obtain ⟨V, hV⟩ : ∃ V, V = (w.alloc (.cells #[.bool na, .slice a n cap] 51)).alloc (.cells #[.bool nb, .slice b m cap'] 51) := ⟨_, rfl⟩
  obtain ⟨W, hW⟩ : ∃ W, W = V.alloc (.cells #[.bool false, .slice none 0 0] 51) := ⟨_, rfl⟩
  have hb0 : Below w.heap.size w V := by rw [hV]; exact ((Below.refl _ _).alloc (Nat.le_refl _) _).alloc (by simp) _
  have hVs : V.heap.size = w.heap.size + 2 := by rw [hV]; simp
  have hWs : W.heap.size = w.heap.size + 3 := by rw [hW, World.size_alloc, hVs]
  have hx0 : Box w.heap.size (.bool na) (.slice a n cap) V := by rw [hV]; exact (Box.made _ _ rfl _ _ _).alloc _
  have hx1 : Box (w.heap.size + 1) (.bool nb) (.slice b m cap') V := by rw [hV]; exact Box.made _ _ (by simp) _ _ _
  have hxa : Box w.heap.size (.bool na) (.slice a n cap) W := by rw [hW]; exact hx0.alloc _
  have hxb : Box (w.heap.size + 1) (.bool nb) (.slice b m cap') W := by rw [hW]; exact hx1.alloc _
  have hy : Box (w.heap.size + 2) (.bool false) (.slice none 0 0) W := by rw [hW]; exact Box.made _ _ hVs.symm _ _ _
  have hra : Rd W a cap xs := by rw [hW]; exact (rdx.below hb0).alloc _
  have hrb : Rd W b cap' ys := by rw [hW]; exact (rdy.below hb0).alloc _
  have hua := rdx.under
  have hub := rdy.under
  have hWW : ((w.alloc (.cells #[.bool na, .slice a n cap] 51)).alloc (.cells #[.bool nb, .slice b m cap'] 51)).alloc (.cells #[.bool false, .slice none 0 0] 51) = W := by rw [hW, hV]
  have HWW := Lib.hid hWW
  have HW := Lib.hid hW
  have HVS := Lib.hid hVs
  have HB0 := Lib.hid hb0
  have HXA := Lib.hid hxa
  have HXB := Lib.hid hxb
  have HY := Lib.hid hy
  have HL := Lib.hid hl
  have HL' := Lib.hid hl'
  have HRA := Lib.hid hra
  have HRB := Lib.hid hrb
  have HWS := Lib.hid hWs
  clear hWs hV hW hVs hb0 hx0 hx1 hWW hl hl' rdx rdy hy hra hrb hua hub
  obtain ⟨p0, p1, p2, p3, p4⟩ := hxa
  obtain ⟨q0, q1, q2, q3, q4⟩ := hxb
  go_enter Tryz.func27, Tryz.ntmps27
  go_wp2_with (rw [HWW.out]; at_make; refine wpList_make_full _ rfl _ _ 49 rfl W.heap.size 87 i (.int .u32 0) 1 Tryz.underlying49 hi hz0 hz1 _ _ _ _ (n + m) rfl rfl ?_ ?_ ?_ ?_ (Nat.le_refl _) ?_)
  · omega
  · omega
  · rw [hz2]; omega
  · unfold maxLen; omega
  intro w1 hown hgrow
  have ho1 := own_made hown
  have hb1 : Below W.heap.size W w1 := (Below.refl _ _).grown hgrow (Nat.le_refl _) (by intro k hk; cases hk)
  clear hown hgrow p0 p1 p2 p3 p4 q0 q1 q2 q3 q4
  have hxa1 := HXA.out.below hb1
  obtain ⟨p0, p1, p2, p3, p4⟩ := hxa1
  go_wp2_with fail
  have hst0 := MulOut.start xs ys
  rw [HL.out, HL'.out] at hst0
  clear p0 p1 p2 p3 p4
  go_loopw [22] (fun ii wr => ∃ (k : Nat) (zs : List Nat), k ≤ n ∧ ii = .int .i64 k ∧ MulOut xs ys k zs ∧ Own wr W.heap.size zs ∧ Below W.heap.size W wr) (fun ii _ => n - (intOf ii).toNat)
  case atStart => exact ⟨0, _, by omega, rfl, hst0, ho1, hb1⟩
  case round =>
    obtain ⟨k, zs, hk, rfl, hM, hO, hB⟩ := hrel
    clear hst0 ho1 hb1
    by_cases hlt : k < n
    · have hkx : k < xs.length := by rw [HL.out]; exact hlt
      have HM := Lib.hid hM
      have hlim := hM.lim
      have hlen := hM.len
      rw [HL.out, HL'.out] at hlen
      have HLen := Lib.hid hlen
      have HKX := Lib.hid hkx
      clear hM hlen hkx
      obtain ⟨bx, ox, rfl, hcx⟩ := (HRA.out.below hB).cells k HKX.out
      have hxb2 := HXB.out.below hB
      obtain ⟨q0, q1, q2, q3, q4⟩ := hxb2
      have g1 := nth_ge xs k
      have g2 := nth_le hlx k
      go_wp2_with fail
      go_loopw [8, 30] (fun cc jj wq => ∃ (j : Nat) (ys' : List Nat) (c : Nat), j ≤ m ∧ jj = .int .i64 j ∧ cc = .int .u64 c ∧ MulInv zs (xs.getD k 0) k ys j ys' c ∧ Own wq W.heap.size ys' ∧ Below W.heap.size W wq) (fun _ jj _ => m - (intOf jj).toNat)
      case atStart => exact ⟨0, zs, 0, by omega, rfl, rfl, MulInv.start hlim _ _ _, hO, hB⟩
      case round =>
        obtain ⟨j, zs2, c, hj, rfl, rfl, hI, hO2, hB2⟩ := hrel
        clear q0 q1 q2 q3 q4 hO hB
        have hc := hI.small
        have hlen2 : zs2.length = n + m := by rw [hI.len, HLen.out]
        have HLen2 := Lib.hid hlen2
        clear hlen2
        by_cases hjl : j < m
        · obtain ⟨by', oy, rfl, hcy⟩ := (HRB.out.below hB2).cells j (by rw [HL'.out]; exact hjl)
          obtain ⟨P, hP, p0, p1, p2, z, c', hz, hzv, hcv, hc', hI2⟩ := rprod_digit (xs := xs) hlx hly (by rw [HLen.out]; omega) hI
          have g3 := nth_ge ys j
          have g4 := nth_le hly j
          have g5 := nth_ge zs2 (k + j)
          have g6 := nth_le hI.lim (k + j)
          have hcell := hO2.cell (k + j) (by rw [HLen2.out]; omega)
          have hfree := hO2.free (k + j)
          have HZ := Lib.hid hzv
          have HC := Lib.hid hcv
          have HI2 := Lib.hid hI2
          clear hzv hcv hI2 hI
          go_wp2_with fail
          go_roundw
          case rel =>
            have hst := (hO2.store (k + j) z hz _ HZ.out).1
            exact ⟨j + 1, _, c', by omega, by go_num, by rw [HC.out], HI2.out, hst, hB2.setCell (p := ⟨W.heap.size, k + j, none⟩) (Nat.le_refl _) _⟩
          case measure => simp [intOf]; omega
        · obtain rfl : j = m := by omega
          have hnx := HM.out.step HKX.out (by rw [HL'.out]; exact hI)
          rw [HL'.out] at hnx
          have HNX := Lib.hid hnx
          have hcell := hO2.cell (k + j) (by rw [HLen2.out]; omega)
          have hfree := hO2.free (k + j)
          have hc9 : c ≤ 4294967295 := by omega
          have hxb3 := HXB.out.below hB2
          obtain ⟨q0, q1, q2, q3, q4⟩ := hxb3
          clear hnx hI
          go_wp2_with fail
          go_roundw
          case rel =>
            have hst := (hO2.store (k + j) c (by omega) (c : Int) rfl).1
            exact ⟨k + 1, _, by omega, by go_num, HNX.out, hst, hB2.setCell (p := ⟨W.heap.size, k + j, none⟩) (Nat.le_refl _) _⟩
          case measure => simp [intOf]; omega
    · obtain rfl : k = n := by omega
      have hdn := hM.eq
      rw [List.take_of_length_le (by rw [HL.out]; exact Nat.le_refl _)] at hdn
      have hlen := hM.len
      rw [HL.out, HL'.out] at hlen
      have hrz : Rd wr (some ⟨W.heap.size, 0, none⟩) (k + m) zs := hO.rd (by omega)
      have hz : den (na != nb) zs = den na xs * den nb ys := by rw [den_mul]; unfold den; rw [hdn]
      have hyr := HY.out.below hB
      have hxa3 := HXA.out.below hB
      have hxb3 := HXB.out.below hB
      have HYR := Lib.hid hyr
      obtain ⟨p0, p1, p2, p3, p4⟩ := hxa3
      obtain ⟨q0, q1, q2, q3, q4⟩ := hxb3
      have HZ := Lib.hid hz
      have HLen := Lib.hid hlen
      clear hz hlen hdn hM hO hyr
      go_wp2_with fail
      refine (make_any (na != nb) _ (k + m) _ zs _ hrz HLen.out (by omega)).mono ?_
      rintro e w2 ⟨a2, c2, rfl, hN2⟩
      rw [HZ.out] at hN2
      rw [HZ.out]
      obtain ⟨y0, y1, y2, y3, y4⟩ := HYR.out.below hN2.below
      have hN : New W (mg (den na xs * den nb ys)) a2 c2 w2 := New.before hB hN2
      rw [HW.out] at hN
      have hN3 := new_result hN
      rw [HVS.out] at hN3
      have hfin := New.before HB0.out (hN3 (.bool (sg (den na xs * den nb ys))) (.slice a2 (mg (den na xs * den nb ys)).length c2))
      have HF := Lib.hid hfin
      clear hN2 hN hN3 hfin p0 p1 p2 p3 p4 q0 q1 q2 q3 q4 hB
      go_wp2_with fail
      exact bodyPost_ret (v := .agg #[.bool (sg (den na xs * den nb ys)), .slice a2 (mg (den na xs * den nb ys)).length c2]) (by simp [results, Tryz.results27, go_sem, y0, y1]) rfl ⟨a2, c2, rfl, HF.out⟩
end Go.Proofs.YtfpcfcegdjlggaaGreat
