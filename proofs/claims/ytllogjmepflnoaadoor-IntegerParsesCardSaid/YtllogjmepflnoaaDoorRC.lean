/-
  The reference's Sign and Cmp; the laws' copied.
-/
import Derived.Test.YtllogjmepflnoaaDoorCP
namespace Go.Proofs.YtllogjmepflnoaaDoor
open Go.RowKit

attribute [local go_sem ↓] Go.wp_at_zero Go.wp_at_succ

set_option maxRecDepth 100000 in
set_option maxHeartbeats 1000000 in
theorem rsign_any (neg : Bool) (a : Option Addr) (n cap : Nat) (xs : List Nat) (w : World) (rdx : Rd w a cap xs) (hl : xs.length = n) (hn : n ≤ 1000000000) :
    Calls Tryd.prog 30 #[.agg #[.bool neg, .slice a n cap]] w fun e w' => e = .returned (.int .i64 (sign3 (den neg xs))) ∧ Below w.heap.size w w' := by
  have htz := trim_length_zero rdx.lim
  have hr1 := rdx.alloc (.cells #[.bool neg, .slice a n cap] 24)
  obtain ⟨T, hT⟩ : ∃ T, T = (trimL xs).length := ⟨_, rfl⟩
  have HL := Lib.hid hl
  have HT := Lib.hid hT
  rw [← hT] at htz
  clear hT hl
  by_cases h0 : T = 0
  · have hs : sign3 (den neg xs) = 0 := by
      have := htz.1 h0
      unfold den sign3; rw [this]; cases neg <;> rfl
    have hb : ((T : Int) == 0) = true := by simp; omega
    have HS := Lib.hid hs
    clear hs htz h0
    go_enter Tryd.func30, Tryd.ntmps30
    go_wp2_with fail
    refine (rtrim_any _ n _ xs _ hr1 HL.out (by omega)).mono ?_
    rintro e w1 ⟨a1, c1, rfl, hN1⟩
    rw [← HT.out]
    have hB := ((Below.refl w.heap.size w).alloc (Nat.le_refl _) _).trans (hN1.below.mono (by simp))
    clear hN1
    go_wp2_with fail
    go_ret
    exact ⟨by rw [HS.out]; rfl, hB⟩
  · have hb : ((T : Int) == 0) = false := by simp; omega
    have hv : val xs ≠ 0 := fun h => h0 (htz.2 h)
    have hs : sign3 (den neg xs) = if neg then -1 else 1 := by
      unfold den sign3; cases neg
      · simp; omega
      · simp; omega
    have HS := Lib.hid hs
    clear hs htz h0 hv
    cases neg
    all_goals
      go_enter Tryd.func30, Tryd.ntmps30
      go_wp2_with fail
      refine (rtrim_any _ n _ xs _ hr1 HL.out (by omega)).mono ?_
      rintro e w1 ⟨a1, c1, rfl, hN1⟩
      rw [← HT.out]
      have hB := ((Below.refl w.heap.size w).alloc (Nat.le_refl _) _).trans (hN1.below.mono (by simp))
      obtain ⟨f1, f2, f3, f4, f5⟩ := held2 hN1.below
      clear hN1
      go_wp2_with fail
      go_ret
      exact ⟨by rw [HS.out]; rfl, hB⟩

theorem cmpI_neg (x y : Nat) : -1 * cmpI y x = cmpI x y := by
  unfold cmpI; split <;> split <;> first | rfl | omega | (split <;> first | rfl | omega)
theorem cmpI_range (x y : Nat) : -1 ≤ cmpI x y ∧ cmpI x y ≤ 1 := by
  unfold cmpI; split
  · omega
  · split <;> omega
theorem sign3_cases (z : Int) : sign3 z = -1 ∨ sign3 z = 0 ∨ sign3 z = 1 := by
  unfold sign3; split
  · exact .inl rfl
  · split
    · exact .inr (.inl rfl)
    · exact .inr (.inr rfl)
theorem sign_mul {na nb : Bool} {xs ys : List Nat} (h : sign3 (den na xs) = sign3 (den nb ys)) : sign3 (den na xs) * cmpI (val xs) (val ys) = cmpZ (den na xs) (den nb ys) := by
  rcases sign3_cases (den na xs) with e | e | e
  · rw [sign_neg h (by omega), e, cmpI_neg]
  · rw [sign_pos h (by omega), e, Int.zero_mul]
    have f : ∀ (s : Bool) (zs : List Nat), sign3 (den s zs) = 0 → val zs = 0 := by
      intro s zs hs
      unfold sign3 at hs
      have hd : den s zs = 0 := by
        split at hs
        · omega
        · split at hs
          · assumption
          · omega
      unfold den at hd
      cases s <;> simp at hd <;> omega
    rw [f _ _ e, f _ _ (h.symm.trans e)]; rfl
  · rw [sign_pos h (by omega), e, Int.one_mul]

set_option maxRecDepth 100000 in
set_option maxHeartbeats 2000000 in
theorem rcmpz_any (na nb : Bool) (a b : Option Addr) (n m cap cap' : Nat) (xs ys : List Nat) (w : World) (rdx : Rd w a cap xs) (rdy : Rd w b cap' ys) (hl : xs.length = n) (hl' : ys.length = m) (hn : n ≤ 1000000000) (hm : m ≤ 1000000000) :
    Calls Tryd.prog 32 #[.agg #[.bool na, .slice a n cap], .agg #[.bool nb, .slice b m cap']] w fun e w' => e = .returned (.int .i64 (cmpZ (den na xs) (den nb ys))) ∧ Below w.heap.size w w' := by
  obtain ⟨W, hW⟩ : ∃ W, W = (w.alloc (.cells #[.bool na, .slice a n cap] 24)).alloc (.cells #[.bool nb, .slice b m cap'] 24) := ⟨_, rfl⟩
  have hb0 : Below w.heap.size w W := by rw [hW]; exact ((Below.refl _ _).alloc (Nat.le_refl _) _).alloc (by simp) _
  have hxa : Box w.heap.size (.bool na) (.slice a n cap) W := by rw [hW]; exact (Box.made _ _ rfl _ _ _).alloc _
  have hxb : Box (w.heap.size + 1) (.bool nb) (.slice b m cap') W := by rw [hW]; exact Box.made _ _ (by simp) _ _ _
  have hra : Rd W a cap xs := rdx.below hb0
  have hrb : Rd W b cap' ys := rdy.below hb0
  have HW := Lib.hid hW
  have HL := Lib.hid hl
  have HL' := Lib.hid hl'
  have HB0 := Lib.hid hb0
  have HXA := Lib.hid hxa
  have HXB := Lib.hid hxb
  have HRA := Lib.hid hra
  have HRB := Lib.hid hrb
  have hlx := rdx.lim
  have hly := rdy.lim
  clear hW hl hl' rdx rdy hb0 hxa hxb hra hrb
  have hvx := val_trimL hlx
  have hvy := val_trimL hly
  have htx := trimL_trimL hlx
  have hty := trimL_trimL hly
  have HVX := Lib.hid hvx
  have HVY := Lib.hid hvy
  have HTX := Lib.hid htx
  have HTY := Lib.hid hty
  have hlenx : (trimL xs).length ≤ 4000000000 := Nat.le_trans (length_trimL_le xs) (by rw [HL.out]; omega)
  have hleny : (trimL ys).length ≤ 4000000000 := Nat.le_trans (length_trimL_le ys) (by rw [HL'.out]; omega)
  have HNX := Lib.hid hlenx
  have HNY := Lib.hid hleny
  clear hvx hvy htx hty hlenx hleny
  by_cases he : sign3 (den na xs) = sign3 (den nb ys)
  · have d0 : (sign3 (den na xs) != sign3 (den nb ys)) = false := by simp [he]
    have HR := Lib.hid (sign_mul he)
    have hr1 := cmpI_range (val xs) (val ys)
    have hr2 : -1 ≤ cmpZ (den na xs) (den nb ys) ∧ cmpZ (den na xs) (den nb ys) ≤ 1 := by unfold cmpZ; split <;> (try split) <;> omega
    have hmul : sign3 (den na xs) * cmpI (val xs) (val ys) = cmpZ (den na xs) (den nb ys) := HR.out
    clear he
    go_enter Tryd.func32, Tryd.ntmps32
    go_wp2_with fail
    rw [← HW.out]
    go_region_held3 (fun w' => w'.cell? ⟨w.heap.size, 0, none⟩ = some (.bool na) ∧ w'.cell? ⟨w.heap.size, 1, none⟩ = some (.slice a n cap) ∧ w'.cell? ⟨w.heap.size + 1, 0, none⟩ = some (.bool nb) ∧ w'.cell? ⟨w.heap.size + 1, 1, none⟩ = some (.slice b m cap') ∧ Below W.heap.size W w')
      (first | exact two_draw HXA.out HXB.out | exact two_step HXA.out HXB.out (by assumption) hb3 | exact two_step HXA.out HXB.out (by assumption) hb4)
      ((first
        | (go_at_call 30; with_reducible refine (rsign_any na a n cap xs _ (two_rd HRA.out (by assumption)) HL.out hn).mono ?_; rintro e w3 ⟨rfl, hb3⟩)
        | (go_at_call 30; with_reducible refine (rsign_any nb b m cap' ys _ (two_rd HRB.out (by assumption)) HL'.out hm).mono ?_; rintro e w4 ⟨rfl, hb4⟩)))
    have hb5 : Below W.heap.size W w4 := two_below (by assumption)
    have hB5 := HB0.out.trans (hb5.mono HB0.out.size)
    have hxa5 := HXA.out.below hb5
    have hxb5 := HXB.out.below hb5
    have hra5 := HRA.out.below hb5
    have hrb5 := HRB.out.below hb5
    go_wp2_with fail
    go_region_held3 (fun w' => w'.cell? ⟨w.heap.size, 0, none⟩ = some (.bool na) ∧ w'.cell? ⟨w.heap.size, 1, none⟩ = some (.slice a n cap) ∧ w'.cell? ⟨w.heap.size + 1, 0, none⟩ = some (.bool nb) ∧ w'.cell? ⟨w.heap.size + 1, 1, none⟩ = some (.slice b m cap') ∧ Below w4.heap.size w4 w')
      (first | exact two_draw hxa5 hxb5 | exact two_step hxa5 hxb5 (by assumption) hN6.below | exact two_step hxa5 hxb5 (by assumption) hN7.below | exact two_step hxa5 hxb5 (by assumption) (below_drewN (Below.refl _ _) qq))
      ((first
        | (go_at_call 60; have hq := two_rd hra5 (by assumption); have hq2 := rtrim_any a n cap xs _ hq HL.out (by omega); (with_reducible refine hq2.mono ?_); clear hq hq2; rintro e w6 ⟨a6, c6, rfl, hN6⟩)
        | (go_at_call 60; have hq := two_rd hrb5 (by assumption); have hq2 := rtrim_any b m cap' ys _ hq HL'.out (by omega); (with_reducible refine hq2.mono ?_); clear hq hq2; rintro e w7 ⟨a7, c7, rfl, hN7⟩)
        | (go_at_call 54; have hq2 := rcmp_any a6 a7 _ _ c6 c7 (trimL xs) (trimL ys) _ (hN6.rd.below hN7.below) hN7.rd rfl rfl HNX.out HNY.out (.inr ⟨HTX.out, HTY.out⟩); refine hq2.mono ?_; clear hq2; rintro e w8 ⟨rfl, qq, rfl⟩; rw [HVX.out, HVY.out])))
    have hb8 := hB5.trans ((two_below (by assumption)).mono hB5.size)
    have hwr : IntKind.i64.wrap (cmpZ (den na xs) (den nb ys)) = cmpZ (den na xs) (den nb ys) := by rw [IntKind.wrap_i64]; omega
    go_wp2_with fail
    go_ret
    exact ⟨by show Ending.returned (.int .i64 (IntKind.i64.wrap (cmpZ (den na xs) (den nb ys)))) = _; rw [hwr], hb8⟩
  · have d0 : (sign3 (den na xs) != sign3 (den nb ys)) = true := by simp [he]
    by_cases h1 : sign3 (den na xs) < sign3 (den nb ys)
    · have d1 : decide (sign3 (den na xs) < sign3 (den nb ys)) = true := decide_eq_true h1
      have HR := Lib.hid (sign_lt h1)
      clear h1 he
      go_enter Tryd.func32, Tryd.ntmps32
      go_wp2_with fail
      rw [← HW.out]
      go_region_held3 (fun w' => w'.cell? ⟨w.heap.size, 0, none⟩ = some (.bool na) ∧ w'.cell? ⟨w.heap.size, 1, none⟩ = some (.slice a n cap) ∧ w'.cell? ⟨w.heap.size + 1, 0, none⟩ = some (.bool nb) ∧ w'.cell? ⟨w.heap.size + 1, 1, none⟩ = some (.slice b m cap') ∧ Below W.heap.size W w')
        (first | exact two_draw HXA.out HXB.out | exact two_step HXA.out HXB.out (by assumption) hb3 | exact two_step HXA.out HXB.out (by assumption) hb4)
        ((first
          | (go_at_call 30; with_reducible refine (rsign_any na a n cap xs _ (two_rd HRA.out (by assumption)) HL.out hn).mono ?_; rintro e w3 ⟨rfl, hb3⟩)
          | (go_at_call 30; with_reducible refine (rsign_any nb b m cap' ys _ (two_rd HRB.out (by assumption)) HL'.out hm).mono ?_; rintro e w4 ⟨rfl, hb4⟩)))
      have hb5 : Below W.heap.size W w4 := two_below (by assumption)
      have hB5 := HB0.out.trans (hb5.mono HB0.out.size)
      have hxa5 := HXA.out.below hb5
      have hxb5 := HXB.out.below hb5
      have hra5 := HRA.out.below hb5
      have hrb5 := HRB.out.below hb5
      obtain ⟨p0, p1, p2, p3, p4⟩ := hxa5
      obtain ⟨q0, q1, q2, q3, q4⟩ := hxb5
      go_wp2_with fail
      go_ret
      exact ⟨by rw [HR.out]; rfl, hB5⟩
    · have d1 : decide (sign3 (den na xs) < sign3 (den nb ys)) = false := decide_eq_false h1
      have HR := Lib.hid (sign_gt (x := den na xs) (y := den nb ys) (by omega))
      clear h1 he
      go_enter Tryd.func32, Tryd.ntmps32
      go_wp2_with fail
      rw [← HW.out]
      go_region_held3 (fun w' => w'.cell? ⟨w.heap.size, 0, none⟩ = some (.bool na) ∧ w'.cell? ⟨w.heap.size, 1, none⟩ = some (.slice a n cap) ∧ w'.cell? ⟨w.heap.size + 1, 0, none⟩ = some (.bool nb) ∧ w'.cell? ⟨w.heap.size + 1, 1, none⟩ = some (.slice b m cap') ∧ Below W.heap.size W w')
        (first | exact two_draw HXA.out HXB.out | exact two_step HXA.out HXB.out (by assumption) hb3 | exact two_step HXA.out HXB.out (by assumption) hb4)
        ((first
          | (go_at_call 30; with_reducible refine (rsign_any na a n cap xs _ (two_rd HRA.out (by assumption)) HL.out hn).mono ?_; rintro e w3 ⟨rfl, hb3⟩)
          | (go_at_call 30; with_reducible refine (rsign_any nb b m cap' ys _ (two_rd HRB.out (by assumption)) HL'.out hm).mono ?_; rintro e w4 ⟨rfl, hb4⟩)))
      have hb5 : Below W.heap.size W w4 := two_below (by assumption)
      have hB5 := HB0.out.trans (hb5.mono HB0.out.size)
      have hxa5 := HXA.out.below hb5
      have hxb5 := HXB.out.below hb5
      have hra5 := HRA.out.below hb5
      have hrb5 := HRB.out.below hb5
      obtain ⟨p0, p1, p2, p3, p4⟩ := hxa5
      obtain ⟨q0, q1, q2, q3, q4⟩ := hxb5
      go_wp2_with fail
      go_ret
      exact ⟨by rw [HR.out]; rfl, hB5⟩
end Go.Proofs.YtllogjmepflnoaaDoor
