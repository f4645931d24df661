/-
  The contract of Mul.
-/
import Derived.Test.YtllogjmepflnoaaDoorNZ
import Derived.Test.YtllogjmepflnoaaDoorML
namespace Go.Proofs.YtllogjmepflnoaaDoor
open Go.RowKit

section
variable {A B R : Nat} {u0 u1 v0 v1 : Value} {W v v' : World}
/-- Two structs' cells, and all that lies below R. -/
abbrev Kept2 (A B R : Nat) (u0 u1 v0 v1 : Value) (W v : World) : Prop :=
  v.cell? ⟨A, 0, none⟩ = some u0 ∧ v.cell? ⟨A, 1, none⟩ = some u1 ∧ v.cell? ⟨B, 0, none⟩ = some v0 ∧ v.cell? ⟨B, 1, none⟩ = some v1 ∧ Below R W v
theorem kept2_draw (h : Box A u0 u1 W) (h' : Box B v0 v1 W) (hR : R ≤ W.heap.size) : Kept2 A B R u0 u1 v0 v1 W W.drew :=
  ⟨h.c0, h.c1, h'.c0, h'.c1, ((Below.refl _ _).drew).mono hR⟩
theorem kept2_step (hA : A < R) (hB : B < R) (hs : Kept2 A B R u0 u1 v0 v1 W v) (hb : Below R v v') : Kept2 A B R u0 u1 v0 v1 W v' :=
  ⟨(hb.cell hA).trans hs.1, (hb.cell hA).trans hs.2.1, (hb.cell hB).trans hs.2.2.1, (hb.cell hB).trans hs.2.2.2.1, hs.2.2.2.2.trans hb⟩
theorem kept2_call (hA : A < R) (hB : B < R) (hR : R ≤ W.heap.size) (hs : Kept2 A B R u0 u1 v0 v1 W v) (hb : Below v.heap.size v v') : Kept2 A B R u0 u1 v0 v1 W v' :=
  kept2_step hA hB hs (hb.mono (Nat.le_trans hR hs.2.2.2.2.size))
theorem kept2_store (hA : A < R) (hB : B < R) (x y : Value) (hs : Kept2 A B R u0 u1 v0 v1 W v) : Kept2 A B R u0 u1 v0 v1 W ((v.setCell ⟨R, 0, none⟩ x).setCell ⟨R, 1, none⟩ y) :=
  kept2_step hA hB hs (((Below.refl _ _).setCell (p := ⟨R, 0, none⟩) (Nat.le_refl _) _).setCell (p := ⟨R, 1, none⟩) (Nat.le_refl _) _)
theorem kept2_rd {a : Option Addr} {cap : Nat} {xs : List Nat} {C : Nat} (hr : Rd W a cap xs) (hu : Under C a xs) (hC : C ≤ R) (hs : Kept2 A B R u0 u1 v0 v1 W v) : Rd v a cap xs :=
  hr.belowU hu (hs.2.2.2.2.mono hC)
end

theorem den_mul (na nb : Bool) (xs ys : List Nat) : den na xs * den nb ys = if (na != nb) then -((val xs * val ys : Nat) : Int) else ((val xs * val ys : Nat) : Int) := by
  unfold den
  cases na <;> cases nb <;> simp [Int.neg_mul, Int.mul_neg]

attribute [local go_sem ↓] Go.wp_at_zero Go.wp_at_succ

set_option maxRecDepth 100000 in
set_option maxHeartbeats 4000000 in
theorem mul_any (na nb : Bool) (a b : Option Addr) (n m cap cap' : Nat) (xs ys : List Nat) (w : World) (rdx : Rd w a cap xs) (rdy : Rd w b cap' ys) (hl : xs.length = n) (hl' : ys.length = m) (hn : n ≤ 1000000000) (hm : m ≤ 1000000000) :
    Calls Tryd.prog 33 #[.agg #[.bool na, .slice a n cap], .agg #[.bool nb, .slice b m cap']] w (GivesInt w (den na xs * den nb ys)) := by
  have hlx := rdx.lim
  have hly := rdy.lim
  obtain ⟨V, hV⟩ : ∃ V, V = (w.alloc (.cells #[.bool na, .slice a n cap] 24)).alloc (.cells #[.bool nb, .slice b m cap'] 24) := ⟨_, rfl⟩
  obtain ⟨W, hW⟩ : ∃ W, W = V.alloc (.cells #[.bool false, .slice none 0 0] 24) := ⟨_, rfl⟩
  have hb0 : Below w.heap.size w V := by rw [hV]; exact ((Below.refl _ _).alloc (Nat.le_refl _) _).alloc (by simp) _
  have hVs : V.heap.size = w.heap.size + 2 := by rw [hV]; simp
  have hWs : W.heap.size = w.heap.size + 3 := by rw [hW, World.size_alloc, hVs]
  have hx0 : Box w.heap.size (.bool na) (.slice a n cap) V := by rw [hV]; exact (Box.made _ _ rfl _ _ _).alloc _
  have hx1 : Box (w.heap.size + 1) (.bool nb) (.slice b m cap') V := by rw [hV]; exact Box.made _ _ (by simp) _ _ _
  have hxa : Box w.heap.size (.bool na) (.slice a n cap) W := by rw [hW]; exact hx0.alloc _
  have hxb : Box (w.heap.size + 1) (.bool nb) (.slice b m cap') W := by rw [hW]; exact hx1.alloc _
  have hy : Box (w.heap.size + 2) (.bool false) (.slice none 0 0) W := by rw [hW]; exact Box.made _ _ hVs.symm _ _ _
  have hra : Rd W a cap xs := by rw [hW]; exact (rdx.below hb0).alloc _
  have hrb : Rd W b cap' ys := by rw [hW]; exact (rdy.below hb0).alloc _
  have hua := rdx.under
  have hub := rdy.under
  have hWW : ((w.alloc (.cells #[.bool na, .slice a n cap] 24)).alloc (.cells #[.bool nb, .slice b m cap'] 24)).alloc (.cells #[.bool false, .slice none 0 0] 24) = W := by rw [hW, hV]
  have htx : (trimL xs).length ≤ 1000000000 := Nat.le_trans (length_trimL_le xs) (by rw [hl]; exact hn)
  have hty : (trimL ys).length ≤ 1000000000 := Nat.le_trans (length_trimL_le ys) (by rw [hl']; exact hm)
  have hvx := val_trimL hlx
  have hvy := val_trimL hly
  have HWW := Lib.hid hWW
  have HW := Lib.hid hW
  have HVS := Lib.hid hVs
  have HB0 := Lib.hid hb0
  have HXA := Lib.hid hxa
  have HXB := Lib.hid hxb
  have HY := Lib.hid hy
  have HL := Lib.hid hl
  have HL' := Lib.hid hl'
  have HUA := Lib.hid hua
  have HUB := Lib.hid hub
  have HRA := Lib.hid hra
  have HRB := Lib.hid hrb
  have HTX := Lib.hid htx
  have HTY := Lib.hid hty
  have HVX := Lib.hid hvx
  have HVY := Lib.hid hvy
  have HZ := Lib.hid (den_mul na nb xs ys)
  clear hV hW hVs hb0 hx0 hx1 hWW hl hl' rdx rdy hxa hxb hy hra hrb hua hub htx hty hvx hvy
  go_enter Tryd.func33, Tryd.ntmps33
  go_wp2_with fail
  rw [HWW.out]
  go_region_held3 (fun w' => w'.cell? ⟨w.heap.size, 0, none⟩ = some (.bool na) ∧ w'.cell? ⟨w.heap.size, 1, none⟩ = some (.slice a n cap) ∧ w'.cell? ⟨w.heap.size + 1, 0, none⟩ = some (.bool nb) ∧ w'.cell? ⟨w.heap.size + 1, 1, none⟩ = some (.slice b m cap') ∧ Below (w.heap.size + 2) W w')
    (first | exact kept2_draw HXA.out HXB.out (by omega) | assumption | exact kept2_call (by omega) (by omega) (by omega) (by assumption) hN1.below | exact kept2_call (by omega) (by omega) (by omega) (by assumption) hb2 | exact kept2_store (by omega) (by omega) _ _ (by assumption))
    ((first
      | (go_at_call 53; have hq := kept2_rd (R := w.heap.size + 2) HRA.out HUA.out (by omega) (by assumption); (with_reducible refine (trim_any a n cap xs _ hq HL.out (by omega)).mono ?_); clear hq; rintro e w0 ⟨rfl, rfl⟩)
      | (go_at_call 53; have hq := kept2_rd (R := w.heap.size + 2) HRB.out HUB.out (by omega) (by assumption); (with_reducible refine (trim_any b m cap' ys _ hq HL'.out (by omega)).mono ?_); clear hq; rintro e w0 ⟨rfl, rfl⟩)
      | (go_at_call 63; have hq := kept2_rd (R := w.heap.size + 2) HRA.out HUA.out (by omega) (by assumption); have hq' := kept2_rd (R := w.heap.size + 2) HRB.out HUB.out (by omega) (by assumption); refine (mulLimbs_any a b _ _ cap cap' (trimL xs) (trimL ys) _ hq.trim hq'.trim rfl rfl HTX.out HTY.out).mono ?_; clear hq hq'; rintro e w1 ⟨a1, c1, rfl, hN1⟩; rw [HVX.out, HVY.out] at hN1; rw [HVX.out, HVY.out])
      | (go_at_call 51; refine (canonical_int (na != nb) (val xs * val ys) (den na xs * den nb ys) HZ.out a1 _ c1 _ w1 hN1 rfl).mono ?_; rintro e w2 ⟨⟨a2, c2, rfl, hN2⟩, hb2⟩; obtain ⟨y0, y1, y2, y3, y4⟩ := (HY.out.drewN 1).below (hN1.below.trans (hb2.mono hN1.below.size)))))
  have hN : New W (mg (den na xs * den nb ys)) a2 c2 w2 := New.before (Below.refl _ _).drew hN2
  rw [HW.out] at hN
  have hN3 := new_result hN
  rw [HVS.out] at hN3
  have hfin := New.before HB0.out (hN3 (.bool (sg (den na xs * den nb ys))) (.slice a2 (mg (den na xs * den nb ys)).length c2))
  have HF := Lib.hid hfin
  clear hN1 hN2 hN hN3 hfin hb2
  go_wp2_with fail
  exact bodyPost_ret (v := .agg #[.bool (sg (den na xs * den nb ys)), .slice a2 (mg (den na xs * den nb ys)).length c2]) (by simp [results, Tryd.results33, go_sem, y0, y1]) rfl ⟨a2, c2, rfl, HF.out⟩
end Go.Proofs.YtllogjmepflnoaaDoor
