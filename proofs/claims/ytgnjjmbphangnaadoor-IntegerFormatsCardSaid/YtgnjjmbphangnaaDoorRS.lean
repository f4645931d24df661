/-
  The reference's Sub and DivMod.
-/
import Derived.Test.YtgnjjmbphangnaaDoorRV
namespace Go.Proofs.YtgnjjmbphangnaaDoor
open Go.RowKit

attribute [local go_sem ↓] Go.wp_at_zero Go.wp_at_succ

set_option maxRecDepth 100000 in
set_option maxHeartbeats 4000000 in
theorem rsub_raw (na nb : Bool) (a b : Option Addr) (n m cap cap' : Nat) (xs ys : List Nat) (w : World) (rdx : Rd w a cap xs) (rdy : Rd w b cap' ys) (hl : xs.length = n) (hl' : ys.length = m) (hn : n ≤ 1000000000) (hm : m ≤ 1000000000) :
    Calls Tryd.prog 43 #[.agg #[.bool na, .slice a n cap], .agg #[.bool nb, .slice b m cap']] w (GivesInt w (den na xs + -den nb ys)) := by
  have hlx := rdx.lim
  have hly := rdy.lim
  obtain ⟨V, hV⟩ : ∃ V, V = (w.alloc (.cells #[.bool na, .slice a n cap] 25)).alloc (.cells #[.bool nb, .slice b m cap'] 25) := ⟨_, rfl⟩
  obtain ⟨W, hW⟩ : ∃ W, W = V.alloc (.cells #[.bool false, .slice none 0 0] 25) := ⟨_, rfl⟩
  have hb0 : Below w.heap.size w V := by rw [hV]; exact ((Below.refl _ _).alloc (Nat.le_refl _) _).alloc (by simp) _
  have hVs : V.heap.size = w.heap.size + 2 := by rw [hV]; simp
  have hWs : W.heap.size = w.heap.size + 3 := by rw [hW, World.size_alloc, hVs]
  have hx0 : Box w.heap.size (.bool na) (.slice a n cap) V := by rw [hV]; exact (Box.made _ _ rfl _ _ _).alloc _
  have hx1 : Box (w.heap.size + 1) (.bool nb) (.slice b m cap') V := by rw [hV]; exact Box.made _ _ (by simp) _ _ _
  have hxa : Box w.heap.size (.bool na) (.slice a n cap) W := by rw [hW]; exact hx0.alloc _
  have hxb : Box (w.heap.size + 1) (.bool nb) (.slice b m cap') W := by rw [hW]; exact hx1.alloc _
  have hy : Box (w.heap.size + 2) (.bool false) (.slice none 0 0) W := by rw [hW]; exact Box.made _ _ hVs.symm _ _ _
  have hra : Rd W a cap xs := by rw [hW]; exact (rdx.below hb0).alloc _
  have hrb : Rd W b cap' ys := by rw [hW]; exact (rdy.below hb0).alloc _
  have hWW : ((w.alloc (.cells #[.bool na, .slice a n cap] 25)).alloc (.cells #[.bool nb, .slice b m cap'] 25)).alloc (.cells #[.bool false, .slice none 0 0] 25) = W := by rw [hW, hV]
  have hvx := val_trimL hlx
  have hvy := val_trimL hly
  have htx := trimL_trimL hlx
  have hty := trimL_trimL hly
  have hlenx : (trimL xs).length ≤ 1000000000 := Nat.le_trans (length_trimL_le xs) (by omega)
  have hleny : (trimL ys).length ≤ 1000000000 := Nat.le_trans (length_trimL_le ys) (by omega)
  have HUA := Lib.hid rdx.under
  have HUB := Lib.hid rdy.under
  have HWW := Lib.hid hWW
  have HW := Lib.hid hW
  have HVS := Lib.hid hVs
  have HWS := Lib.hid hWs
  have HB0 := Lib.hid hb0
  have HXA := Lib.hid hxa
  have HXB := Lib.hid hxb
  have HY := Lib.hid hy
  have HL := Lib.hid hl
  have HL' := Lib.hid hl'
  have HRA := Lib.hid hra
  have HRB := Lib.hid hrb
  have HVX := Lib.hid hvx
  have HVY := Lib.hid hvy
  have HTX := Lib.hid htx
  have HTY := Lib.hid hty
  have HNX := Lib.hid hlenx
  have HNY := Lib.hid hleny
  clear hWs hV hW hVs hb0 hx0 hx1 hWW hl hl' rdx rdy hy hra hrb hxa hxb hvx hvy htx hty hlenx hleny
  go_enter Tryd.func43, Tryd.ntmps43
  go_wp2_with fail
  rw [HWW.out]
  have hws : w.heap.size + 3 ≤ W.heap.size := by have := HWS.out; omega
  have hml : (mg (-den nb ys)).length ≤ 1000000000 := by
    have : mg (-den nb ys) = limbs (val ys) := by unfold mg; rw [Int.natAbs_neg, natAbs_den]
    rw [this, ← HVY.out, val_trimL hly, limbs_val hly]; exact HNY.out
  go_region_held3 (fun w' => w'.cell? ⟨w.heap.size, 0, none⟩ = some (.bool na) ∧ w'.cell? ⟨w.heap.size, 1, none⟩ = some (.slice a n cap) ∧ w'.cell? ⟨w.heap.size + 1, 0, none⟩ = some (.bool nb) ∧ w'.cell? ⟨w.heap.size + 1, 1, none⟩ = some (.slice b m cap') ∧ Below (w.heap.size + 2) W w')
    (first | exact kept2_draw HXA.out HXB.out (by omega) | assumption | exact kept2_call (by omega) (by omega) (by omega) (by assumption) hN1.below | exact kept2_call (by omega) (by omega) (by omega) (by assumption) hN2.below | exact kept2_store (by omega) (by omega) _ _ (by assumption))
    ((first
      | (go_at_call 59; have hq := kept2_rd (R := w.heap.size + 2) HRB.out HUB.out (by omega) (by assumption); refine (rneg_any nb b m cap' ys _ hq HL'.out hm).mono ?_; clear hq; rintro e w1 ⟨a1, c1, rfl, hN1⟩)
      | (go_at_call 42; have hq := kept2_rd (R := w.heap.size + 2) HRA.out HUA.out (by omega) (by assumption); refine (radd_any na (sg (-den nb ys)) a a1 n _ cap c1 xs (mg (-den nb ys)) _ hq hN1.rd HL.out rfl hn hml).mono ?_; clear hq; rw [den_mg]; rintro e w2 ⟨a2, c2, rfl, hN2⟩; obtain ⟨y0, y1, y2, y3, y4⟩ := (HY.out.drewN 1).below (hN1.below.trans (hN2.below.mono hN1.below.size)))))
  have hN : New W (mg (den na xs + -den nb ys)) a2 c2 w2 := New.before ((Below.refl _ _).drew.trans hN1.below) hN2
  rw [HW.out] at hN
  have hN3 := new_result hN
  rw [HVS.out] at hN3
  have hfin := New.before HB0.out (hN3 (.bool (sg (den na xs + -den nb ys))) (.slice a2 (mg (den na xs + -den nb ys)).length c2))
  have HF := Lib.hid hfin
  clear hN1 hN2 hN hN3 hfin
  go_wp2_with fail
  exact bodyPost_ret (v := .agg #[.bool (sg (den na xs + -den nb ys)), .slice a2 (mg (den na xs + -den nb ys)).length c2]) (by simp [results, Tryd.results43, go_sem, y0, y1]) rfl ⟨a2, c2, rfl, HF.out⟩

theorem rsub_any (na nb : Bool) (a b : Option Addr) (n m cap cap' : Nat) (xs ys : List Nat) (w : World) (rdx : Rd w a cap xs) (rdy : Rd w b cap' ys) (hl : xs.length = n) (hl' : ys.length = m) (hn : n ≤ 1000000000) (hm : m ≤ 1000000000) :
    Calls Tryd.prog 43 #[.agg #[.bool na, .slice a n cap], .agg #[.bool nb, .slice b m cap']] w (GivesInt w (den na xs - den nb ys)) := by
  rw [Int.sub_eq_add_neg]; exact rsub_raw na nb a b n m cap cap' xs ys w rdx rdy hl hl' hn hm
end Go.Proofs.YtgnjjmbphangnaaDoor
