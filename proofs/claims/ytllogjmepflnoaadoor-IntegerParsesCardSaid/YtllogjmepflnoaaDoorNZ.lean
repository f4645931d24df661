/-
  The contracts of Normalize, the program's and the reference's.
-/
import Derived.Test.YtllogjmepflnoaaDoorCC
namespace Go.Proofs.YtllogjmepflnoaaDoor
open Go.RowKit

attribute [local go_sem ↓] Go.wp_at_zero Go.wp_at_succ

section
variable {A R : Nat} {u0 u1 : Value} {W v v' : World}
theorem kept_call (h : Box A u0 u1 W) (hA : A < R) (hR : R ≤ W.heap.size) (hs : v.cell? ⟨A, 0, none⟩ = some u0 ∧ v.cell? ⟨A, 1, none⟩ = some u1 ∧ Below R W v) (hb : Below v.heap.size v v') :
    v'.cell? ⟨A, 0, none⟩ = some u0 ∧ v'.cell? ⟨A, 1, none⟩ = some u1 ∧ Below R W v' :=
  kept_step h hA hR hs (hb.mono (Nat.le_trans hR hs.2.2.size))
theorem kept_rd {a : Option Addr} {cap : Nat} {xs : List Nat} {B : Nat} (hr : Rd W a cap xs) (hu : Under B a xs) (hB : B ≤ R) (hs : v.cell? ⟨A, 0, none⟩ = some u0 ∧ v.cell? ⟨A, 1, none⟩ = some u1 ∧ Below R W v) : Rd v a cap xs :=
  hr.belowU hu (hs.2.2.mono hB)
end

set_option maxRecDepth 100000 in
set_option maxHeartbeats 2000000 in
theorem normalize_any (neg : Bool) (a : Option Addr) (n cap : Nat) (xs : List Nat) (w : World) (rdx : Rd w a cap xs) (hl : xs.length = n) (hn : n ≤ 1000000000) :
    Calls Tryd.prog 22 #[.agg #[.bool neg, .slice a n cap]] w (GivesInt w (den neg xs)) := by
  have hlx := rdx.lim
  obtain ⟨V, hV⟩ : ∃ V, V = w.alloc (.cells #[.bool neg, .slice a n cap] 24) := ⟨_, rfl⟩
  obtain ⟨W, hW⟩ : ∃ W, W = V.alloc (.cells #[.bool false, .slice none 0 0] 24) := ⟨_, rfl⟩
  have hb0 : Below w.heap.size w V := by rw [hV]; exact (Below.refl _ _).alloc (Nat.le_refl _) _
  have hVs : V.heap.size = w.heap.size + 1 := by rw [hV]; simp
  have hWs : W.heap.size = w.heap.size + 2 := by rw [hW, World.size_alloc, hVs]
  have hx0 : Box w.heap.size (.bool neg) (.slice a n cap) V := by rw [hV]; exact Box.made _ _ rfl _ _ _
  have hx : Box w.heap.size (.bool neg) (.slice a n cap) W := by rw [hW]; exact hx0.alloc _
  have hy : Box (w.heap.size + 1) (.bool false) (.slice none 0 0) W := by rw [hW]; exact Box.made _ _ hVs.symm _ _ _
  have hr : Rd W a cap xs := by rw [hW]; exact (rdx.below hb0).alloc _
  have hu := rdx.under
  have hWW : (w.alloc (.cells #[.bool neg, .slice a n cap] 24)).alloc (.cells #[.bool false, .slice none 0 0] 24) = W := by rw [hW, hV]
  have HWW := Lib.hid hWW
  have HW := Lib.hid hW
  have HVS := Lib.hid hVs
  have HB0 := Lib.hid hb0
  have HX := Lib.hid hx
  have HL := Lib.hid hl
  have HU := Lib.hid hu
  have HR := Lib.hid hr
  have ht : trimL xs = limbs (val xs) := (limbs_val hlx).symm
  have htl : (trimL xs).length ≤ 4000000000 := Nat.le_trans (length_trimL_le xs) (by rw [hl]; omega)
  have HT := Lib.hid ht
  have HTL := Lib.hid htl
  have HY := Lib.hid hy
  have hz : den neg xs = if neg then -((val xs : Nat) : Int) else ((val xs : Nat) : Int) := rfl
  have HZ := Lib.hid hz
  clear hV hW hVs hb0 hx0 hWW hl rdx hx hu hr hy ht htl hz
  go_enter Tryd.func22, Tryd.ntmps22
  go_wp2_with fail
  rw [HWW.out]
  go_region_held3 (fun w' => w'.cell? ⟨w.heap.size, 0, none⟩ = some (.bool neg) ∧ w'.cell? ⟨w.heap.size, 1, none⟩ = some (.slice a n cap) ∧ Below (w.heap.size + 1) W w')
    (first | exact kept_draw HX.out (by omega) | assumption | exact kept_call HX.out (by omega) (by omega) (by assumption) hN1.below | exact kept_call HX.out (by omega) (by omega) (by assumption) hb2 | exact kept_store HX.out (by omega) (by omega) _ _ (by assumption))
    ((first
      | (go_at_call 53; have hq := kept_rd HR.out HU.out (Nat.le_succ _) (by assumption); refine (trim_any a n cap xs _ hq HL.out (by omega)).mono ?_; clear hq; rintro e w0 ⟨rfl, rfl⟩)
      | (go_at_call 52; have hq := kept_rd HR.out HU.out (Nat.le_succ _) (by assumption); refine (copyLimbs_any a _ cap (trimL xs) _ hq.trim rfl HTL.out).mono ?_; clear hq; rintro e w1 ⟨a1, c1, rfl, hN1⟩)
      | (go_at_call 51; rw [HT.out] at hN1; rw [HT.out]; refine (canonical_int neg (val xs) (den neg xs) HZ.out a1 _ c1 _ w1 hN1 rfl).mono ?_; rintro e w2 ⟨⟨a2, c2, rfl, hN2⟩, hb2⟩; obtain ⟨y0, y1, y2, y3, y4⟩ := (HY.out.drewN 1).below (hN1.below.trans (hb2.mono hN1.below.size)))))
  have hN : New W (mg (den neg xs)) a2 c2 w2 := New.before (Below.refl _ _).drew hN2
  rw [HW.out] at hN
  have hN3 := new_result hN
  rw [HVS.out] at hN3
  have hfin := New.before HB0.out (hN3 (.bool (sg (den neg xs))) (.slice a2 (mg (den neg xs)).length c2))
  have HF := Lib.hid hfin
  clear hN1 hN2 hN hN3 hfin hb2
  go_wp2_with fail
  exact bodyPost_ret (v := .agg #[.bool (sg (den neg xs)), .slice a2 (mg (den neg xs)).length c2]) (by simp [results, Tryd.results22, go_sem, y0, y1]) rfl ⟨a2, c2, rfl, HF.out⟩

set_option maxRecDepth 100000 in
set_option maxHeartbeats 2000000 in
theorem rnormalize_any (neg : Bool) (a : Option Addr) (n cap : Nat) (xs : List Nat) (w : World) (rdx : Rd w a cap xs) (hl : xs.length = n) (hn : n ≤ 1000000000) :
    Calls Tryd.prog 24 #[.agg #[.bool neg, .slice a n cap]] w (GivesInt w (den neg xs)) := by
  have hlx := rdx.lim
  obtain ⟨V, hV⟩ : ∃ V, V = w.alloc (.cells #[.bool neg, .slice a n cap] 24) := ⟨_, rfl⟩
  obtain ⟨W, hW⟩ : ∃ W, W = V.alloc (.cells #[.bool false, .slice none 0 0] 24) := ⟨_, rfl⟩
  have hb0 : Below w.heap.size w V := by rw [hV]; exact (Below.refl _ _).alloc (Nat.le_refl _) _
  have hVs : V.heap.size = w.heap.size + 1 := by rw [hV]; simp
  have hWs : W.heap.size = w.heap.size + 2 := by rw [hW, World.size_alloc, hVs]
  have hx0 : Box w.heap.size (.bool neg) (.slice a n cap) V := by rw [hV]; exact Box.made _ _ rfl _ _ _
  have hx : Box w.heap.size (.bool neg) (.slice a n cap) W := by rw [hW]; exact hx0.alloc _
  have hy : Box (w.heap.size + 1) (.bool false) (.slice none 0 0) W := by rw [hW]; exact Box.made _ _ hVs.symm _ _ _
  have hr : Rd W a cap xs := by rw [hW]; exact (rdx.below hb0).alloc _
  have hu := rdx.under
  have hWW : (w.alloc (.cells #[.bool neg, .slice a n cap] 24)).alloc (.cells #[.bool false, .slice none 0 0] 24) = W := by rw [hW, hV]
  have HWW := Lib.hid hWW
  have HW := Lib.hid hW
  have HVS := Lib.hid hVs
  have HB0 := Lib.hid hb0
  have HX := Lib.hid hx
  have HL := Lib.hid hl
  have HU := Lib.hid hu
  have HR := Lib.hid hr
  clear hx0 hx hu hr hy hl rdx hb0 hV hW hWW hVs
  go_enter Tryd.func24, Tryd.ntmps24
  go_wp2_with fail
  rw [HWW.out]
  refine (make_any neg a n cap xs _ HR.out HL.out (by omega)).mono ?_
  rintro e w1 ⟨a1, c1, rfl, hN1⟩
  rw [HW.out] at hN1
  obtain ⟨f1, f2, f3, f4, f5⟩ := held2 hN1.below
  have hn := new_result hN1
  rw [HVS.out] at f1 f2 f3 f4 f5 hn
  have hfin := New.before HB0.out (hn (.bool (sg (den neg xs))) (.slice a1 (mg (den neg xs)).length c1))
  have HF := Lib.hid hfin
  clear hN1 hn hfin
  go_wp2_with fail
  exact bodyPost_ret (v := .agg #[.bool (sg (den neg xs)), .slice a1 (mg (den neg xs)).length c1]) (by simp [results, Tryd.results24, go_sem, f1, f2]) rfl ⟨a1, c1, rfl, HF.out⟩
end Go.Proofs.YtllogjmepflnoaaDoor
