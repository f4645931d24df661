/-
  The reference's Abs and Neg.
-/
import Derived.Test.YtgnjjmbphangnaaDoorRD
import Derived.Test.YtgnjjmbphangnaaDoorNZ
namespace Go.Proofs.YtgnjjmbphangnaaDoor
open Go.RowKit

theorem den_not (neg : Bool) (xs : List Nat) : den (!neg) xs = -den neg xs := by unfold den; cases neg <;> simp

set_option maxRecDepth 100000 in
set_option maxHeartbeats 2000000 in
theorem rabs_any (neg : Bool) (a : Option Addr) (n cap : Nat) (xs : List Nat) (w : World) (rdx : Rd w a cap xs) (hl : xs.length = n) (hn : n ≤ 1000000000) :
    Calls Tryd.prog 23 #[.agg #[.bool neg, .slice a n cap]] w (GivesInt w (den false xs)) := by
  have hlx := rdx.lim
  obtain ⟨V, hV⟩ : ∃ V, V = w.alloc (.cells #[.bool neg, .slice a n cap] 25) := ⟨_, rfl⟩
  obtain ⟨W, hW⟩ : ∃ W, W = V.alloc (.cells #[.bool false, .slice none 0 0] 25) := ⟨_, rfl⟩
  have hb0 : Below w.heap.size w V := by rw [hV]; exact (Below.refl _ _).alloc (Nat.le_refl _) _
  have hVs : V.heap.size = w.heap.size + 1 := by rw [hV]; simp
  have hWs : W.heap.size = w.heap.size + 2 := by rw [hW, World.size_alloc, hVs]
  have hx0 : Box w.heap.size (.bool neg) (.slice a n cap) V := by rw [hV]; exact Box.made _ _ rfl _ _ _
  have hx : Box w.heap.size (.bool neg) (.slice a n cap) W := by rw [hW]; exact hx0.alloc _
  have hy : Box (w.heap.size + 1) (.bool false) (.slice none 0 0) W := by rw [hW]; exact Box.made _ _ hVs.symm _ _ _
  have hr : Rd W a cap xs := by rw [hW]; exact (rdx.below hb0).alloc _
  have hu := rdx.under
  have hWW : (w.alloc (.cells #[.bool neg, .slice a n cap] 25)).alloc (.cells #[.bool false, .slice none 0 0] 25) = W := by rw [hW, hV]
  have HWW := Lib.hid hWW
  have HW := Lib.hid hW
  have HVS := Lib.hid hVs
  have HB0 := Lib.hid hb0
  have HX := Lib.hid hx
  have HL := Lib.hid hl
  have HU := Lib.hid hu
  have HR := Lib.hid hr
  clear hx0 hx hu hr hy hl rdx hb0 hV hW hWW hVs
  go_enter Tryd.func23, Tryd.ntmps23
  go_wp2_with fail
  rw [HWW.out]
  refine (make_any false a n cap xs _ HR.out HL.out (by omega)).mono ?_
  rintro e w1 ⟨a1, c1, rfl, hN1⟩
  rw [HW.out] at hN1
  obtain ⟨f1, f2, f3, f4, f5⟩ := held2 hN1.below
  have hn := new_result hN1
  rw [HVS.out] at f1 f2 f3 f4 f5 hn
  have hfin := New.before HB0.out (hn (.bool (sg (den false xs))) (.slice a1 (mg (den false xs)).length c1))
  have HF := Lib.hid hfin
  clear hN1 hn hfin
  go_wp2_with fail
  exact bodyPost_ret (v := .agg #[.bool (sg (den false xs)), .slice a1 (mg (den false xs)).length c1]) (by simp [results, Tryd.results23, go_sem, f1, f2]) rfl ⟨a1, c1, rfl, HF.out⟩

set_option maxRecDepth 100000 in
set_option maxHeartbeats 2000000 in
theorem rneg_raw (neg : Bool) (a : Option Addr) (n cap : Nat) (xs : List Nat) (w : World) (rdx : Rd w a cap xs) (hl : xs.length = n) (hn : n ≤ 1000000000) :
    Calls Tryd.prog 59 #[.agg #[.bool neg, .slice a n cap]] w (GivesInt w (den (!neg) xs)) := by
  have hlx := rdx.lim
  obtain ⟨V, hV⟩ : ∃ V, V = w.alloc (.cells #[.bool neg, .slice a n cap] 25) := ⟨_, rfl⟩
  obtain ⟨W, hW⟩ : ∃ W, W = V.alloc (.cells #[.bool false, .slice none 0 0] 25) := ⟨_, rfl⟩
  have hb0 : Below w.heap.size w V := by rw [hV]; exact (Below.refl _ _).alloc (Nat.le_refl _) _
  have hVs : V.heap.size = w.heap.size + 1 := by rw [hV]; simp
  have hWs : W.heap.size = w.heap.size + 2 := by rw [hW, World.size_alloc, hVs]
  have hx0 : Box w.heap.size (.bool neg) (.slice a n cap) V := by rw [hV]; exact Box.made _ _ rfl _ _ _
  have hx : Box w.heap.size (.bool neg) (.slice a n cap) W := by rw [hW]; exact hx0.alloc _
  have hy : Box (w.heap.size + 1) (.bool false) (.slice none 0 0) W := by rw [hW]; exact Box.made _ _ hVs.symm _ _ _
  have hr : Rd W a cap xs := by rw [hW]; exact (rdx.below hb0).alloc _
  have hu := rdx.under
  have hWW : (w.alloc (.cells #[.bool neg, .slice a n cap] 25)).alloc (.cells #[.bool false, .slice none 0 0] 25) = W := by rw [hW, hV]
  have HWW := Lib.hid hWW
  have HW := Lib.hid hW
  have HVS := Lib.hid hVs
  have HB0 := Lib.hid hb0
  have HX := Lib.hid hx
  have HL := Lib.hid hl
  have HU := Lib.hid hu
  have HR := Lib.hid hr
  clear hx0 hx hu hr hy hl rdx hb0 hV hW hWW hVs
  go_enter Tryd.func59, Tryd.ntmps59
  go_wp2_with fail
  rw [HWW.out]
  refine (make_any (!neg) a n cap xs _ HR.out HL.out (by omega)).mono ?_
  rintro e w1 ⟨a1, c1, rfl, hN1⟩
  rw [HW.out] at hN1
  obtain ⟨f1, f2, f3, f4, f5⟩ := held2 hN1.below
  have hn := new_result hN1
  rw [HVS.out] at f1 f2 f3 f4 f5 hn
  have hfin := New.before HB0.out (hn (.bool (sg (den (!neg) xs))) (.slice a1 (mg (den (!neg) xs)).length c1))
  have HF := Lib.hid hfin
  clear hN1 hn hfin
  go_wp2_with fail
  exact bodyPost_ret (v := .agg #[.bool (sg (den (!neg) xs)), .slice a1 (mg (den (!neg) xs)).length c1]) (by simp [results, Tryd.results59, go_sem, f1, f2]) rfl ⟨a1, c1, rfl, HF.out⟩


theorem rneg_any (neg : Bool) (a : Option Addr) (n cap : Nat) (xs : List Nat) (w : World) (rdx : Rd w a cap xs) (hl : xs.length = n) (hn : n ≤ 1000000000) :
    Calls Tryd.prog 59 #[.agg #[.bool neg, .slice a n cap]] w (GivesInt w (-den neg xs)) := by
  rw [← den_not]; exact rneg_raw neg a n cap xs w rdx hl hn
end Go.Proofs.YtgnjjmbphangnaaDoor
