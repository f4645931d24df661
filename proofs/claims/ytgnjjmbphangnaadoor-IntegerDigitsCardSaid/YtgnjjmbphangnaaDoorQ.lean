/-
  The sanity check of the statements answers true.
-/
import Derived.Test.YtgnjjmbphangnaaDoorP
namespace Go.Proofs.YtgnjjmbphangnaaDoor
open Go.RowKit

set_option maxRecDepth 100000 in
set_option maxHeartbeats 2000000 in
theorem awake_any (hlong : DivLong) (w : World) : Calls Tryd.prog 6 #[] w fun e w' => e = .returned (.bool true) ∧ Below w.heap.size w w' := by
  have HLO := Lib.hid hlong
  clear hlong
  go_enter Tryd.func6, Tryd.ntmps6
  go_wp2_with fail
  refine (small_any (-7) _ (by omega) (by omega)).mono ?_
  rintro e w1 ⟨a1, c1, rfl, hN1⟩
  go_wp2_with fail
  refine (small_any 3 _ (by omega) (by omega)).mono ?_
  rintro e w2 ⟨a2, c2, rfl, hN2⟩
  have hN1' := hN1.after hN2.below
  go_wp2_with fail
  refine (divmod_any HLO.out (sg (-7)) (sg 3) a1 a2 _ _ c1 c2 (mg (-7)) (mg 3) _ hN1'.rd hN2.rd rfl rfl (by decide) (by decide) (by rw [den_mg]; decide)).mono ?_
  rw [den_mg, den_mg]
  rintro e w3 ⟨aq, cq, ar, cr, rfl, hNq, hNr⟩
  rw [show (-7 : Int) / 3 = -3 from by decide] at hNq
  rw [show (-7 : Int) % 3 = 2 from by decide] at hNr
  rw [show (-7 : Int) / 3 = -3 from by decide, show (-7 : Int) % 3 = 2 from by decide]
  obtain ⟨W, hW⟩ : ∃ W, W = (w3.alloc (.cells #[.bool (sg (-3)), .slice aq (mg (-3)).length cq] 25)).alloc (.cells #[.bool (sg 2), .slice ar (mg 2).length cr] 25) := ⟨_, rfl⟩
  have hb3 : Below w3.heap.size w3 W := by rw [hW]; exact ((Below.refl _ _).alloc (Nat.le_refl _) _).alloc (by simp) _
  have hx1 : Box w3.heap.size (.bool (sg (-3))) (.slice aq (mg (-3)).length cq) W := by rw [hW]; exact (Box.made _ _ rfl _ _ _).alloc _
  have hx2 : Box (w3.heap.size + 1) (.bool (sg 2)) (.slice ar (mg 2).length cr) W := by rw [hW]; exact Box.made _ _ (by simp) _ _ _
  have hB : Below w.heap.size w W := hN1'.below.trans ((hNq.below.trans (hb3.mono hNq.below.size)).mono hN1'.below.size)
  have hrq := (hNq.after hb3).rd
  have hrr := (hNr.after hb3).rd
  clear hN1 hN2 hN1' hNq hNr hb3
  go_wp2_with fail
  rw [← hW]
  have HW := Lib.hid hW
  clear hW
  refine (int64_any (sg (-3)) aq _ cq (mg (-3)) _ hrq rfl (by decide)).mono ?_
  rw [den_mg, show to64 (-3) = -3 from by decide, show in64 (-3) = true from by decide]
  rintro e w4 ⟨rfl, hb4⟩
  have hrr4 := hrr.below hb4
  have hx24 := hx2.below hb4
  have hB4 := hB.trans (hb4.mono hB.size)
  clear hrq hrr hx1 hx2
  go_wp2_with fail
  refine (small_any 24 _ (by omega) (by omega)).mono ?_
  rintro e w5 ⟨a5, c5, rfl, hN5⟩
  go_wp2_with fail
  refine (sqrt_any HLO.out (sg 24) a5 _ c5 (mg 24) _ hN5.rd rfl (by decide) (by rw [den_mg]; decide)).mono ?_
  rintro e w6 ⟨s, a6, c6, hs1, hs2, rfl, hN6⟩
  have hs4 : s = 4 := root_unique hs1.out hs2.out (by decide) (by decide)
  subst hs4
  have hb6 := hN5.below.trans (hN6.below.mono hN5.below.size)
  have hrr6 := hrr4.below hb6
  have hx26 := hx24.below hb6
  have hB6 := hB4.trans (hb6.mono hB4.size)
  have hr6 := hN6.rd
  clear hrr4 hx24 hN5 hN6 hs1 hs2
  obtain ⟨c0, c1', f0, f1, sz⟩ := hx26
  go_wp2_with fail
  obtain ⟨W6, hW6⟩ : ∃ W6, W6 = w6.alloc (.cells #[.bool (sg 4), .slice a6 (mg 4).length c6] 25) := ⟨_, rfl⟩
  have hb7 : Below w6.heap.size w6 W6 := by rw [hW6]; exact (Below.refl _ _).alloc (Nat.le_refl _) _
  have hx7 : Box w6.heap.size (.bool (sg 4)) (.slice a6 (mg 4).length c6) W6 := by rw [hW6]; exact Box.made _ _ rfl _ _ _
  have hr7 := hr6.below hb7
  have hrr7 := hrr6.below hb7
  have hB7 := hB6.trans (hb7.mono hB6.size)
  rw [← hW6]
  have HW6 := Lib.hid hW6
  clear hW6 c0 c1' f0 f1 hr6 hrr6
  refine (format_any (sg 2) ar _ cr (mg 2) _ hrr7 rfl (by decide)).mono ?_
  have et : GivesStr W6 (text (den (sg 2) (mg 2))) = fun e w' => e = .returned (.string ⟨#[50]⟩) ∧ Below W6.heap.size W6 w' := by rw [den_mg]; rfl
  rw [et]
  rintro e w8 ⟨rfl, hb8⟩
  obtain ⟨d0, d1, k0, k1, sz2⟩ := hx7.below hb8
  have hr8 := hr7.below hb8
  have hB8 := hB7.trans (hb8.mono hB7.size)
  go_wp2_with fail
  refine (format_any (sg 4) a6 _ c6 (mg 4) _ hr8 rfl (by decide)).mono ?_
  have et4 : GivesStr w8 (text (den (sg 4) (mg 4))) = fun e w' => e = .returned (.string ⟨#[52]⟩) ∧ Below w8.heap.size w8 w' := by rw [den_mg]; rfl
  rw [et4]
  rintro e w9 ⟨rfl, hb9⟩
  have hB9 := hB8.trans (hb9.mono hB8.size)
  go_wp2_with fail
  go_ret
  exact ⟨rfl, hB9⟩
end Go.Proofs.YtgnjjmbphangnaaDoor
