/-
  The walk of IntegerFormats.
-/
import Derived.Test.YtgnjjmbphangnaaDoorQF
import Derived.Test.YtgnjjmbphangnaaDoorAA
import Derived.Test.YtgnjjmbphangnaaDoorT
import Derived.Test.YtgnjjmbphangnaaDoorDL
namespace Go.Proofs.YtgnjjmbphangnaaDoor
open Go.RowKit Go.Lib

attribute [local go_sem ↓] Go.wp_at_zero Go.wp_at_succ

set_option maxRecDepth 100000 in
set_option maxHeartbeats 4000000 in
theorem integerFormats_walk (na : Bool) (a : Option Addr) (n cap : Nat) (xs : List Nat) (w : World) (rdx : Rd w a cap xs) (hl : xs.length = n) :
    Calls Tryd.prog 4 #[.agg #[.bool na, .slice a n cap]] w fun e w' => e = .returned (.bool true) ∧ Below w.heap.size w w' := by
  obtain ⟨W, hW⟩ : ∃ W, W = w.alloc (.cells #[.bool na, .slice a n cap] 25) := ⟨_, rfl⟩
  have hb0 : Below w.heap.size w W := by rw [hW]; exact (Below.refl _ _).alloc (Nat.le_refl _) _
  have hxa : Box w.heap.size (.bool na) (.slice a n cap) W := by rw [hW]; exact Box.made _ _ rfl _ _ _
  have hra : Rd W a cap xs := rdx.below hb0
  have HW := Lib.hid hW
  have HL := Lib.hid hl
  have HB0 := Lib.hid hb0
  have HXA := Lib.hid hxa
  have HRA := Lib.hid hra
  clear hW hl rdx hb0 hxa hra
  by_cases h1 : 40 < n
  · have d1 : decide ((40 : Int) < (n : Int)) = true := decide_eq_true (by omega)
    clear h1
    go_enter Tryd.func4, Tryd.ntmps4
    go_wp2_with fail
    rw [← HW.out]
    obtain ⟨p0, p1, p2, p3, p4⟩ := HXA.out
    go_wp2_with fail
    refine (long_any na a n cap W true d1).mono ?_
    rintro e w1 ⟨rfl, hb1⟩
    have hB1 := HB0.out.trans (hb1.mono HB0.out.size)
    go_wp2_with fail
    refine (awake_any divLong_any _).mono ?_
    rintro e w9 ⟨rfl, hb9⟩
    have hB9 := hB1.trans (hb9.mono hB1.size)
    go_wp2_with fail
    go_ret
    exact ⟨rfl, hB9⟩
  · have d1 : decide ((40 : Int) < (n : Int)) = false := decide_eq_false (by omega)
    have hn : n ≤ 40 := by omega
    obtain ⟨t, ht⟩ : ∃ t, t = str (text (den na xs)) := ⟨_, rfl⟩
    have hF : ∀ V, Rd V a cap xs → Calls Tryd.prog 7 #[.agg #[.bool na, .slice a n cap]] V (fun e w' => e = .returned (.string t) ∧ Below V.heap.size V w') := by
      intro V hr
      have h := format_any na a n cap xs V hr HL.out (by omega)
      unfold GivesStr at h
      rw [← ht] at h
      exact h
    have hG : ∀ V, Rd V a cap xs → Calls Tryd.prog 9 #[.agg #[.bool na, .slice a n cap]] V (fun e w' => e = .returned (.string t) ∧ Below V.heap.size V w') := by
      intro V hr
      have h := rformat_any na a n cap xs V hr HL.out (by omega)
      unfold GivesStr at h
      rw [← ht] at h
      exact h
    have HF := Lib.hid hF
    have HG := Lib.hid hG
    clear h1 ht hF hG
    go_enter Tryd.func4, Tryd.ntmps4
    go_wp2_with fail
    rw [← HW.out]
    obtain ⟨p0, p1, p2, p3, p4⟩ := HXA.out
    go_wp2_with fail
    refine (long_any na a n cap W false d1).mono ?_
    rintro e w1 ⟨rfl, hb1⟩
    have HB1 := Lib.hid (HB0.out.trans (hb1.mono HB0.out.size))
    have HRA1 := Lib.hid (HRA.out.below hb1)
    have HXA1 := Lib.hid (HXA.out.below hb1)
    clear p0 p1 p2 p3 p4 hb1
    go_wp2_with fail
    go_region_held3 (fun w' => w'.cell? ⟨w.heap.size, 0, none⟩ = some (.bool na) ∧ w'.cell? ⟨w.heap.size, 1, none⟩ = some (.slice a n cap) ∧ Below w1.heap.size w1 w')
      (first | exact held_draw HXA1.out | exact held_step HXA1.out (by assumption) k5 | exact held_step HXA1.out (by assumption) k6 | exact held_step HXA1.out (by assumption) k8)
      ((first
        | (go_at_call 7; have hq := held_rd HRA1.out (by assumption); (with_reducible refine (HF.out _ hq).mono ?_); clear hq; rintro e w5 ⟨rfl, k5⟩)
        | (go_at_call 9; have hq := held_rd HRA1.out (by assumption); (with_reducible refine (HG.out _ hq).mono ?_); clear hq; rintro e w6 ⟨rfl, k6⟩)
        | (go_at_call 6; refine (awake_any divLong_any _).mono ?_; rintro e w8 ⟨rfl, k8⟩)))
    have hB9 := HB1.out.trans ((held_below (by assumption)).mono HB1.out.size)
    go_wp2_with fail
    go_ret
    exact ⟨rfl, hB9⟩
end Go.Proofs.YtgnjjmbphangnaaDoor
