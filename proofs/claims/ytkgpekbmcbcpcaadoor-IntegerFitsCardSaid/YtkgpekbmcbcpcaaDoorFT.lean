/-
  The walk of IntegerFits.
-/
import Derived.Test.YtkgpekbmcbcpcaaDoorAA
import Derived.Test.YtkgpekbmcbcpcaaDoorT
import Derived.Test.YtkgpekbmcbcpcaaDoorDL
namespace Go.Proofs.YtkgpekbmcbcpcaaDoor
open Go.RowKit

set_option maxRecDepth 100000 in
set_option maxHeartbeats 1000000 in
theorem integerFits_walk (neg : Bool) (a : Option Addr) (n cap : Nat) (xs : List Nat) (w : World) (rdx : Rd w a cap xs) (hl : xs.length = n) :
    Calls Tryd.prog 5 #[.agg #[.bool neg, .slice a n cap]] w fun e w' => e = .returned (.bool true) ∧ Below w.heap.size w w' := by
  obtain ⟨W, hW⟩ : ∃ W, W = w.alloc (.cells #[.bool neg, .slice a n cap] 24) := ⟨_, rfl⟩
  have hb0 : Below w.heap.size w W := by rw [hW]; exact (Below.refl _ _).alloc (Nat.le_refl _) _
  have hx : Box w.heap.size (.bool neg) (.slice a n cap) W := by rw [hW]; exact Box.made _ _ rfl _ _ _
  have hr : Rd W a cap xs := rdx.below hb0
  have HW := Lib.hid hW
  have HL := Lib.hid hl
  clear hW hl rdx
  by_cases h40 : 40 < n
  · have hd : decide ((40 : Int) < (n : Int)) = true := decide_eq_true (by omega)
    clear h40
    obtain ⟨c0, c1', f0, f1, sz⟩ := hx
    go_enter Tryd.func5, Tryd.ntmps5
    go_wp2_with fail
    rw [← HW.out]
    refine (long_any neg a n cap W true hd).mono ?_
    rintro e w1 ⟨rfl, hb1⟩
    have hB1 := hb0.trans (hb1.mono hb0.size)
    go_wp2_with fail
    refine (awake_any divLong_any _).mono ?_
    rintro e w2 ⟨rfl, hb2⟩
    have hB2 := hB1.trans (hb2.mono hB1.size)
    go_wp2_with fail
    go_ret
    exact ⟨rfl, hB2⟩
  · have hd : decide ((40 : Int) < (n : Int)) = false := decide_eq_false (by omega)
    have hn : n ≤ 1000000000 := by omega
    clear h40
    have hx0 := hx
    obtain ⟨c0, c1', f0, f1, sz⟩ := hx
    go_enter Tryd.func5, Tryd.ntmps5
    go_wp2_with fail
    rw [← HW.out]
    refine (long_any neg a n cap W false hd).mono ?_
    rintro e w1 ⟨rfl, hb1⟩
    have hB1 := hb0.trans (hb1.mono hb0.size)
    have hx1 := hx0.below hb1
    have hr1 := hr.below hb1
    clear c0 c1' f0 f1 sz hx0 hr
    have hx1' := hx1
    obtain ⟨c0, c1', f0, f1, sz⟩ := hx1
    go_wp2_with fail
    refine (int64_any neg a n cap xs _ hr1 HL.out hn).mono ?_
    rintro e w2 ⟨rfl, hb2⟩
    have hB2 := hB1.trans (hb2.mono hB1.size)
    have hx2 := hx1'.below hb2
    have hr2 := hr1.below hb2
    clear c0 c1' f0 f1 sz hx1' hr1
    have hx2' := hx2
    obtain ⟨c0, c1', f0, f1, sz⟩ := hx2
    go_wp2_with fail
    refine (rint64_any neg a n cap xs _ hr2 HL.out hn).mono ?_
    rintro e w3 ⟨rfl, hb3⟩
    have hB3 := hB2.trans (hb3.mono hB2.size)
    have e1 : (to64 (den neg xs) == to64 (den neg xs)) = true := by simp
    have e2 : (in64 (den neg xs) == in64 (den neg xs)) = true := by simp
    generalize to64 (den neg xs) = t1 at *
    generalize in64 (den neg xs) = t2 at *
    cases t2
    all_goals
      go_wp2_with fail
      refine (awake_any divLong_any _).mono ?_
      rintro e w4 ⟨rfl, hb4⟩
      have hB4 := hB3.trans (hb4.mono hB3.size)
      go_wp2_with fail
      go_ret
      exact ⟨rfl, hB4⟩
end Go.Proofs.YtkgpekbmcbcpcaaDoor
