/-
  The reference's Sign and Cmp; the laws' copied.
-/
import Derived.Test.YtgnjjmbphangnaaDoorCP
namespace Go.Proofs.YtgnjjmbphangnaaDoor
open Go.RowKit

attribute [local go_sem ↓] Go.wp_at_zero Go.wp_at_succ

set_option maxRecDepth 100000 in
set_option maxHeartbeats 1000000 in
theorem rsign_any (neg : Bool) (a : Option Addr) (n cap : Nat) (xs : List Nat) (w : World) (rdx : Rd w a cap xs) (hl : xs.length = n) (hn : n ≤ 1000000000) :
    Calls Tryd.prog 22 #[.agg #[.bool neg, .slice a n cap]] w fun e w' => e = .returned (.int .i64 (sign3 (den neg xs))) ∧ Below w.heap.size w w' := by
  have htz := trim_length_zero rdx.lim
  have hr1 := rdx.alloc (.cells #[.bool neg, .slice a n cap] 25)
  obtain ⟨T, hT⟩ : ∃ T, T = (trimL xs).length := ⟨_, rfl⟩
  have HL := Lib.hid hl
  have HT := Lib.hid hT
  rw [← hT] at htz
  clear hT hl
  by_cases h0 : T = 0
  · have hs : sign3 (den neg xs) = 0 := by
      have := htz.1 h0
      unfold den sign3; rw [this]; cases neg <;> rfl
    have hb : ((T : Int) == 0) = true := by simp; omega
    have HS := Lib.hid hs
    clear hs htz h0
    go_enter Tryd.func22, Tryd.ntmps22
    go_wp2_with fail
    refine (rtrim_any _ n _ xs _ hr1 HL.out (by omega)).mono ?_
    rintro e w1 ⟨a1, c1, rfl, hN1⟩
    rw [← HT.out]
    have hB := ((Below.refl w.heap.size w).alloc (Nat.le_refl _) _).trans (hN1.below.mono (by simp))
    clear hN1
    go_wp2_with fail
    go_ret
    exact ⟨by rw [HS.out]; rfl, hB⟩
  · have hb : ((T : Int) == 0) = false := by simp; omega
    have hv : val xs ≠ 0 := fun h => h0 (htz.2 h)
    have hs : sign3 (den neg xs) = if neg then -1 else 1 := by
      unfold den sign3; cases neg
      · simp; omega
      · simp; omega
    have HS := Lib.hid hs
    clear hs htz h0 hv
    cases neg
    all_goals
      go_enter Tryd.func22, Tryd.ntmps22
      go_wp2_with fail
      refine (rtrim_any _ n _ xs _ hr1 HL.out (by omega)).mono ?_
      rintro e w1 ⟨a1, c1, rfl, hN1⟩
      rw [← HT.out]
      have hB := ((Below.refl w.heap.size w).alloc (Nat.le_refl _) _).trans (hN1.below.mono (by simp))
      obtain ⟨f1, f2, f3, f4, f5⟩ := held2 hN1.below
      clear hN1
      go_wp2_with fail
      go_ret
      exact ⟨by rw [HS.out]; rfl, hB⟩

end Go.Proofs.YtgnjjmbphangnaaDoor
