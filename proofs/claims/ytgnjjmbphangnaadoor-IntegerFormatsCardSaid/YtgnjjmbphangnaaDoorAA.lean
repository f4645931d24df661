/-
  The contracts of the reference's low, Int64 and Sign, and of the laws' long.
-/
import Derived.Test.YtgnjjmbphangnaaDoorS
namespace Go.Proofs.YtgnjjmbphangnaaDoor
open Go.RowKit

theorem low_zero {xs : List Nat} (h : 0 < xs.length) : ((val (xs.take 1) : Nat) : Int) = nth xs 0 := by
  have e := val_take_succ xs 0 h
  rw [List.take_zero, val_nil, Nat.pow_zero, Nat.one_mul, Nat.zero_add] at e
  unfold nth; omega
theorem low_one {xs : List Nat} (h : 1 < xs.length) : ((val (xs.take 2) : Nat) : Int) = nth xs 0 + nth xs 1 * 4294967296 := by
  have e : val (xs.take 2) = val (xs.take 1) + 4294967296 ^ 1 * xs.getD 1 0 := val_take_succ xs 1 h
  have e0 := low_zero (xs := xs) (by omega)
  rw [Nat.pow_one] at e
  unfold nth at *; omega

set_option maxRecDepth 100000 in
set_option maxHeartbeats 1000000 in
theorem low_any (a : Option Addr) (n cap : Nat) (xs : List Nat) (w : World) (rdx : Rd w a cap xs) (hl : xs.length = n) (hn : n ≤ 1000000000) :
    Calls Tryd.prog 26 #[.slice a n cap] w fun e w' => e = .returned (.int .u64 ((val (xs.take 2) : Nat) : Int)) ∧ ∃ q, w.drewN q = w' := by
  have hlx := rdx.lim
  have HL := Lib.hid hl
  clear hl
  go_enter Tryd.func26, Tryd.ntmps26
  go_wp2_with fail
  go_loopw [3, 4] (fun uu i wr => ∃ (k : Nat) (j u : Int), k ≤ n ∧ k ≤ 2 ∧ i = .int .i64 j ∧ Hid (j = (k : Int)) ∧ uu = .int .u64 u ∧ Hid (u = ((val (xs.take k) : Nat) : Int)) ∧ ∃ q, wr = w.drewN q) (fun _ i _ => 2 - (intOf i).toNat)
  case atStart => exact ⟨0, 0, 0, by omega, by omega, rfl, rfl, rfl, rfl, 0, rfl⟩
  case round =>
    obtain ⟨k, j, u, hk, hk2, rfl, hj, rfl, hu, q, rfl⟩ := hrel
    by_cases h2 : k = 2
    · subst h2
      obtain rfl : j = 2 := hj.out
      go_wp2_with fail
      all_goals
        go_ret
        exact ⟨by rw [hu.out]; rfl, _, rfl⟩
    · by_cases hlt : k < n
      · obtain ⟨bx, ox, rfl, hcx⟩ := rdx.cells k (by rw [HL.out]; exact hlt)
        have g1 := nth_ge xs k
        have g2 := nth_le hlx k
        by_cases h0 : k = 0
        · subst h0
          obtain rfl : u = 0 := hu.out
          obtain rfl : j = 0 := hj.out
          rw [Nat.add_zero] at hcx
          have hor : bits .or .u64 (0 : Int) (nth xs 0) = nth xs 0 := by
            rw [u64_or _ _ (by omega) (by omega) (by omega) (by omega)]
            simp; omega
          have hv := low_zero (xs := xs) (by rw [HL.out]; exact hlt)
          have HV := Lib.hid hv
          clear hv
          go_wp2_with fail
          go_roundw
          case rel => exact ⟨1, 1, nth xs 0, by omega, by omega, by go_num, rfl, by go_num, HV.out.symm, q, rfl⟩
          case measure => simp [intOf]
        · obtain rfl : k = 1 := by omega
          have hu0 : u = nth xs 0 := by rw [hu.out]; exact low_zero (by rw [HL.out]; omega)
          subst hu0
          obtain rfl : j = 1 := hj.out
          have g3 := nth_ge xs 0
          have g4 := nth_le hlx 0
          have hor : bits .or .u64 (nth xs 0) (nth xs 1 * 4294967296) = nth xs 0 + nth xs 1 * 4294967296 := or_join64 _ _ g3 (by omega) g1 (by omega)
          have hv := low_one (xs := xs) (by rw [HL.out]; exact hlt)
          have HV := Lib.hid hv
          clear hv
          go_wp2_with fail
          go_roundw
          case rel => exact ⟨2, 2, nth xs 0 + nth xs 1 * 4294967296, by omega, by omega, by go_num, rfl, by go_num, HV.out.symm, q, rfl⟩
          case measure => simp [intOf]
      · obtain rfl : k = n := by omega
        obtain rfl : j = (k : Int) := hj.out
        have hv : u = ((val (xs.take 2) : Nat) : Int) := by rw [hu.out, List.take_of_length_le (by rw [HL.out]; omega), List.take_of_length_le (by rw [HL.out]; omega)]
        have HV := Lib.hid hv
        clear hv hu
        go_wp2_with fail
        go_ret
        exact ⟨by rw [← HV.out]; rfl, _, rfl⟩

set_option maxRecDepth 100000 in
set_option maxHeartbeats 1000000 in
theorem long_any (neg : Bool) (a : Option Addr) (n cap : Nat) (w : World) (b : Bool) (hb : decide ((40 : Int) < (n : Int)) = b) :
    Calls Tryd.prog 8 #[.agg #[.bool neg, .slice a n cap]] w fun e w' => e = .returned (.bool b) ∧ Below w.heap.size w w' := by
  go_enter Tryd.func8, Tryd.ntmps8
  go_wp2_with fail
  go_ret
  exact ⟨rfl, (Below.refl _ _).alloc (Nat.le_refl _) _⟩
end Go.Proofs.YtgnjjmbphangnaaDoor
