/-
  The contracts of the reference's low, Int64 and Sign, and of the laws' long.
-/
import Derived.Test.YtllogjmepflnoaaDoorS
namespace Go.Proofs.YtllogjmepflnoaaDoor
open Go.RowKit

theorem low_zero {xs : List Nat} (h : 0 < xs.length) : ((val (xs.take 1) : Nat) : Int) = nth xs 0 := by
  have e := val_take_succ xs 0 h
  rw [List.take_zero, val_nil, Nat.pow_zero, Nat.one_mul, Nat.zero_add] at e
  unfold nth; omega
theorem low_one {xs : List Nat} (h : 1 < xs.length) : ((val (xs.take 2) : Nat) : Int) = nth xs 0 + nth xs 1 * 4294967296 := by
  have e : val (xs.take 2) = val (xs.take 1) + 4294967296 ^ 1 * xs.getD 1 0 := val_take_succ xs 1 h
  have e0 := low_zero (xs := xs) (by omega)
  rw [Nat.pow_one] at e
  unfold nth at *; omega

set_option maxRecDepth 100000 in
set_option maxHeartbeats 1000000 in
theorem low_any (a : Option Addr) (n cap : Nat) (xs : List Nat) (w : World) (rdx : Rd w a cap xs) (hl : xs.length = n) (hn : n ≤ 1000000000) :
    Calls Tryd.prog 61 #[.slice a n cap] w fun e w' => e = .returned (.int .u64 ((val (xs.take 2) : Nat) : Int)) ∧ ∃ q, w.drewN q = w' := by
  have hlx := rdx.lim
  have HL := Lib.hid hl
  clear hl
  go_enter Tryd.func61, Tryd.ntmps61
  go_wp2_with fail
  go_loopw [3, 4] (fun uu i wr => ∃ (k : Nat) (j u : Int), k ≤ n ∧ k ≤ 2 ∧ i = .int .i64 j ∧ Hid (j = (k : Int)) ∧ uu = .int .u64 u ∧ Hid (u = ((val (xs.take k) : Nat) : Int)) ∧ ∃ q, wr = w.drewN q) (fun _ i _ => 2 - (intOf i).toNat)
  case atStart => exact ⟨0, 0, 0, by omega, by omega, rfl, rfl, rfl, rfl, 0, rfl⟩
  case round =>
    obtain ⟨k, j, u, hk, hk2, rfl, hj, rfl, hu, q, rfl⟩ := hrel
    by_cases h2 : k = 2
    · subst h2
      obtain rfl : j = 2 := hj.out
      go_wp2_with fail
      all_goals
        go_ret
        exact ⟨by rw [hu.out]; rfl, _, rfl⟩
    · by_cases hlt : k < n
      · obtain ⟨bx, ox, rfl, hcx⟩ := rdx.cells k (by rw [HL.out]; exact hlt)
        have g1 := nth_ge xs k
        have g2 := nth_le hlx k
        by_cases h0 : k = 0
        · subst h0
          obtain rfl : u = 0 := hu.out
          obtain rfl : j = 0 := hj.out
          rw [Nat.add_zero] at hcx
          have hor : bits .or .u64 (0 : Int) (nth xs 0) = nth xs 0 := by
            rw [u64_or _ _ (by omega) (by omega) (by omega) (by omega)]
            simp; omega
          have hv := low_zero (xs := xs) (by rw [HL.out]; exact hlt)
          have HV := Lib.hid hv
          clear hv
          go_wp2_with fail
          go_roundw
          case rel => exact ⟨1, 1, nth xs 0, by omega, by omega, by go_num, rfl, by go_num, HV.out.symm, q, rfl⟩
          case measure => simp [intOf]
        · obtain rfl : k = 1 := by omega
          have hu0 : u = nth xs 0 := by rw [hu.out]; exact low_zero (by rw [HL.out]; omega)
          subst hu0
          obtain rfl : j = 1 := hj.out
          have g3 := nth_ge xs 0
          have g4 := nth_le hlx 0
          have hor : bits .or .u64 (nth xs 0) (nth xs 1 * 4294967296) = nth xs 0 + nth xs 1 * 4294967296 := or_join64 _ _ g3 (by omega) g1 (by omega)
          have hv := low_one (xs := xs) (by rw [HL.out]; exact hlt)
          have HV := Lib.hid hv
          clear hv
          go_wp2_with fail
          go_roundw
          case rel => exact ⟨2, 2, nth xs 0 + nth xs 1 * 4294967296, by omega, by omega, by go_num, rfl, by go_num, HV.out.symm, q, rfl⟩
          case measure => simp [intOf]
      · obtain rfl : k = n := by omega
        obtain rfl : j = (k : Int) := hj.out
        have hv : u = ((val (xs.take 2) : Nat) : Int) := by rw [hu.out, List.take_of_length_le (by rw [HL.out]; omega), List.take_of_length_le (by rw [HL.out]; omega)]
        have HV := Lib.hid hv
        clear hv hu
        go_wp2_with fail
        go_ret
        exact ⟨by rw [← HV.out]; rfl, _, rfl⟩

set_option maxRecDepth 100000 in
set_option maxHeartbeats 1000000 in
theorem rint64_any (neg : Bool) (a : Option Addr) (n cap : Nat) (xs : List Nat) (w : World) (rdx : Rd w a cap xs) (hl : xs.length = n) (hn : n ≤ 1000000000) :
    Calls Tryd.prog 28 #[.agg #[.bool neg, .slice a n cap]] w fun e w' => e = .returned (.tuple #[.int .i64 (to64 (den neg xs)), .bool (in64 (den neg xs))]) ∧ Below w.heap.size w w' := by
  have hr1 := rdx.alloc (.cells #[.bool neg, .slice a n cap] 24)
  have hlx := rdx.lim
  have hv := val_trimL hlx
  have hvl := val_trim_len hlx
  have hv2 := fun h => (two_of_short hr1.trim.lim h).2
  obtain ⟨X, hX⟩ : ∃ X, X = trimL xs := ⟨_, rfl⟩
  rw [← hX] at hv hvl hv2
  have HL := Lib.hid hl
  have HX := Lib.hid hX
  have HV := Lib.hid hv
  clear hX hl hv
  by_cases h2 : X.length ≤ 2
  · have hu := hv2 h2
    rw [HV.out] at hu
    clear hvl hv2
    have htk : X.take 2 = X := List.take_of_length_le h2
    obtain ⟨u, hu2⟩ : ∃ u, u = val xs := ⟨_, rfl⟩
    have hd : den neg xs = if neg then -(u : Int) else (u : Int) := by rw [hu2]; rfl
    have hXu : val (X.take 2) = u := by rw [htk, HV.out, hu2]
    rw [hd]
    rw [← hu2] at hu
    have HXU := Lib.hid hXu
    have hf : decide ((2 : Int) < (X.length : Int)) = false := decide_eq_false (by omega)
    have hu3 : u ≤ 18446744073709551615 := by omega
    have H2 := Lib.hid h2
    clear hu2 hd hXu hu htk h2
    cases neg
    · by_cases hc : u ≤ 9223372036854775807
      · have hin : in64 (if false then -(u : Int) else (u : Int)) = true := in64_yes (by simp; omega)
        have ht : to64 (if false then -(u : Int) else (u : Int)) = u := by unfold to64; rw [hin]; rfl
        rw [hin, ht]
        have hcb : decide ((u : Int) < 9223372036854775808) = true := decide_eq_true (by omega)
        have HC := Lib.hid hc
        have HU3 := Lib.hid hu3
        clear hin ht hc hu3
        go_enter Tryd.func28, Tryd.ntmps28
        go_wp2_with fail
        refine (rtrim_any _ n _ xs _ hr1 HL.out (by omega)).mono ?_
        rintro e w1 ⟨a1, c1, rfl, hN1⟩
        rw [← HX.out] at hN1
        rw [← HX.out]
        obtain ⟨f1, f2, f3, f4, f5⟩ := held2 hN1.below
        have hrx := hN1.rd
        have hB := ((Below.refl w.heap.size w).alloc (Nat.le_refl _) _).trans (hN1.below.mono (by simp))
        clear hN1
        go_wp2_with fail
        refine (low_any a1 _ c1 X _ hrx rfl (by rw [HX.out]; exact Nat.le_trans (length_trimL_le xs) (by rw [HL.out]; omega))).mono ?_
        rintro e w2 ⟨rfl, q, rfl⟩
        rw [HXU.out]
        go_wp2_with fail
        go_ret2
        have hw : wrap64 (u : Int) = (u : Int) := by unfold wrap64; have := HC.out; omega
        exact ⟨by show Ending.returned (.tuple #[.int .i64 (wrap64 (u : Int)), .bool true]) = _; rw [hw], below_drewN hB q⟩
      · replace hc : 9223372036854775808 ≤ u := by omega
        have hin : in64 (if false then -(u : Int) else (u : Int)) = false := in64_no (by simp; omega)
        have ht : to64 (if false then -(u : Int) else (u : Int)) = 0 := by unfold to64; rw [hin]; rfl
        rw [hin, ht]
        have hcb : decide ((u : Int) < 9223372036854775808) = false := decide_eq_false (by omega)
        have HC := Lib.hid hc
        have HU3 := Lib.hid hu3
        clear hin ht hc hu3
        go_enter Tryd.func28, Tryd.ntmps28
        go_wp2_with fail
        refine (rtrim_any _ n _ xs _ hr1 HL.out (by omega)).mono ?_
        rintro e w1 ⟨a1, c1, rfl, hN1⟩
        rw [← HX.out] at hN1
        rw [← HX.out]
        obtain ⟨f1, f2, f3, f4, f5⟩ := held2 hN1.below
        have hrx := hN1.rd
        have hB := ((Below.refl w.heap.size w).alloc (Nat.le_refl _) _).trans (hN1.below.mono (by simp))
        clear hN1
        go_wp2_with fail
        refine (low_any a1 _ c1 X _ hrx rfl (by rw [HX.out]; exact Nat.le_trans (length_trimL_le xs) (by rw [HL.out]; omega))).mono ?_
        rintro e w2 ⟨rfl, q, rfl⟩
        rw [HXU.out]
        go_wp2_with fail
        go_ret2
        exact ⟨rfl, below_drewN hB q⟩
    · by_cases hc : u ≤ 9223372036854775808
      · have hin : in64 (if true then -(u : Int) else (u : Int)) = true := in64_yes (by simp; omega)
        have ht : to64 (if true then -(u : Int) else (u : Int)) = -(u : Int) := by unfold to64; rw [hin]; rfl
        have hw : wrap64 (IntKind.u64.wrap (-(u : Int))) = -(u : Int) := by unfold wrap64; rw [wrap_u64']; omega
        rw [hin, ht]
        have hcb : decide ((u : Int) ≤ 9223372036854775808) = true := decide_eq_true (by omega)
        have HW := Lib.hid hw
        clear hin ht hw hc
        go_enter Tryd.func28, Tryd.ntmps28
        go_wp2_with fail
        refine (rtrim_any _ n _ xs _ hr1 HL.out (by omega)).mono ?_
        rintro e w1 ⟨a1, c1, rfl, hN1⟩
        rw [← HX.out] at hN1
        rw [← HX.out]
        obtain ⟨f1, f2, f3, f4, f5⟩ := held2 hN1.below
        have hrx := hN1.rd
        have hB := ((Below.refl w.heap.size w).alloc (Nat.le_refl _) _).trans (hN1.below.mono (by simp))
        clear hN1
        go_wp2_with fail
        refine (low_any a1 _ c1 X _ hrx rfl (by rw [HX.out]; exact Nat.le_trans (length_trimL_le xs) (by rw [HL.out]; omega))).mono ?_
        rintro e w2 ⟨rfl, q, rfl⟩
        rw [HXU.out]
        go_wp2_with fail
        go_ret2
        exact ⟨by show Ending.returned (.tuple #[.int .i64 (wrap64 (IntKind.u64.wrap (-(u : Int)))), .bool true]) = _; rw [HW.out], below_drewN hB q⟩
      · replace hc : 9223372036854775809 ≤ u := by omega
        have hin : in64 (if true then -(u : Int) else (u : Int)) = false := in64_no (by simp; omega)
        have ht : to64 (if true then -(u : Int) else (u : Int)) = 0 := by unfold to64; rw [hin]; rfl
        rw [hin, ht]
        have hcb : decide ((u : Int) ≤ 9223372036854775808) = false := decide_eq_false (by omega)
        have HC := Lib.hid hc
        have HU3 := Lib.hid hu3
        clear hin ht hc hu3
        go_enter Tryd.func28, Tryd.ntmps28
        go_wp2_with fail
        refine (rtrim_any _ n _ xs _ hr1 HL.out (by omega)).mono ?_
        rintro e w1 ⟨a1, c1, rfl, hN1⟩
        rw [← HX.out] at hN1
        rw [← HX.out]
        obtain ⟨f1, f2, f3, f4, f5⟩ := held2 hN1.below
        have hrx := hN1.rd
        have hB := ((Below.refl w.heap.size w).alloc (Nat.le_refl _) _).trans (hN1.below.mono (by simp))
        clear hN1
        go_wp2_with fail
        refine (low_any a1 _ c1 X _ hrx rfl (by rw [HX.out]; exact Nat.le_trans (length_trimL_le xs) (by rw [HL.out]; omega))).mono ?_
        rintro e w2 ⟨rfl, q, rfl⟩
        rw [HXU.out]
        go_wp2_with fail
        go_ret2
        exact ⟨rfl, below_drewN hB q⟩
  · have hin : in64 (den neg xs) = false := by
      have := hvl h2
      refine in64_no ?_
      unfold den; cases neg <;> simp <;> omega
    have ht : to64 (den neg xs) = 0 := by unfold to64; rw [hin]; rfl
    have hf : decide ((2 : Int) < (X.length : Int)) = true := decide_eq_true (by omega)
    rw [hin, ht]
    clear hin ht hvl hv2 h2
    go_enter Tryd.func28, Tryd.ntmps28
    go_wp2_with fail
    refine (rtrim_any _ n _ xs _ hr1 HL.out (by omega)).mono ?_
    rintro e w1 ⟨a1, c1, rfl, hN1⟩
    rw [← HX.out] at hN1
    rw [← HX.out]
    obtain ⟨f1, f2, f3, f4, f5⟩ := held2 hN1.below
    have hrx := hN1.rd
    have hB := ((Below.refl w.heap.size w).alloc (Nat.le_refl _) _).trans (hN1.below.mono (by simp))
    clear hN1
    go_wp2_with fail
    refine (low_any a1 _ c1 X _ hrx rfl (by rw [HX.out]; exact Nat.le_trans (length_trimL_le xs) (by rw [HL.out]; omega))).mono ?_
    rintro e w2 ⟨rfl, q, rfl⟩
    go_wp2_with fail
    go_ret2
    exact ⟨rfl, below_drewN hB q⟩

set_option maxRecDepth 100000 in
set_option maxHeartbeats 1000000 in
theorem long_any (neg : Bool) (a : Option Addr) (n cap : Nat) (w : World) (b : Bool) (hb : decide ((40 : Int) < (n : Int)) = b) :
    Calls Tryd.prog 19 #[.agg #[.bool neg, .slice a n cap]] w fun e w' => e = .returned (.bool b) ∧ Below w.heap.size w w' := by
  go_enter Tryd.func19, Tryd.ntmps19
  go_wp2_with fail
  go_ret
  exact ⟨rfl, (Below.refl _ _).alloc (Nat.le_refl _) _⟩
end Go.Proofs.YtllogjmepflnoaaDoor
