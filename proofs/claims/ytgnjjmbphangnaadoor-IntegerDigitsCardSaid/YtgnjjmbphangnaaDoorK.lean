/-
  The contracts of the functions on integers that the sanity check calls.
-/
import Derived.Test.YtgnjjmbphangnaaDoorJ
namespace Go.Proofs.YtgnjjmbphangnaaDoor
open Go.RowKit

/-- The integer that a sign and limbs denote. -/
def den (neg : Bool) (xs : List Nat) : Int := if neg then -(val xs : Int) else (val xs : Int)
def sg (z : Int) : Bool := decide (z < 0)
def mg (z : Int) : List Nat := limbs z.natAbs

/-- A canonical Int in new memory. -/
def GivesInt (w : World) (z : Int) (e : Ending) (w' : World) : Prop :=
  ∃ a cap, e = .returned (.agg #[.bool (sg z), .slice a (mg z).length cap]) ∧ New w (mg z) a cap w'

theorem den_mg (z : Int) : den (sg z) (mg z) = z := by
  unfold den sg mg
  rw [val_limbs]
  by_cases h : z < 0
  · rw [decide_eq_true h]; simp; omega
  · rw [decide_eq_false h]; simp; omega
set_option maxRecDepth 100000 in
set_option maxHeartbeats 1000000 in
theorem canonical_int (neg : Bool) (N : Nat) (z : Int) (hz : z = if neg then -(N : Int) else (N : Int)) (a : Option Addr) (n cap : Nat) (w0 w : World) (hN : New w0 (limbs N) a cap w) (hn : (limbs N).length = n) :
    Calls Tryd.prog 12 #[.bool neg, .slice a n cap] w fun e w' => GivesInt w0 z e w' ∧ Below w.heap.size w w' := by
  subst hz
  refine (canonical_any neg a n cap w).mono ?_
  rintro e w' ⟨h0, h1, hb⟩
  refine ⟨?_, hb⟩
  by_cases hz : n = 0
  · have hN0 : N = 0 := by rw [← limbs_eq_nil]; exact List.eq_nil_of_length_eq_zero (by omega)
    subst hN0
    refine ⟨none, 0, ?_, ?_⟩
    · rw [h0 hz]; cases neg <;> rfl
    · have : mg (if neg then -((0 : Nat) : Int) else ((0 : Nat) : Int)) = [] := by cases neg <;> rfl
      rw [this]
      exact New.none (hN.below.trans (hb.mono hN.below.size)) 0
  · have hN0 : N ≠ 0 := by intro h; rw [h] at hn; simp [limbs_zero] at hn; omega
    have hm : mg (if neg then -(N : Int) else (N : Int)) = limbs N := by unfold mg; congr 1; cases neg <;> simp
    have hs : sg (if neg then -(N : Int) else (N : Int)) = neg := by
      unfold sg
      cases neg
      · simp
      · simp; omega
    refine ⟨a, cap, ?_, ?_⟩
    · rw [h1 hz, hs, hm, hn]
    · rw [hm]
      exact hN.after hb

/-- The block of a struct of two cells stands untouched. -/
theorem held2 {w w3 : World} {c0 c1 : Value} {t : TypeId} (h : Below (w.alloc (.cells #[c0, c1] t)).heap.size (w.alloc (.cells #[c0, c1] t)) w3) :
    w3.cell? ⟨w.heap.size, 0, none⟩ = some c0 ∧ w3.cell? ⟨w.heap.size, 1, none⟩ = some c1 ∧ w3.frozen? ⟨w.heap.size, 0, none⟩ = false ∧ w3.frozen? ⟨w.heap.size, 1, none⟩ = false ∧ w.heap.size < w3.heap.size := by
  have hs := h.size
  rw [World.size_alloc] at hs
  refine ⟨?_, ?_, ?_, ?_, by omega⟩
  · rw [h.cell (p := ⟨w.heap.size, 0, none⟩) (by simp)]; simp [go_sem]
  · rw [h.cell (p := ⟨w.heap.size, 1, none⟩) (by simp)]; simp [go_sem]
  · rw [h.frozen (p := ⟨w.heap.size, 0, none⟩) (by simp)]; simp [go_sem]
  · rw [h.frozen (p := ⟨w.heap.size, 1, none⟩) (by simp)]; simp [go_sem]

/-- A new list stays new while the result's own two cells are written. -/
theorem new_result {w w3 : World} {o : Obj} {zs : List Nat} {a : Option Addr} {cap : Nat} (h : New (w.alloc o) zs a cap w3) (u v : Value) :
    New w zs a cap ((w3.setCell ⟨w.heap.size, 0, none⟩ u).setCell ⟨w.heap.size, 1, none⟩ v) := by
  have hb : Below w.heap.size w w3 := ((Below.refl _ _).alloc (Nat.le_refl _) o).trans (h.below.mono (by simp))
  refine ⟨(hb.setCell (p := ⟨w.heap.size, 0, none⟩) (Nat.le_refl _) u).setCell (p := ⟨w.heap.size, 1, none⟩) (Nat.le_refl _) v, h.fits, ?_⟩
  rcases h.own with h0 | ⟨g, rfl, hg, ho⟩
  · exact .inl h0
  · rw [World.size_alloc] at hg
    refine .inr ⟨g, rfl, by omega, ho.of_heap ?_⟩
    rw [Below.heap_setCell _ _ _ _ (by simp; omega), Below.heap_setCell _ _ _ _ (by simp; omega)]

set_option maxRecDepth 100000 in
set_option maxHeartbeats 1000000 in
theorem small_any (z : Int) (w : World) (h0 : -9223372036854775808 ≤ z) (h1 : z ≤ 9223372036854775807) :
    Calls Tryd.prog 15 #[.int .i64 z] w (GivesInt w z) := by
  go_enter Tryd.func15, Tryd.ntmps15
  by_cases hz : z < 0
  · go_wp2_with fail
    have e : IntKind.u64.wrap (-IntKind.u64.wrap z) = ((z.natAbs : Nat) : Int) := by rw [wrap_u64', wrap_u64']; omega
    rw [e]
    refine (limbsOfWord_any z.natAbs _ (by omega)).mono ?_
    clear e
    rintro e w1 ⟨a1, c1, rfl, hN1⟩
    go_wp2_with fail
    refine (canonical_int true z.natAbs z (by simp; omega) _ _ _ _ _ hN1 rfl).mono ?_
    rintro e w2 ⟨⟨a2, c2, rfl, hN2⟩, _⟩
    obtain ⟨f1, f2, f3, f4, f5⟩ := held2 hN2.below
    have hn := new_result hN2
    clear hN1 hN2
    go_wp2_with fail
    exact bodyPost_ret (v := .agg #[.bool (sg z), .slice a2 (mg z).length c2]) (by simp [results, Tryd.results15, go_sem, f1, f2]) rfl ⟨a2, c2, rfl, hn _ _⟩
  · go_wp2_with fail
    have e : z = ((z.natAbs : Nat) : Int) := by omega
    generalize z.natAbs = u at e
    subst e
    refine (limbsOfWord_any u _ (by omega)).mono ?_
    rintro e w1 ⟨a1, c1, rfl, hN1⟩
    go_wp2_with fail
    refine (canonical_int false u (u : Int) rfl _ _ _ _ _ hN1 rfl).mono ?_
    rintro e w2 ⟨⟨a2, c2, rfl, hN2⟩, _⟩
    obtain ⟨f1, f2, f3, f4, f5⟩ := held2 hN2.below
    have hn := new_result hN2
    clear hN1 hN2
    go_wp2_with fail
    exact bodyPost_ret (v := .agg #[.bool (sg (u : Int)), .slice a2 (mg (u : Int)).length c2]) (by simp [results, Tryd.results15, go_sem, f1, f2]) rfl ⟨a2, c2, rfl, hn _ _⟩

theorem Rd.alloc {w : World} {a : Option Addr} {cap : Nat} {xs : List Nat} (h : Rd w a cap xs) (o : Obj) : Rd (w.alloc o) a cap xs :=
  h.below ((Below.refl _ _).alloc (Nat.le_refl _) o)

theorem trim_length_zero {xs : List Nat} (h : Lim xs) : (trimL xs).length = 0 ↔ val xs = 0 := by
  rw [← limbs_val h, List.length_eq_zero_iff, limbs_eq_nil]

def sign3 (z : Int) : Int := if z < 0 then -1 else if z = 0 then 0 else 1

set_option maxRecDepth 100000 in
set_option maxHeartbeats 1000000 in
theorem sign_any (neg : Bool) (a : Option Addr) (n cap : Nat) (xs : List Nat) (w : World) (rdx : Rd w a cap xs) (hl : xs.length = n) (hn : n ≤ 1000000000) :
    Calls Tryd.prog 35 #[.agg #[.bool neg, .slice a n cap]] w fun e w' => e = .returned (.int .i64 (sign3 (den neg xs))) ∧ Below w.heap.size w w' := by
  have htz := trim_length_zero rdx.lim
  have hr1 := rdx.alloc (.cells #[.bool neg, .slice a n cap] 25)
  obtain ⟨T, hT⟩ : ∃ T, T = (trimL xs).length := ⟨_, rfl⟩
  have HL := Lib.hid hl
  have HT := Lib.hid hT
  rw [← hT] at htz
  clear hT hl
  by_cases h0 : T = 0
  · have hs : sign3 (den neg xs) = 0 := by
      have := htz.1 h0
      unfold den sign3; rw [this]; cases neg <;> rfl
    have hb : ((T : Int) == 0) = true := by simp; omega
    have HS := Lib.hid hs
    clear hs htz h0
    go_enter Tryd.func35, Tryd.ntmps35
    go_wp2_with fail
    refine (trim_any _ n _ xs _ hr1 HL.out (by omega)).mono ?_
    rintro e w1 ⟨rfl, rfl⟩
    rw [← HT.out]
    go_wp2_with fail
    go_ret
    exact ⟨by rw [HS.out]; rfl, (Below.refl _ _).alloc (Nat.le_refl _) _⟩
  · have hb : ((T : Int) == 0) = false := by simp; omega
    have hv : val xs ≠ 0 := fun h => h0 (htz.2 h)
    have hs : sign3 (den neg xs) = if neg then -1 else 1 := by
      unfold den sign3; cases neg
      · simp; omega
      · simp; omega
    have HS := Lib.hid hs
    clear hs htz h0 hv
    cases neg
    all_goals
      go_enter Tryd.func35, Tryd.ntmps35
      go_wp2_with fail
      refine (trim_any _ n _ xs _ hr1 HL.out (by omega)).mono ?_
      rintro e w1 ⟨rfl, rfl⟩
      rw [← HT.out]
      go_wp2_with fail
      go_ret
      exact ⟨by rw [HS.out]; rfl, (Below.refl _ _).alloc (Nat.le_refl _) _⟩

/-- What Int64 answers. -/
def in64 (z : Int) : Bool := decide (-9223372036854775808 ≤ z ∧ z ≤ 9223372036854775807)
def to64 (z : Int) : Int := if in64 z then z else 0
theorem in64_yes {z : Int} (h : -9223372036854775808 ≤ z ∧ z ≤ 9223372036854775807) : in64 z = true := decide_eq_true h
theorem in64_no {z : Int} (h : ¬(-9223372036854775808 ≤ z ∧ z ≤ 9223372036854775807)) : in64 z = false := decide_eq_false h

theorem val_trim_len {xs : List Nat} (h : Lim xs) (h2 : ¬(trimL xs).length ≤ 2) : 18446744073709551616 ≤ val xs := by
  rw [← limbs_val h] at h2
  rcases Nat.lt_or_ge (val xs) 18446744073709551616 with h1 | h1
  · exact absurd (length_limbs_le (k := 2) (by omega)) h2
  · exact h1

set_option maxRecDepth 100000 in
set_option maxHeartbeats 1000000 in
theorem int64_any (neg : Bool) (a : Option Addr) (n cap : Nat) (xs : List Nat) (w : World) (rdx : Rd w a cap xs) (hl : xs.length = n) (hn : n ≤ 1000000000) :
    Calls Tryd.prog 16 #[.agg #[.bool neg, .slice a n cap]] w fun e w' => e = .returned (.tuple #[.int .i64 (to64 (den neg xs)), .bool (in64 (den neg xs))]) ∧ Below w.heap.size w w' := by
  have hr1 := rdx.alloc (.cells #[.bool neg, .slice a n cap] 25)
  have hrt := hr1.trim
  have hlx := rdx.lim
  have hv := val_trimL hlx
  have hvl := val_trim_len hlx
  have hv2 := fun h => (two_of_short hrt.lim h).2
  obtain ⟨X, hX⟩ : ∃ X, X = trimL xs := ⟨_, rfl⟩
  rw [← hX] at hrt hv hvl hv2
  have HL := Lib.hid hl
  have HX := Lib.hid hX
  have HV := Lib.hid hv
  clear hX hl hv
  by_cases h2 : X.length ≤ 2
  · have hu := hv2 h2
    rw [HV.out] at hu
    clear hvl hv2
    obtain ⟨u, hu2⟩ : ∃ u, u = val xs := ⟨_, rfl⟩
    have hd : den neg xs = if neg then -(u : Int) else (u : Int) := by rw [hu2]; rfl
    have hXu : val X = u := by rw [HV.out, hu2]
    rw [hd]
    rw [← hu2] at hu
    have HXU := Lib.hid hXu
    have hf : fits2 X.length = true := decide_eq_true h2
    have hu3 : u ≤ 18446744073709551615 := by omega
    clear hu2 hd hXu hu
    cases neg
    · by_cases hc : u ≤ 9223372036854775807
      · have hin : in64 (if false then -(u : Int) else (u : Int)) = true := in64_yes (by simp; omega)
        have ht : to64 (if false then -(u : Int) else (u : Int)) = u := by unfold to64; rw [hin]; rfl
        rw [hin, ht]
        first | have hcb : decide ((u : Int) < 9223372036854775808) = true := decide_eq_true (by omega) | have hcb : decide ((u : Int) < 9223372036854775808) = false := decide_eq_false (by omega)
        have HC := Lib.hid hc
        have HU3 := Lib.hid hu3
        clear hin ht hc hu3
        go_enter Tryd.func16, Tryd.ntmps16
        go_wp2_with fail
        refine (trim_any _ n _ xs _ hr1 HL.out (by omega)).mono ?_
        rintro e w1 ⟨rfl, rfl⟩
        rw [← HX.out]
        go_wp2_with fail
        refine (fitsWord_any _ _ _ _).mono ?_
        rintro e w1 ⟨rfl, rfl⟩
        rw [hf]
        go_wp2_with fail
        refine (wordOfLimbs_any _ _ _ X _ hrt rfl h2).mono ?_
        rintro e w1 ⟨rfl, rfl⟩
        rw [HXU.out]
        go_wp2_with fail
        go_ret2
        have hw : wrap64 (u : Int) = (u : Int) := by unfold wrap64; have := HC.out; omega
        exact ⟨by show Ending.returned (.tuple #[.int .i64 (wrap64 (u : Int)), .bool true]) = _; rw [hw], (Below.refl _ _).alloc (Nat.le_refl _) _⟩
      · replace hc : 9223372036854775808 ≤ u := by omega
        have hin : in64 (if false then -(u : Int) else (u : Int)) = false := in64_no (by simp; omega)
        have ht : to64 (if false then -(u : Int) else (u : Int)) = 0 := by unfold to64; rw [hin]; rfl
        rw [hin, ht]
        first | have hcb : decide ((u : Int) < 9223372036854775808) = true := decide_eq_true (by omega) | have hcb : decide ((u : Int) < 9223372036854775808) = false := decide_eq_false (by omega)
        have HC := Lib.hid hc
        have HU3 := Lib.hid hu3
        clear hin ht hc hu3
        go_enter Tryd.func16, Tryd.ntmps16
        go_wp2_with fail
        refine (trim_any _ n _ xs _ hr1 HL.out (by omega)).mono ?_
        rintro e w1 ⟨rfl, rfl⟩
        rw [← HX.out]
        go_wp2_with fail
        refine (fitsWord_any _ _ _ _).mono ?_
        rintro e w1 ⟨rfl, rfl⟩
        rw [hf]
        go_wp2_with fail
        refine (wordOfLimbs_any _ _ _ X _ hrt rfl h2).mono ?_
        rintro e w1 ⟨rfl, rfl⟩
        rw [HXU.out]
        go_wp2_with fail
        go_ret2
        exact ⟨rfl, (Below.refl _ _).alloc (Nat.le_refl _) _⟩
    · by_cases hc : u ≤ 9223372036854775808
      · have hin : in64 (if true then -(u : Int) else (u : Int)) = true := in64_yes (by simp; omega)
        have ht : to64 (if true then -(u : Int) else (u : Int)) = -(u : Int) := by unfold to64; rw [hin]; rfl
        have hw : wrap64 (IntKind.u64.wrap (-(u : Int))) = -(u : Int) := by unfold wrap64; rw [wrap_u64']; omega
        rw [hin, ht]
        have HW := Lib.hid hw
        clear hin ht hw
        go_enter Tryd.func16, Tryd.ntmps16
        go_wp2_with fail
        refine (trim_any _ n _ xs _ hr1 HL.out (by omega)).mono ?_
        rintro e w1 ⟨rfl, rfl⟩
        rw [← HX.out]
        go_wp2_with fail
        refine (fitsWord_any _ _ _ _).mono ?_
        rintro e w1 ⟨rfl, rfl⟩
        rw [hf]
        go_wp2_with fail
        refine (wordOfLimbs_any _ _ _ X _ hrt rfl h2).mono ?_
        rintro e w1 ⟨rfl, rfl⟩
        rw [HXU.out]
        go_wp2_with fail
        go_ret2
        exact ⟨by show Ending.returned (.tuple #[.int .i64 (wrap64 (IntKind.u64.wrap (-(u : Int)))), .bool true]) = _; rw [HW.out], (Below.refl _ _).alloc (Nat.le_refl _) _⟩
      · replace hc : 9223372036854775809 ≤ u := by omega
        have hin : in64 (if true then -(u : Int) else (u : Int)) = false := in64_no (by simp; omega)
        have ht : to64 (if true then -(u : Int) else (u : Int)) = 0 := by unfold to64; rw [hin]; rfl
        rw [hin, ht]
        have hcb : decide ((u : Int) ≤ 9223372036854775808) = false := decide_eq_false (by omega)
        have HC := Lib.hid hc
        have HU3 := Lib.hid hu3
        clear hin ht hc hu3
        go_enter Tryd.func16, Tryd.ntmps16
        go_wp2_with fail
        refine (trim_any _ n _ xs _ hr1 HL.out (by omega)).mono ?_
        rintro e w1 ⟨rfl, rfl⟩
        rw [← HX.out]
        go_wp2_with fail
        refine (fitsWord_any _ _ _ _).mono ?_
        rintro e w1 ⟨rfl, rfl⟩
        rw [hf]
        go_wp2_with fail
        refine (wordOfLimbs_any _ _ _ X _ hrt rfl h2).mono ?_
        rintro e w1 ⟨rfl, rfl⟩
        rw [HXU.out]
        go_wp2_with fail
        go_ret2
        exact ⟨rfl, (Below.refl _ _).alloc (Nat.le_refl _) _⟩
  · have hin : in64 (den neg xs) = false := by
      have := hvl h2
      refine in64_no ?_
      unfold den; cases neg <;> simp <;> omega
    have ht : to64 (den neg xs) = 0 := by unfold to64; rw [hin]; rfl
    have hf : fits2 X.length = false := decide_eq_false h2
    rw [hin, ht]
    clear hin ht hvl hv2 h2
    go_enter Tryd.func16, Tryd.ntmps16
    go_wp2_with fail
    refine (trim_any _ n _ xs _ hr1 HL.out (by omega)).mono ?_
    rintro e w1 ⟨rfl, rfl⟩
    rw [← HX.out]
    go_wp2_with fail
    refine (fitsWord_any _ _ _ _).mono ?_
    rintro e w1 ⟨rfl, rfl⟩
    rw [hf]
    go_wp2_with fail
    go_ret2
    exact ⟨rfl, (Below.refl _ _).alloc (Nat.le_refl _) _⟩
end Go.Proofs.YtgnjjmbphangnaaDoor
