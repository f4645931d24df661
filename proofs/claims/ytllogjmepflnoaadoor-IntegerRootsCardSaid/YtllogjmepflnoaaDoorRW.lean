/-
  The walk of IntegerRoots.
-/
import Derived.Test.YtllogjmepflnoaaDoorRQ
import Derived.Test.YtllogjmepflnoaaDoorDL
namespace Go.Proofs.YtllogjmepflnoaaDoor
open Go.RowKit

attribute [local go_sem ↓] Go.wp_at_zero Go.wp_at_succ

set_option maxRecDepth 100000 in
set_option maxHeartbeats 4000000 in
theorem integerRoots_walk (na : Bool) (a : Option Addr) (n cap : Nat) (xs : List Nat) (w : World) (rdx : Rd w a cap xs) (hl : xs.length = n) :
    Calls Tryd.prog 12 #[.agg #[.bool na, .slice a n cap]] w fun e w' => e = .returned (.bool true) ∧ Below w.heap.size w w' := by
  obtain ⟨W, hW⟩ : ∃ W, W = w.alloc (.cells #[.bool na, .slice a n cap] 24) := ⟨_, rfl⟩
  have hb0 : Below w.heap.size w W := by rw [hW]; exact (Below.refl _ _).alloc (Nat.le_refl _) _
  have hxa : Box w.heap.size (.bool na) (.slice a n cap) W := by rw [hW]; exact Box.made _ _ rfl _ _ _
  have hra : Rd W a cap xs := rdx.below hb0
  have HW := Lib.hid hW
  have HL := Lib.hid hl
  have HB0 := Lib.hid hb0
  have HXA := Lib.hid hxa
  have HRA := Lib.hid hra
  have hlx := rdx.lim
  clear hW hl rdx hb0 hxa hra
  by_cases h1 : 12 < n
  · have d1 : decide ((12 : Int) < (n : Int)) = true := decide_eq_true (by omega)
    go_enter Tryd.func12, Tryd.ntmps12
    go_wp2_with fail
    rw [← HW.out]
    obtain ⟨p0, p1, p2, p3, p4⟩ := HXA.out
    go_wp2_with fail
    refine (awake_any divLong_any _).mono ?_
    rintro e w9 ⟨rfl, hb9⟩
    have hB9 := HB0.out.trans (hb9.mono HB0.out.size)
    go_wp2_with fail
    go_ret
    exact ⟨rfl, hB9⟩
  · have d1 : decide ((12 : Int) < (n : Int)) = false := decide_eq_false (by omega)
    have hn : n ≤ 12 := by omega
    clear h1
    by_cases hz : den na xs < 0
    · have HZ := Lib.hid hz
      clear hz
      go_enter Tryd.func12, Tryd.ntmps12
      go_wp2_with fail
      rw [← HW.out]
      obtain ⟨p0, p1, p2, p3, p4⟩ := HXA.out
      go_wp2_with fail
      refine (sqrt_neg na a n cap xs _ HRA.out HL.out (by omega) HZ.out).mono ?_
      rintro e w1 ⟨he, hb1⟩
      unfold GivesNone at he
      subst he
      clear p0 p1 p2 p3 p4
      obtain ⟨p0, p1, p2, p3, p4⟩ := HXA.out.below hb1
      go_wp2_with fail
      obtain ⟨W1, hW1⟩ : ∃ V, V = w1.alloc (.cells #[.bool false, .slice none 0 0] 24) := ⟨_, rfl⟩
      rw [← hW1]
      have hbb : Below w1.heap.size w1 W1 := by rw [hW1]; exact (Below.refl _ _).alloc (Nat.le_refl _) _
      have hb1' : Below W.heap.size W W1 := hb1.trans (hbb.mono hb1.size)
      have HXR : Hid (Box w1.heap.size (.bool false) (.slice none 0 0) W1) := by unfold Hid; rw [hW1]; exact Box.made _ _ rfl _ _ _
      have HXA1 := Lib.hid (HXA.out.below hb1')
      have HRA1 := Lib.hid (HRA.out.below hb1')
      have HB1 := Lib.hid (HB0.out.trans (hb1'.mono HB0.out.size))
      clear hW1 hbb hb1' hb1 p0 p1 p2 p3 p4
      refine (rsqrt_neg na a n cap xs _ HRA1.out HL.out (by omega) HZ.out).mono ?_
      rintro e w2 ⟨he, hb2⟩
      unfold GivesNone at he
      subst he
      obtain ⟨p0, p1, p2, p3, p4⟩ := HXR.out.below hb2
      go_wp2_with fail
      obtain ⟨W2, hW2⟩ : ∃ V, V = w2.alloc (.cells #[.bool false, .slice none 0 0] 24) := ⟨_, rfl⟩
      rw [← hW2]
      have hbb : Below w2.heap.size w2 W2 := by rw [hW2]; exact (Below.refl _ _).alloc (Nat.le_refl _) _
      have hb2' : Below W1.heap.size W1 W2 := hb2.trans (hbb.mono hb2.size)
      have HB2 := Lib.hid (HB1.out.trans (hb2'.mono HB1.out.size))
      clear hW2 hbb hb2' hb2 p0 p1 p2 p3 p4
      refine (same_true false none none 0 0 0 [] _ (Rd.nil _ _ _) (Rd.nil _ _ _) rfl (by omega)).mono ?_
      rintro e w3 ⟨rfl, hb3⟩
      have hB3 := HB2.out.trans (hb3.mono HB2.out.size)
      go_wp2_with fail
      refine (awake_any divLong_any _).mono ?_
      rintro e w9 ⟨rfl, hb9⟩
      have hB9 := hB3.trans (hb9.mono hB3.size)
      go_wp2_with fail
      go_ret
      exact ⟨rfl, hB9⟩

    · have HZ : Hid (0 ≤ den na xs) := by unfold Hid; omega
      clear hz
      have hxv := val_lt hlx
      rw [HL.out] at hxv
      have HXV := Lib.hid hxv
      clear hxv
      go_enter Tryd.func12, Tryd.ntmps12
      go_wp2_with fail
      rw [← HW.out]
      obtain ⟨p0, p1, p2, p3, p4⟩ := HXA.out
      go_wp2_with fail
      refine (sqrt_any divLong_any na a n cap xs _ HRA.out HL.out (by omega) HZ.out).mono ?_
      rintro e w1 ⟨s, sa, sc, hs1, hs2, rfl, hN1⟩
      have hb1 := hN1.below
      clear p0 p1 p2 p3 p4
      obtain ⟨p0, p1, p2, p3, p4⟩ := HXA.out.below hb1
      go_wp2_with fail
      obtain ⟨W1, hW1⟩ : ∃ V, V = w1.alloc (.cells #[.bool (sg (s : Int)), .slice sa (mg (s : Int)).length sc] 24) := ⟨_, rfl⟩
      rw [← hW1]
      have hbb : Below w1.heap.size w1 W1 := by rw [hW1]; exact (Below.refl _ _).alloc (Nat.le_refl _) _
      have hb1' : Below W.heap.size W W1 := hb1.trans (hbb.mono hb1.size)
      have HXR : Hid (Box w1.heap.size (.bool (sg (s : Int))) (.slice sa (mg (s : Int)).length sc) W1) := by unfold Hid; rw [hW1]; exact Box.made _ _ rfl _ _ _
      have HRR := Lib.hid (hN1.rd.below hbb)
      have hsl : (mg (s : Int)).length ≤ 12 := by
        refine length_limbs_le (Nat.lt_of_le_of_lt ?_ (Nat.lt_of_lt_of_le HXV.out (Nat.pow_le_pow_right (by omega) hn)))
        have h1 := hs1.out
        have h2 : s ≤ s * s := Nat.le_mul_self s
        simp only [Int.natAbs_natCast]; omega
      have HXA1 := Lib.hid (HXA.out.below hb1')
      have HRA1 := Lib.hid (HRA.out.below hb1')
      have HB1 := Lib.hid (HB0.out.trans (hb1'.mono HB0.out.size))
      clear hW1 hbb hb1' hb1 p0 p1 p2 p3 p4 hN1
      refine (rsqrt_any na a n cap xs _ HRA1.out HL.out (by omega) HZ.out).mono ?_
      rintro e w2 ⟨s', ta, tc, ht1, ht2, rfl, hN2⟩
      obtain rfl : s = s' := root_unique hs1.out hs2.out ht1.out ht2.out
      have hb2 := hN2.below
      obtain ⟨p0, p1, p2, p3, p4⟩ := HXR.out.below hb2
      go_wp2_with fail
      obtain ⟨W2, hW2⟩ : ∃ V, V = w2.alloc (.cells #[.bool (sg (s : Int)), .slice ta (mg (s : Int)).length tc] 24) := ⟨_, rfl⟩
      rw [← hW2]
      have hbb : Below w2.heap.size w2 W2 := by rw [hW2]; exact (Below.refl _ _).alloc (Nat.le_refl _) _
      have hb2' : Below W1.heap.size W1 W2 := hb2.trans (hbb.mono hb2.size)
      have hb12 := hb2'
      have hrs := hN2.rd.below hbb
      have HB2 := Lib.hid (HB1.out.trans (hb2'.mono HB1.out.size))
      clear hW2 hbb hb2' hb2 p0 p1 p2 p3 p4 hN2
      refine (same_true (sg (s : Int)) sa ta _ sc tc (mg (s : Int)) _ (HRR.out.below hb12) hrs rfl (by omega)).mono ?_
      rintro e w3 ⟨rfl, hb3⟩
      have hB3 := HB2.out.trans (hb3.mono HB2.out.size)
      go_wp2_with fail
      refine (awake_any divLong_any _).mono ?_
      rintro e w9 ⟨rfl, hb9⟩
      have hB9 := hB3.trans (hb9.mono hB3.size)
      go_wp2_with fail
      go_ret
      exact ⟨rfl, hB9⟩

end Go.Proofs.YtllogjmepflnoaaDoor
