/-
  The walk of IntegerPowers.
-/
import Derived.Test.YtllogjmepflnoaaDoorPW
import Derived.Test.YtllogjmepflnoaaDoorDL
namespace Go.Proofs.YtllogjmepflnoaaDoor
open Go.RowKit

/-- The five exponents that the law asks about. -/
def kat (k : Int) : Nat → Int
  | 0 => k
  | 1 => k.tmod 66
  | 2 => 0
  | 3 => 65
  | _ => -1
theorem kat_bounds {k : Int} (h0 : -9223372036854775808 ≤ k) (h1 : k ≤ 9223372036854775807) (j : Nat) : -9223372036854775808 ≤ kat k j ∧ kat k j ≤ 9223372036854775807 := by
  unfold kat
  split
  · exact ⟨h0, h1⟩
  · have h2 := Int.tmod_lt_of_pos k (show (0 : Int) < 66 by decide)
    have h3 : -66 < k.tmod 66 := by
      have := Int.tmod_lt_of_pos (-k) (show (0 : Int) < 66 by decide)
      rw [Int.neg_tmod] at this; omega
    omega
  all_goals omega
theorem kat_cell (w : World) (k : Int) (t : TypeId) (j : Nat) (hj : j < 5) : (w.alloc (.cells #[.int .i64 k, .int .i64 (k.tmod 66), .int .i64 0, .int .i64 65, .int .i64 (-1)] t)).cell? ⟨w.heap.size, j, none⟩ = some (.int .i64 (kat k j)) := by
  match j, hj with
  | 0, _ => simp [go_sem, kat]
  | 1, _ => simp [go_sem, kat]
  | 2, _ => simp [go_sem, kat]
  | 3, _ => simp [go_sem, kat]
  | 4, _ => simp [go_sem, kat]

attribute [local go_sem ↓] Go.wp_at_zero Go.wp_at_succ

set_option maxRecDepth 100000 in
set_option maxHeartbeats 8000000 in
theorem integerPowers_walk (na : Bool) (a : Option Addr) (n cap : Nat) (k : Int) (xs : List Nat) (w : World) (rdx : Rd w a cap xs) (hl : xs.length = n) (h0 : -9223372036854775808 ≤ k) (h1 : k ≤ 9223372036854775807) :
    Calls Tryd.prog 14 #[.agg #[.bool na, .slice a n cap], .int .i64 k] w fun e w' => e = .returned (.bool true) ∧ Below w.heap.size w w' := by
  obtain ⟨V, hV⟩ : ∃ V, V = w.alloc (.cells #[.bool na, .slice a n cap] 24) := ⟨_, rfl⟩
  have hbv : Below w.heap.size w V := by rw [hV]; exact (Below.refl _ _).alloc (Nat.le_refl _) _
  have hxv : Box w.heap.size (.bool na) (.slice a n cap) V := by rw [hV]; exact Box.made _ _ rfl _ _ _
  have hvs : V.heap.size = w.heap.size + 1 := by rw [hV]; simp
  have HL := Lib.hid hl
  have HV := Lib.hid hV
  have HBV := Lib.hid hbv
  have HXV := Lib.hid hxv
  have HVS := Lib.hid hvs
  have HRV := Lib.hid (rdx.below hbv)
  have hlx := rdx.lim
  clear hl rdx hV hbv hxv hvs
  by_cases h6 : 6 < n
  · have d1 : decide ((6 : Int) < (n : Int)) = true := decide_eq_true (by omega)
    clear h6
    go_enter Tryd.func14, Tryd.ntmps14
    go_wp2_with fail
    rw [← HV.out]
    obtain ⟨p0, p1, p2, p3, p4⟩ := HXV.out
    go_wp2_with fail
    refine (awake_any divLong_any _).mono ?_
    rintro e w9 ⟨rfl, hb9⟩
    have hB9 := HBV.out.trans (hb9.mono HBV.out.size)
    go_wp2_with fail
    go_ret
    exact ⟨rfl, hB9⟩
  · have d1 : decide ((6 : Int) < (n : Int)) = false := decide_eq_false (by omega)
    have hn : n ≤ 6 := by omega
    obtain ⟨W, hW⟩ : ∃ W, W = V.alloc (.cells #[.int .i64 k, .int .i64 (k.tmod 66), .int .i64 0, .int .i64 65, .int .i64 (-1)] 3) := ⟨_, rfl⟩
    have hbw : Below V.heap.size V W := by rw [hW]; exact (Below.refl _ _).alloc (Nat.le_refl _) _
    have hcells : ∀ j, j < 5 → W.cell? ⟨w.heap.size + 1, j, none⟩ = some (.int .i64 (kat k j)) := by
      intro j hj
      rw [hW, ← HVS.out]; exact kat_cell V k _ j hj
    have hws : W.heap.size = w.heap.size + 2 := by rw [hW, World.size_alloc, HVS.out]
    have HWW : Hid ((w.alloc (.cells #[.bool na, .slice a n cap] 24)).alloc (.cells #[.int .i64 k, .int .i64 (k.tmod 66), .int .i64 0, .int .i64 65, .int .i64 (-1)] 3) = W) := by unfold Hid; rw [hW, HV.out]
    have HB0 := Lib.hid (HBV.out.trans (hbw.mono HBV.out.size))
    have HXA := Lib.hid (HXV.out.below hbw)
    have HRA := Lib.hid (HRV.out.below hbw)
    have HC := Lib.hid hcells
    have HWS := Lib.hid hws
    clear h6 hW hbw hcells hws
    go_enter Tryd.func14, Tryd.ntmps14
    go_wp2_with fail
    rw [HWW.out]
    go_loopw [21] (fun ii wr => ∃ (j : Nat), j ≤ 5 ∧ ii = .int .i64 j ∧ Below W.heap.size W wr) (fun ii _ => 5 - (intOf ii).toNat)
    case atStart => exact ⟨0, by omega, rfl, Below.refl _ _⟩
    case round =>
      obtain ⟨j, hj, rfl, hB⟩ := hrel
      by_cases hlt : j < 5
      · have hcell : wr.cell? ⟨w.heap.size + 1, j, none⟩ = some (.int .i64 (kat k j)) := by
          rw [hB.cell (p := ⟨w.heap.size + 1, j, none⟩) (by simp [HWS.out])]; exact HC.out j hlt
        obtain ⟨κ, hκ⟩ : ∃ κ, κ = kat k j := ⟨_, rfl⟩
        obtain ⟨b0, b1⟩ := kat_bounds h0 h1 j
        rw [← hκ] at hcell b0 b1
        have hxa := HXA.out.below hB
        have HXW := Lib.hid hxa
        have HRW := Lib.hid (HRA.out.below hB)
        have HB := Lib.hid hB
        clear hκ hB
        obtain ⟨p0, p1, p2, p3, p4⟩ := hxa
        by_cases hk : κ < 0 ∨ 64 < κ
        · have HK := Lib.hid hk
          clear hk
          go_wp2_with fail
          refine (pow_none na a n cap κ xs _ HRW.out HL.out b0 b1 HK.out).mono ?_
          rintro e w1 ⟨he, hb1⟩
          unfold GivesNone at he
          subst he
          clear p0 p1 p2 p3 p4
          obtain ⟨p0, p1, p2, p3, p4⟩ := HXW.out.below hb1
          go_wp2_with fail
          obtain ⟨W1, hW1⟩ : ∃ V, V = w1.alloc (.cells #[.bool false, .slice none 0 0] 24) := ⟨_, rfl⟩
          rw [← hW1]
          have hbb : Below w1.heap.size w1 W1 := by rw [hW1]; exact (Below.refl _ _).alloc (Nat.le_refl _) _
          have hb1' : Below wr.heap.size wr W1 := hb1.trans (hbb.mono hb1.size)
          have HXR : Hid (Box w1.heap.size (.bool false) (.slice none 0 0) W1) := by unfold Hid; rw [hW1]; exact Box.made _ _ rfl _ _ _
          have HRA1 := Lib.hid (HRW.out.below hb1')
          have HB1 := Lib.hid (HB.out.trans (hb1'.mono HB.out.size))
          clear hW1 hbb hb1' hb1 p0 p1 p2 p3 p4 hcell
          refine (rpow_none na a n cap κ xs _ HRA1.out HL.out b0 b1 HK.out).mono ?_
          rintro e w2 ⟨he, hb2⟩
          unfold GivesNone at he
          subst he
          obtain ⟨p0, p1, p2, p3, p4⟩ := HXR.out.below hb2
          go_wp2_with fail
          obtain ⟨W2, hW2⟩ : ∃ V, V = w2.alloc (.cells #[.bool false, .slice none 0 0] 24) := ⟨_, rfl⟩
          rw [← hW2]
          have hbb : Below w2.heap.size w2 W2 := by rw [hW2]; exact (Below.refl _ _).alloc (Nat.le_refl _) _
          have hb2' : Below W1.heap.size W1 W2 := hb2.trans (hbb.mono hb2.size)
          have HB2 := Lib.hid (HB1.out.trans (hb2'.mono HB1.out.size))
          clear hW2 hbb hb2' hb2 p0 p1 p2 p3 p4
          refine (same_true false none none 0 0 0 [] _ (Rd.nil _ _ _) (Rd.nil _ _ _) rfl (by omega)).mono ?_
          rintro e w3 ⟨rfl, hb3⟩
          have hB3 := HB2.out.trans (hb3.mono HB2.out.size)
          go_wp2_with fail
          go_roundw
          case rel => exact ⟨j + 1, by omega, by go_num, hB3⟩
          case measure => simp [intOf]; omega
        · obtain ⟨K, rfl⟩ : ∃ K : Nat, κ = (K : Int) := ⟨κ.toNat, by omega⟩
          have hK : K ≤ 64 := by omega
          clear hk
          obtain ⟨z, hz⟩ : ∃ z, z = den na xs ^ K := ⟨_, rfl⟩
          have hzl : (mg z).length ≤ 4000000000 := by
            have h1 : (den na xs).natAbs < 4294967296 ^ (n + 1) := Nat.lt_of_lt_of_le (natAbs_lt' hlx) (Nat.pow_le_pow_right (by omega) (by rw [HL.out]; omega))
            have h2 := mg_pow_len h1 (by omega) K
            have h3 : (n + 1) * K ≤ 7 * 64 := Nat.mul_le_mul (by omega) hK
            rw [hz]; omega
          have HZ := Lib.hid hz
          clear hz
          go_wp2_with fail
          refine (pow_any na a n cap K xs _ HRW.out HL.out (by omega) hK).mono ?_
          rintro e w1 ⟨sa, sc, rfl, hN1⟩
          rw [← HZ.out] at hN1
          rw [← HZ.out]
          have hb1 := hN1.below
          clear p0 p1 p2 p3 p4
          obtain ⟨p0, p1, p2, p3, p4⟩ := HXW.out.below hb1
          go_wp2_with fail
          obtain ⟨W1, hW1⟩ : ∃ V, V = w1.alloc (.cells #[.bool (sg z), .slice sa (mg z).length sc] 24) := ⟨_, rfl⟩
          rw [← hW1]
          have hbb : Below w1.heap.size w1 W1 := by rw [hW1]; exact (Below.refl _ _).alloc (Nat.le_refl _) _
          have hb1' : Below wr.heap.size wr W1 := hb1.trans (hbb.mono hb1.size)
          have HXR : Hid (Box w1.heap.size (.bool (sg z)) (.slice sa (mg z).length sc) W1) := by unfold Hid; rw [hW1]; exact Box.made _ _ rfl _ _ _
          have HRR := Lib.hid (hN1.rd.below hbb)
          have HRA1 := Lib.hid (HRW.out.below hb1')
          have HB1 := Lib.hid (HB.out.trans (hb1'.mono HB.out.size))
          clear hW1 hbb hb1' hb1 p0 p1 p2 p3 p4 hN1 hcell
          refine (rpow_any na a n cap K xs _ HRA1.out HL.out (by omega) hK).mono ?_
          rintro e w2 ⟨ta, tc, rfl, hN2⟩
          rw [← HZ.out] at hN2
          rw [← HZ.out]
          have hb2 := hN2.below
          obtain ⟨p0, p1, p2, p3, p4⟩ := HXR.out.below hb2
          go_wp2_with fail
          obtain ⟨W2, hW2⟩ : ∃ V, V = w2.alloc (.cells #[.bool (sg z), .slice ta (mg z).length tc] 24) := ⟨_, rfl⟩
          rw [← hW2]
          have hbb : Below w2.heap.size w2 W2 := by rw [hW2]; exact (Below.refl _ _).alloc (Nat.le_refl _) _
          have hb2' : Below W1.heap.size W1 W2 := hb2.trans (hbb.mono hb2.size)
          have hb12 := hb2'
          have hrs := hN2.rd.below hbb
          have HB2 := Lib.hid (HB1.out.trans (hb2'.mono HB1.out.size))
          clear hW2 hbb hb2' hb2 p0 p1 p2 p3 p4 hN2
          refine (same_true (sg z) sa ta _ sc tc (mg z) _ (HRR.out.below hb12) hrs rfl (by omega)).mono ?_
          rintro e w3 ⟨rfl, hb3⟩
          have hB3 := HB2.out.trans (hb3.mono HB2.out.size)
          go_wp2_with fail
          go_roundw
          case rel => exact ⟨j + 1, by omega, by go_num, hB3⟩
          case measure => simp [intOf]; omega
      · obtain rfl : j = 5 := by omega
        have hB3 := HB0.out.trans (hB.mono HB0.out.size)
        go_wp2_with fail
        refine (awake_any divLong_any _).mono ?_
        rintro e w9 ⟨rfl, hb9⟩
        have hB9 := hB3.trans (hb9.mono hB3.size)
        go_wp2_with fail
        go_ret
        exact ⟨rfl, hB9⟩
end Go.Proofs.YtllogjmepflnoaaDoor
