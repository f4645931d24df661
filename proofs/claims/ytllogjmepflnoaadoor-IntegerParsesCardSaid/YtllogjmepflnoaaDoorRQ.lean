/-
  The reference's Sqrt: bit by bit; both Sqrts of a negative number.
-/
import Derived.Test.YtllogjmepflnoaaDoorRV
import Derived.Test.YtllogjmepflnoaaDoorMW
namespace Go.Proofs.YtllogjmepflnoaaDoor
open Go.RowKit

theorem andNot_free {a m x : Nat} (hx : x = a * (2 * 2 ^ m)) (h : x + 2 ^ m < 4294967296) (_hm : m < 32) : bits .andNot .u32 ((x + 2 ^ m : Nat) : Int) ((2 ^ m : Nat) : Int) = (x : Int) := by
  have hp : 0 < 2 ^ m := Nat.pow_pos (by omega)
  rw [u32_andNot_nat _ _ h (by omega)]
  have e : x = 2 ^ (m + 1) * a := by rw [hx, Nat.pow_succ, Nat.mul_comm a, Nat.mul_comm 2]
  have eo : x + 2 ^ m = x ||| 2 ^ m := by rw [e, ← Nat.two_pow_add_eq_or_of_lt (by rw [Nat.pow_succ]; omega)]
  have hx32 : x < 2 ^ 32 := by omega
  have hlt : 2 ^ m < 2 ^ 32 := by omega
  have e2 : 4294967295 - 2 ^ m = 2 ^ 32 - (2 ^ m + 1) := by omega
  rw [eo, e2]
  congr 1
  apply Nat.eq_of_testBit_eq
  intro i
  rw [Nat.testBit_and, Nat.testBit_or, Nat.testBit_two_pow_sub_succ hlt, Nat.testBit_two_pow]
  by_cases hi : i < 32
  · by_cases him : m = i
    · subst him
      rw [e, Nat.testBit_two_pow_mul]
      simp only [hi]
      simp <;> omega
    · simp [hi, him]
  · rw [Nat.testBit_lt_two_pow (Nat.lt_of_lt_of_le hx32 (Nat.pow_le_pow_right (by omega) (by omega)))]
    simp [hi]

theorem set_back (rs : List Nat) (d v : Nat) (hd : d < rs.length) : (rs.set d v).set d (rs.getD d 0) = rs := by
  rw [List.set_set]
  apply List.ext_getElem
  · simp
  · intro i h1 h2
    by_cases h : d = i
    · subst h
      simp [List.getD_eq_getElem?_getD, hd]
    · simp [h]

def GivesNone (e : Ending) : Prop := e = .returned (.tuple #[.agg #[.bool false, .slice none 0 0], .bool false])

attribute [local go_sem ↓] Go.wp_at_zero Go.wp_at_succ

set_option maxRecDepth 100000 in
set_option maxHeartbeats 4000000 in
theorem rsqrt_neg (na : Bool) (a : Option Addr) (n cap : Nat) (xs : List Nat) (w : World) (rdx : Rd w a cap xs) (hl : xs.length = n) (hn : n ≤ 1000000) (hz : den na xs < 0) :
    Calls Tryd.prog 43 #[.agg #[.bool na, .slice a n cap]] w (fun e w' => GivesNone e ∧ Below w.heap.size w w') := by
  have hs3 : decide (sign3 (den na xs) < 0) = true := by unfold sign3; rw [if_pos hz]; rfl
  obtain ⟨W, hW⟩ : ∃ W, W = (w.alloc (.cells #[.bool na, .slice a n cap] 24)).alloc (.cells #[.bool false, .slice none 0 0] 24) := ⟨_, rfl⟩
  have hb0 : Below w.heap.size w W := by rw [hW]; exact ((Below.refl _ _).alloc (Nat.le_refl _) _).alloc (by simp) _
  have hxa : Box w.heap.size (.bool na) (.slice a n cap) W := by rw [hW]; exact (Box.made _ _ rfl _ _ _).alloc _
  have hxr : Box (w.heap.size + 1) (.bool false) (.slice none 0 0) W := by rw [hW]; exact Box.made _ _ (by simp) _ _ _
  have hra := rdx.below hb0
  have HW := Lib.hid hW
  have HL := Lib.hid hl
  have HB0 := Lib.hid hb0
  have HXR := Lib.hid hxr
  clear hW hl hb0 rdx hz hxr
  go_enter Tryd.func43, Tryd.ntmps43
  go_wp2_with fail
  rw [← HW.out]
  obtain ⟨p0, p1, p2, p3, p4⟩ := hxa
  go_wp2_with fail
  refine (rsign_any na a n cap xs _ hra HL.out (by omega)).mono ?_
  rintro e w1 ⟨rfl, hb1⟩
  have hB1 := HB0.out.trans (hb1.mono HB0.out.size)
  obtain ⟨r0, r1, r2, r3, r4⟩ := HXR.out.below hb1
  clear p0 p1 p2 p3 p4
  go_wp2_with fail
  exact bodyPost_ret (v := .tuple #[.agg #[.bool false, .slice none 0 0], .bool false]) (by simp [results, Tryd.results43, go_sem, r0, r1]) rfl ⟨rfl, (hB1.setCell (p := ⟨w.heap.size + 1, 0, none⟩) (by simp) _).setCell (p := ⟨w.heap.size + 1, 1, none⟩) (by simp) _⟩

set_option maxRecDepth 100000 in
set_option maxHeartbeats 4000000 in
theorem sqrt_neg (na : Bool) (a : Option Addr) (n cap : Nat) (xs : List Nat) (w : World) (rdx : Rd w a cap xs) (hl : xs.length = n) (hn : n ≤ 1000000) (hz : den na xs < 0) :
    Calls Tryd.prog 42 #[.agg #[.bool na, .slice a n cap]] w (fun e w' => GivesNone e ∧ Below w.heap.size w w') := by
  have hs3 : decide (sign3 (den na xs) < 0) = true := by unfold sign3; rw [if_pos hz]; rfl
  obtain ⟨W, hW⟩ : ∃ W, W = (w.alloc (.cells #[.bool na, .slice a n cap] 24)).alloc (.cells #[.bool false, .slice none 0 0] 24) := ⟨_, rfl⟩
  have hb0 : Below w.heap.size w W := by rw [hW]; exact ((Below.refl _ _).alloc (Nat.le_refl _) _).alloc (by simp) _
  have hxa : Box w.heap.size (.bool na) (.slice a n cap) W := by rw [hW]; exact (Box.made _ _ rfl _ _ _).alloc _
  have hxr : Box (w.heap.size + 1) (.bool false) (.slice none 0 0) W := by rw [hW]; exact Box.made _ _ (by simp) _ _ _
  have hra := rdx.below hb0
  have HW := Lib.hid hW
  have HL := Lib.hid hl
  have HB0 := Lib.hid hb0
  have HXR := Lib.hid hxr
  clear hW hl hb0 rdx hz hxr
  go_enter Tryd.func42, Tryd.ntmps42
  go_wp2_with fail
  rw [← HW.out]
  obtain ⟨p0, p1, p2, p3, p4⟩ := hxa
  go_wp2_with fail
  refine (sign_any na a n cap xs _ hra HL.out (by omega)).mono ?_
  rintro e w1 ⟨rfl, hb1⟩
  have hB1 := HB0.out.trans (hb1.mono HB0.out.size)
  obtain ⟨r0, r1, r2, r3, r4⟩ := HXR.out.below hb1
  clear p0 p1 p2 p3 p4
  go_wp2_with fail
  exact bodyPost_ret (v := .tuple #[.agg #[.bool false, .slice none 0 0], .bool false]) (by simp [results, Tryd.results42, go_sem, r0, r1]) rfl ⟨rfl, (hB1.setCell (p := ⟨w.heap.size + 1, 0, none⟩) (by simp) _).setCell (p := ⟨w.heap.size + 1, 1, none⟩) (by simp) _⟩

set_option maxRecDepth 100000 in
set_option maxHeartbeats 8000000 in
theorem rsqrt_any (na : Bool) (a : Option Addr) (n cap : Nat) (xs : List Nat) (w : World) (rdx : Rd w a cap xs) (hl : xs.length = n) (hn : n ≤ 1000000) (hz : 0 ≤ den na xs) :
    Calls Tryd.prog 43 #[.agg #[.bool na, .slice a n cap]] w (GivesSq w (val xs)) := by
  have hlx := rdx.lim
  obtain ⟨i, hi, hz0, hz1, hz2⟩ := info_parts Tryd.infoU32
  have hs3 : decide (sign3 (den na xs) < 0) = false := by unfold sign3; rw [if_neg (by omega)]; split <;> simp
  obtain ⟨SG, hSG⟩ : ∃ s, s = sign3 (den na xs) := ⟨_, rfl⟩
  rw [← hSG] at hs3
  have HSG := Lib.hid hSG
  obtain ⟨W, hW⟩ : ∃ W, W = (w.alloc (.cells #[.bool na, .slice a n cap] 24)).alloc (.cells #[.bool false, .slice none 0 0] 24) := ⟨_, rfl⟩
  have hb0 : Below w.heap.size w W := by rw [hW]; exact ((Below.refl _ _).alloc (Nat.le_refl _) _).alloc (by simp) _
  have hxa : Box w.heap.size (.bool na) (.slice a n cap) W := by rw [hW]; exact (Box.made _ _ rfl _ _ _).alloc _
  have hxr : Box (w.heap.size + 1) (.bool false) (.slice none 0 0) W := by rw [hW]; exact Box.made _ _ (by simp) _ _ _
  have hra := rdx.below hb0
  obtain ⟨T, hT⟩ : ∃ T, T = trimL xs := ⟨_, rfl⟩
  have hTl : T.length ≤ n := by rw [hT, ← hl]; exact length_trimL_le _
  have hTv : val xs < 4294967296 ^ T.length := by rw [← val_trimL hlx, ← hT]; exact val_lt (by rw [hT]; exact rdx.trim.lim)
  obtain ⟨L, hL⟩ : ∃ L, L = (T.length + 1) / 2 := ⟨_, rfl⟩
  have hst := RootInv.start (val xs) T.length L hL hTv
  have hL1 : ((T.length : Int) + 1) / 2 = (L : Int) := by omega
  have hL2 : L ≤ 1000000 := by omega
  have HZ := Lib.hid (den_nonneg hz)
  have HST := Lib.hid hst
  have HT := Lib.hid hT
  have HW := Lib.hid hW
  have HL := Lib.hid hl
  have HB0 := Lib.hid hb0
  have HXR := Lib.hid hxr
  have HXA := Lib.hid hxa
  have HRA := Lib.hid hra
  clear hW hl hb0 rdx hz hxr hT hL hTv hst hSG hra
  go_enter Tryd.func43, Tryd.ntmps43
  go_wp2_with fail
  rw [← HW.out]
  obtain ⟨p0, p1, p2, p3, p4⟩ := hxa
  go_wp2_with fail
  refine (rsign_any na a n cap xs _ HRA.out HL.out (by omega)).mono ?_
  rintro ev w1 ⟨rfl, hb1⟩
  rw [← HSG.out]
  clear p0 p1 p2 p3 p4
  obtain ⟨p0, p1, p2, p3, p4⟩ := HXA.out.below hb1
  go_wp2_with fail
  refine (rtrim_any a n cap xs _ (HRA.out.below hb1) HL.out (by omega)).mono ?_
  rintro ev w2 ⟨a2, c2, rfl, hN2⟩
  rw [← HT.out]
  have hb2 : Below W.heap.size W w2 := hb1.trans (hN2.below.mono hb1.size)
  clear p0 p1 p2 p3 p4 hN2 hb1
  have HB2 := Lib.hid hb2
  clear hb2
  go_wp2_with (at_make; refine wpList_make_full _ rfl _ _ 22 rfl w2.heap.size 29 i (.int .u32 0) 1 Tryd.underlying22 hi hz0 hz1 _ _ _ _ L rfl rfl ?_ ?_ ?_ ?_ (Nat.le_refl _) ?_)
  all_goals try (omega)
  all_goals try (rw [hz2]; omega)
  all_goals try (unfold maxLen; omega)
  intro w3 hown hgrow
  have ho3 := own_made hown
  have hb3 : Below w2.heap.size w2 w3 := (Below.refl _ _).grown hgrow (Nat.le_refl _) (by intro k hk; cases hk)
  clear hown hgrow
  go_wp2_with fail
  have hfin0 : w.heap.size + 2 ≤ W.heap.size := by rw [HW.out]; simp
  have hW2 := HB2.out.size
  obtain ⟨G, hG⟩ : ∃ G, G = w2.heap.size := ⟨_, rfl⟩
  have HG := Lib.hid hG
  rw [← hG] at ho3
  rw [← hG]
  clear hG
  have hB3 : Below w2.heap.size w2 w3 := hb3
  go_loopw [6] (fun ii wr => ∃ (k : Nat) (rs : List Nat), k ≤ 32 * L ∧ ii = .int .i64 ((k : Int) - 1) ∧ Hid (RootInv (val xs) L k rs) ∧ Own wr G rs ∧ Below w2.heap.size w2 wr) (fun ii _ => (intOf ii + 1).toNat)
  case atStart => exact ⟨32 * L, List.replicate L 0, Nat.le_refl _, by simp, HST.out, ho3, hB3⟩
  case round =>
    clear ho3 hb3 hB3
    obtain ⟨k, rs, hk, rfl, hI, hO, hB⟩ := hrel
    have hrl := hI.out.len
    have HRL := Lib.hid hrl
    have hGlt := hO.lt
    by_cases h0 : 0 < k
    · obtain ⟨e, rfl⟩ : ∃ e, k = e + 1 := ⟨k - 1, by omega⟩
      have ee : ((e + 1 : Nat) : Int) - 1 = (e : Int) := by omega
      rw [ee]
      clear ee
      obtain ⟨d, mm, hmm, hed⟩ : ∃ d mm, mm < 32 ∧ e = 32 * d + mm := ⟨e / 32, e % 32, by omega, by omega⟩
      have hE2 : (e : Int) / 32 = (d : Int) := by omega
      have hE3 : (e : Int) % 32 = (mm : Int) := by omega
      have hd : d < L := by omega
      have d1 : e / 32 = d := by omega
      have d2 : e % 32 = mm := by omega
      obtain ⟨aa, hl1, hl2⟩ := hI.out.bit
      have hvs := val_set_bit (xs := rs) e (by rw [d1, hrl]; exact hd)
      rw [d1, d2] at hl1 hl2 hvs
      have hor : bits .or .u32 (nth rs d) ((2 ^ mm : Nat) : Int) = ((rs.getD d 0 + 2 ^ mm : Nat) : Int) := or_free hl1 hl2
      have hand : bits .andNot .u32 ((rs.getD d 0 + 2 ^ mm : Nat) : Int) ((2 ^ mm : Nat) : Int) = ((rs.getD d 0 : Nat) : Int) := andNot_free hl1 hl2 hmm
      have hpw := pow_wrap mm hmm
      have hps := pow_small mm hmm
      have hlim := hI.out.lim
      have hgd := hlim.getD d
      obtain ⟨pw, hpwe⟩ : ∃ pw, pw = 2 ^ mm := ⟨_, rfl⟩
      rw [← hpwe] at hor hand hpw hps hl2 hvs
      have g5 := nth_ge rs d
      have g6 := nth_le hlim d
      obtain ⟨vq, hvq⟩ : ∃ vq, vq = rs.getD d 0 + pw := ⟨_, rfl⟩
      obtain ⟨oldv, hold⟩ : ∃ o, o = rs.getD d 0 := ⟨_, rfl⟩
      rw [← hvq] at hor hand hl2 hvs
      rw [← hold] at hand hgd
      have HVQ := Lib.hid hvq
      have HOLD := Lib.hid hold
      have HPW := Lib.hid hpwe
      have HVS := Lib.hid hvs
      have HED := Lib.hid hed
      have hcell := hO.cell d (by rw [hrl]; exact hd)
      have hfree := hO.free d
      clear hl1 hpwe hvq hold hvs hrl hed
      go_wp2_with fail
      go_region
      all_goals go_wp2_with fail
      obtain ⟨hO4, hG4⟩ := hO.store d vq hl2 (vq : Int) rfl
      obtain ⟨W4, hW4⟩ : ∃ V, V = (wr.setCell ⟨G, d, none⟩ (.int .u32 (vq : Int))).drew := ⟨_, rfl⟩
      rw [← hW4]
      have ho4 : Own W4 G (rs.set d vq) := by rw [hW4]; exact hO4.below (Below.refl _ _).drew hO4.lt
      have hB4 : Below w2.heap.size w2 W4 := by rw [hW4]; exact (hB.setCell (p := ⟨G, d, none⟩) (by rw [HG.out]; exact Nat.le_refl _) _).drew
      have hr4 := ho4.rd (cap := L) (by rw [List.length_set, HRL.out]; exact Nat.le_refl _)
      clear hW4 hO4 hG4 hcell hfree hO hB
      refine (make_any false _ L L (rs.set d vq) _ hr4 (by rw [List.length_set, HRL.out]) (by omega)).mono ?_
      rintro ev w5 ⟨a5, c5, rfl, hN5⟩
      have hb5 := hN5.below
      have ho5 := ho4.below hb5 ho4.lt
      have hB5 := hB4.trans (hb5.mono hB4.size)
      obtain ⟨z, hzz⟩ : ∃ z, z = den false (rs.set d vq) := ⟨_, rfl⟩
      rw [← hzz] at hN5
      rw [← hzz]
      have hlim2 : Lim (rs.set d vq) := ho4.lim
      have hzl : (mg z).length ≤ L := by
        rw [hzz, mg_den]
        refine length_limbs_le ?_
        have := val_lt hlim2
        rwa [List.length_set, HRL.out] at this
      have hzzl : (mg (z * z)).length ≤ 2 * L := by
        have := mg_mul_len false false hlim2 hlim2
        rw [List.length_set, HRL.out, ← hzz] at this
        omega
      have hzv : z = ((val rs + 2 ^ e : Nat) : Int) := by rw [hzz]; show ((val (rs.set d vq) : Nat) : Int) = _; rw [HVS.out]
      have HZV := Lib.hid hzv
      have hWr := hN5.rd
      clear hzz hzv
      go_wp2_with fail
      obtain ⟨W5, hW5⟩ : ∃ V, V = w5.alloc (Obj.cells #[Value.bool (sg z), Value.slice a5 (mg z).length c5] 24) := ⟨_, rfl⟩
      rw [← hW5]
      have hb6 : Below w5.heap.size w5 W5 := by rw [hW5]; exact (Below.refl _ _).alloc (Nat.le_refl _) _
      have HXZ : Hid (Box w5.heap.size (.bool (sg z)) (.slice a5 (mg z).length c5) W5) := by unfold Hid; rw [hW5]; exact Box.made _ _ rfl _ _ _
      have hB6 := hB5.trans (hb6.mono hB5.size)
      have HO6 := Lib.hid (ho5.below hb6 ho5.lt)
      have HRZ := Lib.hid (hWr.below hb6)
      have hbW := HB2.out.trans (hB6.mono HB2.out.size)
      have HXA6 := Lib.hid (HXA.out.below hbW)
      have HRA6 := Lib.hid (HRA.out.below hbW)
      have HB6 := Lib.hid hB6
      clear hW5 hb5 hb6 hB5 hB6 hbW hWr hN5 ho5 ho4 hB4 hr4
      go_region_held3 (fun w' => w'.cell? ⟨w5.heap.size, 0, none⟩ = some (.bool (sg z)) ∧ w'.cell? ⟨w5.heap.size, 1, none⟩ = some (.slice a5 (mg z).length c5) ∧ w'.cell? ⟨w.heap.size, 0, none⟩ = some (.bool na) ∧ w'.cell? ⟨w.heap.size, 1, none⟩ = some (.slice a n cap) ∧ Below W5.heap.size W5 w')
        (first | exact two_draw HXZ.out HXA6.out | exact two_step HXZ.out HXA6.out (by assumption) hN7.below | exact two_step HXZ.out HXA6.out (by assumption) k8)
        ((first
          | (go_at_call 34; have hq := two_rd HRZ.out (by assumption); refine (rmul_any (sg z) (sg z) a5 a5 _ _ c5 c5 (mg z) (mg z) _ hq hq rfl rfl (by omega) (by omega)).mono ?_; clear hq; rw [den_mg]; rintro ev w7 ⟨a7, c7, rfl, hN7⟩)
          | (go_at_call 32; have hq := two_rd HRA6.out (by assumption); refine (rcmpz_any (sg (z * z)) na a7 a _ n c7 cap (mg (z * z)) xs _ hN7.rd hq rfl HL.out (by omega) (by omega)).mono ?_; clear hq; rw [den_mg]; rintro ev w8 ⟨rfl, k8⟩)))
      have hb8 : Below W5.heap.size W5 w8 := two_below (by assumption)
      have hO8 := HO6.out.below hb8 HO6.out.lt
      have hB8 := HB6.out.trans (hb8.mono HB6.out.size)
      clear hN7 k8 hb8
      by_cases hgt : val xs < (val rs + 2 ^ e) * (val rs + 2 ^ e)
      · have hc : decide (0 < cmpZ (z * z) (den na xs)) = true := by
          have h1 : (val xs : Int) < z * z := by rw [HZV.out]; exact_mod_cast hgt
          rw [HZ.out]; unfold cmpZ; rw [if_neg (by omega), if_pos h1]; rfl
        have hI2 := hI.out.step_no hgt
        have HI2 := Lib.hid hI2
        have hcell := hO8.cell d (by rw [List.length_set, HRL.out]; exact hd)
        have hfree := hO8.free d
        have hnv : nth (rs.set d vq) d = (vq : Int) := by unfold nth; rw [getD_set_eq _ _ _ (by rw [HRL.out]; exact hd)]
        rw [hnv] at hcell
        clear hnv hgt hI hI2
        rw [hc]
        clear hc
        go_wp2_with fail
        go_region
        all_goals go_wp2_with fail
        go_roundw
        case rel =>
          have hst := (hO8.store d oldv hgd (oldv : Int) rfl).1
          rw [HOLD.out, set_back _ _ _ (by rw [HRL.out]; exact hd), ← HOLD.out] at hst
          exact ⟨e, rs, by omega, rfl, HI2.out, hst.below (Below.refl _ _).drew hst.lt, (hB8.setCell (p := ⟨G, d, none⟩) (by rw [HG.out]; exact Nat.le_refl _) _).drew⟩
        case measure => simp [intOf]
      · have hc : decide (0 < cmpZ (z * z) (den na xs)) = false := by
          have h1 : z * z ≤ (val xs : Int) := by rw [HZV.out]; exact_mod_cast Nat.le_of_not_lt hgt
          rw [HZ.out]; unfold cmpZ
          by_cases h2 : z * z < (val xs : Int)
          · rw [if_pos h2]; rfl
          · rw [if_neg h2, if_neg (by omega)]; rfl
        have hI2 := hI.out.step_yes (by omega) (Nat.le_of_not_lt hgt)
        rw [d1, d2, ← HPW.out, ← HVQ.out] at hI2
        have HI2 := Lib.hid hI2
        clear hgt hI hI2
        rw [hc]
        clear hc
        go_wp2_with fail
        go_roundw
        case rel => exact ⟨e, rs.set d vq, by omega, rfl, HI2.out, hO8, hB8⟩
        case measure => simp [intOf]
    · obtain rfl : k = 0 := by omega
      have hle := hI.out.le
      have hgt := hI.out.gt
      rw [Nat.pow_zero] at hgt
      have HLE := Lib.hid hle
      have HGT := Lib.hid hgt
      have hr4 := hO.rd (cap := L) (by rw [HRL.out]; exact Nat.le_refl _)
      have hxr := HXR.out.below (HB2.out.trans (hB.mono HB2.out.size))
      have hbw : Below w.heap.size w wr := HB0.out.trans ((HB2.out.trans (hB.mono HB2.out.size)).mono HB0.out.size)
      have hsz : w.heap.size + 1 < wr.heap.size := hxr.size
      have HXR4 := Lib.hid hxr
      have HBW := Lib.hid hbw
      clear hle hgt hI hxr hbw
      go_wp2_with fail
      refine (make_any false _ L L rs _ hr4 HRL.out (by omega)).mono ?_
      have hden : den false rs = ((val rs : Nat) : Int) := rfl
      rw [hden]
      rintro ev w5 ⟨a5, c5, rfl, hN5⟩
      obtain ⟨r0, r1, r2, r3, r4⟩ := HXR4.out.below hN5.below
      have hfin := new_stored HBW.out hN5 (Nat.le_succ _) hsz
      clear hN5 hO hB hr4
      go_wp2_with fail
      refine bodyPost_ret (v := .tuple #[.agg #[.bool (sg (val rs : Int)), .slice a5 (mg (val rs : Int)).length c5], .bool true]) (by simp [results, Tryd.results43, go_sem, r0, r1]) rfl ⟨val rs, a5, c5, HLE, HGT, rfl, hfin _ _⟩
end Go.Proofs.YtllogjmepflnoaaDoor
