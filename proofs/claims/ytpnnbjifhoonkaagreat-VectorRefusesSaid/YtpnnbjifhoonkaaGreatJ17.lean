/-
  Joined texts: UR.
-/
import Derived.Test.YtpnnbjifhoonkaaGreatJ16
namespace Go.Proofs.YtpnnbjifhoonkaaGreat
open Go.RowKit Minor

theorem detZ_zero (M : Nat → Nat → Int) : detZ M 0 = 1 := rfl

set_option maxRecDepth 100000 in
set_option maxHeartbeats 2000000 in
theorem rminor_any (b n c k : Nat) (M : Nat → Nat → Int) (w : World) (hR : RowZ w b n (fun k => detZ M (k + 1))) (hk : k ≤ n) (hn : n ≤ 8) :
    Calls Tryz.prog 87 #[.slice (some ⟨b, 0, none⟩) n c, .int .i64 (k : Int)] w (GivesZ w (detZ M k)) := by
  obtain ⟨W, hW⟩ : ∃ W, W = w.alloc (.cells #[.bool false, .slice none 0 0] 33) := ⟨_, rfl⟩
  have hbW : Below w.heap.size w W := by rw [hW]; exact (Below.refl _ _).alloc (Nat.le_refl _) _
  have hres : Hid (Box w.heap.size (.bool false) (.slice none 0 0) W) := by rw [hW]; exact Box.made _ _ rfl _ _ _
  have HR := Lib.hid (hR.belowU hbW)
  have HR0 := Lib.hid hR
  have HWW : Hid (w.alloc (.cells #[.bool false, .slice none 0 0] 33) = W) := hW.symm
  have HBW := Lib.hid hbW
  clear hW hbW hR
  by_cases h0 : k = 0
  · subst h0
    rw [detZ_zero]
    go_enter Tryz.func87, Tryz.ntmps87
    go_wp2_with fail
    rw [HWW.out]
    refine (smallZ 1 (by omega) (by omega)).mono ?_
    rintro e w2 ⟨a2, c2, rfl, hr2, hb2⟩
    obtain ⟨d, hd⟩ : ∃ o : Int, o = 1 := ⟨_, rfl⟩
    rw [← hd] at hr2 ⊢
    obtain ⟨t0, t1, t2, t3, t4⟩ := hres.out.below hb2
    have e1 : (w2.setCell ⟨w.heap.size, 0, none⟩ (.bool (sg d))).cell? ⟨w.heap.size, 1, none⟩ = some (.slice none 0 0) := by rw [World.cell?_setCell_other _ _ _ _ (by simp)]; exact t1
    have HL : Hid (Lm ((w2.setCell ⟨w.heap.size, 0, none⟩ (.bool (sg d))).setCell ⟨w.heap.size, 1, none⟩ (.slice a2 (mg d).length c2)) a2 c2 (mg d)) := (hr2.setO rfl t0 (by simp) _).setO rfl e1 (by simp) _
    have HBF : Hid (Below w.heap.size w ((w2.setCell ⟨w.heap.size, 0, none⟩ (.bool (sg d))).setCell ⟨w.heap.size, 1, none⟩ (.slice a2 (mg d).length c2))) := ((HBW.out.trans (hb2.mono HBW.out.size)).setCell (p := ⟨w.heap.size, 0, none⟩) (Nat.le_refl _) _).setCell (p := ⟨w.heap.size, 1, none⟩) (Nat.le_refl _) _
    have HD := Lib.hid hd
    clear hr2 hb2 hd e1
    go_wp2_with fail
    exact bodyPost_ret (v := .agg #[.bool (sg d), .slice a2 (mg d).length c2]) (by simp [results, Tryz.results87, go_sem, t0, t1]) rfl (by rw [← HD.out]; exact ⟨a2, c2, rfl, HL.out, HBF.out⟩)
  · obtain ⟨q, rfl⟩ : ∃ q, k = q + 1 := ⟨k - 1, by omega⟩
    obtain ⟨a3, d3, x0, y0, r3⟩ := HR0.out.c q (by omega)
    obtain ⟨d, hd⟩ : ∃ d, d = detZ M (q + 1) := ⟨_, rfl⟩
    rw [← hd] at x0 y0 r3 ⊢
    have hk0 : (((q + 1 : Nat) : Int) == 0) = false := by simp; omega
    have hkm : wrap64 (((q + 1 : Nat) : Int) - 1) = (q : Int) := by unfold wrap64; omega
    have hkm2 : ((q : Int) + 1 - 1) = (q : Int) := by omega
    have hA : ∀ o : Obj, Below w.heap.size w (w.alloc o) := fun o => (Below.refl _ _).alloc (Nat.le_refl _) _
    have x3 := cell_keep (hA (.cells #[.bool false, .slice none 0 0] 33)) x0
    have y3 := cell_keep (hA (.cells #[.bool false, .slice none 0 0] 33)) y0
    have HL : Hid (Lm (w.alloc (.cells #[.bool (sg d), .slice a3 (mg d).length d3] 33)) a3 d3 (mg d)) := r3.below (hA _)
    have HBF : Hid (Below w.heap.size w (w.alloc (.cells #[.bool (sg d), .slice a3 (mg d).length d3] 33))) := hA _
    have hlt : (q : Int) < (n : Int) := by omega
    have HD := Lib.hid hd
    clear r3 hd h0 hA HWW hres HR HBW HR0 x0 y0
    go_enter Tryz.func87, Tryz.ntmps87
    go_wp2_with fail
    exact bodyPost_ret (v := .agg #[.bool (sg d), .slice a3 (mg d).length d3]) (by simp [results, Tryz.results87, go_sem]) rfl ⟨a3, d3, rfl, HL.out, HBF.out⟩

theorem lamZ_short {M : Nat → Nat → Int} {n i j : Nat} (hn : n ≤ 8) (hi : i < n) (hj : j < n) (hs : ∀ i j, i < n → j < n → (M i j).natAbs ≤ cB 0) : (lamZ M i j).natAbs ≤ cB (j + 1) :=
  detZ_short (by omega) fun p q hp hq => by
    split
    · exact hs p q (by omega) (by omega)
    · exact hs i q hi (by omega)

theorem cB_mono {k l : Nat} (h : k ≤ l) : cB k ≤ cB l := by
  induction l with
  | zero =>
    obtain rfl : k = 0 := by omega
    exact Nat.le_refl _
  | succ l ih =>
    by_cases e : k = l + 1
    · rw [e]; exact Nat.le_refl _
    · exact Nat.le_trans (ih (by omega)) (cB_le l)

/-- 2 |lambda(i, j)| <= d_(j+1). -/
def SizedZ (M : Nat → Nat → Int) (i j : Nat) : Prop := 2 * ((lamZ M i j).natAbs : Int) ≤ detZ M (j + 1)

set_option maxRecDepth 100000 in
set_option maxHeartbeats 4000000 in
theorem rsized_any (g n cap b c i j : Nat) (R : Nat → Nat) (M : Nat → Nat → Int) (w : World) (hM : MatZ w g n n R M) (hR : RowZ w b n (fun k => detZ M (k + 1))) (h2 : n ≤ 8) (hi : i < n) (hj : j < n) (hs : ∀ i j, i < n → j < n → (M i j).natAbs ≤ cB 0) :
    Calls Tryz.prog 67 #[.slice (some ⟨g, 0, none⟩) n cap, .slice (some ⟨b, 0, none⟩) n c, .int .i64 (i : Int), .int .i64 (j : Int)] w fun e w' => ∃ r : Bool, e = .returned (.bool r) ∧ (r = true ↔ SizedZ M i j) ∧ Below w.heap.size w w' := by
  have HM := Lib.hid hM
  have HR := Lib.hid hR
  have HS := Lib.hid hs
  have hlb := lamZ_short h2 hi hj hs
  have hdb : (detZ M (j + 1)).natAbs ≤ cB (j + 1) := detZ_short (by omega) fun p q hp hq => hs p q (by omega) (by omega)
  obtain ⟨l, hl⟩ : ∃ l, l = lamZ M i j := ⟨_, rfl⟩
  obtain ⟨d, hd⟩ : ∃ d, d = detZ M (j + 1) := ⟨_, rfl⟩
  rw [← hl] at hlb
  rw [← hd] at hdb
  have hc1 : 2 * cB (j + 1) ≤ cB (j + 2) := by
    rw [← cB_step (j + 1)]
    exact Nat.mul_le_mul_left 2 (Nat.le_mul_of_pos_left _ (cB_pos _))
  have hl1 : Hid ((mg l).length ≤ 1000000) := cB_short (by omega) hlb
  have hl2 : Hid ((mg (l.natAbs : Int)).length ≤ 1000000) := cB_short (k := j + 1) (by omega) (by simpa using hlb)
  have hl3 : Hid ((mg (2 * (l.natAbs : Int))).length ≤ 1000000) := cB_short (k := j + 2) (by omega) (by rw [Int.natAbs_mul]; simp; omega)
  have hl4 : Hid ((mg d).length ≤ 1000000) := cB_short (by omega) hdb
  have hl5 : Hid ((mg 2).length ≤ 1000000) := by unfold Hid; have : (mg 2).length ≤ 5 := by decide
                                                 omega
  have HL := Lib.hid hl
  have HD := Lib.hid hd
  have hj1 : wrap64 ((j : Int) + 1) = ((j + 1 : Nat) : Int) := by unfold wrap64; omega
  clear hM hR hs hlb hdb hl hd hc1
  go_enter Tryz.func67, Tryz.ntmps67
  go_wp2_with fail
  refine (smallZ 2 (by omega) (by omega)).mono ?_
  rintro e w2 ⟨a2, c2, rfl, hr2, hb2⟩
  have HL2 := Lib.hid hr2
  have HB2 := Lib.hid hb2
  have HM2 : Hid (MatZ w2 g n n R M) := HM.out.below hb2
  clear hr2 hb2
  go_wp2_with fail
  refine (rlambda_any g n cap i j R M _ HM2.out h2 hi hj HS.out).mono ?_
  rintro e w3 ⟨a3, c3, rfl, hr3, hb3⟩
  rw [← HL.out] at hr3 ⊢
  have HL3 := Lib.hid hr3
  have HL2' := Lib.hid (HL2.out.below hb3)
  have HB3 : Hid (Below w.heap.size w w3) := HB2.out.trans (hb3.mono HB2.out.size)
  clear hr3 hb3 HL2 HB2 HM2
  go_wp2_with fail
  refine (absZ HL3.out hl1.out).mono ?_
  rintro e w4 ⟨a4, c4, rfl, hr4, hb4⟩
  have HL4 := Lib.hid hr4
  have HL2 := Lib.hid (HL2'.out.below hb4)
  have HB4 : Hid (Below w.heap.size w w4) := HB3.out.trans (hb4.mono HB3.out.size)
  clear hr4 hb4 HL3 HB3 HL2'
  go_wp2_with fail
  refine (mulZ HL2.out HL4.out hl5.out hl2.out).mono ?_
  rintro e w5 ⟨a5, c5, rfl, hr5, hb5⟩
  have HL5 := Lib.hid hr5
  have HB5 : Hid (Below w.heap.size w w5) := HB4.out.trans (hb5.mono HB4.out.size)
  have HR5 : Hid (RowZ w5 b n (fun k => detZ M (k + 1))) := HR.out.belowU HB5.out
  clear hr5 hb5 HL4 HB4 HL2
  go_wp2_with fail
  refine (rminor_any b n c (j + 1) M _ HR5.out (by omega) h2).mono ?_
  rintro e w6 ⟨a6, c6, rfl, hr6, hb6⟩
  rw [← HD.out] at hr6 ⊢
  have HL6 := Lib.hid hr6
  have HL5' := Lib.hid (HL5.out.below hb6)
  have HB6 : Hid (Below w.heap.size w w6) := HB5.out.trans (hb6.mono HB5.out.size)
  clear hr6 hb6 HL5 HB5 HR5
  go_wp2_with fail
  refine (cmpZZ HL5'.out HL6.out hl3.out hl4.out).mono ?_
  rintro e w7 ⟨rfl, hb7⟩
  have HB7 : Hid (Below w.heap.size w w7) := HB6.out.trans (hb7.mono HB6.out.size)
  have hcl := cmpZ_le (2 * (l.natAbs : Int)) d
  clear hb7 HL5' HL6 HB6
  go_wp2_with fail
  go_ret
  exact ⟨_, rfl, by rw [decide_eq_true_eq]; unfold SizedZ; rw [← HL.out, ← HD.out], HB7.out⟩

set_option maxRecDepth 100000 in
set_option maxHeartbeats 4000000 in
theorem rsmall_form (g n cap : Nat) (R : Nat → Nat) (M : Nat → Nat → Int) (w : World) (hM : MatZ w g n n R M) (h1 : 1 ≤ n) (h2 : n ≤ 8) (hs : ∀ i j, i < n → j < n → (M i j).natAbs ≤ cB 0) :
    Calls Tryz.prog 44 #[.slice (some ⟨g, 0, none⟩) n cap] w fun e w' => ∃ r : Bool, e = .returned (.bool r) ∧ (r = true ↔ detZ M n ≤ 10000) ∧ Below w.heap.size w w' := by
  have hdb : (detZ M n).natAbs ≤ cB n := detZ_short h2 hs
  have HM := Lib.hid hM
  have HS := Lib.hid hs
  obtain ⟨d, hd⟩ : ∃ d, d = detZ M n := ⟨_, rfl⟩
  rw [← hd] at hdb
  have hl4 : Hid ((mg d).length ≤ 1000000) := cB_short (by omega) hdb
  have hl5 : Hid ((mg 10000).length ≤ 1000000) := by unfold Hid; have : (mg 10000).length ≤ 5 := by decide
                                                     omega
  have HD := Lib.hid hd
  clear hM hs hdb hd
  go_enter Tryz.func44, Tryz.ntmps44
  go_wp2_with fail
  refine (rdet_any g n cap R M _ HM.out h1 h2 HS.out).mono ?_
  rintro e w3 ⟨a3, c3, rfl, hr3, hb3⟩
  rw [← HD.out] at hr3 ⊢
  have HL3 := Lib.hid hr3
  have HB3 := Lib.hid hb3
  clear hr3 hb3
  go_wp2_with fail
  refine (smallZ 10000 (by omega) (by omega)).mono ?_
  rintro e w2 ⟨a2, c2, rfl, hr2, hb2⟩
  have HL2 := Lib.hid hr2
  have HL3' := Lib.hid (HL3.out.below hb2)
  have HB2 : Hid (Below w.heap.size w w2) := HB3.out.trans (hb2.mono HB3.out.size)
  clear hr2 hb2 HL3 HB3
  go_wp2_with fail
  refine (cmpZZ HL3'.out HL2.out hl4.out hl5.out).mono ?_
  rintro e w7 ⟨rfl, hb7⟩
  have HB7 : Hid (Below w.heap.size w w7) := HB2.out.trans (hb7.mono HB2.out.size)
  have hcl := cmpZ_le d 10000
  clear hb7 HL3' HL2 HB2
  go_wp2_with fail
  go_ret
  exact ⟨_, rfl, by rw [decide_eq_true_eq, HD.out], HB7.out⟩
end Go.Proofs.YtpnnbjifhoonkaaGreat
