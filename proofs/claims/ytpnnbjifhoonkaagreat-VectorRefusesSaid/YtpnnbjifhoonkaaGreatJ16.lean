/-
  Joined texts: UO UP UQ.
-/
import Derived.Test.YtpnnbjifhoonkaaGreatJ14
import Derived.Test.YtpnnbjifhoonkaaGreatJ15
namespace Go.Proofs.YtpnnbjifhoonkaaGreat
open Go.RowKit Minor

set_option maxRecDepth 100000 in
set_option maxHeartbeats 2000000 in
theorem rshape_any (g n m cap : Nat) (R : Nat → Nat) (M : Nat → Nat → Int) (w : World) (hM : MatZ w g n m R M) (h1 : 1 ≤ n) (h2 : n ≤ 16) (h3 : 1 ≤ m) (h4 : m ≤ 16) :
    Calls Tryz.prog 49 #[.slice (some ⟨g, 0, none⟩) n cap] w fun e w' => e = .returned (.tuple #[.int .i64 (n : Int), .int .i64 (m : Int), .bool true]) ∧ Below w.heap.size w w' := by
  obtain ⟨c0, o0⟩ := hM.outer 0 (by omega)
  have HO : Hid (∀ i, i < n → ∃ c, w.cell? ⟨g, i, none⟩ = some (.slice (some ⟨R i, 0, none⟩) m c)) := hM.outer
  have d1 : decide ((n : Int) < 1) = false := decide_eq_false (by omega)
  have d2 : decide ((16 : Int) < (n : Int)) = false := decide_eq_false (by omega)
  have d3 : decide ((m : Int) < 1) = false := decide_eq_false (by omega)
  have d4 : decide ((16 : Int) < (m : Int)) = false := decide_eq_false (by omega)
  have d5 : ((m : Int) == (m : Int)) = true := by simp
  clear hM
  go_enter Tryz.func49, Tryz.ntmps49
  go_wp2_with fail
  go_loop [17] (fun ii => ∃ i : Nat, i ≤ n ∧ ii = .int .i64 (i : Int)) (fun ii => n - (intOf ii).toNat)
  case atStart => exact ⟨0, by omega, rfl⟩
  case round =>
    obtain ⟨i, hin, rfl⟩ := hrel
    by_cases hi : i < n
    · obtain ⟨ci, oi⟩ := HO.out i hi
      go_wp2_with fail
      go_round
      case rel => exact ⟨i + 1, by omega, by go_num⟩
      case measure => simp [intOf]; omega
    · obtain rfl : i = n := by omega
      go_wp2_with fail
      go_region
      go_wp2_with fail
      exact bodyPost_ret (v := .tuple #[.int .i64 (i : Int), .int .i64 (m : Int), .bool true]) (by simp [results, Tryz.results49, go_sem]) rfl ⟨rfl, (Below.refl _ _).drew⟩

/-- What Square answers. -/
def sqN (n m : Nat) : Int := if n = m then n else 0
def sqB (n m : Nat) : Bool := decide (n = m)

set_option maxRecDepth 100000 in
set_option maxHeartbeats 400000 in
theorem rsquare_any (g n m cap : Nat) (R : Nat → Nat) (M : Nat → Nat → Int) (w : World) (hM : MatZ w g n m R M) (h1 : 1 ≤ n) (h2 : n ≤ 16) (h3 : 1 ≤ m) (h4 : m ≤ 16) :
    Calls Tryz.prog 61 #[.slice (some ⟨g, 0, none⟩) n cap] w fun e w' => e = .returned (.tuple #[.int .i64 (sqN n m), .bool (sqB n m)]) ∧ Below w.heap.size w w' := by
  have HM := Lib.hid hM
  clear hM
  by_cases hnm : n = m
  · subst hnm
    have e1 : sqN n n = n := if_pos rfl
    have e2 : sqB n n = true := decide_eq_true rfl
    rw [e1, e2]
    clear e1 e2
    go_enter Tryz.func61, Tryz.ntmps61
    go_wp2_with fail
    refine (rshape_any g n n cap R M _ HM.out h1 h2 h1 h2).mono ?_
    rintro e w1 ⟨rfl, hb⟩
    have HB := Lib.hid hb
    clear hb
    go_wp2_with fail
    go_ret2
    exact ⟨rfl, HB.out⟩
  · have e1 : sqN n m = 0 := if_neg hnm
    have e2 : sqB n m = false := decide_eq_false hnm
    rw [e1, e2]
    clear e1 e2
    have d1 : ((n : Int) == (m : Int)) = false := by simp; omega
    have d3 : ((n : Int) != (m : Int)) = true := by unfold bne; rw [d1]; rfl
    have D3 := Lib.hid d3
    clear d1 d3
    go_enter Tryz.func61, Tryz.ntmps61
    go_wp2_with fail
    refine (rshape_any g n m cap R M _ HM.out h1 h2 h3 h4).mono ?_
    rintro e w1 ⟨rfl, hb⟩
    have HB := Lib.hid hb
    have d3 := D3.out
    clear hb
    go_wp2_with fail
    go_ret2
    exact ⟨rfl, HB.out⟩

theorem detZ_congr {a b : Nat → Nat → Int} {n : Nat} (h : ∀ i j, i < n → j < n → a i j = b i j) : detZ a n = detZ b n := detP_congr n 0 1 false (by omega) h

theorem firstN_same {k p : Nat} (hp : p < k + 1) : firstN k k p = p := by
  unfold firstN
  split <;> omega

set_option maxRecDepth 100000 in
set_option maxHeartbeats 4000000 in
theorem rleading_any (g n cap : Nat) (R : Nat → Nat) (M : Nat → Nat → Int) (w : World) (hM : MatZ w g n n R M) (h1 : 1 ≤ n) (h2 : n ≤ 8) (hs : ∀ i j, i < n → j < n → (M i j).natAbs ≤ cB 0) :
    Calls Tryz.prog 66 #[.slice (some ⟨g, 0, none⟩) n cap] w fun e w' => ∃ b c, e = .returned (.tuple #[.slice (some ⟨b, 0, none⟩) n c, .bool true]) ∧ RowZ w' b n (fun k => detZ M (k + 1)) ∧ Below w.heap.size w w' := by
  have HM := Lib.hid hM
  have HS := Lib.hid hs
  have q1 : sqN n n = n := if_pos rfl
  have q2 : sqB n n = true := decide_eq_true rfl
  have HQ1 := Lib.hid q1
  have HQ2 := Lib.hid q2
  clear hM hs q1 q2
  go_enter Tryz.func66, Tryz.ntmps66
  go_wp2_with fail
  refine (rsquare_any g n n cap R M _ HM.out h1 (by omega) h1 (by omega)).mono ?_
  rintro e w1 ⟨rfl, hb1⟩
  rw [HQ1.out, HQ2.out]
  have HB1 := Lib.hid hb1
  clear hb1
  go_wp2_with fail
  go_loopw [6, 7] (fun vv kk wr => ∃ k : Nat, k ≤ n ∧ kk = .int .i64 (k : Int) ∧ Hid (RowB wr w.heap.size vv k (fun k => detZ M (k + 1))) ∧ Hid (Below w.heap.size w wr)) (fun _ kk _ => n - (intOf kk).toNat)
  case atStart => exact ⟨0, by omega, rfl, RowB.nil _ _ _, HB1⟩
  case round =>
    obtain ⟨k, hkn, rfl, hR, hB⟩ := hrel
    by_cases hk : k < n
    · go_wp2_with fail
      refine (rfirst_any k k _ (by omega)).mono ?_
      rintro e w2 ⟨b2, c2, rfl, hr2, hb2⟩
      have HR2 := Lib.hid hr2
      have HB2 : Hid (Below wr.heap.size wr w2) := hb2
      clear hr2 hb2
      go_wp2_with fail
      refine (rfirst_any k k _ (by omega)).mono ?_
      rintro e w3 ⟨b3, c3, rfl, hr3, hb3⟩
      have HR2' := Lib.hid (HR2.out.below hb3)
      have HR3 := Lib.hid hr3
      have HB3 : Hid (Below wr.heap.size wr w3) := HB2.out.trans (hb3.mono HB2.out.size)
      clear hr3 hb3 HR2 HB2
      have HM3 : Hid (MatZ w3 g n n R M) := HM.out.below (hB.out.trans (HB3.out.mono hB.out.size))
      have HFN : Hid (∀ p, p < k + 1 → firstN k k p < n) := fun p hp => by rw [firstN_same hp]; omega
      go_wp2_with fail
      refine (rselect_any g n n cap R M b2 (k + 1) c2 b3 (k + 1) c3 (firstN k k) (firstN k k) _ HM3.out HR2'.out HR3.out HFN.out HFN.out (by omega) (by omega) (by omega) (by omega) (by omega) (by omega)).mono ?_
      rintro e w4 ⟨g4, cap4, R4, rfl, hm4, hg4, hR4, hb4⟩
      have HM4 := Lib.hid hm4
      have HB4 : Hid (Below wr.heap.size wr w4) := HB3.out.trans (hb4.mono HB3.out.size)
      clear hm4 hg4 hR4 hb4 HM3 HR2' HR3 HB3
      go_wp2_with fail
      refine (rdet_any g4 (k + 1) cap4 R4 (fun p q => M (firstN k k p) (firstN k k q)) _ HM4.out (by omega) (by omega) (fun i j hi hj => HS.out _ _ (HFN.out i hi) (HFN.out j hj))).mono ?_
      rintro e w5 ⟨a5, c5, rfl, hr5, hb5⟩
      have hdet : detZ (fun p q => M (firstN k k p) (firstN k k q)) (k + 1) = detZ M (k + 1) := detZ_congr fun i j hi hj => by rw [firstN_same hi, firstN_same hj]
      rw [hdet] at hr5 ⊢
      obtain ⟨d, hd⟩ : ∃ d, d = detZ M (k + 1) := ⟨_, rfl⟩
      rw [← hd] at hr5 ⊢
      have HD := Lib.hid hd
      obtain ⟨W, hW⟩ : ∃ W, W = w5.alloc (.cells #[.bool (sg d), .slice a5 (mg d).length c5] 33) := ⟨_, rfl⟩
      have hbW : Below w5.heap.size w5 W := by rw [hW]; exact (Below.refl _ _).alloc (Nat.le_refl _) _
      have hBx : Box w5.heap.size (.bool (sg d)) (.slice a5 (mg d).length c5) W := by rw [hW]; exact Box.made _ _ rfl _ _ _
      have HB5 : Below wr.heap.size wr w5 := HB4.out.trans (hb5.mono HB4.out.size)
      have HBW : Below wr.heap.size wr W := HB5.trans (hbW.mono HB5.size)
      have hRW : Hid (RowB W w.heap.size u6 k (fun k => detZ M (k + 1))) := hR.out.moved HBW
      have hBW : Hid (Below w.heap.size w W) := hB.out.trans (HBW.mono hB.out.size)
      have hc0 := Lib.hid hBx.c0
      have hc1 := Lib.hid hBx.c1
      have hL := Lib.hid (hr5.below hbW)
      have hWW : Hid (w5.alloc (.cells #[.bool (sg d), .slice a5 (mg d).length c5] 33) = W) := hW.symm
      clear hW hbW hBx HB5 HBW hr5 hb5 HM4 HB4 hdet hd
      go_wp2_with (at_builtin; rw [hWW.out]; refine app_Z rfl _ _ rfl w.heap.size _ k (fun k => detZ M (k + 1)) rfl hRW.out w5.heap.size _ rfl d a5 c5 hc0.out hc1.out hL.out (by omega) hBW.out.size ?_)
      intro g9 cap9 w9 q1 q2 q3 q4
      have hnx : Hid (RowB w9 w.heap.size (.slice (some ⟨g9, 0, none⟩) (k + 1) cap9) (k + 1) (fun k => detZ M (k + 1))) := q1.congr fun t ht => by
        by_cases e : t = k
        · rw [if_pos e, e, HD.out]
        · rw [if_neg e]
      have hbx : Hid (Below w.heap.size w w9) := by
        obtain ⟨A, C, ho, _⟩ := hRW.out
        exact below_app hBW.out ho q2
      clear q1 q2 q3 q4 hRW hc0 hc1 hL
      go_wp2_with fail
      go_roundw
      case rel => exact ⟨k + 1, by omega, by go_num, hnx, hbx⟩
      case measure => simp [intOf]; omega
    · obtain rfl : k = n := by omega
      obtain ⟨g5, cap5, hv5, _, hr5, _⟩ := hR.out.done h1
      subst hv5
      have HR5 := Lib.hid hr5
      clear hr5 hR
      go_wp2_with fail
      go_ret2
      exact ⟨g5, cap5, rfl, HR5.out, hB.out⟩
end Go.Proofs.YtpnnbjifhoonkaaGreat
namespace Go.Proofs.YtpnnbjifhoonkaaGreat
open Go.RowKit Minor

theorem cmpZ_ne (x y : Int) : (cmpZ x y != 0) = decide (x ≠ y) := by
  unfold cmpZ
  by_cases h : x < y
  · rw [if_pos h, decide_eq_true (by omega)]; rfl
  · rw [if_neg h]
    by_cases h2 : y < x
    · rw [if_pos h2, decide_eq_true (by omega)]; rfl
    · rw [if_neg h2, decide_eq_false (by omega)]; rfl
theorem cmpZ_le (x y : Int) : decide (cmpZ x y ≤ 0) = decide (x ≤ y) := by
  unfold cmpZ
  by_cases h : x < y
  · rw [if_pos h, decide_eq_true (p := x ≤ y) (by omega)]; rfl
  · rw [if_neg h]
    by_cases h2 : y < x
    · rw [if_pos h2, decide_eq_false (p := x ≤ y) (by omega)]; rfl
    · rw [if_neg h2, decide_eq_true (p := x ≤ y) (by omega)]; rfl
theorem cmpZ_ge (x y : Int) : decide (0 ≤ cmpZ x y) = decide (y ≤ x) := by
  unfold cmpZ
  by_cases h : x < y
  · rw [if_pos h, decide_eq_false (p := y ≤ x) (by omega)]; rfl
  · rw [if_neg h]
    by_cases h2 : y < x
    · rw [if_pos h2, decide_eq_true (p := y ≤ x) (by omega)]; rfl
    · rw [if_neg h2, decide_eq_true (p := y ≤ x) (by omega)]; rfl
theorem sign3_le (x : Int) : decide (sign3 x ≤ 0) = decide (x ≤ 0) := by
  unfold sign3
  by_cases h : x < 0
  · rw [if_pos h, decide_eq_true (p := x ≤ 0) (by omega)]; rfl
  · rw [if_neg h]
    by_cases h2 : x = 0
    · rw [if_pos h2, decide_eq_true (p := x ≤ 0) (by omega)]; rfl
    · rw [if_neg h2, decide_eq_false (p := x ≤ 0) (by omega)]; rfl

/-- The first n rows and columns are symmetric. -/
def SymN (M : Nat → Nat → Int) (n : Nat) : Prop := ∀ i j, i < n → j < i → M i j = M j i

set_option maxRecDepth 100000 in
set_option maxHeartbeats 4000000 in
theorem rsymmetric_any (g n cap : Nat) (R : Nat → Nat) (M : Nat → Nat → Int) (w : World) (hM : MatZ w g n n R M) (hn : n ≤ 100) (hs : ∀ i j, i < n → j < n → (M i j).natAbs ≤ cB 0) :
    Calls Tryz.prog 62 #[.slice (some ⟨g, 0, none⟩) n cap] w fun e w' => ∃ r : Bool, e = .returned (.bool r) ∧ (r = true ↔ SymN M n) ∧ Below w.heap.size w w' := by
  have HM := Lib.hid hM
  have HS := Lib.hid hs
  clear hM hs
  go_enter Tryz.func62, Tryz.ntmps62
  go_wp2_with fail
  go_loopw [7] (fun ii wr => ∃ i : Nat, i ≤ n ∧ ii = .int .i64 (i : Int) ∧ Hid (SymN M i) ∧ Hid (Below w.heap.size w wr)) (fun ii _ => n - (intOf ii).toNat)
  case atStart => exact ⟨0, by omega, rfl, fun i j hi => by omega, Below.refl _ _⟩
  case round =>
    obtain ⟨i, hin, rfl, hY, hB⟩ := hrel
    by_cases hi : i < n
    · go_wp2_with fail
      go_loopw [4] (fun jj wq => ∃ j : Nat, j ≤ i ∧ jj = .int .i64 (j : Int) ∧ Hid (∀ q, q < j → M i q = M q i) ∧ Hid (Below w.heap.size w wq)) (fun jj _ => i - (intOf jj).toNat)
      case atStart => exact ⟨0, by omega, rfl, fun q hq => by omega, hB⟩
      case round =>
        obtain ⟨j, hji, rfl, hZ, hB2⟩ := hrel
        clear hB
        by_cases hj : j < i
        · have hMr := HM.out.below hB2.out
          obtain ⟨c1, a1, d1, o1, x1, y1, r1⟩ := hMr.entry i j hi (by omega)
          obtain ⟨c2, a2, d2, o2, x2, y2, r2⟩ := hMr.entry j i (by omega) hi
          obtain ⟨v1, hv1⟩ : ∃ v, v = M i j := ⟨_, rfl⟩
          obtain ⟨v2, hv2⟩ : ∃ v, v = M j i := ⟨_, rfl⟩
          have hl1 : Hid ((mg v1).length ≤ 1000000) := by unfold Hid; rw [hv1]; exact cB_short (k := 0) (by omega) (HS.out i j hi (by omega))
          have hl2 : Hid ((mg v2).length ≤ 1000000) := by unfold Hid; rw [hv2]; exact cB_short (k := 0) (by omega) (HS.out j i (by omega) hi)
          rw [← hv1] at x1 y1 r1
          rw [← hv2] at x2 y2 r2
          have HV1 := Lib.hid hv1
          have HV2 := Lib.hid hv2
          have hR1 : Hid (∀ w', Below wr.heap.size wr w' → Lm w' a1 d1 (mg v1)) := fun w' h => r1.below h
          have hR2 : Hid (∀ w', Below wr.heap.size wr w' → Lm w' a2 d2 (mg v2)) := fun w' h => r2.below h
          have hK : Hid (∀ w', Below wr.heap.size wr w' → w'.cell? ⟨g, i, none⟩ = some (.slice (some ⟨R i, 0, none⟩) n c1) ∧ w'.cell? ⟨g, j, none⟩ = some (.slice (some ⟨R j, 0, none⟩) n c2) ∧ w'.cell? ⟨R i, j * 2, none⟩ = some (.bool (sg v1)) ∧ w'.cell? ⟨R i, j * 2 + 1, none⟩ = some (.slice a1 (mg v1).length d1) ∧ w'.cell? ⟨R j, i * 2, none⟩ = some (.bool (sg v2)) ∧ w'.cell? ⟨R j, i * 2 + 1, none⟩ = some (.slice a2 (mg v2).length d2)) :=
            fun w' h => ⟨cell_keep h o1, cell_keep h o2, cell_keep h x1, cell_keep h y1, cell_keep h x2, cell_keep h y2⟩
          have hbD : Below wr.heap.size wr wr.drew := (Below.refl _ _).drew
          have z1 : (0 : Int) ≤ (i : Int) := by omega
          have z2 : (0 : Int) ≤ (j : Int) := by omega
          have z3 : (i : Int) < (n : Int) := by omega
          have z4 : (j : Int) < (n : Int) := by omega
          have hcz := cmpZ_ne v1 v2
          clear hMr r1 r2 hv1 hv2
          by_cases heq : v1 = v2
          · rw [decide_eq_false (by simpa using heq)] at hcz
            have hnx : Hid (∀ q, q < j + 1 → M i q = M q i) := fun q hq => by
              by_cases e : q = j
              · rw [e, ← HV1.out, ← HV2.out]; exact heq
              · exact hZ.out q (by omega)
            clear heq
            go_wp2_with fail
            go_region_held3 (fun w' => w'.cell? ⟨g, i, none⟩ = some (.slice (some ⟨R i, 0, none⟩) n c1) ∧ w'.cell? ⟨g, j, none⟩ = some (.slice (some ⟨R j, 0, none⟩) n c2) ∧ w'.cell? ⟨R i, j * 2, none⟩ = some (.bool (sg v1)) ∧ w'.cell? ⟨R i, j * 2 + 1, none⟩ = some (.slice a1 (mg v1).length d1) ∧ w'.cell? ⟨R j, i * 2, none⟩ = some (.bool (sg v2)) ∧ w'.cell? ⟨R j, i * 2 + 1, none⟩ = some (.slice a2 (mg v2).length d2))
              (first | with_reducible exact hK.out _ hbD | with_reducible exact hK.out _ hbC)
              ((first
                | (go_at_call 64; refine (cmpZZ (hR1.out _ hbD) (hR2.out _ hbD) hl1.out hl2.out).mono ?_; rintro e w5 ⟨rfl, hb5⟩; have hbC : Below wr.heap.size wr w5 := hbD.trans (hb5.mono hbD.size))))
            have hB5 : Hid (Below w.heap.size w w5) := hB2.out.trans (hbC.mono hB2.out.size)
            clear hb5 hbC hbD o1 o2 x1 y1 x2 y2
            go_wp2_with fail
            go_roundw
            case rel => exact ⟨j + 1, by omega, by go_num, hnx, hB5⟩
            case measure => simp [intOf]; omega
          · rw [decide_eq_true (by simpa using heq)] at hcz
            have hno : Hid (¬SymN M n) := fun h => heq (by rw [HV1.out, HV2.out]; exact h i j hi hj)
            clear heq
            go_wp2_with fail
            go_region_held3 (fun w' => w'.cell? ⟨g, i, none⟩ = some (.slice (some ⟨R i, 0, none⟩) n c1) ∧ w'.cell? ⟨g, j, none⟩ = some (.slice (some ⟨R j, 0, none⟩) n c2) ∧ w'.cell? ⟨R i, j * 2, none⟩ = some (.bool (sg v1)) ∧ w'.cell? ⟨R i, j * 2 + 1, none⟩ = some (.slice a1 (mg v1).length d1) ∧ w'.cell? ⟨R j, i * 2, none⟩ = some (.bool (sg v2)) ∧ w'.cell? ⟨R j, i * 2 + 1, none⟩ = some (.slice a2 (mg v2).length d2))
              (first | with_reducible exact hK.out _ hbD | with_reducible exact hK.out _ hbC)
              ((first
                | (go_at_call 64; refine (cmpZZ (hR1.out _ hbD) (hR2.out _ hbD) hl1.out hl2.out).mono ?_; rintro e w5 ⟨rfl, hb5⟩; have hbC : Below wr.heap.size wr w5 := hbD.trans (hb5.mono hbD.size))))
            have hB5 : Hid (Below w.heap.size w w5) := hB2.out.trans (hbC.mono hB2.out.size)
            clear hb5 hbC hbD o1 o2 x1 y1 x2 y2
            go_wp2_with fail
            go_ret
            exact ⟨false, rfl, ⟨fun h => by simp at h, fun h => absurd h hno.out⟩, hB5.out⟩
        · obtain rfl : j = i := by omega
          have hnx : Hid (SymN M (j + 1)) := fun p q hp hq => by
            by_cases e : p = j
            · rw [e]; exact hZ.out q (by omega)
            · exact hY.out p q (by omega) hq
          go_wp2_with fail
          go_roundw
          case rel => exact ⟨j + 1, by omega, by go_num, hnx, hB2⟩
          case measure => simp [intOf]; omega
    · obtain rfl : i = n := by omega
      go_wp2_with fail
      go_ret
      exact ⟨true, rfl, ⟨fun _ => hY.out, fun _ => rfl⟩, hB.out⟩

/-- How great the minors can be. -/
theorem detP_bound {n : Nat} : ∀ (r k : Nat) (M : Nat → Nat → Int) (last : Int) (neg : Bool), r + k = n → (∀ i j, i < n → j < n → (M i j).natAbs ≤ cB k) → last.natAbs ≤ cB k → (detP n r k M last neg).natAbs ≤ cB n
  | 0, k, M, last, neg, hk, _, hl => by
    obtain rfl : k = n := by omega
    unfold detP
    split <;> omega
  | r + 1, k, M, last, neg, hk, hM, hl => by
    have hkn : k < n := by omega
    have hb := seek_le M k (n - k) k
    unfold detP
    by_cases e : seek M k (n - k) k = n
    · rw [if_pos e]; simp
    · rw [if_neg e]
      have hp : seek M k (n - k) k < n := by omega
      have hst : ∀ M' : Nat → Nat → Int, (∀ i j, i < n → j < n → (M' i j).natAbs ≤ cB k) → ∀ i j, i < n → j < n → (elim M' n k last i j).natAbs ≤ cB (k + 1) := fun M' h i j hi hj => by
        have h1 := elim_bound (last := last) h (cB_pos k) hkn i j hi hj
        rwa [cB_step] at h1
      have hle := cB_le k
      by_cases e2 : k < seek M k (n - k) k
      · rw [if_pos e2]
        refine detP_bound r (k + 1) _ _ _ (by omega) (hst _ fun i j hi hj => ?_) (Nat.le_trans (hM _ k hp hkn) hle)
        have := bound_sw hM hp hkn i j hi hj
        unfold swM at this
        rwa [if_pos e2] at this
      · rw [if_neg e2]
        exact detP_bound r (k + 1) _ _ _ (by omega) (hst _ hM) (Nat.le_trans (hM k k hkn hkn) hle)

theorem detZ_short {M : Nat → Nat → Int} {n : Nat} (hn : n ≤ 8) (hs : ∀ i j, i < n → j < n → (M i j).natAbs ≤ cB 0) : (detZ M n).natAbs ≤ cB n :=
  detP_bound n 0 M 1 false (by omega) hs (cB_pos 0)

set_option maxRecDepth 100000 in
set_option maxHeartbeats 4000000 in
theorem rdefinite_any (g n cap : Nat) (R : Nat → Nat) (M : Nat → Nat → Int) (w : World) (hM : MatZ w g n n R M) (h1 : 1 ≤ n) (h2 : n ≤ 8) (hs : ∀ i j, i < n → j < n → (M i j).natAbs ≤ cB 0) :
    Calls Tryz.prog 63 #[.slice (some ⟨g, 0, none⟩) n cap] w fun e w' => ∃ r : Bool, e = .returned (.bool r) ∧ (r = true ↔ SymN M n ∧ ∀ k, k < n → 0 < detZ M (k + 1)) ∧ Below w.heap.size w w' := by
  have HM := Lib.hid hM
  have HS := Lib.hid hs
  clear hM hs
  go_enter Tryz.func63, Tryz.ntmps63
  go_wp2_with fail
  refine (rleading_any g n cap R M _ HM.out h1 h2 HS.out).mono ?_
  rintro e w1 ⟨b, c, rfl, hr, hb1⟩
  have HR := Lib.hid hr
  have HB1 := Lib.hid hb1
  have HM1 : Hid (MatZ w1 g n n R M) := HM.out.below hb1
  clear hr hb1
  go_wp2_with fail
  refine (rsymmetric_any g n cap R M _ HM1.out (by omega) HS.out).mono ?_
  rintro e w2 ⟨r, rfl, hsy, hb2⟩
  have HR2 := Lib.hid (HR.out.belowU hb2)
  have HB2 : Hid (Below w.heap.size w w2) := HB1.out.trans (hb2.mono HB1.out.size)
  clear hb2 HR HM1
  cases r with
  | false =>
    have hno : Hid (¬SymN M n) := fun h => by have := hsy.2 h; simp at this
    clear hsy
    go_wp2_with fail
    go_ret
    exact ⟨false, rfl, ⟨fun h => by simp at h, fun h => absurd h.1 hno.out⟩, HB2.out⟩
  | true =>
    have HY : Hid (SymN M n) := hsy.1 rfl
    clear hsy
    go_wp2_with fail
    go_loopw [21] (fun kk wr => ∃ k : Nat, k ≤ n ∧ kk = .int .i64 (k : Int) ∧ Hid (∀ q, q < k → 0 < detZ M (q + 1)) ∧ Hid (Below w2.heap.size w2 wr)) (fun kk _ => n - (intOf kk).toNat)
    case atStart => exact ⟨0, by omega, rfl, fun q hq => by omega, Below.refl _ _⟩
    case round =>
      obtain ⟨k, hkn, rfl, hP, hB⟩ := hrel
      by_cases hk : k < n
      · obtain ⟨a3, d3, x3, y3, r3⟩ := (HR2.out.belowU hB.out).c k hk
        obtain ⟨x, hx⟩ : ∃ x, x = detZ M (k + 1) := ⟨_, rfl⟩
        rw [← hx] at x3 y3 r3
        have hsh : Hid ((mg x).length ≤ 1000000) := by
          unfold Hid; rw [hx]
          exact cB_short (k := k + 1) (by omega) (detZ_short (by omega) fun i j hi hj => HS.out i j (by omega) (by omega))
        have HX := Lib.hid hx
        obtain ⟨V, hV⟩ : ∃ V, V = wr.alloc (.cells #[.bool (sg x), .slice a3 (mg x).length d3] 33) := ⟨_, rfl⟩
        have hbV : Below wr.heap.size wr V := by rw [hV]; exact (Below.refl _ _).alloc (Nat.le_refl _) _
        have HL := Lib.hid (r3.below hbV)
        have HBV : Hid (Below w2.heap.size w2 V) := hB.out.trans (hbV.mono hB.out.size)
        have hVV : Hid (wr.alloc (.cells #[.bool (sg x), .slice a3 (mg x).length d3] 33) = V) := hV.symm
        clear hV hbV r3 hx hB
        go_wp2_with fail
        rw [hVV.out]
        refine (signZ HL.out hsh.out).mono ?_
        rintro e w5 ⟨rfl, hb5⟩
        have HB5 : Hid (Below w2.heap.size w2 w5) := HBV.out.trans (hb5.mono HBV.out.size)
        have hsl := sign3_le x
        clear hb5 x3 y3
        by_cases hx0 : x ≤ 0
        · rw [decide_eq_true hx0] at hsl
          have hno : Hid (¬∀ k, k < n → 0 < detZ M (k + 1)) := fun h => by
            have := h k hk
            rw [← HX.out] at this
            omega
          clear hx0
          go_wp2_with fail
          go_ret
          exact ⟨false, rfl, ⟨fun h => by simp at h, fun h => absurd h.2 hno.out⟩, HB2.out.trans (HB5.out.mono HB2.out.size)⟩
        · rw [decide_eq_false hx0] at hsl
          have hnx : Hid (∀ q, q < k + 1 → 0 < detZ M (q + 1)) := fun q hq => by
            by_cases e : q = k
            · rw [e, ← HX.out]; omega
            · exact hP.out q (by omega)
          clear hx0
          go_wp2_with fail
          go_roundw
          case rel => exact ⟨k + 1, by omega, by go_num, hnx, HB5⟩
          case measure => simp [intOf]; omega
      · obtain rfl : k = n := by omega
        go_wp2_with fail
        go_ret
        exact ⟨true, rfl, ⟨fun _ => ⟨HY.out, hP.out⟩, fun _ => rfl⟩, HB2.out.trans (hB.out.mono HB2.out.size)⟩

set_option maxRecDepth 100000 in
set_option maxHeartbeats 4000000 in
theorem rvalidate_any (g n m cap : Nat) (R : Nat → Nat) (M : Nat → Nat → Int) (w : World) (hM : MatZ w g n m R M) (h1 : 1 ≤ n) (h2 : n ≤ 16) (h3 : 1 ≤ m) (h4 : m ≤ 16) (hs : ∀ i j, i < n → j < m → (M i j).natAbs ≤ cB 0) :
    Calls Tryz.prog 43 #[.slice (some ⟨g, 0, none⟩) n cap] w fun e w' => ∃ r : Int, e = .returned (.int .i64 r) ∧ (r = 0 ↔ n = m ∧ n ≤ 8 ∧ SymN M n ∧ ∀ k, k < n → 0 < detZ M (k + 1)) ∧ Below w.heap.size w w' := by
  have HM := Lib.hid hM
  have HS := Lib.hid hs
  clear hM hs
  by_cases hnm : n = m
  · subst hnm
    have q1 : sqN n n = n := if_pos rfl
    have q2 : sqB n n = true := decide_eq_true rfl
    have HQ1 := Lib.hid q1
    have HQ2 := Lib.hid q2
    clear q1 q2
    by_cases h8 : n ≤ 8
    · have d8 : decide ((8 : Int) < (n : Int)) = false := decide_eq_false (by omega)
      go_enter Tryz.func43, Tryz.ntmps43
      go_wp2_with fail
      refine (rsquare_any g n n cap R M _ HM.out h1 h2 h1 h2).mono ?_
      rintro e w1 ⟨rfl, hb1⟩
      rw [HQ1.out, HQ2.out]
      have HB1 := Lib.hid hb1
      have HM1 : Hid (MatZ w1 g n n R M) := HM.out.below hb1
      clear hb1
      go_wp2_with fail
      refine (rsymmetric_any g n cap R M _ HM1.out (by omega) HS.out).mono ?_
      rintro e w2 ⟨r, rfl, hsy, hb2⟩
      have HB2 : Hid (Below w.heap.size w w2) := HB1.out.trans (hb2.mono HB1.out.size)
      have HM2 : Hid (MatZ w2 g n n R M) := HM1.out.below hb2
      clear hb2 HM1
      cases r with
      | false =>
        have hno : Hid (¬SymN M n) := fun h => by have := hsy.2 h; simp at this
        clear hsy
        go_wp2_with fail
        go_ret
        exact ⟨4, rfl, ⟨fun h => by omega, fun h => absurd h.2.2.1 hno.out⟩, HB2.out⟩
      | true =>
        have HY : Hid (SymN M n) := hsy.1 rfl
        clear hsy
        go_wp2_with fail
        refine (rdefinite_any g n cap R M _ HM2.out h1 h8 HS.out).mono ?_
        rintro e w3 ⟨r, rfl, hde, hb3⟩
        have HB3 : Hid (Below w.heap.size w w3) := HB2.out.trans (hb3.mono HB2.out.size)
        clear hb3
        cases r with
        | false =>
          have hno : Hid (¬∀ k, k < n → 0 < detZ M (k + 1)) := fun h => by have := hde.2 ⟨HY.out, h⟩; simp at this
          clear hde
          go_wp2_with fail
          go_ret
          exact ⟨5, rfl, ⟨fun h => by omega, fun h => absurd h.2.2.2 hno.out⟩, HB3.out⟩
        | true =>
          have HD : Hid (∀ k, k < n → 0 < detZ M (k + 1)) := (hde.1 rfl).2
          clear hde
          go_wp2_with fail
          go_ret
          exact ⟨0, rfl, ⟨fun _ => ⟨by trivial, h8, HY.out, HD.out⟩, fun _ => rfl⟩, HB3.out⟩
    · have d8 : decide ((8 : Int) < (n : Int)) = true := decide_eq_true (by omega)
      go_enter Tryz.func43, Tryz.ntmps43
      go_wp2_with fail
      refine (rsquare_any g n n cap R M _ HM.out h1 h2 h1 h2).mono ?_
      rintro e w1 ⟨rfl, hb1⟩
      rw [HQ1.out, HQ2.out]
      have HB1 := Lib.hid hb1
      clear hb1
      go_wp2_with fail
      go_ret
      exact ⟨3, rfl, ⟨fun h => by omega, fun h => absurd h.2.1 h8⟩, HB1.out⟩
  · have q1 : sqN n m = 0 := if_neg hnm
    have q2 : sqB n m = false := decide_eq_false hnm
    have HQ1 := Lib.hid q1
    have HQ2 := Lib.hid q2
    have HNM := Lib.hid hnm
    clear q1 q2 hnm
    go_enter Tryz.func43, Tryz.ntmps43
    go_wp2_with fail
    refine (rsquare_any g n m cap R M _ HM.out h1 h2 h3 h4).mono ?_
    rintro e w1 ⟨rfl, hb1⟩
    rw [HQ1.out, HQ2.out]
    have HB1 := Lib.hid hb1
    clear hb1
    go_wp2_with fail
    go_ret
    exact ⟨3, rfl, ⟨fun h => by omega, fun h => absurd h.1 HNM.out⟩, HB1.out⟩
end Go.Proofs.YtpnnbjifhoonkaaGreat
namespace Go.Proofs.YtpnnbjifhoonkaaGreat
open Go.RowKit Minor

/-- The determinant of the rows 0 .. j-1, i and the columns 0 .. j, as the reference reckons it. -/
def lamZ (M : Nat → Nat → Int) (i j : Nat) : Int := detZ (fun p q => if p < j then M p q else M i q) (j + 1)

/-- TwoN lists of numbers in blocks apart. -/
structure TwoN (w : World) (B : Nat) (v u : Value) (k l : Nat) : Prop where
  a : NumB w B v k (fun p => p)
  b : NumB w B u l (fun p => p)
  far : ∀ x, v.ownBlock = some x → u.ownBlock ≠ some x

theorem TwoN.moved {w w' : World} {B k l : Nat} {v u : Value} (h : TwoN w B v u k l) (hb : Below w.heap.size w w') : TwoN w' B v u k l := ⟨h.a.moved hb, h.b.moved hb, h.far⟩

theorem NumB.lt' {w : World} {B k x : Nat} {v : Value} {xs : Nat → Nat} (h : NumB w B v k xs) (hx : v.ownBlock = some x) : x < w.heap.size := by
  obtain ⟨_, cur, hc⟩ := ownsRow_type h x hx
  exact (Array.getElem?_eq_some_iff.1 hc).1

theorem TwoN.left {w w' : World} {B k l g cap : Nat} {v u : Value} {xs : Nat → Nat} (h : TwoN w B v u k l) (hn : NumB w' B (.slice (some ⟨g, 0, none⟩) (k + 1) cap) (k + 1) xs) (hxs : ∀ p, p < k + 1 → xs p = p) (hg : w.grownBy w' v.ownBlock) (hat : v.ownBlock = some g ∨ g = w.heap.size) :
    TwoN w' B (.slice (some ⟨g, 0, none⟩) (k + 1) cap) u (k + 1) l := by
  refine ⟨hn.congr hxs, ownsRow_of_heap h.b fun x hx => hg.block x (h.b.lt' hx) fun e => h.far x e.symm hx, fun x hx e => ?_⟩
  simp only [Value.ownBlock, Option.some.injEq] at hx
  subst hx
  rcases hat with h1 | h1
  · exact h.far g h1 e
  · have := h.b.lt' e
    omega

theorem TwoN.swap {w : World} {B k l : Nat} {v u : Value} (h : TwoN w B v u k l) : TwoN w B u v l k := ⟨h.b, h.a, fun x hx e => h.far x e hx⟩

/-- A list that stands while another one grows. -/
theorem RdN.grown {w w' : World} {b n : Nat} {xs : Nat → Nat} (h : RdN w b n xs) {row : Option Nat} (hg : w.grownBy w' row) (hne : row ≠ some b) : RdN w' b n xs := by
  have hb : w'.heap[b]? = w.heap[b]? := hg.block b h.lt (fun e => hne e.symm)
  exact ⟨fun p hp => (World.cell?_of_block (w := w) (a := ⟨b, p, none⟩) hb).trans (h.c p hp), Nat.lt_of_lt_of_le h.lt hg.size⟩

set_option maxRecDepth 100000 in
set_option maxHeartbeats 4000000 in
theorem rlambda_any (g n cap i j : Nat) (R : Nat → Nat) (M : Nat → Nat → Int) (w : World) (hM : MatZ w g n n R M) (h2 : n ≤ 8) (hi : i < n) (hj : j < n) (hs : ∀ i j, i < n → j < n → (M i j).natAbs ≤ cB 0) :
    Calls Tryz.prog 86 #[.slice (some ⟨g, 0, none⟩) n cap, .int .i64 (i : Int), .int .i64 (j : Int)] w (GivesZ w (lamZ M i j)) := by
  obtain ⟨W, hW⟩ : ∃ W, W = w.alloc (.cells #[.bool false, .slice none 0 0] 33) := ⟨_, rfl⟩
  have hbW : Below w.heap.size w W := by rw [hW]; exact (Below.refl _ _).alloc (Nat.le_refl _) _
  have hres : Hid (Box w.heap.size (.bool false) (.slice none 0 0) W) := by rw [hW]; exact Box.made _ _ rfl _ _ _
  have HM : Hid (MatZ W g n n R M) := hM.below hbW
  have HWW : Hid (w.alloc (.cells #[.bool false, .slice none 0 0] 33) = W) := hW.symm
  have HBW := Lib.hid hbW
  have HS := Lib.hid hs
  clear hW hbW hM hs
  go_enter Tryz.func86, Tryz.ntmps86
  go_wp2_with fail
  rw [HWW.out]
  go_loopw [7, 8, 9] (fun rr cc kk wr => ∃ k : Nat, k ≤ j ∧ kk = .int .i64 (k : Int) ∧ Hid (TwoN wr W.heap.size rr cc k k) ∧ Hid (Below W.heap.size W wr)) (fun _ _ kk _ => j - (intOf kk).toNat)
  case atStart => exact ⟨0, by omega, rfl, ⟨World.ownsRow_nil _ _ _ _, World.ownsRow_nil _ _ _ _, fun x hx => by simp [Value.ownBlock] at hx⟩, Below.refl _ _⟩
  case round =>
    obtain ⟨k, hkj, rfl, hT, hB⟩ := hrel
    by_cases hk : k < j
    · obtain ⟨V, hV⟩ : ∃ V, V = wr.alloc (.cells #[.int .i64 (k : Int)] 3) := ⟨_, rfl⟩
      have hbV : Below wr.heap.size wr V := by rw [hV]; exact (Below.refl _ _).alloc (Nat.le_refl _) _
      have hTV := Lib.hid (hT.out.moved hbV)
      have hNV : Hid (NumB V W.heap.size u7 k (fun p => p)) := hTV.out.a
      have hBV : Hid (Below W.heap.size W V) := hB.out.trans (hbV.mono hB.out.size)
      have hcV : Hid (V.cell? ⟨wr.heap.size, 0, none⟩ = some (.int .i64 (k : Int))) := by unfold Hid; rw [hV]; simp [go_sem]
      have hVV : Hid (wr.alloc (.cells #[.int .i64 (k : Int)] 3) = V) := hV.symm
      clear hV hbV
      go_wp2_with (at_builtin; rw [hVV.out]; refine app_num rfl _ _ rfl W.heap.size _ k (fun p => p) rfl hNV.out wr.heap.size _ rfl k hcV.out (by omega) hBV.out.size ?_)
      intro g3 cap3 w3 q1 q2 q3 q4
      have hb3 : Hid (Below W.heap.size W w3) := below_app hBV.out hNV.out q2
      have hT3 : Hid (TwoN w3 W.heap.size (.slice (some ⟨g3, 0, none⟩) (k + 1) cap3) u8 (k + 1) k) := hTV.out.left q1 (fun p hp => by
        by_cases e : p = k
        · rw [if_pos e, e]
        · rw [if_neg e]) q2 q3
      clear q1 q2 q3 q4 hTV hNV hBV hcV
      obtain ⟨V2, hV2⟩ : ∃ V, V = w3.alloc (.cells #[.int .i64 (k : Int)] 3) := ⟨_, rfl⟩
      have hbV2 : Below w3.heap.size w3 V2 := by rw [hV2]; exact (Below.refl _ _).alloc (Nat.le_refl _) _
      have hTV2 := Lib.hid (hT3.out.moved hbV2).swap
      have hNV2 : Hid (NumB V2 W.heap.size u8 k (fun p => p)) := hTV2.out.a
      have hBV2 : Hid (Below W.heap.size W V2) := hb3.out.trans (hbV2.mono hb3.out.size)
      have hcV2 : Hid (V2.cell? ⟨w3.heap.size, 0, none⟩ = some (.int .i64 (k : Int))) := by unfold Hid; rw [hV2]; simp [go_sem]
      have hVV2 : Hid (w3.alloc (.cells #[.int .i64 (k : Int)] 3) = V2) := hV2.symm
      clear hV2 hbV2
      go_wp2_with (at_builtin; rw [hVV2.out]; refine app_num rfl _ _ rfl W.heap.size _ k (fun p => p) rfl hNV2.out w3.heap.size _ rfl k hcV2.out (by omega) hBV2.out.size ?_)
      intro g5 cap5 w5 q1 q2 q3 q4
      have hb5 : Hid (Below W.heap.size W w5) := below_app hBV2.out hNV2.out q2
      have hT5 : Hid (TwoN w5 W.heap.size (.slice (some ⟨g3, 0, none⟩) (k + 1) cap3) (.slice (some ⟨g5, 0, none⟩) (k + 1) cap5) (k + 1) (k + 1)) := (hTV2.out.left q1 (fun p hp => by
        by_cases e : p = k
        · rw [if_pos e, e]
        · rw [if_neg e]) q2 q3).swap
      clear q1 q2 q3 q4 hTV2 hNV2 hBV2 hcV2 hT3 hb3
      go_wp2_with fail
      go_roundw
      case rel => exact ⟨k + 1, by omega, by go_num, hT5, hb5⟩
      case measure => simp [intOf]; omega
    · obtain rfl : k = j := by omega
      obtain ⟨V, hV⟩ : ∃ V, V = wr.alloc (.cells #[.int .i64 (i : Int)] 3) := ⟨_, rfl⟩
      have hbV : Below wr.heap.size wr V := by rw [hV]; exact (Below.refl _ _).alloc (Nat.le_refl _) _
      have hTV := Lib.hid (hT.out.moved hbV)
      have hNV : Hid (NumB V W.heap.size u7 k (fun p => p)) := hTV.out.a
      have hBV : Hid (Below W.heap.size W V) := hB.out.trans (hbV.mono hB.out.size)
      have hcV : Hid (V.cell? ⟨wr.heap.size, 0, none⟩ = some (.int .i64 (i : Int))) := by unfold Hid; rw [hV]; simp [go_sem]
      have hVV : Hid (wr.alloc (.cells #[.int .i64 (i : Int)] 3) = V) := hV.symm
      clear hV hbV
      go_wp2_with (at_builtin; rw [hVV.out]; refine app_num rfl _ _ rfl W.heap.size _ k (fun p => p) rfl hNV.out wr.heap.size _ rfl i hcV.out (by omega) hBV.out.size ?_)
      intro g3 cap3 w3 q1 q2 q3 q4
      have hb3 : Hid (Below W.heap.size W w3) := below_app hBV.out hNV.out q2
      have hN8 : Hid (NumB w3 W.heap.size u8 k (fun p => p)) := ownsRow_of_heap hTV.out.b fun x hx => q2.block x (hTV.out.b.lt' hx) fun e => hTV.out.far x e.symm hx
      have hne8 : Hid (u8.ownBlock ≠ some g3) := fun e => by
        rcases q3 with h | h
        · exact hTV.out.far g3 h e
        · have := hTV.out.b.lt' e
          omega
      obtain ⟨g3', cap3', he, hr3⟩ := NumB.done q1 (by omega)
      simp only [Value.slice.injEq, Option.some.injEq, Addr.mk.injEq, and_true, true_and] at he
      obtain ⟨rfl, rfl⟩ := he
      have HR3 := Lib.hid hr3
      clear q1 q2 q3 q4 hTV hNV hBV hcV hr3
      obtain ⟨V2, hV2⟩ : ∃ V, V = w3.alloc (.cells #[.int .i64 (k : Int)] 3) := ⟨_, rfl⟩
      have hbV2 : Below w3.heap.size w3 V2 := by rw [hV2]; exact (Below.refl _ _).alloc (Nat.le_refl _) _
      have hNV2 : Hid (NumB V2 W.heap.size u8 k (fun p => p)) := hN8.out.moved hbV2
      have HR3' := Lib.hid (HR3.out.below hbV2)
      have hBV2 : Hid (Below W.heap.size W V2) := hb3.out.trans (hbV2.mono hb3.out.size)
      have hcV2 : Hid (V2.cell? ⟨w3.heap.size, 0, none⟩ = some (.int .i64 (k : Int))) := by unfold Hid; rw [hV2]; simp [go_sem]
      have hVV2 : Hid (w3.alloc (.cells #[.int .i64 (k : Int)] 3) = V2) := hV2.symm
      clear hV2 hbV2 HR3 hN8
      go_wp2_with (at_builtin; rw [hVV2.out]; refine app_num rfl _ _ rfl W.heap.size _ k (fun p => p) rfl hNV2.out w3.heap.size _ rfl k hcV2.out (by omega) hBV2.out.size ?_)
      intro g5 cap5 w5 q1 q2 q3 q4
      have hb5 : Hid (Below W.heap.size W w5) := below_app hBV2.out hNV2.out q2
      have HR3 := Lib.hid (HR3'.out.grown q2 hne8.out)
      obtain ⟨g5', cap5', he, hr5⟩ := NumB.done q1 (by omega)
      simp only [Value.slice.injEq, Option.some.injEq, Addr.mk.injEq, and_true, true_and] at he
      obtain ⟨rfl, rfl⟩ := he
      have HR5 := Lib.hid hr5
      have HM5 : Hid (MatZ w5 g n n R M) := HM.out.below hb5.out
      clear q1 q2 q3 q4 hNV2 hBV2 hcV2 hr5 HR3' hb3 hne8 hT hB
      go_wp2_with fail
      refine (rselect_any g n n cap R M g3 (k + 1) cap3 g5 (k + 1) cap5 (fun p => if p = k then i else p) (fun p => if p = k then k else p) _ HM5.out HR3.out HR5.out (fun p hp => by split <;> omega) (fun p hp => by split <;> omega) (by omega) (by omega) (by omega) (by omega) (by omega) (by omega)).mono ?_
      rintro e w6 ⟨g6, cap6, R6, rfl, hm6, hg6, hR6, hb6⟩
      have HM6 := Lib.hid hm6
      have HB6 : Hid (Below W.heap.size W w6) := hb5.out.trans (hb6.mono hb5.out.size)
      clear hm6 hg6 hR6 hb6 HM5 HR3 HR5 hb5
      go_wp2_with fail
      refine (rdet_any g6 (k + 1) cap6 R6 (fun p q => M (if p = k then i else p) (if q = k then k else q)) _ HM6.out (by omega) (by omega) (fun a b ha hb => HS.out _ _ (by split <;> omega) (by split <;> omega))).mono ?_
      rintro e w7 ⟨a7, c7, rfl, hr7, hb7⟩
      have hdet : detZ (fun p q => M (if p = k then i else p) (if q = k then k else q)) (k + 1) = lamZ M i k := detZ_congr fun a b ha hb => by
        have e2 : (if b = k then k else b) = b := by split <;> omega
        rw [e2]
        by_cases e : a = k
        · rw [if_pos e, if_neg (by omega)]
        · rw [if_neg e, if_pos (by omega)]
      rw [hdet] at hr7 ⊢
      obtain ⟨d, hd⟩ : ∃ d, d = lamZ M i k := ⟨_, rfl⟩
      rw [← hd] at hr7 ⊢
      have HB7 : Hid (Below W.heap.size W w7) := HB6.out.trans (hb7.mono HB6.out.size)
      obtain ⟨t0, t1, t2, t3, t4⟩ := hres.out.below HB7.out
      have e1 : (w7.setCell ⟨w.heap.size, 0, none⟩ (.bool (sg d))).cell? ⟨w.heap.size, 1, none⟩ = some (.slice none 0 0) := by rw [World.cell?_setCell_other _ _ _ _ (by simp)]; exact t1
      have HL : Hid (Lm ((w7.setCell ⟨w.heap.size, 0, none⟩ (.bool (sg d))).setCell ⟨w.heap.size, 1, none⟩ (.slice a7 (mg d).length c7)) a7 c7 (mg d)) := (hr7.setO rfl t0 (by simp) _).setO rfl e1 (by simp) _
      have HBF : Hid (Below w.heap.size w ((w7.setCell ⟨w.heap.size, 0, none⟩ (.bool (sg d))).setCell ⟨w.heap.size, 1, none⟩ (.slice a7 (mg d).length c7))) := ((HBW.out.trans (HB7.out.mono HBW.out.size)).setCell (p := ⟨w.heap.size, 0, none⟩) (Nat.le_refl _) _).setCell (p := ⟨w.heap.size, 1, none⟩) (Nat.le_refl _) _
      have HD := Lib.hid hd
      clear hr7 hb7 hdet hd e1 HM6 HB6
      go_wp2_with fail
      exact bodyPost_ret (v := .agg #[.bool (sg d), .slice a7 (mg d).length c7]) (by simp [results, Tryz.results86, go_sem, t0, t1]) rfl (by rw [← HD.out]; exact ⟨a7, c7, rfl, HL.out, HBF.out⟩)
end Go.Proofs.YtpnnbjifhoonkaaGreat
