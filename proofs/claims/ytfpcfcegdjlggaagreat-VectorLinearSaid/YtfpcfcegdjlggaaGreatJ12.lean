/-
  Joined texts: UP UQ UR.
-/
import Derived.Test.YtfpcfcegdjlggaaGreatJ11
namespace Go.Proofs.YtfpcfcegdjlggaaGreat
open Go.RowKit Minor

theorem cmpZ_ne (x y : Int) : (cmpZ x y != 0) = decide (x ≠ y) := by
  unfold cmpZ
  by_cases h : x < y
  · rw [if_pos h, decide_eq_true (by omega)]; rfl
  · rw [if_neg h]
    by_cases h2 : y < x
    · rw [if_pos h2, decide_eq_true (by omega)]; rfl
    · rw [if_neg h2, decide_eq_false (by omega)]; rfl
theorem cmpZ_le (x y : Int) : decide (cmpZ x y ≤ 0) = decide (x ≤ y) := by
  unfold cmpZ
  by_cases h : x < y
  · rw [if_pos h, decide_eq_true (p := x ≤ y) (by omega)]; rfl
  · rw [if_neg h]
    by_cases h2 : y < x
    · rw [if_pos h2, decide_eq_false (p := x ≤ y) (by omega)]; rfl
    · rw [if_neg h2, decide_eq_true (p := x ≤ y) (by omega)]; rfl
theorem cmpZ_ge (x y : Int) : decide (0 ≤ cmpZ x y) = decide (y ≤ x) := by
  unfold cmpZ
  by_cases h : x < y
  · rw [if_pos h, decide_eq_false (p := y ≤ x) (by omega)]; rfl
  · rw [if_neg h]
    by_cases h2 : y < x
    · rw [if_pos h2, decide_eq_true (p := y ≤ x) (by omega)]; rfl
    · rw [if_neg h2, decide_eq_true (p := y ≤ x) (by omega)]; rfl
theorem sign3_le (x : Int) : decide (sign3 x ≤ 0) = decide (x ≤ 0) := by
  unfold sign3
  by_cases h : x < 0
  · rw [if_pos h, decide_eq_true (p := x ≤ 0) (by omega)]; rfl
  · rw [if_neg h]
    by_cases h2 : x = 0
    · rw [if_pos h2, decide_eq_true (p := x ≤ 0) (by omega)]; rfl
    · rw [if_neg h2, decide_eq_false (p := x ≤ 0) (by omega)]; rfl

/-- The first n rows and columns are symmetric. -/
def SymN (M : Nat → Nat → Int) (n : Nat) : Prop := ∀ i j, i < n → j < i → M i j = M j i

set_option maxRecDepth 100000 in
set_option maxHeartbeats 4000000 in
theorem rsymmetric_any (g n cap : Nat) (R : Nat → Nat) (M : Nat → Nat → Int) (w : World) (hM : MatZ w g n n R M) (hn : n ≤ 100) (hs : ∀ i j, i < n → j < n → (M i j).natAbs ≤ cB 0) :
    Calls Tryz.prog 92 #[.slice (some ⟨g, 0, none⟩) n cap] w fun e w' => ∃ r : Bool, e = .returned (.bool r) ∧ (r = true ↔ SymN M n) ∧ Below w.heap.size w w' := by
  have HM := Lib.hid hM
  have HS := Lib.hid hs
  clear hM hs
  go_enter Tryz.func92, Tryz.ntmps92
  go_wp2_with fail
  go_loopw [7] (fun ii wr => ∃ i : Nat, i ≤ n ∧ ii = .int .i64 (i : Int) ∧ Hid (SymN M i) ∧ Hid (Below w.heap.size w wr)) (fun ii _ => n - (intOf ii).toNat)
  case atStart => exact ⟨0, by omega, rfl, fun i j hi => by omega, Below.refl _ _⟩
  case round =>
    obtain ⟨i, hin, rfl, hY, hB⟩ := hrel
    by_cases hi : i < n
    · go_wp2_with fail
      go_loopw [4] (fun jj wq => ∃ j : Nat, j ≤ i ∧ jj = .int .i64 (j : Int) ∧ Hid (∀ q, q < j → M i q = M q i) ∧ Hid (Below w.heap.size w wq)) (fun jj _ => i - (intOf jj).toNat)
      case atStart => exact ⟨0, by omega, rfl, fun q hq => by omega, hB⟩
      case round =>
        obtain ⟨j, hji, rfl, hZ, hB2⟩ := hrel
        clear hB
        by_cases hj : j < i
        · have hMr := HM.out.below hB2.out
          obtain ⟨c1, a1, d1, o1, x1, y1, r1⟩ := hMr.entry i j hi (by omega)
          obtain ⟨c2, a2, d2, o2, x2, y2, r2⟩ := hMr.entry j i (by omega) hi
          obtain ⟨v1, hv1⟩ : ∃ v, v = M i j := ⟨_, rfl⟩
          obtain ⟨v2, hv2⟩ : ∃ v, v = M j i := ⟨_, rfl⟩
          have hl1 : Hid ((mg v1).length ≤ 1000000) := by unfold Hid; rw [hv1]; exact cB_short (k := 0) (by omega) (HS.out i j hi (by omega))
          have hl2 : Hid ((mg v2).length ≤ 1000000) := by unfold Hid; rw [hv2]; exact cB_short (k := 0) (by omega) (HS.out j i (by omega) hi)
          rw [← hv1] at x1 y1 r1
          rw [← hv2] at x2 y2 r2
          have HV1 := Lib.hid hv1
          have HV2 := Lib.hid hv2
          have hR1 : Hid (∀ w', Below wr.heap.size wr w' → Lm w' a1 d1 (mg v1)) := fun w' h => r1.below h
          have hR2 : Hid (∀ w', Below wr.heap.size wr w' → Lm w' a2 d2 (mg v2)) := fun w' h => r2.below h
          have hK : Hid (∀ w', Below wr.heap.size wr w' → w'.cell? ⟨g, i, none⟩ = some (.slice (some ⟨R i, 0, none⟩) n c1) ∧ w'.cell? ⟨g, j, none⟩ = some (.slice (some ⟨R j, 0, none⟩) n c2) ∧ w'.cell? ⟨R i, j * 2, none⟩ = some (.bool (sg v1)) ∧ w'.cell? ⟨R i, j * 2 + 1, none⟩ = some (.slice a1 (mg v1).length d1) ∧ w'.cell? ⟨R j, i * 2, none⟩ = some (.bool (sg v2)) ∧ w'.cell? ⟨R j, i * 2 + 1, none⟩ = some (.slice a2 (mg v2).length d2)) :=
            fun w' h => ⟨cell_keep h o1, cell_keep h o2, cell_keep h x1, cell_keep h y1, cell_keep h x2, cell_keep h y2⟩
          have hbD : Below wr.heap.size wr wr.drew := (Below.refl _ _).drew
          have z1 : (0 : Int) ≤ (i : Int) := by omega
          have z2 : (0 : Int) ≤ (j : Int) := by omega
          have z3 : (i : Int) < (n : Int) := by omega
          have z4 : (j : Int) < (n : Int) := by omega
          have hcz := cmpZ_ne v1 v2
          clear hMr r1 r2 hv1 hv2
          by_cases heq : v1 = v2
          · rw [decide_eq_false (by simpa using heq)] at hcz
            have hnx : Hid (∀ q, q < j + 1 → M i q = M q i) := fun q hq => by
              by_cases e : q = j
              · rw [e, ← HV1.out, ← HV2.out]; exact heq
              · exact hZ.out q (by omega)
            clear heq
            go_wp2_with fail
            go_region_held3 (fun w' => w'.cell? ⟨g, i, none⟩ = some (.slice (some ⟨R i, 0, none⟩) n c1) ∧ w'.cell? ⟨g, j, none⟩ = some (.slice (some ⟨R j, 0, none⟩) n c2) ∧ w'.cell? ⟨R i, j * 2, none⟩ = some (.bool (sg v1)) ∧ w'.cell? ⟨R i, j * 2 + 1, none⟩ = some (.slice a1 (mg v1).length d1) ∧ w'.cell? ⟨R j, i * 2, none⟩ = some (.bool (sg v2)) ∧ w'.cell? ⟨R j, i * 2 + 1, none⟩ = some (.slice a2 (mg v2).length d2))
              (first | with_reducible exact hK.out _ hbD | with_reducible exact hK.out _ hbC)
              ((first
                | (go_at_call 26; refine (cmpZZ (hR1.out _ hbD) (hR2.out _ hbD) hl1.out hl2.out).mono ?_; rintro e w5 ⟨rfl, hb5⟩; have hbC : Below wr.heap.size wr w5 := hbD.trans (hb5.mono hbD.size))))
            have hB5 : Hid (Below w.heap.size w w5) := hB2.out.trans (hbC.mono hB2.out.size)
            clear hb5 hbC hbD o1 o2 x1 y1 x2 y2
            go_wp2_with fail
            go_roundw
            case rel => exact ⟨j + 1, by omega, by go_num, hnx, hB5⟩
            case measure => simp [intOf]; omega
          · rw [decide_eq_true (by simpa using heq)] at hcz
            have hno : Hid (¬SymN M n) := fun h => heq (by rw [HV1.out, HV2.out]; exact h i j hi hj)
            clear heq
            go_wp2_with fail
            go_region_held3 (fun w' => w'.cell? ⟨g, i, none⟩ = some (.slice (some ⟨R i, 0, none⟩) n c1) ∧ w'.cell? ⟨g, j, none⟩ = some (.slice (some ⟨R j, 0, none⟩) n c2) ∧ w'.cell? ⟨R i, j * 2, none⟩ = some (.bool (sg v1)) ∧ w'.cell? ⟨R i, j * 2 + 1, none⟩ = some (.slice a1 (mg v1).length d1) ∧ w'.cell? ⟨R j, i * 2, none⟩ = some (.bool (sg v2)) ∧ w'.cell? ⟨R j, i * 2 + 1, none⟩ = some (.slice a2 (mg v2).length d2))
              (first | with_reducible exact hK.out _ hbD | with_reducible exact hK.out _ hbC)
              ((first
                | (go_at_call 26; refine (cmpZZ (hR1.out _ hbD) (hR2.out _ hbD) hl1.out hl2.out).mono ?_; rintro e w5 ⟨rfl, hb5⟩; have hbC : Below wr.heap.size wr w5 := hbD.trans (hb5.mono hbD.size))))
            have hB5 : Hid (Below w.heap.size w w5) := hB2.out.trans (hbC.mono hB2.out.size)
            clear hb5 hbC hbD o1 o2 x1 y1 x2 y2
            go_wp2_with fail
            go_ret
            exact ⟨false, rfl, ⟨fun h => by simp at h, fun h => absurd h hno.out⟩, hB5.out⟩
        · obtain rfl : j = i := by omega
          have hnx : Hid (SymN M (j + 1)) := fun p q hp hq => by
            by_cases e : p = j
            · rw [e]; exact hZ.out q (by omega)
            · exact hY.out p q (by omega) hq
          go_wp2_with fail
          go_roundw
          case rel => exact ⟨j + 1, by omega, by go_num, hnx, hB2⟩
          case measure => simp [intOf]; omega
    · obtain rfl : i = n := by omega
      go_wp2_with fail
      go_ret
      exact ⟨true, rfl, ⟨fun _ => hY.out, fun _ => rfl⟩, hB.out⟩

/-- How great the minors can be. -/
theorem detP_bound {n : Nat} : ∀ (r k : Nat) (M : Nat → Nat → Int) (last : Int) (neg : Bool), r + k = n → (∀ i j, i < n → j < n → (M i j).natAbs ≤ cB k) → last.natAbs ≤ cB k → (detP n r k M last neg).natAbs ≤ cB n
  | 0, k, M, last, neg, hk, _, hl => by
    obtain rfl : k = n := by omega
    unfold detP
    split <;> omega
  | r + 1, k, M, last, neg, hk, hM, hl => by
    have hkn : k < n := by omega
    have hb := seek_le M k (n - k) k
    unfold detP
    by_cases e : seek M k (n - k) k = n
    · rw [if_pos e]; simp
    · rw [if_neg e]
      have hp : seek M k (n - k) k < n := by omega
      have hst : ∀ M' : Nat → Nat → Int, (∀ i j, i < n → j < n → (M' i j).natAbs ≤ cB k) → ∀ i j, i < n → j < n → (elim M' n k last i j).natAbs ≤ cB (k + 1) := fun M' h i j hi hj => by
        have h1 := elim_bound (last := last) h (cB_pos k) hkn i j hi hj
        rwa [cB_step] at h1
      have hle := cB_le k
      by_cases e2 : k < seek M k (n - k) k
      · rw [if_pos e2]
        refine detP_bound r (k + 1) _ _ _ (by omega) (hst _ fun i j hi hj => ?_) (Nat.le_trans (hM _ k hp hkn) hle)
        have := bound_sw hM hp hkn i j hi hj
        unfold swM at this
        rwa [if_pos e2] at this
      · rw [if_neg e2]
        exact detP_bound r (k + 1) _ _ _ (by omega) (hst _ hM) (Nat.le_trans (hM k k hkn hkn) hle)

theorem detZ_short {M : Nat → Nat → Int} {n : Nat} (_hn : n ≤ 8) (hs : ∀ i j, i < n → j < n → (M i j).natAbs ≤ cB 0) : (detZ M n).natAbs ≤ cB n :=
  detP_bound n 0 M 1 false (by omega) hs (cB_pos 0)

set_option maxRecDepth 100000 in
set_option maxHeartbeats 4000000 in
theorem rdefinite_any (g n cap : Nat) (R : Nat → Nat) (M : Nat → Nat → Int) (w : World) (hM : MatZ w g n n R M) (h1 : 1 ≤ n) (h2 : n ≤ 8) (hs : ∀ i j, i < n → j < n → (M i j).natAbs ≤ cB 0) :
    Calls Tryz.prog 93 #[.slice (some ⟨g, 0, none⟩) n cap] w fun e w' => ∃ r : Bool, e = .returned (.bool r) ∧ (r = true ↔ SymN M n ∧ ∀ k, k < n → 0 < detZ M (k + 1)) ∧ Below w.heap.size w w' := by
  have HM := Lib.hid hM
  have HS := Lib.hid hs
  clear hM hs
  go_enter Tryz.func93, Tryz.ntmps93
  go_wp2_with fail
  refine (rleading_any g n cap R M _ HM.out h1 h2 HS.out).mono ?_
  rintro e w1 ⟨b, c, rfl, hr, hb1⟩
  have HR := Lib.hid hr
  have HB1 := Lib.hid hb1
  have HM1 : Hid (MatZ w1 g n n R M) := HM.out.below hb1
  clear hr hb1
  go_wp2_with fail
  refine (rsymmetric_any g n cap R M _ HM1.out (by omega) HS.out).mono ?_
  rintro e w2 ⟨r, rfl, hsy, hb2⟩
  have HR2 := Lib.hid (HR.out.belowU hb2)
  have HB2 : Hid (Below w.heap.size w w2) := HB1.out.trans (hb2.mono HB1.out.size)
  clear hb2 HR HM1
  cases r with
  | false =>
    have hno : Hid (¬SymN M n) := fun h => by have := hsy.2 h; simp at this
    clear hsy
    go_wp2_with fail
    go_ret
    exact ⟨false, rfl, ⟨fun h => by simp at h, fun h => absurd h.1 hno.out⟩, HB2.out⟩
  | true =>
    have HY : Hid (SymN M n) := hsy.1 rfl
    clear hsy
    go_wp2_with fail
    go_loopw [21] (fun kk wr => ∃ k : Nat, k ≤ n ∧ kk = .int .i64 (k : Int) ∧ Hid (∀ q, q < k → 0 < detZ M (q + 1)) ∧ Hid (Below w2.heap.size w2 wr)) (fun kk _ => n - (intOf kk).toNat)
    case atStart => exact ⟨0, by omega, rfl, fun q hq => by omega, Below.refl _ _⟩
    case round =>
      obtain ⟨k, hkn, rfl, hP, hB⟩ := hrel
      by_cases hk : k < n
      · obtain ⟨a3, d3, x3, y3, r3⟩ := (HR2.out.belowU hB.out).c k hk
        obtain ⟨x, hx⟩ : ∃ x, x = detZ M (k + 1) := ⟨_, rfl⟩
        rw [← hx] at x3 y3 r3
        have hsh : Hid ((mg x).length ≤ 1000000) := by
          unfold Hid; rw [hx]
          exact cB_short (k := k + 1) (by omega) (detZ_short (by omega) fun i j hi hj => HS.out i j (by omega) (by omega))
        have HX := Lib.hid hx
        obtain ⟨V, hV⟩ : ∃ V, V = wr.alloc (.cells #[.bool (sg x), .slice a3 (mg x).length d3] 51) := ⟨_, rfl⟩
        have hbV : Below wr.heap.size wr V := by rw [hV]; exact (Below.refl _ _).alloc (Nat.le_refl _) _
        have HL := Lib.hid (r3.below hbV)
        have HBV : Hid (Below w2.heap.size w2 V) := hB.out.trans (hbV.mono hB.out.size)
        have hVV : Hid (wr.alloc (.cells #[.bool (sg x), .slice a3 (mg x).length d3] 51) = V) := hV.symm
        clear hV hbV r3 hx hB
        go_wp2_with fail
        rw [hVV.out]
        refine (signZ HL.out hsh.out).mono ?_
        rintro e w5 ⟨rfl, hb5⟩
        have HB5 : Hid (Below w2.heap.size w2 w5) := HBV.out.trans (hb5.mono HBV.out.size)
        have hsl := sign3_le x
        clear hb5 x3 y3
        by_cases hx0 : x ≤ 0
        · rw [decide_eq_true hx0] at hsl
          have hno : Hid (¬∀ k, k < n → 0 < detZ M (k + 1)) := fun h => by
            have := h k hk
            rw [← HX.out] at this
            omega
          clear hx0
          go_wp2_with fail
          go_ret
          exact ⟨false, rfl, ⟨fun h => by simp at h, fun h => absurd h.2 hno.out⟩, HB2.out.trans (HB5.out.mono HB2.out.size)⟩
        · rw [decide_eq_false hx0] at hsl
          have hnx : Hid (∀ q, q < k + 1 → 0 < detZ M (q + 1)) := fun q hq => by
            by_cases e : q = k
            · rw [e, ← HX.out]; omega
            · exact hP.out q (by omega)
          clear hx0
          go_wp2_with fail
          go_roundw
          case rel => exact ⟨k + 1, by omega, by go_num, hnx, HB5⟩
          case measure => simp [intOf]; omega
      · obtain rfl : k = n := by omega
        go_wp2_with fail
        go_ret
        exact ⟨true, rfl, ⟨fun _ => ⟨HY.out, hP.out⟩, fun _ => rfl⟩, HB2.out.trans (hB.out.mono HB2.out.size)⟩

set_option maxRecDepth 100000 in
set_option maxHeartbeats 4000000 in
theorem rvalidate_any (g n m cap : Nat) (R : Nat → Nat) (M : Nat → Nat → Int) (w : World) (hM : MatZ w g n m R M) (h1 : 1 ≤ n) (h2 : n ≤ 16) (h3 : 1 ≤ m) (h4 : m ≤ 16) (hs : ∀ i j, i < n → j < m → (M i j).natAbs ≤ cB 0) :
    Calls Tryz.prog 54 #[.slice (some ⟨g, 0, none⟩) n cap] w fun e w' => ∃ r : Int, e = .returned (.int .i64 r) ∧ (r = 0 ↔ n = m ∧ n ≤ 8 ∧ SymN M n ∧ ∀ k, k < n → 0 < detZ M (k + 1)) ∧ Below w.heap.size w w' := by
  have HM := Lib.hid hM
  have HS := Lib.hid hs
  clear hM hs
  by_cases hnm : n = m
  · subst hnm
    have q1 : sqN n n = n := if_pos rfl
    have q2 : sqB n n = true := decide_eq_true rfl
    have HQ1 := Lib.hid q1
    have HQ2 := Lib.hid q2
    clear q1 q2
    by_cases h8 : n ≤ 8
    · have d8 : decide ((8 : Int) < (n : Int)) = false := decide_eq_false (by omega)
      go_enter Tryz.func54, Tryz.ntmps54
      go_wp2_with fail
      refine (rsquare_any g n n cap R M _ HM.out h1 h2 h1 h2).mono ?_
      rintro e w1 ⟨rfl, hb1⟩
      rw [HQ1.out, HQ2.out]
      have HB1 := Lib.hid hb1
      have HM1 : Hid (MatZ w1 g n n R M) := HM.out.below hb1
      clear hb1
      go_wp2_with fail
      refine (rsymmetric_any g n cap R M _ HM1.out (by omega) HS.out).mono ?_
      rintro e w2 ⟨r, rfl, hsy, hb2⟩
      have HB2 : Hid (Below w.heap.size w w2) := HB1.out.trans (hb2.mono HB1.out.size)
      have HM2 : Hid (MatZ w2 g n n R M) := HM1.out.below hb2
      clear hb2 HM1
      cases r with
      | false =>
        have hno : Hid (¬SymN M n) := fun h => by have := hsy.2 h; simp at this
        clear hsy
        go_wp2_with fail
        go_ret
        exact ⟨4, rfl, ⟨fun h => by omega, fun h => absurd h.2.2.1 hno.out⟩, HB2.out⟩
      | true =>
        have HY : Hid (SymN M n) := hsy.1 rfl
        clear hsy
        go_wp2_with fail
        refine (rdefinite_any g n cap R M _ HM2.out h1 h8 HS.out).mono ?_
        rintro e w3 ⟨r, rfl, hde, hb3⟩
        have HB3 : Hid (Below w.heap.size w w3) := HB2.out.trans (hb3.mono HB2.out.size)
        clear hb3
        cases r with
        | false =>
          have hno : Hid (¬∀ k, k < n → 0 < detZ M (k + 1)) := fun h => by have := hde.2 ⟨HY.out, h⟩; simp at this
          clear hde
          go_wp2_with fail
          go_ret
          exact ⟨5, rfl, ⟨fun h => by omega, fun h => absurd h.2.2.2 hno.out⟩, HB3.out⟩
        | true =>
          have HD : Hid (∀ k, k < n → 0 < detZ M (k + 1)) := (hde.1 rfl).2
          clear hde
          go_wp2_with fail
          go_ret
          exact ⟨0, rfl, ⟨fun _ => ⟨by trivial, h8, HY.out, HD.out⟩, fun _ => rfl⟩, HB3.out⟩
    · have d8 : decide ((8 : Int) < (n : Int)) = true := decide_eq_true (by omega)
      go_enter Tryz.func54, Tryz.ntmps54
      go_wp2_with fail
      refine (rsquare_any g n n cap R M _ HM.out h1 h2 h1 h2).mono ?_
      rintro e w1 ⟨rfl, hb1⟩
      rw [HQ1.out, HQ2.out]
      have HB1 := Lib.hid hb1
      clear hb1
      go_wp2_with fail
      go_ret
      exact ⟨3, rfl, ⟨fun h => by omega, fun h => absurd h.2.1 h8⟩, HB1.out⟩
  · have q1 : sqN n m = 0 := if_neg hnm
    have q2 : sqB n m = false := decide_eq_false hnm
    have HQ1 := Lib.hid q1
    have HQ2 := Lib.hid q2
    have HNM := Lib.hid hnm
    clear q1 q2 hnm
    go_enter Tryz.func54, Tryz.ntmps54
    go_wp2_with fail
    refine (rsquare_any g n m cap R M _ HM.out h1 h2 h3 h4).mono ?_
    rintro e w1 ⟨rfl, hb1⟩
    rw [HQ1.out, HQ2.out]
    have HB1 := Lib.hid hb1
    clear hb1
    go_wp2_with fail
    go_ret
    exact ⟨3, rfl, ⟨fun h => by omega, fun h => absurd h.1 HNM.out⟩, HB1.out⟩
end Go.Proofs.YtfpcfcegdjlggaaGreat
namespace Go.Proofs.YtfpcfcegdjlggaaGreat
open Go.RowKit Minor

/-- The determinant of the rows 0 .. j-1, i and the columns 0 .. j, as the reference reckons it. -/
def lamZ (M : Nat → Nat → Int) (i j : Nat) : Int := detZ (fun p q => if p < j then M p q else M i q) (j + 1)

/-- TwoN lists of numbers in blocks apart. -/
structure TwoN (w : World) (B : Nat) (v u : Value) (k l : Nat) : Prop where
  a : NumB w B v k (fun p => p)
  b : NumB w B u l (fun p => p)
  far : ∀ x, v.ownBlock = some x → u.ownBlock ≠ some x

theorem TwoN.moved {w w' : World} {B k l : Nat} {v u : Value} (h : TwoN w B v u k l) (hb : Below w.heap.size w w') : TwoN w' B v u k l := ⟨h.a.moved hb, h.b.moved hb, h.far⟩

theorem NumB.lt' {w : World} {B k x : Nat} {v : Value} {xs : Nat → Nat} (h : NumB w B v k xs) (hx : v.ownBlock = some x) : x < w.heap.size := by
  obtain ⟨_, cur, hc⟩ := ownsRow_type h x hx
  exact (Array.getElem?_eq_some_iff.1 hc).1

theorem TwoN.left {w w' : World} {B k l g cap : Nat} {v u : Value} {xs : Nat → Nat} (h : TwoN w B v u k l) (hn : NumB w' B (.slice (some ⟨g, 0, none⟩) (k + 1) cap) (k + 1) xs) (hxs : ∀ p, p < k + 1 → xs p = p) (hg : w.grownBy w' v.ownBlock) (hat : v.ownBlock = some g ∨ g = w.heap.size) :
    TwoN w' B (.slice (some ⟨g, 0, none⟩) (k + 1) cap) u (k + 1) l := by
  refine ⟨hn.congr hxs, ownsRow_of_heap h.b fun x hx => hg.block x (h.b.lt' hx) fun e => h.far x e.symm hx, fun x hx e => ?_⟩
  simp only [Value.ownBlock, Option.some.injEq] at hx
  subst hx
  rcases hat with h1 | h1
  · exact h.far g h1 e
  · have := h.b.lt' e
    omega

theorem TwoN.swap {w : World} {B k l : Nat} {v u : Value} (h : TwoN w B v u k l) : TwoN w B u v l k := ⟨h.b, h.a, fun x hx e => h.far x e hx⟩

/-- A list that stands while another one grows. -/
theorem RdN.grown {w w' : World} {b n : Nat} {xs : Nat → Nat} (h : RdN w b n xs) {row : Option Nat} (hg : w.grownBy w' row) (hne : row ≠ some b) : RdN w' b n xs := by
  have hb : w'.heap[b]? = w.heap[b]? := hg.block b h.lt (fun e => hne e.symm)
  exact ⟨fun p hp => (World.cell?_of_block (w := w) (a := ⟨b, p, none⟩) hb).trans (h.c p hp), Nat.lt_of_lt_of_le h.lt hg.size⟩

set_option maxRecDepth 100000 in
set_option maxHeartbeats 4000000 in
theorem rlambda_any (g n cap i j : Nat) (R : Nat → Nat) (M : Nat → Nat → Int) (w : World) (hM : MatZ w g n n R M) (h2 : n ≤ 8) (hi : i < n) (hj : j < n) (hs : ∀ i j, i < n → j < n → (M i j).natAbs ≤ cB 0) :
    Calls Tryz.prog 102 #[.slice (some ⟨g, 0, none⟩) n cap, .int .i64 (i : Int), .int .i64 (j : Int)] w (GivesZ w (lamZ M i j)) := by
  obtain ⟨W, hW⟩ : ∃ W, W = w.alloc (.cells #[.bool false, .slice none 0 0] 51) := ⟨_, rfl⟩
  have hbW : Below w.heap.size w W := by rw [hW]; exact (Below.refl _ _).alloc (Nat.le_refl _) _
  have hres : Hid (Box w.heap.size (.bool false) (.slice none 0 0) W) := by rw [hW]; exact Box.made _ _ rfl _ _ _
  have HM : Hid (MatZ W g n n R M) := hM.below hbW
  have HWW : Hid (w.alloc (.cells #[.bool false, .slice none 0 0] 51) = W) := hW.symm
  have HBW := Lib.hid hbW
  have HS := Lib.hid hs
  clear hW hbW hM hs
  go_enter Tryz.func102, Tryz.ntmps102
  go_wp2_with fail
  rw [HWW.out]
  go_loopw [7, 8, 9] (fun rr cc kk wr => ∃ k : Nat, k ≤ j ∧ kk = .int .i64 (k : Int) ∧ Hid (TwoN wr W.heap.size rr cc k k) ∧ Hid (Below W.heap.size W wr)) (fun _ _ kk _ => j - (intOf kk).toNat)
  case atStart => exact ⟨0, by omega, rfl, ⟨World.ownsRow_nil _ _ _ _, World.ownsRow_nil _ _ _ _, fun x hx => by simp [Value.ownBlock] at hx⟩, Below.refl _ _⟩
  case round =>
    obtain ⟨k, hkj, rfl, hT, hB⟩ := hrel
    by_cases hk : k < j
    · obtain ⟨V, hV⟩ : ∃ V, V = wr.alloc (.cells #[.int .i64 (k : Int)] 3) := ⟨_, rfl⟩
      have hbV : Below wr.heap.size wr V := by rw [hV]; exact (Below.refl _ _).alloc (Nat.le_refl _) _
      have hTV := Lib.hid (hT.out.moved hbV)
      have hNV : Hid (NumB V W.heap.size u7 k (fun p => p)) := hTV.out.a
      have hBV : Hid (Below W.heap.size W V) := hB.out.trans (hbV.mono hB.out.size)
      have hcV : Hid (V.cell? ⟨wr.heap.size, 0, none⟩ = some (.int .i64 (k : Int))) := by unfold Hid; rw [hV]; simp [go_sem]
      have hVV : Hid (wr.alloc (.cells #[.int .i64 (k : Int)] 3) = V) := hV.symm
      clear hV hbV
      go_wp2_with (at_builtin; rw [hVV.out]; refine app_num rfl _ _ rfl W.heap.size _ k (fun p => p) rfl hNV.out wr.heap.size _ rfl k hcV.out (by omega) hBV.out.size ?_)
      intro g3 cap3 w3 q1 q2 q3 q4
      have hb3 : Hid (Below W.heap.size W w3) := below_app hBV.out hNV.out q2
      have hT3 : Hid (TwoN w3 W.heap.size (.slice (some ⟨g3, 0, none⟩) (k + 1) cap3) u8 (k + 1) k) := hTV.out.left q1 (fun p hp => by
        by_cases e : p = k
        · rw [if_pos e, e]
        · rw [if_neg e]) q2 q3
      clear q1 q2 q3 q4 hTV hNV hBV hcV
      obtain ⟨V2, hV2⟩ : ∃ V, V = w3.alloc (.cells #[.int .i64 (k : Int)] 3) := ⟨_, rfl⟩
      have hbV2 : Below w3.heap.size w3 V2 := by rw [hV2]; exact (Below.refl _ _).alloc (Nat.le_refl _) _
      have hTV2 := Lib.hid (hT3.out.moved hbV2).swap
      have hNV2 : Hid (NumB V2 W.heap.size u8 k (fun p => p)) := hTV2.out.a
      have hBV2 : Hid (Below W.heap.size W V2) := hb3.out.trans (hbV2.mono hb3.out.size)
      have hcV2 : Hid (V2.cell? ⟨w3.heap.size, 0, none⟩ = some (.int .i64 (k : Int))) := by unfold Hid; rw [hV2]; simp [go_sem]
      have hVV2 : Hid (w3.alloc (.cells #[.int .i64 (k : Int)] 3) = V2) := hV2.symm
      clear hV2 hbV2
      go_wp2_with (at_builtin; rw [hVV2.out]; refine app_num rfl _ _ rfl W.heap.size _ k (fun p => p) rfl hNV2.out w3.heap.size _ rfl k hcV2.out (by omega) hBV2.out.size ?_)
      intro g5 cap5 w5 q1 q2 q3 q4
      have hb5 : Hid (Below W.heap.size W w5) := below_app hBV2.out hNV2.out q2
      have hT5 : Hid (TwoN w5 W.heap.size (.slice (some ⟨g3, 0, none⟩) (k + 1) cap3) (.slice (some ⟨g5, 0, none⟩) (k + 1) cap5) (k + 1) (k + 1)) := (hTV2.out.left q1 (fun p hp => by
        by_cases e : p = k
        · rw [if_pos e, e]
        · rw [if_neg e]) q2 q3).swap
      clear q1 q2 q3 q4 hTV2 hNV2 hBV2 hcV2 hT3 hb3
      go_wp2_with fail
      go_roundw
      case rel => exact ⟨k + 1, by omega, by go_num, hT5, hb5⟩
      case measure => simp [intOf]; omega
    · obtain rfl : k = j := by omega
      obtain ⟨V, hV⟩ : ∃ V, V = wr.alloc (.cells #[.int .i64 (i : Int)] 3) := ⟨_, rfl⟩
      have hbV : Below wr.heap.size wr V := by rw [hV]; exact (Below.refl _ _).alloc (Nat.le_refl _) _
      have hTV := Lib.hid (hT.out.moved hbV)
      have hNV : Hid (NumB V W.heap.size u7 k (fun p => p)) := hTV.out.a
      have hBV : Hid (Below W.heap.size W V) := hB.out.trans (hbV.mono hB.out.size)
      have hcV : Hid (V.cell? ⟨wr.heap.size, 0, none⟩ = some (.int .i64 (i : Int))) := by unfold Hid; rw [hV]; simp [go_sem]
      have hVV : Hid (wr.alloc (.cells #[.int .i64 (i : Int)] 3) = V) := hV.symm
      clear hV hbV
      go_wp2_with (at_builtin; rw [hVV.out]; refine app_num rfl _ _ rfl W.heap.size _ k (fun p => p) rfl hNV.out wr.heap.size _ rfl i hcV.out (by omega) hBV.out.size ?_)
      intro g3 cap3 w3 q1 q2 q3 q4
      have hb3 : Hid (Below W.heap.size W w3) := below_app hBV.out hNV.out q2
      have hN8 : Hid (NumB w3 W.heap.size u8 k (fun p => p)) := ownsRow_of_heap hTV.out.b fun x hx => q2.block x (hTV.out.b.lt' hx) fun e => hTV.out.far x e.symm hx
      have hne8 : Hid (u8.ownBlock ≠ some g3) := fun e => by
        rcases q3 with h | h
        · exact hTV.out.far g3 h e
        · have := hTV.out.b.lt' e
          omega
      obtain ⟨g3', cap3', he, hr3⟩ := NumB.done q1 (by omega)
      simp only [Value.slice.injEq, Option.some.injEq, Addr.mk.injEq, and_true, true_and] at he
      obtain ⟨rfl, rfl⟩ := he
      have HR3 := Lib.hid hr3
      clear q1 q2 q3 q4 hTV hNV hBV hcV hr3
      obtain ⟨V2, hV2⟩ : ∃ V, V = w3.alloc (.cells #[.int .i64 (k : Int)] 3) := ⟨_, rfl⟩
      have hbV2 : Below w3.heap.size w3 V2 := by rw [hV2]; exact (Below.refl _ _).alloc (Nat.le_refl _) _
      have hNV2 : Hid (NumB V2 W.heap.size u8 k (fun p => p)) := hN8.out.moved hbV2
      have HR3' := Lib.hid (HR3.out.below hbV2)
      have hBV2 : Hid (Below W.heap.size W V2) := hb3.out.trans (hbV2.mono hb3.out.size)
      have hcV2 : Hid (V2.cell? ⟨w3.heap.size, 0, none⟩ = some (.int .i64 (k : Int))) := by unfold Hid; rw [hV2]; simp [go_sem]
      have hVV2 : Hid (w3.alloc (.cells #[.int .i64 (k : Int)] 3) = V2) := hV2.symm
      clear hV2 hbV2 HR3 hN8
      go_wp2_with (at_builtin; rw [hVV2.out]; refine app_num rfl _ _ rfl W.heap.size _ k (fun p => p) rfl hNV2.out w3.heap.size _ rfl k hcV2.out (by omega) hBV2.out.size ?_)
      intro g5 cap5 w5 q1 q2 q3 q4
      have hb5 : Hid (Below W.heap.size W w5) := below_app hBV2.out hNV2.out q2
      have HR3 := Lib.hid (HR3'.out.grown q2 hne8.out)
      obtain ⟨g5', cap5', he, hr5⟩ := NumB.done q1 (by omega)
      simp only [Value.slice.injEq, Option.some.injEq, Addr.mk.injEq, and_true, true_and] at he
      obtain ⟨rfl, rfl⟩ := he
      have HR5 := Lib.hid hr5
      have HM5 : Hid (MatZ w5 g n n R M) := HM.out.below hb5.out
      clear q1 q2 q3 q4 hNV2 hBV2 hcV2 hr5 HR3' hb3 hne8 hT hB
      go_wp2_with fail
      refine (rselect_any g n n cap R M g3 (k + 1) cap3 g5 (k + 1) cap5 (fun p => if p = k then i else p) (fun p => if p = k then k else p) _ HM5.out HR3.out HR5.out (fun p hp => by split <;> omega) (fun p hp => by split <;> omega) (by omega) (by omega) (by omega) (by omega) (by omega) (by omega)).mono ?_
      rintro e w6 ⟨g6, cap6, R6, rfl, hm6, hg6, hR6, hb6⟩
      have HM6 := Lib.hid hm6
      have HB6 : Hid (Below W.heap.size W w6) := hb5.out.trans (hb6.mono hb5.out.size)
      clear hm6 hg6 hR6 hb6 HM5 HR3 HR5 hb5
      go_wp2_with fail
      refine (rdet_any g6 (k + 1) cap6 R6 (fun p q => M (if p = k then i else p) (if q = k then k else q)) _ HM6.out (by omega) (by omega) (fun a b ha hb => HS.out _ _ (by split <;> omega) (by split <;> omega))).mono ?_
      rintro e w7 ⟨a7, c7, rfl, hr7, hb7⟩
      have hdet : detZ (fun p q => M (if p = k then i else p) (if q = k then k else q)) (k + 1) = lamZ M i k := detZ_congr fun a b ha hb => by
        have e2 : (if b = k then k else b) = b := by split <;> omega
        rw [e2]
        by_cases e : a = k
        · rw [if_pos e, if_neg (by omega)]
        · rw [if_neg e, if_pos (by omega)]
      rw [hdet] at hr7 ⊢
      obtain ⟨d, hd⟩ : ∃ d, d = lamZ M i k := ⟨_, rfl⟩
      rw [← hd] at hr7 ⊢
      have HB7 : Hid (Below W.heap.size W w7) := HB6.out.trans (hb7.mono HB6.out.size)
      obtain ⟨t0, t1, t2, t3, t4⟩ := hres.out.below HB7.out
      have e1 : (w7.setCell ⟨w.heap.size, 0, none⟩ (.bool (sg d))).cell? ⟨w.heap.size, 1, none⟩ = some (.slice none 0 0) := by rw [World.cell?_setCell_other _ _ _ _ (by simp)]; exact t1
      have HL : Hid (Lm ((w7.setCell ⟨w.heap.size, 0, none⟩ (.bool (sg d))).setCell ⟨w.heap.size, 1, none⟩ (.slice a7 (mg d).length c7)) a7 c7 (mg d)) := (hr7.setO rfl t0 (by simp) _).setO rfl e1 (by simp) _
      have HBF : Hid (Below w.heap.size w ((w7.setCell ⟨w.heap.size, 0, none⟩ (.bool (sg d))).setCell ⟨w.heap.size, 1, none⟩ (.slice a7 (mg d).length c7))) := ((HBW.out.trans (HB7.out.mono HBW.out.size)).setCell (p := ⟨w.heap.size, 0, none⟩) (Nat.le_refl _) _).setCell (p := ⟨w.heap.size, 1, none⟩) (Nat.le_refl _) _
      have HD := Lib.hid hd
      clear hr7 hb7 hdet hd e1 HM6 HB6
      go_wp2_with fail
      exact bodyPost_ret (v := .agg #[.bool (sg d), .slice a7 (mg d).length c7]) (by simp [results, Tryz.results102, go_sem, t0, t1]) rfl (by rw [← HD.out]; exact ⟨a7, c7, rfl, HL.out, HBF.out⟩)
end Go.Proofs.YtfpcfcegdjlggaaGreat
namespace Go.Proofs.YtfpcfcegdjlggaaGreat
open Go.RowKit Minor

theorem detZ_zero (M : Nat → Nat → Int) : detZ M 0 = 1 := rfl

set_option maxRecDepth 100000 in
set_option maxHeartbeats 2000000 in
theorem rminor_any (b n c k : Nat) (M : Nat → Nat → Int) (w : World) (hR : RowZ w b n (fun k => detZ M (k + 1))) (hk : k ≤ n) (hn : n ≤ 8) :
    Calls Tryz.prog 103 #[.slice (some ⟨b, 0, none⟩) n c, .int .i64 (k : Int)] w (GivesZ w (detZ M k)) := by
  obtain ⟨W, hW⟩ : ∃ W, W = w.alloc (.cells #[.bool false, .slice none 0 0] 51) := ⟨_, rfl⟩
  have hbW : Below w.heap.size w W := by rw [hW]; exact (Below.refl _ _).alloc (Nat.le_refl _) _
  have hres : Hid (Box w.heap.size (.bool false) (.slice none 0 0) W) := by rw [hW]; exact Box.made _ _ rfl _ _ _
  have HR := Lib.hid (hR.belowU hbW)
  have HR0 := Lib.hid hR
  have HWW : Hid (w.alloc (.cells #[.bool false, .slice none 0 0] 51) = W) := hW.symm
  have HBW := Lib.hid hbW
  clear hW hbW hR
  by_cases h0 : k = 0
  · subst h0
    rw [detZ_zero]
    go_enter Tryz.func103, Tryz.ntmps103
    go_wp2_with fail
    rw [HWW.out]
    refine (smallZ 1 (by omega) (by omega)).mono ?_
    rintro e w2 ⟨a2, c2, rfl, hr2, hb2⟩
    obtain ⟨d, hd⟩ : ∃ o : Int, o = 1 := ⟨_, rfl⟩
    rw [← hd] at hr2 ⊢
    obtain ⟨t0, t1, t2, t3, t4⟩ := hres.out.below hb2
    have e1 : (w2.setCell ⟨w.heap.size, 0, none⟩ (.bool (sg d))).cell? ⟨w.heap.size, 1, none⟩ = some (.slice none 0 0) := by rw [World.cell?_setCell_other _ _ _ _ (by simp)]; exact t1
    have HL : Hid (Lm ((w2.setCell ⟨w.heap.size, 0, none⟩ (.bool (sg d))).setCell ⟨w.heap.size, 1, none⟩ (.slice a2 (mg d).length c2)) a2 c2 (mg d)) := (hr2.setO rfl t0 (by simp) _).setO rfl e1 (by simp) _
    have HBF : Hid (Below w.heap.size w ((w2.setCell ⟨w.heap.size, 0, none⟩ (.bool (sg d))).setCell ⟨w.heap.size, 1, none⟩ (.slice a2 (mg d).length c2))) := ((HBW.out.trans (hb2.mono HBW.out.size)).setCell (p := ⟨w.heap.size, 0, none⟩) (Nat.le_refl _) _).setCell (p := ⟨w.heap.size, 1, none⟩) (Nat.le_refl _) _
    have HD := Lib.hid hd
    clear hr2 hb2 hd e1
    go_wp2_with fail
    exact bodyPost_ret (v := .agg #[.bool (sg d), .slice a2 (mg d).length c2]) (by simp [results, Tryz.results103, go_sem, t0, t1]) rfl (by rw [← HD.out]; exact ⟨a2, c2, rfl, HL.out, HBF.out⟩)
  · obtain ⟨q, rfl⟩ : ∃ q, k = q + 1 := ⟨k - 1, by omega⟩
    obtain ⟨a3, d3, x0, y0, r3⟩ := HR0.out.c q (by omega)
    obtain ⟨d, hd⟩ : ∃ d, d = detZ M (q + 1) := ⟨_, rfl⟩
    rw [← hd] at x0 y0 r3 ⊢
    have hk0 : (((q + 1 : Nat) : Int) == 0) = false := by simp; omega
    have hkm : wrap64 (((q + 1 : Nat) : Int) - 1) = (q : Int) := by unfold wrap64; omega
    have hkm2 : ((q : Int) + 1 - 1) = (q : Int) := by omega
    have hA : ∀ o : Obj, Below w.heap.size w (w.alloc o) := fun o => (Below.refl _ _).alloc (Nat.le_refl _) _
    have x3 := cell_keep (hA (.cells #[.bool false, .slice none 0 0] 51)) x0
    have y3 := cell_keep (hA (.cells #[.bool false, .slice none 0 0] 51)) y0
    have HL : Hid (Lm (w.alloc (.cells #[.bool (sg d), .slice a3 (mg d).length d3] 51)) a3 d3 (mg d)) := r3.below (hA _)
    have HBF : Hid (Below w.heap.size w (w.alloc (.cells #[.bool (sg d), .slice a3 (mg d).length d3] 51))) := hA _
    have hlt : (q : Int) < (n : Int) := by omega
    have HD := Lib.hid hd
    clear r3 hd h0 hA HWW hres HR HBW HR0 x0 y0
    go_enter Tryz.func103, Tryz.ntmps103
    go_wp2_with fail
    exact bodyPost_ret (v := .agg #[.bool (sg d), .slice a3 (mg d).length d3]) (by simp [results, Tryz.results103, go_sem]) rfl ⟨a3, d3, rfl, HL.out, HBF.out⟩

theorem lamZ_short {M : Nat → Nat → Int} {n i j : Nat} (hn : n ≤ 8) (hi : i < n) (hj : j < n) (hs : ∀ i j, i < n → j < n → (M i j).natAbs ≤ cB 0) : (lamZ M i j).natAbs ≤ cB (j + 1) :=
  detZ_short (by omega) fun p q hp hq => by
    split
    · exact hs p q (by omega) (by omega)
    · exact hs i q hi (by omega)

theorem cB_mono {k l : Nat} (h : k ≤ l) : cB k ≤ cB l := by
  induction l with
  | zero =>
    obtain rfl : k = 0 := by omega
    exact Nat.le_refl _
  | succ l ih =>
    by_cases e : k = l + 1
    · rw [e]; exact Nat.le_refl _
    · exact Nat.le_trans (ih (by omega)) (cB_le l)

/-- 2 |lambda(i, j)| <= d_(j+1). -/
def SizedZ (M : Nat → Nat → Int) (i j : Nat) : Prop := 2 * ((lamZ M i j).natAbs : Int) ≤ detZ M (j + 1)

set_option maxRecDepth 100000 in
set_option maxHeartbeats 4000000 in
theorem rsized_any (g n cap b c i j : Nat) (R : Nat → Nat) (M : Nat → Nat → Int) (w : World) (hM : MatZ w g n n R M) (hR : RowZ w b n (fun k => detZ M (k + 1))) (h2 : n ≤ 8) (hi : i < n) (hj : j < n) (hs : ∀ i j, i < n → j < n → (M i j).natAbs ≤ cB 0) :
    Calls Tryz.prog 98 #[.slice (some ⟨g, 0, none⟩) n cap, .slice (some ⟨b, 0, none⟩) n c, .int .i64 (i : Int), .int .i64 (j : Int)] w fun e w' => ∃ r : Bool, e = .returned (.bool r) ∧ (r = true ↔ SizedZ M i j) ∧ Below w.heap.size w w' := by
  have HM := Lib.hid hM
  have HR := Lib.hid hR
  have HS := Lib.hid hs
  have hlb := lamZ_short h2 hi hj hs
  have hdb : (detZ M (j + 1)).natAbs ≤ cB (j + 1) := detZ_short (by omega) fun p q hp hq => hs p q (by omega) (by omega)
  obtain ⟨l, hl⟩ : ∃ l, l = lamZ M i j := ⟨_, rfl⟩
  obtain ⟨d, hd⟩ : ∃ d, d = detZ M (j + 1) := ⟨_, rfl⟩
  rw [← hl] at hlb
  rw [← hd] at hdb
  have hc1 : 2 * cB (j + 1) ≤ cB (j + 2) := by
    rw [← cB_step (j + 1)]
    exact Nat.mul_le_mul_left 2 (Nat.le_mul_of_pos_left _ (cB_pos _))
  have hl1 : Hid ((mg l).length ≤ 1000000) := cB_short (by omega) hlb
  have hl2 : Hid ((mg (l.natAbs : Int)).length ≤ 1000000) := cB_short (k := j + 1) (by omega) (by simpa using hlb)
  have hl3 : Hid ((mg (2 * (l.natAbs : Int))).length ≤ 1000000) := cB_short (k := j + 2) (by omega) (by rw [Int.natAbs_mul]; simp; omega)
  have hl4 : Hid ((mg d).length ≤ 1000000) := cB_short (by omega) hdb
  have hl5 : Hid ((mg 2).length ≤ 1000000) := by unfold Hid; have : (mg 2).length ≤ 5 := by decide
                                                 omega
  have HL := Lib.hid hl
  have HD := Lib.hid hd
  have hj1 : wrap64 ((j : Int) + 1) = ((j + 1 : Nat) : Int) := by unfold wrap64; omega
  clear hM hR hs hlb hdb hl hd hc1
  go_enter Tryz.func98, Tryz.ntmps98
  go_wp2_with fail
  refine (smallZ 2 (by omega) (by omega)).mono ?_
  rintro e w2 ⟨a2, c2, rfl, hr2, hb2⟩
  have HL2 := Lib.hid hr2
  have HB2 := Lib.hid hb2
  have HM2 : Hid (MatZ w2 g n n R M) := HM.out.below hb2
  clear hr2 hb2
  go_wp2_with fail
  refine (rlambda_any g n cap i j R M _ HM2.out h2 hi hj HS.out).mono ?_
  rintro e w3 ⟨a3, c3, rfl, hr3, hb3⟩
  rw [← HL.out] at hr3 ⊢
  have HL3 := Lib.hid hr3
  have HL2' := Lib.hid (HL2.out.below hb3)
  have HB3 : Hid (Below w.heap.size w w3) := HB2.out.trans (hb3.mono HB2.out.size)
  clear hr3 hb3 HL2 HB2 HM2
  go_wp2_with fail
  refine (absZ HL3.out hl1.out).mono ?_
  rintro e w4 ⟨a4, c4, rfl, hr4, hb4⟩
  have HL4 := Lib.hid hr4
  have HL2 := Lib.hid (HL2'.out.below hb4)
  have HB4 : Hid (Below w.heap.size w w4) := HB3.out.trans (hb4.mono HB3.out.size)
  clear hr4 hb4 HL3 HB3 HL2'
  go_wp2_with fail
  refine (mulZ HL2.out HL4.out hl5.out hl2.out).mono ?_
  rintro e w5 ⟨a5, c5, rfl, hr5, hb5⟩
  have HL5 := Lib.hid hr5
  have HB5 : Hid (Below w.heap.size w w5) := HB4.out.trans (hb5.mono HB4.out.size)
  have HR5 : Hid (RowZ w5 b n (fun k => detZ M (k + 1))) := HR.out.belowU HB5.out
  clear hr5 hb5 HL4 HB4 HL2
  go_wp2_with fail
  refine (rminor_any b n c (j + 1) M _ HR5.out (by omega) h2).mono ?_
  rintro e w6 ⟨a6, c6, rfl, hr6, hb6⟩
  rw [← HD.out] at hr6 ⊢
  have HL6 := Lib.hid hr6
  have HL5' := Lib.hid (HL5.out.below hb6)
  have HB6 : Hid (Below w.heap.size w w6) := HB5.out.trans (hb6.mono HB5.out.size)
  clear hr6 hb6 HL5 HB5 HR5
  go_wp2_with fail
  refine (cmpZZ HL5'.out HL6.out hl3.out hl4.out).mono ?_
  rintro e w7 ⟨rfl, hb7⟩
  have HB7 : Hid (Below w.heap.size w w7) := HB6.out.trans (hb7.mono HB6.out.size)
  have hcl := cmpZ_le (2 * (l.natAbs : Int)) d
  clear hb7 HL5' HL6 HB6
  go_wp2_with fail
  go_ret
  exact ⟨_, rfl, by rw [decide_eq_true_eq]; unfold SizedZ; rw [← HL.out, ← HD.out], HB7.out⟩

set_option maxRecDepth 100000 in
set_option maxHeartbeats 4000000 in
theorem rsmall_form (g n cap : Nat) (R : Nat → Nat) (M : Nat → Nat → Int) (w : World) (hM : MatZ w g n n R M) (h1 : 1 ≤ n) (h2 : n ≤ 8) (hs : ∀ i j, i < n → j < n → (M i j).natAbs ≤ cB 0) :
    Calls Tryz.prog 55 #[.slice (some ⟨g, 0, none⟩) n cap] w fun e w' => ∃ r : Bool, e = .returned (.bool r) ∧ (r = true ↔ detZ M n ≤ 10000) ∧ Below w.heap.size w w' := by
  have hdb : (detZ M n).natAbs ≤ cB n := detZ_short h2 hs
  have HM := Lib.hid hM
  have HS := Lib.hid hs
  obtain ⟨d, hd⟩ : ∃ d, d = detZ M n := ⟨_, rfl⟩
  rw [← hd] at hdb
  have hl4 : Hid ((mg d).length ≤ 1000000) := cB_short (by omega) hdb
  have hl5 : Hid ((mg 10000).length ≤ 1000000) := by unfold Hid; have : (mg 10000).length ≤ 5 := by decide
                                                     omega
  have HD := Lib.hid hd
  clear hM hs hdb hd
  go_enter Tryz.func55, Tryz.ntmps55
  go_wp2_with fail
  refine (rdet_any g n cap R M _ HM.out h1 h2 HS.out).mono ?_
  rintro e w3 ⟨a3, c3, rfl, hr3, hb3⟩
  rw [← HD.out] at hr3 ⊢
  have HL3 := Lib.hid hr3
  have HB3 := Lib.hid hb3
  clear hr3 hb3
  go_wp2_with fail
  refine (smallZ 10000 (by omega) (by omega)).mono ?_
  rintro e w2 ⟨a2, c2, rfl, hr2, hb2⟩
  have HL2 := Lib.hid hr2
  have HL3' := Lib.hid (HL3.out.below hb2)
  have HB2 : Hid (Below w.heap.size w w2) := HB3.out.trans (hb2.mono HB3.out.size)
  clear hr2 hb2 HL3 HB3
  go_wp2_with fail
  refine (cmpZZ HL3'.out HL2.out hl4.out hl5.out).mono ?_
  rintro e w7 ⟨rfl, hb7⟩
  have HB7 : Hid (Below w.heap.size w w7) := HB2.out.trans (hb7.mono HB2.out.size)
  have hcl := cmpZ_le d 10000
  clear hb7 HL3' HL2 HB2
  go_wp2_with fail
  go_ret
  exact ⟨_, rfl, by rw [decide_eq_true_eq, HD.out], HB7.out⟩
end Go.Proofs.YtfpcfcegdjlggaaGreat
