/-
  Joined texts: HF HK EL HL HJ HM.
-/
import Derived.Test.YtfpcfcegdjlggaaGreatJ19
import Derived.Test.YtfpcfcegdjlggaaGreatJ16
import Derived.Test.YtfpcfcegdjlggaaGreatJ13
import Derived.Test.YtfpcfcegdjlggaaGreatJ15
import Derived.Deep.LoopGhost
namespace Go.Proofs.YtfpcfcegdjlggaaGreat
open Go.RowKit

set_option maxRecDepth 100000 in
set_option maxHeartbeats 4000000 in
theorem rnearest_pos {x y : Int} {a b : Option Addr} {c d t : Nat} {w : World} (hx : Lm w a c (mg x)) (hy : Lm w b d (mg y)) (ht : t ≤ 11) (bx : x.natAbs ≤ cB t) (by' : y.natAbs ≤ cB t) (b2 : 2 ≤ cB t) (h0 : 0 < y) :
    Calls Tryz.prog 100 #[.agg #[.bool (sg x), .slice a (mg x).length c, .bool (sg y), .slice b (mg y).length d]] w (GivesZ w ((2 * x + y) / (2 * y))) := by
  obtain ⟨W, hW⟩ : ∃ W, W = (w.alloc (.cells #[.bool (sg x), .slice a (mg x).length c, .bool (sg y), .slice b (mg y).length d] 140)).alloc (.cells #[.bool false, .slice none 0 0] 51) := ⟨_, rfl⟩
  have hbW : Below w.heap.size w W := by rw [hW]; exact ((Below.refl _ _).alloc (Nat.le_refl _) _).alloc (by simp) _
  have hxa : Hid (BoxR w.heap.size (.bool (sg x)) (.slice a (mg x).length c) (.bool (sg y)) (.slice b (mg y).length d) W) := by rw [hW]; exact (BoxR.made _ _ rfl _ _ _ _ _).alloc _
  have hres : Hid (Box (w.heap.size + 1) (.bool false) (.slice none 0 0) W) := by rw [hW]; exact Box.made _ _ (by simp) _ _ _
  have HWW : Hid ((w.alloc (.cells #[.bool (sg x), .slice a (mg x).length c, .bool (sg y), .slice b (mg y).length d] 140)).alloc (.cells #[.bool false, .slice none 0 0] 51) = W) := hW.symm
  have HLX := Lib.hid (hx.below hbW)
  have HLY := Lib.hid (hy.below hbW)
  have HBW := Lib.hid hbW
  have H0 := Lib.hid h0
  have BX := Lib.hid bx
  have BY := Lib.hid by'
  have B2 := Lib.hid b2
  have hcs := cB_step t
  have p1 := prod_bound bx (show (2 : Int).natAbs ≤ cB t from b2)
  have p2 := prod_bound (show (1 : Int).natAbs ≤ cB t from cB_pos t) by'
  have p3 := prod_bound by' (show (2 : Int).natAbs ≤ cB t from b2)
  have k1 : Hid ((mg (x * 2 + 1 * y)).length ≤ 1000000) := cB_short (k := t + 1) (by omega) (by omega)
  have k2 : Hid ((mg (y * 2)).length ≤ 1000000) := cB_short (k := t + 1) (by omega) (by omega)
  have HE : Hid ((x * 2 + 1 * y) / (y * 2) = (2 * x + y) / (2 * y)) := by unfold Hid; rw [Int.mul_comm x 2, Int.mul_comm y 2, Int.one_mul]
  have hD : Hid (0 < y * 2) := by unfold Hid; omega
  have hK : Hid (∀ w', Below W.heap.size W w' → w'.cell? ⟨w.heap.size, 0, none⟩ = some (.bool (sg x)) ∧ w'.cell? ⟨w.heap.size, 1, none⟩ = some (.slice a (mg x).length c) ∧ w'.cell? ⟨w.heap.size, 2, none⟩ = some (.bool (sg y)) ∧ w'.cell? ⟨w.heap.size, 3, none⟩ = some (.slice b (mg y).length d)) := fun w' h => ⟨(hxa.out.below h).c0, (hxa.out.below h).c1, (hxa.out.below h).c2, (hxa.out.below h).c3⟩
  have hbD : Hid (Below W.heap.size W W.drew) := (Below.refl _ _).drew
  clear hW hbW hx hy h0 bx by' b2 hcs p1 p2 p3
  go_enter Tryz.func100, Tryz.ntmps100
  go_wp2_with fail
  rw [HWW.out]
  refine begin_T 4 (fun w' => w'.cell? ⟨w.heap.size, 0, none⟩ = some (.bool (sg x)) ∧ w'.cell? ⟨w.heap.size, 1, none⟩ = some (.slice a (mg x).length c) ∧ w'.cell? ⟨w.heap.size, 2, none⟩ = some (.bool (sg y)) ∧ w'.cell? ⟨w.heap.size, 3, none⟩ = some (.slice b (mg y).length d)) (by kernel_rfl) (hK.out _ hbD.out) (fun hHeld => ?_)
  have hby := hbD.out
  generalize W.drew = w0d at hby hHeld ⊢
  refine first_T (i := 0) (v := ?_) rfl (by kernel_rfl) (fun _ _ _ h => h) (by rfl) (fun w hSw => ?_) hHeld ?_
  rotate_left
  · ((try dsimp only at hSw); go_simp; (try with_reducible rfl))
  try simp only [Act.put, List.setIfInBounds_toArray, List.set_cons_zero, List.set_cons_succ]
  refine next_T (i := 1) rfl (by kernel_rfl) (fun K hKK => ?_)
  go_simp
  refine (rhalf_any _).mono ?_
  rintro e w1 ⟨a1, c1, b1, d1, rfl, hr1, hs1, hbn⟩
  replace hby := hby.trans (hbn.mono hby.size)
  obtain ⟨one, hone⟩ : ∃ z : Int, z = 1 := ⟨_, rfl⟩
  obtain ⟨two, htwo⟩ : ∃ z : Int, z = 2 := ⟨_, rfl⟩
  rw [← hone] at hr1
  rw [← htwo] at hs1
  rw [← hone, ← htwo]
  have H1 := Lib.hid hone
  have H2 := Lib.hid htwo
  clear hone htwo
  go_wp2_with fail
  clear hHeld
  refine hKK.out _ _ (hK.out _ hby) (fun hHeld => ?_)
  clear hKK K hbn
  try simp only [Act.put, List.setIfInBounds_toArray, List.set_cons_zero, List.set_cons_succ]
  refine next_T (i := 2) rfl (by kernel_rfl) (fun K hKK => ?_)
  go_simp
  refine (raddR_pos (HLX.out.below hby) (HLY.out.below hby) hr1 hs1 ht BX.out BY.out (by rw [H1.out]; exact cB_pos t) (by rw [H2.out]; exact B2.out) H0.out (by rw [H2.out]; decide)).mono ?_
  rintro e w2 ⟨X, Y, hR, a2, c2, b2, d2, rfl, hr2, hs2, hbn⟩
  rw [H1.out, H2.out] at hR
  have HR := Lib.hid hR
  replace hby := hby.trans (hbn.mono hby.size)
  clear hr1 hs1 hR
  go_wp2_with fail
  clear hHeld
  refine hKK.out _ _ (hK.out _ hby) (fun hHeld => ?_)
  clear hKK K hbn
  try simp only [Act.put, List.setIfInBounds_toArray, List.set_cons_zero, List.set_cons_succ]
  refine next_T (i := 3) rfl (by kernel_rfl) (fun K hKK => ?_)
  go_simp
  refine (rfloor_pos hr2 hs2 (reds_short HR.out k1.out) (reds_short' HR.out k2.out) HR.out.pos).mono ?_
  rw [HR.out.floor hD.out, HE.out]
  obtain ⟨q, hq⟩ : ∃ q, q = (2 * x + y) / (2 * y) := ⟨_, rfl⟩
  rw [← hq]
  have HQ := Lib.hid hq
  rintro e w3 ⟨a3, c3, rfl, hr3, hbn⟩
  replace hby := hby.trans (hbn.mono hby.size)
  clear hr2 hs2 hq
  go_wp2_with fail
  clear hHeld
  refine hKK.out _ _ (hK.out _ hby) (fun hHeld => ?_)
  clear hKK K hbn
  try simp only [Act.put, List.setIfInBounds_toArray, List.set_cons_zero, List.set_cons_succ]
  obtain ⟨t0, t1, t2, t3, t4⟩ := hres.out.below hby
  have HL := Lib.hid (two_lm hr3 t0 t1 (.bool (sg q)) (.slice a3 (mg q).length c3))
  have HBF := Lib.hid (two_bel (G := w.heap.size + 1) (HBW.out.trans (hby.mono HBW.out.size)) (by omega) (.bool (sg q)) (.slice a3 (mg q).length c3))
  refine last_T (t := 4) rfl (by kernel_rfl) (by kernel_rfl) (fun K hKK => ?_)
  go_simp
  refine hKK.out _ _ ?_
  clear hHeld hr3 hby hKK K
  go_wp2_with fail
  exact bodyPost_ret (v := .agg #[.bool (sg q), .slice a3 (mg q).length c3]) (by simp [results, Tryz.results100, go_sem, t0, t1]) rfl (by rw [← HQ.out]; exact ⟨a3, c3, rfl, HL.out, HBF.out⟩)
end Go.Proofs.YtfpcfcegdjlggaaGreat
namespace Go.Proofs.YtfpcfcegdjlggaaGreat
open Go.RowKit Minor

/-- What step gives for M. -/
def GivesStp (w : World) (n : Nat) (M : Nat → Nat → Int) (e : Ending) (w' : World) : Prop :=
  Below w.heap.size w w' ∧ ((e = .returned (.tuple #[.slice none 0 0, .bool false]) ∧ RedZ M n) ∨
    ∃ g cap R U, e = .returned (.tuple #[.slice (some ⟨g, 0, none⟩) n cap, .bool true]) ∧ MatZ w' g n n R U ∧
      ((∃ i j, j < i ∧ i < n ∧ ¬SizedZ M i j ∧ (∀ q, j < q → q < i → SizedZ M i q) ∧ RedZ M i ∧ Elem U n i j ((2 * lamZ M i j + detZ M (j + 1)) / (2 * detZ M (j + 1)))) ∨
       (∃ s, s + 1 < n ∧ ¬LovaszZ M (s + 1) ∧ (∀ q, q < s + 1 → SizedZ M (s + 1) q) ∧ RedZ M (s + 1) ∧ Exch U n s)))

theorem near_reds {X Y x y : Int} (h : Reds X Y x y) (hy : 0 < y) : (2 * X + Y) / (2 * Y) = (2 * x + y) / (2 * y) := by
  have hp := h.pos
  have e := h.eq
  have h1 : (2 * X + Y) * (2 * y) = (2 * x + y) * (2 * Y) := by grind
  have e1 : (2 * X + Y) / (2 * Y) = ((2 * X + Y) * (2 * y)) / ((2 * Y) * (2 * y)) := (Int.mul_ediv_mul_of_pos_left _ _ (by omega)).symm
  have e2 : (2 * x + y) / (2 * y) = ((2 * x + y) * (2 * Y)) / ((2 * y) * (2 * Y)) := (Int.mul_ediv_mul_of_pos_left _ _ (by omega)).symm
  rw [e1, e2, h1, Int.mul_comm (2 * Y) (2 * y)]

theorem two_le_cB (t : Nat) : 2 ≤ cB (t + 1) := by
  have h1 := cB_step t
  have h2 := Nat.mul_le_mul (cB_pos t) (cB_pos t)
  omega

theorem hYb {X Y x y : Int} {t : Nat} (h : Reds X Y x y) (hy : y.natAbs ≤ cB t) : Y.natAbs ≤ cB t := by
  have h1 := h.pos
  have h2 := h.den
  omega

theorem exch_swap (n s : Nat) (_hs : s + 1 < n) : Exch (Minor.swapRows unitZ (s + 1) s) n s := by
  intro r c hr hc
  unfold Minor.swapRows tr
  by_cases e1 : r = s + 1
  · rw [if_pos e1]
    unfold unitZ
    by_cases e2 : c = s
    · rw [if_pos e2, if_pos e2.symm, if_pos e1]
    · rw [if_neg (Ne.symm e2), if_neg e2]
      by_cases e3 : c = s + 1
      · rw [if_pos e3, if_neg (by omega)]
      · rw [if_neg e3, if_neg (by omega)]
  · rw [if_neg e1]
    by_cases e2 : r = s
    · rw [if_pos e2]
      unfold unitZ
      by_cases e3 : c = s
      · rw [if_pos e3, if_neg (by omega), if_neg (by omega)]
      · rw [if_neg e3]
        by_cases e4 : c = s + 1
        · rw [if_pos e4, if_pos (by omega), if_pos e2]
        · rw [if_neg e4, if_neg (by omega), if_neg (by omega)]
    · rw [if_neg e2]
      unfold unitZ
      by_cases e3 : c = s
      · rw [if_pos e3, if_neg (by omega), if_neg (by omega)]
      · rw [if_neg e3]
        by_cases e4 : c = s + 1
        · rw [if_pos e4, if_neg (by omega), if_neg (by omega)]
        · rw [if_neg e4]

set_option maxRecDepth 100000 in
set_option maxHeartbeats 8000000 in
theorem rstep_any (g n cap : Nat) (R : Nat → Nat) (M : Nat → Nat → Int) (w : World) (hM : MatZ w g n n R M) (h1 : 1 ≤ n) (h2 : n ≤ 8) (hs : ∀ i j, i < n → j < n → (M i j).natAbs ≤ cB 0) (hD : ∀ k, k ≤ n → 0 < detZ M k) :
    Calls Tryz.prog 58 #[.slice (some ⟨g, 0, none⟩) n cap] w (GivesStp w n M) := by
  have HM := Lib.hid hM
  have HS := Lib.hid hs
  have HDP := Lib.hid hD
  clear hM hs hD
  go_enter Tryz.func58, Tryz.ntmps58
  go_wp2_with fail
  refine (rleading_any g n cap R M _ HM.out h1 h2 HS.out).mono ?_
  rintro e w1 ⟨b, c, rfl, hr, hb1⟩
  have HR1 := Lib.hid hr
  have HB1 := Lib.hid hb1
  clear hr hb1
  go_wp2_with fail
  refine (ridentity_any n _ h1 (by omega)).mono ?_
  rintro e w2 ⟨G, capG, R1, rfl, hT, hG, hR, hb2⟩
  have HT := Lib.hid hT
  have HGb : Hid (w.heap.size ≤ G) := Nat.le_trans HB1.out.size hG
  have HRb : Hid (∀ i, i < n → w.heap.size ≤ R1 i) := fun i hi => Nat.le_trans HB1.out.size (hR i hi)
  have HBW2 : Hid (Below w.heap.size w w2) := HB1.out.trans (hb2.mono HB1.out.size)
  have HRW : Hid (∀ w', Below w2.heap.size w2 w' → RowZ w' b n (fun k => detZ M (k + 1))) := fun w' h => HR1.out.belowU (hb2.trans (h.mono hb2.size))
  have HMW : Hid (∀ w', Below w2.heap.size w2 w' → MatZ w' g n n R M) := fun w' h => HM.out.below (HBW2.out.trans (h.mono HBW2.out.size))
  clear hT hG hR hb2
  go_wp2_with fail
  go_loopw [23] (fun ii wr => ∃ i : Nat, i ≤ n ∧ ii = .int .i64 (i : Int) ∧ Hid (RedZ M i) ∧ Hid (Below w2.heap.size w2 wr)) (fun ii _ => n - (intOf ii).toNat)
  case atStart => exact ⟨0, by omega, rfl, fun i hi => by omega, Below.refl _ _⟩
  case round =>
    obtain ⟨i, hin, rfl, hY, hB⟩ := hrel
    by_cases hi : i < n
    · go_wp2_with fail
      go_loopw [9] (fun jj wq => ∃ k : Nat, k ≤ i ∧ jj = .int .i64 ((k : Int) - 1) ∧ Hid (∀ q, k ≤ q → q < i → SizedZ M i q) ∧ Hid (Below w2.heap.size w2 wq)) (fun jj _ => (intOf jj + 1).toNat)
      case atStart =>
        have e1 : IntKind.i64.wrap ((i : Int) - 1) = (i : Int) - 1 := by rw [IntKind.wrap_i64]; omega
        first
          | exact ⟨i, by omega, rfl, fun q h3 h4 => by omega, hB⟩
          | exact ⟨i, by omega, by rw [e1], fun q h3 h4 => by omega, hB⟩
          | exact ⟨i, by omega, by go_num, fun q h3 h4 => by omega, hB⟩
      case round =>
        obtain ⟨k1, hki, rfl, hZ, hB2⟩ := hrel
        clear hB
        by_cases hk : 0 < k1
        · obtain ⟨k, rfl⟩ : ∃ k, k1 = k + 1 := ⟨k1 - 1, by omega⟩
          have e0 : ((k + 1 : Nat) : Int) - 1 = (k : Int) := by omega
          rw [e0]
          have hk0 : decide ((0 : Int) ≤ (k : Int)) = true := decide_eq_true (by omega)
          clear hk e0
          go_wp2_with fail
          refine (rsized_any g n cap b c i k R M _ (HMW.out _ hB2.out) (HRW.out _ hB2.out) h2 hi (by omega) HS.out).mono ?_
          rintro e w5 ⟨r, rfl, hsz, hb5⟩
          have hB5 : Hid (Below w2.heap.size w2 w5) := hB2.out.trans (hb5.mono hB2.out.size)
          clear hb5
          cases r with
          | false =>
            have hno : Hid (¬SizedZ M i k) := fun h => by have := hsz.2 h; simp at this
            have hMat := HT.out.below hB5.out
            obtain ⟨cG, aE, dE, o1, s0, s1, s2⟩ := hMat.entry k i (by omega) hi
            have f0 := (hMat.row k (by omega)).fr (i * 2)
            have f1 := (hMat.row k (by omega)).fr (i * 2 + 1)
            have hltR : R1 k < w5.heap.size := (hMat.row k (by omega)).lt
            have hK : Hid (∀ w', Below w5.heap.size w5 w' → w'.cell? ⟨G, k, none⟩ = some (.slice (some ⟨R1 k, 0, none⟩) n cG)) := fun w' h => cell_keep h o1
            have hbD : Below w5.heap.size w5 w5.drew := (Below.refl _ _).drew
            have hlb := lamZ_short (i := i) (j := k) h2 hi (by omega) HS.out
            have hdb : (detZ M (k + 1)).natAbs ≤ cB (k + 1) := detZ_short (by omega) fun p q hp hq => HS.out p q (by omega) (by omega)
            have hd0 := HDP.out (k + 1) (by omega)
            obtain ⟨l, hl⟩ : ∃ l, l = lamZ M i k := ⟨_, rfl⟩
            obtain ⟨d, hd⟩ : ∃ d, d = detZ M (k + 1) := ⟨_, rfl⟩
            rw [← hl] at hlb
            rw [← hd] at hdb hd0
            have HD0 : Hid (0 < d) := hd0
            have HBL : Hid (l.natAbs ≤ cB 8) := Nat.le_trans hlb (cB_mono (by omega))
            have HBD : Hid (d.natAbs ≤ cB 8) := Nat.le_trans hdb (cB_mono (by omega))
            have HB2' : Hid (2 ≤ cB 8) := two_le_cB 7
            have k1 : Hid ((mg l).length ≤ 1000000) := cB_short (k := 8) (by omega) HBL.out
            have k2 : Hid ((mg d).length ≤ 1000000) := cB_short (k := 8) (by omega) HBD.out
            obtain ⟨q, hq⟩ : ∃ q, q = (2 * l + d) / (2 * d) := ⟨_, rfl⟩
            have k3 : Hid ((mg q).length ≤ 1000000) := by
              refine cB_short (k := 9) (by omega) ?_
              have u1 := Int.natAbs_ediv_le_natAbs (2 * l + d) (2 * d)
              rw [← hq] at u1
              have u2 := cB_step 8
              have u3 := HBL.out
              have u4 := HBD.out
              have u5 : 3 * cB 8 ≤ 2 * (cB 8 * cB 8) := by
                have := Nat.mul_le_mul_right (cB 8) HB2'.out
                omega
              have u6 : cB (8 + 1) = cB 9 := rfl
              omega
            have HB2 := HB2'
            have HQ := Lib.hid hq
            have HL := Lib.hid hl
            have HD := Lib.hid hd
            have hLam : Hid (∀ w', Below w5.heap.size w5 w' → Calls Tryz.prog 102 #[.slice (some ⟨g, 0, none⟩) n cap, .int .i64 (i : Int), .int .i64 (k : Int)] w' (GivesZ w' l)) := fun w' h => by
              rw [hl]; exact rlambda_any g n cap i k R M w' (HMW.out _ (hB5.out.trans (h.mono hB5.out.size))) h2 hi (by omega) HS.out
            have hMin : Hid (∀ w', Below w5.heap.size w5 w' → Calls Tryz.prog 103 #[.slice (some ⟨b, 0, none⟩) n c, .int .i64 ((k : Int) + 1)] w' (GivesZ w' d)) := fun w' h => by
              rw [hd]; exact rminor_any b n c (k + 1) M w' (HRW.out _ (hB5.out.trans (h.mono hB5.out.size))) (by omega) h2
            have hw1 : IntKind.i64.wrap ((k : Int) + 1) = (k : Int) + 1 := by rw [IntKind.wrap_i64]; omega
            have z1 : (0 : Int) ≤ (k : Int) := by omega
            have z2 : (k : Int) < (n : Int) := by omega
            have z3 : (0 : Int) ≤ (i : Int) := by omega
            have z4 : (i : Int) < (n : Int) := by omega
            have S0 := Lib.hid s0
            have S1 := Lib.hid s1
            have HMAT := Lib.hid hMat
            clear hsz hMat s0 s1 s2 o1 hlb hdb hd0 hl hd hq HB2'
            go_wp2_with fail
            refine begin_T 17 (fun w' => w'.cell? ⟨G, k, none⟩ = some (.slice (some ⟨R1 k, 0, none⟩) n cG)) (by kernel_rfl) (hK.out _ hbD) (fun hHeld => ?_)
            have hby := hbD
            refine first_T (i := 0) (v := ?_) rfl (by kernel_rfl) (fun _ _ _ h => h) (by rfl) (fun w hSw => ?_) hHeld ?_
            rotate_left
            · ((try dsimp only at hSw); go_simp; (try with_reducible rfl))
            try simp only [Act.put, List.setIfInBounds_toArray, List.set_cons_zero, List.set_cons_succ]
            refine first_T (i := 1) (v := ?_) rfl (by kernel_rfl) (fun _ _ _ h => h) (by rfl) (fun w hSw => ?_) hHeld ?_
            rotate_left
            · ((try dsimp only at hSw); go_simp; (try with_reducible rfl))
            try simp only [Act.put, List.setIfInBounds_toArray, List.set_cons_zero, List.set_cons_succ]
            refine first_T (i := 2) (v := ?_) rfl (by kernel_rfl) (fun _ _ _ h => h) (by rfl) (fun w hSw => ?_) hHeld ?_
            rotate_left
            · ((try dsimp only at hSw); go_simp; (try with_reducible rfl))
            try simp only [Act.put, List.setIfInBounds_toArray, List.set_cons_zero, List.set_cons_succ]
            refine first_T (i := 3) (v := ?_) rfl (by kernel_rfl) (fun _ _ _ h => h) (by rfl) (fun w hSw => ?_) hHeld ?_
            rotate_left
            · ((try dsimp only at hSw); go_simp; (try with_reducible rfl))
            try simp only [Act.put, List.setIfInBounds_toArray, List.set_cons_zero, List.set_cons_succ]
            refine first_T (i := 4) (v := ?_) rfl (by kernel_rfl) (fun _ _ _ h => h) (by rfl) (fun w hSw => ?_) hHeld ?_
            rotate_left
            · ((try dsimp only at hSw); go_simp; (try with_reducible rfl))
            try simp only [Act.put, List.setIfInBounds_toArray, List.set_cons_zero, List.set_cons_succ]
            refine first_T (i := 5) (v := ?_) rfl (by kernel_rfl) (fun _ _ _ h => h) (by rfl) (fun w hSw => ?_) hHeld ?_
            rotate_left
            · ((try dsimp only at hSw); go_simp; (try with_reducible rfl))
            try simp only [Act.put, List.setIfInBounds_toArray, List.set_cons_zero, List.set_cons_succ]
            refine first_T (i := 6) (v := ?_) rfl (by kernel_rfl) (fun _ _ _ h => h) (by rfl) (fun w hSw => ?_) hHeld ?_
            rotate_left
            · ((try dsimp only at hSw); go_simp; (try with_reducible rfl))
            try simp only [Act.put, List.setIfInBounds_toArray, List.set_cons_zero, List.set_cons_succ]
            refine first_T (i := 7) (v := ?_) rfl (by kernel_rfl) (fun _ _ _ h => h) (by rfl) (fun w hSw => ?_) hHeld ?_
            rotate_left
            · ((try dsimp only at hSw); go_simp; (try with_reducible rfl))
            try simp only [Act.put, List.setIfInBounds_toArray, List.set_cons_zero, List.set_cons_succ]
            refine first_T (i := 9) (v := ?_) rfl (by kernel_rfl) (fun _ _ _ h => h) (by rfl) (fun w hSw => ?_) hHeld ?_
            rotate_left
            · ((try dsimp only at hSw); go_simp; (try with_reducible rfl))
            try simp only [Act.put, List.setIfInBounds_toArray, List.set_cons_zero, List.set_cons_succ]
            refine first_T (i := 10) (v := ?_) rfl (by kernel_rfl) (fun _ _ _ h => h) (by rfl) (fun w hSw => ?_) hHeld ?_
            rotate_left
            · ((try dsimp only at hSw); go_simp; (try with_reducible rfl))
            try simp only [Act.put, List.setIfInBounds_toArray, List.set_cons_zero, List.set_cons_succ]
            refine first_T (i := 11) (v := ?_) rfl (by kernel_rfl) (fun _ _ _ h => h) (by rfl) (fun w hSw => ?_) hHeld ?_
            rotate_left
            · ((try dsimp only at hSw); go_simp; (try with_reducible rfl))
            try simp only [Act.put, List.setIfInBounds_toArray, List.set_cons_zero, List.set_cons_succ]
            refine next_T (i := 8) rfl (by kernel_rfl) (fun K hKK => ?_)
            go_simp
            refine (hLam.out _ hby).mono ?_
            rintro e wn ⟨a8, c8, rfl, hr8, hbn⟩
            have hby2 := hby.trans (hbn.mono hby.size)
            clear hby
            have hby := hby2
            clear hby2
            go_wp2_with fail
            clear hHeld
            refine hKK.out _ _ (hK.out _ hby) (fun hHeld => ?_)
            clear hKK K hbn
            try simp only [Act.put, List.setIfInBounds_toArray, List.set_cons_zero, List.set_cons_succ]
            refine next_T (i := 12) rfl (by kernel_rfl) (fun K hKK => ?_)
            go_simp
            refine (hMin.out _ hby).mono ?_
            rintro e wn ⟨a12, c12, rfl, hr12, hbn⟩
            have hby2 := hby.trans (hbn.mono hby.size)
            replace hr8 := hr8.below hbn
            clear hby
            have hby := hby2
            clear hby2
            go_wp2_with fail
            clear hHeld
            refine hKK.out _ _ (hK.out _ hby) (fun hHeld => ?_)
            clear hKK K hbn
            try simp only [Act.put, List.setIfInBounds_toArray, List.set_cons_zero, List.set_cons_succ]
            refine next_T (i := 13) rfl (by kernel_rfl) (fun K hKK => ?_)
            go_simp
            refine (rquotient_pos hr8 hr12 k1.out k2.out HD0.out).mono ?_
            rintro e wn ⟨X, Y, hRd, a13, c13, b13, d13, rfl, hr13, hs13, hbn⟩
            have HRD := Lib.hid hRd
            clear hRd
            have hby2 := hby.trans (hbn.mono hby.size)
            clear hr8
            clear hr12
            clear hby
            have hby := hby2
            clear hby2
            go_wp2_with fail
            clear hHeld
            refine hKK.out _ _ (hK.out _ hby) (fun hHeld => ?_)
            clear hKK K hbn
            try simp only [Act.put, List.setIfInBounds_toArray, List.set_cons_zero, List.set_cons_succ]
            refine next_T (i := 14) rfl (by kernel_rfl) (fun K hKK => ?_)
            go_simp
            refine (rnearest_pos (t := 8) hr13 hs13 (by omega) (Nat.le_trans HRD.out.num HBL.out) (hYb HRD.out HBD.out) HB2.out HRD.out.pos).mono ?_
            rintro e wn ⟨a14, c14, rfl, hr14, hbn⟩
            rw [near_reds HRD.out HD0.out, ← HQ.out] at hr14
            rw [near_reds HRD.out HD0.out, ← HQ.out]
            have hby2 := hby.trans (hbn.mono hby.size)
            clear hr13
            clear hs13
            clear hby
            have hby := hby2
            clear hby2
            go_wp2_with fail
            clear hHeld
            refine hKK.out _ _ (hK.out _ hby) (fun hHeld => ?_)
            clear hKK K hbn
            try simp only [Act.put, List.setIfInBounds_toArray, List.set_cons_zero, List.set_cons_succ]
            refine next_T (i := 15) rfl (by kernel_rfl) (fun K hKK => ?_)
            go_simp
            refine (negZ hr14 k3.out).mono ?_
            rintro e wn ⟨a15, c15, rfl, hr15, hbn⟩
            have hby2 := hby.trans (hbn.mono hby.size)
            clear hr14
            clear hby
            have hby := hby2
            clear hby2
            go_wp2_with fail
            clear hHeld
            refine hKK.out _ _ (hK.out _ hby) (fun hHeld => ?_)
            clear hKK K hbn
            try simp only [Act.put, List.setIfInBounds_toArray, List.set_cons_zero, List.set_cons_succ]
            obtain ⟨z, hz⟩ : ∃ z, z = -q := ⟨_, rfl⟩
            rw [← hz] at hr15 ⊢
            have HZ := Lib.hid hz
            clear hz
            have t0 := cell_keep hby S0.out
            have t1 := cell_keep hby S1.out
            have t2 := (hby.frozen (p := ⟨R1 k, i * 2, none⟩) hltR).trans f0
            have t3 := (hby.frozen (p := ⟨R1 k, i * 2 + 1, none⟩) hltR).trans f1
            refine next_T (i := 16) rfl (by kernel_rfl) (fun K hKK => ?_)
            go_simp
            clear hHeld
            refine hKK.out _ _ (hK.out _ hby) (fun hHeld => ?_)
            clear hKK K
            try simp only [Act.put, List.setIfInBounds_toArray, List.set_cons_zero, List.set_cons_succ]
            refine last_T (t := 17) rfl (by kernel_rfl) (by kernel_rfl) (fun K hKK => ?_)
            go_simp
            refine hKK.out _ _ ?_
            have hRk := HRb.out k (by omega)
            have hfin : Hid (GivesStp w n M (.returned (.tuple #[.slice (some ⟨G, 0, none⟩) n capG, .bool true])) ((wn.setCell ⟨R1 k, i * 2, none⟩ (.bool (sg z))).setCell ⟨R1 k, i * 2 + 1, none⟩ (.slice a15 (mg z).length c15))) := by
              have hb9 : Below w.heap.size w wn := HBW2.out.trans ((hB5.out.trans (hby.mono hB5.out.size)).mono HBW2.out.size)
              refine ⟨(hb9.setCell (p := ⟨R1 k, i * 2, none⟩) hRk _).setCell (p := ⟨R1 k, i * 2 + 1, none⟩) hRk _, .inr ⟨G, capG, R1, _, rfl, (HMAT.out.below hby).store k i (by omega) hi z hr15, .inl ⟨i, k, by omega, hi, hno.out, fun q h3 h4 => hZ.out q (by omega) h4, hY.out, ?_⟩⟩⟩
              intro r s hr hs'
              show (if r = k ∧ s = i then z else unitZ r s) = _
              rw [← HL.out, ← HD.out, ← HQ.out, HZ.out]
              by_cases e : r = k ∧ s = i
              · rw [if_pos e, if_pos ⟨e.2, e.1⟩]
              · rw [if_neg e, if_neg (fun h => e ⟨h.2, h.1⟩)]; rfl
            clear hKK K hHeld hby hr15 t0 t1 t2 t3
            go_wp2_with fail
            go_ret2
            exact hfin.out
          | true =>
            have hnx : Hid (∀ q, k ≤ q → q < i → SizedZ M i q) := fun q h3 h4 => by
              by_cases e : q = k
              · rw [e]; exact hsz.1 rfl
              · exact hZ.out q (by omega) h4
            clear hsz
            go_wp2_with fail
            go_roundw
            case rel =>
              have e1 : IntKind.i64.wrap ((k : Int) - 1) = (k : Int) - 1 := by rw [IntKind.wrap_i64]; omega
              first
                | exact ⟨k, by omega, rfl, hnx, hB5⟩
                | exact ⟨k, by omega, by rw [e1], hnx, hB5⟩
                | exact ⟨k, by omega, by go_num, hnx, hB5⟩
            case measure => simp [intOf] <;> omega
        · obtain rfl : k1 = 0 := by omega
          have e0 : ((0 : Nat) : Int) - 1 = -1 := by omega
          rw [e0]
          have hk0 : decide ((0 : Int) ≤ (-1 : Int)) = false := by decide
          by_cases h0 : 0 < i
          · have hd0 : decide ((0 : Int) < (i : Int)) = true := decide_eq_true (by omega)
            go_wp2_with fail
            refine (rlovasz_any g n cap b c i R M _ (HMW.out _ hB2.out) (HRW.out _ hB2.out) h2 hi h0 HS.out).mono ?_
            rintro e w5 ⟨r, rfl, hlo, hb5⟩
            have hB5 : Hid (Below w2.heap.size w2 w5) := hB2.out.trans (hb5.mono hB2.out.size)
            clear hb5
            cases r with
            | false =>
              have hno : Hid (¬LovaszZ M i) := fun h => by have := hlo.2 h; simp at this
              obtain ⟨s, rfl⟩ : ∃ s, i = s + 1 := ⟨i - 1, by omega⟩
              have hMat := HT.out.below hB5.out
              obtain ⟨cp, o1⟩ := hMat.outer (s + 1) hi
              obtain ⟨ck, o2⟩ := hMat.outer s (by omega)
              have o3 := hMat.ofr (s + 1)
              have o4 := hMat.ofr s
              have hqm2 : (((s + 1 : Nat) : Int) - 1) = (s : Int) := by omega
              have hqm3 : ((s : Int) + 1 - 1) = (s : Int) := by omega
              have hw1 : IntKind.i64.wrap (s : Int) = (s : Int) := by rw [IntKind.wrap_i64]; omega
              have z1 : (0 : Int) ≤ (s : Int) := by omega
              have z2 : (s : Int) < (n : Int) := by omega
              have z3 : (0 : Int) ≤ (s : Int) + 1 := by omega
              have z4 : (s : Int) + 1 < (n : Int) := by omega
              have hpk : ¬(s + 1 = s) := by omega
              have hkp2 : ¬(s = s + 1) := by omega
              have hfin : Hid (∀ n5, GivesStp w n M (.returned (.tuple #[.slice (some ⟨G, 0, none⟩) n capG, .bool true])) (((w5.setCell ⟨G, s + 1, none⟩ (.slice (some ⟨R1 s, 0, none⟩) n ck)).setCell ⟨G, s, none⟩ (.slice (some ⟨R1 (s + 1), 0, none⟩) n cp)).drewN n5)) := by
                intro n5
                have hb9 : Below w.heap.size w w5 := HBW2.out.trans (hB5.out.mono HBW2.out.size)
                have hm := hMat.swap (s + 1) s hi (by omega) hpk (c := ck) (c' := cp)
                have hb8 : Below w.heap.size w ((w5.setCell ⟨G, s + 1, none⟩ (.slice (some ⟨R1 s, 0, none⟩) n ck)).setCell ⟨G, s, none⟩ (.slice (some ⟨R1 (s + 1), 0, none⟩) n cp)) := (hb9.setCell (p := ⟨G, s + 1, none⟩) HGb.out _).setCell (p := ⟨G, s, none⟩) HGb.out _
                refine ⟨below_drewN' hb8 n5, .inr ⟨G, capG, _, _, rfl, hm.below (below_drewN' (Below.refl _ _) n5), .inr ⟨s, hi, hno.out, fun q h3 => hZ.out q (Nat.zero_le _) h3, hY.out, exch_swap n s hi⟩⟩⟩
              clear hlo hMat
              go_wp2_with fail
              go_region
              all_goals go_wp2_with fail
              all_goals go_ret2
              all_goals first | exact hfin.out 1 | exact hfin.out _
            | true =>
              have hnx : Hid (RedZ M (i + 1)) := fun p hp => by
                by_cases e : p = i
                · rw [e]; exact ⟨fun q h3 => hZ.out q (Nat.zero_le _) h3, fun _ => hlo.1 rfl⟩
                · exact hY.out p (by omega)
              clear hlo
              go_wp2_with fail
              go_roundw
              case rel => exact ⟨i + 1, by omega, by go_num, hnx, hB5⟩
              case measure => simp [intOf]; omega
          · obtain rfl : i = 0 := by omega
            have hnx : Hid (RedZ M (0 + 1)) := fun p hp => by
              obtain rfl : p = 0 := by omega
              exact ⟨fun q hq => by omega, fun h => by omega⟩
            go_wp2_with fail
            go_roundw
            case rel => exact ⟨0 + 1, by omega, by go_num, hnx, hB2⟩
            case measure => simp [intOf]; omega
    · obtain rfl : i = n := by omega
      have hfin : Hid (GivesStp w i M (.returned (.tuple #[.slice none 0 0, .bool false])) wr) := ⟨HBW2.out.trans (hB.out.mono HBW2.out.size), .inl ⟨rfl, hY.out⟩⟩
      go_wp2_with fail
      go_ret2
      exact hfin.out
end Go.Proofs.YtfpcfcegdjlggaaGreat
namespace Go.Proofs.YtfpcfcegdjlggaaGreat.Minor
variable {a : Nat → Nat → Int} {n : Nat}

/-- The leading minors of a positive form are at most the products of its diagonal entries. -/
theorem D_le_pow (hsym : ∀ i j, i < n → j < n → a i j = a j i) (hD : ∀ m, m ≤ n → 0 < D a m) {M : Int} (hM : ∀ p, p < n → a p p ≤ M) (hM1 : 1 ≤ M) : ∀ m, m ≤ n → D a m ≤ M ^ m
  | 0, _ => by rw [D_zero, Int.pow_zero]; exact Int.le_refl _
  | m + 1, hm => by
    have ih := D_le_pow hsym hD hM hM1 m (by omega)
    have h1 := diag_le hsym hD m (by omega) m (Nat.le_refl _)
    have p0 := hD m (by omega)
    have e1 := Int.mul_le_mul_of_nonneg_left (hM m (by omega)) (Int.le_of_lt p0)
    have e2 := Int.mul_le_mul_of_nonneg_right ih (show 0 ≤ M by omega)
    rw [D_succ, Int.pow_succ]
    omega

theorem pow_le_pow {c : Int} (h : 1 ≤ c) {s t : Nat} (hst : s ≤ t) : c ^ s ≤ c ^ t := by
  obtain ⟨d, rfl⟩ : ∃ d, t = s + d := ⟨t - s, by omega⟩
  have u1 := pow_ge_one h d
  have u2 := pow_ge_one h s
  have u3 := Int.mul_le_mul_of_nonneg_left u1 (show 0 ≤ c ^ s by omega)
  rw [Int.pow_add]
  omega

/-- Bounds that are great enough, for forms of up to 8 rows with diagonal entries of up to M. -/
theorem great_of {M : Int} (hM1 : 1 ≤ M) (hn : n ≤ 8) : Great n (M ^ 8) ((M ^ 8) ^ 8 * 8) (2 * (M ^ 8 * ((M ^ 8) ^ 8 * 8))).toNat := by
  have h1 := pow_ge_one hM1 8
  generalize M ^ 8 = c at *
  have h2 := pow_ge_one h1 8
  have h3 := Int.mul_le_mul_of_nonneg_left (show (1 : Int) ≤ c ^ 8 * 8 by omega) (show 0 ≤ c by omega)
  refine ⟨by omega, fun t ht => ?_, by omega, by omega⟩
  have h4 := pow_le_pow h1 (show t + 1 ≤ 8 by omega)
  have h5 := pow_ge_one h1 (t + 1)
  have h6 := Int.mul_le_mul_of_nonneg_right h4 (show (0 : Int) ≤ (t : Int) + 1 by omega)
  have h7 := Int.mul_le_mul_of_nonneg_left (show (t : Int) + 1 ≤ 8 by omega) (show 0 ≤ c ^ 8 by omega)
  omega

/-- .. so the first form is tame. -/
theorem Tame.start (hsym : ∀ i j, i < n → j < n → a i j = a j i) (hD : ∀ m, m ≤ n → 0 < D a m) {M : Int} (hM : ∀ p, p < n → a p p ≤ M) (hM1 : 1 ≤ M) (hn : n ≤ 8) : Tame a n (M ^ 8) ((M ^ 8) ^ 8 * 8) (2 * (M ^ 8 * ((M ^ 8) ^ 8 * 8))).toNat := by
  refine ⟨hsym, hD, fun m hm => Int.le_trans (D_le_pow hsym hD hM hM1 m hm) (pow_le_pow hM1 (by omega)), .inl fun p hp => ?_⟩
  have h0 := hM p hp
  have h1 := pow_le_pow hM1 (show 1 ≤ 8 by omega)
  rw [show M ^ 1 = M from by rw [Int.pow_succ, Int.pow_zero, Int.one_mul]] at h1
  have h2 := pow_ge_one hM1 8
  have h3 := pow_le_pow h2 (show 1 ≤ 8 by omega)
  rw [show (M ^ 8) ^ 1 = M ^ 8 from by rw [Int.pow_succ, Int.pow_zero, Int.one_mul]] at h3
  omega

/-- Condition 4 with d_(i-1), d_i, d_(i+1) and lambda(i, i-1). -/
theorem lov_iff (hsym : ∀ i j, i < n → j < n → a i j = a j i) (hD : ∀ m, m ≤ n → 0 < D a m) (s : Nat) (hs : s + 1 < n) : 3 * (D a (s + 1) * D a (s + 1)) ≤ 4 * (D a s * D a (s + 2) + B a s (s + 1) s * B a s (s + 1) s) ↔ LovAt a s := by
  have hne : ∀ m, m ≤ n → D a m ≠ 0 := fun m hm => by have := hD m hm; omega
  have h1 := sylvester a s (s + 1) (s + 1) fun m hm => hne m (by omega)
  rw [← D_succ, ← D_succ, B_symm hsym s (fun m hm => hne m (by omega)) (by omega) s (s + 1) (by omega) hs] at h1
  have p1 := hD (s + 1) (by omega)
  have e1 : D a s * D a (s + 2) + B a s (s + 1) s * B a s (s + 1) s = D a (s + 1) * B a s (s + 1) (s + 1) := by
    rw [show D a (s + 1 + 1) = D a (s + 2) from rfl] at h1
    omega
  unfold LovAt
  rw [e1]
  have e2 : 4 * (D a (s + 1) * B a s (s + 1) (s + 1)) = D a (s + 1) * (4 * B a s (s + 1) (s + 1)) := by grind
  have e3 : 3 * (D a (s + 1) * D a (s + 1)) = D a (s + 1) * (3 * D a (s + 1)) := by grind
  rw [e2, e3]
  exact ⟨fun h => Int.le_of_mul_le_mul_left h p1, fun h => Int.mul_le_mul_of_nonneg_left h (Int.le_of_lt p1)⟩

/-- Where nothing is left to do the form is reduced. -/
theorem Tame.conds {c A : Int} {E : Nat} (ht : Tame a n c A E) (hs : ∀ p k, k < p → p < n → SizedAt a p k) (hl : ∀ k, k + 1 < n → LovAt a k) : Conds a n :=
  ⟨ht.sym, ht.pos, fun k i hk hi => hs i k hk hi, hl⟩
end Go.Proofs.YtfpcfcegdjlggaaGreat.Minor
namespace Go.Proofs.YtfpcfcegdjlggaaGreat
open Go.RowKit Minor

theorem tame_lam {a : Nat → Nat → Int} {n : Nat} {c A : Int} {E : Nat} (hg : Great n c A E) (ht : Tame a n c A E) (k i : Nat) (hk : k < i) (hi : i < n) : 2 * (B a k i k).natAbs ≤ (E * 2 ^ n) * (D a (k + 1)).natAbs := by
  have h2 : E ≤ E * 2 ^ n := Nat.le_mul_of_pos_right _ (Nat.two_pow_pos _)
  rcases ht.rows with hA | ⟨i0, j0, hw⟩
  · exact Nat.le_trans (lambda_row ht.sym ht.pos ht.le i k hk hi (hA i hi) hg.one hg.start) (Nat.mul_le_mul_right _ h2)
  · by_cases e : i = i0
    · subst e
      exact Nat.le_trans (hw.row k hk) (Nat.mul_le_mul_right _ (Nat.mul_le_mul_left _ (Nat.pow_le_pow_right (by omega) (by omega))))
    · exact Nat.le_trans (lambda_row ht.sym ht.pos ht.le i k hk hi (hw.diag i hi e) hg.one hg.start) (Nat.mul_le_mul_right _ h2)

theorem quot_bound {l d q : Int} {K : Nat} (hd : 0 < d) (hq : q = (2 * l + d) / (2 * d)) (h : 2 * l.natAbs ≤ K * d.natAbs) : q.natAbs ≤ K + 1 := by
  have h1 := nearest hd hq
  have h2 : (q * d).natAbs ≤ l.natAbs + (l - q * d).natAbs := by omega
  rw [Int.natAbs_mul] at h2
  have h3 : (2 * q.natAbs) * d.natAbs ≤ (K + 1) * d.natAbs := by
    rw [Nat.add_mul, Nat.one_mul, Nat.mul_assoc]
    omega
  have := Nat.le_of_mul_le_mul_right h3 (by omega)
  omega

section
variable {M : Nat → Nat → Int} {n : Nat}
theorem detZ_D (hD : ∀ m, m ≤ n → 0 < D M m) (k : Nat) (hk : k ≤ n) : detZ M k = D M k := detL_eq fun m hm => by have := hD m (by omega); omega
theorem lamZ_B (hD : ∀ m, m ≤ n → 0 < D M m) (i j : Nat) (hj : j ≤ n) : lamZ M i j = B M j i j := lamL_eq fun m hm => by have := hD m (by omega); omega
theorem sizedZ_iff (hD : ∀ m, m ≤ n → 0 < D M m) (i j : Nat) (hj : j < n) : SizedZ M i j ↔ SizedAt M i j := by
  unfold SizedZ SizedAt
  rw [detZ_D hD (j + 1) (by omega), lamZ_B hD i j (by omega)]
  have := hD (j + 1) (by omega)
  omega
theorem lovaszZ_iff (hsym : ∀ i j, i < n → j < n → M i j = M j i) (hD : ∀ m, m ≤ n → 0 < D M m) (s : Nat) (hs : s + 1 < n) : LovaszZ M (s + 1) ↔ LovAt M s := by
  unfold LovaszZ
  rw [show s + 1 - 1 = s from rfl, show s + 1 + 1 = s + 2 from rfl, detZ_D hD (s + 1) (by omega), detZ_D hD s (by omega), detZ_D hD (s + 2) (by omega), lamZ_B hD (s + 1) s (by omega)]
  exact lov_iff hsym hD s hs
end

/-- What step's matrix is. -/
def StepU (M U : Nat → Nat → Int) (n : Nat) : Prop :=
  (∃ i j, j < i ∧ i < n ∧ ¬SizedZ M i j ∧ (∀ q, j < q → q < i → SizedZ M i q) ∧ RedZ M i ∧ Elem U n i j ((2 * lamZ M i j + detZ M (j + 1)) / (2 * detZ M (j + 1)))) ∨
  (∃ s, s + 1 < n ∧ ¬LovaszZ M (s + 1) ∧ (∀ q, q < s + 1 → SizedZ M (s + 1) q) ∧ RedZ M (s + 1) ∧ Exch U n s)

section
variable {M U T A0 : Nat → Nat → Int} {n : Nat} {c A : Int} {E : Nat}

theorem red_sized (hD : ∀ m, m ≤ n → 0 < D M m) {i : Nat} (h : RedZ M i) (hi : i ≤ n) (p k : Nat) (hk : k < p) (hp : p < i) : SizedAt M p k := (sizedZ_iff hD p k (by omega)).1 ((h p hp).1 k hk)
theorem red_lov (hsym : ∀ i j, i < n → j < n → M i j = M j i) (hD : ∀ m, m ≤ n → 0 < D M m) {i : Nat} (h : RedZ M i) (hi : i ≤ n) (k : Nat) (hk : k + 1 < i) : LovAt M k := (lovaszZ_iff hsym hD k (by omega)).1 ((h (k + 1) hk).2 (by omega))

theorem stepU_tame (hg : Great n c A E) (ht : Tame M n c A E) (hu : StepU M U n) :
    Tame (congM n M U) n c A E ∧ height (congM n M U) n < height M n ∧ D (congM n M U) n = D M n ∧ (Cong A0 n T M → Cong A0 n (mulM n T U) (congM n M U)) ∧ ∀ r c, r < n → c < n → (U r c).natAbs ≤ E * 2 ^ n + 1 := by
  have hD := ht.pos
  have hne : ∀ m, m ≤ n → D M m ≠ 0 := fun m hm => by have := hD m hm; omega
  have hE : 1 ≤ E * 2 ^ n := Nat.mul_pos hg.pos (Nat.two_pow_pos _)
  rcases hu with ⟨i, j, hji, hi, hno, hrow, hred, hU⟩ | ⟨s, hs, hno, hrow, hred, hU⟩
  · rw [detZ_D hD (j + 1) (by omega), lamZ_B hD i j (by omega)] at hU
    obtain ⟨q, hq⟩ : ∃ q, q = (2 * B M j i j + D M (j + 1)) / (2 * D M (j + 1)) := ⟨_, rfl⟩
    rw [← hq] at hU
    have hsh : Shear M (congM n M U) n i j q := hU.shear hji hi fun p c _ _ => congM_bl n M U p c
    have hbad : ¬SizedAt M i j := fun h => hno ((sizedZ_iff hD i j (by omega)).2 h)
    have hold : ∀ p k, k < p → p < n → (p < i ∨ (p = i ∧ j < k)) → SizedAt M p k := fun p k hk hp ho => by
      rcases ho with h | ⟨rfl, h⟩
      · exact red_sized hD hred (by omega) p k hk h
      · exact (sizedZ_iff hD p k (by omega)).1 (hrow k h hk)
    have hlov : ∀ k, k + 1 < i → LovAt M k := fun k hk => red_lov ht.sym hD hred (by omega) k hk
    refine ⟨ht.shear hg hsh hji hi hq hbad hold hlov, height_shear hsh hji hi hD hq hbad hold, shear_D hsh hji hi hne n (Nat.le_refl _), fun hc => hc.shear hsh (by omega) hi fun r c hr hc => hU.prod hji hi (fun r c _ _ => mulM_S n T U r c) r c hr hc, fun r c hr hc => ?_⟩
    have hqb := quot_bound (hD (j + 1) (by omega)) hq (tame_lam hg ht j i hji hi)
    rw [hU r c hr hc]
    split
    · rw [Int.natAbs_neg]; exact hqb
    · split <;> omega
  · have hh : ∀ p c, p < n → c < n → congM n M U p c = M (tr s p) (tr s c) := fun p c hp hc => hU.swap hs (fun p c _ _ => congM_bl n M U p c) p c hp hc
    have hl : 4 * B M s (s + 1) (s + 1) < 3 * D M (s + 1) := by
      have : ¬LovAt M s := fun h => hno ((lovaszZ_iff ht.sym hD s hs).2 h)
      unfold LovAt at this
      omega
    have hold : ∀ p k, k < p → p ≤ s + 1 → SizedAt M p k := fun p k hk hp => by
      by_cases e : p = s + 1
      · subst e
        exact (sizedZ_iff hD (s + 1) k (by omega)).1 (hrow k hk)
      · exact red_sized hD hred (by omega) p k hk (by omega)
    refine ⟨ht.swap hg hh hs hl hold, height_swap hh hs ht.sym hD hl, (swap_D hh hs ht.sym hD hl).2.2 n (Nat.le_refl _) (by omega), fun hc => hc.swap hs hh fun r c hr hc => hU.prod hs (fun r c _ _ => mulM_S n T U r c) r c hr hc, fun r c hr hc => ?_⟩
    rw [hU r c hr hc]
    split <;> omega

/-- Where nothing is left to do the entries are small. -/
theorem red_small (ht : Tame M n c A E) (hn : n ≤ 8) (hd : D M n ≤ 10000) (hr : RedZ M n) (i j : Nat) (hi : i < n) (hj : j < n) : (M i j).natAbs < 1073741824 := by
  have hD := ht.pos
  have hc : Conds M n := ht.conds (fun p k hk hp => red_sized hD hr (Nat.le_refl _) p k hk hp) (fun k hk => red_lov ht.sym hD hr (Nat.le_refl _) k hk)
  have hd' : (D M n).natAbs ≤ 10000 := by have := hD n (Nat.le_refl _); omega
  rcases Nat.le_total j i with e | e
  · have := hc.small hn hd' 0 i j (Nat.zero_le _) e hi
    rwa [B_zero] at this
  · have := hc.small hn hd' 0 j i (Nat.zero_le _) e hj
    rw [B_zero] at this
    rwa [ht.sym i j hi hj]
end

/-- The bounds for diagonal entries of up to 9. -/
def c9 : Int := 9 ^ 8
def A9 : Int := (9 ^ 8) ^ 8 * 8
def E9 : Nat := (2 * (9 ^ 8 * ((9 ^ 8) ^ 8 * 8)) : Int).toNat
theorem great9 {n : Nat} (hn : n ≤ 8) : Great n c9 A9 E9 := great_of (M := 9) (by decide) hn
def H9 (n : Nat) : Nat := (A9 * (A9 * (((E9 * 2 ^ n : Nat) : Int) * ((E9 * 2 ^ n : Nat) : Int)))).natAbs
def F9 (n : Nat) : Int := A9 * (((E9 * 2 ^ n : Nat) : Int) * ((E9 * 2 ^ n : Nat) : Int))
def T9 (n : Nat) : Nat := (c9 ^ n * F9 n).natAbs * (1 + n * (E9 * 2 ^ n * c9.toNat)) ^ n

theorem eight {n : Nat} (hn : n ≤ 8) : n = 0 ∨ n = 1 ∨ n = 2 ∨ n = 3 ∨ n = 4 ∨ n = 5 ∨ n = 6 ∨ n = 7 ∨ n = 8 := by omega
theorem h9_fits {n : Nat} (hn : n ≤ 8) : H9 n ≤ cB 0 := by
  rcases eight hn with rfl | rfl | rfl | rfl | rfl | rfl | rfl | rfl | rfl <;> decide +kernel
theorem u9_fits {n : Nat} (hn : n ≤ 8) : E9 * 2 ^ n + 1 ≤ cB 0 := by
  rcases eight hn with rfl | rfl | rfl | rfl | rfl | rfl | rfl | rfl | rfl <;> decide +kernel
theorem t9_fits {n : Nat} (hn : n ≤ 8) : T9 n ≤ cB 2 := by
  rcases eight hn with rfl | rfl | rfl | rfl | rfl | rfl | rfl | rfl | rfl <;> decide +kernel
theorem f9_one {n : Nat} (hn : n ≤ 8) : 1 ≤ F9 n := by
  rcases eight hn with rfl | rfl | rfl | rfl | rfl | rfl | rfl | rfl | rfl <;> decide +kernel

theorem tame_h9 {M : Nat → Nat → Int} {n : Nat} (hn : n ≤ 8) (ht : Tame M n c9 A9 E9) (i j : Nat) (hi : i < n) (hj : j < n) : (M i j).natAbs ≤ cB 0 := Nat.le_trans (ht.entry (great9 hn) i j hi hj) (h9_fits hn)

theorem cong_t9 {A0 T M : Nat → Nat → Int} {n : Nat} (hn : n ≤ 8) (h0 : Tame A0 n c9 A9 E9) (ht : Tame M n c9 A9 E9) (hc : Cong A0 n T M) (i j : Nat) (hi : i < n) (hj : j < n) : (T i j).natAbs ≤ cB 2 := by
  refine Nat.le_trans (hc.entry h0.sym h0.pos h0.le (F := F9 n) (fun p hp => ht.diag (great9 hn) p hp) (f9_one hn) (G := E9 * 2 ^ n * c9.toNat) (fun k i hk hi => ?_) i j hi hj) (t9_fits hn)
  have h1 := tame_lam (great9 hn) h0 k i hk hi
  have h2 := h0.le (k + 1) (by omega)
  have h3 := h0.pos (k + 1) (by omega)
  have h4 : (D A0 (k + 1)).natAbs ≤ c9.toNat := by omega
  have h5 := Nat.mul_le_mul_left (E9 * 2 ^ n) h4
  omega
end Go.Proofs.YtfpcfcegdjlggaaGreat
namespace Go.Proofs.YtfpcfcegdjlggaaGreat
open Go.RowKit Minor

/-- Rows ahead of i are filled, and the first q entries of row i. -/
def fillI (M : Nat → Nat → Int) (i q a b : Nat) : Int := if a < i ∨ (a = i ∧ b < q) then M a b else 0

theorem i64_to {x : Int} (h : I64 x) : to64 x = x ∧ in64 x = true := by
  have h2 : in64 x = true := in64_yes h
  exact ⟨by unfold to64; rw [h2]; simp, h2⟩

def GivesLT (w : World) (n m : Nat) (M : Nat → Nat → Int) (e : Ending) (w' : World) : Prop :=
  ∃ G R, e = .returned (.tuple #[.slice (some ⟨G, 0, none⟩) n n, .bool true]) ∧ MatP w w' G n m n R M

set_option maxRecDepth 100000 in
set_option maxHeartbeats 4000000 in
theorem rtoints_any (g n m cap : Nat) (R : Nat → Nat) (M : Nat → Nat → Int) (w : World) (hM : MatZ w g n m R M) (h1 : 1 ≤ n) (h2 : n ≤ 16) (h3 : 1 ≤ m) (h4 : m ≤ 16) (hs : ∀ i j, i < n → j < m → I64 (M i j)) :
    Calls Tryz.prog 59 #[.slice (some ⟨g, 0, none⟩) n cap] w (GivesLT w n m M) := by
  have HM := Lib.hid hM
  have HS := Lib.hid hs
  clear hM hs
  go_enter Tryz.func59, Tryz.ntmps59
  go_wp2_with fail
  refine (rshape_any g n m cap R M _ HM.out h1 h2 h3 h4).mono ?_
  rintro e w0 ⟨rfl, hb0⟩
  have HB0 := Lib.hid hb0
  have hmk := run_make_row' (P := Tryz.prog) 22 23 (.slice none 0 0) 24 Tryz.underlying22 infoHR rfl .i64 .i64 n (by omega) (by omega) w0
  have hmk2 : Hid (∀ W : World, _) := fun W => run_make_row' (P := Tryz.prog) 23 2 (.int .i64 0) 8 Tryz.underlying23 infoH rfl .i64 .i64 m (by omega) (by omega) W
  obtain ⟨W, hW⟩ : ∃ W, W = w0.alloc (.cells (madeCells #[.slice none 0 0] n) 23) := ⟨_, rfl⟩
  have hst : Hid (∃ R', MatP w W w0.heap.size n m 0 R' (fillI M 0 0)) := by
    rw [hW]
    exact ⟨fun _ => 0, (MatP.start w0 n m 23 _ _).rebase hb0⟩
  have HWW : Hid (w0.alloc (.cells (madeCells #[.slice none 0 0] n) 23) = W) := hW.symm
  clear hb0 hW
  go_wp2_with fail
  rw [HWW.out]
  clear hmk
  go_loopw [24] (fun ii wr => ∃ i : Nat, i ≤ n ∧ ii = .int .i64 (i : Int) ∧ Hid (∃ R', MatP w wr w0.heap.size n m i R' (fillI M i 0))) (fun ii _ => n - (intOf ii).toNat)
  case atStart => exact ⟨0, by omega, rfl, hst⟩
  case round =>
    obtain ⟨i, hin, rfl, hC⟩ := hrel
    clear hst
    by_cases hi : i < n
    · obtain ⟨R1, hC1⟩ := hC.out
      have hmk := hmk2.out wr
      have hA : Below wr.heap.size wr (wr.alloc (.cells (madeCells #[.int .i64 0] m) 2)) := (Below.refl _ _).alloc (Nat.le_refl _) _
      have ho := (hC1.moved hA).rest i (Nat.le_refl _) hi
      have hf := (hC1.moved hA).ofr i
      have hnx : Hid (∃ R', MatP w ((wr.alloc (.cells (madeCells #[.int .i64 0] m) 2)).setCell ⟨w0.heap.size, i, none⟩ (.slice (some ⟨wr.heap.size, 0, none⟩) m m)) w0.heap.size n m (i + 1) R' (fillI M i 0)) :=
        ⟨_, (hC1.add hi 2).congr fun a b ha hb => by
          unfold fillI
          by_cases e : a = i
          · rw [if_pos e, if_neg (by omega)]
          · rw [if_neg e]⟩
      clear hC1 hA hC
      have hin64 : (i : Int) < (n : Int) := by omega
      go_wp2_with fail
      go_loopw [37] (fun qq wq => ∃ q : Nat, q ≤ m ∧ qq = .int .i64 (q : Int) ∧ Hid (∃ R', MatP w wq w0.heap.size n m (i + 1) R' (fillI M i q))) (fun qq _ => m - (intOf qq).toNat)
      case atStart => exact ⟨0, by omega, rfl, hnx⟩
      case round =>
        obtain ⟨q, hqm, rfl, hD⟩ := hrel
        clear hnx hmk ho hf
        by_cases hq : q < m
        · obtain ⟨R1, hD1⟩ := hD.out
          obtain ⟨cS, aS, dS, u1, v0, v1, v2⟩ := (HM.out.below hD1.below).entry i q hi hq
          have hI := HS.out i q hi hq
          obtain ⟨hx1, hx2⟩ := i64_to hI
          have hlen : Hid ((mg (M i q)).length ≤ 1000000) := by
            unfold I64 at hI
            exact cB_short (k := 0) (by omega) (by have := cB_zero; omega)
          obtain ⟨x, hx⟩ : ∃ x, x = M i q := ⟨_, rfl⟩
          rw [← hx] at v0 v1 v2 hx1 hx2 hlen
          have HX := Lib.hid hx
          have HX1 := Lib.hid hx1
          have HX2 := Lib.hid hx2
          have HD1 := Lib.hid hD1
          have HLX := Lib.hid v2
          clear v2 hI hx hx1 hx2 hD hD1
          go_wp2_with fail
          refine (int64Z HLX.out hlen.out).mono ?_
          rw [HX1.out, HX2.out]
          rintro e w5 ⟨rfl, hb5⟩
          have hD5 := HD1.out.moved hb5
          obtain ⟨c5, o5, _⟩ := hD5.outer i (by omega)
          have t0 := (hD5.row i (by omega)).c q hq
          have t1 := (hD5.row i (by omega)).fr q
          have t2 := hD5.ofr i
          obtain ⟨y, hy⟩ : ∃ y, y = fillI M i q i q := ⟨_, rfl⟩
          rw [← hy] at t0
          have hnx : Hid (∃ R', MatP w (w5.setCell ⟨R1 i, q, none⟩ (.int .i64 x)) w0.heap.size n m (i + 1) R' (fillI M i (q + 1))) :=
            ⟨R1, (hD5.store i q (by omega) hq x).congr fun a b ha hb => by
              unfold fillI
              by_cases e : a = i ∧ b = q
              · obtain ⟨rfl, rfl⟩ := e
                rw [if_pos ⟨rfl, rfl⟩, if_pos (by omega)]; exact HX.out
              · rw [if_neg e]
                by_cases h : a < i ∨ (a = i ∧ b < q)
                · rw [if_pos h, if_pos (by omega)]
                · rw [if_neg h, if_neg (by omega)]⟩
          have hq64 : (q : Int) < (m : Int) := by omega
          clear hb5 hD5 hy u1 v0 v1 HD1
          go_wp2_with fail
          go_roundw
          case rel => exact ⟨q + 1, by omega, by go_num, hnx⟩
          case measure => simp [intOf]; omega
        · obtain rfl : q = m := by omega
          have hnx : Hid (∃ R', MatP w wr w0.heap.size n q (i + 1) R' (fillI M (i + 1) 0)) := by
            obtain ⟨R1, hD1⟩ := hD.out
            exact ⟨R1, hD1.congr fun a b ha hb => by
              unfold fillI
              by_cases h : a < i ∨ (a = i ∧ b < q)
              · rw [if_pos h, if_pos (by omega)]
              · rw [if_neg h, if_neg (by omega)]⟩
          clear hD
          go_wp2_with fail
          go_roundw
          case rel => exact ⟨i + 1, by omega, by go_num, hnx⟩
          case measure => simp [intOf]; omega
    · obtain rfl : i = n := by omega
      have hfin : Hid (GivesLT w i m M (.returned (.tuple #[.slice (some ⟨w0.heap.size, 0, none⟩) i i, .bool true])) wr) := by
        obtain ⟨R1, hC1⟩ := hC.out
        exact ⟨_, R1, rfl, hC1.congr fun a b ha hb => by unfold fillI; rw [if_pos (by omega)]⟩
      clear hC
      go_wp2_with fail
      go_ret2
      exact hfin.out
end Go.Proofs.YtfpcfcegdjlggaaGreat
namespace Go.Proofs.YtfpcfcegdjlggaaGreat
open Go.RowKit Minor

/-- A form that Reduce takes, in a few rows. -/
structure Form9 (A : Nat → Nat → Int) (n : Nat) : Prop where
  sym : ∀ i j, i < n → j < n → A i j = A j i
  pos : ∀ k, k ≤ n → 0 < D A k
  det : D A n ≤ 10000
  diag : ∀ p, p < n → A p p ≤ 9

/-- A reduced form as a list. -/
def GivesRed (w : World) (n : Nat) (e : Ending) (w' : World) : Prop :=
  ∃ G R M tv, e = .returned (.tuple #[.slice (some ⟨G, 0, none⟩) n n, tv, .int .i64 0]) ∧ MatP w w' G n n n R M ∧ (∀ i j, i < n → j < n → (M i j).natAbs < 1073741824)

theorem step_u {w w' : World} {n : Nat} {M : Nat → Nat → Int} {e : Ending} (h : GivesStp w n M e w') :
    Below w.heap.size w w' ∧ ((e = .returned (.tuple #[.slice none 0 0, .bool false]) ∧ RedZ M n) ∨ ∃ g cap R U, e = .returned (.tuple #[.slice (some ⟨g, 0, none⟩) n cap, .bool true]) ∧ MatZ w' g n n R U ∧ StepU M U n) := h

set_option maxRecDepth 100000 in
set_option maxHeartbeats 8000000 in
theorem rreduce_any (g n cap : Nat) (R : Nat → Nat) (A : Nat → Nat → Int) (w : World) (hM : MatZ w g n n R A) (h1 : 1 ≤ n) (h2 : n ≤ 8) (hA : Form9 A n) :
    Calls Tryz.prog 29 #[.slice (some ⟨g, 0, none⟩) n cap] w (GivesRed w n) := by
  have ht0 : Tame A n c9 A9 E9 := Tame.start (M := 9) hA.sym hA.pos hA.diag (by decide) h2
  have HT0 := Lib.hid ht0
  have HS : Hid (∀ i j, i < n → j < n → (A i j).natAbs ≤ cB 0) := fun i j hi hj => tame_h9 h2 ht0 i j hi hj
  have HM := Lib.hid hM
  have HFA := Lib.hid hA
  have hdet : Hid (detZ A n ≤ 10000) := by unfold Hid; rw [detZ_D hA.pos n (Nat.le_refl _)]; exact hA.det
  have hval : Hid (n = n ∧ n ≤ 8 ∧ SymN A n ∧ ∀ k, k < n → 0 < detZ A (k + 1)) := ⟨rfl, h2, fun i j hi hj => hA.sym i j hi (by omega), fun k hk => by rw [detZ_D hA.pos (k + 1) (by omega)]; exact hA.pos (k + 1) (by omega)⟩
  clear hM hA ht0
  go_enter Tryz.func29, Tryz.ntmps29
  go_wp2_with fail
  refine (rvalidate_any g n n cap R A _ HM.out h1 (by omega) h1 (by omega) HS.out).mono ?_
  rintro e w1 ⟨r, rfl, hr, hb1⟩
  obtain rfl := hr.2 ⟨rfl, hval.out.2⟩
  have HB1 := Lib.hid hb1
  clear hr hb1
  go_wp2_with fail
  refine (rsmall_form g n cap R A _ (HM.out.below HB1.out) h1 h2 HS.out).mono ?_
  rintro e w2 ⟨r, rfl, hr, hb2⟩
  obtain rfl := hr.2 hdet.out
  have HB2 : Hid (Below w.heap.size w w2) := HB1.out.trans (hb2.mono HB1.out.size)
  clear hr hb2
  go_wp2_with fail
  refine (rcopy_any g n n cap R A _ (HM.out.below HB2.out) (by omega) h1 (by omega) (fun i j hi hj => cB_short (k := 0) (by omega) (HS.out i j hi hj))).mono ?_
  rintro e w3 ⟨gh, ch, Rh, rfl, hH, hgh, hRh, hb3⟩
  have HB3 : Hid (Below w.heap.size w w3) := HB2.out.trans (hb3.mono HB2.out.size)
  have HH := Lib.hid hH
  clear hH hgh hRh hb3
  go_wp2_with fail
  refine (ridentity_any n _ h1 (by omega)).mono ?_
  rintro e w4 ⟨gt, ct, Rt, rfl, hT, hgt, hRt, hb4⟩
  have HB4 : Hid (Below w.heap.size w w4) := HB3.out.trans (hb4.mono HB3.out.size)
  have HH4 : Hid (MatZ w4 gh n n Rh A) := HH.out.below hb4
  have HT4 := Lib.hid hT
  have HC4 : Hid (Cong A n unitZ A) := Cong.start A n
  have HD4 : Hid (D A n ≤ 10000) := HFA.out.det
  clear hT hgt hRt hb4
  go_wp2_with fail
  go_loopg [6, 7] (height A n) (fun gk hv tv wr => ∃ (gh ch gt ct : Nat) (Rh Rt : Nat → Nat) (H T : Nat → Nat → Int), hv = .slice (some ⟨gh, 0, none⟩) n ch ∧ tv = .slice (some ⟨gt, 0, none⟩) n ct ∧ Hid (MatZ wr gh n n Rh H) ∧ Hid (MatZ wr gt n n Rt T) ∧ Hid (Tame H n c9 A9 E9) ∧ Hid (Cong A n T H) ∧ Hid (D H n ≤ 10000) ∧ Hid (gk = height H n) ∧ Hid (Below w.heap.size w wr))
  case atStart => exact ⟨gh, ch, gt, ct, Rh, Rt, A, unitZ, rfl, rfl, HH4, HT4, HT0, HC4, HD4, rfl, HB4⟩
  case round =>
    obtain ⟨gh, ch, gt, ct, Rh, Rt, H, T, rfl, rfl, hH, hT, hTm, hC, hDd, hgk, hB⟩ := hrel
    clear HH4 HT4 HC4 HD4 HB4
    have hSH : Hid (∀ i j, i < n → j < n → (H i j).natAbs ≤ cB 0) := fun i j hi hj => tame_h9 h2 hTm.out i j hi hj
    have hST : Hid (∀ i j, i < n → j < n → (T i j).natAbs ≤ cB 2) := fun i j hi hj => cong_t9 h2 HT0.out hTm.out hC.out i j hi hj
    have hDZ : Hid (∀ k, k ≤ n → 0 < detZ H k) := fun k hk => by rw [detZ_D hTm.out.pos k hk]; exact hTm.out.pos k hk
    go_wp2_with fail
    refine (rstep_any gh n ch Rh H _ hH.out h1 h2 hSH.out hDZ.out).mono ?_
    intro e w5 hst
    obtain ⟨hb5, ⟨rfl, hred⟩ | ⟨gu, cu, Ru, U, rfl, hU, hu⟩⟩ := step_u hst
    · have HB5 : Hid (Below w.heap.size w w5) := hB.out.trans (hb5.mono hB.out.size)
      have HH5 := Lib.hid (hH.out.below hb5)
      have hsm : Hid (∀ i j, i < n → j < n → (H i j).natAbs < 1073741824) := fun i j hi hj => red_small hTm.out h2 hDd.out hred i j hi hj
      have hI : Hid (∀ i j, i < n → j < n → I64 (H i j)) := fun i j hi hj => by
        have := hsm.out i j hi hj
        unfold I64
        omega
      clear hst hb5 hred
      go_wp2_with fail
      refine (rtoints_any gh n n ch Rh H _ HH5.out h1 (by omega) h1 (by omega) hI.out).mono ?_
      rintro e w6 ⟨G, RG, rfl, hG⟩
      have hfin : Hid (GivesRed w n (.returned (.tuple #[.slice (some ⟨G, 0, none⟩) n n, .slice (some ⟨gt, 0, none⟩) n ct, .int .i64 0])) w6) := ⟨G, RG, H, _, rfl, hG.rebase HB5.out, hsm.out⟩
      clear hG
      go_wp2_with fail
      go_ret3
      exact hfin.out
    · have HB5 : Hid (Below w.heap.size w w5) := hB.out.trans (hb5.mono hB.out.size)
      have HH5 := Lib.hid (hH.out.below hb5)
      have HT5 := Lib.hid (hT.out.below hb5)
      have HU := Lib.hid hU
      obtain ⟨ht', hh', hd', hc', hub⟩ := stepU_tame (T := T) (A0 := A) (great9 h2) hTm.out hu
      have HTm' := Lib.hid ht'
      have HC' : Hid (Cong A n (mulM n T U) (congM n H U)) := hc' hC.out
      have HD' : Hid (D (congM n H U) n ≤ 10000) := by unfold Hid; rw [hd']; exact hDd.out
      have HHt : Hid (height (congM n H U) n < height H n) := hh'
      have HUB : Hid (∀ i j, i < n → j < n → (U i j).natAbs ≤ cB 0) := fun i j hi hj => Nat.le_trans (hub i j hi hj) (u9_fits h2)
      have HUB2 : Hid (∀ i j, i < n → j < n → (U i j).natAbs ≤ cB 2) := fun i j hi hj => Nat.le_trans (HUB.out i j hi hj) (cB_mono (by omega))
      clear hst hb5 hU hu ht' hh' hd' hc' hub
      go_wp2_with fail
      refine (rcongruent_any gh gu n ch cu 0 Rh Ru H U _ HH5.out HU.out h1 (by omega) (by omega) hSH.out HUB.out).mono ?_
      rintro e w6 ⟨g6, c6, R6, rfl, hM6, hg6, hR6, hb6⟩
      have HB6 : Hid (Below w.heap.size w w6) := HB5.out.trans (hb6.mono HB5.out.size)
      have HM6 := Lib.hid hM6
      have HT6 := Lib.hid (HT5.out.below hb6)
      have HU6 := Lib.hid (HU.out.below hb6)
      clear hM6 hg6 hR6 hb6
      go_wp2_with fail
      refine (rproduct_mat gt gu n n n ct cu 2 Rt Ru T U _ HT6.out HU6.out h1 (by omega) h1 (by omega) h1 (by omega) (by omega) hST.out HUB2.out).mono ?_
      rintro e w7 ⟨g7, c7, R7, rfl, hM7, hg7, hR7, hb7⟩
      have HB7 : Hid (Below w.heap.size w w7) := HB6.out.trans (hb7.mono HB6.out.size)
      have HM7 := Lib.hid hM7
      have HM67 := Lib.hid (HM6.out.below hb7)
      clear hM7 hg7 hR7 hb7
      go_wp2_with fail
      go_roundg (height (congM n H U) n)
      case measure => rw [hgk.out]; exact HHt.out
      case rel => exact ⟨g6, c6, g7, c7, R6, R7, congM n H U, mulM n T U, rfl, rfl, HM67, HM7, HTm', HC', HD', rfl, HB7⟩
end Go.Proofs.YtfpcfcegdjlggaaGreat
