/-
  Joined texts: UG UO.
-/
import Derived.Test.YtfpcfcegdjlggaaGreatJ10
namespace Go.Proofs.YtfpcfcegdjlggaaGreat
open Go.RowKit Minor

theorem RowZ.made (w : World) (z : Int) {a : Option Addr} {c : Nat} (hr : Lm w a c (mg z)) (t : TypeId) : RowZ (w.alloc (.cells #[.bool (sg z), .slice a (mg z).length c] t)) w.heap.size 1 (fun _ => z) := by
  have hg := heap_alloc_new w (.cells #[.bool (sg z), .slice a (mg z).length c] t)
  refine ⟨fun j hj => ?_, fun k => frozen_of_row _ _ _ _ _ hg, by simp⟩
  obtain rfl : j = 0 := by omega
  refine ⟨a, c, ?_, ?_, hr.alloc _⟩
  · rw [cell_of_row _ _ _ _ _ (0, 0) hg]; rfl
  · rw [cell_of_row _ _ _ _ _ (0, 0) hg]; rfl

theorem givesZ_zero {w w' : World} {z : Int} (h : z = 0) (hb : Below w.heap.size w w') : GivesZ w z (.returned (.agg #[.bool false, .slice none 0 0])) w' := by
  subst h
  exact ⟨none, 0, rfl, Lm.nil _ _, hb⟩

theorem St.ret {w0 w : World} {g L n : Nat} {R : Nat → Nat} {M : Nat → Nat → Int} {z x : Int} (h : St w0 w g L n R M z) {a : Option Addr} {c : Nat} (hr : Lm w a c (mg x)) (u : Value) (v : Value) :
    Lm ((w.setCell ⟨w0.heap.size, 0, none⟩ u).setCell ⟨w0.heap.size, 1, none⟩ v) a c (mg x) ∧ Below w0.heap.size w0 ((w.setCell ⟨w0.heap.size, 0, none⟩ u).setCell ⟨w0.heap.size, 1, none⟩ v) := by
  obtain ⟨b0, b1, b2, b3, b4⟩ := h.res
  have e1 : (w.setCell ⟨w0.heap.size, 0, none⟩ u).cell? ⟨w0.heap.size, 1, none⟩ = some (.slice none 0 0) := by rw [World.cell?_setCell_other _ _ _ _ (by simp)]; exact b1
  exact ⟨(hr.setO rfl b0 (by simp) _).setO rfl e1 (by simp) _, (h.below.setCell (p := ⟨w0.heap.size, 0, none⟩) (Nat.le_refl _) _).setCell (p := ⟨w0.heap.size, 1, none⟩) (Nat.le_refl _) _⟩

/-- What holds at the head of step k. -/
structure Head (w wr : World) (g L n : Nat) (M0 : Nat → Nat → Int) (k : Nat) (R : Nat → Nat) (M : Nat → Nat → Int) (z : Int) (neg : Bool) : Prop where
  det : detP n (n - k) k M z neg = detZ M0 n
  ne : z ≠ 0
  bound : ∀ i j, i < n → j < n → (M i j).natAbs ≤ cB k
  zbound : z.natAbs ≤ cB k
  st : St w wr g L n R M z

set_option maxRecDepth 100000 in
set_option maxHeartbeats 8000000 in
theorem rdet_any (g0 n cap : Nat) (R0 : Nat → Nat) (M0 : Nat → Nat → Int) (w : World) (hM : MatZ w g0 n n R0 M0) (hn1 : 1 ≤ n) (hn : n ≤ 8) (hs : ∀ i j, i < n → j < n → (M0 i j).natAbs ≤ cB 0) :
    Calls Tryz.prog 94 #[.slice (some ⟨g0, 0, none⟩) n cap] w (GivesZ w (detZ M0 n)) := by
  obtain ⟨W, hW⟩ : ∃ W, W = w.alloc (.cells #[.bool false, .slice none 0 0] 51) := ⟨_, rfl⟩
  have hbW : Below w.heap.size w W := by rw [hW]; exact (Below.refl _ _).alloc (Nat.le_refl _) _
  have hres : Hid (Box w.heap.size (.bool false) (.slice none 0 0) W) := by rw [hW]; exact Box.made _ _ rfl _ _ _
  have hWs : W.heap.size = w.heap.size + 1 := by rw [hW]; simp
  have HM : Hid (MatZ W g0 n n R0 M0) := hM.below hbW
  have HWW : Hid (w.alloc (.cells #[.bool false, .slice none 0 0] 51) = W) := hW.symm
  have HBW := Lib.hid hbW
  have HS := Lib.hid hs
  have HWS := Lib.hid hWs
  clear hW hbW hM hs hWs
  go_enter Tryz.func94, Tryz.ntmps94
  go_wp2_with fail
  rw [HWW.out]
  refine (rcopy_any g0 n n cap R0 M0 _ HM.out (by omega) (by omega) (by omega) (fun i j hi hj => cB_short (k := 0) (by omega) (HS.out i j hi hj))).mono ?_
  rintro e w1 ⟨g, cap1, R1, rfl, hm1, hg1, hR1, hb1⟩
  rw [HWS.out] at hg1 hR1
  have HM1 := Lib.hid hm1
  have HR1 := Lib.hid hR1
  have hB1 : Hid (Below w.heap.size w w1) := HBW.out.trans (hb1.mono HBW.out.size)
  have hres1 : Hid (Box w.heap.size (.bool false) (.slice none 0 0) w1) := hres.out.below hb1
  clear hm1 hR1 hb1 hres
  go_wp2_with fail
  refine (smallZ 1 (by omega) (by omega)).mono ?_
  rintro e w2 ⟨a2, c2, rfl, hr2, hb2⟩
  obtain ⟨one, hone⟩ : ∃ o : Int, o = 1 := ⟨_, rfl⟩
  rw [← hone] at hr2 ⊢
  have hst : Hid (Head w (w2.alloc (.cells #[.bool (sg one), .slice a2 (mg one).length c2] 51)) g w2.heap.size n M0 0 R1 M0 one false) := by
    have hA : Below w2.heap.size w2 (w2.alloc (.cells #[.bool (sg one), .slice a2 (mg one).length c2] 51)) := (Below.refl _ _).alloc (Nat.le_refl _) _
    have hB : Below w1.heap.size w1 (w2.alloc (.cells #[.bool (sg one), .slice a2 (mg one).length c2] 51)) := hb2.trans (hA.mono hb2.size)
    refine ⟨by rw [hone]; rfl, by rw [hone]; decide, HS.out, by rw [hone]; exact cB_pos 0, HM1.out.below hB, fun i hi => ⟨by have := HR1.out i hi; omega, ((HM1.out.below hb2).row i hi).lt⟩, ⟨by omega, (HM1.out.below hb2).lt⟩, RowZ.made w2 one hr2 _, hres1.out.below hB, hB1.out.trans (hB.mono hB1.out.size)⟩
  clear hr2 hb2 hone
  go_wp2_with fail
  go_loopw [6, 7] (fun nn kk wr => ∃ (k : Nat) (R : Nat → Nat) (M : Nat → Nat → Int) (z : Int) (neg : Bool), k ≤ n ∧ kk = .int .i64 (k : Int) ∧ nn = .bool neg ∧ Hid (Head w wr g w2.heap.size n M0 k R M z neg)) (fun _ kk _ => n - (intOf kk).toNat)
  case atStart => exact ⟨0, R1, M0, one, false, by omega, rfl, rfl, hst⟩
  case round =>
    obtain ⟨k, R, M, z, neg, hkn, rfl, rfl, hH⟩ := hrel
    clear hst
    by_cases hk : k < n
    · go_wp2_with fail
      go_loopw [8] (fun pp wq => ∃ p : Nat, k ≤ p ∧ p ≤ n ∧ pp = .int .i64 (p : Int) ∧ Hid (seek M k (n - k) k = seek M k (n - p) p) ∧ Hid (St w wq g w2.heap.size n R M z)) (fun pp _ => n - (intOf pp).toNat)
      case atStart => exact ⟨k, by omega, by omega, rfl, rfl, hH.out.st⟩
      case round =>
        obtain ⟨p, hkp, hpn, rfl, hsk, hS⟩ := hrel
        by_cases hp : p < n
        · obtain ⟨cc, aa, dd, e0, e1, e2, e3⟩ := hS.out.mat.entry p k hp hk
          have hshort : Hid ((mg (M p k)).length ≤ 1000000) := cB_short (by omega) (hH.out.bound p k hp hk)
          have HE3 := Lib.hid e3
          obtain ⟨x, hx⟩ : ∃ x, x = M p k := ⟨_, rfl⟩
          rw [← hx] at e1 e2
          have HX := Lib.hid hx
          have h1 : (k : Int) < (n : Int) := by omega
          have h2 : (p : Int) < (n : Int) := by omega
          clear e3 hx
          go_wp2_with fail
          refine (signZ (x := x) (by rw [HX.out]; exact HE3.out) (by rw [HX.out]; exact hshort.out)).mono ?_
          rintro e w3 ⟨rfl, hb3⟩
          have hS3 : Hid (St w w3 g w2.heap.size n R M z) := hS.out.moved hb3
          have hsg := sign3_zero (z := x)
          by_cases h0 : x = 0
          · rw [decide_eq_true h0] at hsg
            have hsk2 : Hid (seek M k (n - k) k = seek M k (n - (p + 1)) (p + 1)) := by
              unfold Hid; rw [hsk.out]; exact seek_go hp (by rw [← HX.out]; exact h0)
            clear e0 e1 e2 h0 hb3
            go_wp2_with fail
            go_roundw
            case rel => exact ⟨p + 1, by omega, by omega, by go_num, hsk2, hS3⟩
            case measure => simp [intOf]; omega
          · rw [decide_eq_false h0] at hsg
            have hsk2 : Hid (seek M k (n - k) k = p) := by
              unfold Hid; rw [hsk.out]; exact seek_stop hp (by rw [← HX.out]; exact h0)
            have hne : ((p : Int) == (n : Int)) = false := by simp; omega
            clear e0 e1 e2 hb3
            obtain ⟨M4, hM4⟩ : ∃ M4, M4 = swM M p k := ⟨_, rfl⟩
            obtain ⟨NN, hNN⟩ : ∃ b, b = swN neg p k := ⟨_, rfl⟩
            have hBd : Hid (∀ a b, a < n → b < n → (M4 a b).natAbs ≤ cB k) := by unfold Hid; rw [hM4]; exact bound_sw hH.out.bound hp hk
            have hpv : Hid (M4 k k ≠ 0) := by
              unfold Hid
              rw [hM4, swM_kk M hkp]
              have := seek_ne M k (n - k) k (by rw [hsk2.out]; omega)
              rwa [hsk2.out] at this
            have hdet : Hid (detP n (n - (k + 1)) (k + 1) (elim M4 n k z) (M4 k k) NN = detZ M0 n) := by
              unfold Hid
              rw [hM4, hNN, ← detP_step hk hp hsk2.out hkp]; exact hH.out.det
            have hzb := Lib.hid hH.out.zbound
            have hzn := Lib.hid hH.out.ne
            have HM4 := Lib.hid hM4
            have HNN := Lib.hid hNN
            clear hM4 hNN
            rcases Nat.lt_or_ge k p with hlt | hlt
            case' inl =>
              obtain ⟨cp, o1⟩ := hS3.out.mat.outer p hp
              obtain ⟨ck, o2⟩ := hS3.out.mat.outer k hk
              have o3 := hS3.out.mat.ofr p
              have o4 := hS3.out.mat.ofr k
              have hpk : ¬(p = k) := by omega
              have hkp2 : ¬(k = p) := by omega
              have hS4 : Hid (∃ R4, St w (((w3.setCell ⟨g, p, none⟩ (.slice (some ⟨R k, 0, none⟩) n ck)).setCell ⟨g, k, none⟩ (.slice (some ⟨R p, 0, none⟩) n cp)).drew) g w2.heap.size n R4 M4 z) := by
                have h := (hS3.out.swapped p k hp hk hpk (c := ck) (c' := cp)).moved (Below.refl _ _).drew
                unfold Hid
                rw [HM4.out]
                unfold swM
                rw [if_pos hlt]
                exact ⟨_, h⟩
              have hN4 : Hid ((!neg) = NN) := by unfold Hid; rw [HNN.out]; unfold swN; rw [if_pos hlt]
              clear hS3
              go_wp2_with fail
              go_region
              clear o1 o2 o3 o4
              generalize ((w3.setCell ⟨g, p, none⟩ (.slice (some ⟨R k, 0, none⟩) n ck)).setCell ⟨g, k, none⟩ (.slice (some ⟨R p, 0, none⟩) n cp)).drew = w4 at hS4 ⊢
            case' inr =>
              have hpk : ¬(k < p) := by omega
              have hS4 : Hid (∃ R4, St w w3 g w2.heap.size n R4 M4 z) := by
                unfold Hid
                rw [HM4.out]
                unfold swM
                rw [if_neg hpk]
                exact ⟨_, hS3.out⟩
              have hN4 : Hid (neg = NN) := by unfold Hid; rw [HNN.out]; unfold swN; rw [if_neg hpk]
              obtain rfl : k = p := by omega
              clear hS3
            all_goals
              clear HM4 HNN
              have hpk2 : (k : Int) < (n : Int) := by omega
              clear hsk2 hsk hS
              go_wp2_with fail
              go_loopw [9] (fun ii wr => ∃ (i : Nat), k < i ∧ i ≤ n ∧ ii = .int .i64 (i : Int) ∧ Hid (∃ R4, St w wr g w2.heap.size n R4 (upd M4 n k z i (k + 1)) z)) (fun ii _ => n - (intOf ii).toNat)
              case atStart => exact ⟨k + 1, by omega, by omega, by go_num, let ⟨R4, h⟩ := hS4.out; ⟨R4, h.congr fun a b _ _ => upd_start M4 n k z a b⟩⟩
              case round =>
                obtain ⟨i, hki, hin, rfl, hSi⟩ := hrel
                clear hS4
                by_cases hi : i < n
                · go_wp2_with fail
                  go_loopw [10] (fun jj wr => ∃ (j : Nat), k < j ∧ j ≤ n ∧ jj = .int .i64 (j : Int) ∧ Hid (∃ R4, St w wr g w2.heap.size n R4 (upd M4 n k z i j) z)) (fun jj _ => n - (intOf jj).toNat)
                  case atStart => exact ⟨k + 1, by omega, by omega, by go_num, hSi⟩
                  case round =>
                    obtain ⟨j, hkj, hjn, rfl, R4, hSj⟩ := hrel
                    clear hSi
                    by_cases hj : j < n
                    · obtain ⟨ck, a1, d1, o1, x1, y1, r1⟩ := hSj.mat.entry k k hk hk
                      obtain ⟨ci, aij, dij, o2, x2, y2, r2⟩ := hSj.mat.entry i j hi hj
                      obtain ⟨a3, d3, x3, y3, r3⟩ := (hSj.mat.row i hi).c k hk
                      obtain ⟨a4, d4, x4, y4, r4⟩ := (hSj.mat.row k hk).c j hj
                      obtain ⟨a5, d5, x5, y5, r5⟩ := hSj.last.c 0 (by omega)
                      rw [upd_old (by omega)] at x1 y1 r1 x2 y2 r2 x3 y3 r3 x4 y4 r4
                      have f1 := (hSj.mat.row i hi).fr (j * 2)
                      have f2 := (hSj.mat.row i hi).fr (j * 2 + 1)
                      have hltB : R4 i < wr.heap.size := (hSj.mat.row i hi).lt
                      have n1 : R4 k ≠ R4 i := fun e => by have := hSj.mat.inj _ _ hk hi e; omega
                      have n2 : g ≠ R4 i := (hSj.mat.apart i hi).symm
                      have n3 : w2.heap.size ≠ R4 i := by have := hSj.rr i hi; omega
                      have hRi := (hSj.rr i hi).1
                      obtain ⟨v1, hv1⟩ : ∃ v, v = M4 k k := ⟨_, rfl⟩
                      obtain ⟨v2, hv2⟩ : ∃ v, v = M4 i j := ⟨_, rfl⟩
                      obtain ⟨v3, hv3⟩ : ∃ v, v = M4 i k := ⟨_, rfl⟩
                      obtain ⟨v4, hv4⟩ : ∃ v, v = M4 k j := ⟨_, rfl⟩
                      rw [← hv1] at x1 y1 r1
                      rw [← hv2] at x2 y2 r2
                      rw [← hv3] at x3 y3 r3
                      rw [← hv4] at x4 y4 r4
                      have b1 : v1.natAbs ≤ cB k := by rw [hv1]; exact hBd.out k k hk hk
                      have b2 : v2.natAbs ≤ cB k := by rw [hv2]; exact hBd.out i j hi hj
                      have b3 : v3.natAbs ≤ cB k := by rw [hv3]; exact hBd.out i k hi hk
                      have b4 : v4.natAbs ≤ cB k := by rw [hv4]; exact hBd.out k j hk hj
                      have p12 := prod_bound b1 b2
                      have p34 := prod_bound b3 b4
                      have hcs := cB_step k
                      have hl1 : Hid ((mg v1).length ≤ 1000000) := cB_short (by omega) b1
                      have hl2 : Hid ((mg v2).length ≤ 1000000) := cB_short (by omega) b2
                      have hl3 : Hid ((mg v3).length ≤ 1000000) := cB_short (by omega) b3
                      have hl4 : Hid ((mg v4).length ≤ 1000000) := cB_short (by omega) b4
                      have hl5 : Hid ((mg z).length ≤ 1000000) := cB_short (by omega) hzb.out
                      have hl6 : Hid ((mg (v1 * v2)).length ≤ 1000000) := cB_short (k := k + 1) (by omega) (by omega)
                      have hl7 : Hid ((mg (v3 * v4)).length ≤ 1000000) := cB_short (k := k + 1) (by omega) (by omega)
                      have hl8 : Hid ((mg (v1 * v2 - v3 * v4)).length ≤ 1000000) := cB_short (k := k + 1) (by omega) (by omega)
                      have x5' : wr.cell? ⟨w2.heap.size, 0, none⟩ = some (.bool (sg z)) := x5
                      have y5' : wr.cell? ⟨w2.heap.size, 1, none⟩ = some (.slice a5 (mg z).length d5) := y5
                      have HV1 := Lib.hid hv1
                      have HV2 := Lib.hid hv2
                      have HV3 := Lib.hid hv3
                      have HV4 := Lib.hid hv4
                      have HSJ := Lib.hid hSj
                      have hR1 : Hid (∀ w', Below wr.heap.size wr w' → Lm w' a1 d1 (mg v1)) := fun w' h => r1.below h
                      have hR2 : Hid (∀ w', Below wr.heap.size wr w' → Lm w' aij dij (mg v2)) := fun w' h => r2.below h
                      have hR3 : Hid (∀ w', Below wr.heap.size wr w' → Lm w' a3 d3 (mg v3)) := fun w' h => r3.below h
                      have hR4 : Hid (∀ w', Below wr.heap.size wr w' → Lm w' a4 d4 (mg v4)) := fun w' h => r4.below h
                      have hR5 : Hid (∀ w', Below wr.heap.size wr w' → Lm w' a5 d5 (mg z)) := fun w' h => r5.below h
                      have hK : Hid (∀ w', Below wr.heap.size wr w' → w'.cell? ⟨g, k, none⟩ = some (.slice (some ⟨R4 k, 0, none⟩) n ck) ∧ w'.cell? ⟨g, i, none⟩ = some (.slice (some ⟨R4 i, 0, none⟩) n ci) ∧ w'.cell? ⟨R4 k, k * 2, none⟩ = some (.bool (sg v1)) ∧ w'.cell? ⟨R4 k, k * 2 + 1, none⟩ = some (.slice a1 (mg v1).length d1) ∧ w'.cell? ⟨R4 i, k * 2, none⟩ = some (.bool (sg v3)) ∧ w'.cell? ⟨R4 i, k * 2 + 1, none⟩ = some (.slice a3 (mg v3).length d3) ∧ w'.cell? ⟨R4 k, j * 2, none⟩ = some (.bool (sg v4)) ∧ w'.cell? ⟨R4 k, j * 2 + 1, none⟩ = some (.slice a4 (mg v4).length d4) ∧ w'.cell? ⟨w2.heap.size, 0, none⟩ = some (.bool (sg z)) ∧ w'.cell? ⟨w2.heap.size, 1, none⟩ = some (.slice a5 (mg z).length d5)) :=
                        fun w' h => ⟨cell_keep h o1, cell_keep h o2, cell_keep h x1, cell_keep h y1, cell_keep h x3, cell_keep h y3, cell_keep h x4, cell_keep h y4, cell_keep h x5', cell_keep h y5'⟩
                      have hK2 : Hid (∀ w', Below wr.heap.size wr w' → ∀ u v, ((w'.setCell ⟨R4 i, j * 2, none⟩ u).setCell ⟨R4 i, j * 2 + 1, none⟩ v).cell? ⟨g, k, none⟩ = some (.slice (some ⟨R4 k, 0, none⟩) n ck) ∧ ((w'.setCell ⟨R4 i, j * 2, none⟩ u).setCell ⟨R4 i, j * 2 + 1, none⟩ v).cell? ⟨g, i, none⟩ = some (.slice (some ⟨R4 i, 0, none⟩) n ci) ∧ ((w'.setCell ⟨R4 i, j * 2, none⟩ u).setCell ⟨R4 i, j * 2 + 1, none⟩ v).cell? ⟨R4 k, k * 2, none⟩ = some (.bool (sg v1)) ∧ ((w'.setCell ⟨R4 i, j * 2, none⟩ u).setCell ⟨R4 i, j * 2 + 1, none⟩ v).cell? ⟨R4 k, k * 2 + 1, none⟩ = some (.slice a1 (mg v1).length d1) ∧ ((w'.setCell ⟨R4 i, j * 2, none⟩ u).setCell ⟨R4 i, j * 2 + 1, none⟩ v).cell? ⟨R4 i, k * 2, none⟩ = some (.bool (sg v3)) ∧ ((w'.setCell ⟨R4 i, j * 2, none⟩ u).setCell ⟨R4 i, j * 2 + 1, none⟩ v).cell? ⟨R4 i, k * 2 + 1, none⟩ = some (.slice a3 (mg v3).length d3) ∧ ((w'.setCell ⟨R4 i, j * 2, none⟩ u).setCell ⟨R4 i, j * 2 + 1, none⟩ v).cell? ⟨R4 k, j * 2, none⟩ = some (.bool (sg v4)) ∧ ((w'.setCell ⟨R4 i, j * 2, none⟩ u).setCell ⟨R4 i, j * 2 + 1, none⟩ v).cell? ⟨R4 k, j * 2 + 1, none⟩ = some (.slice a4 (mg v4).length d4) ∧ ((w'.setCell ⟨R4 i, j * 2, none⟩ u).setCell ⟨R4 i, j * 2 + 1, none⟩ v).cell? ⟨w2.heap.size, 0, none⟩ = some (.bool (sg z)) ∧ ((w'.setCell ⟨R4 i, j * 2, none⟩ u).setCell ⟨R4 i, j * 2 + 1, none⟩ v).cell? ⟨w2.heap.size, 1, none⟩ = some (.slice a5 (mg z).length d5)) := by
                        intro w' h u v
                        obtain ⟨q1, q2, q3, q4, q5, q6, q7, q8, q9, q10⟩ := hK.out w' h
                        have far : ∀ (b o : Nat), b ≠ R4 i → ((w'.setCell ⟨R4 i, j * 2, none⟩ u).setCell ⟨R4 i, j * 2 + 1, none⟩ v).cell? ⟨b, o, none⟩ = w'.cell? ⟨b, o, none⟩ := fun b o hb => by
                          rw [World.cell?_setCell_other _ _ _ _ (by simp), World.cell?_setCell_other _ _ _ _ (by simp)]
                        have near : ∀ (o : Nat), o ≠ j * 2 → o ≠ j * 2 + 1 → ((w'.setCell ⟨R4 i, j * 2, none⟩ u).setCell ⟨R4 i, j * 2 + 1, none⟩ v).cell? ⟨R4 i, o, none⟩ = w'.cell? ⟨R4 i, o, none⟩ := fun o h1 h2 => by
                          rw [World.cell?_setCell_other _ _ _ _ (by intro h; injection h with _ h _; omega), World.cell?_setCell_other _ _ _ _ (by intro h; injection h with _ h _; omega)]
                        exact ⟨(far _ _ n2).trans q1, (far _ _ n2).trans q2, (far _ _ n1).trans q3, (far _ _ n1).trans q4, (near _ (by omega) (by omega)).trans q5, (near _ (by omega) (by omega)).trans q6, (far _ _ n1).trans q7, (far _ _ n1).trans q8, (far _ _ n3).trans q9, (far _ _ n3).trans q10⟩
                      have hbD : Below wr.heap.size wr wr.drew := (Below.refl _ _).drew
                      have z1 : (0 : Int) ≤ (k : Int) := by omega
                      have z2 : (0 : Int) ≤ (i : Int) := by omega
                      have z3 : (0 : Int) ≤ (j : Int) := by omega
                      have z4 : (i : Int) < (n : Int) := by omega
                      have z5 : (j : Int) < (n : Int) := by omega
                      clear hSj r1 r2 r3 r4 r5 b1 b2 b3 b4 p12 p34 hcs x5 y5 hv1 hv2 hv3 hv4 n1 n2 n3 hH hdet hBd hpv hzb HS HM1 HR1 hB1 hres1 HM HBW HWW HWS
                      go_wp2_with fail
                      refine wp_region_held_drew (S := (fun w' => w'.cell? ⟨g, k, none⟩ = some (.slice (some ⟨R4 k, 0, none⟩) n ck) ∧ w'.cell? ⟨g, i, none⟩ = some (.slice (some ⟨R4 i, 0, none⟩) n ci) ∧ w'.cell? ⟨R4 k, k * 2, none⟩ = some (.bool (sg v1)) ∧ w'.cell? ⟨R4 k, k * 2 + 1, none⟩ = some (.slice a1 (mg v1).length d1) ∧ w'.cell? ⟨R4 i, k * 2, none⟩ = some (.bool (sg v3)) ∧ w'.cell? ⟨R4 i, k * 2 + 1, none⟩ = some (.slice a3 (mg v3).length d3) ∧ w'.cell? ⟨R4 k, j * 2, none⟩ = some (.bool (sg v4)) ∧ w'.cell? ⟨R4 k, j * 2 + 1, none⟩ = some (.slice a4 (mg v4).length d4) ∧ w'.cell? ⟨w2.heap.size, 0, none⟩ = some (.bool (sg z)) ∧ w'.cell? ⟨w2.heap.size, 1, none⟩ = some (.slice a5 (mg z).length d5))) (by kernel_rfl) (hK.out _ hbD) (fun hHeld => ?_)
                      refine take_first (i := 0) (v := ?_) rfl (by kernel_rfl) (by kernel_rfl) (by kernel_rfl) (fun _ _ _ h => h) (by rfl) (fun w hSw => ?_) hHeld ?_
                      rotate_left
                      · ((try dsimp only at hSw); go_simp; (try with_reducible rfl))
                      try simp only [Act.put, List.setIfInBounds_toArray, List.set_cons_zero, List.set_cons_succ]
                      refine take_first (i := 1) (v := ?_) rfl (by kernel_rfl) (by kernel_rfl) (by kernel_rfl) (fun _ _ _ h => h) (by rfl) (fun w hSw => ?_) hHeld ?_
                      rotate_left
                      · ((try dsimp only at hSw); go_simp; (try with_reducible rfl))
                      try simp only [Act.put, List.setIfInBounds_toArray, List.set_cons_zero, List.set_cons_succ]
                      refine take_first (i := 2) (v := ?_) rfl (by kernel_rfl) (by kernel_rfl) (by kernel_rfl) (fun _ _ _ h => h) (by rfl) (fun w hSw => ?_) hHeld ?_
                      rotate_left
                      · ((try dsimp only at hSw); go_simp; (try with_reducible rfl))
                      try simp only [Act.put, List.setIfInBounds_toArray, List.set_cons_zero, List.set_cons_succ]
                      refine take_first (i := 3) (v := ?_) rfl (by kernel_rfl) (by kernel_rfl) (by kernel_rfl) (fun _ _ _ h => h) (by rfl) (fun w hSw => ?_) hHeld ?_
                      rotate_left
                      · ((try dsimp only at hSw); go_simp; (try with_reducible rfl))
                      try simp only [Act.put, List.setIfInBounds_toArray, List.set_cons_zero, List.set_cons_succ]
                      refine take_first (i := 4) (v := ?_) rfl (by kernel_rfl) (by kernel_rfl) (by kernel_rfl) (fun _ _ _ h => h) (by rfl) (fun w hSw => ?_) hHeld ?_
                      rotate_left
                      · ((try dsimp only at hSw); go_simp; (try with_reducible rfl))
                      try simp only [Act.put, List.setIfInBounds_toArray, List.set_cons_zero, List.set_cons_succ]
                      refine take_first (i := 5) (v := ?_) rfl (by kernel_rfl) (by kernel_rfl) (by kernel_rfl) (fun _ _ _ h => h) (by rfl) (fun w hSw => ?_) hHeld ?_
                      rotate_left
                      · ((try dsimp only at hSw); go_simp; (try with_reducible rfl))
                      try simp only [Act.put, List.setIfInBounds_toArray, List.set_cons_zero, List.set_cons_succ]
                      refine take_first (i := 6) (v := ?_) rfl (by kernel_rfl) (by kernel_rfl) (by kernel_rfl) (fun _ _ _ h => h) (by rfl) (fun w hSw => ?_) hHeld ?_
                      rotate_left
                      · ((try dsimp only at hSw); go_simp; (try with_reducible rfl))
                      try simp only [Act.put, List.setIfInBounds_toArray, List.set_cons_zero, List.set_cons_succ]
                      refine take_first (i := 7) (v := ?_) rfl (by kernel_rfl) (by kernel_rfl) (by kernel_rfl) (fun _ _ _ h => h) (by rfl) (fun w hSw => ?_) hHeld ?_
                      rotate_left
                      · ((try dsimp only at hSw); go_simp; (try with_reducible rfl))
                      try simp only [Act.put, List.setIfInBounds_toArray, List.set_cons_zero, List.set_cons_succ]
                      refine take_first (i := 8) (v := ?_) rfl (by kernel_rfl) (by kernel_rfl) (by kernel_rfl) (fun _ _ _ h => h) (by rfl) (fun w hSw => ?_) hHeld ?_
                      rotate_left
                      · ((try dsimp only at hSw); go_simp; (try with_reducible rfl))
                      try simp only [Act.put, List.setIfInBounds_toArray, List.set_cons_zero, List.set_cons_succ]
                      refine take_first (i := 9) (v := ?_) rfl (by kernel_rfl) (by kernel_rfl) (by kernel_rfl) (fun _ _ _ h => h) (by rfl) (fun w hSw => ?_) hHeld ?_
                      rotate_left
                      · ((try dsimp only at hSw); go_simp; (try with_reducible rfl))
                      try simp only [Act.put, List.setIfInBounds_toArray, List.set_cons_zero, List.set_cons_succ]
                      refine take_first (i := 10) (v := ?_) rfl (by kernel_rfl) (by kernel_rfl) (by kernel_rfl) (fun _ _ _ h => h) (by rfl) (fun w hSw => ?_) hHeld ?_
                      rotate_left
                      · ((try dsimp only at hSw); go_simp; (try with_reducible rfl))
                      try simp only [Act.put, List.setIfInBounds_toArray, List.set_cons_zero, List.set_cons_succ]
                      refine take_first (i := 11) (v := ?_) rfl (by kernel_rfl) (by kernel_rfl) (by kernel_rfl) (fun _ _ _ h => h) (by rfl) (fun w hSw => ?_) hHeld ?_
                      rotate_left
                      · ((try dsimp only at hSw); go_simp; (try with_reducible rfl))
                      try simp only [Act.put, List.setIfInBounds_toArray, List.set_cons_zero, List.set_cons_succ]
                      refine take_first (i := 12) (v := ?_) rfl (by kernel_rfl) (by kernel_rfl) (by kernel_rfl) (fun _ _ _ h => h) (by rfl) (fun w hSw => ?_) hHeld ?_
                      rotate_left
                      · ((try dsimp only at hSw); go_simp; (try with_reducible rfl))
                      try simp only [Act.put, List.setIfInBounds_toArray, List.set_cons_zero, List.set_cons_succ]
                      refine take_first (i := 13) (v := ?_) rfl (by kernel_rfl) (by kernel_rfl) (by kernel_rfl) (fun _ _ _ h => h) (by rfl) (fun w hSw => ?_) hHeld ?_
                      rotate_left
                      · ((try dsimp only at hSw); go_simp; (try with_reducible rfl))
                      try simp only [Act.put, List.setIfInBounds_toArray, List.set_cons_zero, List.set_cons_succ]
                      refine take_first (i := 14) (v := ?_) rfl (by kernel_rfl) (by kernel_rfl) (by kernel_rfl) (fun _ _ _ h => h) (by rfl) (fun w hSw => ?_) hHeld ?_
                      rotate_left
                      · ((try dsimp only at hSw); go_simp; (try with_reducible rfl))
                      try simp only [Act.put, List.setIfInBounds_toArray, List.set_cons_zero, List.set_cons_succ]
                      refine take_first (i := 15) (v := ?_) rfl (by kernel_rfl) (by kernel_rfl) (by kernel_rfl) (fun _ _ _ h => h) (by rfl) (fun w hSw => ?_) hHeld ?_
                      rotate_left
                      · ((try dsimp only at hSw); go_simp; (try with_reducible rfl))
                      try simp only [Act.put, List.setIfInBounds_toArray, List.set_cons_zero, List.set_cons_succ]
                      refine take_first (i := 16) (v := ?_) rfl (by kernel_rfl) (by kernel_rfl) (by kernel_rfl) (fun _ _ _ h => h) (by rfl) (fun w hSw => ?_) hHeld ?_
                      rotate_left
                      · ((try dsimp only at hSw); go_simp; (try with_reducible rfl))
                      try simp only [Act.put, List.setIfInBounds_toArray, List.set_cons_zero, List.set_cons_succ]
                      refine take_first (i := 17) (v := ?_) rfl (by kernel_rfl) (by kernel_rfl) (by kernel_rfl) (fun _ _ _ h => h) (by rfl) (fun w hSw => ?_) hHeld ?_
                      rotate_left
                      · ((try dsimp only at hSw); go_simp; (try with_reducible rfl))
                      try simp only [Act.put, List.setIfInBounds_toArray, List.set_cons_zero, List.set_cons_succ]
                      refine take_first (i := 20) (v := ?_) rfl (by kernel_rfl) (by kernel_rfl) (by kernel_rfl) (fun _ _ _ h => h) (by rfl) (fun w hSw => ?_) hHeld ?_
                      rotate_left
                      · ((try dsimp only at hSw); go_simp; (try with_reducible rfl))
                      try simp only [Act.put, List.setIfInBounds_toArray, List.set_cons_zero, List.set_cons_succ]
                      refine take_first (i := 21) (v := ?_) rfl (by kernel_rfl) (by kernel_rfl) (by kernel_rfl) (fun _ _ _ h => h) (by rfl) (fun w hSw => ?_) hHeld ?_
                      rotate_left
                      · ((try dsimp only at hSw); go_simp; (try with_reducible rfl))
                      try simp only [Act.put, List.setIfInBounds_toArray, List.set_cons_zero, List.set_cons_succ]
                      refine take_first (i := 22) (v := ?_) rfl (by kernel_rfl) (by kernel_rfl) (by kernel_rfl) (fun _ _ _ h => h) (by rfl) (fun w hSw => ?_) hHeld ?_
                      rotate_left
                      · ((try dsimp only at hSw); go_simp; (try with_reducible rfl))
                      try simp only [Act.put, List.setIfInBounds_toArray, List.set_cons_zero, List.set_cons_succ]
                      refine take_first (i := 23) (v := ?_) rfl (by kernel_rfl) (by kernel_rfl) (by kernel_rfl) (fun _ _ _ h => h) (by rfl) (fun w hSw => ?_) hHeld ?_
                      rotate_left
                      · ((try dsimp only at hSw); go_simp; (try with_reducible rfl))
                      try simp only [Act.put, List.setIfInBounds_toArray, List.set_cons_zero, List.set_cons_succ]
                      refine take_first (i := 24) (v := ?_) rfl (by kernel_rfl) (by kernel_rfl) (by kernel_rfl) (fun _ _ _ h => h) (by rfl) (fun w hSw => ?_) hHeld ?_
                      rotate_left
                      · ((try dsimp only at hSw); go_simp; (try with_reducible rfl))
                      try simp only [Act.put, List.setIfInBounds_toArray, List.set_cons_zero, List.set_cons_succ]
                      refine take_first (i := 25) (v := ?_) rfl (by kernel_rfl) (by kernel_rfl) (by kernel_rfl) (fun _ _ _ h => h) (by rfl) (fun w hSw => ?_) hHeld ?_
                      rotate_left
                      · ((try dsimp only at hSw); go_simp; (try with_reducible rfl))
                      try simp only [Act.put, List.setIfInBounds_toArray, List.set_cons_zero, List.set_cons_succ]
                      refine take_first (i := 26) (v := ?_) rfl (by kernel_rfl) (by kernel_rfl) (by kernel_rfl) (fun _ _ _ h => h) (by rfl) (fun w hSw => ?_) hHeld ?_
                      rotate_left
                      · ((try dsimp only at hSw); go_simp; (try with_reducible rfl))
                      try simp only [Act.put, List.setIfInBounds_toArray, List.set_cons_zero, List.set_cons_succ]
                      refine take_first (i := 27) (v := ?_) rfl (by kernel_rfl) (by kernel_rfl) (by kernel_rfl) (fun _ _ _ h => h) (by rfl) (fun w hSw => ?_) hHeld ?_
                      rotate_left
                      · ((try dsimp only at hSw); go_simp; (try with_reducible rfl))
                      try simp only [Act.put, List.setIfInBounds_toArray, List.set_cons_zero, List.set_cons_succ]
                      refine take_first (i := 28) (v := ?_) rfl (by kernel_rfl) (by kernel_rfl) (by kernel_rfl) (fun _ _ _ h => h) (by rfl) (fun w hSw => ?_) hHeld ?_
                      rotate_left
                      · ((try dsimp only at hSw); go_simp; (try with_reducible rfl))
                      try simp only [Act.put, List.setIfInBounds_toArray, List.set_cons_zero, List.set_cons_succ]
                      refine take_first (i := 29) (v := ?_) rfl (by kernel_rfl) (by kernel_rfl) (by kernel_rfl) (fun _ _ _ h => h) (by rfl) (fun w hSw => ?_) hHeld ?_
                      rotate_left
                      · ((try dsimp only at hSw); go_simp; (try with_reducible rfl))
                      try simp only [Act.put, List.setIfInBounds_toArray, List.set_cons_zero, List.set_cons_succ]
                      refine take_first (i := 30) (v := ?_) rfl (by kernel_rfl) (by kernel_rfl) (by kernel_rfl) (fun _ _ _ h => h) (by rfl) (fun w hSw => ?_) hHeld ?_
                      rotate_left
                      · ((try dsimp only at hSw); go_simp; (try with_reducible rfl))
                      try simp only [Act.put, List.setIfInBounds_toArray, List.set_cons_zero, List.set_cons_succ]
                      refine take_first (i := 31) (v := ?_) rfl (by kernel_rfl) (by kernel_rfl) (by kernel_rfl) (fun _ _ _ h => h) (by rfl) (fun w hSw => ?_) hHeld ?_
                      rotate_left
                      · ((try dsimp only at hSw); go_simp; (try with_reducible rfl))
                      try simp only [Act.put, List.setIfInBounds_toArray, List.set_cons_zero, List.set_cons_succ]
                      refine take_first (i := 32) (v := ?_) rfl (by kernel_rfl) (by kernel_rfl) (by kernel_rfl) (fun _ _ _ h => h) (by rfl) (fun w hSw => ?_) hHeld ?_
                      rotate_left
                      · ((try dsimp only at hSw); go_simp; (try with_reducible rfl))
                      try simp only [Act.put, List.setIfInBounds_toArray, List.set_cons_zero, List.set_cons_succ]
                      refine take_first (i := 33) (v := ?_) rfl (by kernel_rfl) (by kernel_rfl) (by kernel_rfl) (fun _ _ _ h => h) (by rfl) (fun w hSw => ?_) hHeld ?_
                      rotate_left
                      · ((try dsimp only at hSw); go_simp; (try with_reducible rfl))
                      try simp only [Act.put, List.setIfInBounds_toArray, List.set_cons_zero, List.set_cons_succ]
                      refine take_first (i := 36) (v := ?_) rfl (by kernel_rfl) (by kernel_rfl) (by kernel_rfl) (fun _ _ _ h => h) (by rfl) (fun w hSw => ?_) hHeld ?_
                      rotate_left
                      · ((try dsimp only at hSw); go_simp; (try with_reducible rfl))
                      try simp only [Act.put, List.setIfInBounds_toArray, List.set_cons_zero, List.set_cons_succ]
                      refine comes_next (i := 18) rfl (by kernel_rfl) (fun K hKK => ?_)
                      go_simp
                      clear hHeld
                      refine hKK.out _ _ (hK.out _ hbD) (fun hHeld => ?_)
                      clear hKK K
                      try simp only [Act.put, List.setIfInBounds_toArray, List.set_cons_zero, List.set_cons_succ]
                      refine comes_next (i := 19) rfl (by kernel_rfl) (fun K hKK => ?_)
                      go_simp
                      refine (mulZ (hR1.out _ hbD) (hR2.out _ hbD) hl1.out hl2.out).mono ?_
                      rintro e w6 ⟨a6, c6, rfl, hr6, hb6⟩
                      have hbM1 : Below wr.heap.size wr w6 := hbD.trans (hb6.mono hbD.size)
                      go_wp2_with fail
                      clear hHeld
                      refine hKK.out _ _ (hK.out _ hbM1) (fun hHeld => ?_)
                      clear hKK K
                      try simp only [Act.put, List.setIfInBounds_toArray, List.set_cons_zero, List.set_cons_succ]
                      refine comes_next (i := 34) rfl (by kernel_rfl) (fun K hKK => ?_)
                      go_simp
                      refine (mulZ (hR3.out _ hbM1) (hR4.out _ hbM1) hl3.out hl4.out).mono ?_
                      rintro e w7 ⟨a7, c7, rfl, hr7, hb7⟩
                      have hbM2 : Below wr.heap.size wr w7 := hbM1.trans (hb7.mono hbM1.size)
                      go_wp2_with fail
                      clear hHeld
                      refine hKK.out _ _ (hK.out _ hbM2) (fun hHeld => ?_)
                      clear hKK K
                      try simp only [Act.put, List.setIfInBounds_toArray, List.set_cons_zero, List.set_cons_succ]
                      refine comes_next (i := 35) rfl (by kernel_rfl) (fun K hKK => ?_)
                      go_simp
                      refine (subZ (hr6.below hb7) hr7 hl6.out hl7.out).mono ?_
                      rintro e w8 ⟨a8, c8, rfl, hr8, hb8⟩
                      have hbS : Below wr.heap.size wr w8 := hbM2.trans (hb8.mono hbM2.size)
                      go_wp2_with fail
                      clear hHeld
                      refine hKK.out _ _ (hK.out _ hbS) (fun hHeld => ?_)
                      clear hKK K
                      try simp only [Act.put, List.setIfInBounds_toArray, List.set_cons_zero, List.set_cons_succ]
                      refine comes_next (i := 37) rfl (by kernel_rfl) (fun K hKK => ?_)
                      go_simp
                      refine (quoZ hr8 (hR5.out _ hbS) hl8.out hl5.out hzn.out).mono ?_
                      rintro e w9 ⟨a9, c9, rfl, hr9, hb9⟩
                      have hbQ : Below wr.heap.size wr w9 := hbS.trans (hb9.mono hbS.size)
                      have s9a := cell_keep hbQ x2
                      have s9b := cell_keep hbQ y2
                      have s9c := (hbQ.frozen (p := ⟨R4 i, j * 2, none⟩) hltB).trans f1
                      have s9d := (hbQ.frozen (p := ⟨R4 i, j * 2 + 1, none⟩) hltB).trans f2
                      go_wp2_with fail
                      clear hHeld
                      refine hKK.out _ _ (hK.out _ hbQ) (fun hHeld => ?_)
                      clear hKK K
                      try simp only [Act.put, List.setIfInBounds_toArray, List.set_cons_zero, List.set_cons_succ]
                      refine comes_next (i := 38) rfl (by kernel_rfl) (fun K hKK => ?_)
                      go_simp
                      clear hHeld
                      refine hKK.out _ _ (hK.out _ hbQ) (fun hHeld => ?_)
                      clear hKK K
                      try simp only [Act.put, List.setIfInBounds_toArray, List.set_cons_zero, List.set_cons_succ]
                      refine comes_next (i := 39) rfl (by kernel_rfl) (fun K hKK => ?_)
                      go_simp
                      clear hHeld
                      refine hKK.out _ _ (hK2.out _ hbQ _ _) (fun hHeld => ?_)
                      clear hKK K
                      try simp only [Act.put, List.setIfInBounds_toArray, List.set_cons_zero, List.set_cons_succ]
                      refine wpAnyH_done (by kernel_rfl) ?_ _
                      have hnx : Hid (∃ R5, St w ((w9.setCell ⟨R4 i, j * 2, none⟩ (.bool (sg ((v1 * v2 - v3 * v4) / z)))).setCell ⟨R4 i, j * 2 + 1, none⟩ (.slice a9 (mg ((v1 * v2 - v3 * v4) / z)).length c9)) g w2.heap.size n R5 (upd M4 n k z i (j + 1)) z) :=
                        ⟨R4, ((HSJ.out.moved' hbQ).store i j hi hj _ hr9).congr fun a b _ _ => by rw [HV1.out, HV2.out, HV3.out, HV4.out]; exact upd_next hki hi hkj hj a b⟩
                      clear s9a s9b s9c s9d hHeld hr6 hb6 hr7 hb7 hr8 hb8 hr9 hb9 hbM1 hbM2 hbS hbQ hbD x1 y1 x2 y2 x3 y3 x4 y4 x5' y5' o1 o2 f1 f2
                      go_wp2_with fail
                      go_roundw
                      case rel =>
                        first
                          | exact ⟨j + 1, by omega, by omega, by go_num, hnx⟩
                          | ((repeat apply Exists.intro); exact ⟨⟨j + 1, by omega, by omega, by go_num, hnx⟩, rfl⟩)
                      case measure => simp [intOf]; omega
                    · obtain rfl : j = n := by omega
                      have hnx : Hid (∃ R4, St w wr g w2.heap.size j R4 (upd M4 j k z (i + 1) (k + 1)) z) := ⟨R4, hSj.congr fun a b _ hb => upd_row M4 j k z i a b hb⟩
                      clear hSj
                      go_wp2_with fail
                      go_roundw
                      case rel => exact ⟨i + 1, by omega, by omega, by go_num, hnx⟩
                      case measure => simp [intOf]; omega
                · obtain rfl : i = n := by omega
                  obtain ⟨R4, hSi⟩ := hSi.out
                  have HSE : Hid (St w wr g w2.heap.size i R4 (elim M4 i k z) z) := hSi.congr fun a b _ _ => upd_end M4 i k z (k + 1) a b
                  obtain ⟨ck, a1, d1, o1, x1, y1, r1⟩ := hSi.mat.entry k k hk hk
                  rw [upd_old (by omega)] at x1 y1 r1
                  obtain ⟨a5, d5, x5, y5, r5⟩ := hSi.last.c 0 (by omega)
                  have x5' : wr.cell? ⟨w2.heap.size, 0, none⟩ = some (.bool (sg z)) := x5
                  have y5' : wr.cell? ⟨w2.heap.size, 1, none⟩ = some (.slice a5 (mg z).length d5) := y5
                  have f5 := hSi.last.fr 0
                  have f6 := hSi.last.fr 1
                  have hnx : Hid (∃ R, St w ((wr.setCell ⟨w2.heap.size, 0, none⟩ (.bool (sg (M4 k k)))).setCell ⟨w2.heap.size, 1, none⟩ (.slice a1 (mg (M4 k k)).length d1)) g w2.heap.size i R (elim M4 i k z) (M4 k k)) := ⟨R4, HSE.out.pivot _ r1⟩
                  have hbz : Hid (∀ a b, a < i → b < i → (elim M4 i k z a b).natAbs ≤ cB (k + 1)) := fun a b ha hb => by
                    have h := elim_bound (last := z) hBd.out (cB_pos k) hk a b ha hb
                    rwa [cB_step] at h
                  have hbv : Hid ((M4 k k).natAbs ≤ cB (k + 1)) := Nat.le_trans (hBd.out k k hk hk) (cB_le k)
                  obtain ⟨v1, hv1⟩ : ∃ v, v = M4 k k := ⟨_, rfl⟩
                  rw [← hv1] at x1 y1 hnx hbv hpv hdet
                  clear hSi r1 r5 x5 y5 hv1
                  go_wp2_with fail
                  go_roundw
                  case rel =>
                    obtain ⟨R5, hS5⟩ := hnx.out
                    exact ⟨k + 1, R5, elim M4 i k z, v1, _, by omega, by go_num, rfl, by rw [hN4.out]; exact hdet.out, hpv.out, hbz.out, hbv.out, hS5⟩
                  case measure => simp [intOf]; omega
        · obtain rfl : p = n := by omega
          have h0 : Hid (detZ M0 p = 0) := by
            have h := hH.out.det
            rw [detP_none hk (by rw [hsk.out]; exact seek_end)] at h
            exact h.symm
          obtain ⟨b0, b1, b2, b3, b4⟩ := hS.out.res
          have hfin : Hid (Below w.heap.size w ((wr.setCell ⟨w.heap.size, 0, none⟩ (.bool false)).setCell ⟨w.heap.size, 1, none⟩ (.slice none 0 0))) := (hS.out.ret (x := 0) (Lm.nil _ 0) _ _).2
          go_wp2_with fail
          exact bodyPost_ret (v := .agg #[.bool false, .slice none 0 0]) (by simp [results, Tryz.results94, go_sem, b0, b1]) rfl (givesZ_zero h0.out hfin.out)
    · obtain rfl : k = n := by omega
      obtain ⟨b0, b1, b2, b3, b4⟩ := hH.out.st.res
      obtain ⟨al, cl, l0, l1, l2⟩ := hH.out.st.last.c 0 (by omega)
      have l0' : wr.cell? ⟨w2.heap.size, 0, none⟩ = some (.bool (sg z)) := l0
      have l1' : wr.cell? ⟨w2.heap.size, 1, none⟩ = some (.slice al (mg z).length cl) := l1
      have HL2 := Lib.hid l2
      clear l0 l1 l2
      have hdet : Hid ((if neg then -z else z) = detZ M0 k) := by
        have h := hH.out.det
        rw [Nat.sub_self] at h
        exact h
      have hsh : Hid ((mg z).length ≤ 1000000) := cB_short (by omega) hH.out.zbound
      have HST := Lib.hid hH.out.st
      clear hH
      cases neg
      · obtain ⟨q1, q2⟩ := HST.out.ret HL2.out (.bool (sg z)) (.slice al (mg z).length cl)
        have HQ1 := Lib.hid q1
        have HQ2 := Lib.hid q2
        clear q1 q2
        go_wp2_with fail
        exact bodyPost_ret (v := .agg #[.bool (sg z), .slice al (mg z).length cl]) (by simp [results, Tryz.results94, go_sem, b0, b1]) rfl (by rw [← hdet.out]; exact ⟨al, cl, rfl, HQ1.out, HQ2.out⟩)
      · go_wp2_with fail
        refine (negZ HL2.out hsh.out).mono ?_
        rintro e w6 ⟨a6, c6, rfl, hr6, hb6⟩
        have hS6 := HST.out.moved hb6
        obtain ⟨q1, q2⟩ := hS6.ret hr6 (.bool (sg (-z))) (.slice a6 (mg (-z)).length c6)
        have HQ1 := Lib.hid q1
        have HQ2 := Lib.hid q2
        obtain ⟨t0, t1, t2, t3, t4⟩ := hS6.res
        clear q1 q2 hS6 hr6 hb6 b0 b1 b2 b3 b4 l0' l1'
        go_wp2_with fail
        exact bodyPost_ret (v := .agg #[.bool (sg (-z)), .slice a6 (mg (-z)).length c6]) (by simp [results, Tryz.results94, go_sem, t0, t1]) rfl (by rw [← hdet.out]; exact ⟨a6, c6, rfl, HQ1.out, HQ2.out⟩)
end Go.Proofs.YtfpcfcegdjlggaaGreat
namespace Go.Proofs.YtfpcfcegdjlggaaGreat
open Go.RowKit Minor

set_option maxRecDepth 100000 in
set_option maxHeartbeats 2000000 in
theorem rshape_any (g n m cap : Nat) (R : Nat → Nat) (M : Nat → Nat → Int) (w : World) (hM : MatZ w g n m R M) (h1 : 1 ≤ n) (h2 : n ≤ 16) (h3 : 1 ≤ m) (h4 : m ≤ 16) :
    Calls Tryz.prog 105 #[.slice (some ⟨g, 0, none⟩) n cap] w fun e w' => e = .returned (.tuple #[.int .i64 (n : Int), .int .i64 (m : Int), .bool true]) ∧ Below w.heap.size w w' := by
  obtain ⟨c0, o0⟩ := hM.outer 0 (by omega)
  have HO : Hid (∀ i, i < n → ∃ c, w.cell? ⟨g, i, none⟩ = some (.slice (some ⟨R i, 0, none⟩) m c)) := hM.outer
  have d1 : decide ((n : Int) < 1) = false := decide_eq_false (by omega)
  have d2 : decide ((16 : Int) < (n : Int)) = false := decide_eq_false (by omega)
  have d3 : decide ((m : Int) < 1) = false := decide_eq_false (by omega)
  have d4 : decide ((16 : Int) < (m : Int)) = false := decide_eq_false (by omega)
  have d5 : ((m : Int) == (m : Int)) = true := by simp
  clear hM
  go_enter Tryz.func105, Tryz.ntmps105
  go_wp2_with fail
  go_loop [17] (fun ii => ∃ i : Nat, i ≤ n ∧ ii = .int .i64 (i : Int)) (fun ii => n - (intOf ii).toNat)
  case atStart => exact ⟨0, by omega, rfl⟩
  case round =>
    obtain ⟨i, hin, rfl⟩ := hrel
    by_cases hi : i < n
    · obtain ⟨ci, oi⟩ := HO.out i hi
      go_wp2_with fail
      go_round
      case rel => exact ⟨i + 1, by omega, by go_num⟩
      case measure => simp [intOf]; omega
    · obtain rfl : i = n := by omega
      go_wp2_with fail
      go_region
      go_wp2_with fail
      exact bodyPost_ret (v := .tuple #[.int .i64 (i : Int), .int .i64 (m : Int), .bool true]) (by simp [results, Tryz.results105, go_sem]) rfl ⟨rfl, (Below.refl _ _).drew⟩

/-- What Square answers. -/
def sqN (n m : Nat) : Int := if n = m then n else 0
def sqB (n m : Nat) : Bool := decide (n = m)

set_option maxRecDepth 100000 in
set_option maxHeartbeats 400000 in
theorem rsquare_any (g n m cap : Nat) (R : Nat → Nat) (M : Nat → Nat → Int) (w : World) (hM : MatZ w g n m R M) (h1 : 1 ≤ n) (h2 : n ≤ 16) (h3 : 1 ≤ m) (h4 : m ≤ 16) :
    Calls Tryz.prog 91 #[.slice (some ⟨g, 0, none⟩) n cap] w fun e w' => e = .returned (.tuple #[.int .i64 (sqN n m), .bool (sqB n m)]) ∧ Below w.heap.size w w' := by
  have HM := Lib.hid hM
  clear hM
  by_cases hnm : n = m
  · subst hnm
    have e1 : sqN n n = n := if_pos rfl
    have e2 : sqB n n = true := decide_eq_true rfl
    rw [e1, e2]
    clear e1 e2
    go_enter Tryz.func91, Tryz.ntmps91
    go_wp2_with fail
    refine (rshape_any g n n cap R M _ HM.out h1 h2 h1 h2).mono ?_
    rintro e w1 ⟨rfl, hb⟩
    have HB := Lib.hid hb
    clear hb
    go_wp2_with fail
    go_ret2
    exact ⟨rfl, HB.out⟩
  · have e1 : sqN n m = 0 := if_neg hnm
    have e2 : sqB n m = false := decide_eq_false hnm
    rw [e1, e2]
    clear e1 e2
    have d1 : ((n : Int) == (m : Int)) = false := by simp; omega
    have d3 : ((n : Int) != (m : Int)) = true := by unfold bne; rw [d1]; rfl
    have D3 := Lib.hid d3
    clear d1 d3
    go_enter Tryz.func91, Tryz.ntmps91
    go_wp2_with fail
    refine (rshape_any g n m cap R M _ HM.out h1 h2 h3 h4).mono ?_
    rintro e w1 ⟨rfl, hb⟩
    have HB := Lib.hid hb
    have d3 := D3.out
    clear hb
    go_wp2_with fail
    go_ret2
    exact ⟨rfl, HB.out⟩

theorem detZ_congr {a b : Nat → Nat → Int} {n : Nat} (h : ∀ i j, i < n → j < n → a i j = b i j) : detZ a n = detZ b n := detP_congr n 0 1 false (by omega) h

theorem firstN_same {k p : Nat} (_hp : p < k + 1) : firstN k k p = p := by
  unfold firstN
  split <;> omega

set_option maxRecDepth 100000 in
set_option maxHeartbeats 4000000 in
theorem rleading_any (g n cap : Nat) (R : Nat → Nat) (M : Nat → Nat → Int) (w : World) (hM : MatZ w g n n R M) (h1 : 1 ≤ n) (h2 : n ≤ 8) (hs : ∀ i j, i < n → j < n → (M i j).natAbs ≤ cB 0) :
    Calls Tryz.prog 97 #[.slice (some ⟨g, 0, none⟩) n cap] w fun e w' => ∃ b c, e = .returned (.tuple #[.slice (some ⟨b, 0, none⟩) n c, .bool true]) ∧ RowZ w' b n (fun k => detZ M (k + 1)) ∧ Below w.heap.size w w' := by
  have HM := Lib.hid hM
  have HS := Lib.hid hs
  have q1 : sqN n n = n := if_pos rfl
  have q2 : sqB n n = true := decide_eq_true rfl
  have HQ1 := Lib.hid q1
  have HQ2 := Lib.hid q2
  clear hM hs q1 q2
  go_enter Tryz.func97, Tryz.ntmps97
  go_wp2_with fail
  refine (rsquare_any g n n cap R M _ HM.out h1 (by omega) h1 (by omega)).mono ?_
  rintro e w1 ⟨rfl, hb1⟩
  rw [HQ1.out, HQ2.out]
  have HB1 := Lib.hid hb1
  clear hb1
  go_wp2_with fail
  go_loopw [6, 7] (fun vv kk wr => ∃ k : Nat, k ≤ n ∧ kk = .int .i64 (k : Int) ∧ Hid (RowB wr w.heap.size vv k (fun k => detZ M (k + 1))) ∧ Hid (Below w.heap.size w wr)) (fun _ kk _ => n - (intOf kk).toNat)
  case atStart => exact ⟨0, by omega, rfl, RowB.nil _ _ _, HB1⟩
  case round =>
    obtain ⟨k, hkn, rfl, hR, hB⟩ := hrel
    by_cases hk : k < n
    · go_wp2_with fail
      refine (rfirst_any k k _ (by omega)).mono ?_
      rintro e w2 ⟨b2, c2, rfl, hr2, hb2⟩
      have HR2 := Lib.hid hr2
      have HB2 : Hid (Below wr.heap.size wr w2) := hb2
      clear hr2 hb2
      go_wp2_with fail
      refine (rfirst_any k k _ (by omega)).mono ?_
      rintro e w3 ⟨b3, c3, rfl, hr3, hb3⟩
      have HR2' := Lib.hid (HR2.out.below hb3)
      have HR3 := Lib.hid hr3
      have HB3 : Hid (Below wr.heap.size wr w3) := HB2.out.trans (hb3.mono HB2.out.size)
      clear hr3 hb3 HR2 HB2
      have HM3 : Hid (MatZ w3 g n n R M) := HM.out.below (hB.out.trans (HB3.out.mono hB.out.size))
      have HFN : Hid (∀ p, p < k + 1 → firstN k k p < n) := fun p hp => by rw [firstN_same hp]; omega
      go_wp2_with fail
      refine (rselect_any g n n cap R M b2 (k + 1) c2 b3 (k + 1) c3 (firstN k k) (firstN k k) _ HM3.out HR2'.out HR3.out HFN.out HFN.out (by omega) (by omega) (by omega) (by omega) (by omega) (by omega)).mono ?_
      rintro e w4 ⟨g4, cap4, R4, rfl, hm4, hg4, hR4, hb4⟩
      have HM4 := Lib.hid hm4
      have HB4 : Hid (Below wr.heap.size wr w4) := HB3.out.trans (hb4.mono HB3.out.size)
      clear hm4 hg4 hR4 hb4 HM3 HR2' HR3 HB3
      go_wp2_with fail
      refine (rdet_any g4 (k + 1) cap4 R4 (fun p q => M (firstN k k p) (firstN k k q)) _ HM4.out (by omega) (by omega) (fun i j hi hj => HS.out _ _ (HFN.out i hi) (HFN.out j hj))).mono ?_
      rintro e w5 ⟨a5, c5, rfl, hr5, hb5⟩
      have hdet : detZ (fun p q => M (firstN k k p) (firstN k k q)) (k + 1) = detZ M (k + 1) := detZ_congr fun i j hi hj => by rw [firstN_same hi, firstN_same hj]
      rw [hdet] at hr5 ⊢
      obtain ⟨d, hd⟩ : ∃ d, d = detZ M (k + 1) := ⟨_, rfl⟩
      rw [← hd] at hr5 ⊢
      have HD := Lib.hid hd
      obtain ⟨W, hW⟩ : ∃ W, W = w5.alloc (.cells #[.bool (sg d), .slice a5 (mg d).length c5] 51) := ⟨_, rfl⟩
      have hbW : Below w5.heap.size w5 W := by rw [hW]; exact (Below.refl _ _).alloc (Nat.le_refl _) _
      have hBx : Box w5.heap.size (.bool (sg d)) (.slice a5 (mg d).length c5) W := by rw [hW]; exact Box.made _ _ rfl _ _ _
      have HB5 : Below wr.heap.size wr w5 := HB4.out.trans (hb5.mono HB4.out.size)
      have HBW : Below wr.heap.size wr W := HB5.trans (hbW.mono HB5.size)
      have hRW : Hid (RowB W w.heap.size u6 k (fun k => detZ M (k + 1))) := hR.out.moved HBW
      have hBW : Hid (Below w.heap.size w W) := hB.out.trans (HBW.mono hB.out.size)
      have hc0 := Lib.hid hBx.c0
      have hc1 := Lib.hid hBx.c1
      have hL := Lib.hid (hr5.below hbW)
      have hWW : Hid (w5.alloc (.cells #[.bool (sg d), .slice a5 (mg d).length c5] 51) = W) := hW.symm
      clear hW hbW hBx HB5 HBW hr5 hb5 HM4 HB4 hdet hd
      go_wp2_with (at_builtin; rw [hWW.out]; refine app_Z rfl _ _ rfl w.heap.size _ k (fun k => detZ M (k + 1)) rfl hRW.out w5.heap.size _ rfl d a5 c5 hc0.out hc1.out hL.out (by omega) hBW.out.size ?_)
      intro g9 cap9 w9 q1 q2 q3 q4
      have hnx : Hid (RowB w9 w.heap.size (.slice (some ⟨g9, 0, none⟩) (k + 1) cap9) (k + 1) (fun k => detZ M (k + 1))) := q1.congr fun t ht => by
        by_cases e : t = k
        · rw [if_pos e, e, HD.out]
        · rw [if_neg e]
      have hbx : Hid (Below w.heap.size w w9) := by
        obtain ⟨A, C, ho, _⟩ := hRW.out
        exact below_app hBW.out ho q2
      clear q1 q2 q3 q4 hRW hc0 hc1 hL
      go_wp2_with fail
      go_roundw
      case rel => exact ⟨k + 1, by omega, by go_num, hnx, hbx⟩
      case measure => simp [intOf]; omega
    · obtain rfl : k = n := by omega
      obtain ⟨g5, cap5, hv5, _, hr5, _⟩ := hR.out.done h1
      subst hv5
      have HR5 := Lib.hid hr5
      clear hr5 hR
      go_wp2_with fail
      go_ret2
      exact ⟨g5, cap5, rfl, HR5.out, hB.out⟩
end Go.Proofs.YtfpcfcegdjlggaaGreat
