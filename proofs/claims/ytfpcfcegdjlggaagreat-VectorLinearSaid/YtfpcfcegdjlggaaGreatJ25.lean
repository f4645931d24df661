/-
  Joined texts: IB.
-/
import Derived.Test.YtfpcfcegdjlggaaGreatJ24
namespace Go.Proofs.YtfpcfcegdjlggaaGreat
open Go.RowKit Minor

/-- Behind i rounds: the first i numbers, shifted; zeros. -/
def shL (ys : List Int) (D : Int) (n i : Nat) : List Int := (List.range n).map fun j => if j < i ∧ j < ys.length then ys.getD j 0 / D else 0
theorem length_shL (ys : List Int) (D : Int) (n i : Nat) : (shL ys D n i).length = n := by simp [shL]
theorem shL_set (ys : List Int) (D : Int) (n i : Nat) (_h : i < n) (hy : i < ys.length) : (shL ys D n i).set i (ys.getD i 0 / D) = shL ys D n (i + 1) := by
  apply List.ext_getElem
  · simp [shL]
  · intro j h1 h2
    have hj : j < n := by simpa [shL] using h2
    rw [List.getElem_set]
    simp only [shL, List.getElem_map, List.getElem_range]
    by_cases e : i = j
    · rw [if_pos e, if_pos ⟨by omega, by omega⟩, e]
    · rw [if_neg e]
      by_cases h3 : j < i ∧ j < ys.length
      · rw [if_pos h3, if_pos (by omega)]
      · rw [if_neg h3, if_neg (by omega)]
theorem shL_skip (ys : List Int) (D : Int) (n i : Nat) (hy : ys.length ≤ i) : shL ys D n i = shL ys D n (i + 1) := by
  unfold shL
  refine List.map_congr_left fun j _ => ?_
  by_cases h3 : j < i ∧ j < ys.length
  · rw [if_pos h3, if_pos (by omega)]
  · rw [if_neg h3, if_neg (by omega)]
theorem shr_lim {x D : Int} (hx : I64 x) (hD : 0 < D) : I64 (x / D) := by
  obtain ⟨h1, h2⟩ := hx
  constructor
  · refine (Int.le_ediv_iff_mul_le hD).2 ?_
    have := Int.mul_le_mul_of_nonneg_left (show (1 : Int) ≤ D by omega) (show (0 : Int) ≤ 9223372036854775808 by omega)
    omega
  · have h3 := Int.natAbs_ediv_le_natAbs x D
    rcases Int.lt_or_le x 0 with h | h
    · have := Int.ediv_neg_of_neg_of_pos h hD
      omega
    · have := Int.ediv_nonneg h (Int.le_of_lt hD)
      omega
theorem shL_lim {ys : List Int} {D : Int} (hy : ∀ i, I64 (ys.getD i 0)) (hD : 0 < D) (n i : Nat) : ∀ x ∈ shL ys D n i, I64 x := by
  intro x hx
  obtain ⟨j, _, rfl⟩ := List.mem_map.1 hx
  split
  · exact shr_lim (hy j) hD
  · exact ⟨by omega, by omega⟩

theorem shL_zero (ys : List Int) (D : Int) (n : Nat) : i64s (shL ys D n 0) = List.replicate n (.int .i64 0) := by
  apply List.ext_getElem
  · simp [i64s, shL]
  · intro j h1 h2
    simp [i64s, shL]

theorem ownI_madeL (w : World) (ys : List Int) (D : Int) (n : Nat) : OwnI (w.alloc (.cells (madeCells #[.int .i64 0] n) 2)) w.heap.size (shL ys D n 0) := by
  have hg := heap_alloc_new w (.cells (madeCells #[.int .i64 0] n) 2)
  refine ⟨_, hg, ?_⟩
  rw [length_shL, shL_zero, madeI64, List.take_of_length_le (by simp)]

set_option maxRecDepth 100000 in
set_option maxHeartbeats 4000000 in
theorem vectorLarge_walk (dim kind : Nat) (al ab : Option Addr) (nl capl nb capb : Nat) (ks : List Int) (ay : Option Addr) (ny capy : Nat) (ys : List Int) (ax : Option Addr) (nx capx : Nat) (xs : List Int) (bits : Nat) (w : World) (hr : Rd8 w al ks) (hl : ks.length = nl) (hnl : nl ≤ 200000000000000) (hdim : dim ≤ 255) (hkind : kind ≤ 255)
    (hry : RdI w ay capy ys) (hly : ys.length = ny) (hny : ny ≤ 100000000000000) (hrx : RdI w ax capx xs) (hlx : xs.length = nx) (hnx : nx ≤ 100000000000000) (hbits : bits ≤ 255) :
    Calls Tryz.prog 5 #[.agg #[.int .u8 (dim : Int), .int .u8 (kind : Int), .slice al nl capl, .slice ab nb capb], .slice ay ny capy, .slice ax nx capx, .int .u8 (bits : Int)] w fun e w' => e = .returned (.bool true) ∧ Below w.heap.size w w' := by
  obtain ⟨n, hn⟩ : ∃ n, 1 + dim % 4 = n := ⟨_, rfl⟩
  have hn8 : n ≤ 5 := by omega
  obtain ⟨V, hV⟩ : ∃ V, V = w.alloc (.cells #[.int .u8 (dim : Int), .int .u8 (kind : Int), .slice al nl capl, .slice ab nb capb] 26) := ⟨_, rfl⟩
  have HB0 : Hid (Below w.heap.size w V) := by rw [hV]; exact (Below.refl _ _).alloc (Nat.le_refl _) _
  have hbx : Hid (BoxR w.heap.size (.int .u8 (dim : Int)) (.int .u8 (kind : Int)) (.slice al nl capl) (.slice ab nb capb) V) := by rw [hV]; exact BoxR.made _ _ rfl _ _ _ _ _
  have HVV : Hid (w.alloc (.cells #[.int .u8 (dim : Int), .int .u8 (kind : Int), .slice al nl capl, .slice ab nb capb] 26) = V) := hV.symm
  have hform : Hid (Calls Tryz.prog 10 #[.agg #[.int .u8 (dim : Int), .int .u8 (kind : Int), .slice al nl capl, .slice ab nb capb], .int .i64 4] V (GivesForm V n)) := rform_any dim kind al ab nl capl nb capb 4 n ks V (hr.below HB0.out) hl hnl hdim hkind (by omega) (by omega) hn
  have HRY := Lib.hid hry
  have HLY := Lib.hid hly
  have HRX := Lib.hid hrx
  have HLX := Lib.hid hlx
  have hmk2 : Hid (∀ W : World, _) := fun W => run_make_row' (P := Tryz.prog) 23 2 (.int .i64 0) 8 Tryz.underlying23 infoH rfl .i64 .i64 n (by omega) (by omega) W
  obtain ⟨sh, hsh⟩ : ∃ s, s = bits % 64 := ⟨_, rfl⟩
  have hsh1 : (bits : Int) % 64 = (sh : Int) := by omega
  have hsh2 : sh < 64 := by omega
  obtain ⟨b0, b1, b2, b3, b4, b5⟩ := hbx.out
  clear hr hl hnl hdim hkind hn hV hry hly hrx hlx hsh
  go_enter Tryz.func5, Tryz.ntmps5
  go_wp2_with fail
  rw [HVV.out]
  go_wp2_with fail
  refine hform.out.mono ?_
  rintro e w1 ⟨G, hs, rfl, hlen, hrows, hrm, hG, hb1⟩
  have HLM := Lib.hid hlen
  have HRM := Lib.hid hrm
  have HB1 : Hid (Below w.heap.size w w1) := HB0.out.trans (hb1.mono HB0.out.size)
  clear hlen hrows hrm hG hb1 b0 b1 b2 b3 b4 b5
  obtain ⟨D, hD⟩ : ∃ D : Int, D = 2 ^ sh := ⟨_, rfl⟩
  have hD0 : Hid (0 < D) := by rw [hD]; exact Int.pow_pos (by decide)
  have HD := Lib.hid hD
  clear hD
  go_wp2_with fail
  go_cut [10, 11] from 27 (fun p q wx => ∃ g1 g2 : Nat, p = .slice (some ⟨g1, 0, none⟩) n n ∧ q = .slice (some ⟨g2, 0, none⟩) n n ∧ g1 ≠ g2 ∧ w1.heap.size ≤ g1 ∧ w1.heap.size ≤ g2 ∧ OwnI wx g1 (shL ys D n 0) ∧ OwnI wx g2 (shL xs D n 0) ∧ Below w1.heap.size w1 wx)
  case first =>
    have hmk1 := hmk2.out w1.drew
    have hmk3 := hmk2.out (w1.alloc (.cells (madeCells #[.int .i64 0] n) 2)).drew
    have hb2 : Below w1.heap.size w1 (((w1.alloc (.cells (madeCells #[.int .i64 0] n) 2)).alloc (.cells (madeCells #[.int .i64 0] n) 2)).drew) := (((Below.refl _ _).alloc (Nat.le_refl _) _).alloc (by simp) _).drew
    have hA : ∀ zs : List Int, OwnI (((w1.alloc (.cells (madeCells #[.int .i64 0] n) 2)).alloc (.cells (madeCells #[.int .i64 0] n) 2)).drew) w1.heap.size (shL zs D n 0) := fun zs => (ownI_madeL w1 zs D n).below (B := w1.heap.size + 1) ((((Below.refl _ _).alloc (by simp) _)).drew) (by omega)
    have hC : ∀ zs : List Int, OwnI (((w1.alloc (.cells (madeCells #[.int .i64 0] n) 2)).alloc (.cells (madeCells #[.int .i64 0] n) 2)).drew) (w1.heap.size + 1) (shL zs D n 0) := fun zs => by
      have h := ownI_madeL (w1.alloc (.cells (madeCells #[.int .i64 0] n) 2)) zs D n
      rw [show (w1.alloc (.cells (madeCells #[.int .i64 0] n) 2)).heap.size = w1.heap.size + 1 from by simp] at h
      exact h.of_heap rfl
    have HA := Lib.hid hA
    have HC := Lib.hid hC
    have HB2 := Lib.hid hb2
    clear hA hC hb2
    go_region
    all_goals go_wp2_with fail
    all_goals go_meet
    · exact ⟨_, _, rfl, rfl, by omega, by omega, by omega, HA.out ys, HC.out xs, HB2.out⟩
    · exact ⟨_, _, rfl, rfl, by omega, by omega, by omega, HC.out ys, HA.out xs, HB2.out⟩
  case rest =>
    obtain ⟨g1, g2, rfl, rfl, hne, hg1, hg2, ho1, ho2, hbw⟩ := hcut
    have HO1 := Lib.hid ho1
    have HO2 := Lib.hid ho2
    have HBW : Hid (Below w1.heap.size w1 wc) := hbw
    have HYI : Hid (∀ i, I64 (ys.getD i 0)) := fun i => HRY.out.get i
    have HXI : Hid (∀ i, I64 (xs.getD i 0)) := fun i => HRX.out.get i
    have hne' : g2 ≠ g1 := Ne.symm hne
    clear ho1 ho2 hbw
    go_wp2_with fail
    go_loopw [35] (fun ii wr => ∃ i : Nat, i ≤ n ∧ ii = .int .i64 (i : Int) ∧ Hid (OwnI wr g1 (shL ys D n i)) ∧ Hid (OwnI wr g2 (shL xs D n i)) ∧ Hid (Below w1.heap.size w1 wr)) (fun ii _ => n - (intOf ii).toNat)
    case atStart => exact ⟨0, by omega, rfl, HO1, HO2, HBW⟩
    case round =>
      obtain ⟨i, hin, rfl, hO1, hO2, hB⟩ := hrel
      clear HO1 HO2 HBW
      by_cases hi : i < n
      · have hi64 : (i : Int) < (n : Int) := by omega
        have hi0 : (0 : Int) ≤ (i : Int) := by omega
        have c1 := hO1.out.cell i (by rw [length_shL]; exact hi)
        have c2 := hO2.out.cell i (by rw [length_shL]; exact hi)
        have f1 := hO1.out.free i
        have f2 := hO2.out.free i
        obtain ⟨u1, hu1⟩ : ∃ u, u = (shL ys D n i).getD i 0 := ⟨_, rfl⟩
        obtain ⟨u2, hu2⟩ : ∃ u, u = (shL xs D n i).getD i 0 := ⟨_, rfl⟩
        rw [← hu1] at c1
        rw [← hu2] at c2
        clear hu1 hu2
        by_cases hiy : i < ny
        · by_cases hix : i < nx
          · obtain ⟨bly, oy, hay, cy⟩ := (HRY.out.below (HB1.out.trans (hB.out.mono HB1.out.size))).cells i (by rw [HLY.out]; exact hiy)
            obtain ⟨blyw, oyw, hayw, cyw⟩ := HRY.out.cells i (by rw [HLY.out]; exact hiy)
            have hlty : bly < w.heap.size := by
              rw [hay] at hayw
              simp only [Option.some.injEq, Addr.mk.injEq, and_true] at hayw
              have h2 : blyw < w.heap.size := World.block_lt_of_cell? w _ cyw
              omega
            have hn1y : ¬(g1 = bly) := by have := HB1.out.size; omega
            have hn1y2 : ¬(bly = g1) := fun h => hn1y h.symm
            clear cyw
            subst hay
            obtain ⟨yv, hvy⟩ : ∃ y, y = ys.getD i 0 := ⟨_, rfl⟩
            rw [← hvy] at cy
            have hiy64 : (i : Int) < (ny : Int) := by omega
            have HVy := Lib.hid hvy
            clear hvy hayw hlty
            obtain ⟨blx, ox, hax, cx⟩ := (HRX.out.below (HB1.out.trans (hB.out.mono HB1.out.size))).cells i (by rw [HLX.out]; exact hix)
            obtain ⟨blxw, oxw, haxw, cxw⟩ := HRX.out.cells i (by rw [HLX.out]; exact hix)
            have hltx : blx < w.heap.size := by
              rw [hax] at haxw
              simp only [Option.some.injEq, Addr.mk.injEq, and_true] at haxw
              have h2 : blxw < w.heap.size := World.block_lt_of_cell? w _ cxw
              omega
            have hn1x : ¬(g1 = blx) := by have := HB1.out.size; omega
            have hn1x2 : ¬(blx = g1) := fun h => hn1x h.symm
            clear cxw
            subst hax
            obtain ⟨xv, hvx⟩ : ∃ y, y = xs.getD i 0 := ⟨_, rfl⟩
            rw [← hvx] at cx
            have hix64 : (i : Int) < (nx : Int) := by omega
            have HVx := Lib.hid hvx
            clear hvx haxw hltx
            have k1 : OwnI (wr.setCell ⟨g1, i, none⟩ (.int .i64 (yv / 2 ^ sh))) g1 (shL ys D n (i + 1)) := by
              have h := hO1.out.store i (yv / 2 ^ sh)
              rw [← HD.out, HVy.out, shL_set ys D n i hi (by rw [HLY.out]; exact hiy)] at h
              rw [← HD.out, HVy.out]; exact h
            have k2 : OwnI (wr.setCell ⟨g1, i, none⟩ (.int .i64 (yv / 2 ^ sh))) g2 (shL xs D n i) := hO2.out.of_heap (Below.heap_setCell wr ⟨g1, i, none⟩ _ g2 hne')
            have k3 : Below w1.heap.size w1 (wr.setCell ⟨g1, i, none⟩ (.int .i64 (yv / 2 ^ sh))) := hB.out.setCell (p := ⟨g1, i, none⟩) hg1 _
            have K1 : Hid (OwnI ((wr.setCell ⟨g1, i, none⟩ (.int .i64 (yv / 2 ^ sh))).setCell ⟨g2, i, none⟩ (.int .i64 (xv / 2 ^ sh))) g1 (shL ys D n (i + 1))) := k1.of_heap (Below.heap_setCell (wr.setCell ⟨g1, i, none⟩ (.int .i64 (yv / 2 ^ sh))) ⟨g2, i, none⟩ _ g1 hne)
            have K2 : Hid (OwnI ((wr.setCell ⟨g1, i, none⟩ (.int .i64 (yv / 2 ^ sh))).setCell ⟨g2, i, none⟩ (.int .i64 (xv / 2 ^ sh))) g2 (shL xs D n (i + 1))) := by
              have h := k2.store i (xv / 2 ^ sh)
              rw [← HD.out, HVx.out, shL_set xs D n i hi (by rw [HLX.out]; exact hix)] at h
              unfold Hid
              rw [← HD.out, HVx.out]; exact h
            have K3 : Hid (Below w1.heap.size w1 ((wr.setCell ⟨g1, i, none⟩ (.int .i64 (yv / 2 ^ sh))).setCell ⟨g2, i, none⟩ (.int .i64 (xv / 2 ^ sh)))) := k3.setCell (p := ⟨g2, i, none⟩) hg2 _
            clear k1 k2 k3 hO1 hO2 hB
            go_wp2_with fail
            go_roundw
            case rel => exact ⟨i + 1, by omega, by go_num, K1, K2, K3⟩
            case measure => simp [intOf]; omega
          · obtain ⟨bly, oy, hay, cy⟩ := (HRY.out.below (HB1.out.trans (hB.out.mono HB1.out.size))).cells i (by rw [HLY.out]; exact hiy)
            obtain ⟨blyw, oyw, hayw, cyw⟩ := HRY.out.cells i (by rw [HLY.out]; exact hiy)
            have hlty : bly < w.heap.size := by
              rw [hay] at hayw
              simp only [Option.some.injEq, Addr.mk.injEq, and_true] at hayw
              have h2 : blyw < w.heap.size := World.block_lt_of_cell? w _ cyw
              omega
            have hn1y : ¬(g1 = bly) := by have := HB1.out.size; omega
            have hn1y2 : ¬(bly = g1) := fun h => hn1y h.symm
            clear cyw
            subst hay
            obtain ⟨yv, hvy⟩ : ∃ y, y = ys.getD i 0 := ⟨_, rfl⟩
            rw [← hvy] at cy
            have hiy64 : (i : Int) < (ny : Int) := by omega
            have HVy := Lib.hid hvy
            clear hvy hayw hlty
            have hix64 : ¬((i : Int) < (nx : Int)) := by omega
            have hix65 : decide ((i : Int) < (nx : Int)) = false := decide_eq_false hix64
            have k1 : OwnI (wr.setCell ⟨g1, i, none⟩ (.int .i64 (yv / 2 ^ sh))) g1 (shL ys D n (i + 1)) := by
              have h := hO1.out.store i (yv / 2 ^ sh)
              rw [← HD.out, HVy.out, shL_set ys D n i hi (by rw [HLY.out]; exact hiy)] at h
              rw [← HD.out, HVy.out]; exact h
            have k2 : OwnI (wr.setCell ⟨g1, i, none⟩ (.int .i64 (yv / 2 ^ sh))) g2 (shL xs D n i) := hO2.out.of_heap (Below.heap_setCell wr ⟨g1, i, none⟩ _ g2 hne')
            have k3 : Below w1.heap.size w1 (wr.setCell ⟨g1, i, none⟩ (.int .i64 (yv / 2 ^ sh))) := hB.out.setCell (p := ⟨g1, i, none⟩) hg1 _
            have K1 := Lib.hid k1
            have K2 : Hid (OwnI (wr.setCell ⟨g1, i, none⟩ (.int .i64 (yv / 2 ^ sh))) g2 (shL xs D n (i + 1))) := by unfold Hid; rw [← shL_skip xs D n i (by rw [HLX.out]; omega)]; exact k2
            have K3 := Lib.hid k3
            clear k1 k2 k3 hO1 hO2 hB
            go_wp2_with fail
            go_roundw
            case rel => exact ⟨i + 1, by omega, by go_num, K1, K2, K3⟩
            case measure => simp [intOf]; omega
        · by_cases hix : i < nx
          · have hiy64 : ¬((i : Int) < (ny : Int)) := by omega
            have hiy65 : decide ((i : Int) < (ny : Int)) = false := decide_eq_false hiy64
            obtain ⟨blx, ox, hax, cx⟩ := (HRX.out.below (HB1.out.trans (hB.out.mono HB1.out.size))).cells i (by rw [HLX.out]; exact hix)
            obtain ⟨blxw, oxw, haxw, cxw⟩ := HRX.out.cells i (by rw [HLX.out]; exact hix)
            have hltx : blx < w.heap.size := by
              rw [hax] at haxw
              simp only [Option.some.injEq, Addr.mk.injEq, and_true] at haxw
              have h2 : blxw < w.heap.size := World.block_lt_of_cell? w _ cxw
              omega
            have hn1x : ¬(g1 = blx) := by have := HB1.out.size; omega
            have hn1x2 : ¬(blx = g1) := fun h => hn1x h.symm
            clear cxw
            subst hax
            obtain ⟨xv, hvx⟩ : ∃ y, y = xs.getD i 0 := ⟨_, rfl⟩
            rw [← hvx] at cx
            have hix64 : (i : Int) < (nx : Int) := by omega
            have HVx := Lib.hid hvx
            clear hvx haxw hltx
            have k1 : OwnI wr g1 (shL ys D n (i + 1)) := by rw [← shL_skip ys D n i (by rw [HLY.out]; omega)]; exact hO1.out
            have k2 := hO2.out
            have k3 := hB.out
            have K1 : Hid (OwnI (wr.setCell ⟨g2, i, none⟩ (.int .i64 (xv / 2 ^ sh))) g1 (shL ys D n (i + 1))) := k1.of_heap (Below.heap_setCell wr ⟨g2, i, none⟩ _ g1 hne)
            have K2 : Hid (OwnI (wr.setCell ⟨g2, i, none⟩ (.int .i64 (xv / 2 ^ sh))) g2 (shL xs D n (i + 1))) := by
              have h := k2.store i (xv / 2 ^ sh)
              rw [← HD.out, HVx.out, shL_set xs D n i hi (by rw [HLX.out]; exact hix)] at h
              unfold Hid
              rw [← HD.out, HVx.out]; exact h
            have K3 : Hid (Below w1.heap.size w1 (wr.setCell ⟨g2, i, none⟩ (.int .i64 (xv / 2 ^ sh)))) := k3.setCell (p := ⟨g2, i, none⟩) hg2 _
            clear k1 k2 k3 hO1 hO2 hB
            go_wp2_with fail
            go_roundw
            case rel => exact ⟨i + 1, by omega, by go_num, K1, K2, K3⟩
            case measure => simp [intOf]; omega
          · have hiy64 : ¬((i : Int) < (ny : Int)) := by omega
            have hiy65 : decide ((i : Int) < (ny : Int)) = false := decide_eq_false hiy64
            have hix64 : ¬((i : Int) < (nx : Int)) := by omega
            have hix65 : decide ((i : Int) < (nx : Int)) = false := decide_eq_false hix64
            have k1 : OwnI wr g1 (shL ys D n (i + 1)) := by rw [← shL_skip ys D n i (by rw [HLY.out]; omega)]; exact hO1.out
            have k2 := hO2.out
            have k3 := hB.out
            have K1 := Lib.hid k1
            have K2 : Hid (OwnI wr g2 (shL xs D n (i + 1))) := by unfold Hid; rw [← shL_skip xs D n i (by rw [HLX.out]; omega)]; exact k2
            have K3 := Lib.hid k3
            clear k1 k2 k3 hO1 hO2 hB
            go_wp2_with fail
            go_roundw
            case rel => exact ⟨i + 1, by omega, by go_num, K1, K2, K3⟩
            case measure => simp [intOf]; omega
      · obtain rfl : i = n := by omega
        have HA : Hid (RdI wr (some ⟨g1, 0, none⟩) i (shL ys D i i)) := hO1.out.rd (by rw [length_shL]; exact Nat.le_refl _) (shL_lim HYI.out hD0.out i i)
        have HC : Hid (RdI wr (some ⟨g2, 0, none⟩) i (shL xs D i i)) := hO2.out.rd (by rw [length_shL]; exact Nat.le_refl _) (shL_lim HXI.out hD0.out i i)
        have HLA : Hid ((shL ys D i i).length = i) := length_shL ys D i i
        have HLC : Hid ((shL xs D i i).length = i) := length_shL xs D i i
        have HB2 : Hid (Below w.heap.size w wr) := HB1.out.trans (hB.out.mono HB1.out.size)
        have HRM2 := Lib.hid (HRM.out.below hB.out)
        have HA2 := HA
        have HC2 := HC
        clear hO1 hO2 hB
        obtain ⟨z1, r1, hi1⟩ := innIs_ex hs (shL ys D i i) (shL ys D i i) i
        have HI1 := Lib.hid hi1
        clear hi1
        have q1 : (z1 == z1) = true := by simp
        obtain ⟨z2, r2, hi2⟩ := innIs_ex hs (shL ys D i i) (shL xs D i i) i
        have HI2 := Lib.hid hi2
        clear hi2
        have q2 : (z2 == z2) = true := by simp
        obtain ⟨z3, r3, hi3⟩ := innIs_ex hs (ys) (xs) i
        have HI3 := Lib.hid hi3
        clear hi3
        have q3 : (z3 == z3) = true := by simp
        go_wp2_with fail
        refine (norm_eq HI1.out HRM2.out HLM.out (by omega) HA2.out HLA.out (by omega)).mono ?_
        rintro e w3 ⟨rfl, hb⟩
        have HB3 : Hid (Below w.heap.size w w3) := HB2.out.trans (hb.mono HB2.out.size)
        have HRM3 := Lib.hid (HRM2.out.below hb)
        have HA3 := Lib.hid (HA2.out.below hb)
        have HC3 := Lib.hid (HC2.out.below hb)
        clear hb
        go_wp2_with fail
        refine (rnorm_eq HI1.out HRM3.out HLM.out (by omega) HA3.out HLA.out (by omega)).mono ?_
        rintro e w4 ⟨rfl, hb⟩
        have HB4 : Hid (Below w.heap.size w w4) := HB3.out.trans (hb.mono HB3.out.size)
        have HRM4 := Lib.hid (HRM3.out.below hb)
        have HA4 := Lib.hid (HA3.out.below hb)
        have HC4 := Lib.hid (HC3.out.below hb)
        clear hb
        go_wp2_with fail
        refine (inner_eq HI2.out HRM4.out HLM.out (by omega) HA4.out HLA.out (by omega) HC4.out HLC.out (by omega)).mono ?_
        rintro e w5 ⟨rfl, hb⟩
        have HB5 : Hid (Below w.heap.size w w5) := HB4.out.trans (hb.mono HB4.out.size)
        have HRM5 := Lib.hid (HRM4.out.below hb)
        have HA5 := Lib.hid (HA4.out.below hb)
        have HC5 := Lib.hid (HC4.out.below hb)
        clear hb
        go_wp2_with fail
        refine (rinner_eq HI2.out HRM5.out HLM.out (by omega) HA5.out HLA.out (by omega) HC5.out HLC.out (by omega)).mono ?_
        rintro e w6 ⟨rfl, hb⟩
        have HB6 : Hid (Below w.heap.size w w6) := HB5.out.trans (hb.mono HB5.out.size)
        have HRM6 := Lib.hid (HRM5.out.below hb)
        have HA6 := Lib.hid (HA5.out.below hb)
        have HC6 := Lib.hid (HC5.out.below hb)
        clear hb
        go_wp2_with fail
        refine (inner_eq HI3.out HRM6.out HLM.out (by omega) (HRY.out.below HB6.out) HLY.out hny (HRX.out.below HB6.out) HLX.out hnx).mono ?_
        rintro e w7 ⟨rfl, hb⟩
        have HB7 : Hid (Below w.heap.size w w7) := HB6.out.trans (hb.mono HB6.out.size)
        have HRM7 := Lib.hid (HRM6.out.below hb)
        have HA7 := Lib.hid (HA6.out.below hb)
        have HC7 := Lib.hid (HC6.out.below hb)
        clear hb
        go_wp2_with fail
        refine (rinner_eq HI3.out HRM7.out HLM.out (by omega) (HRY.out.below HB7.out) HLY.out hny (HRX.out.below HB7.out) HLX.out hnx).mono ?_
        rintro e w8 ⟨rfl, hb⟩
        have HB8 : Hid (Below w.heap.size w w8) := HB7.out.trans (hb.mono HB7.out.size)
        have HRM8 := Lib.hid (HRM7.out.below hb)
        have HA8 := Lib.hid (HA7.out.below hb)
        have HC8 := Lib.hid (HC7.out.below hb)
        clear hb
        have p1 : (r1 == r1) = true := by simp
        have p2 : (r2 == r2) = true := by simp
        have p3 : (r3 == r3) = true := by simp
        go_wp2_with fail
        refine (vawake_any _).mono ?_
        rintro e w9 ⟨rfl, hb⟩
        have HB9 : Hid (Below w.heap.size w w9) := HB8.out.trans (hb.mono HB8.out.size)
        clear hb
        go_wp2_with fail
        go_ret
        exact ⟨rfl, HB9.out⟩
end Go.Proofs.YtfpcfcegdjlggaaGreat
