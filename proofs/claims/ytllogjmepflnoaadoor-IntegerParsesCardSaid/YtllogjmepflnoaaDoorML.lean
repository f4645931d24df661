/-
  The contract of mulLimbs.
-/
import Derived.Test.YtllogjmepflnoaaDoorH
namespace Go.Proofs.YtllogjmepflnoaaDoor
open Go.RowKit

/-- One digit of a product, as the machine computes it. -/
theorem prod_digit {zs0 xs ys zs : List Nat} {i j c : Nat} (hx : Lim xs) (hy : Lim ys) (hk : i + j < zs0.length) (h : MulInv zs0 (xs.getD i 0) i ys j zs c) :
    ∃ P : Int, nth xs i * nth ys j = P ∧ 0 ≤ P ∧ P ≤ 18446744065119617025 ∧ P + nth zs (i + j) + (c : Int) ≤ 18446744073709551615 ∧
      ∃ z c' : Nat, z < 4294967296 ∧ (P + nth zs (i + j) + (c : Int)) % 4294967296 = (z : Int) ∧ (P + nth zs (i + j) + (c : Int)) / 4294967296 = (c' : Int) ∧ c' ≤ 4294967295 ∧ MulInv zs0 (xs.getD i 0) i ys (j + 1) (zs.set (i + j) z) c' := by
  have h1 := hx.getD i
  have h2 := hy.getD j
  obtain ⟨hs, hI⟩ := h.step (hx.getD i) hy hk
  have hm : xs.getD i 0 * ys.getD j 0 ≤ 4294967295 * 4294967295 := Nat.mul_le_mul (by omega) (by omega)
  have e : nth xs i * nth ys j = ((xs.getD i 0 * ys.getD j 0 : Nat) : Int) := by unfold nth; simp
  have hc := hI.small
  refine ⟨_, e, by omega, by omega, ?_, _, _, ?_, ?_, ?_, by omega, hI⟩
  · unfold nth; omega
  · exact Nat.mod_lt _ (by omega)
  · unfold nth; omega
  · unfold nth; omega

set_option maxRecDepth 100000 in
set_option maxHeartbeats 2000000 in
theorem mulLimbs_any (a b : Option Addr) (n m cap cap' : Nat) (xs ys : List Nat) (w : World) (rdx : Rd w a cap xs) (rdy : Rd w b cap' ys) (hl : xs.length = n) (hl' : ys.length = m) (hn : n ≤ 1000000000) (hm : m ≤ 1000000000) :
    Calls Tryd.prog 63 #[.slice a n cap, .slice b m cap'] w (GivesNew w (limbs (val xs * val ys))) := by
  obtain ⟨i, hi, hz0, hz1, hz2⟩ := info_parts Tryd.infoU32
  have hlx := rdx.lim
  have hly := rdy.lim
  have hux := rdx.under
  have huy := rdy.under
  have HL := Lib.hid hl
  have HL' := Lib.hid hl'
  clear hl hl'
  go_enter Tryd.func63, Tryd.ntmps63
  go_wp2_with (at_make; refine wpList_make_full _ rfl _ _ 22 rfl w.heap.size 29 i (.int .u32 0) 1 Tryd.underlying22 hi hz0 hz1 _ _ _ _ (n + m) rfl rfl ?_ ?_ ?_ ?_ (Nat.le_refl _) ?_)
  · omega
  · omega
  · rw [hz2]; omega
  · unfold maxLen; omega
  intro w1 hown hgrow
  have ho1 := own_made hown
  have hb1 : Below w.heap.size w w1 := (Below.refl _ _).grown hgrow (Nat.le_refl _) (by intro k hk; cases hk)
  clear hown hgrow
  go_wp2_with fail
  have hst0 := MulOut.start xs ys
  rw [HL.out, HL'.out] at hst0
  go_loopw [18] (fun ii wr => ∃ (k : Nat) (zs : List Nat), k ≤ n ∧ ii = .int .i64 k ∧ MulOut xs ys k zs ∧ Own wr w.heap.size zs ∧ Below w.heap.size w wr) (fun ii _ => n - (intOf ii).toNat)
  case atStart => exact ⟨0, _, by omega, rfl, hst0, ho1, hb1⟩
  case round =>
    obtain ⟨k, zs, hk, rfl, hM, hO, hB⟩ := hrel
    clear hst0 ho1 hb1
    by_cases hlt : k < n
    · have hkx : k < xs.length := by rw [HL.out]; exact hlt
      have HM := Lib.hid hM
      have hlim := hM.lim
      have hlen := hM.len
      rw [HL.out, HL'.out] at hlen
      have HLen := Lib.hid hlen
      have HKX := Lib.hid hkx
      clear hM hlen hkx
      go_wp2_with fail
      go_loopw [7, 23] (fun cc jj wq => ∃ (j : Nat) (ys' : List Nat) (c : Nat), j ≤ m ∧ jj = .int .i64 j ∧ cc = .int .u64 c ∧ MulInv zs (xs.getD k 0) k ys j ys' c ∧ Own wq w.heap.size ys' ∧ Below w.heap.size w wq) (fun _ jj _ => m - (intOf jj).toNat)
      case atStart => exact ⟨0, zs, 0, by omega, rfl, rfl, MulInv.start hlim _ _ _, hO, hB⟩
      case round =>
        obtain ⟨j, zs2, c, hj, rfl, rfl, hI, hO2, hB2⟩ := hrel
        have hc := hI.small
        have hlen2 : zs2.length = n + m := by rw [hI.len, HLen.out]
        have HLen2 := Lib.hid hlen2
        clear hlen2
        by_cases hjl : j < m
        · have hrx := rdx.belowU hux hB2
          have hry := rdy.belowU huy hB2
          obtain ⟨bx, ox, rfl, hcx⟩ := hrx.cells k HKX.out
          obtain ⟨by', oy, rfl, hcy⟩ := hry.cells j (by rw [HL'.out]; exact hjl)
          obtain ⟨P, hP, p0, p1, p2, z, c', hz, hzv, hcv, hc', hI2⟩ := prod_digit (xs := xs) hlx hly (by rw [HLen.out]; omega) hI
          have g1 := nth_ge xs k
          have g2 := nth_le hlx k
          have g3 := nth_ge ys j
          have g4 := nth_le hly j
          have g5 := nth_ge zs2 (k + j)
          have g6 := nth_le hI.lim (k + j)
          have hcell := hO2.cell (k + j) (by rw [HLen2.out]; omega)
          have hfree := hO2.free (k + j)
          have HZ := Lib.hid hzv
          have HC := Lib.hid hcv
          have HI2 := Lib.hid hI2
          clear hzv hcv hI2 hI hrx hry
          go_wp2_with fail
          go_quiet (fail)
          go_wp2_with fail
          go_roundw
          case rel =>
            have hst := ((hO2.drewN nq).store (k + j) z hz _ HZ.out).1
            exact ⟨j + 1, _, c', by omega, by go_num, by rw [HC.out], HI2.out, hst, (below_drewN hB2 nq).setCell (p := ⟨w.heap.size, k + j, none⟩) (Nat.le_refl _) _⟩
          case measure => simp [intOf]; omega
        · obtain rfl : j = m := by omega
          have hnx := HM.out.step HKX.out (by rw [HL'.out]; exact hI)
          rw [HL'.out] at hnx
          have HNX := Lib.hid hnx
          have hcell := hO2.cell (k + j) (by rw [HLen2.out]; omega)
          have hfree := hO2.free (k + j)
          have hc9 : c ≤ 4294967295 := by omega
          clear hnx hI
          go_wp2_with fail
          go_roundw
          case rel =>
            have hst := (hO2.store (k + j) c (by omega) (c : Int) rfl).1
            exact ⟨k + 1, _, by omega, by go_num, HNX.out, hst, hB2.setCell (p := ⟨w.heap.size, k + j, none⟩) (Nat.le_refl _) _⟩
          case measure => simp [intOf]; omega
    · obtain rfl : k = n := by omega
      have hdn := hM.eq
      rw [List.take_of_length_le (by rw [HL.out]; exact Nat.le_refl _)] at hdn
      have hlen := hM.len
      rw [HL.out, HL'.out] at hlen
      have hnew : New w zs (some ⟨w.heap.size, 0, none⟩) (k + m) wr := ⟨hB, by omega, .inr ⟨_, rfl, Nat.le_refl _, hO⟩⟩
      have hv : trimL zs = limbs (val xs * val ys) := by rw [← limbs_val hM.lim, hdn]
      have HN := Lib.hid hnew
      have HV := Lib.hid hv
      have HLen := Lib.hid hlen
      clear hnew hv hlen hdn hM hO hB
      go_wp2_with fail
      refine (trim_any _ (k + m) _ zs _ HN.out.rd HLen.out (by omega)).mono ?_
      rintro e w' ⟨rfl, rfl⟩
      go_wp2_with fail
      go_ret
      refine ⟨some ⟨w.heap.size, 0, none⟩, k + m, by rw [← HV.out]; rfl, ?_⟩
      have := HN.out.trim
      rw [HV.out] at this
      exact this
end Go.Proofs.YtllogjmepflnoaaDoor
