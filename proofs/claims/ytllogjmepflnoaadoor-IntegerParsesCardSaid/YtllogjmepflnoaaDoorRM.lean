/-
  The reference's Mul.
-/
import Derived.Test.YtllogjmepflnoaaDoorMU
namespace Go.Proofs.YtllogjmepflnoaaDoor
open Go.RowKit

theorem rprod_digit {zs0 xs ys zs : List Nat} {i j c : Nat} (hx : Lim xs) (hy : Lim ys) (hk : i + j < zs0.length) (h : MulInv zs0 (xs.getD i 0) i ys j zs c) :
    ∃ P : Int, nth xs i * nth ys j = P ∧ 0 ≤ P ∧ P ≤ 18446744065119617025 ∧ (c : Int) + (P + nth zs (i + j)) ≤ 18446744073709551615 ∧
      ∃ z c' : Nat, z < 4294967296 ∧ ((c : Int) + (P + nth zs (i + j))) % 4294967296 = (z : Int) ∧ ((c : Int) + (P + nth zs (i + j))) / 4294967296 = (c' : Int) ∧ c' ≤ 4294967295 ∧ MulInv zs0 (xs.getD i 0) i ys (j + 1) (zs.set (i + j) z) c' := by
  obtain ⟨P, h1, h2, h3, h4, z, c', h5, h6, h7, h8, h9⟩ := prod_digit hx hy hk h
  have e : (c : Int) + (P + nth zs (i + j)) = P + nth zs (i + j) + (c : Int) := by omega
  exact ⟨P, h1, h2, h3, by omega, z, c', h5, by rw [e]; exact h6, by rw [e]; exact h7, h8, h9⟩

set_option maxRecDepth 100000 in
set_option maxHeartbeats 4000000 in
theorem rmul_any (na nb : Bool) (a b : Option Addr) (n m cap cap' : Nat) (xs ys : List Nat) (w : World) (rdx : Rd w a cap xs) (rdy : Rd w b cap' ys) (hl : xs.length = n) (hl' : ys.length = m) (hn : n ≤ 1000000000) (hm : m ≤ 1000000000) :
    Calls Tryd.prog 34 #[.agg #[.bool na, .slice a n cap], .agg #[.bool nb, .slice b m cap']] w (GivesInt w (den na xs * den nb ys)) := by
  obtain ⟨i, hi, hz0, hz1, hz2⟩ := info_parts Tryd.infoU32
  have hlx := rdx.lim
  have hly := rdy.lim
  obtain ⟨V, hV⟩ : ∃ V, V = (w.alloc (.cells #[.bool na, .slice a n cap] 24)).alloc (.cells #[.bool nb, .slice b m cap'] 24) := ⟨_, rfl⟩
  obtain ⟨W, hW⟩ : ∃ W, W = V.alloc (.cells #[.bool false, .slice none 0 0] 24) := ⟨_, rfl⟩
  have hb0 : Below w.heap.size w V := by rw [hV]; exact ((Below.refl _ _).alloc (Nat.le_refl _) _).alloc (by simp) _
  have hVs : V.heap.size = w.heap.size + 2 := by rw [hV]; simp
  have hWs : W.heap.size = w.heap.size + 3 := by rw [hW, World.size_alloc, hVs]
  have hx0 : Box w.heap.size (.bool na) (.slice a n cap) V := by rw [hV]; exact (Box.made _ _ rfl _ _ _).alloc _
  have hx1 : Box (w.heap.size + 1) (.bool nb) (.slice b m cap') V := by rw [hV]; exact Box.made _ _ (by simp) _ _ _
  have hxa : Box w.heap.size (.bool na) (.slice a n cap) W := by rw [hW]; exact hx0.alloc _
  have hxb : Box (w.heap.size + 1) (.bool nb) (.slice b m cap') W := by rw [hW]; exact hx1.alloc _
  have hy : Box (w.heap.size + 2) (.bool false) (.slice none 0 0) W := by rw [hW]; exact Box.made _ _ hVs.symm _ _ _
  have hra : Rd W a cap xs := by rw [hW]; exact (rdx.below hb0).alloc _
  have hrb : Rd W b cap' ys := by rw [hW]; exact (rdy.below hb0).alloc _
  have hua := rdx.under
  have hub := rdy.under
  have hWW : ((w.alloc (.cells #[.bool na, .slice a n cap] 24)).alloc (.cells #[.bool nb, .slice b m cap'] 24)).alloc (.cells #[.bool false, .slice none 0 0] 24) = W := by rw [hW, hV]
  have HWW := Lib.hid hWW
  have HW := Lib.hid hW
  have HVS := Lib.hid hVs
  have HB0 := Lib.hid hb0
  have HXA := Lib.hid hxa
  have HXB := Lib.hid hxb
  have HY := Lib.hid hy
  have HL := Lib.hid hl
  have HL' := Lib.hid hl'
  have HRA := Lib.hid hra
  have HRB := Lib.hid hrb
  have HWS := Lib.hid hWs
  clear hWs hV hW hVs hb0 hx0 hx1 hWW hl hl' rdx rdy hy hra hrb hua hub
  obtain ⟨p0, p1, p2, p3, p4⟩ := hxa
  obtain ⟨q0, q1, q2, q3, q4⟩ := hxb
  go_enter Tryd.func34, Tryd.ntmps34
  go_wp2_with (rw [HWW.out]; at_make; refine wpList_make_full _ rfl _ _ 22 rfl W.heap.size 29 i (.int .u32 0) 1 Tryd.underlying22 hi hz0 hz1 _ _ _ _ (n + m) rfl rfl ?_ ?_ ?_ ?_ (Nat.le_refl _) ?_)
  · omega
  · omega
  · rw [hz2]; omega
  · unfold maxLen; omega
  intro w1 hown hgrow
  have ho1 := own_made hown
  have hb1 : Below W.heap.size W w1 := (Below.refl _ _).grown hgrow (Nat.le_refl _) (by intro k hk; cases hk)
  clear hown hgrow p0 p1 p2 p3 p4 q0 q1 q2 q3 q4
  have hxa1 := HXA.out.below hb1
  obtain ⟨p0, p1, p2, p3, p4⟩ := hxa1
  go_wp2_with fail
  have hst0 := MulOut.start xs ys
  rw [HL.out, HL'.out] at hst0
  clear p0 p1 p2 p3 p4
  go_loopw [22] (fun ii wr => ∃ (k : Nat) (zs : List Nat), k ≤ n ∧ ii = .int .i64 k ∧ MulOut xs ys k zs ∧ Own wr W.heap.size zs ∧ Below W.heap.size W wr) (fun ii _ => n - (intOf ii).toNat)
  case atStart => exact ⟨0, _, by omega, rfl, hst0, ho1, hb1⟩
  case round =>
    obtain ⟨k, zs, hk, rfl, hM, hO, hB⟩ := hrel
    clear hst0 ho1 hb1
    by_cases hlt : k < n
    · have hkx : k < xs.length := by rw [HL.out]; exact hlt
      have HM := Lib.hid hM
      have hlim := hM.lim
      have hlen := hM.len
      rw [HL.out, HL'.out] at hlen
      have HLen := Lib.hid hlen
      have HKX := Lib.hid hkx
      clear hM hlen hkx
      obtain ⟨bx, ox, rfl, hcx⟩ := (HRA.out.below hB).cells k HKX.out
      have hxb2 := HXB.out.below hB
      obtain ⟨q0, q1, q2, q3, q4⟩ := hxb2
      have g1 := nth_ge xs k
      have g2 := nth_le hlx k
      go_wp2_with fail
      go_loopw [8, 30] (fun cc jj wq => ∃ (j : Nat) (ys' : List Nat) (c : Nat), j ≤ m ∧ jj = .int .i64 j ∧ cc = .int .u64 c ∧ MulInv zs (xs.getD k 0) k ys j ys' c ∧ Own wq W.heap.size ys' ∧ Below W.heap.size W wq) (fun _ jj _ => m - (intOf jj).toNat)
      case atStart => exact ⟨0, zs, 0, by omega, rfl, rfl, MulInv.start hlim _ _ _, hO, hB⟩
      case round =>
        obtain ⟨j, zs2, c, hj, rfl, rfl, hI, hO2, hB2⟩ := hrel
        clear q0 q1 q2 q3 q4 hO hB
        have hc := hI.small
        have hlen2 : zs2.length = n + m := by rw [hI.len, HLen.out]
        have HLen2 := Lib.hid hlen2
        clear hlen2
        by_cases hjl : j < m
        · obtain ⟨by', oy, rfl, hcy⟩ := (HRB.out.below hB2).cells j (by rw [HL'.out]; exact hjl)
          obtain ⟨P, hP, p0, p1, p2, z, c', hz, hzv, hcv, hc', hI2⟩ := rprod_digit (xs := xs) hlx hly (by rw [HLen.out]; omega) hI
          have g3 := nth_ge ys j
          have g4 := nth_le hly j
          have g5 := nth_ge zs2 (k + j)
          have g6 := nth_le hI.lim (k + j)
          have hcell := hO2.cell (k + j) (by rw [HLen2.out]; omega)
          have hfree := hO2.free (k + j)
          have HZ := Lib.hid hzv
          have HC := Lib.hid hcv
          have HI2 := Lib.hid hI2
          clear hzv hcv hI2 hI
          go_wp2_with fail
          go_roundw
          case rel =>
            have hst := (hO2.store (k + j) z hz _ HZ.out).1
            exact ⟨j + 1, _, c', by omega, by go_num, by rw [HC.out], HI2.out, hst, hB2.setCell (p := ⟨W.heap.size, k + j, none⟩) (Nat.le_refl _) _⟩
          case measure => simp [intOf]; omega
        · obtain rfl : j = m := by omega
          have hnx := HM.out.step HKX.out (by rw [HL'.out]; exact hI)
          rw [HL'.out] at hnx
          have HNX := Lib.hid hnx
          have hcell := hO2.cell (k + j) (by rw [HLen2.out]; omega)
          have hfree := hO2.free (k + j)
          have hc9 : c ≤ 4294967295 := by omega
          have hxb3 := HXB.out.below hB2
          obtain ⟨q0, q1, q2, q3, q4⟩ := hxb3
          clear hnx hI
          go_wp2_with fail
          go_roundw
          case rel =>
            have hst := (hO2.store (k + j) c (by omega) (c : Int) rfl).1
            exact ⟨k + 1, _, by omega, by go_num, HNX.out, hst, hB2.setCell (p := ⟨W.heap.size, k + j, none⟩) (Nat.le_refl _) _⟩
          case measure => simp [intOf]; omega
    · obtain rfl : k = n := by omega
      have hdn := hM.eq
      rw [List.take_of_length_le (by rw [HL.out]; exact Nat.le_refl _)] at hdn
      have hlen := hM.len
      rw [HL.out, HL'.out] at hlen
      have hrz : Rd wr (some ⟨W.heap.size, 0, none⟩) (k + m) zs := hO.rd (by omega)
      have hz : den (na != nb) zs = den na xs * den nb ys := by rw [den_mul]; unfold den; rw [hdn]
      have hyr := HY.out.below hB
      have hxa3 := HXA.out.below hB
      have hxb3 := HXB.out.below hB
      have HYR := Lib.hid hyr
      obtain ⟨p0, p1, p2, p3, p4⟩ := hxa3
      obtain ⟨q0, q1, q2, q3, q4⟩ := hxb3
      have HZ := Lib.hid hz
      have HLen := Lib.hid hlen
      clear hz hlen hdn hM hO hyr
      go_wp2_with fail
      refine (make_any (na != nb) _ (k + m) _ zs _ hrz HLen.out (by omega)).mono ?_
      rintro e w2 ⟨a2, c2, rfl, hN2⟩
      rw [HZ.out] at hN2
      rw [HZ.out]
      obtain ⟨y0, y1, y2, y3, y4⟩ := HYR.out.below hN2.below
      have hN : New W (mg (den na xs * den nb ys)) a2 c2 w2 := New.before hB hN2
      rw [HW.out] at hN
      have hN3 := new_result hN
      rw [HVS.out] at hN3
      have hfin := New.before HB0.out (hN3 (.bool (sg (den na xs * den nb ys))) (.slice a2 (mg (den na xs * den nb ys)).length c2))
      have HF := Lib.hid hfin
      clear hN2 hN hN3 hfin p0 p1 p2 p3 p4 q0 q1 q2 q3 q4 hB
      go_wp2_with fail
      exact bodyPost_ret (v := .agg #[.bool (sg (den na xs * den nb ys)), .slice a2 (mg (den na xs * den nb ys)).length c2]) (by simp [results, Tryd.results34, go_sem, y0, y1]) rfl ⟨a2, c2, rfl, HF.out⟩
end Go.Proofs.YtllogjmepflnoaaDoor
