/-
  Joined texts: MU RM RE.
-/
import Derived.Test.YtpnnbjifhoonkaaGreatJ08
import Derived.Test.YtpnnbjifhoonkaaGreatJ06
import Derived.Test.YtpnnbjifhoonkaaGreatJ07
import Derived.Deep.RegionHeld3
import Derived.Deep.DrawnRows
namespace Go.Proofs.YtpnnbjifhoonkaaGreat
open Go.RowKit

section
variable {A B R : Nat} {u0 u1 v0 v1 : Value} {W v v' : World}
/-- Two structs' cells, and all that lies below R. -/
abbrev Kept2 (A B R : Nat) (u0 u1 v0 v1 : Value) (W v : World) : Prop :=
  v.cell? ⟨A, 0, none⟩ = some u0 ∧ v.cell? ⟨A, 1, none⟩ = some u1 ∧ v.cell? ⟨B, 0, none⟩ = some v0 ∧ v.cell? ⟨B, 1, none⟩ = some v1 ∧ Below R W v
theorem kept2_draw (h : Box A u0 u1 W) (h' : Box B v0 v1 W) (hR : R ≤ W.heap.size) : Kept2 A B R u0 u1 v0 v1 W W.drew :=
  ⟨h.c0, h.c1, h'.c0, h'.c1, ((Below.refl _ _).drew).mono hR⟩
theorem kept2_step (hA : A < R) (hB : B < R) (hs : Kept2 A B R u0 u1 v0 v1 W v) (hb : Below R v v') : Kept2 A B R u0 u1 v0 v1 W v' :=
  ⟨(hb.cell hA).trans hs.1, (hb.cell hA).trans hs.2.1, (hb.cell hB).trans hs.2.2.1, (hb.cell hB).trans hs.2.2.2.1, hs.2.2.2.2.trans hb⟩
theorem kept2_call (hA : A < R) (hB : B < R) (hR : R ≤ W.heap.size) (hs : Kept2 A B R u0 u1 v0 v1 W v) (hb : Below v.heap.size v v') : Kept2 A B R u0 u1 v0 v1 W v' :=
  kept2_step hA hB hs (hb.mono (Nat.le_trans hR hs.2.2.2.2.size))
theorem kept2_store (hA : A < R) (hB : B < R) (x y : Value) (hs : Kept2 A B R u0 u1 v0 v1 W v) : Kept2 A B R u0 u1 v0 v1 W ((v.setCell ⟨R, 0, none⟩ x).setCell ⟨R, 1, none⟩ y) :=
  kept2_step hA hB hs (((Below.refl _ _).setCell (p := ⟨R, 0, none⟩) (Nat.le_refl _) _).setCell (p := ⟨R, 1, none⟩) (Nat.le_refl _) _)
theorem kept2_rd {a : Option Addr} {cap : Nat} {xs : List Nat} {C : Nat} (hr : Rd W a cap xs) (hu : Under C a xs) (hC : C ≤ R) (hs : Kept2 A B R u0 u1 v0 v1 W v) : Rd v a cap xs :=
  hr.belowU hu (hs.2.2.2.2.mono hC)
end

theorem den_mul (na nb : Bool) (xs ys : List Nat) : den na xs * den nb ys = if (na != nb) then -((val xs * val ys : Nat) : Int) else ((val xs * val ys : Nat) : Int) := by
  unfold den
  cases na <;> cases nb <;> simp [Int.neg_mul, Int.mul_neg]

attribute [local go_sem ↓] Go.wp_at_zero Go.wp_at_succ

end Go.Proofs.YtpnnbjifhoonkaaGreat
namespace Go.Proofs.YtpnnbjifhoonkaaGreat
open Go.RowKit

theorem rprod_digit {zs0 xs ys zs : List Nat} {i j c : Nat} (hx : Lim xs) (hy : Lim ys) (hk : i + j < zs0.length) (h : MulInv zs0 (xs.getD i 0) i ys j zs c) :
    ∃ P : Int, nth xs i * nth ys j = P ∧ 0 ≤ P ∧ P ≤ 18446744065119617025 ∧ (c : Int) + (P + nth zs (i + j)) ≤ 18446744073709551615 ∧
      ∃ z c' : Nat, z < 4294967296 ∧ ((c : Int) + (P + nth zs (i + j))) % 4294967296 = (z : Int) ∧ ((c : Int) + (P + nth zs (i + j))) / 4294967296 = (c' : Int) ∧ c' ≤ 4294967295 ∧ MulInv zs0 (xs.getD i 0) i ys (j + 1) (zs.set (i + j) z) c' := by
  obtain ⟨P, h1, h2, h3, h4, z, c', h5, h6, h7, h8, h9⟩ := prod_digit hx hy hk h
  have e : (c : Int) + (P + nth zs (i + j)) = P + nth zs (i + j) + (c : Int) := by omega
  exact ⟨P, h1, h2, h3, by omega, z, c', h5, by rw [e]; exact h6, by rw [e]; exact h7, h8, h9⟩

set_option maxRecDepth 100000 in
set_option maxHeartbeats 4000000 in
theorem rmul_any (na nb : Bool) (a b : Option Addr) (n m cap cap' : Nat) (xs ys : List Nat) (w : World) (rdx : Rd w a cap xs) (rdy : Rd w b cap' ys) (hl : xs.length = n) (hl' : ys.length = m) (hn : n ≤ 1000000000) (hm : m ≤ 1000000000) :
    Calls Tryz.prog 52 #[.agg #[.bool na, .slice a n cap], .agg #[.bool nb, .slice b m cap']] w (GivesInt w (den na xs * den nb ys)) := by
  obtain ⟨i, hi, hz0, hz1, hz2⟩ := info_parts Tryz.infoU32
  have hlx := rdx.lim
  have hly := rdy.lim
  obtain ⟨V, hV⟩ : ∃ V, V = (w.alloc (.cells #[.bool na, .slice a n cap] 33)).alloc (.cells #[.bool nb, .slice b m cap'] 33) := ⟨_, rfl⟩
  obtain ⟨W, hW⟩ : ∃ W, W = V.alloc (.cells #[.bool false, .slice none 0 0] 33) := ⟨_, rfl⟩
  have hb0 : Below w.heap.size w V := by rw [hV]; exact ((Below.refl _ _).alloc (Nat.le_refl _) _).alloc (by simp) _
  have hVs : V.heap.size = w.heap.size + 2 := by rw [hV]; simp
  have hWs : W.heap.size = w.heap.size + 3 := by rw [hW, World.size_alloc, hVs]
  have hx0 : Box w.heap.size (.bool na) (.slice a n cap) V := by rw [hV]; exact (Box.made _ _ rfl _ _ _).alloc _
  have hx1 : Box (w.heap.size + 1) (.bool nb) (.slice b m cap') V := by rw [hV]; exact Box.made _ _ (by simp) _ _ _
  have hxa : Box w.heap.size (.bool na) (.slice a n cap) W := by rw [hW]; exact hx0.alloc _
  have hxb : Box (w.heap.size + 1) (.bool nb) (.slice b m cap') W := by rw [hW]; exact hx1.alloc _
  have hy : Box (w.heap.size + 2) (.bool false) (.slice none 0 0) W := by rw [hW]; exact Box.made _ _ hVs.symm _ _ _
  have hra : Rd W a cap xs := by rw [hW]; exact (rdx.below hb0).alloc _
  have hrb : Rd W b cap' ys := by rw [hW]; exact (rdy.below hb0).alloc _
  have hua := rdx.under
  have hub := rdy.under
  have hWW : ((w.alloc (.cells #[.bool na, .slice a n cap] 33)).alloc (.cells #[.bool nb, .slice b m cap'] 33)).alloc (.cells #[.bool false, .slice none 0 0] 33) = W := by rw [hW, hV]
  have HWW := Lib.hid hWW
  have HW := Lib.hid hW
  have HVS := Lib.hid hVs
  have HB0 := Lib.hid hb0
  have HXA := Lib.hid hxa
  have HXB := Lib.hid hxb
  have HY := Lib.hid hy
  have HL := Lib.hid hl
  have HL' := Lib.hid hl'
  have HRA := Lib.hid hra
  have HRB := Lib.hid hrb
  have HWS := Lib.hid hWs
  clear hWs hV hW hVs hb0 hx0 hx1 hWW hl hl' rdx rdy hy hra hrb hua hub
  obtain ⟨p0, p1, p2, p3, p4⟩ := hxa
  obtain ⟨q0, q1, q2, q3, q4⟩ := hxb
  go_enter Tryz.func52, Tryz.ntmps52
  go_wp2_with (rw [HWW.out]; at_make; refine wpList_make_full _ rfl _ _ 31 rfl W.heap.size 103 i (.int .u32 0) 1 Tryz.underlying31 hi hz0 hz1 _ _ _ _ (n + m) rfl rfl ?_ ?_ ?_ ?_ (Nat.le_refl _) ?_)
  · omega
  · omega
  · rw [hz2]; omega
  · unfold maxLen; omega
  intro w1 hown hgrow
  have ho1 := own_made hown
  have hb1 : Below W.heap.size W w1 := (Below.refl _ _).grown hgrow (Nat.le_refl _) (by intro k hk; cases hk)
  clear hown hgrow p0 p1 p2 p3 p4 q0 q1 q2 q3 q4
  have hxa1 := HXA.out.below hb1
  obtain ⟨p0, p1, p2, p3, p4⟩ := hxa1
  go_wp2_with fail
  have hst0 := MulOut.start xs ys
  rw [HL.out, HL'.out] at hst0
  clear p0 p1 p2 p3 p4
  go_loopw [22] (fun ii wr => ∃ (k : Nat) (zs : List Nat), k ≤ n ∧ ii = .int .i64 k ∧ MulOut xs ys k zs ∧ Own wr W.heap.size zs ∧ Below W.heap.size W wr) (fun ii _ => n - (intOf ii).toNat)
  case atStart => exact ⟨0, _, by omega, rfl, hst0, ho1, hb1⟩
  case round =>
    obtain ⟨k, zs, hk, rfl, hM, hO, hB⟩ := hrel
    clear hst0 ho1 hb1
    by_cases hlt : k < n
    · have hkx : k < xs.length := by rw [HL.out]; exact hlt
      have HM := Lib.hid hM
      have hlim := hM.lim
      have hlen := hM.len
      rw [HL.out, HL'.out] at hlen
      have HLen := Lib.hid hlen
      have HKX := Lib.hid hkx
      clear hM hlen hkx
      obtain ⟨bx, ox, rfl, hcx⟩ := (HRA.out.below hB).cells k HKX.out
      have hxb2 := HXB.out.below hB
      obtain ⟨q0, q1, q2, q3, q4⟩ := hxb2
      have g1 := nth_ge xs k
      have g2 := nth_le hlx k
      go_wp2_with fail
      go_loopw [8, 30] (fun cc jj wq => ∃ (j : Nat) (ys' : List Nat) (c : Nat), j ≤ m ∧ jj = .int .i64 j ∧ cc = .int .u64 c ∧ MulInv zs (xs.getD k 0) k ys j ys' c ∧ Own wq W.heap.size ys' ∧ Below W.heap.size W wq) (fun _ jj _ => m - (intOf jj).toNat)
      case atStart => exact ⟨0, zs, 0, by omega, rfl, rfl, MulInv.start hlim _ _ _, hO, hB⟩
      case round =>
        obtain ⟨j, zs2, c, hj, rfl, rfl, hI, hO2, hB2⟩ := hrel
        clear q0 q1 q2 q3 q4 hO hB
        have hc := hI.small
        have hlen2 : zs2.length = n + m := by rw [hI.len, HLen.out]
        have HLen2 := Lib.hid hlen2
        clear hlen2
        by_cases hjl : j < m
        · obtain ⟨by', oy, rfl, hcy⟩ := (HRB.out.below hB2).cells j (by rw [HL'.out]; exact hjl)
          obtain ⟨P, hP, p0, p1, p2, z, c', hz, hzv, hcv, hc', hI2⟩ := rprod_digit (xs := xs) hlx hly (by rw [HLen.out]; omega) hI
          have g3 := nth_ge ys j
          have g4 := nth_le hly j
          have g5 := nth_ge zs2 (k + j)
          have g6 := nth_le hI.lim (k + j)
          have hcell := hO2.cell (k + j) (by rw [HLen2.out]; omega)
          have hfree := hO2.free (k + j)
          have HZ := Lib.hid hzv
          have HC := Lib.hid hcv
          have HI2 := Lib.hid hI2
          clear hzv hcv hI2 hI
          go_wp2_with fail
          go_roundw
          case rel =>
            have hst := (hO2.store (k + j) z hz _ HZ.out).1
            exact ⟨j + 1, _, c', by omega, by go_num, by rw [HC.out], HI2.out, hst, hB2.setCell (p := ⟨W.heap.size, k + j, none⟩) (Nat.le_refl _) _⟩
          case measure => simp [intOf]; omega
        · obtain rfl : j = m := by omega
          have hnx := HM.out.step HKX.out (by rw [HL'.out]; exact hI)
          rw [HL'.out] at hnx
          have HNX := Lib.hid hnx
          have hcell := hO2.cell (k + j) (by rw [HLen2.out]; omega)
          have hfree := hO2.free (k + j)
          have hc9 : c ≤ 4294967295 := by omega
          have hxb3 := HXB.out.below hB2
          obtain ⟨q0, q1, q2, q3, q4⟩ := hxb3
          clear hnx hI
          go_wp2_with fail
          go_roundw
          case rel =>
            have hst := (hO2.store (k + j) c (by omega) (c : Int) rfl).1
            exact ⟨k + 1, _, by omega, by go_num, HNX.out, hst, hB2.setCell (p := ⟨W.heap.size, k + j, none⟩) (Nat.le_refl _) _⟩
          case measure => simp [intOf]; omega
    · obtain rfl : k = n := by omega
      have hdn := hM.eq
      rw [List.take_of_length_le (by rw [HL.out]; exact Nat.le_refl _)] at hdn
      have hlen := hM.len
      rw [HL.out, HL'.out] at hlen
      have hrz : Rd wr (some ⟨W.heap.size, 0, none⟩) (k + m) zs := hO.rd (by omega)
      have hz : den (na != nb) zs = den na xs * den nb ys := by rw [den_mul]; unfold den; rw [hdn]
      have hyr := HY.out.below hB
      have hxa3 := HXA.out.below hB
      have hxb3 := HXB.out.below hB
      have HYR := Lib.hid hyr
      obtain ⟨p0, p1, p2, p3, p4⟩ := hxa3
      obtain ⟨q0, q1, q2, q3, q4⟩ := hxb3
      have HZ := Lib.hid hz
      have HLen := Lib.hid hlen
      clear hz hlen hdn hM hO hyr
      go_wp2_with fail
      refine (make_any (na != nb) _ (k + m) _ zs _ hrz HLen.out (by omega)).mono ?_
      rintro e w2 ⟨a2, c2, rfl, hN2⟩
      rw [HZ.out] at hN2
      rw [HZ.out]
      obtain ⟨y0, y1, y2, y3, y4⟩ := HYR.out.below hN2.below
      have hN : New W (mg (den na xs * den nb ys)) a2 c2 w2 := New.before hB hN2
      rw [HW.out] at hN
      have hN3 := new_result hN
      rw [HVS.out] at hN3
      have hfin := New.before HB0.out (hN3 (.bool (sg (den na xs * den nb ys))) (.slice a2 (mg (den na xs * den nb ys)).length c2))
      have HF := Lib.hid hfin
      clear hN2 hN hN3 hfin p0 p1 p2 p3 p4 q0 q1 q2 q3 q4 hB
      go_wp2_with fail
      exact bodyPost_ret (v := .agg #[.bool (sg (den na xs * den nb ys)), .slice a2 (mg (den na xs * den nb ys)).length c2]) (by simp [results, Tryz.results52, go_sem, y0, y1]) rfl ⟨a2, c2, rfl, HF.out⟩
end Go.Proofs.YtpnnbjifhoonkaaGreat
namespace Go.Proofs.YtpnnbjifhoonkaaGreat
open Go.RowKit

theorem den_add_same (na : Bool) {xs ys zs : List Nat} (h : val zs = val xs + val ys) : den na zs = den na xs + den na ys := by
  unfold den; rw [h]; cases na <;> simp <;> omega
theorem den_sub_left (na : Bool) {xs ys zs : List Nat} (h : val zs = val xs - val ys) (hle : val ys ≤ val xs) : den na zs = den na xs + den (!na) ys := by
  unfold den; rw [h]; cases na <;> simp <;> omega
theorem den_sub_right (na : Bool) {xs ys zs : List Nat} (h : val zs = val ys - val xs) (hle : val xs ≤ val ys) : den (!na) zs = den na xs + den (!na) ys := by
  unfold den; rw [h]; cases na <;> simp <;> omega

attribute [local go_sem ↓] Go.wp_at_zero Go.wp_at_succ

set_option maxRecDepth 100000 in
set_option maxHeartbeats 4000000 in
theorem radd_any (na nb : Bool) (a b : Option Addr) (n m cap cap' : Nat) (xs ys : List Nat) (w : World) (rdx : Rd w a cap xs) (rdy : Rd w b cap' ys) (hl : xs.length = n) (hl' : ys.length = m) (hn : n ≤ 1000000000) (hm : m ≤ 1000000000) :
    Calls Tryz.prog 51 #[.agg #[.bool na, .slice a n cap], .agg #[.bool nb, .slice b m cap']] w (GivesInt w (den na xs + den nb ys)) := by
  have hlx := rdx.lim
  have hly := rdy.lim
  obtain ⟨V, hV⟩ : ∃ V, V = (w.alloc (.cells #[.bool na, .slice a n cap] 33)).alloc (.cells #[.bool nb, .slice b m cap'] 33) := ⟨_, rfl⟩
  obtain ⟨W, hW⟩ : ∃ W, W = V.alloc (.cells #[.bool false, .slice none 0 0] 33) := ⟨_, rfl⟩
  have hb0 : Below w.heap.size w V := by rw [hV]; exact ((Below.refl _ _).alloc (Nat.le_refl _) _).alloc (by simp) _
  have hVs : V.heap.size = w.heap.size + 2 := by rw [hV]; simp
  have hWs : W.heap.size = w.heap.size + 3 := by rw [hW, World.size_alloc, hVs]
  have hx0 : Box w.heap.size (.bool na) (.slice a n cap) V := by rw [hV]; exact (Box.made _ _ rfl _ _ _).alloc _
  have hx1 : Box (w.heap.size + 1) (.bool nb) (.slice b m cap') V := by rw [hV]; exact Box.made _ _ (by simp) _ _ _
  have hxa : Box w.heap.size (.bool na) (.slice a n cap) W := by rw [hW]; exact hx0.alloc _
  have hxb : Box (w.heap.size + 1) (.bool nb) (.slice b m cap') W := by rw [hW]; exact hx1.alloc _
  have hy : Box (w.heap.size + 2) (.bool false) (.slice none 0 0) W := by rw [hW]; exact Box.made _ _ hVs.symm _ _ _
  have hra : Rd W a cap xs := by rw [hW]; exact (rdx.below hb0).alloc _
  have hrb : Rd W b cap' ys := by rw [hW]; exact (rdy.below hb0).alloc _
  have hWW : ((w.alloc (.cells #[.bool na, .slice a n cap] 33)).alloc (.cells #[.bool nb, .slice b m cap'] 33)).alloc (.cells #[.bool false, .slice none 0 0] 33) = W := by rw [hW, hV]
  have hvx := val_trimL hlx
  have hvy := val_trimL hly
  have htx := trimL_trimL hlx
  have hty := trimL_trimL hly
  have hlenx : (trimL xs).length ≤ 1000000000 := Nat.le_trans (length_trimL_le xs) (by omega)
  have hleny : (trimL ys).length ≤ 1000000000 := Nat.le_trans (length_trimL_le ys) (by omega)
  have HWW := Lib.hid hWW
  have HW := Lib.hid hW
  have HVS := Lib.hid hVs
  have HWS := Lib.hid hWs
  have HB0 := Lib.hid hb0
  have HXA := Lib.hid hxa
  have HXB := Lib.hid hxb
  have HY := Lib.hid hy
  have HL := Lib.hid hl
  have HL' := Lib.hid hl'
  have HRA := Lib.hid hra
  have HRB := Lib.hid hrb
  have HVX := Lib.hid hvx
  have HVY := Lib.hid hvy
  have HTX := Lib.hid htx
  have HTY := Lib.hid hty
  have HNX := Lib.hid hlenx
  have HNY := Lib.hid hleny
  clear hWs hV hW hVs hb0 hx0 hx1 hWW hl hl' rdx rdy hy hra hrb hxa hxb hvx hvy htx hty hlenx hleny
  have hn1 : (trimL xs).length ≤ 1000000000 := HNX.out
  have hn2 : (trimL ys).length ≤ 1000000000 := HNY.out
  by_cases he : na = nb
  · have d0 : (na == nb) = true := by simp [he]
    have HE := Lib.hid he
    clear he
    go_enter Tryz.func51, Tryz.ntmps51
    go_wp2_with fail
    rw [HWW.out]
    go_region_held3 (fun w' => w'.cell? ⟨w.heap.size, 0, none⟩ = some (.bool na) ∧ w'.cell? ⟨w.heap.size, 1, none⟩ = some (.slice a n cap) ∧ w'.cell? ⟨w.heap.size + 1, 0, none⟩ = some (.bool nb) ∧ w'.cell? ⟨w.heap.size + 1, 1, none⟩ = some (.slice b m cap') ∧ Below W.heap.size W w')
      (first | exact two_draw HXA.out HXB.out | exact two_step HXA.out HXB.out (by assumption) hN6.below | exact two_step HXA.out HXB.out (by assumption) hN7.below)
      ((first
        | (go_at_call 47; have hq := two_rd HRA.out (by assumption); have hq2 := rtrim_any a n cap xs _ hq HL.out (by omega); (with_reducible refine hq2.mono ?_); clear hq hq2; rintro e w6 ⟨a6, c6, rfl, hN6⟩)
        | (go_at_call 47; have hq := two_rd HRB.out (by assumption); have hq2 := rtrim_any b m cap' ys _ hq HL'.out (by omega); (with_reducible refine hq2.mono ?_); clear hq hq2; rintro e w7 ⟨a7, c7, rfl, hN7⟩)))
    have hb7 : Below W.heap.size W w7 := two_below (by assumption)
    have hxa7 := HXA.out.below hb7
    have hxb7 := HXB.out.below hb7
    have hrx7 : Rd w7 a6 c6 (trimL xs) := hN6.rd.below hN7.below
    have hry7 : Rd w7 a7 c7 (trimL ys) := hN7.rd
    have hy7 := HY.out.below hb7
    have HB7 := Lib.hid hb7
    have HXA7 := Lib.hid hxa7
    have HXB7 := Lib.hid hxb7
    have HRX7 := Lib.hid hrx7
    have HRY7 := Lib.hid hry7
    have HY7 := Lib.hid hy7
    clear hb7 hrx7 hry7 hN6 hN7 hy7
    obtain ⟨p0, p1, p2, p3, p4⟩ := hxa7
    obtain ⟨q0, q1, q2, q3, q4⟩ := hxb7
    have HRX9 : Rd (w7).drew a6 c6 (trimL xs) := HRX7.out.below (Below.refl _ _).drew
    have HRY9 : Rd (w7).drew a7 c7 (trimL ys) := HRY7.out.below (Below.refl _ _).drew
    have hsz7 : w.heap.size + 3 ≤ (w7).heap.size := by have := HB7.out.size; have := HWS.out; omega
    go_wp2_with fail
    go_region_held3 (fun w' => w'.cell? ⟨w.heap.size, 0, none⟩ = some (.bool na) ∧ w'.cell? ⟨w.heap.size, 1, none⟩ = some (.slice a n cap) ∧ Below (w.heap.size + 2) (w7) w')
      (first | exact kept_draw HXA7.out (by omega) | assumption | exact kept_call HXA7.out (by omega) (by omega) (by assumption) hN8.below | exact kept_call HXA7.out (by omega) (by omega) (by assumption) hN9.below | exact kept_store HXA7.out (by omega) (by omega) _ _ (by assumption))
      ((first
        | (go_at_call 71; refine (rsum_any a6 a7 _ _ c6 c7 (trimL xs) (trimL ys) _ HRX9 HRY9 rfl rfl HNX.out HNY.out).mono ?_; rintro e w8 ⟨zs, a8, c8, hzv, hzl0, rfl, hN8⟩; have hzl : zs.length ≤ 1000000001 := (by omega); clear hzl0)
        | (go_at_call 70; refine (make_any na a8 zs.length c8 zs _ hN8.rd rfl (by omega)).mono ?_; rintro e w9 ⟨a9, c9, rfl, hN9⟩; obtain ⟨y0, y1, y2, y3, y4⟩ := HY7.out.below ((Below.refl _ _).drew.trans (hN8.below.trans (hN9.below.mono hN8.below.size))))))
    have hz : den na zs = den na xs + den nb ys := by rw [den_add_same na (xs := xs) (ys := ys) (by rw [hzv.out, HVX.out, HVY.out]), HE.out]
    rw [hz] at hN9
    rw [hz]
    clear hz
    have hB8 := HB7.out.trans (((Below.refl _ _).drew.trans hN8.below).mono HB7.out.size)
    have hN : New W (mg (den na xs + den nb ys)) a9 c9 w9 := New.before hB8 hN9
    rw [HW.out] at hN
    have hN3 := new_result hN
    rw [HVS.out] at hN3
    have hfin := New.before HB0.out (hN3 (.bool (sg (den na xs + den nb ys))) (.slice a9 (mg (den na xs + den nb ys)).length c9))
    have HF := Lib.hid hfin
    clear hN8 hN9 hN hN3 hfin hB8 p0 p1 p2 p3 p4 q0 q1 q2 q3 q4
    go_wp2_with fail
    exact bodyPost_ret (v := .agg #[.bool (sg (den na xs + den nb ys)), .slice a9 (mg (den na xs + den nb ys)).length c9]) (by simp [results, Tryz.results51, go_sem, y0, y1]) rfl ⟨a9, c9, rfl, HF.out⟩
  · have d0 : (na == nb) = false := by simp [he]
    have hnn : nb = !na := by cases na <;> cases nb <;> simp_all
    have HE := Lib.hid hnn
    clear he hnn
    by_cases hle : val ys ≤ val xs
    · have d1 : decide (0 ≤ cmpI (val xs) (val ys)) = true := by unfold cmpI; rw [if_neg (by omega)]; split <;> simp
      have HLE := Lib.hid hle
      clear hle
      go_enter Tryz.func51, Tryz.ntmps51
      go_wp2_with fail
      rw [HWW.out]
      go_region_held3 (fun w' => w'.cell? ⟨w.heap.size, 0, none⟩ = some (.bool na) ∧ w'.cell? ⟨w.heap.size, 1, none⟩ = some (.slice a n cap) ∧ w'.cell? ⟨w.heap.size + 1, 0, none⟩ = some (.bool nb) ∧ w'.cell? ⟨w.heap.size + 1, 1, none⟩ = some (.slice b m cap') ∧ Below W.heap.size W w')
        (first | exact two_draw HXA.out HXB.out | exact two_step HXA.out HXB.out (by assumption) hN6.below | exact two_step HXA.out HXB.out (by assumption) hN7.below)
        ((first
          | (go_at_call 47; have hq := two_rd HRA.out (by assumption); have hq2 := rtrim_any a n cap xs _ hq HL.out (by omega); (with_reducible refine hq2.mono ?_); clear hq hq2; rintro e w6 ⟨a6, c6, rfl, hN6⟩)
          | (go_at_call 47; have hq := two_rd HRB.out (by assumption); have hq2 := rtrim_any b m cap' ys _ hq HL'.out (by omega); (with_reducible refine hq2.mono ?_); clear hq hq2; rintro e w7 ⟨a7, c7, rfl, hN7⟩)))
      have hb7 : Below W.heap.size W w7 := two_below (by assumption)
      have hxa7 := HXA.out.below hb7
      have hxb7 := HXB.out.below hb7
      have hrx7 : Rd w7 a6 c6 (trimL xs) := hN6.rd.below hN7.below
      have hry7 : Rd w7 a7 c7 (trimL ys) := hN7.rd
      have hy7 := HY.out.below hb7
      have HB7 := Lib.hid hb7
      have HXA7 := Lib.hid hxa7
      have HXB7 := Lib.hid hxb7
      have HRX7 := Lib.hid hrx7
      have HRY7 := Lib.hid hry7
      have HY7 := Lib.hid hy7
      clear hb7 hrx7 hry7 hN6 hN7 hy7
      obtain ⟨p0, p1, p2, p3, p4⟩ := hxa7
      obtain ⟨q0, q1, q2, q3, q4⟩ := hxb7
      go_wp2_with fail
      have hq2 := rcmp_any a6 a7 _ _ c6 c7 (trimL xs) (trimL ys) _ HRX7.out HRY7.out rfl rfl (by omega) (by omega) (.inr ⟨HTX.out, HTY.out⟩)
      rw [HVX.out, HVY.out] at hq2
      refine hq2.mono ?_
      clear hq2
      rintro e w8 ⟨rfl, qq, rfl⟩
      have HBQ : Below w7.heap.size w7 (w7.drewN qq) := below_drewN (Below.refl _ _) qq
      have HXA8 := Lib.hid (HXA7.out.below HBQ)
      have HXB8 := Lib.hid (HXB7.out.below HBQ)
      have HRX8 := Lib.hid (HRX7.out.below HBQ)
      have HRY8 := Lib.hid (HRY7.out.below HBQ)
      have HY8 := Lib.hid (HY7.out.below HBQ)
      have HB8 := Lib.hid (HB7.out.trans (HBQ.mono HB7.out.size))
      clear HBQ
      have HRX9 : Rd ((w7.drewN qq)).drew a6 c6 (trimL xs) := HRX8.out.below (Below.refl _ _).drew
      have HRY9 : Rd ((w7.drewN qq)).drew a7 c7 (trimL ys) := HRY8.out.below (Below.refl _ _).drew
      have hsz7 : w.heap.size + 3 ≤ ((w7.drewN qq)).heap.size := by have := HB8.out.size; have := HWS.out; omega
      go_wp2_with fail
      go_region_held3 (fun w' => w'.cell? ⟨w.heap.size, 0, none⟩ = some (.bool na) ∧ w'.cell? ⟨w.heap.size, 1, none⟩ = some (.slice a n cap) ∧ Below (w.heap.size + 2) ((w7.drewN qq)) w')
        (first | exact kept_draw HXA8.out (by omega) | assumption | exact kept_call HXA8.out (by omega) (by omega) (by assumption) hN10.below | exact kept_call HXA8.out (by omega) (by omega) (by assumption) hN9.below | exact kept_store HXA8.out (by omega) (by omega) _ _ (by assumption))
        ((first
          | (go_at_call 73; refine (rdiff_any a6 a7 _ _ c6 c7 (trimL xs) (trimL ys) _ HRX9 HRY9 rfl rfl HNX.out HNY.out (by rw [HVX.out, HVY.out]; exact HLE.out)).mono ?_; rintro e w10 ⟨zs, a10, c10, hzv, hzl0, rfl, hN10⟩; have hzl : zs.length ≤ 1000000001 := (by omega); clear hzl0)
          | (go_at_call 70; refine (make_any na a10 zs.length c10 zs _ hN10.rd rfl (by omega)).mono ?_; rintro e w9 ⟨a9, c9, rfl, hN9⟩; obtain ⟨y0, y1, y2, y3, y4⟩ := HY8.out.below ((Below.refl _ _).drew.trans (hN10.below.trans (hN9.below.mono hN10.below.size))))))
      have hz : den na zs = den na xs + den nb ys := by rw [den_sub_left na (xs := xs) (ys := ys) (by rw [hzv.out, HVX.out, HVY.out]) HLE.out, HE.out]
      rw [hz] at hN9
      rw [hz]
      clear hz
      have hB8 := HB8.out.trans (((Below.refl _ _).drew.trans hN10.below).mono HB8.out.size)
      have hN : New W (mg (den na xs + den nb ys)) a9 c9 w9 := New.before hB8 hN9
      rw [HW.out] at hN
      have hN3 := new_result hN
      rw [HVS.out] at hN3
      have hfin := New.before HB0.out (hN3 (.bool (sg (den na xs + den nb ys))) (.slice a9 (mg (den na xs + den nb ys)).length c9))
      have HF := Lib.hid hfin
      clear hN10 hN9 hN hN3 hfin hB8 p0 p1 p2 p3 p4 q0 q1 q2 q3 q4
      go_wp2_with fail
      exact bodyPost_ret (v := .agg #[.bool (sg (den na xs + den nb ys)), .slice a9 (mg (den na xs + den nb ys)).length c9]) (by simp [results, Tryz.results51, go_sem, y0, y1]) rfl ⟨a9, c9, rfl, HF.out⟩
    · have d1 : decide (0 ≤ cmpI (val xs) (val ys)) = false := by unfold cmpI; rw [if_pos (by omega)]; simp
      have hle2 : val xs ≤ val ys := by omega
      have HLE := Lib.hid hle2
      clear hle hle2
      go_enter Tryz.func51, Tryz.ntmps51
      go_wp2_with fail
      rw [HWW.out]
      go_region_held3 (fun w' => w'.cell? ⟨w.heap.size, 0, none⟩ = some (.bool na) ∧ w'.cell? ⟨w.heap.size, 1, none⟩ = some (.slice a n cap) ∧ w'.cell? ⟨w.heap.size + 1, 0, none⟩ = some (.bool nb) ∧ w'.cell? ⟨w.heap.size + 1, 1, none⟩ = some (.slice b m cap') ∧ Below W.heap.size W w')
        (first | exact two_draw HXA.out HXB.out | exact two_step HXA.out HXB.out (by assumption) hN6.below | exact two_step HXA.out HXB.out (by assumption) hN7.below)
        ((first
          | (go_at_call 47; have hq := two_rd HRA.out (by assumption); have hq2 := rtrim_any a n cap xs _ hq HL.out (by omega); (with_reducible refine hq2.mono ?_); clear hq hq2; rintro e w6 ⟨a6, c6, rfl, hN6⟩)
          | (go_at_call 47; have hq := two_rd HRB.out (by assumption); have hq2 := rtrim_any b m cap' ys _ hq HL'.out (by omega); (with_reducible refine hq2.mono ?_); clear hq hq2; rintro e w7 ⟨a7, c7, rfl, hN7⟩)))
      have hb7 : Below W.heap.size W w7 := two_below (by assumption)
      have hxa7 := HXA.out.below hb7
      have hxb7 := HXB.out.below hb7
      have hrx7 : Rd w7 a6 c6 (trimL xs) := hN6.rd.below hN7.below
      have hry7 : Rd w7 a7 c7 (trimL ys) := hN7.rd
      have hy7 := HY.out.below hb7
      have HB7 := Lib.hid hb7
      have HXA7 := Lib.hid hxa7
      have HXB7 := Lib.hid hxb7
      have HRX7 := Lib.hid hrx7
      have HRY7 := Lib.hid hry7
      have HY7 := Lib.hid hy7
      clear hb7 hrx7 hry7 hN6 hN7 hy7
      obtain ⟨p0, p1, p2, p3, p4⟩ := hxa7
      obtain ⟨q0, q1, q2, q3, q4⟩ := hxb7
      go_wp2_with fail
      have hq2 := rcmp_any a6 a7 _ _ c6 c7 (trimL xs) (trimL ys) _ HRX7.out HRY7.out rfl rfl (by omega) (by omega) (.inr ⟨HTX.out, HTY.out⟩)
      rw [HVX.out, HVY.out] at hq2
      refine hq2.mono ?_
      clear hq2
      rintro e w8 ⟨rfl, qq, rfl⟩
      have HBQ : Below w7.heap.size w7 (w7.drewN qq) := below_drewN (Below.refl _ _) qq
      have HXA8 := Lib.hid (HXA7.out.below HBQ)
      have HXB8 := Lib.hid (HXB7.out.below HBQ)
      have HRX8 := Lib.hid (HRX7.out.below HBQ)
      have HRY8 := Lib.hid (HRY7.out.below HBQ)
      have HY8 := Lib.hid (HY7.out.below HBQ)
      have HB8 := Lib.hid (HB7.out.trans (HBQ.mono HB7.out.size))
      clear HBQ
      have HRX9 : Rd ((w7.drewN qq)).drew a6 c6 (trimL xs) := HRX8.out.below (Below.refl _ _).drew
      have HRY9 : Rd ((w7.drewN qq)).drew a7 c7 (trimL ys) := HRY8.out.below (Below.refl _ _).drew
      have hsz7 : w.heap.size + 3 ≤ ((w7.drewN qq)).heap.size := by have := HB8.out.size; have := HWS.out; omega
      go_wp2_with fail
      go_region_held3 (fun w' => w'.cell? ⟨w.heap.size + 1, 0, none⟩ = some (.bool nb) ∧ w'.cell? ⟨w.heap.size + 1, 1, none⟩ = some (.slice b m cap') ∧ Below (w.heap.size + 2) ((w7.drewN qq)) w')
        (first | exact kept_draw HXB8.out (by omega) | assumption | exact kept_call HXB8.out (by omega) (by omega) (by assumption) hN10.below | exact kept_call HXB8.out (by omega) (by omega) (by assumption) hN9.below | exact kept_store HXB8.out (by omega) (by omega) _ _ (by assumption))
        ((first
          | (go_at_call 73; refine (rdiff_any a7 a6 _ _ c7 c6 (trimL ys) (trimL xs) _ HRY9 HRX9 rfl rfl HNY.out HNX.out (by rw [HVX.out, HVY.out]; exact HLE.out)).mono ?_; rintro e w10 ⟨zs, a10, c10, hzv, hzl0, rfl, hN10⟩; have hzl : zs.length ≤ 1000000001 := (by omega); clear hzl0)
          | (go_at_call 70; refine (make_any nb a10 zs.length c10 zs _ hN10.rd rfl (by omega)).mono ?_; rintro e w9 ⟨a9, c9, rfl, hN9⟩; obtain ⟨y0, y1, y2, y3, y4⟩ := HY8.out.below ((Below.refl _ _).drew.trans (hN10.below.trans (hN9.below.mono hN10.below.size))))))
      have hz : den nb zs = den na xs + den nb ys := by rw [HE.out, den_sub_right na (xs := xs) (ys := ys) (by rw [hzv.out, HVX.out, HVY.out]) HLE.out]
      rw [hz] at hN9
      rw [hz]
      clear hz
      have hB8 := HB8.out.trans (((Below.refl _ _).drew.trans hN10.below).mono HB8.out.size)
      have hN : New W (mg (den na xs + den nb ys)) a9 c9 w9 := New.before hB8 hN9
      rw [HW.out] at hN
      have hN3 := new_result hN
      rw [HVS.out] at hN3
      have hfin := New.before HB0.out (hN3 (.bool (sg (den na xs + den nb ys))) (.slice a9 (mg (den na xs + den nb ys)).length c9))
      have HF := Lib.hid hfin
      clear hN10 hN9 hN hN3 hfin hB8 p0 p1 p2 p3 p4 q0 q1 q2 q3 q4
      go_wp2_with fail
      exact bodyPost_ret (v := .agg #[.bool (sg (den na xs + den nb ys)), .slice a9 (mg (den na xs + den nb ys)).length c9]) (by simp [results, Tryz.results51, go_sem, y0, y1]) rfl ⟨a9, c9, rfl, HF.out⟩
end Go.Proofs.YtpnnbjifhoonkaaGreat
