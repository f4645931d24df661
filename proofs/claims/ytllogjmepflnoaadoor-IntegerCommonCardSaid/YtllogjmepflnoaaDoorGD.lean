/-
  The contract of Gcd.
-/
import Derived.Test.YtllogjmepflnoaaDoorRX
import Derived.Test.YtllogjmepflnoaaDoorDL
import Derived.Deep.LoopGhost
namespace Go.Proofs.YtllogjmepflnoaaDoor
open Go.RowKit

def GivesWord (w : World) (v : Nat) (e : Ending) (w' : World) : Prop := e = .returned (.int .u64 (v : Int)) ∧ Below w.heap.size w w'

set_option maxRecDepth 100000 in
set_option maxHeartbeats 2000000 in
theorem gcdWords_any (x y : Nat) (w : World) (hx : x ≤ 18446744073709551615) (hy : y ≤ 18446744073709551615) :
    Calls Tryd.prog 71 #[.int .u64 x, .int .u64 y] w (GivesWord w (Nat.gcd x y)) := by
  obtain ⟨G, hG⟩ : ∃ G, G = Nat.gcd x y := ⟨_, rfl⟩
  rw [← hG]
  have HG := Lib.hid hG
  clear hG
  go_enter Tryd.func71, Tryd.ntmps71
  go_wp2_with fail
  go_loopg [0, 1] y (fun gn a b wr => ∃ (u v : Nat), a = .int .u64 u ∧ b = .int .u64 v ∧ Hid (gn = v) ∧ Hid (Nat.gcd u v = G) ∧ u ≤ 18446744073709551615 ∧ v ≤ 18446744073709551615 ∧ Below w.heap.size w wr)
  case atStart => exact ⟨x, y, rfl, rfl, rfl, HG.out.symm, hx, hy, Below.refl _ _⟩
  case round =>
    obtain ⟨u, v, rfl, rfl, hg, hgc, hu, hv, hB⟩ := hrel
    by_cases h0 : 0 < v
    · obtain ⟨r, hr⟩ : ∃ r, r = u % v := ⟨_, rfl⟩
      have hlt : r < v := by rw [hr]; exact Nat.mod_lt _ h0
      have hgc2 : Nat.gcd v r = G := by rw [hr, ← hgc.out, Nat.gcd_comm u v, Nat.gcd_rec v u, Nat.gcd_comm]
      have h1 : (u : Int) % (v : Int) = (r : Int) := by rw [hr]; simp
      have ht : (u : Int).tmod (v : Int) = (r : Int) := by rw [Int.tmod_eq_emod_of_nonneg (by omega)]; exact h1
      have hw : IntKind.u64.wrap (r : Int) = (r : Int) := by rw [IntKind.wrap_u64]; omega
      have hv0 : ¬v = 0 := by omega
      have hd : decide ((0 : Int) < (v : Int)) = true := decide_eq_true (by omega)
      have HGC := Lib.hid hgc2
      clear hr hgc2
      go_wp2_with fail
      go_region
      all_goals go_wp2_with fail
      go_roundg r
      case measure => rw [hg.out]; exact hlt
      case rel => exact ⟨v, r, rfl, rfl, rfl, HGC.out, hv, by omega, hB.drew⟩
    · obtain rfl : v = 0 := by omega
      have he : u = G := by rw [← hgc.out, Nat.gcd_zero_right]
      have HE := Lib.hid he
      clear he
      go_wp2_with fail
      go_ret
      exact ⟨by rw [← HE.out]; rfl, hB⟩
attribute [local go_sem ↓] Go.wp_at_zero Go.wp_at_succ

set_option maxRecDepth 100000 in
set_option maxHeartbeats 8000000 in
theorem gcd_any (na nb : Bool) (a b : Option Addr) (n m cap cap' : Nat) (xs ys : List Nat) (w : World) (rdx : Rd w a cap xs) (rdy : Rd w b cap' ys) (hl : xs.length = n) (hl' : ys.length = m) (hn : n ≤ 1000000) (hm : m ≤ 1000000) :
    Calls Tryd.prog 39 #[.agg #[.bool na, .slice a n cap], .agg #[.bool nb, .slice b m cap']] w (GivesInt w (((Nat.gcd (val xs) (val ys) : Nat) : Int))) := by
  have hlx := rdx.lim
  have hly := rdy.lim
  obtain ⟨V, hV⟩ : ∃ V, V = (w.alloc (.cells #[.bool na, .slice a n cap] 24)).alloc (.cells #[.bool nb, .slice b m cap'] 24) := ⟨_, rfl⟩
  obtain ⟨W, hW⟩ : ∃ W, W = V.alloc (.cells #[.bool false, .slice none 0 0] 24) := ⟨_, rfl⟩
  have hb0 : Below w.heap.size w V := by rw [hV]; exact ((Below.refl _ _).alloc (Nat.le_refl _) _).alloc (by simp) _
  have hVs : V.heap.size = w.heap.size + 2 := by rw [hV]; simp
  have hWs : W.heap.size = w.heap.size + 3 := by rw [hW, World.size_alloc, hVs]
  have hx0 : Box w.heap.size (.bool na) (.slice a n cap) V := by rw [hV]; exact (Box.made _ _ rfl _ _ _).alloc _
  have hx1 : Box (w.heap.size + 1) (.bool nb) (.slice b m cap') V := by rw [hV]; exact Box.made _ _ (by simp) _ _ _
  have hxa : Box w.heap.size (.bool na) (.slice a n cap) W := by rw [hW]; exact hx0.alloc _
  have hxb : Box (w.heap.size + 1) (.bool nb) (.slice b m cap') W := by rw [hW]; exact hx1.alloc _
  have hy : Box (w.heap.size + 2) (.bool false) (.slice none 0 0) W := by rw [hW]; exact Box.made _ _ hVs.symm _ _ _
  have hra : Rd W a cap xs := by rw [hW]; exact (rdx.below hb0).alloc _
  have hrb : Rd W b cap' ys := by rw [hW]; exact (rdy.below hb0).alloc _
  have hWW : ((w.alloc (.cells #[.bool na, .slice a n cap] 24)).alloc (.cells #[.bool nb, .slice b m cap'] 24)).alloc (.cells #[.bool false, .slice none 0 0] 24) = W := by rw [hW, hV]
  have hvx := val_trimL hlx
  have hvy := val_trimL hly
  have htx := trimL_trimL hlx
  have hty := trimL_trimL hly
  have hlenx : (trimL xs).length ≤ 1000000 := Nat.le_trans (length_trimL_le xs) (by omega)
  have hleny : (trimL ys).length ≤ 1000000 := Nat.le_trans (length_trimL_le ys) (by omega)
  have HWW := Lib.hid hWW
  have HW := Lib.hid hW
  have HVS := Lib.hid hVs
  have HWS := Lib.hid hWs
  have HB0 := Lib.hid hb0
  have HXA := Lib.hid hxa
  have HXB := Lib.hid hxb
  have HY := Lib.hid hy
  have HL := Lib.hid hl
  have HL' := Lib.hid hl'
  have HRA := Lib.hid hra
  have HRB := Lib.hid hrb
  have HVX := Lib.hid hvx
  have HVY := Lib.hid hvy
  have HTX := Lib.hid htx
  have HTY := Lib.hid hty
  have HNX := Lib.hid hlenx
  have HNY := Lib.hid hleny
  clear hWs hV hW hVs hb0 hx0 hx1 hWW hl hl' rdx rdy hy hra hrb hxa hxb hvx hvy htx hty hlenx hleny
  have hvt1 : limbs (val xs) = trimL xs := limbs_val hlx
  have hvt2 : limbs (val ys) = trimL ys := limbs_val hly
  have HL1 := Lib.hid hvt1
  have HL2 := Lib.hid hvt2
  obtain ⟨G, hG⟩ : ∃ G, G = Nat.gcd (val xs) (val ys) := ⟨_, rfl⟩
  rw [← hG]
  have HG := Lib.hid hG
  obtain ⟨p0, p1, p2, p3, p4⟩ := HXA.out
  obtain ⟨q0, q1, q2, q3, q4⟩ := HXB.out
  have hrx := HRA.out
  have hry := HRB.out
  clear hvt1 hvt2 hG
  go_enter Tryd.func39, Tryd.ntmps39
  go_wp2_with fail
  rw [HWW.out]
  go_quiet ((go_at_call 53; first | with_reducible exact quiet_eq (trim_any a n cap xs _ (hrx.drewN _) HL.out (by omega)) | with_reducible exact quiet_eq (trim_any b m cap' ys _ (hry.drewN _) HL'.out (by omega))))
  go_wp2_with fail
  rw [← HL1.out, ← HL2.out]
  have hx1 : Rd (W.drewN nq) a cap (limbs (val xs)) := by rw [HL1.out]; exact (hrx.drewN _).trim
  have hy1 : Rd (W.drewN nq) b cap' (limbs (val ys)) := by rw [HL2.out]; exact (hry.drewN _).trim
  have hn1 : (limbs (val xs)).length ≤ 1000000 := by rw [HL1.out]; exact HNX.out
  have hn2 : (limbs (val ys)).length ≤ 1000000 := by rw [HL2.out]; exact HNY.out
  clear p0 p1 p2 p3 p4 q0 q1 q2 q3 q4 hrx hry
  go_loopg [5, 6] (val ys) (fun gn tx ty wr => ∃ (u v : Nat) (xa : Option Addr) (xc : Nat) (ya : Option Addr) (yc : Nat), tx = .slice xa (limbs u).length xc ∧ ty = .slice ya (limbs v).length yc ∧ Hid (gn = v) ∧ Hid (Nat.gcd u v = G) ∧ Rd wr xa xc (limbs u) ∧ Rd wr ya yc (limbs v) ∧ (limbs u).length ≤ 1000000 ∧ (limbs v).length ≤ 1000000 ∧ Below W.heap.size W wr)
  case atStart => exact ⟨val xs, val ys, a, cap, b, cap', rfl, rfl, rfl, HG.out.symm, hx1, hy1, hn1, hn2, below_drewN (Below.refl _ _) _⟩
  case round =>
    clear hx1 hy1 hn1 hn2
    obtain ⟨u, v, xa, xc, ya, yc, rfl, rfl, hg, hgc, hX, hYd, hu, hv, hB⟩ := hrel
    cases hf1 : fits2 (limbs u).length
    · by_cases h0 : v = 0
      · subst h0
        have he : Hid (u = G) := Lib.hid (by rw [← hgc.out, Nat.gcd_zero_right])
        have hlz : (limbs 0).length = 0 := rfl
        have hb : (((limbs 0).length : Int) == 0) = true := rfl
        go_wp2_with fail
        refine (fitsWord_any xa (limbs u).length xc _).mono ?_
        rintro e w2 ⟨rfl, rfl⟩
        go_wp2_with fail
        refine (copyLimbs_any xa _ xc (limbs u) _ hX rfl (by omega)).mono ?_
        rintro e w3 ⟨a3, c3, rfl, hN3⟩
        go_wp2_with fail
        refine (canonical_int false u (G : Int) (by rw [he.out]; rfl) a3 _ c3 _ w3 hN3 rfl).mono ?_
        rintro e w4 ⟨⟨a9, c9, rfl, hN4⟩, hb4⟩
        obtain ⟨y0, y1, y2, y3, y4⟩ := HY.out.below (hB.trans (hN4.below.mono hB.size))
        have hN : New W (mg (G : Int)) a9 c9 w4 := New.before hB hN4
        clear hN3 hN4 hb4
        rw [HW.out] at hN
        have hN3 := new_result hN
        rw [HVS.out] at hN3
        have hfin := New.before HB0.out (hN3 (.bool (sg (G : Int))) (.slice a9 (mg (G : Int)).length c9))
        have HF := Lib.hid hfin
        clear hN hN3 hfin
        go_wp2_with fail
        exact bodyPost_ret (v := .agg #[.bool (sg (G : Int)), .slice a9 (mg (G : Int)).length c9]) (by simp [results, Tryd.results39, go_sem, y0, y1]) rfl ⟨a9, c9, rfl, HF.out⟩
      · have hlv : 1 ≤ (limbs v).length := by
          rcases Nat.eq_zero_or_pos (limbs v).length with h | h
          · exact absurd (limbs_eq_nil.1 (List.eq_nil_of_length_eq_zero h)) h0
          · exact h
        have hb : (((limbs v).length : Int) == 0) = false := beq_eq_false_iff_ne.2 (by omega)
        obtain ⟨r, hr⟩ : ∃ r, r = u % v := ⟨_, rfl⟩
        have hlt : r < v := by rw [hr]; exact Nat.mod_lt _ (by omega)
        have hgc2 : Nat.gcd v r = G := by rw [hr, ← hgc.out, Nat.gcd_comm u v, Nat.gcd_rec v u, Nat.gcd_comm]
        have hrl : (limbs r).length ≤ 1000000 := Nat.le_trans (length_limbs_le (Nat.lt_trans hlt (lt_of_length_limbs (Nat.le_refl _)))) hv
        have HR := Lib.hid hr
        have HGC := Lib.hid hgc2
        clear hr hgc2
        go_wp2_with fail
        refine (fitsWord_any xa (limbs u).length xc _).mono ?_
        rintro e w2 ⟨rfl, rfl⟩
        go_wp2_with fail
        refine (divLimbs_any divLong_any xa ya _ _ xc yc (limbs u) (limbs v) _ hX hYd rfl rfl (by omega) (by omega) hlv (trimL_limbs _) (trimL_limbs _)).mono ?_
        rw [val_limbs, val_limbs, ← HR.out]
        rintro e w3 ⟨a3, c3, a4, c4, rfl, hN3, hN4⟩
        have hb3 := hN3.below
        have hY3 := hYd.below hb3
        have hX3 := hN4.rd
        have hB3 := hB.trans (hb3.mono hB.size)
        clear hN3 hN4 hb3 hX hYd hB
        go_wp2_with fail
        go_roundg r
        case measure => rw [hg.out]; exact hlt
        case rel => exact ⟨v, r, ya, yc, a4, c4, rfl, rfl, rfl, HGC.out, hY3, hX3, hv, hrl, hB3⟩
    · cases hf2 : fits2 (limbs v).length
      · by_cases h0 : v = 0
        · subst h0
          exact absurd hf2 (by decide)
        · have hlv : 1 ≤ (limbs v).length := by
            rcases Nat.eq_zero_or_pos (limbs v).length with h | h
            · exact absurd (limbs_eq_nil.1 (List.eq_nil_of_length_eq_zero h)) h0
            · exact h
          have hb : (((limbs v).length : Int) == 0) = false := beq_eq_false_iff_ne.2 (by omega)
          obtain ⟨r, hr⟩ : ∃ r, r = u % v := ⟨_, rfl⟩
          have hlt : r < v := by rw [hr]; exact Nat.mod_lt _ (by omega)
          have hgc2 : Nat.gcd v r = G := by rw [hr, ← hgc.out, Nat.gcd_comm u v, Nat.gcd_rec v u, Nat.gcd_comm]
          have hrl : (limbs r).length ≤ 1000000 := Nat.le_trans (length_limbs_le (Nat.lt_trans hlt (lt_of_length_limbs (Nat.le_refl _)))) hv
          have HR := Lib.hid hr
          have HGC := Lib.hid hgc2
          clear hr hgc2
          go_wp2_with fail
          refine (fitsWord_any xa (limbs u).length xc _).mono ?_
          rintro e w2 ⟨rfl, rfl⟩
          go_wp2_with fail
          refine (fitsWord_any ya (limbs v).length yc _).mono ?_
          rintro e w2 ⟨rfl, rfl⟩
          go_wp2_with fail
          refine (divLimbs_any divLong_any xa ya _ _ xc yc (limbs u) (limbs v) _ hX hYd rfl rfl (by omega) (by omega) hlv (trimL_limbs _) (trimL_limbs _)).mono ?_
          rw [val_limbs, val_limbs, ← HR.out]
          rintro e w3 ⟨a3, c3, a4, c4, rfl, hN3, hN4⟩
          have hb3 := hN3.below
          have hY3 := hYd.below hb3
          have hX3 := hN4.rd
          have hB3 := hB.trans (hb3.mono hB.size)
          clear hN3 hN4 hb3 hX hYd hB
          go_wp2_with fail
          go_roundg r
          case measure => rw [hg.out]; exact hlt
          case rel => exact ⟨v, r, ya, yc, a4, c4, rfl, rfl, rfl, HGC.out, hY3, hX3, hv, hrl, hB3⟩
      · have hu2 : (limbs u).length ≤ 2 := by unfold fits2 at hf1; simpa using hf1
        have hv2 : (limbs v).length ≤ 2 := by unfold fits2 at hf2; simpa using hf2
        have hub : u ≤ 18446744073709551615 := by have := lt_of_length_limbs hu2; omega
        have hvb : v ≤ 18446744073709551615 := by have := lt_of_length_limbs hv2; omega
        have hGb : G < 18446744073709551616 := by
          rw [← hgc.out]
          rcases Nat.eq_zero_or_pos u with h | h
          · subst h; rw [Nat.gcd_zero_left]; omega
          · have := Nat.gcd_le_left v h; omega
        go_wp2_with fail
        refine (fitsWord_any xa (limbs u).length xc _).mono ?_
        rintro e w2 ⟨rfl, rfl⟩
        go_wp2_with fail
        refine (fitsWord_any ya (limbs v).length yc _).mono ?_
        rintro e w2 ⟨rfl, rfl⟩
        go_wp2_with fail
        refine (wordOfLimbs_any xa _ xc (limbs u) _ hX rfl hu2).mono ?_
        rw [val_limbs]
        rintro e w2 ⟨rfl, rfl⟩
        go_wp2_with fail
        refine (wordOfLimbs_any ya _ yc (limbs v) _ hYd rfl hv2).mono ?_
        rw [val_limbs]
        rintro e w2 ⟨rfl, rfl⟩
        go_wp2_with fail
        refine (gcdWords_any u v _ hub hvb).mono ?_
        rw [hgc.out]
        rintro e w3 ⟨rfl, hb3⟩
        have hB3 := hB.trans (hb3.mono hB.size)
        go_wp2_with fail
        refine (limbsOfWord_any G _ hGb).mono ?_
        rintro e w4 ⟨a4, c4, rfl, hN4⟩
        go_wp2_with fail
        refine (canonical_int false G (G : Int) rfl a4 _ c4 _ w4 hN4 rfl).mono ?_
        rintro e w5 ⟨⟨a9, c9, rfl, hN5⟩, hb5⟩
        obtain ⟨y0, y1, y2, y3, y4⟩ := HY.out.below (hB3.trans (hN5.below.mono hB3.size))
        have hN : New W (mg (G : Int)) a9 c9 w5 := New.before hB3 hN5
        clear hN4 hN5 hb5
        rw [HW.out] at hN
        have hN3 := new_result hN
        rw [HVS.out] at hN3
        have hfin := New.before HB0.out (hN3 (.bool (sg (G : Int))) (.slice a9 (mg (G : Int)).length c9))
        have HF := Lib.hid hfin
        clear hN hN3 hfin
        go_wp2_with fail
        exact bodyPost_ret (v := .agg #[.bool (sg (G : Int)), .slice a9 (mg (G : Int)).length c9]) (by simp [results, Tryd.results39, go_sem, y0, y1]) rfl ⟨a9, c9, rfl, HF.out⟩
end Go.Proofs.YtllogjmepflnoaaDoor
