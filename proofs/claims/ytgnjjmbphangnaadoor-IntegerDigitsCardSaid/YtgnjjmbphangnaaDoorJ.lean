/-
  The contracts of the square root on limbs.
-/
import Derived.Test.YtgnjjmbphangnaaDoorI
import Derived.Test.YtgnjjmbphangnaaDoorShelf
import Derived.Lib.ItoaNum
import Derived.Deep.LoopGhost
namespace Go.Proofs.YtgnjjmbphangnaaDoor
open Go.RowKit

theorem above_size {xs : List Nat} {j E L : Nat} (hx : Lim xs) (hl : xs.length = j + 1) (hL : L = Lib.bitLen (xs.getD j 0)) (h0 : xs.getD j 0 ≠ 0) (hE : E = (32 * j + L + 1) / 2) : val xs < 2 ^ E * 2 ^ E ∧ 1 ≤ L ∧ L ≤ 32 := by
  have hj := hx.getD j
  have hb := Lib.bitLenAux_bounds 64 (xs.getD j 0) (by omega) h0
  have hle := Lib.bitLen_le (xs.getD j 0) 32 (by omega) (by omega)
  unfold Lib.bitLen at hL hle
  rw [← hL] at hb hle
  refine ⟨?_, hb.1, hle⟩
  rw [val_split xs j (by omega)]
  have h1 := val_take_lt hx j
  have h2 : val (xs.drop j) = xs.getD j 0 := by rw [val_drop_step xs j (by omega), List.drop_of_length_le (by omega), val_nil]; simp
  rw [h2, ← Nat.pow_add]
  have h3 : 4294967296 ^ j * (xs.getD j 0 + 1) ≤ 4294967296 ^ j * 2 ^ L := Nat.mul_le_mul_left _ hb.2.2
  have h4 : 4294967296 ^ j * 2 ^ L ≤ 2 ^ (E + E) := by
    have e : (4294967296 : Nat) = 2 ^ 32 := by decide
    rw [e, ← Nat.pow_mul, ← Nat.pow_add]
    exact Nat.pow_le_pow_right (by omega) (by omega)
  rw [Nat.mul_add, Nat.mul_one] at h3
  generalize 4294967296 ^ j * xs.getD j 0 = A at *
  generalize 4294967296 ^ j * 2 ^ L = C at *
  generalize 2 ^ (E + E) = D at *
  generalize 4294967296 ^ j = M at *
  omega

/-- A power of 2 as limbs. -/
theorem val_power (d m : Nat) : val (List.replicate d 0 ++ [2 ^ m]) = 2 ^ (32 * d + m) := by
  have e : (4294967296 : Nat) = 2 ^ 32 := by decide
  rw [val_snoc, val_replicate, List.length_replicate, e, ← Nat.pow_mul, ← Nat.pow_add, Nat.zero_add]

theorem pow_small (m : Nat) (hm : m < 32) : 2 ^ m ≤ 2147483648 ∧ 1 ≤ 2 ^ m :=
  ⟨Nat.le_trans (Nat.pow_le_pow_right (by omega) (show m ≤ 31 by omega)) (by decide), Nat.pow_pos (by omega)⟩

theorem replicate_set_last (d v : Nat) : (List.replicate (d + 1) 0).set d v = List.replicate d 0 ++ [v] := by
  rw [List.replicate_succ']
  simp

def GivesAbove (w : World) (n X : Nat) (e : Ending) (w' : World) : Prop := ∃ rs, trimL rs = rs ∧ rs ≠ [] ∧ rs.length ≤ n + 1 ∧ X < val rs * val rs ∧ GivesNew w rs e w'

set_option maxRecDepth 100000 in
set_option maxHeartbeats 1000000 in
theorem aboveRoot_any (a : Option Addr) (n cap : Nat) (xs : List Nat) (w : World) (rdx : Rd w a cap xs) (hl : xs.length = n) (hn : n ≤ 20000000) (hn1 : 1 ≤ n) (h0 : xs.getD (n - 1) 0 ≠ 0) :
    Calls Tryd.prog 48 #[.slice a n cap] w (GivesAbove w n (val xs)) := by
  have hlx := rdx.lim
  obtain ⟨j, rfl⟩ : ∃ j, n = j + 1 := ⟨n - 1, by omega⟩
  obtain ⟨b, o, rfl, hc⟩ := rdx.cells j (by omega)
  obtain ⟨i, hi, hz0, hz1, hz2⟩ := info_parts Tryd.infoU32
  obtain ⟨L, hL⟩ : ∃ L, L = Lib.bitLen (xs.getD j 0) := ⟨_, rfl⟩
  obtain ⟨E, hE⟩ : ∃ E, E = (32 * j + L + 1) / 2 := ⟨_, rfl⟩
  obtain ⟨hX, hL1, hL2⟩ := above_size hlx hl hL h0 hE
  obtain ⟨d, m, hm, hEd⟩ : ∃ d m, m < 32 ∧ E = 32 * d + m := ⟨E / 32, E % 32, by omega, by omega⟩
  have hE1 : (32 * (j : Int) + (L : Int) + 1) / 2 = (E : Int) := by omega
  have hE2 : (E : Int) / 32 = (d : Int) := by omega
  have hE3 : (E : Int) % 32 = (m : Int) := by omega
  have hd : d ≤ j + 1 := by omega
  have hEb : E ≤ 1000000000 := by omega
  have g1 := nth_ge xs j
  have g2 := nth_le hlx j
  have HX := Lib.hid hX
  have HLL := Lib.hid hL
  have HED := Lib.hid hEd
  clear hX hL hE h0 hEd
  go_enter Tryd.func48, Tryd.ntmps48
  go_wp2_with fail
  refine (Tryd.bits_Len32 _ _ g1 (by omega)).mono ?_
  rintro e w' ⟨rfl, rfl⟩
  have e2 : Lib.bitLen (nth xs j).toNat = L := HLL.out.symm
  rw [e2]
  clear e2
  go_wp2_with (at_make; refine wpList_make_full _ rfl _ _ 23 rfl w'.heap.size 52 i (.int .u32 0) 1 Tryd.underlying23 hi hz0 hz1 _ _ _ _ (d + 1) rfl rfl ?_ ?_ ?_ ?_ (Nat.le_refl _) ?_)
  · rfl
  · rfl
  · rw [hz2]; omega
  · unfold maxLen; omega
  intro w1 hown hgrow
  have ho1 := own_made hown
  have hb1 : Below w'.heap.size w' w1 := (Below.refl _ _).grown hgrow (Nat.le_refl _) (by intro k hk; cases hk)
  clear hown hgrow
  have hfree := ho1.free d
  have hcell := ho1.cell d (by simp)
  go_wp2_with fail
  go_ret
  have hp := pow_small m hm
  have hst := (ho1.store d (2 ^ m) (by omega) ((2 : Int) ^ m % 4294967296) (by rw [show (2 : Int) ^ m = ((2 ^ m : Nat) : Int) by simp]; omega)).1
  rw [replicate_set_last] at hst
  have hlen : (List.replicate d 0 ++ [2 ^ m]).length = d + 1 := by simp
  refine ⟨List.replicate d 0 ++ [2 ^ m], trimL_append_pos _ _ (by omega), by simp, by rw [hlen]; omega, ?_, some ⟨w'.heap.size, 0, none⟩, d + 1, by rw [hlen]; rfl, ?_, by rw [hlen]; exact Nat.le_refl _, .inr ⟨_, rfl, Nat.le_refl _, hst⟩⟩
  · rw [val_power d m, ← HED.out]; exact HX.out
  · exact hb1.setCell (p := ⟨w'.heap.size, d, none⟩) (Nat.le_refl _) _

def GivesRoot (w : World) (X : Nat) (e : Ending) (w' : World) : Prop := ∃ s, s * s ≤ X ∧ X < (s + 1) * (s + 1) ∧ GivesNew w (limbs s) e w'

theorem top_pos {xs : List Nat} (h : 1 ≤ xs.length) (ht : trimL xs = xs) : xs.getD (xs.length - 1) 0 ≠ 0 := by
  intro h0
  have e := trimL_take_zero xs (xs.length - 1) (by omega) h0
  rw [show xs.length - 1 + 1 = xs.length by omega, List.take_length, ht] at e
  have h1 := length_trimL_le (xs.take (xs.length - 1))
  rw [← e, List.length_take] at h1
  omega

theorem limbs_len {m : Nat} {rs : List Nat} (hl : Lim rs) (h : m ≤ val rs) : (limbs m).length ≤ rs.length :=
  length_limbs_le (Nat.lt_of_le_of_lt h (val_lt hl))

theorem eq_limbs {xs : List Nat} (h : Lim xs) (ht : trimL xs = xs) : xs = limbs (val xs) := by rw [limbs_val h, ht]

theorem sq_lt (x r : Nat) (h : x < r * r) : x < (r + 1) * (r + 1) := Nat.lt_of_lt_of_le h (Nat.mul_le_mul (by omega) (by omega))

theorem New.drewN {w w' : World} {zs : List Nat} {a : Option Addr} {cap : Nat} (h : New w zs a cap w') (n : Nat) : New w zs a cap (w'.drewN n) := by
  refine ⟨below_drewN h.below n, h.fits, ?_⟩
  rcases h.own with h0 | ⟨g, rfl, hg, ho⟩
  · exact .inl h0
  · exact .inr ⟨g, rfl, hg, ho.drewN n⟩

theorem New.lim {w w' : World} {zs : List Nat} {a : Option Addr} {cap : Nat} (h : New w zs a cap w') : Lim zs := h.rd.lim

set_option maxRecDepth 100000 in
set_option maxHeartbeats 2000000 in
theorem sqrtLimbs_any (hlong : DivLong) (a : Option Addr) (n cap : Nat) (xs : List Nat) (w : World) (rdx : Rd w a cap xs) (hl : xs.length = n) (hn : n ≤ 20000000) (ht : trimL xs = xs) :
    Calls Tryd.prog 36 #[.slice a n cap] w (GivesRoot w (val xs)) := by
  have hlx := rdx.lim
  have hux := rdx.under
  by_cases h0 : n = 0
  · have hx : xs = [] := List.eq_nil_of_length_eq_zero (by omega)
    subst hx h0
    go_enter Tryd.func36, Tryd.ntmps36
    go_wp2_with fail
    go_ret
    exact ⟨0, by simp, by simp [val], none, 0, rfl, New.none (Below.refl _ _) 0⟩
  · have hb : ((n : Int) == 0) = false := by simp; omega
    have htop := top_pos (by omega) ht
    rw [hl] at htop
    have hXp : 0 < val xs := by
      rcases Nat.eq_zero_or_pos (val xs) with h | h
      · have := eq_limbs hlx ht
        rw [h] at this
        rw [this] at hl
        simp [limbs_zero] at hl
        omega
      · exact h
    have HXP := Lib.hid hXp
    have HL := Lib.hid hl
    have HT := Lib.hid ht
    have HLO := Lib.hid hlong
    have hab := aboveRoot_any a n cap xs w rdx hl hn (by omega) htop
    have HAB := Lib.hid hab
    clear hXp hl ht hlong hab htop h0
    go_enter Tryd.func36, Tryd.ntmps36
    go_wp2_with fail
    refine HAB.out.mono ?_
    clear HAB
    rintro e w1 ⟨rs, hrt, hrne, hrl, hrX, a1, c1, rfl, hN1⟩
    have HR1 := Lib.hid hrt
    have HR2 := Lib.hid hrne
    have HR3 := Lib.hid (sq_lt _ _ hrX)
    clear hrt hrne hrX
    go_wp2_with fail
    go_loopg [3] (val rs) (fun gn r wr => ∃ (R : List Nat) (aR : Option Addr) (cR : Nat), r = .slice aR R.length cR ∧ Hid (gn = val R) ∧ Hid (trimL R = R) ∧ Hid (R ≠ []) ∧ R.length ≤ n + 1 ∧ Hid (val xs < (val R + 1) * (val R + 1)) ∧ New w R aR cR wr)
    case atStart => exact ⟨rs, a1, c1, rfl, rfl, HR1, HR2, hrl, HR3, hN1⟩
    case round =>
      obtain ⟨R, aR, cR, rfl, hg, hRt, hRne, hRl, hRX, hNR⟩ := hrel
      clear hrl hN1 HR1 HR2 HR3
      have hrx := rdx.belowU hux hNR.below
      have hRp : 1 ≤ R.length := List.length_pos_iff.2 hRne.out
      have hRv : 0 < val R := by
        rcases Nat.eq_zero_or_pos (val R) with h | h
        · have := eq_limbs hNR.lim hRt.out
          rw [h, limbs_zero] at this
          exact absurd this hRne.out
        · exact h
      have HRV := Lib.hid hRv
      clear hRv
      go_wp2_with fail
      refine (divLimbs_any HLO.out _ _ n _ _ _ xs R _ hrx hNR.rd HL.out rfl (by omega) (by omega) hRp HT.out hRt.out).mono ?_
      rintro e w2 ⟨aq, cq, ar, cr, rfl, hNq, hNr⟩
      obtain ⟨Q, hQ⟩ : ∃ Q, Q = limbs (val xs / val R) := ⟨_, rfl⟩
      rw [← hQ] at hNq
      rw [← hQ]
      have hQl : Q.length ≤ n := by rw [hQ, ← HL.out]; exact limbs_len hlx (Nat.div_le_self _ _)
      have HQ := Lib.hid hQ
      clear hQ hNr
      have hNR2 := hNR.after hNq.below
      go_wp2_with fail
      refine (addLimbs_any _ _ _ _ _ _ R Q _ hNR2.rd hNq.rd rfl rfl (by omega) (by omega)).mono ?_
      rintro e w3 ⟨asu, cs, rfl, hNs⟩
      obtain ⟨S, hS⟩ : ∃ S, S = limbs (val R + val Q) := ⟨_, rfl⟩
      rw [← hS] at hNs
      rw [← hS]
      have hSl : S.length ≤ n + 2 := by
        rw [hS]
        refine length_limbs_le ?_
        have h1 := val_lt hNR.lim
        have h2 := val_lt hNq.lim
        have h3 : 4294967296 ^ R.length ≤ 4294967296 ^ (n + 1) := Nat.pow_le_pow_right (by omega) hRl
        have h4 : 4294967296 ^ Q.length ≤ 4294967296 ^ (n + 1) := Nat.pow_le_pow_right (by omega) (by omega)
        rw [Nat.pow_succ 4294967296 (n + 1)]
        generalize 4294967296 ^ (n + 1) = M at *
        omega
      have HS := Lib.hid hS
      clear hS
      have hNR3 := hNR2.after hNs.below
      go_wp2_with fail
      refine (shiftRight_any _ _ _ S 1 _ hNs.rd rfl (by omega) (by omega)).mono ?_
      rintro e w4 ⟨am, cm, rfl, hNm⟩
      have hNR4 := hNR3.after hNm.below
      have hml : (shrL 1 S).length ≤ n + 2 := by rw [length_shrL]; exact hSl
      go_wp2_with fail
      refine (trim_any _ _ _ (shrL 1 S) _ hNm.rd rfl (by omega)).mono ?_
      rintro e w5 ⟨rfl, rfl⟩
      have hMv : trimL (shrL 1 S) = limbs ((val R + val xs / val R) / 2) := by
        rw [← limbs_val (Lim_shrL 1 S), val_shrL hNs.lim 1 (by omega), HS.out, val_limbs, HQ.out, val_limbs]
      obtain ⟨M, hM⟩ : ∃ M, M = trimL (shrL 1 S) := ⟨_, rfl⟩
      rw [← hM]
      have hNM : New w M am cm w4 := by
        rw [hM]; exact (New.before (hNR.below.trans ((hNq.below.trans ((hNs.below).mono hNq.below.size)).mono hNR.below.size)) hNm).trim
      have hMt : trimL M = M := by rw [hM, hMv, trimL_limbs]
      have hMl : M.length ≤ n + 2 := by rw [hM]; exact Nat.le_trans (length_trimL_le _) hml
      have hMval : val M = (val R + val xs / val R) / 2 := by rw [hM, hMv, val_limbs]
      have HM := Lib.hid hMval
      have HMt := Lib.hid hMt
      clear hMv hM hMval hMt
      go_wp2_with fail
      refine (cmpLimbs_any _ _ _ _ _ _ M R _ hNM.rd hNR4.rd rfl rfl (by omega) (by omega) HMt.out hRt.out).mono ?_
      rintro e w6 ⟨rfl, q6, rfl⟩
      by_cases hlt : val M < val R
      · have hc : cmpI (val M) (val R) = -1 := by unfold cmpI; rw [if_pos hlt]
        rw [hc]
        have HLT := Lib.hid hlt
        clear hc hlt
        go_wp2_with fail
        go_roundg (val M)
        case measure => rw [hg.out]; exact HLT.out
        case rel =>
          have hpos : 0 < val M := by
            have h := newton_above (val xs) (val R) HRV.out
            rw [← HM.out] at h
            have := HXP.out
            rcases Nat.eq_zero_or_pos (val M) with h0 | h0
            · rw [h0] at h; omega
            · exact h0
          refine ⟨M, am, cm, rfl, rfl, HMt.out, ?_, ?_, ?_, ?_⟩
          · intro h; rw [h] at hpos; simp [val] at hpos
          · rw [eq_limbs hNM.lim HMt.out]; exact Nat.le_trans (limbs_len hNR.lim (Nat.le_of_lt HLT.out)) hRl
          · unfold Hid; rw [HM.out]; exact newton_above (val xs) (val R) HRV.out
          · exact hNM.drewN q6
      · have hdone : val R * val R ≤ val xs := newton_done _ _ (by rw [← HM.out]; omega)
        have HD := Lib.hid hdone
        have hc : decide (0 ≤ cmpI (val M) (val R)) = true := by
          unfold cmpI; rw [if_neg hlt]; split <;> simp
        clear hdone hlt
        go_wp2_with fail
        go_ret
        exact ⟨val R, HD.out, hRX.out, aR, cR, by rw [← eq_limbs hNR.lim hRt.out]; rfl, by rw [← eq_limbs hNR.lim hRt.out]; exact hNR4.drewN q6⟩
end Go.Proofs.YtgnjjmbphangnaaDoor
