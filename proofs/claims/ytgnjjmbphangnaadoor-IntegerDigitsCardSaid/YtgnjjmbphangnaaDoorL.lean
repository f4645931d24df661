/-
  The contracts of DivMod and Sqrt on integers.
-/
import Derived.Test.YtgnjjmbphangnaaDoorK
namespace Go.Proofs.YtgnjjmbphangnaaDoor
open Go.RowKit

theorem euclid {z d Q R : Int} (hd : d ≠ 0) (h : z = Q * d + R) (h0 : 0 ≤ R) (h1 : R < d.natAbs) : z / d = Q ∧ z % d = R := by
  rcases Int.lt_or_gt_of_ne hd with hn | hp
  · have := (Int.ediv_emod_unique (a := z) (b := -d) (r := R) (q := -Q) (by omega)).2 ⟨by rw [Int.neg_mul_neg, h, Int.mul_comm]; omega, h0, by omega⟩
    rw [Int.ediv_neg, Int.emod_neg] at this
    exact ⟨by omega, this.2⟩
  · exact (Int.ediv_emod_unique hp).2 ⟨by rw [h, Int.mul_comm]; omega, h0, by omega⟩

theorem den_zero {neg : Bool} {xs : List Nat} : den neg xs = 0 ↔ val xs = 0 := by unfold den; cases neg <;> simp
theorem natAbs_den (neg : Bool) (xs : List Nat) : (den neg xs).natAbs = val xs := by unfold den; cases neg <;> simp

theorem divmod_plain {na nb : Bool} {X Y q r : Nat} (hY : 0 < Y) (hq : q = X / Y) (hr : r = X % Y) (h : na = true → r = 0) :
    (if na then -(X : Int) else X) / (if nb then -(Y : Int) else Y) = (if (na != nb) then -(q : Int) else q) ∧ (if na then -(X : Int) else X) % (if nb then -(Y : Int) else Y) = (r : Int) := by
  have e := Nat.div_add_mod X Y
  have hlt := Nat.mod_lt X hY
  rw [← hq, ← hr] at e
  rw [← hr] at hlt
  have ez : (X : Int) = (q : Int) * (Y : Int) + (r : Int) := by rw [← e]; push_cast; rw [Int.mul_comm]
  apply euclid
  · cases nb <;> simp <;> omega
  · cases na <;> cases nb
    · simpa using ez
    · simp only [Bool.false_eq_true, if_false, if_true, Bool.false_bne, Int.neg_mul, Int.mul_neg, Int.neg_neg]; omega
    · have := h rfl
      subst this
      simp only [Bool.false_eq_true, if_false, if_true, Bool.true_bne, Bool.not_false, Int.neg_mul]; omega
    · have := h rfl
      subst this
      simp only [Bool.false_eq_true, if_false, if_true, bne_self_eq_false, Int.mul_neg]; omega
  · omega
  · cases nb <;> simp <;> omega

theorem divmod_neg {nb : Bool} {X Y q r : Nat} (hY : 0 < Y) (hq : q = X / Y) (hr : r = X % Y) (h : 0 < r) :
    (-(X : Int)) / (if nb then -(Y : Int) else Y) = (if (true != nb) then -((q + 1 : Nat) : Int) else ((q + 1 : Nat) : Int)) ∧ (-(X : Int)) % (if nb then -(Y : Int) else Y) = ((Y - r : Nat) : Int) := by
  have e := Nat.div_add_mod X Y
  have hlt := Nat.mod_lt X hY
  rw [← hq, ← hr] at e
  rw [← hr] at hlt
  have ez : (X : Int) = (q : Int) * (Y : Int) + (r : Int) := by rw [← e]; push_cast; rw [Int.mul_comm]
  have ey : ((Y - r : Nat) : Int) = (Y : Int) - (r : Int) := by omega
  rw [ey]
  apply euclid
  · cases nb <;> simp <;> omega
  · cases nb
    · simp only [Bool.false_eq_true, if_false, if_true, Bool.true_bne, Bool.not_false, Int.neg_mul]; rw [Int.natCast_add, Int.add_mul]; omega
    · simp only [Bool.false_eq_true, if_false, if_true, bne_self_eq_false, Int.mul_neg]; rw [Int.natCast_add, Int.add_mul]; omega
  · omega
  · cases nb <;> simp <;> omega

def GivesDM (w : World) (z d : Int) (e : Ending) (w' : World) : Prop :=
  ∃ a cap b cap', e = .returned (.tuple #[.agg #[.bool (sg (z / d)), .slice a (mg (z / d)).length cap], .agg #[.bool (sg (z % d)), .slice b (mg (z % d)).length cap'], .bool true]) ∧ New w (mg (z / d)) a cap w' ∧ New w (mg (z % d)) b cap' w'

/-- What the four blocks of a call of DivMod hold: two arguments, two results. -/
structure Four (B : Nat) (na nb : Bool) (w : World) : Prop where
  c0 : w.cell? ⟨B, 0, none⟩ = some (.bool na)
  c1 : w.cell? ⟨B + 1, 0, none⟩ = some (.bool nb)
  r0 : w.cell? ⟨B + 1 + 1, 0, none⟩ = some (.bool false)
  r1 : w.cell? ⟨B + 1 + 1, 1, none⟩ = some (.slice none 0 0)
  s0 : w.cell? ⟨B + 1 + 1 + 1, 0, none⟩ = some (.bool false)
  s1 : w.cell? ⟨B + 1 + 1 + 1, 1, none⟩ = some (.slice none 0 0)
  f0 : w.frozen? ⟨B + 1 + 1, 0, none⟩ = false
  f1 : w.frozen? ⟨B + 1 + 1, 1, none⟩ = false
  g0 : w.frozen? ⟨B + 1 + 1 + 1, 0, none⟩ = false
  g1 : w.frozen? ⟨B + 1 + 1 + 1, 1, none⟩ = false
  size : B + 1 + 1 + 1 < w.heap.size

theorem Four.below {B : Nat} {na nb : Bool} {w w' : World} (h : Four B na nb w) (hb : Below w.heap.size w w') : Four B na nb w' := by
  have hs := h.size
  have hs' := hb.size
  exact ⟨(hb.cell (by simp; omega)).trans h.c0, (hb.cell (by simp; omega)).trans h.c1, (hb.cell (by simp; omega)).trans h.r0, (hb.cell (by simp; omega)).trans h.r1, (hb.cell (by simp; omega)).trans h.s0, (hb.cell (by simp; omega)).trans h.s1,
    (hb.frozen (by simp; omega)).trans h.f0, (hb.frozen (by simp; omega)).trans h.f1, (hb.frozen (by simp; omega)).trans h.g0, (hb.frozen (by simp; omega)).trans h.g1, by omega⟩

theorem new_result4 {w W0 w3 : World} {zs : List Nat} {a : Option Addr} {cap : Nat} (hBW : Below w.heap.size w W0) (h : New W0 zs a cap w3) (hs : w.heap.size + 1 + 1 + 1 < W0.heap.size) (u1 u2 u3 u4 : Value) :
    New w zs a cap ((((w3.setCell ⟨w.heap.size + 1 + 1, 0, none⟩ u1).setCell ⟨w.heap.size + 1 + 1, 1, none⟩ u2).setCell ⟨w.heap.size + 1 + 1 + 1, 0, none⟩ u3).setCell ⟨w.heap.size + 1 + 1 + 1, 1, none⟩ u4) := by
  have hb : Below w.heap.size w w3 := hBW.trans (h.below.mono hBW.size)
  refine ⟨(((hb.setCell (p := ⟨w.heap.size + 1 + 1, 0, none⟩) (by simp; omega) u1).setCell (p := ⟨w.heap.size + 1 + 1, 1, none⟩) (by simp; omega) u2).setCell (p := ⟨w.heap.size + 1 + 1 + 1, 0, none⟩) (by simp; omega) u3).setCell (p := ⟨w.heap.size + 1 + 1 + 1, 1, none⟩) (by simp; omega) u4, h.fits, ?_⟩
  rcases h.own with h0 | ⟨g, rfl, hg, ho⟩
  · exact .inl h0
  · refine .inr ⟨g, rfl, by omega, ho.of_heap ?_⟩
    rw [Below.heap_setCell _ _ _ _ (by simp; omega), Below.heap_setCell _ _ _ _ (by simp; omega), Below.heap_setCell _ _ _ _ (by simp; omega), Below.heap_setCell _ _ _ _ (by simp; omega)]

set_option maxRecDepth 100000 in
set_option maxHeartbeats 2000000 in
theorem divmod_any (hlong : DivLong) (na nb : Bool) (a b : Option Addr) (n m cap cap' : Nat) (xs ys : List Nat) (w : World) (rdx : Rd w a cap xs) (rdy : Rd w b cap' ys) (hl : xs.length = n) (hl' : ys.length = m) (hn : n ≤ 100000000) (hm : m ≤ 100000000) (hY : den nb ys ≠ 0) :
    Calls Tryd.prog 14 #[.agg #[.bool na, .slice a n cap], .agg #[.bool nb, .slice b m cap']] w (GivesDM w (den na xs) (den nb ys)) := by
  have hlx := rdx.lim
  have hly := rdy.lim
  obtain ⟨X, hX⟩ : ∃ X, X = trimL xs := ⟨_, rfl⟩
  obtain ⟨Y, hYY⟩ : ∃ Y, Y = trimL ys := ⟨_, rfl⟩
  have hXv : val X = val xs := by rw [hX, val_trimL hlx]
  have hYv : val Y = val ys := by rw [hYY, val_trimL hly]
  have hXl : X.length ≤ n := by rw [hX, ← hl]; exact length_trimL_le _
  have hYl : Y.length ≤ m := by rw [hYY, ← hl']; exact length_trimL_le _
  have hXt : trimL X = X := by rw [hX, ← limbs_val hlx, trimL_limbs]
  have hYt : trimL Y = Y := by rw [hYY, ← limbs_val hly, trimL_limbs]
  have hYp : 0 < val Y := by rw [hYv]; have := mt den_zero.2 hY; omega
  have hYn : 1 ≤ Y.length := by
    rcases Nat.eq_zero_or_pos Y.length with h | h
    · rw [List.eq_nil_of_length_eq_zero h] at hYp; simp [val] at hYp
    · exact h
  obtain ⟨W, hW⟩ : ∃ W, W = ((((w.alloc (.cells #[.bool na, .slice a n cap] 25)).alloc (.cells #[.bool nb, .slice b m cap'] 25)).alloc (.cells #[.bool false, .slice none 0 0] 25)).alloc (.cells #[.bool false, .slice none 0 0] 25)) := ⟨_, rfl⟩
  have hB4 : Below w.heap.size w W := by rw [hW]; exact ((((Below.refl _ _).alloc (Nat.le_refl _) _).alloc (by simp) _).alloc (by simp; omega) _).alloc (by simp; omega) _
  have hrx := rdx.below hB4
  have hry := rdy.below hB4
  have HL := Lib.hid hl
  have HL' := Lib.hid hl'
  have hxl : Lim X := by rw [hX, ← limbs_val hlx]; exact Lim_limbs _
  have hyl : Lim Y := by rw [hYY, ← limbs_val hly]; exact Lim_limbs _
  have HX := Lib.hid hX
  have HY := Lib.hid hYY
  have HXV := Lib.hid hXv
  have HYV := Lib.hid hYv
  have HXT := Lib.hid hXt
  have HYT := Lib.hid hYt
  have HYP := Lib.hid hYp
  have HLO := Lib.hid hlong
  have HYD := Lib.hid hY
  have hF : Four w.heap.size na nb W := by
    rw [hW]
    exact ⟨by simp [go_sem], by simp [go_sem], by simp [go_sem], by simp [go_sem], by simp [go_sem], by simp [go_sem], by simp [go_sem], by simp [go_sem], by simp [go_sem], by simp [go_sem], by simp⟩
  have k0 : W.cell? ⟨w.heap.size, 1, none⟩ = some (.slice a n cap) := by rw [hW]; simp [go_sem]
  have k1 : W.cell? ⟨w.heap.size + 1, 1, none⟩ = some (.slice b m cap') := by rw [hW]; simp [go_sem]
  clear hl hl' hX hYY hXv hYv hXt hYt hYp hlong hY
  have hb : ((Y.length : Int) == 0) = false := by simp; intro h; rw [h] at hYn; simp at hYn
  go_enter Tryd.func14, Tryd.ntmps14
  go_wp2_with fail
  rw [← hW]
  have HW := Lib.hid hW
  clear hW
  go_quiet ((go_at_call 19; first | with_reducible exact quiet_eq (trim_any a n cap xs _ (hrx.drewN _) HL.out (by omega)) | with_reducible exact quiet_eq (trim_any b m cap' ys _ (hry.drewN _) HL'.out (by omega))))
  rw [← HX.out, ← HY.out]
  go_wp2_with fail
  refine (divLimbs_any HLO.out _ _ _ _ _ _ X Y _ (by rw [HX.out]; exact (hrx.drewN _).trim) (by rw [HY.out]; exact (hry.drewN _).trim) rfl rfl (by omega) (by omega) hYn HXT.out HYT.out).mono ?_
  rintro e w1 ⟨aq, cq, ar, cr, rfl, hNq, hNr⟩
  have hF0 : Four w.heap.size na nb (W.drewN nq) := ⟨hF.c0, hF.c1, hF.r0, hF.r1, hF.s0, hF.s1, hF.f0, hF.f1, hF.g0, hF.g1, hF.size⟩
  have hF1 := hF0.below hNq.below
  have hBW : Below w.heap.size w (W.drewN nq) := below_drewN hB4 nq
  have hyd := hry.drewN nq
  clear hrx hry k0 k1 hB4 hF
  obtain ⟨W0, hW0⟩ : ∃ W0, W0 = W.drewN nq := ⟨_, rfl⟩
  rw [← hW0] at hNq hNr hF0 hBW hyd
  clear hW0 HW
  by_cases hcase : na = true ∧ 0 < (limbs (val X % val Y)).length
  · obtain ⟨hna, hlen⟩ := hcase
    subst hna
    have hr0 : 0 < val X % val Y := by
      rcases Nat.eq_zero_or_pos (val X % val Y) with h | h
      · rw [h] at hlen; simp [limbs_zero] at hlen
      · exact h
    have hfin := divmod_neg (nb := nb) HYP.out (rfl : val X / val Y = _) (rfl : val X % val Y = _) hr0
    have hz : (-(val X : Int)) = den true xs := by unfold den; rw [HXV.out]; rfl
    have hd : (if nb then -(val Y : Int) else val Y) = den nb ys := by unfold den; rw [HYV.out]
    rw [hz, hd] at hfin
    have HF := Lib.hid hfin
    obtain ⟨c0, c1, r0, r1, s0, s1, f0, f1, g0, g1, fs⟩ := hF1
    obtain ⟨RL, hRL⟩ : ∃ RL, RL = (limbs (val X % val Y)).length := ⟨_, rfl⟩
    rw [← hRL] at hlen
    rw [← hRL]
    have HRL := Lib.hid hRL
    have hRs : RL ≤ m := by
      rw [hRL]
      exact Nat.le_trans (length_limbs_le (k := Y.length) (Nat.lt_of_lt_of_le (Nat.mod_lt _ HYP.out) (Nat.le_of_lt (val_lt hyl)))) hYl
    have hQs : (limbs (val X / val Y)).length ≤ n := by
      exact Nat.le_trans (length_limbs_le (k := X.length) (Nat.lt_of_le_of_lt (Nat.div_le_self _ _) (val_lt hxl))) hXl
    clear hfin hz hd hRL hr0
    go_wp2_with fail
    refine (limbsOfWord_any 1 _ (by omega)).mono ?_
    rintro e w4 ⟨a4, c4, rfl, hN4⟩
    have hNq4 := hNq.after hN4.below
    have hNr4 := hNr.after hN4.below
    clear hNq hNr c0 c1 r0 r1 s0 s1 f0 f1 g0 g1 fs
    go_wp2_with fail
    refine (addLimbs_any _ _ _ _ _ _ (limbs (val X / val Y)) (limbs 1) _ hNq4.rd hN4.rd rfl rfl (by omega) (by rw [limbs_one (by omega) (by omega)]; simp)).mono ?_
    rintro e w5 ⟨a5, c5, rfl, hN5⟩
    have hNr5 := hNr4.after hN5.below
    have hyY := (hyd.below hNr5.below).trim
    rw [val_limbs, val_limbs] at hN5
    rw [val_limbs, val_limbs]
    go_wp2_with fail
    refine (subLimbs_any _ _ _ _ _ _ Y (limbs (val X % val Y)) _ (by rw [HY.out]; exact hyY) hNr5.rd rfl HRL.out.symm (by omega) (by omega) (by rw [val_limbs]; exact Nat.le_of_lt (Nat.mod_lt _ HYP.out))).mono ?_
    rintro e w6 ⟨a6, c6, rfl, hN6⟩
    rw [val_limbs] at hN6
    rw [val_limbs]
    have hNQ : New W0 (limbs (val X / val Y + 1)) a5 c5 w6 := (New.before (hNr4.below) hN5).after hN6.below
    have hNR : New W0 (limbs (val Y - val X % val Y)) a6 c6 w6 := New.before hNr5.below hN6
    obtain ⟨c0, c1, r0, r1, s0, s1, f0, f1, g0, g1, fs⟩ := hF0.below hNR.below
    clear hN4 hNq4 hNr4 hN5 hNr5 hyY hN6
    go_wp2_with fail
    refine (canonical_int (!nb) (val X / val Y + 1) (den true xs / den nb ys) (by have := HF.out.1; rw [this]; cases nb <;> rfl) a5 _ c5 W0 w6 hNQ rfl).mono ?_
    rintro e w2 ⟨⟨a2, c2, rfl, hN2⟩, hb2⟩
    have hNr2 := hNR.after hb2
    clear hNQ hNR c0 c1 r0 r1 s0 s1 f0 f1 g0 g1 fs
    go_wp2_with fail
    refine (canonical_int false (val Y - val X % val Y) (den true xs % den nb ys) (by simpa using HF.out.2) a6 _ c6 W0 w2 hNr2 rfl).mono ?_
    rintro e w3 ⟨⟨a3, c3, rfl, hN3⟩, hb3⟩
    have hN23 := hN2.after hb3
    have hs0 := hF0.size
    obtain ⟨c0, c1, r0, r1, s0, s1, f0, f1, g0, g1, fs⟩ := hF0.below hN3.below
    have hfa := new_result4 hBW hN23 hs0
    have hfb := new_result4 hBW hN3 hs0
    clear hN2 hNr2 hN3 hN23
    go_wp2_with fail
    exact bodyPost_ret (v := .tuple #[.agg #[.bool (sg (den true xs / den nb ys)), .slice a2 (mg (den true xs / den nb ys)).length c2], .agg #[.bool (sg (den true xs % den nb ys)), .slice a3 (mg (den true xs % den nb ys)).length c3], .bool true]) (by simp [results, Tryd.results14, go_sem, r0, r1, s0, s1]) rfl ⟨a2, c2, a3, c3, rfl, hfa _ _ _ _, hfb _ _ _ _⟩
  · have hdec : na = true → ((0 : Int) < ((limbs (val X % val Y)).length : Int)) → False := fun h1 h2 => hcase ⟨h1, by omega⟩
    have hfin := divmod_plain (na := na) (nb := nb) HYP.out (rfl : val X / val Y = _) (rfl : val X % val Y = _) (by
      intro h; rcases Nat.eq_zero_or_pos (limbs (val X % val Y)).length with h0 | h0
      · exact limbs_eq_nil.1 (List.eq_nil_of_length_eq_zero h0)
      · exact absurd ⟨h, h0⟩ hcase)
    have hz : (if na then -(val X : Int) else val X) = den na xs := by unfold den; rw [HXV.out]
    have hd : (if nb then -(val Y : Int) else val Y) = den nb ys := by unfold den; rw [HYV.out]
    rw [hz, hd] at hfin
    have HF := Lib.hid hfin
    obtain ⟨c0, c1, r0, r1, s0, s1, f0, f1, g0, g1, fs⟩ := hF1
    have hpart : na = false ∨ ((limbs (val X % val Y)).length = 0 ∧ na = true) := by
      cases na
      · exact .inl rfl
      · rcases Nat.eq_zero_or_pos (limbs (val X % val Y)).length with h0 | h0
        · exact .inr ⟨h0, rfl⟩
        · exact absurd ⟨rfl, h0⟩ hcase
    clear hfin hz hd hdec hcase
    obtain ⟨RL, hRL⟩ : ∃ RL, RL = (limbs (val X % val Y)).length := ⟨_, rfl⟩
    rw [← hRL] at hpart
    rw [← hRL]
    have HRL := Lib.hid hRL
    clear hRL
    rcases hpart with hp | ⟨hp, hp2⟩
    · subst hp
      go_wp2_with fail
      refine (canonical_int nb (val X / val Y) (den false xs / den nb ys) (by have := HF.out.1; rw [this]; cases nb <;> rfl) aq _ cq W0 w1 hNq rfl).mono ?_
      rintro e w2 ⟨⟨a2, c2, rfl, hN2⟩, hb2⟩
      have hNr2 := hNr.after hb2
      clear hNq hNr c0 c1 r0 r1 s0 s1 f0 f1 g0 g1 fs
      go_wp2_with fail
      refine (canonical_int false (val X % val Y) (den false xs % den nb ys) (by simpa using HF.out.2) ar _ cr W0 w2 hNr2 HRL.out.symm).mono ?_
      rintro e w3 ⟨⟨a3, c3, rfl, hN3⟩, hb3⟩
      have hN23 := hN2.after hb3
      have hs0 := hF0.size
      obtain ⟨c0, c1, r0, r1, s0, s1, f0, f1, g0, g1, fs⟩ := hF0.below hN3.below
      have hfa := new_result4 hBW hN23 hs0
      have hfb := new_result4 hBW hN3 hs0
      clear hN2 hNr2 hN3 hN23
      go_wp2_with fail
      exact bodyPost_ret (v := .tuple #[.agg #[.bool (sg (den false xs / den nb ys)), .slice a2 (mg (den false xs / den nb ys)).length c2], .agg #[.bool (sg (den false xs % den nb ys)), .slice a3 (mg (den false xs % den nb ys)).length c3], .bool true]) (by simp [results, Tryd.results14, go_sem, r0, r1, s0, s1]) rfl ⟨a2, c2, a3, c3, rfl, hfa _ _ _ _, hfb _ _ _ _⟩
    · subst hp2
      subst hp
      go_wp2_with fail
      refine (canonical_int (!nb) (val X / val Y) (den true xs / den nb ys) (by have := HF.out.1; rw [this]; cases nb <;> rfl) aq _ cq W0 w1 hNq rfl).mono ?_
      rintro e w2 ⟨⟨a2, c2, rfl, hN2⟩, hb2⟩
      have hNr2 := hNr.after hb2
      clear hNq hNr c0 c1 r0 r1 s0 s1 f0 f1 g0 g1 fs
      go_wp2_with fail
      refine (canonical_int false (val X % val Y) (den true xs % den nb ys) (by simpa using HF.out.2) ar _ cr W0 w2 hNr2 HRL.out.symm).mono ?_
      rintro e w3 ⟨⟨a3, c3, rfl, hN3⟩, hb3⟩
      have hN23 := hN2.after hb3
      have hs0 := hF0.size
      obtain ⟨c0, c1, r0, r1, s0, s1, f0, f1, g0, g1, fs⟩ := hF0.below hN3.below
      have hfa := new_result4 hBW hN23 hs0
      have hfb := new_result4 hBW hN3 hs0
      clear hN2 hNr2 hN3 hN23
      go_wp2_with fail
      exact bodyPost_ret (v := .tuple #[.agg #[.bool (sg (den true xs / den nb ys)), .slice a2 (mg (den true xs / den nb ys)).length c2], .agg #[.bool (sg (den true xs % den nb ys)), .slice a3 (mg (den true xs % den nb ys)).length c3], .bool true]) (by simp [results, Tryd.results14, go_sem, r0, r1, s0, s1]) rfl ⟨a2, c2, a3, c3, rfl, hfa _ _ _ _, hfb _ _ _ _⟩
end Go.Proofs.YtgnjjmbphangnaaDoor
