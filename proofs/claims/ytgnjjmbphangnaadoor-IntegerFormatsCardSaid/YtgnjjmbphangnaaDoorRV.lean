/-
  The reference's divide: bit by bit.
-/
import Derived.Test.YtgnjjmbphangnaaDoorRE
import Derived.Test.YtgnjjmbphangnaaDoorAA
namespace Go.Proofs.YtgnjjmbphangnaaDoor
open Go.RowKit

/-- A list of limbs in a block of the call's own behind block B. -/
structure Away (B : Nat) (zs : List Nat) (a : Option Addr) (cap : Nat) (w : World) : Prop where
  fits : zs.length ≤ cap
  own : (a = none ∧ zs = []) ∨ ∃ g, a = some ⟨g, 0, none⟩ ∧ B < g ∧ Own w g zs

theorem Away.rd {B : Nat} {zs : List Nat} {a : Option Addr} {cap : Nat} {w : World} (h : Away B zs a cap w) : Rd w a cap zs := by
  rcases h.own with ⟨rfl, rfl⟩ | ⟨g, rfl, _, ho⟩
  · exact Rd.nil _ _ _
  · exact ho.rd h.fits
theorem Away.of_new {B : Nat} {zs : List Nat} {a : Option Addr} {cap : Nat} {v w : World} (h : New v zs a cap w) (hB : B < v.heap.size) : Away B zs a cap w := by
  refine ⟨h.fits, ?_⟩
  rcases h.own with h0 | ⟨g, rfl, hg, ho⟩
  · exact .inl h0
  · exact .inr ⟨g, rfl, by omega, ho⟩
theorem Away.below {B : Nat} {zs : List Nat} {a : Option Addr} {cap : Nat} {w w' : World} (h : Away B zs a cap w) (hb : Below w.heap.size w w') : Away B zs a cap w' := by
  refine ⟨h.fits, ?_⟩
  rcases h.own with h0 | ⟨g, rfl, hg, ho⟩
  · exact .inl h0
  · exact .inr ⟨g, rfl, hg, ho.below hb ho.lt⟩
theorem Away.store {B : Nat} {zs : List Nat} {a : Option Addr} {cap : Nat} {w : World} (h : Away B zs a cap w) (i : Nat) (v : Value) : Away B zs a cap (w.setCell ⟨B, i, none⟩ v) := by
  refine ⟨h.fits, ?_⟩
  rcases h.own with h0 | ⟨g, rfl, hg, ho⟩
  · exact .inl h0
  · exact .inr ⟨g, rfl, hg, ho.of_heap (Below.heap_setCell _ _ _ _ (by simp; omega))⟩
theorem Away.to_new {w w' : World} {zs : List Nat} {a : Option Addr} {cap : Nat} (h : Away w.heap.size zs a cap w') (hb : Below w.heap.size w w') : New w zs a cap w' := by
  refine ⟨hb, h.fits, ?_⟩
  rcases h.own with h0 | ⟨g, rfl, hg, ho⟩
  · exact .inl h0
  · exact .inr ⟨g, rfl, by omega, ho⟩

def GivesQR (w : World) (q r : Nat) (e : Ending) (w' : World) : Prop :=
  ∃ a cap b cap', e = .returned (.tuple #[.slice a (limbs q).length cap, .slice b (limbs r).length cap']) ∧ New w (limbs q) a cap w' ∧ New w (limbs r) b cap' w'

theorem and_one {x : Int} (h0 : 0 ≤ x) (h1 : x ≤ 4294967295) : bits .and .u32 x 1 = x % 2 := by
  rw [u32_and _ _ h0 (by omega) (by omega) (by omega)]
  have : (1 : Int).toNat = 1 := rfl
  rw [this, Nat.and_one_is_mod]; omega

theorem or_free {a m x : Nat} (hx : x = a * (2 * 2 ^ m)) (h : x + 2 ^ m < 4294967296) : bits .or .u32 (x : Int) ((2 ^ m : Nat) : Int) = ((x + 2 ^ m : Nat) : Int) := by
  have hp : 0 < 2 ^ m := Nat.pow_pos (by omega)
  rw [u32_or_nat _ _ (by omega) (by omega)]
  have e : x = 2 ^ (m + 1) * a := by rw [hx, Nat.pow_succ, Nat.mul_comm a, Nat.mul_comm 2]
  rw [e, ← Nat.two_pow_add_eq_or_of_lt (by rw [Nat.pow_succ]; omega)]

theorem bit_read {xs : List Nat} (h : Lim xs) (d mm e : Nat) (he : e = 32 * d + mm) (hm : mm < 32) : bits .and .u32 (nth xs d / 2 ^ mm) 1 = ((val xs / 2 ^ e % 2 : Nat) : Int) := by
  have hx := h.getD d
  have hp : 0 < 2 ^ mm := Nat.pow_pos (by omega)
  have e1 : nth xs d / 2 ^ mm = ((xs.getD d 0 / 2 ^ mm : Nat) : Int) := by unfold nth; simp
  have hle : xs.getD d 0 / 2 ^ mm ≤ xs.getD d 0 := Nat.div_le_self _ _
  rw [e1]
  have hb := bit_of_val h e
  have d1 : e / 32 = d := by omega
  have d2 : e % 32 = mm := by omega
  rw [d1, d2] at hb
  rw [← hb]
  generalize xs.getD d 0 / 2 ^ mm = Y at *
  rw [and_one (by omega) (by omega)]; omega

theorem below_step {W v v' : World} (hs : Below W.heap.size W v) (hb : Below v.heap.size v v') : Below W.heap.size W v' := hs.trans (hb.mono hs.size)

attribute [local go_sem ↓] Go.wp_at_zero Go.wp_at_succ

set_option maxRecDepth 100000 in
set_option maxHeartbeats 2000000 in
theorem rdivide_small (a b : Option Addr) (n m cap cap' : Nat) (xs ys : List Nat) (w : World) (rdx : Rd w a cap xs) (rdy : Rd w b cap' ys) (hl : xs.length = n) (hl' : ys.length = m) (hn : n ≤ 2) (hm : m ≤ 2) (hpos : 0 < val ys) :
    Calls Tryd.prog 41 #[.slice a n cap, .slice b m cap'] w (GivesQR w (val xs / val ys) (val xs % val ys)) := by
  have hlx := rdx.lim
  have hly := rdy.lim
  have hU := (two_of_short hlx (by omega)).2
  have hV := (two_of_short hly (by omega)).2
  have t1 : xs.take 2 = xs := List.take_of_length_le (by omega)
  have t2 : ys.take 2 = ys := List.take_of_length_le (by omega)
  obtain ⟨U, hUe⟩ : ∃ U, U = val xs := ⟨_, rfl⟩
  obtain ⟨V, hVe⟩ : ∃ V, V = val ys := ⟨_, rfl⟩
  rw [← hUe, ← hVe]
  rw [← hUe] at hU
  rw [← hVe] at hV hpos
  obtain ⟨Qn, hQ⟩ : ∃ Qn, Qn = U / V := ⟨_, rfl⟩
  obtain ⟨Rn, hR⟩ : ∃ Rn, Rn = U % V := ⟨_, rfl⟩
  have hq1 : (U : Int) / (V : Int) = (Qn : Int) := by rw [hQ]; simp
  have hr1 : (U : Int) % (V : Int) = (Rn : Int) := by rw [hR]; simp
  have hq2 : Qn ≤ 18446744073709551615 := by rw [hQ]; have := Nat.div_le_self U V; omega
  have hr2 : Rn ≤ 18446744073709551615 := by rw [hR]; have := Nat.mod_le U V; omega
  rw [← hQ, ← hR]
  have hv0 : (V == 0) = false := by simp; omega
  have hv1 : ((V : Int) == 0) = false := by simp; omega
  have hv2 : ¬V = 0 := by omega
  have ht1 : (U : Int).tdiv (V : Int) = (Qn : Int) := by rw [Int.tdiv_eq_ediv_of_nonneg (by omega)]; exact hq1
  have ht2 : (U : Int).tmod (V : Int) = (Rn : Int) := by rw [Int.tmod_eq_emod_of_nonneg (by omega)]; exact hr1
  have hw1 : IntKind.u64.wrap (Qn : Int) = (Qn : Int) := by rw [IntKind.wrap_u64]; omega
  have hw2 : IntKind.u64.wrap (Rn : Int) = (Rn : Int) := by rw [IntKind.wrap_u64]; omega
  have hfd : ∀ (s : Bool) (v : Value) (w : World), Sem.run Tryd.prog (Instr.field 25 (.agg #[.bool s, v]) 1) w = .ok v w := fun _ _ _ => by kernel_rfl
  have HU : U ≤ 18446744073709551615 := by omega
  have HV : V ≤ 18446744073709551615 := by omega
  have HL := Lib.hid hl
  have HL' := Lib.hid hl'
  have HT1 := Lib.hid t1
  have HT2 := Lib.hid t2
  have HUE := Lib.hid hUe
  have HVE := Lib.hid hVe
  clear hU hV hQ hR t1 t2 hUe hVe hl hl'
  go_enter Tryd.func41, Tryd.ntmps41
  go_wp2_with fail
  refine (low_any a n cap xs _ rdx HL.out (by omega)).mono ?_
  rintro e w1 ⟨rfl, q1, rfl⟩
  rw [HT1.out, ← HUE.out]
  go_wp2_with fail
  refine (low_any b m cap' ys _ (rdy.below (below_drewN (Below.refl _ _) q1)) HL'.out (by omega)).mono ?_
  rintro e w2 ⟨rfl, q2, rfl⟩
  rw [HT2.out, ← HVE.out]
  go_wp2_with fail
  have hB2 : Below w.heap.size w (w.drewN (q1 + q2)) := below_drewN (Below.refl _ _) _
  obtain ⟨W, hW⟩ : ∃ W, W = w.drewN (q1 + q2) := ⟨_, rfl⟩
  rw [← hW]
  rw [← hW] at hB2
  have HB2 := Lib.hid hB2
  clear hW hB2 rdx rdy
  go_region_held3 (fun w' => Below W.heap.size W w')
    (first | exact (Below.refl _ _).drew | exact below_step (by assumption) hN3.below | exact below_step (by assumption) hN4.below)
    ((first
      | (go_at_call 44; (with_reducible refine (word_any false Qn _ (by omega)).mono ?_); rintro e w3 ⟨a3, c3, rfl, hN3⟩)
      | (go_at_call 44; (with_reducible refine (word_any false Rn _ (by omega)).mono ?_); rintro e w4 ⟨a4, c4, rfl, hN4⟩)))
  all_goals
    have m1 : mg (Qn : Int) = limbs Qn := by simp [mg]
    have m2 : mg (Rn : Int) = limbs Rn := by simp [mg]
    simp only [Bool.false_eq_true, if_false, m1, m2] at hN3 hN4 ⊢
    have hbw : Below w.heap.size w w3 := HB2.out.trans (((Below.refl _ _).drew.trans hN3.below).mono HB2.out.size)
    have n3 : New w (limbs Qn) a3 c3 w4 := (New.before (HB2.out.trans ((Below.refl _ _).drew.mono HB2.out.size)) hN3).after hN4.below
    have n4 : New w (limbs Rn) a4 c4 w4 := New.before hbw hN4
    have HN3 := Lib.hid n3
    have HN4 := Lib.hid n4
    clear hN3 hN4 n3 n4 hbw m1 m2
    go_wp2_with fail
    refine bodyPost_ret (v := .tuple #[.slice a3 (limbs Qn).length c3, .slice a4 (limbs Rn).length c4]) ?_ ?_ ?_
    · simp [results, Tryd.results41, go_sem]
    · rfl
    exact ⟨a3, c3, a4, c4, rfl, HN3.out, HN4.out⟩

set_option maxRecDepth 100000 in
set_option maxHeartbeats 4000000 in
theorem rdivide_loop (a b : Option Addr) (n m cap cap' : Nat) (xs ys : List Nat) (w : World) (rdx : Rd w a cap xs) (rdy : Rd w b cap' ys) (hl : xs.length = n) (hl' : ys.length = m) (hn : n ≤ 10000000) (hm : m ≤ 10000000) (hpos : 0 < val ys) (hty : trimL ys = ys) (h2 : 2 < n ∨ 2 < m) :
    Calls Tryd.prog 41 #[.slice a n cap, .slice b m cap'] w (GivesQR w (val xs / val ys) (val xs % val ys)) := by
  obtain ⟨i, hi, hz0, hz1, hz2⟩ := info_parts Tryd.infoU32
  have hlx := rdx.lim
  have hly := rdy.lim
  have hux := rdx.under
  have huy := rdy.under
  have hst := BitInv.start (val xs) (val ys) n hpos (by rw [← hl]; exact val_lt hlx)
  have hvy : val ys < 4294967296 ^ m := by rw [← hl']; exact val_lt hly
  have HVY := Lib.hid hvy
  have HL := Lib.hid hl
  have HL' := Lib.hid hl'
  have HTY := Lib.hid hty
  have HST := Lib.hid hst
  clear hl hl' hty hst hvy
  have hn' : (decide ((n : Int) ≤ 2) && decide ((m : Int) ≤ 2)) = false := by simp; omega
  by_cases hn2 : n ≤ 2
  all_goals
    have hm2 : n ≤ 2 → 2 < m := by omega
    clear h2
    go_enter Tryd.func41, Tryd.ntmps41
    go_wp2_with (at_make; refine wpList_make_full _ rfl _ _ 23 rfl w.heap.size 52 i (.int .u32 0) 1 Tryd.underlying23 hi hz0 hz1 _ _ _ _ n rfl rfl ?_ ?_ ?_ ?_ (Nat.le_refl _) ?_)
    all_goals try (omega)
    all_goals try rfl
    all_goals try (rw [hz2]; omega)
    all_goals try (unfold maxLen; omega)
    intro w1 hown hgrow
    have ho1 := own_made hown
    have hb1 : Below w.heap.size w w1 := (Below.refl _ _).grown hgrow (Nat.le_refl _) (by intro k hk; cases hk)
    clear hown hgrow
    go_wp2_with fail
    go_loopw [5, 8] (fun tx ii wr => ∃ (k r : Nat) (qs : List Nat) (ra : Option Addr) (rc : Nat), k ≤ 32 * n ∧ ii = .int .i64 ((k : Int) - 1) ∧ tx = .slice ra (limbs r).length rc ∧ Hid (BitInv (val xs) (val ys) n k qs r) ∧ Own wr w.heap.size qs ∧ Away w.heap.size (limbs r) ra rc wr ∧ Below w.heap.size w wr) (fun _ ii _ => (intOf ii + 1).toNat)
    case atStart => exact ⟨32 * n, 0, List.replicate n 0, none, 0, Nat.le_refl _, by simp, rfl, HST.out, ho1, ⟨by simp [limbs_zero], .inl ⟨rfl, limbs_zero⟩⟩, hb1⟩
    case round =>
      clear ho1 hb1
      obtain ⟨k, r, qs, ra, rc, hk, rfl, rfl, hI, hO, hA, hB⟩ := hrel
      have hql := hI.out.qlen
      have hrs := hI.out.small
      have hrl : (limbs r).length ≤ m := length_limbs_le (Nat.lt_trans hrs HVY.out)
      by_cases h0 : 0 < k
      · obtain ⟨e, rfl⟩ : ∃ e, k = e + 1 := ⟨k - 1, by omega⟩
        have ee : ((e + 1 : Nat) : Int) - 1 = (e : Int) := by omega
        rw [ee]
        clear ee
        obtain ⟨d, mm, hmm, hed⟩ : ∃ d mm, mm < 32 ∧ e = 32 * d + mm := ⟨e / 32, e % 32, by omega, by omega⟩
        have hE2 : (e : Int) / 32 = (d : Int) := by omega
        have hE3 : (e : Int) % 32 = (mm : Int) := by omega
        have hd : d < n := by omega
        have hrx := rdx.belowU hux hB
        have hry := rdy.belowU huy hB
        obtain ⟨bx, ox, rfl, hcx⟩ := hrx.cells d (by rw [HL.out]; exact hd)
        have g1 := nth_ge xs d
        have g2 := nth_le hlx d
        have hbit := bit_read hlx d mm e hed hmm
        obtain ⟨bt, hbt⟩ : ∃ bt, bt = val xs / 2 ^ e % 2 := ⟨_, rfl⟩
        rw [← hbt] at hbit
        have hbt1 : bt ≤ 1 := by omega
        have HBT := Lib.hid hbt
        have HED := Lib.hid hed
        have HQL := Lib.hid hql
        clear hbt hed hql hrs
        obtain ⟨S, hS⟩ : ∃ S, S = 2 * r + bt := ⟨_, rfl⟩
        have HS := Lib.hid hS
        go_wp2_with fail
        refine (rdouble_any ra _ rc bt (limbs r) _ hA.rd rfl (by omega) hbt1).mono ?_
        rintro ev w2 ⟨zs, a2, c2, hzv, hzl, rfl, hN2⟩
        rw [val_limbs, ← hS] at hzv
        go_wp2_with fail
        refine (rtrim_any a2 _ c2 zs _ hN2.rd rfl (by omega)).mono ?_
        rintro ev w3 ⟨a3, c3, rfl, hN3⟩
        have hz2 : trimL zs = limbs S := by rw [← limbs_val hN2.rd.lim, hzv.out]
        rw [hz2] at hN3
        rw [hz2]
        have hb3 : Below wr.heap.size wr w3 := hN2.below.trans (hN3.below.mono hN2.below.size)
        have hO3 := hO.below hb3 hO.lt
        have hB3 := hB.trans (hb3.mono hB.size)
        have hry3 := hry.below hb3
        have hA3 : Away w.heap.size (limbs S) a3 c3 w3 := Away.of_new hN3 (Nat.lt_of_lt_of_le hO.lt hN2.below.size)
        have hSl : (limbs S).length ≤ m + 1 := by
          have h1 := length_trimL_le zs
          rw [hz2] at h1; omega
        obtain ⟨bz, oz, ez, hcz⟩ := (rdx.belowU hux hB3).cells d (by rw [HL.out]; exact hd)
        simp only [Option.some.injEq, Addr.mk.injEq, and_true] at ez
        obtain ⟨rfl, rfl⟩ := ez
        clear hN2 hN3 hz2 hzv hzl hb3 hO hA hB hrx hry hcx hS hbit
        go_wp2_with fail
        refine (rcmp_any a3 b _ m c3 cap' (limbs S) ys _ hA3.rd hry3 rfl HL'.out (by omega) (by omega) (.inr ⟨trimL_limbs _, HTY.out⟩)).mono ?_
        rintro ev w4 ⟨rfl, q4, rfl⟩
        rw [val_limbs]
        have hO4 := hO3.below (below_drewN (Below.refl _ _) q4) hO3.lt
        have hA4 := hA3.below (below_drewN (Below.refl _ _) q4)
        have hB4 := below_drewN hB3 q4
        have hry4 := hry3.below (below_drewN (Below.refl _ _) q4)
        clear hO3 hA3 hB3 hry3
        by_cases hge : val ys ≤ S
        · have hc : decide (0 ≤ cmpI S (val ys)) = true := by unfold cmpI; rw [if_neg (by omega)]; split <;> simp
          have HGE := Lib.hid hge
          obtain ⟨hlow, hI2⟩ := hI.out.step_yes (by omega) (by rw [← HBT.out, ← HS.out]; exact hge)
          rw [← HBT.out, ← HS.out] at hI2
          have d1 : e / 32 = d := by have := HED.out; omega
          have d2 : e % 32 = mm := by have := HED.out; omega
          rw [d1, d2] at hI2 hlow
          obtain ⟨aa, hl1, hl2⟩ := hlow
          have hor : bits .or .u32 (nth qs d) ((2 ^ mm : Nat) : Int) = ((qs.getD d 0 + 2 ^ mm : Nat) : Int) := or_free hl1 hl2
          have hpw := pow_wrap mm hmm
          have hps := pow_small mm hmm
          obtain ⟨pw, hpwe⟩ : ∃ pw, pw = 2 ^ mm := ⟨_, rfl⟩
          rw [← hpwe] at hor hpw hps hI2 hl2
          have g5 := nth_ge qs d
          have g6 := nth_le hI.out.qlim d
          obtain ⟨vq, hvq⟩ : ∃ vq, vq = qs.getD d 0 + pw := ⟨_, rfl⟩
          rw [← hvq] at hor hI2 hl2
          have HI2 := Lib.hid hI2
          clear hI hI2 hge hl1 hpwe hvq d1 d2
          go_wp2_with fail
          refine (rdiff_any a3 b _ m c3 cap' (limbs S) ys _ hA4.rd hry4 rfl HL'.out (by omega) (by omega) (by rw [val_limbs]; exact HGE.out)).mono ?_
          rintro ev w5 ⟨zs5, a5, c5, hzv5, hzl5, rfl, hN5⟩
          rw [val_limbs] at hzv5
          go_wp2_with fail
          refine (rtrim_any a5 _ c5 zs5 _ hN5.rd rfl (by omega)).mono ?_
          rintro ev w6 ⟨a6, c6, rfl, hN6⟩
          have hz6 : trimL zs5 = limbs (S - val ys) := by rw [← limbs_val hN5.rd.lim, hzv5.out]
          rw [hz6] at hN6
          rw [hz6]
          have hb6 := hN5.below.trans (hN6.below.mono hN5.below.size)
          have hO6 := hO4.below hb6 hO4.lt
          have hB6 := hB4.trans (hb6.mono hB4.size)
          have hA6 : Away w.heap.size (limbs (S - val ys)) a6 c6 w6 := Away.of_new hN6 (Nat.lt_of_lt_of_le hO4.lt hN5.below.size)
          have hcell := hO6.cell d (by rw [HQL.out]; exact hd)
          have hfree := hO6.free d
          clear hN5 hN6 hz6 hzv5 hzl5 hb6 hO4 hA4 hB4 hry4
          go_wp2_with fail
          go_region
          all_goals go_wp2_with fail
          go_roundw
          case rel =>
            have hst := (hO6.store d vq hl2 (vq : Int) rfl).1
            exact ⟨e, S - val ys, qs.set d vq, a6, c6, by omega, rfl, rfl, HI2.out, hst.below (Below.refl _ _).drew hst.lt, (hA6.store d _).below (Below.refl _ _).drew, (hB6.setCell (p := ⟨w.heap.size, d, none⟩) (Nat.le_refl _) _).drew⟩
          case measure => simp [intOf]
        · have hc : decide (0 ≤ cmpI S (val ys)) = false := by unfold cmpI; rw [if_pos (by omega)]; simp
          have hI2 := hI.out.step_no (by rw [← HBT.out, ← HS.out]; omega)
          rw [← HBT.out, ← HS.out] at hI2
          have HI2 := Lib.hid hI2
          clear hI hI2 hge
          go_wp2_with fail
          go_roundw
          case rel => exact ⟨e, S, qs, a3, c3, by omega, rfl, rfl, HI2.out, hO4, hA4, hB4⟩
          case measure => simp [intOf]
      · obtain rfl : k = 0 := by omega
        obtain ⟨hdq, hdr⟩ := hI.out.done
        subst hdr
        have hzq : trimL qs = limbs (val xs / val ys) := by rw [← limbs_val hI.out.qlim, hdq]
        have HZQ := Lib.hid hzq
        clear hzq hdq hI hrs
        go_wp2_with fail
        refine (rtrim_any _ n n qs _ (hO.rd (by omega)) hql (by omega)).mono ?_
        rintro ev w2 ⟨a2, c2, rfl, hN2⟩
        rw [HZQ.out] at hN2
        rw [HZQ.out]
        have n1 : New w (limbs (val xs / val ys)) a2 c2 w2 := New.before hB hN2
        have n2 : New w (limbs (val xs % val ys)) ra rc w2 := (hA.below hN2.below).to_new (hB.trans (hN2.below.mono hB.size))
        have N1 := Lib.hid n1
        have N2 := Lib.hid n2
        clear n1 n2 hN2 hA hO hB
        go_wp2_with fail
        refine bodyPost_ret (v := .tuple #[.slice a2 (limbs (val xs / val ys)).length c2, .slice ra (limbs (val xs % val ys)).length rc]) ?_ ?_ ?_
        · simp [results, Tryd.results41, go_sem]
        · rfl
        exact ⟨a2, c2, ra, rc, rfl, N1.out, N2.out⟩
theorem rdivide_any (a b : Option Addr) (n m cap cap' : Nat) (xs ys : List Nat) (w : World) (rdx : Rd w a cap xs) (rdy : Rd w b cap' ys) (hl : xs.length = n) (hl' : ys.length = m) (hn : n ≤ 10000000) (hm : m ≤ 10000000) (hpos : 0 < val ys) (hty : trimL ys = ys) :
    Calls Tryd.prog 41 #[.slice a n cap, .slice b m cap'] w (GivesQR w (val xs / val ys) (val xs % val ys)) := by
  by_cases h : n ≤ 2 ∧ m ≤ 2
  · exact rdivide_small a b n m cap cap' xs ys w rdx rdy hl hl' h.1 h.2 hpos
  · exact rdivide_loop a b n m cap cap' xs ys w rdx rdy hl hl' hn hm hpos hty (by omega)
end Go.Proofs.YtgnjjmbphangnaaDoor
