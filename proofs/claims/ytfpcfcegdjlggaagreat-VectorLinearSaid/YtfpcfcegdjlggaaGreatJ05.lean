/-
  Joined texts: L M O R S RA RD AA.
-/
import Derived.Test.YtfpcfcegdjlggaaGreatJ04
import Derived.Test.YtfpcfcegdjlggaaGreatJ03
namespace Go.Proofs.YtfpcfcegdjlggaaGreat
open Go.RowKit

theorem euclid {z d Q R : Int} (hd : d ≠ 0) (h : z = Q * d + R) (h0 : 0 ≤ R) (h1 : R < d.natAbs) : z / d = Q ∧ z % d = R := by
  rcases Int.lt_or_gt_of_ne hd with hn | hp
  · have := (Int.ediv_emod_unique (a := z) (b := -d) (r := R) (q := -Q) (by omega)).2 ⟨by rw [Int.neg_mul_neg, h, Int.mul_comm]; omega, h0, by omega⟩
    rw [Int.ediv_neg, Int.emod_neg] at this
    exact ⟨by omega, this.2⟩
  · exact (Int.ediv_emod_unique hp).2 ⟨by rw [h, Int.mul_comm]; omega, h0, by omega⟩

theorem den_zero {neg : Bool} {xs : List Nat} : den neg xs = 0 ↔ val xs = 0 := by unfold den; cases neg <;> simp
theorem natAbs_den (neg : Bool) (xs : List Nat) : (den neg xs).natAbs = val xs := by unfold den; cases neg <;> simp

theorem divmod_plain {na nb : Bool} {X Y q r : Nat} (hY : 0 < Y) (hq : q = X / Y) (hr : r = X % Y) (h : na = true → r = 0) :
    (if na then -(X : Int) else X) / (if nb then -(Y : Int) else Y) = (if (na != nb) then -(q : Int) else q) ∧ (if na then -(X : Int) else X) % (if nb then -(Y : Int) else Y) = (r : Int) := by
  have e := Nat.div_add_mod X Y
  have hlt := Nat.mod_lt X hY
  rw [← hq, ← hr] at e
  rw [← hr] at hlt
  have ez : (X : Int) = (q : Int) * (Y : Int) + (r : Int) := by rw [← e]; push_cast; rw [Int.mul_comm]
  apply euclid
  · cases nb <;> simp <;> omega
  · cases na <;> cases nb
    · simpa using ez
    · simp only [Bool.false_eq_true, if_false, if_true, Bool.false_bne, Int.neg_mul, Int.mul_neg, Int.neg_neg]; omega
    · have := h rfl
      subst this
      simp only [Bool.false_eq_true, if_false, if_true, Bool.true_bne, Bool.not_false, Int.neg_mul]; omega
    · have := h rfl
      subst this
      simp only [Bool.false_eq_true, if_false, if_true, bne_self_eq_false, Int.mul_neg]; omega
  · omega
  · cases nb <;> simp <;> omega

theorem divmod_neg {nb : Bool} {X Y q r : Nat} (hY : 0 < Y) (hq : q = X / Y) (hr : r = X % Y) (h : 0 < r) :
    (-(X : Int)) / (if nb then -(Y : Int) else Y) = (if (true != nb) then -((q + 1 : Nat) : Int) else ((q + 1 : Nat) : Int)) ∧ (-(X : Int)) % (if nb then -(Y : Int) else Y) = ((Y - r : Nat) : Int) := by
  have e := Nat.div_add_mod X Y
  have hlt := Nat.mod_lt X hY
  rw [← hq, ← hr] at e
  rw [← hr] at hlt
  have ez : (X : Int) = (q : Int) * (Y : Int) + (r : Int) := by rw [← e]; push_cast; rw [Int.mul_comm]
  have ey : ((Y - r : Nat) : Int) = (Y : Int) - (r : Int) := by omega
  rw [ey]
  apply euclid
  · cases nb <;> simp <;> omega
  · cases nb
    · simp only [Bool.false_eq_true, if_false, if_true, Bool.true_bne, Bool.not_false, Int.neg_mul]; rw [Int.natCast_add, Int.add_mul]; omega
    · simp only [Bool.false_eq_true, if_false, if_true, bne_self_eq_false, Int.mul_neg]; rw [Int.natCast_add, Int.add_mul]; omega
  · omega
  · cases nb <;> simp <;> omega

def GivesDM (w : World) (z d : Int) (e : Ending) (w' : World) : Prop :=
  ∃ a cap b cap', e = .returned (.tuple #[.agg #[.bool (sg (z / d)), .slice a (mg (z / d)).length cap], .agg #[.bool (sg (z % d)), .slice b (mg (z % d)).length cap'], .bool true]) ∧ New w (mg (z / d)) a cap w' ∧ New w (mg (z % d)) b cap' w'

/-- What the four blocks of a call of DivMod hold: two arguments, two results. -/
structure Four (B : Nat) (na nb : Bool) (w : World) : Prop where
  c0 : w.cell? ⟨B, 0, none⟩ = some (.bool na)
  c1 : w.cell? ⟨B + 1, 0, none⟩ = some (.bool nb)
  r0 : w.cell? ⟨B + 1 + 1, 0, none⟩ = some (.bool false)
  r1 : w.cell? ⟨B + 1 + 1, 1, none⟩ = some (.slice none 0 0)
  s0 : w.cell? ⟨B + 1 + 1 + 1, 0, none⟩ = some (.bool false)
  s1 : w.cell? ⟨B + 1 + 1 + 1, 1, none⟩ = some (.slice none 0 0)
  f0 : w.frozen? ⟨B + 1 + 1, 0, none⟩ = false
  f1 : w.frozen? ⟨B + 1 + 1, 1, none⟩ = false
  g0 : w.frozen? ⟨B + 1 + 1 + 1, 0, none⟩ = false
  g1 : w.frozen? ⟨B + 1 + 1 + 1, 1, none⟩ = false
  size : B + 1 + 1 + 1 < w.heap.size

theorem Four.below {B : Nat} {na nb : Bool} {w w' : World} (h : Four B na nb w) (hb : Below w.heap.size w w') : Four B na nb w' := by
  have hs := h.size
  have hs' := hb.size
  exact ⟨(hb.cell (by simp; omega)).trans h.c0, (hb.cell (by simp; omega)).trans h.c1, (hb.cell (by simp; omega)).trans h.r0, (hb.cell (by simp; omega)).trans h.r1, (hb.cell (by simp; omega)).trans h.s0, (hb.cell (by simp; omega)).trans h.s1,
    (hb.frozen (by simp; omega)).trans h.f0, (hb.frozen (by simp; omega)).trans h.f1, (hb.frozen (by simp; omega)).trans h.g0, (hb.frozen (by simp; omega)).trans h.g1, by omega⟩

theorem new_result4 {w W0 w3 : World} {zs : List Nat} {a : Option Addr} {cap : Nat} (hBW : Below w.heap.size w W0) (h : New W0 zs a cap w3) (hs : w.heap.size + 1 + 1 + 1 < W0.heap.size) (u1 u2 u3 u4 : Value) :
    New w zs a cap ((((w3.setCell ⟨w.heap.size + 1 + 1, 0, none⟩ u1).setCell ⟨w.heap.size + 1 + 1, 1, none⟩ u2).setCell ⟨w.heap.size + 1 + 1 + 1, 0, none⟩ u3).setCell ⟨w.heap.size + 1 + 1 + 1, 1, none⟩ u4) := by
  have hb : Below w.heap.size w w3 := hBW.trans (h.below.mono hBW.size)
  refine ⟨(((hb.setCell (p := ⟨w.heap.size + 1 + 1, 0, none⟩) (by simp; omega) u1).setCell (p := ⟨w.heap.size + 1 + 1, 1, none⟩) (by simp; omega) u2).setCell (p := ⟨w.heap.size + 1 + 1 + 1, 0, none⟩) (by simp; omega) u3).setCell (p := ⟨w.heap.size + 1 + 1 + 1, 1, none⟩) (by simp; omega) u4, h.fits, ?_⟩
  rcases h.own with h0 | ⟨g, rfl, hg, ho⟩
  · exact .inl h0
  · refine .inr ⟨g, rfl, by omega, ho.of_heap ?_⟩
    rw [Below.heap_setCell _ _ _ _ (by simp; omega), Below.heap_setCell _ _ _ _ (by simp; omega), Below.heap_setCell _ _ _ _ (by simp; omega), Below.heap_setCell _ _ _ _ (by simp; omega)]

end Go.Proofs.YtfpcfcegdjlggaaGreat
namespace Go.Proofs.YtfpcfcegdjlggaaGreat
open Go.RowKit

/-- A block of two cells that holds a struct: an argument or a result. -/
structure Box (B : Nat) (v0 v1 : Value) (w : World) : Prop where
  c0 : w.cell? ⟨B, 0, none⟩ = some v0
  c1 : w.cell? ⟨B, 1, none⟩ = some v1
  f0 : w.frozen? ⟨B, 0, none⟩ = false
  f1 : w.frozen? ⟨B, 1, none⟩ = false
  size : B < w.heap.size

theorem Box.below {B : Nat} {v0 v1 : Value} {w w' : World} (h : Box B v0 v1 w) (hb : Below w.heap.size w w') : Box B v0 v1 w' :=
  ⟨(hb.cell h.size).trans h.c0, (hb.cell h.size).trans h.c1, (hb.frozen h.size).trans h.f0, (hb.frozen h.size).trans h.f1, Nat.lt_of_lt_of_le h.size hb.size⟩
theorem Box.alloc {B : Nat} {v0 v1 : Value} {w : World} (h : Box B v0 v1 w) (o : Obj) : Box B v0 v1 (w.alloc o) := h.below ((Below.refl _ _).alloc (Nat.le_refl _) _)
theorem Box.made (w : World) (B : Nat) (hB : B = w.heap.size) (v0 v1 : Value) (t : TypeId) : Box B v0 v1 (w.alloc (.cells #[v0, v1] t)) := by
  subst hB
  exact ⟨by simp [go_sem], by simp [go_sem], by simp [go_sem], by simp [go_sem], by simp⟩
theorem Box.drewN {B : Nat} {v0 v1 : Value} {w : World} (h : Box B v0 v1 w) (n : Nat) : Box B v0 v1 (w.drewN n) := ⟨h.c0, h.c1, h.f0, h.f1, h.size⟩

end Go.Proofs.YtfpcfcegdjlggaaGreat
namespace Go.Proofs.YtfpcfcegdjlggaaGreat
open Go.RowKit

/-- k exchanges have been made. -/
structure RevInv (bs : List Nat) (k : Nat) (L : List Nat) : Prop where
  len : L.length = bs.length
  el : ∀ i, i < bs.length → L.getD i 0 = if i < k ∨ bs.length ≤ i + k then bs.getD (bs.length - 1 - i) 0 else bs.getD i 0

theorem RevInv.start (bs : List Nat) : RevInv bs 0 bs := ⟨rfl, fun i hi => by rw [if_neg (by omega)]⟩

theorem RevInv.step {bs L : List Nat} {k J : Nat} (h : RevInv bs k L) (hJ : bs.length = J + k + 1) (hk : k < J) : RevInv bs (k + 1) ((L.set k (L.getD J 0)).set J (L.getD k 0)) := by
  refine ⟨by simp [h.len], fun i hi => ?_⟩
  have hl := h.len
  by_cases h1 : i = J
  · subst h1
    rw [getD_set_eq _ _ _ (by simp; omega), h.el k (by omega), if_neg (by omega), if_pos (by omega)]
    congr 1; omega
  · rw [getD_set_ne _ _ _ _ h1]
    by_cases h2 : i = k
    · subst h2
      rw [getD_set_eq _ _ _ (by omega), h.el J (by omega), if_neg (by omega), if_pos (by omega)]
      congr 1; omega
    · rw [getD_set_ne _ _ _ _ h2, h.el i hi]
      by_cases h3 : i < k ∨ bs.length ≤ i + k
      · rw [if_pos h3, if_pos (by omega)]
      · rw [if_neg h3, if_neg (by omega)]

theorem RevInv.done {bs L : List Nat} {k : Nat} (h : RevInv bs k L) (hk : bs.length ≤ 2 * k + 1) (hk2 : 2 * k ≤ bs.length + 1) : L = bs.reverse := by
  apply List.ext_getElem
  · simp [h.len]
  · intro i h1 h2
    have hi : i < bs.length := by rw [← h.len]; exact h1
    have e := h.el i hi
    rw [List.getD_eq_getElem?_getD, List.getElem?_eq_getElem h1] at e
    rw [List.getElem_reverse]
    simp only [Option.getD_some] at e
    rw [e]
    split
    · rw [List.getD_eq_getElem?_getD, List.getElem?_eq_getElem (by omega)]; rfl
    · have : bs.length - 1 - i = i := by omega
      rw [List.getD_eq_getElem?_getD, List.getElem?_eq_getElem hi]
      simp only [Option.getD_some, this]

end Go.Proofs.YtfpcfcegdjlggaaGreat
namespace Go.Proofs.YtfpcfcegdjlggaaGreat
open Go.RowKit

theorem new_of_row {w w' : World} {v : Value} {zs : List Nat} (hb : Below w.heap.size w w') (hz : Lim zs) (h : w'.ownsRow w.heap.size 87 1 v zs.length (u32s zs)) : ∃ a cap, v = .slice a zs.length cap ∧ New w zs a cap w' := by
  rcases h.2 with ⟨rfl, h0⟩ | ⟨g, cap, cur, rfl, hg, hh, hn, _, _, ht⟩
  · have : zs = [] := List.eq_nil_of_length_eq_zero h0
    subst this
    exact ⟨none, 0, rfl, New.none hb 0⟩
  · exact ⟨some ⟨g, 0, none⟩, cap, rfl, hb, hn, .inr ⟨g, rfl, hg, hz, cur, hh, by rw [← ht, Nat.mul_one]⟩⟩

set_option maxRecDepth 100000 in
set_option maxHeartbeats 1000000 in
theorem rtrim_any (a : Option Addr) (n cap : Nat) (xs : List Nat) (w : World) (rdx : Rd w a cap xs) (hl : xs.length = n) (hn : n ≤ 4000000000) :
    Calls Tryz.prog 51 #[.slice a n cap] w (GivesNew w (trimL xs)) := by
  subst hl
  have hcap := rdx.fits
  have hc := rdx.cells
  have hlx := rdx.lim
  obtain ⟨i0, hi, hz0, hz1, hz2⟩ := info_parts Tryz.infoU32
  go_enter Tryz.func51, Tryz.ntmps51
  go_wp2_with fail
  go_loop [3] (fun n => ∃ k : Nat, k ≤ xs.length ∧ n = .int .i64 k ∧ trimL xs = trimL (xs.take k)) (fun n => (intOf n).toNat)
  case atStart => exact ⟨xs.length, Nat.le_refl _, rfl, by rw [List.take_length]⟩
  case round =>
    obtain ⟨k, hk, rfl, ht⟩ := hrel
    have HT := Lib.hid ht
    clear ht
    by_cases h0 : 0 < k
    · obtain ⟨j, rfl⟩ : ∃ j, k = j + 1 := ⟨k - 1, by omega⟩
      obtain ⟨b, o, rfl, hj⟩ := hc j (by omega)
      by_cases hz : nth xs j = 0
      · have e := trimL_take_zero xs j (by omega) (by unfold nth at hz; omega)
        have E := Lib.hid e
        clear e hc
        rw [hz] at hj
        clear hz
        go_wp2_with fail
        go_round
        case rel => exact ⟨j, by omega, by go_num, HT.out.trans E.out⟩
        case measure => simp [intOf]
      · have e := trimL_take_pos xs j (by omega) (by unfold nth at hz; omega)
        have hl : trimL xs = xs.take (j + 1) := HT.out.trans e
        have E := Lib.hid hl
        have hll : (xs.take (j + 1)).length = j + 1 := by rw [List.length_take]; omega
        have HLL := Lib.hid hll
        clear e hl hll
        have hb : (nth xs j == 0) = false := by simpa using hz
        have HC := Lib.hid hc
        clear hz hc
        go_wp2_with (at_builtin; refine wpList_append_own _ rfl _ _ 49 rfl w.heap.size 87 i0 (.int .u32 0) 1 4 Tryz.underlying49 hi hz0 hz1 hz2 rfl (by decide) (.slice none 0 0) 0 [] rfl (World.ownsRow_nil _ _ _ _) ⟨b, o, none⟩ (j + 1) cap (u32s (xs.take (j + 1))) rfl ?c0 ?c1 ?c2 ?c3 ?c4 (Nat.le_refl _) ?_)
        case c0 => rw [length_u32s, HLL.out]
        case c1 =>
          intro i u hu
          have hil : i < (xs.take (j + 1)).length := by have := (List.getElem?_eq_some_iff.1 hu).1; rwa [length_u32s] at this
          rw [u32s_get _ i hil, nth_take _ _ _ (by rw [HLL.out] at hil; exact hil)] at hu
          obtain ⟨b', o', e, hc⟩ := HC.out i (by rw [HLL.out] at hil; omega)
          simp only [Option.some.injEq, Addr.mk.injEq, and_true] at e
          obtain ⟨rfl, rfl⟩ := e
          rw [hc, hu]
        case c2 => exact u32s_one _
        case c3 => unfold maxLen; omega
        case c4 => omega
        intro v' w1 hown1 hgrow1 _
        have hb1 : Below w.heap.size w w1 := (Below.refl _ _).grown hgrow1 (Nat.le_refl _) (by intro q hq; simp [Value.ownBlock] at hq)
        obtain ⟨a1, c1, hv, hN⟩ := new_of_row hb1 (hlx.take (j + 1)) (by rw [HLL.out]; exact hown1)
        rw [hv]
        clear hown1 hgrow1
        go_wp2_with fail
        go_ret
        exact ⟨a1, c1, by rw [E.out]; rfl, by rw [E.out]; exact hN⟩
    · obtain rfl : k = 0 := by omega
      have E : Hid (trimL xs = []) := by unfold Hid; rw [HT.out]; rfl
      clear hc
      cases a with
      | none =>
        go_wp2_with fail
        go_ret
        exact ⟨none, 0, by rw [E.out]; rfl, by rw [E.out]; exact New.none (Below.refl _ _) 0⟩
      | some ad =>
        go_wp2_with fail
        go_ret
        exact ⟨none, 0, by rw [E.out]; rfl, by rw [E.out]; exact New.none (Below.refl _ _) 0⟩
end Go.Proofs.YtfpcfcegdjlggaaGreat
namespace Go.Proofs.YtfpcfcegdjlggaaGreat
open Go.RowKit

theorem sg_den {neg : Bool} {xs : List Nat} (h : val xs ≠ 0) : sg (den neg xs) = neg := by
  unfold sg den
  cases neg
  · simp
  · simp; omega
theorem sg_den0 {neg : Bool} {xs : List Nat} (h : val xs = 0) : sg (den neg xs) = false := by
  unfold sg den; rw [h]; cases neg <;> rfl
theorem mg_den (neg : Bool) (xs : List Nat) : mg (den neg xs) = limbs (val xs) := by unfold mg; rw [natAbs_den]

set_option maxRecDepth 100000 in
set_option maxHeartbeats 1000000 in
theorem make_any (neg : Bool) (a : Option Addr) (n cap : Nat) (xs : List Nat) (w : World) (rdx : Rd w a cap xs) (hl : xs.length = n) (hn : n ≤ 4000000000) :
    Calls Tryz.prog 52 #[.bool neg, .slice a n cap] w (GivesInt w (den neg xs)) := by
  have hlx := rdx.lim
  have hm : mg (den neg xs) = trimL xs := by rw [mg_den, limbs_val hlx]
  have htz := trim_length_zero hlx
  have hr1 := rdx.alloc (.cells #[.bool false, .slice none 0 0] 51)
  obtain ⟨T, hT⟩ : ∃ T, T = trimL xs := ⟨_, rfl⟩
  have HT := Lib.hid hT
  have HL := Lib.hid hl
  have HM := Lib.hid hm
  rw [← hT] at htz
  clear hT hl hm
  by_cases h0 : T.length = 0
  · have hs : sg (den neg xs) = false := sg_den0 (htz.1 h0)
    have hT0 : T = [] := List.eq_nil_of_length_eq_zero h0
    have HS := Lib.hid hs
    have HT0 := Lib.hid hT0
    have hb : decide ((0 : Int) < (T.length : Int)) = false := by simp; omega
    clear hs hT0 htz h0
    cases neg
    all_goals
      go_enter Tryz.func52, Tryz.ntmps52
      go_wp2_with fail
      refine (rtrim_any _ n _ xs _ hr1 HL.out (by omega)).mono ?_
      rintro e w1 ⟨a1, c1, rfl, hN1⟩
      rw [← HT.out, HT0.out] at hN1
      rw [← HT.out, HT0.out]
      obtain ⟨f1, f2, f3, f4, f5⟩ := held2 hN1.below
      have hn := new_result hN1
      clear hN1
      go_wp2_with fail
      exact bodyPost_ret (v := .agg #[.bool false, .slice a1 0 c1]) (by simp [results, Tryz.results52, go_sem, f1, f2]) rfl ⟨a1, c1, by rw [HS.out, HM.out, ← HT.out, HT0.out]; rfl, by rw [HM.out, ← HT.out, HT0.out]; exact hn _ _⟩
  · have hs : sg (den neg xs) = neg := sg_den (fun h => h0 (htz.2 h))
    have HS := Lib.hid hs
    have hb : decide ((0 : Int) < (T.length : Int)) = true := by simp; omega
    have hp : 0 < T.length := by omega
    clear hs htz h0
    cases neg
    · go_enter Tryz.func52, Tryz.ntmps52
      go_wp2_with fail
      refine (rtrim_any _ n _ xs _ hr1 HL.out (by omega)).mono ?_
      rintro e w1 ⟨a1, c1, rfl, hN1⟩
      rw [← HT.out] at hN1
      rw [← HT.out]
      obtain ⟨f1, f2, f3, f4, f5⟩ := held2 hN1.below
      have hn := new_result hN1
      clear hN1
      go_wp2_with fail
      exact bodyPost_ret (v := .agg #[.bool false, .slice a1 T.length c1]) (by simp [results, Tryz.results52, go_sem, f1, f2]) rfl ⟨a1, c1, by rw [HS.out, HM.out, ← HT.out], by rw [HM.out, ← HT.out]; exact hn _ _⟩
    · go_enter Tryz.func52, Tryz.ntmps52
      go_wp2_with fail
      refine (rtrim_any _ n _ xs _ hr1 HL.out (by omega)).mono ?_
      rintro e w1 ⟨a1, c1, rfl, hN1⟩
      rw [← HT.out] at hN1
      rw [← HT.out]
      obtain ⟨f1, f2, f3, f4, f5⟩ := held2 hN1.below
      have hn := new_result hN1
      clear hN1
      go_wp2_with fail
      exact bodyPost_ret (v := .agg #[.bool true, .slice a1 T.length c1]) (by simp [results, Tryz.results52, go_sem, f1, f2]) rfl ⟨a1, c1, by rw [HS.out, HM.out, ← HT.out], by rw [HM.out, ← HT.out]; exact hn _ _⟩

set_option maxRecDepth 100000 in
set_option maxHeartbeats 1000000 in
theorem rcmp_any (a b : Option Addr) (n m cap cap' : Nat) (xs ys : List Nat) (w : World) (h : Rd w a cap xs) (h' : Rd w b cap' ys) (hl : xs.length = n) (hl' : ys.length = m) (hn : n ≤ 4000000000) (hm : m ≤ 4000000000)
    (ht : n = m ∨ (trimL xs = xs ∧ trimL ys = ys)) :
    Calls Tryz.prog 50 #[.slice a n cap, .slice b m cap'] w fun e w' => e = .returned (.int .i64 (cmpI (val xs) (val ys))) ∧ ∃ q, w.drewN q = w' := by
  have hlx := h.lim
  have hly := h'.lim
  by_cases hne : n = m
  · subst hne
    clear ht
    have HL := Lib.hid hl
    have HL' := Lib.hid hl'
    clear hl hl'
    go_enter Tryz.func50, Tryz.ntmps50
    go_wp2_with fail
    go_loopw [5] (fun i wr => ∃ k : Nat, k ≤ n ∧ i = .int .i64 ((k : Int) - 1) ∧ Hid (xs.drop k = ys.drop k) ∧ ∃ q, wr = w.drewN q) (fun i _ => (intOf i + 1).toNat)
    case atStart => exact ⟨n, Nat.le_refl _, rfl, by unfold Hid; rw [List.drop_of_length_le (by rw [HL.out]; omega), List.drop_of_length_le (by rw [HL'.out]; omega)], 0, rfl⟩
    case round =>
      obtain ⟨k, hk, rfl, hd, q, rfl⟩ := hrel
      by_cases h0 : 0 < k
      · obtain ⟨j, rfl⟩ : ∃ j, k = j + 1 := ⟨k - 1, by omega⟩
        obtain ⟨b1, o1, rfl, hc⟩ := h.cells j (by rw [HL.out]; omega)
        obtain ⟨b2, o2, rfl, hc'⟩ := h'.cells j (by rw [HL'.out]; omega)
        clear h h'
        have ej : ((j + 1 : Nat) : Int) - 1 = (j : Int) := by omega
        rw [ej]
        clear ej
        by_cases he : nth xs j = nth ys j
        · have hb : (nth xs j != nth ys j) = false := by simpa using he
          have HE := Lib.hid he
          clear he
          go_wp2_with fail
          go_quiet (fail)
          go_wp2_with fail
          go_roundw
          case rel =>
            refine ⟨j, by omega, by go_num, ?_, _, rfl⟩
            exact drop_eq_of j (by rw [HL.out]; omega) (by rw [HL.out, HL'.out]) hd (by have := HE.out; unfold nth at this; omega)
          case measure => simp [intOf]
        · have hb : (nth xs j != nth ys j) = true := by simpa using he
          have hs := sgn_top hlx hly (by rw [HL.out, HL'.out]) j (by rw [HL.out]; omega) hd.out he
          have HS := Lib.hid hs
          clear hs he
          by_cases hlt : nth xs j < nth ys j
          · have hdl : decide (nth xs j < nth ys j) = true := decide_eq_true hlt
            have hv : cmpI (val xs) (val ys) = -1 := by rw [← HS.out, hdl]; rfl
            have HV := Lib.hid hv
            clear hv hlt
            go_wp2_with fail
            go_quiet (fail)
            go_wp2_with fail
            go_quiet (fail)
            go_wp2_with fail
            go_ret
            refine ⟨by rw [HV.out]; rfl, ?_⟩
            rw [World.drewN_drewN, World.drewN_drewN]
            exact ⟨_, rfl⟩
          · have hdl : decide (nth xs j < nth ys j) = false := decide_eq_false hlt
            have hv : cmpI (val xs) (val ys) = 1 := by rw [← HS.out, hdl]; rfl
            have HV := Lib.hid hv
            clear hv hlt
            go_wp2_with fail
            go_quiet (fail)
            go_wp2_with fail
            go_quiet (fail)
            go_wp2_with fail
            go_ret
            refine ⟨by rw [HV.out]; rfl, ?_⟩
            rw [World.drewN_drewN, World.drewN_drewN]
            exact ⟨_, rfl⟩
      · obtain rfl : k = 0 := by omega
        have hv : xs = ys := by simpa using hd.out
        have HV := Lib.hid hv
        clear hv
        go_wp2_with fail
        go_ret
        exact ⟨by rw [HV.out]; simp [cmpI], _, rfl⟩
  · have hb : ((n : Int) != m) = true := by simp; omega
    obtain ⟨t1, t2⟩ : trimL xs = xs ∧ trimL ys = ys := by rcases ht with h | h; exact absurd h hne; exact h
    have hs := sgn_len hlx hly t1 t2 (by omega) (decide (n < m)) (by rw [hl, hl'])
    have HS := Lib.hid hs
    clear hs ht hl hl' h h' t1 t2
    by_cases hlt : n < m
    · have hv : cmpI (val xs) (val ys) = -1 := by rw [← HS.out, decide_eq_true hlt]; rfl
      have HV := Lib.hid hv
      clear hv
      go_enter Tryz.func50, Tryz.ntmps50
      go_wp2_with fail
      go_ret
      exact ⟨by rw [HV.out]; rfl, 0, rfl⟩
    · have hv : cmpI (val xs) (val ys) = 1 := by rw [← HS.out, decide_eq_false hlt]; rfl
      have HV := Lib.hid hv
      clear hv
      go_enter Tryz.func50, Tryz.ntmps50
      go_wp2_with fail
      go_ret
      exact ⟨by rw [HV.out]; rfl, 0, rfl⟩

theorem word_cells (w : World) (u : Nat) (o : Obj) (hl : Lim [u % 4294967296, u / 4294967296]) :
    Rd ((w.alloc o).alloc (.cells #[Value.int IntKind.u32 ((u : Int) % 4294967296), Value.int IntKind.u32 ((u : Int) / 4294967296)] 87)) (some ⟨w.heap.size + 1, 0, none⟩) 2 [u % 4294967296, u / 4294967296] := by
  have h := Own.made (w.alloc o) [u % 4294967296, u / 4294967296] hl
  rw [World.size_alloc] at h
  exact h.rd (by simp)

set_option maxRecDepth 100000 in
set_option maxHeartbeats 1000000 in
theorem word_any (neg : Bool) (u : Nat) (w : World) (h1 : u < 18446744073709551616) : Calls Tryz.prog 53 #[.bool neg, .int .u64 u] w (GivesInt w (if neg then -(u : Int) else (u : Int))) := by
  have hl : Lim [u % 4294967296, u / 4294967296] := (Lim.nil.cons (by omega)).cons (by omega)
  have hd : den neg [u % 4294967296, u / 4294967296] = if neg then -(u : Int) else (u : Int) := by
    have : val [u % 4294967296, u / 4294967296] = u := by simp [val]; omega
    unfold den; rw [this]
  have HD := Lib.hid hd
  have HU : u ≤ 18446744073709551615 := by omega
  clear hd h1
  cases neg
  all_goals
    go_enter Tryz.func53, Tryz.ntmps53
    go_wp2_with fail
    refine (make_any _ _ 2 2 [u % 4294967296, u / 4294967296] _ (word_cells w u _ hl) rfl (by omega)).mono ?_
    rintro e w1 ⟨a1, c1, rfl, hN1⟩
    rw [HD.out] at hN1
    rw [HD.out]
    have hN2 := New.before (w := w.alloc (Obj.cells #[Value.bool false, Value.slice none 0 0] 51)) ((Below.refl _ _).alloc (Nat.le_refl _) _) hN1
    clear hN1
    obtain ⟨f1, f2, f3, f4, f5⟩ := held2 hN2.below
    have hn := new_result hN2
    clear hN2
    go_wp2_with fail
    exact bodyPost_ret (v := _) (by simp [results, Tryz.results53, go_sem, f1, f2]) rfl ⟨a1, c1, rfl, hn _ _⟩

set_option maxRecDepth 100000 in
set_option maxHeartbeats 1000000 in
theorem rsmall_any (z : Int) (w : World) (h0 : -9223372036854775808 ≤ z) (h1 : z ≤ 9223372036854775807) :
    Calls Tryz.prog 28 #[.int .i64 z] w (GivesInt w z) := by
  go_enter Tryz.func28, Tryz.ntmps28
  by_cases hz : z < 0
  · go_wp2_with fail
    have e : IntKind.u64.wrap (-IntKind.u64.wrap z) = ((z.natAbs : Nat) : Int) := by rw [wrap_u64', wrap_u64']; omega
    rw [e]
    refine (word_any true z.natAbs _ (by omega)).mono ?_
    have e2 : (if true = true then -((z.natAbs : Nat) : Int) else ((z.natAbs : Nat) : Int)) = z := by simp; omega
    rw [e2]
    clear e e2
    rintro e w1 ⟨a1, c1, rfl, hN1⟩
    obtain ⟨f1, f2, f3, f4, f5⟩ := held2 hN1.below
    have hn := new_result hN1
    clear hN1
    go_wp2_with fail
    exact bodyPost_ret (v := _) (by simp [results, Tryz.results28, go_sem, f1, f2]) rfl ⟨a1, c1, rfl, hn _ _⟩
  · go_wp2_with fail
    have e : z = ((z.natAbs : Nat) : Int) := by omega
    generalize z.natAbs = u at e
    subst e
    refine (word_any false u _ (by omega)).mono ?_
    rintro e w1 ⟨a1, c1, rfl, hN1⟩
    obtain ⟨f1, f2, f3, f4, f5⟩ := held2 hN1.below
    have hn := new_result hN1
    clear hN1
    go_wp2_with fail
    exact bodyPost_ret (v := _) (by simp [results, Tryz.results28, go_sem, f1, f2]) rfl ⟨a1, c1, rfl, hn _ _⟩

end Go.Proofs.YtfpcfcegdjlggaaGreat
namespace Go.Proofs.YtfpcfcegdjlggaaGreat
open Go.RowKit

/-- A list of limbs of this value in memory of the call's own. -/
def GivesLimbs (w : World) (X L : Nat) (e : Ending) (w' : World) : Prop :=
  ∃ (zs : List Nat) (a : Option Addr) (cap : Nat), Hid (val zs = X) ∧ zs.length ≤ L ∧ e = .returned (.slice a zs.length cap) ∧ New w zs a cap w'

theorem u32s_snoc (zs : List Nat) (d : Nat) (v : Int) (h : v = (d : Int)) : u32s zs ++ [.int .u32 v] = u32s (zs ++ [d]) := by subst h; simp [u32s]

theorem sum_digit {xs ys : List Nat} {k : Nat} {zs : List Nat} {q : Nat} (hx : Lim xs) (hy : Lim ys) (h : AddInv xs ys k zs q) (v : Int) (hv : v = (q : Int) + nth xs k + nth ys k) :
    0 ≤ v ∧ v ≤ 8589934591 ∧ ∃ d q' : Nat, d ≤ 4294967295 ∧ q' ≤ 1 ∧ Hid (v % 4294967296 = (d : Int)) ∧ Hid (v / 4294967296 = (q' : Int)) ∧ Hid (AddInv xs ys (k + 1) (zs ++ [d]) q') := by
  have h1 := hx.getD k
  have h2 := hy.getD k
  have h3 := h.one
  have hs := h.step hx hy
  have he : v = ((xs.getD k 0 + ys.getD k 0 + q : Nat) : Int) := by rw [hv]; unfold nth; omega
  refine ⟨by omega, by omega, _, _, ?_, hs.one, ?_, ?_, hs⟩
  · omega
  · unfold Hid; omega
  · unfold Hid; omega

theorem nth_past (xs : List Nat) (k : Nat) (h : xs.length ≤ k) : nth xs k = 0 := by unfold nth; rw [getD_past xs k h]; rfl

set_option maxRecDepth 100000 in
set_option maxHeartbeats 2000000 in
theorem rsum_any (a b : Option Addr) (n m cap cap' : Nat) (xs ys : List Nat) (w : World) (rdx : Rd w a cap xs) (rdy : Rd w b cap' ys) (hl : xs.length = n) (hl' : ys.length = m) (hn : n ≤ 1000000000) (hm : m ≤ 1000000000) :
    Calls Tryz.prog 126 #[.slice a n cap, .slice b m cap'] w (GivesLimbs w (val xs + val ys) (max n m + 1)) := by
  obtain ⟨i0, hi, hz0, hz1, hz2⟩ := info_parts Tryz.infoU32
  have hlx := rdx.lim
  have hly := rdy.lim
  have hux := rdx.under
  have huy := rdy.under
  have HL := Lib.hid hl
  have HL' := Lib.hid hl'
  clear hl hl'
  obtain ⟨s, hs⟩ : ∃ s, s = max n m := ⟨_, rfl⟩
  rw [← hs]
  have hsn : n ≤ s := by omega
  have hsm : m ≤ s := by omega
  have hs4 : s ≤ 1000000000 := by omega
  have HS := Lib.hid hs
  clear hs
  go_enter Tryz.func126, Tryz.ntmps126
  go_wp2_with fail
  go_loopw [5, 6, 7] (fun tx c i wr => ∃ (k : Nat) (zs : List Nat) (q : Nat), k ≤ s ∧ i = .int .i64 k ∧ c = .int .u64 q ∧ AddInv xs ys k zs q ∧ wr.ownsRow w.heap.size 87 1 tx k (u32s zs) ∧ Below w.heap.size w wr) (fun _ _ i _ => s - (intOf i).toNat)
  case atStart => exact ⟨0, [], 0, by omega, rfl, rfl, AddInv.start xs ys, World.ownsRow_nil _ _ _ _, Below.refl _ _⟩
  case round =>
    obtain ⟨k, zs, q, hk, rfl, rfl, hI, hO, hB⟩ := hrel
    have hrx := rdx.belowU hux hB
    have hry := rdy.belowU huy hB
    have hbase := hB.size
    have g5 := hI.one
    by_cases hlt : k < s
    · have g1 := nth_ge xs k
      have g2 := nth_ge ys k
      have g3 := nth_le hlx k
      have g4 := nth_le hly k
      by_cases h1 : k < n
      · obtain ⟨bx, ox, rfl, hcx⟩ := hrx.cells k (by rw [HL.out]; exact h1)
        by_cases h2 : k < m
        · obtain ⟨by', oy, rfl, hcy⟩ := hry.cells k (by rw [HL'.out]; exact h2)
          obtain ⟨v0, v1, d, q', hd, hq', HD, HQ, HI2⟩ := sum_digit hlx hly hI ((q : Int) + nth xs k + nth ys k) rfl
          go_wp2_with (at_builtin; refine wpList_append_own _ rfl _ _ 49 rfl w.heap.size 87 i0 (.int .u32 0) 1 4 Tryz.underlying49 hi hz0 hz1 hz2 rfl (by decide) _ _ _ rfl (hO.alloc _) ⟨wr.heap.size, 0, none⟩ 1 1 [.int .u32 ?vv1] rfl rfl ?c1 ?c2 ?c3 ?c4 ?c5 ?_)
          case c1 => exact cell_one_new _ _ _
          case c2 => intro u hu; simp at hu; subst hu; rfl
          case c3 => unfold maxLen; omega
          case c4 => omega
          case c5 => simp; omega
          intro v' w1 hown1 hgrow1 _
          have hB2 := (hB.alloc (by omega) _).grown hgrow1 (by simp; omega) (fun z hz => ((hO.lt) z hz).1)
          rw [u32s_snoc zs d _ HD.out] at hown1
          clear hgrow1 hO hB hI hrx hry
          go_wp2_with fail
          go_roundw
          case rel => exact ⟨k + 1, zs ++ [d], q', by omega, by go_num, by rw [HQ.out], HI2.out, hown1, hB2⟩
          case measure => simp [intOf]; omega
        · have hy0 := nth_past ys k (by rw [HL'.out]; omega)
          obtain ⟨v0, v1, d, q', hd, hq', HD, HQ, HI2⟩ := sum_digit hlx hly hI ((q : Int) + nth xs k) (by omega)
          clear hy0
          go_wp2_with (at_builtin; refine wpList_append_own _ rfl _ _ 49 rfl w.heap.size 87 i0 (.int .u32 0) 1 4 Tryz.underlying49 hi hz0 hz1 hz2 rfl (by decide) _ _ _ rfl (hO.alloc _) ⟨wr.heap.size, 0, none⟩ 1 1 [.int .u32 ?vv2] rfl rfl ?c1 ?c2 ?c3 ?c4 ?c5 ?_)
          case c1 => exact cell_one_new _ _ _
          case c2 => intro u hu; simp at hu; subst hu; rfl
          case c3 => unfold maxLen; omega
          case c4 => omega
          case c5 => simp; omega
          intro v' w1 hown1 hgrow1 _
          have hB2 := (hB.alloc (by omega) _).grown hgrow1 (by simp; omega) (fun z hz => ((hO.lt) z hz).1)
          rw [u32s_snoc zs d _ HD.out] at hown1
          clear hgrow1 hO hB hI hrx hry
          go_wp2_with fail
          go_roundw
          case rel => exact ⟨k + 1, zs ++ [d], q', by omega, by go_num, by rw [HQ.out], HI2.out, hown1, hB2⟩
          case measure => simp [intOf]; omega
      · have h2 : k < m := by have := HS.out; omega
        obtain ⟨by', oy, rfl, hcy⟩ := hry.cells k (by rw [HL'.out]; exact h2)
        have hx0 := nth_past xs k (by rw [HL.out]; omega)
        obtain ⟨v0, v1, d, q', hd, hq', HD, HQ, HI2⟩ := sum_digit hlx hly hI ((q : Int) + nth ys k) (by omega)
        clear hx0
        go_wp2_with (at_builtin; refine wpList_append_own _ rfl _ _ 49 rfl w.heap.size 87 i0 (.int .u32 0) 1 4 Tryz.underlying49 hi hz0 hz1 hz2 rfl (by decide) _ _ _ rfl (hO.alloc _) ⟨wr.heap.size, 0, none⟩ 1 1 [.int .u32 ?vv3] rfl rfl ?c1 ?c2 ?c3 ?c4 ?c5 ?_)
        case c1 => exact cell_one_new _ _ _
        case c2 => intro u hu; simp at hu; subst hu; rfl
        case c3 => unfold maxLen; omega
        case c4 => omega
        case c5 => simp; omega
        intro v' w1 hown1 hgrow1 _
        have hB2 := (hB.alloc (by omega) _).grown hgrow1 (by simp; omega) (fun z hz => ((hO.lt) z hz).1)
        rw [u32s_snoc zs d _ HD.out] at hown1
        clear hgrow1 hO hB hI hrx hry
        go_wp2_with fail
        go_roundw
        case rel => exact ⟨k + 1, zs ++ [d], q', by omega, by go_num, by rw [HQ.out], HI2.out, hown1, hB2⟩
        case measure => simp [intOf]; omega
    · obtain rfl : k = s := by omega
      have hdn := hI.done (by rw [HL.out]; omega) (by rw [HL'.out]; omega)
      have hlen := hI.len
      have HDN := Lib.hid hdn
      have HLen := Lib.hid hlen
      clear hdn hlen hI hrx hry rdx rdy
      go_wp2_with (at_builtin; refine wpList_append_own _ rfl _ _ 49 rfl w.heap.size 87 i0 (.int .u32 0) 1 4 Tryz.underlying49 hi hz0 hz1 hz2 rfl (by decide) _ _ _ rfl (hO.alloc _) ⟨wr.heap.size, 0, none⟩ 1 1 [.int .u32 (q : Int)] rfl rfl ?c1 ?c2 ?c3 ?c4 ?c5 ?_)
      case c1 => exact cell_one_new _ _ _
      case c2 => intro u hu; simp at hu; subst hu; rfl
      case c3 => unfold maxLen; omega
      case c4 => omega
      case c5 => simp; omega
      intro v' w1 hown1 hgrow1 _
      have hB2 := (hB.alloc (by omega) _).grown hgrow1 (by simp; omega) (fun z hz => ((hO.lt) z hz).1)
      rw [u32s_snoc zs q _ rfl] at hown1
      obtain ⟨a9, c9, rfl, hN⟩ := new_of_row hB2 HDN.out.1 (by simpa [HLen.out] using hown1)
      clear hown1 hgrow1 hB2 hO hB
      go_wp2_with fail
      go_ret
      exact ⟨_, a9, c9, HDN.out.2, by simp [HLen.out], rfl, hN⟩

end Go.Proofs.YtfpcfcegdjlggaaGreat
namespace Go.Proofs.YtfpcfcegdjlggaaGreat
open Go.RowKit

theorem wrap_sub {x u : Int} (h0 : 0 ≤ x) (h1 : x ≤ 4294967295) (h2 : x < u) (h3 : u ≤ 4294967296) : IntKind.u64.wrap (x - u) = x - u + 18446744073709551616 := by rw [IntKind.wrap_u64]; omega

theorem diff_digit {xs ys : List Nat} {k : Nat} {zs : List Nat} {q : Nat} (hx : Lim xs) (hy : Lim ys) (h : SubInv xs ys k zs q) (u : Int) (hu : u = (q : Int) + nth ys k) :
    0 ≤ u ∧ u ≤ 4294967296 ∧ ((u ≤ nth xs k ∧ ∃ d : Nat, d ≤ 4294967295 ∧ Hid (nth xs k - u = (d : Int)) ∧ Hid (SubInv xs ys (k + 1) (zs ++ [d]) 0)) ∨
      (nth xs k < u ∧ ∃ D : Int, IntKind.u64.wrap (nth xs k - u) = D ∧ 0 ≤ D ∧ D ≤ 18446744073709551615 ∧ ∃ d : Nat, d ≤ 4294967295 ∧ Hid (D % 4294967296 = (d : Int)) ∧ Hid (SubInv xs ys (k + 1) (zs ++ [d]) 1))) := by
  have h1 := hx.getD k
  have h2 := hy.getD k
  have h3 := h.one
  have n1 : nth xs k = ((xs.getD k 0 : Nat) : Int) := rfl
  have n2 : nth ys k = ((ys.getD k 0 : Nat) : Int) := rfl
  refine ⟨by omega, by omega, ?_⟩
  by_cases hle : u ≤ nth xs k
  · refine .inl ⟨hle, _, ?_, ?_, h.step_no hx (by omega)⟩
    · omega
    · unfold Hid; omega
  · refine .inr ⟨by omega, _, wrap_sub (by omega) (by omega) (by omega) (by omega), by omega, by omega, _, ?_, ?_, h.step_yes hx hy (by omega)⟩
    · omega
    · unfold Hid; omega

structure DblInv (xs : List Nat) (bit k : Nat) (zs : List Nat) (c : Nat) : Prop where
  len : zs.length = k
  lim : Lim zs
  one : c ≤ 1
  eq : val zs + 4294967296 ^ k * c = 2 * val (xs.take k) + bit

theorem DblInv.start (xs : List Nat) (bit : Nat) (hb : bit ≤ 1) : DblInv xs bit 0 [] bit := ⟨rfl, Lim.nil, hb, by simp [val]⟩

theorem or_bit {x c : Int} (_h0 : 0 ≤ x) (_h1 : x ≤ 4294967295) (hc : 0 ≤ c) (hc1 : c ≤ 1) : bits .or .u32 (x * 2 % 4294967296) c = x * 2 % 4294967296 + c := by
  rw [u32_or _ _ (by omega) (by omega) hc (by omega)]
  have e : (x * 2 % 4294967296).toNat = 2 ^ 1 * (x * 2 % 4294967296 / 2).toNat := by omega
  rw [e, ← Nat.two_pow_add_eq_or_of_lt (by omega : c.toNat < 2 ^ 1)]
  omega

theorem dbl_digit {xs : List Nat} {bit k : Nat} {zs : List Nat} {c : Nat} (hx : Lim xs) (h : DblInv xs bit k zs c) :
    ∃ d c' : Nat, d ≤ 4294967295 ∧ c' ≤ 1 ∧ Hid (bits .or .u32 (nth xs k * 2 % 4294967296) (c : Int) = (d : Int)) ∧ Hid (nth xs k / 2147483648 = (c' : Int)) ∧ Hid (DblInv xs bit (k + 1) (zs ++ [d]) c') := by
  have h1 := hx.getD k
  have h3 := h.one
  have n1 : nth xs k = ((xs.getD k 0 : Nat) : Int) := rfl
  refine ⟨xs.getD k 0 * 2 % 4294967296 + c, xs.getD k 0 / 2147483648, by omega, by omega, ?_, ?_, ?_, ?_, ?_, ?_⟩
  · unfold Hid; rw [or_bit (by omega) (by omega) (by omega) (by omega), n1]; omega
  · unfold Hid; omega
  · simp [h.len]
  · exact h.lim.append (Lim.nil.cons (by omega))
  · omega
  · have e := h.eq
    rw [val_snoc, h.len, val_take_step xs, Nat.pow_succ]
    have hm := mul_digit (4294967296 ^ k) (xs.getD k 0 * 2)
    have hd : xs.getD k 0 * 2 / 4294967296 = xs.getD k 0 / 2147483648 := by omega
    rw [hd] at hm
    rw [Nat.mul_add, Nat.mul_add]
    have h4 : 4294967296 ^ k * (xs.getD k 0 * 2) = 2 * (4294967296 ^ k * xs.getD k 0) := by rw [← Nat.mul_assoc, Nat.mul_comm]
    omega

theorem DblInv.done {xs : List Nat} {bit n : Nat} {zs : List Nat} {c : Nat} (h : DblInv xs bit n zs c) (hn : xs.length = n) : Lim (zs ++ [c]) ∧ val (zs ++ [c]) = 2 * val xs + bit := by
  have h3 := h.one
  refine ⟨h.lim.append (Lim.nil.cons (by omega)), ?_⟩
  have e := h.eq
  rw [List.take_of_length_le (by omega)] at e
  rw [val_snoc, h.len, e]

set_option maxRecDepth 100000 in
set_option maxHeartbeats 2000000 in
theorem rdiff_any (a b : Option Addr) (n m cap cap' : Nat) (xs ys : List Nat) (w : World) (rdx : Rd w a cap xs) (rdy : Rd w b cap' ys) (hl : xs.length = n) (hl' : ys.length = m) (hn : n ≤ 1000000000) (_hm : m ≤ 1000000000) (hle : val ys ≤ val xs) :
    Calls Tryz.prog 127 #[.slice a n cap, .slice b m cap'] w (GivesLimbs w (val xs - val ys) n) := by
  obtain ⟨i0, hi, hz0, hz1, hz2⟩ := info_parts Tryz.infoU32
  have hlx := rdx.lim
  have hly := rdy.lim
  have hux := rdx.under
  have huy := rdy.under
  have HL := Lib.hid hl
  have HL' := Lib.hid hl'
  have HLE := Lib.hid hle
  clear hl hl' hle
  go_enter Tryz.func127, Tryz.ntmps127
  go_wp2_with fail
  go_loopw [5, 6, 7] (fun tx c i wr => ∃ (k : Nat) (zs : List Nat) (q : Nat), k ≤ n ∧ i = .int .i64 k ∧ c = .int .u64 q ∧ SubInv xs ys k zs q ∧ wr.ownsRow w.heap.size 87 1 tx k (u32s zs) ∧ Below w.heap.size w wr) (fun _ _ i _ => n - (intOf i).toNat)
  case atStart => exact ⟨0, [], 0, by omega, rfl, rfl, SubInv.start xs ys, World.ownsRow_nil _ _ _ _, Below.refl _ _⟩
  case round =>
    obtain ⟨k, zs, q, hk, rfl, rfl, hI, hO, hB⟩ := hrel
    have hrx := rdx.belowU hux hB
    have hry := rdy.belowU huy hB
    have hbase := hB.size
    have g5 := hI.one
    by_cases h1 : k < n
    · have g1 := nth_ge xs k
      have g2 := nth_ge ys k
      have g3 := nth_le hlx k
      have g4 := nth_le hly k
      obtain ⟨bx, ox, rfl, hcx⟩ := hrx.cells k (by rw [HL.out]; exact h1)
      by_cases h2 : k < m
      · obtain ⟨by', oy, rfl, hcy⟩ := hry.cells k (by rw [HL'.out]; exact h2)
        obtain ⟨v0, v1, hcase⟩ := diff_digit hlx hly hI ((q : Int) + nth ys k) rfl
        rcases hcase with ⟨hcmp, d, hd, HD, HI2⟩ | ⟨hcmp, D, hDw, hD0, hD1, d, hd, HD, HI2⟩
        · have HQ : Hid ((0 : Int) = ((0 : Nat) : Int)) := rfl
          go_wp2_with (at_builtin; refine wpList_append_own _ rfl _ _ 49 rfl w.heap.size 87 i0 (.int .u32 0) 1 4 Tryz.underlying49 hi hz0 hz1 hz2 rfl (by decide) _ _ _ rfl (hO.alloc _) ⟨wr.heap.size, 0, none⟩ 1 1 [.int .u32 ?vv1] rfl rfl ?c1 ?c2 ?c3 ?c4 ?c5 ?_)
          case c1 => exact cell_one_new _ _ _
          case c2 => intro u hu; simp at hu; subst hu; rfl
          case c3 => unfold maxLen; omega
          case c4 => omega
          case c5 => simp; omega
          intro v' w1 hown1 hgrow1 _
          have hB2 := (hB.alloc (by omega) _).grown hgrow1 (by simp; omega) (fun z hz => ((hO.lt) z hz).1)
          rw [u32s_snoc zs d _ HD.out] at hown1
          obtain ⟨bz, oz, ez, hcz⟩ := (rdx.belowU hux hB2).cells k (by rw [HL.out]; exact h1)
          simp only [Option.some.injEq, Addr.mk.injEq, and_true] at ez
          obtain ⟨rfl, rfl⟩ := ez
          clear hgrow1 hO hB hI hrx hry
          go_wp2_with fail
          go_roundw
          case rel => exact ⟨k + 1, zs ++ [d], 0, by omega, by go_num, rfl, HI2.out, hown1, hB2⟩
          case measure => simp [intOf]; omega
        · have HQ : Hid ((1 : Int) = ((1 : Nat) : Int)) := rfl
          go_wp2_with (at_builtin; refine wpList_append_own _ rfl _ _ 49 rfl w.heap.size 87 i0 (.int .u32 0) 1 4 Tryz.underlying49 hi hz0 hz1 hz2 rfl (by decide) _ _ _ rfl (hO.alloc _) ⟨wr.heap.size, 0, none⟩ 1 1 [.int .u32 ?vv2] rfl rfl ?c1 ?c2 ?c3 ?c4 ?c5 ?_)
          case c1 => exact cell_one_new _ _ _
          case c2 => intro u hu; simp at hu; subst hu; rfl
          case c3 => unfold maxLen; omega
          case c4 => omega
          case c5 => simp; omega
          intro v' w1 hown1 hgrow1 _
          have hB2 := (hB.alloc (by omega) _).grown hgrow1 (by simp; omega) (fun z hz => ((hO.lt) z hz).1)
          rw [u32s_snoc zs d _ HD.out] at hown1
          obtain ⟨bz, oz, ez, hcz⟩ := (rdx.belowU hux hB2).cells k (by rw [HL.out]; exact h1)
          simp only [Option.some.injEq, Addr.mk.injEq, and_true] at ez
          obtain ⟨rfl, rfl⟩ := ez
          clear hgrow1 hO hB hI hrx hry
          go_wp2_with fail
          go_roundw
          case rel => exact ⟨k + 1, zs ++ [d], 1, by omega, by go_num, rfl, HI2.out, hown1, hB2⟩
          case measure => simp [intOf]; omega
      · have hy0 := nth_past ys k (by rw [HL'.out]; omega)
        obtain ⟨v0, v1, hcase⟩ := diff_digit hlx hly hI (q : Int) (by omega)
        clear hy0
        rcases hcase with ⟨hcmp, d, hd, HD, HI2⟩ | ⟨hcmp, D, hDw, hD0, hD1, d, hd, HD, HI2⟩
        · have HQ : Hid ((0 : Int) = ((0 : Nat) : Int)) := rfl
          go_wp2_with (at_builtin; refine wpList_append_own _ rfl _ _ 49 rfl w.heap.size 87 i0 (.int .u32 0) 1 4 Tryz.underlying49 hi hz0 hz1 hz2 rfl (by decide) _ _ _ rfl (hO.alloc _) ⟨wr.heap.size, 0, none⟩ 1 1 [.int .u32 ?vv3] rfl rfl ?c1 ?c2 ?c3 ?c4 ?c5 ?_)
          case c1 => exact cell_one_new _ _ _
          case c2 => intro u hu; simp at hu; subst hu; rfl
          case c3 => unfold maxLen; omega
          case c4 => omega
          case c5 => simp; omega
          intro v' w1 hown1 hgrow1 _
          have hB2 := (hB.alloc (by omega) _).grown hgrow1 (by simp; omega) (fun z hz => ((hO.lt) z hz).1)
          rw [u32s_snoc zs d _ HD.out] at hown1
          obtain ⟨bz, oz, ez, hcz⟩ := (rdx.belowU hux hB2).cells k (by rw [HL.out]; exact h1)
          simp only [Option.some.injEq, Addr.mk.injEq, and_true] at ez
          obtain ⟨rfl, rfl⟩ := ez
          clear hgrow1 hO hB hI hrx hry
          go_wp2_with fail
          go_roundw
          case rel => exact ⟨k + 1, zs ++ [d], 0, by omega, by go_num, rfl, HI2.out, hown1, hB2⟩
          case measure => simp [intOf]; omega
        · have HQ : Hid ((1 : Int) = ((1 : Nat) : Int)) := rfl
          go_wp2_with (at_builtin; refine wpList_append_own _ rfl _ _ 49 rfl w.heap.size 87 i0 (.int .u32 0) 1 4 Tryz.underlying49 hi hz0 hz1 hz2 rfl (by decide) _ _ _ rfl (hO.alloc _) ⟨wr.heap.size, 0, none⟩ 1 1 [.int .u32 ?vv4] rfl rfl ?c1 ?c2 ?c3 ?c4 ?c5 ?_)
          case c1 => exact cell_one_new _ _ _
          case c2 => intro u hu; simp at hu; subst hu; rfl
          case c3 => unfold maxLen; omega
          case c4 => omega
          case c5 => simp; omega
          intro v' w1 hown1 hgrow1 _
          have hB2 := (hB.alloc (by omega) _).grown hgrow1 (by simp; omega) (fun z hz => ((hO.lt) z hz).1)
          rw [u32s_snoc zs d _ HD.out] at hown1
          obtain ⟨bz, oz, ez, hcz⟩ := (rdx.belowU hux hB2).cells k (by rw [HL.out]; exact h1)
          simp only [Option.some.injEq, Addr.mk.injEq, and_true] at ez
          obtain ⟨rfl, rfl⟩ := ez
          clear hgrow1 hO hB hI hrx hry
          go_wp2_with fail
          go_roundw
          case rel => exact ⟨k + 1, zs ++ [d], 1, by omega, by go_num, rfl, HI2.out, hown1, hB2⟩
          case measure => simp [intOf]; omega
    · obtain rfl : k = n := by omega
      have hdn := hI.done hlx HL.out HLE.out
      have hlen := hI.len
      have hlz := hI.lim
      have HDN := Lib.hid hdn.2
      have HLen := Lib.hid hlen
      obtain ⟨a9, c9, rfl, hN⟩ := new_of_row hB hlz (by simpa [hlen] using hO)
      clear hdn hlen hI hrx hry rdx rdy hO hB
      go_wp2_with fail
      go_ret
      exact ⟨_, a9, c9, HDN.out, by simp [HLen.out], rfl, hN⟩

set_option maxRecDepth 100000 in
set_option maxHeartbeats 2000000 in
theorem rdouble_any (a : Option Addr) (n cap bit : Nat) (xs : List Nat) (w : World) (rdx : Rd w a cap xs) (hl : xs.length = n) (hn : n ≤ 1000000000) (hbit : bit ≤ 1) :
    Calls Tryz.prog 150 #[.slice a n cap, .int .u32 bit] w (GivesLimbs w (2 * val xs + bit) (n + 1)) := by
  obtain ⟨i0, hi, hz0, hz1, hz2⟩ := info_parts Tryz.infoU32
  have hlx := rdx.lim
  have hux := rdx.under
  have HL := Lib.hid hl
  clear hl
  go_enter Tryz.func150, Tryz.ntmps150
  go_wp2_with fail
  go_loopw [1, 5, 10] (fun c tx i wr => ∃ (k : Nat) (zs : List Nat) (q : Nat), k ≤ n ∧ i = .int .i64 k ∧ c = .int .u32 q ∧ DblInv xs bit k zs q ∧ wr.ownsRow w.heap.size 87 1 tx k (u32s zs) ∧ Below w.heap.size w wr) (fun _ _ i _ => n - (intOf i).toNat)
  case atStart => exact ⟨0, [], bit, by omega, rfl, rfl, DblInv.start xs bit hbit, World.ownsRow_nil _ _ _ _, Below.refl _ _⟩
  case round =>
    obtain ⟨k, zs, q, hk, rfl, rfl, hI, hO, hB⟩ := hrel
    have hrx := rdx.belowU hux hB
    have hbase := hB.size
    have g5 := hI.one
    by_cases h1 : k < n
    · have g1 := nth_ge xs k
      have g3 := nth_le hlx k
      obtain ⟨bx, ox, rfl, hcx⟩ := hrx.cells k (by rw [HL.out]; exact h1)
      obtain ⟨d, q', hd, hq', HD, HQ, HI2⟩ := dbl_digit hlx hI
      go_wp2_with (at_builtin; refine wpList_append_own _ rfl _ _ 49 rfl w.heap.size 87 i0 (.int .u32 0) 1 4 Tryz.underlying49 hi hz0 hz1 hz2 rfl (by decide) _ _ _ rfl (hO.alloc _) ⟨wr.heap.size, 0, none⟩ 1 1 [.int .u32 ?vv5] rfl rfl ?c1 ?c2 ?c3 ?c4 ?c5 ?_)
      case c1 => exact cell_one_new _ _ _
      case c2 => intro u hu; simp at hu; subst hu; rfl
      case c3 => unfold maxLen; omega
      case c4 => omega
      case c5 => simp; omega
      intro v' w1 hown1 hgrow1 _
      have hB2 := (hB.alloc (by omega) _).grown hgrow1 (by simp; omega) (fun z hz => ((hO.lt) z hz).1)
      rw [u32s_snoc zs d _ HD.out] at hown1
      clear hgrow1 hO hB hI hrx
      go_wp2_with fail
      go_roundw
      case rel => exact ⟨k + 1, zs ++ [d], q', by omega, by go_num, by rw [HQ.out], HI2.out, hown1, hB2⟩
      case measure => simp [intOf]; omega
    · obtain rfl : k = n := by omega
      have hdn := hI.done HL.out
      have hlen := hI.len
      have HDN := Lib.hid hdn
      have HLen := Lib.hid hlen
      clear hdn hlen hI hrx rdx
      go_wp2_with (at_builtin; refine wpList_append_own _ rfl _ _ 49 rfl w.heap.size 87 i0 (.int .u32 0) 1 4 Tryz.underlying49 hi hz0 hz1 hz2 rfl (by decide) _ _ _ rfl (hO.alloc _) ⟨wr.heap.size, 0, none⟩ 1 1 [.int .u32 (q : Int)] rfl rfl ?c1 ?c2 ?c3 ?c4 ?c5 ?_)
      case c1 => exact cell_one_new _ _ _
      case c2 => intro u hu; simp at hu; subst hu; rfl
      case c3 => unfold maxLen; omega
      case c4 => omega
      case c5 => simp; omega
      intro v' w1 hown1 hgrow1 _
      have hB2 := (hB.alloc (by omega) _).grown hgrow1 (by simp; omega) (fun z hz => ((hO.lt) z hz).1)
      rw [u32s_snoc zs q _ rfl] at hown1
      obtain ⟨a9, c9, rfl, hN⟩ := new_of_row hB2 HDN.out.1 (by simpa [HLen.out] using hown1)
      clear hown1 hgrow1 hB2 hO hB
      go_wp2_with fail
      go_ret
      exact ⟨_, a9, c9, HDN.out.2, by simp [HLen.out], rfl, hN⟩
end Go.Proofs.YtfpcfcegdjlggaaGreat
namespace Go.Proofs.YtfpcfcegdjlggaaGreat
open Go.RowKit

theorem low_zero {xs : List Nat} (h : 0 < xs.length) : ((val (xs.take 1) : Nat) : Int) = nth xs 0 := by
  have e := val_take_succ xs 0 h
  rw [List.take_zero, val_nil, Nat.pow_zero, Nat.one_mul, Nat.zero_add] at e
  unfold nth; omega
theorem low_one {xs : List Nat} (h : 1 < xs.length) : ((val (xs.take 2) : Nat) : Int) = nth xs 0 + nth xs 1 * 4294967296 := by
  have e : val (xs.take 2) = val (xs.take 1) + 4294967296 ^ 1 * xs.getD 1 0 := val_take_succ xs 1 h
  have e0 := low_zero (xs := xs) (by omega)
  rw [Nat.pow_one] at e
  unfold nth at *; omega

set_option maxRecDepth 100000 in
set_option maxHeartbeats 1000000 in
theorem low_any (a : Option Addr) (n cap : Nat) (xs : List Nat) (w : World) (rdx : Rd w a cap xs) (hl : xs.length = n) (hn : n ≤ 1000000000) :
    Calls Tryz.prog 111 #[.slice a n cap] w fun e w' => e = .returned (.int .u64 ((val (xs.take 2) : Nat) : Int)) ∧ ∃ q, w.drewN q = w' := by
  have hlx := rdx.lim
  have HL := Lib.hid hl
  clear hl
  go_enter Tryz.func111, Tryz.ntmps111
  go_wp2_with fail
  go_loopw [3, 4] (fun uu i wr => ∃ (k : Nat) (j u : Int), k ≤ n ∧ k ≤ 2 ∧ i = .int .i64 j ∧ Hid (j = (k : Int)) ∧ uu = .int .u64 u ∧ Hid (u = ((val (xs.take k) : Nat) : Int)) ∧ ∃ q, wr = w.drewN q) (fun _ i _ => 2 - (intOf i).toNat)
  case atStart => exact ⟨0, 0, 0, by omega, by omega, rfl, rfl, rfl, rfl, 0, rfl⟩
  case round =>
    obtain ⟨k, j, u, hk, hk2, rfl, hj, rfl, hu, q, rfl⟩ := hrel
    by_cases h2 : k = 2
    · subst h2
      obtain rfl : j = 2 := hj.out
      go_wp2_with fail
      all_goals
        go_ret
        exact ⟨by rw [hu.out]; rfl, _, rfl⟩
    · by_cases hlt : k < n
      · obtain ⟨bx, ox, rfl, hcx⟩ := rdx.cells k (by rw [HL.out]; exact hlt)
        have g1 := nth_ge xs k
        have g2 := nth_le hlx k
        by_cases h0 : k = 0
        · subst h0
          obtain rfl : u = 0 := hu.out
          obtain rfl : j = 0 := hj.out
          rw [Nat.add_zero] at hcx
          have hor : bits .or .u64 (0 : Int) (nth xs 0) = nth xs 0 := by
            rw [u64_or _ _ (by omega) (by omega) (by omega) (by omega)]
            simp; omega
          have hv := low_zero (xs := xs) (by rw [HL.out]; exact hlt)
          have HV := Lib.hid hv
          clear hv
          go_wp2_with fail
          go_roundw
          case rel => exact ⟨1, 1, nth xs 0, by omega, by omega, by go_num, rfl, by go_num, HV.out.symm, q, rfl⟩
          case measure => simp [intOf]
        · obtain rfl : k = 1 := by omega
          have hu0 : u = nth xs 0 := by rw [hu.out]; exact low_zero (by rw [HL.out]; omega)
          subst hu0
          obtain rfl : j = 1 := hj.out
          have g3 := nth_ge xs 0
          have g4 := nth_le hlx 0
          have hor : bits .or .u64 (nth xs 0) (nth xs 1 * 4294967296) = nth xs 0 + nth xs 1 * 4294967296 := or_join64 _ _ g3 (by omega) g1 (by omega)
          have hv := low_one (xs := xs) (by rw [HL.out]; exact hlt)
          have HV := Lib.hid hv
          clear hv
          go_wp2_with fail
          go_roundw
          case rel => exact ⟨2, 2, nth xs 0 + nth xs 1 * 4294967296, by omega, by omega, by go_num, rfl, by go_num, HV.out.symm, q, rfl⟩
          case measure => simp [intOf]
      · obtain rfl : k = n := by omega
        obtain rfl : j = (k : Int) := hj.out
        have hv : u = ((val (xs.take 2) : Nat) : Int) := by rw [hu.out, List.take_of_length_le (by rw [HL.out]; omega), List.take_of_length_le (by rw [HL.out]; omega)]
        have HV := Lib.hid hv
        clear hv hu
        go_wp2_with fail
        go_ret
        exact ⟨by rw [← HV.out]; rfl, _, rfl⟩

set_option maxRecDepth 100000 in
set_option maxHeartbeats 1000000 in
theorem rint64_any (neg : Bool) (a : Option Addr) (n cap : Nat) (xs : List Nat) (w : World) (rdx : Rd w a cap xs) (hl : xs.length = n) (hn : n ≤ 1000000000) :
    Calls Tryz.prog 80 #[.agg #[.bool neg, .slice a n cap]] w fun e w' => e = .returned (.tuple #[.int .i64 (to64 (den neg xs)), .bool (in64 (den neg xs))]) ∧ Below w.heap.size w w' := by
  have hr1 := rdx.alloc (.cells #[.bool neg, .slice a n cap] 51)
  have hlx := rdx.lim
  have hv := val_trimL hlx
  have hvl := val_trim_len hlx
  have hv2 := fun h => (two_of_short hr1.trim.lim h).2
  obtain ⟨X, hX⟩ : ∃ X, X = trimL xs := ⟨_, rfl⟩
  rw [← hX] at hv hvl hv2
  have HL := Lib.hid hl
  have HX := Lib.hid hX
  have HV := Lib.hid hv
  clear hX hl hv
  by_cases h2 : X.length ≤ 2
  · have hu := hv2 h2
    rw [HV.out] at hu
    clear hvl hv2
    have htk : X.take 2 = X := List.take_of_length_le h2
    obtain ⟨u, hu2⟩ : ∃ u, u = val xs := ⟨_, rfl⟩
    have hd : den neg xs = if neg then -(u : Int) else (u : Int) := by rw [hu2]; rfl
    have hXu : val (X.take 2) = u := by rw [htk, HV.out, hu2]
    rw [hd]
    rw [← hu2] at hu
    have HXU := Lib.hid hXu
    have hf : decide ((2 : Int) < (X.length : Int)) = false := decide_eq_false (by omega)
    have hu3 : u ≤ 18446744073709551615 := by omega
    have H2 := Lib.hid h2
    clear hu2 hd hXu hu htk h2
    cases neg
    · by_cases hc : u ≤ 9223372036854775807
      · have hin : in64 (if false then -(u : Int) else (u : Int)) = true := in64_yes (by simp; omega)
        have ht : to64 (if false then -(u : Int) else (u : Int)) = u := by unfold to64; rw [hin]; rfl
        rw [hin, ht]
        have hcb : decide ((u : Int) < 9223372036854775808) = true := decide_eq_true (by omega)
        have HC := Lib.hid hc
        have HU3 := Lib.hid hu3
        clear hin ht hc hu3
        go_enter Tryz.func80, Tryz.ntmps80
        go_wp2_with fail
        refine (rtrim_any _ n _ xs _ hr1 HL.out (by omega)).mono ?_
        rintro e w1 ⟨a1, c1, rfl, hN1⟩
        rw [← HX.out] at hN1
        rw [← HX.out]
        obtain ⟨f1, f2, f3, f4, f5⟩ := held2 hN1.below
        have hrx := hN1.rd
        have hB := ((Below.refl w.heap.size w).alloc (Nat.le_refl _) _).trans (hN1.below.mono (by simp))
        clear hN1
        go_wp2_with fail
        refine (low_any a1 _ c1 X _ hrx rfl (by rw [HX.out]; exact Nat.le_trans (length_trimL_le xs) (by rw [HL.out]; omega))).mono ?_
        rintro e w2 ⟨rfl, q, rfl⟩
        rw [HXU.out]
        go_wp2_with fail
        go_ret2
        have hw : wrap64 (u : Int) = (u : Int) := by unfold wrap64; have := HC.out; omega
        exact ⟨by show Ending.returned (.tuple #[.int .i64 (wrap64 (u : Int)), .bool true]) = _; rw [hw], below_drewN hB q⟩
      · replace hc : 9223372036854775808 ≤ u := by omega
        have hin : in64 (if false then -(u : Int) else (u : Int)) = false := in64_no (by simp; omega)
        have ht : to64 (if false then -(u : Int) else (u : Int)) = 0 := by unfold to64; rw [hin]; rfl
        rw [hin, ht]
        have hcb : decide ((u : Int) < 9223372036854775808) = false := decide_eq_false (by omega)
        have HC := Lib.hid hc
        have HU3 := Lib.hid hu3
        clear hin ht hc hu3
        go_enter Tryz.func80, Tryz.ntmps80
        go_wp2_with fail
        refine (rtrim_any _ n _ xs _ hr1 HL.out (by omega)).mono ?_
        rintro e w1 ⟨a1, c1, rfl, hN1⟩
        rw [← HX.out] at hN1
        rw [← HX.out]
        obtain ⟨f1, f2, f3, f4, f5⟩ := held2 hN1.below
        have hrx := hN1.rd
        have hB := ((Below.refl w.heap.size w).alloc (Nat.le_refl _) _).trans (hN1.below.mono (by simp))
        clear hN1
        go_wp2_with fail
        refine (low_any a1 _ c1 X _ hrx rfl (by rw [HX.out]; exact Nat.le_trans (length_trimL_le xs) (by rw [HL.out]; omega))).mono ?_
        rintro e w2 ⟨rfl, q, rfl⟩
        rw [HXU.out]
        go_wp2_with fail
        go_ret2
        exact ⟨rfl, below_drewN hB q⟩
    · by_cases hc : u ≤ 9223372036854775808
      · have hin : in64 (if true then -(u : Int) else (u : Int)) = true := in64_yes (by simp; omega)
        have ht : to64 (if true then -(u : Int) else (u : Int)) = -(u : Int) := by unfold to64; rw [hin]; rfl
        have hw : wrap64 (IntKind.u64.wrap (-(u : Int))) = -(u : Int) := by unfold wrap64; rw [wrap_u64']; omega
        rw [hin, ht]
        have hcb : decide ((u : Int) ≤ 9223372036854775808) = true := decide_eq_true (by omega)
        have HW := Lib.hid hw
        clear hin ht hw hc
        go_enter Tryz.func80, Tryz.ntmps80
        go_wp2_with fail
        refine (rtrim_any _ n _ xs _ hr1 HL.out (by omega)).mono ?_
        rintro e w1 ⟨a1, c1, rfl, hN1⟩
        rw [← HX.out] at hN1
        rw [← HX.out]
        obtain ⟨f1, f2, f3, f4, f5⟩ := held2 hN1.below
        have hrx := hN1.rd
        have hB := ((Below.refl w.heap.size w).alloc (Nat.le_refl _) _).trans (hN1.below.mono (by simp))
        clear hN1
        go_wp2_with fail
        refine (low_any a1 _ c1 X _ hrx rfl (by rw [HX.out]; exact Nat.le_trans (length_trimL_le xs) (by rw [HL.out]; omega))).mono ?_
        rintro e w2 ⟨rfl, q, rfl⟩
        rw [HXU.out]
        go_wp2_with fail
        go_ret2
        exact ⟨by show Ending.returned (.tuple #[.int .i64 (wrap64 (IntKind.u64.wrap (-(u : Int)))), .bool true]) = _; rw [HW.out], below_drewN hB q⟩
      · replace hc : 9223372036854775809 ≤ u := by omega
        have hin : in64 (if true then -(u : Int) else (u : Int)) = false := in64_no (by simp; omega)
        have ht : to64 (if true then -(u : Int) else (u : Int)) = 0 := by unfold to64; rw [hin]; rfl
        rw [hin, ht]
        have hcb : decide ((u : Int) ≤ 9223372036854775808) = false := decide_eq_false (by omega)
        have HC := Lib.hid hc
        have HU3 := Lib.hid hu3
        clear hin ht hc hu3
        go_enter Tryz.func80, Tryz.ntmps80
        go_wp2_with fail
        refine (rtrim_any _ n _ xs _ hr1 HL.out (by omega)).mono ?_
        rintro e w1 ⟨a1, c1, rfl, hN1⟩
        rw [← HX.out] at hN1
        rw [← HX.out]
        obtain ⟨f1, f2, f3, f4, f5⟩ := held2 hN1.below
        have hrx := hN1.rd
        have hB := ((Below.refl w.heap.size w).alloc (Nat.le_refl _) _).trans (hN1.below.mono (by simp))
        clear hN1
        go_wp2_with fail
        refine (low_any a1 _ c1 X _ hrx rfl (by rw [HX.out]; exact Nat.le_trans (length_trimL_le xs) (by rw [HL.out]; omega))).mono ?_
        rintro e w2 ⟨rfl, q, rfl⟩
        rw [HXU.out]
        go_wp2_with fail
        go_ret2
        exact ⟨rfl, below_drewN hB q⟩
  · have hin : in64 (den neg xs) = false := by
      have := hvl h2
      refine in64_no ?_
      unfold den; cases neg <;> simp <;> omega
    have ht : to64 (den neg xs) = 0 := by unfold to64; rw [hin]; rfl
    have hf : decide ((2 : Int) < (X.length : Int)) = true := decide_eq_true (by omega)
    rw [hin, ht]
    clear hin ht hvl hv2 h2
    go_enter Tryz.func80, Tryz.ntmps80
    go_wp2_with fail
    refine (rtrim_any _ n _ xs _ hr1 HL.out (by omega)).mono ?_
    rintro e w1 ⟨a1, c1, rfl, hN1⟩
    rw [← HX.out] at hN1
    rw [← HX.out]
    obtain ⟨f1, f2, f3, f4, f5⟩ := held2 hN1.below
    have hrx := hN1.rd
    have hB := ((Below.refl w.heap.size w).alloc (Nat.le_refl _) _).trans (hN1.below.mono (by simp))
    clear hN1
    go_wp2_with fail
    refine (low_any a1 _ c1 X _ hrx rfl (by rw [HX.out]; exact Nat.le_trans (length_trimL_le xs) (by rw [HL.out]; omega))).mono ?_
    rintro e w2 ⟨rfl, q, rfl⟩
    go_wp2_with fail
    go_ret2
    exact ⟨rfl, below_drewN hB q⟩

end Go.Proofs.YtfpcfcegdjlggaaGreat
