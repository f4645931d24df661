/-
  The contracts of cmpLimbs, addLimbs, subLimbs.
-/
import Derived.Test.YtgnjjmbphangnaaDoorC
import Derived.BigQuiet
namespace Go.Proofs.YtgnjjmbphangnaaDoor
open Go.RowKit

/-- The order of two numbers as an int. -/
def cmpI (x y : Nat) : Int := if x < y then -1 else if y < x then 1 else 0

theorem sgn_len {xs ys : List Nat} (hx : Lim xs) (hy : Lim ys) (ht : trimL xs = xs) (ht' : trimL ys = ys) (hne : xs.length ≠ ys.length) (b : Bool) (hb : b = decide (xs.length < ys.length)) :
    sgn b = cmpI (val xs) (val ys) := by
  have e1 : limbs (val xs) = xs := by rw [limbs_val hx, ht]
  have e2 : limbs (val ys) = ys := by rw [limbs_val hy, ht']
  subst hb
  rcases Nat.lt_or_gt_of_ne hne with h | h
  · have := limbs_length_lt (m := val xs) (n := val ys) (by rw [e1, e2]; exact h)
    simp [sgn, cmpI, h, this]
  · have := limbs_length_lt (m := val ys) (n := val xs) (by rw [e1, e2]; exact h)
    have h' : ¬ xs.length < ys.length := by omega
    have h'' : ¬ val xs < val ys := by omega
    simp [sgn, cmpI, h', h'', this]

theorem sgn_top {xs ys : List Nat} (hx : Lim xs) (hy : Lim ys) (hl : xs.length = ys.length) (k : Nat) (hk : k < xs.length) (hd : xs.drop (k + 1) = ys.drop (k + 1)) (hne : nth xs k ≠ nth ys k) :
    sgn (decide (nth xs k < nth ys k)) = cmpI (val xs) (val ys) := by
  unfold nth at *
  rcases Nat.lt_or_gt_of_ne (show xs.getD k 0 ≠ ys.getD k 0 by omega) with h | h
  · have := val_lt_of_top hx hl k hk hd h
    have h' : ((xs.getD k 0 : Nat) : Int) < (ys.getD k 0 : Nat) := by omega
    rw [decide_eq_true h']
    simp [sgn, cmpI, this]
  · have := val_lt_of_top hy hl.symm k (by omega) hd.symm h
    have h' : ¬ ((xs.getD k 0 : Nat) : Int) < (ys.getD k 0 : Nat) := by omega
    have h'' : ¬ val xs < val ys := by omega
    rw [decide_eq_false h']
    simp [sgn, cmpI, h'', this]

set_option maxHeartbeats 1000000 in
theorem cmpLimbs_any (a b : Option Addr) (n m cap cap' : Nat) (xs ys : List Nat) (w : World) (h : Rd w a cap xs) (h' : Rd w b cap' ys) (hl : xs.length = n) (hl' : ys.length = m) (hn : n ≤ 4000000000) (hm : m ≤ 4000000000)
    (ht : trimL xs = xs) (ht' : trimL ys = ys) :
    Calls Tryd.prog 50 #[.slice a n cap, .slice b m cap'] w fun e w' => e = .returned (.int .i64 (cmpI (val xs) (val ys))) ∧ ∃ q, w.drewN q = w' := by
  have hlx := h.lim
  have hly := h'.lim
  by_cases hne : n = m
  · subst hne
    clear ht ht'
    have HL := Lib.hid hl
    have HL' := Lib.hid hl'
    clear hl hl'
    go_enter Tryd.func50, Tryd.ntmps50
    go_wp2_with fail
    go_loopw [5] (fun i wr => ∃ k : Nat, k ≤ n ∧ i = .int .i64 ((k : Int) - 1) ∧ Hid (xs.drop k = ys.drop k) ∧ ∃ q, wr = w.drewN q) (fun i _ => (intOf i + 1).toNat)
    case atStart => exact ⟨n, Nat.le_refl _, rfl, by unfold Hid; rw [List.drop_of_length_le (by rw [HL.out]; omega), List.drop_of_length_le (by rw [HL'.out]; omega)], 0, rfl⟩
    case round =>
      obtain ⟨k, hk, rfl, hd, q, rfl⟩ := hrel
      by_cases h0 : 0 < k
      · obtain ⟨j, rfl⟩ : ∃ j, k = j + 1 := ⟨k - 1, by omega⟩
        obtain ⟨b1, o1, rfl, hc⟩ := h.cells j (by rw [HL.out]; omega)
        obtain ⟨b2, o2, rfl, hc'⟩ := h'.cells j (by rw [HL'.out]; omega)
        clear h h'
        have ej : ((j + 1 : Nat) : Int) - 1 = (j : Int) := by omega
        rw [ej]
        clear ej
        by_cases he : nth xs j = nth ys j
        · have hb : (nth xs j != nth ys j) = false := by simpa using he
          have HE := Lib.hid he
          clear he
          go_wp2_with fail
          go_quiet (fail)
          go_wp2_with fail
          go_roundw
          case rel =>
            refine ⟨j, by omega, by go_num, ?_, _, rfl⟩
            exact drop_eq_of j (by rw [HL.out]; omega) (by rw [HL.out, HL'.out]) hd (by have := HE.out; unfold nth at this; omega)
          case measure => simp [intOf]
        · have hb : (nth xs j != nth ys j) = true := by simpa using he
          have hs := sgn_top hlx hly (by rw [HL.out, HL'.out]) j (by rw [HL.out]; omega) hd.out he
          have HS := Lib.hid hs
          clear hs he
          go_wp2_with fail
          go_quiet (fail)
          go_wp2_with fail
          go_quiet ((go_at_call 66; exact quiet_eq2 (order_any _ _)))
          go_wp2_with fail
          go_ret
          refine ⟨by rw [← HS.out]; rfl, ?_⟩
          rw [World.drewN_drewN, World.drewN_drewN]
          exact ⟨_, rfl⟩
      · obtain rfl : k = 0 := by omega
        have hv : xs = ys := by simpa using hd.out
        have HV := Lib.hid hv
        clear hv
        go_wp2_with fail
        go_ret
        exact ⟨by rw [HV.out]; simp [cmpI], _, rfl⟩
  · have hb : ((n : Int) != m) = true := by simp; omega
    have hs := sgn_len hlx hly ht ht' (by omega) (decide (n < m)) (by rw [hl, hl'])
    have HS := Lib.hid hs
    clear hs ht ht' hl hl' h h'
    go_enter Tryd.func50, Tryd.ntmps50
    go_wp2_with fail
    refine (order_any _ _).mono ?_
    rintro e w' ⟨rfl, rfl⟩
    go_wp2_with fail
    go_ret
    exact ⟨by rw [← HS.out]; rfl, 0, rfl⟩
end Go.Proofs.YtgnjjmbphangnaaDoor
