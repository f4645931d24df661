/-
  The contracts of inRange, isVector and Valid.
-/
import Derived.Test.YtdpgkegfkobdoaaYG
namespace Go.Proofs.Ytdpgkegfkobdoaa
open Go.RowKit

/-- All coordinates are within the limit. -/
def InR (xs : List Int) : Prop := ∀ i, i < xs.length → -1099511627776 ≤ xs.getD i 0 ∧ xs.getD i 0 ≤ 1099511627776
instance (xs : List Int) : Decidable (InR xs) := by unfold InR; infer_instance

set_option maxRecDepth 100000 in
set_option maxHeartbeats 1000000 in
theorem inRange_any (a : Option Addr) (n cap : Nat) (xs : List Int) (w : World) (hr : RdI w a cap xs) (hl : xs.length = n) (hn : n ≤ 100000000000000) :
    Calls Try.prog 21 #[.slice a n cap] w fun e w' => e = .returned (.bool (decide (InR xs))) ∧ w = w' := by
  have hc := hr.cells
  have hg := hr.get
  have HL := Lib.hid hl
  have HC := Lib.hid hc
  have HG := Lib.hid hg
  clear hr hl hc hg
  go_enter Try.func21, Try.ntmps21
  go_wp2
  go_loop [7] (fun ii => ∃ i : Nat, i ≤ n ∧ ii = .int .i64 (i : Int) ∧ Hid (∀ c, c < i → -1099511627776 ≤ xs.getD c 0 ∧ xs.getD c 0 ≤ 1099511627776)) (fun ii => n - (intOf ii).toNat)
  case atStart => exact ⟨0, by omega, rfl, fun c hc => by omega⟩
  case round =>
    obtain ⟨i, hin, rfl, hall⟩ := hrel
    by_cases hi : i < n
    · obtain ⟨b, o, rfl, hcell⟩ := HC.out i (by rw [HL.out]; exact hi)
      obtain ⟨x, hx⟩ : ∃ x, x = xs.getD i 0 := ⟨_, rfl⟩
      rw [← hx] at hcell
      have hno : ¬(-1099511627776 ≤ x ∧ x ≤ 1099511627776) → decide (InR xs) = false := fun h => decide_eq_false fun h2 => h (by rw [hx]; exact h2 i (by rw [HL.out]; exact hi))
      have HNO := Lib.hid hno
      have HX := Lib.hid hx
      clear hno hx
      by_cases h1 : x < -1099511627776
      · have d1 : decide (x < -1099511627776) = true := decide_eq_true h1
        have HE : Hid (decide (InR xs) = false) := HNO.out (by omega)
        clear h1
        go_wp2
        go_ret
        exact ⟨by rw [HE.out]; rfl, rfl⟩
      · have d1 : decide (x < -1099511627776) = false := decide_eq_false h1
        by_cases h2 : 1099511627776 < x
        · have d2 : decide (1099511627776 < x) = true := decide_eq_true h2
          have HE : Hid (decide (InR xs) = false) := HNO.out (by omega)
          clear h1 h2
          go_wp2
          go_ret
          exact ⟨by rw [HE.out]; rfl, rfl⟩
        · have d2 : decide (1099511627776 < x) = false := decide_eq_false h2
          have hnx : Hid (∀ c, c < i + 1 → -1099511627776 ≤ xs.getD c 0 ∧ xs.getD c 0 ≤ 1099511627776) := fun c hc => by
            by_cases e : c = i
            · rw [e, ← HX.out]; omega
            · exact hall.out c (by omega)
          clear h1 h2
          go_wp2
          go_round
          case rel => exact ⟨i + 1, by omega, by go_num, hnx⟩
          case measure => simp [intOf]; omega
    · obtain rfl : i = n := by omega
      have HE : Hid (decide (InR xs) = true) := decide_eq_true fun c hc => hall.out c (by rw [← HL.out]; exact hc)
      go_wp2
      go_ret
      exact ⟨by rw [HE.out]; rfl, rfl⟩

/-- xs is a vector of a form with n rows. -/
def IsVec (n : Nat) (xs : List Int) : Prop := xs.length = n ∧ InR xs
instance (n : Nat) (xs : List Int) : Decidable (IsVec n xs) := by unfold IsVec; infer_instance

set_option maxRecDepth 100000 in
set_option maxHeartbeats 1000000 in
theorem isVector_any (ah a : Option Addr) (nh caph n cap : Nat) (xs : List Int) (w : World) (hr : RdI w a cap xs) (hl : xs.length = n) (hn : n ≤ 100000000000000) (hnh : nh ≤ 100000000000000) :
    Calls Try.prog 41 #[.slice ah nh caph, .slice a n cap] w fun e w' => e = .returned (.bool (decide (IsVec nh xs))) ∧ w = w' := by
  by_cases h : n = nh
  · subst h
    have hE : decide (InR xs) = decide (IsVec n xs) := by simp [IsVec, hl]
    have HE := Lib.hid hE
    have HR := Lib.hid hr
    clear hE hr
    go_enter Try.func41, Try.ntmps41
    go_wp2_with fail
    refine (inRange_any a n cap xs _ HR.out hl hn).mono ?_
    rintro e w' ⟨rfl, rfl⟩
    rw [HE.out]
    go_wp2_with fail
    go_ret
    exact ⟨rfl, rfl⟩
  · have hE : decide (IsVec nh xs) = false := decide_eq_false fun h2 => h (by rw [← hl]; exact h2.1)
    have hne : (((n : Nat) : Int) == (nh : Int)) = false := by simp; omega
    rw [hE]
    clear hE h hr
    go_enter Try.func41, Try.ntmps41
    go_wp2_with fail
    go_ret
    exact ⟨rfl, rfl⟩

set_option maxRecDepth 100000 in
set_option maxHeartbeats 1000000 in
theorem valid_any (ah a : Option Addr) (nh caph n cap : Nat) (hs : List (List Int)) (xs : List Int) (w : World) (hrm : RdM w ah caph hs) (hlm : hs.length = nh) (hr : RdI w a cap xs) (hl : xs.length = n) (hn : n ≤ 100000000000000) (hnh : nh ≤ 100000000000000) :
    Calls Try.prog 40 #[.slice ah nh caph, .slice a n cap] w (GivesB w (IsRed hs ∧ IsVec nh xs)) := by
  have HRM := Lib.hid hrm
  have HR := Lib.hid hr
  clear hrm hr
  go_enter Try.func40, Try.ntmps40
  go_wp2_with fail
  refine (isReduced_any ah nh caph hs _ HRM.out hlm hnh).mono ?_
  rintro e w1 ⟨r, rfl, hrr, hb⟩
  cases r with
  | false =>
    have hno : Hid (¬(IsRed hs ∧ IsVec nh xs)) := fun h => by have := hrr.2 h.1; simp at this
    clear hrr
    go_wp2_with fail
    go_ret
    exact givesB_no hno.out hb
  | true =>
    have hyes : Hid (IsRed hs) := hrr.1 rfl
    clear hrr
    have HR1 : Hid (RdI w1 a cap xs) := HR.out.below hb
    go_wp2_with fail
    refine (isVector_any ah a nh caph n cap xs _ HR1.out hl hn hnh).mono ?_
    rintro e w' ⟨rfl, rfl⟩
    obtain ⟨c, hc⟩ : ∃ c, c = decide (IsVec nh xs) := ⟨_, rfl⟩
    rw [← hc]
    have HC : Hid (c = true ↔ IsRed hs ∧ IsVec nh xs) := by
      unfold Hid
      rw [hc, decide_eq_true_iff]
      exact ⟨fun h => ⟨hyes.out, h⟩, fun h => h.2⟩
    clear hc
    go_wp2_with fail
    go_ret
    exact givesB_mk HC.out hb
end Go.Proofs.Ytdpgkegfkobdoaa
