/-
  The library's products and sums of words; the contracts of Inner, Norm and normOf.
-/
import Derived.Test.YtdpgkegfkobdoaaYI
import Derived.Test.YtdpgkegfkobdoaaShelf
import Derived.Shelf.Spec.BitsCarry
namespace Go.Proofs.Ytdpgkegfkobdoaa
open Go.RowKit Go.Shelf

theorem mulOk : MulOk := fun x y hx hy w => Try.bits_Mul64 x y hx hy w

theorem addOk : AddOk := fun x y c hc w => by
  rw [run_callFunc_extern Try.func60 (by kernel_rfl) (by kernel_rfl) (by kernel_rfl) (e := add64Entry) (by kernel_rfl), run_add64 x y c (by omega) (by omega) (by omega) (by omega)]
  simp only [Result.andThen]
  congr 5 <;> omega

/-- What a function gives that answers an inner product, where p says that there is one. -/
def GivesIn (w : World) (p : Prop) (S : Int) (e : Ending) (w' : World) : Prop :=
  ((∃ m, p ∧ IsLim S m ∧ e = .returned (.tuple #[.int .i64 m, .bool true])) ∨ ((∀ m, ¬(p ∧ IsLim S m)) ∧ e = .returned (.tuple #[.int .i64 0, .bool false]))) ∧ Below w.heap.size w w'
theorem givesIn_yes {w w' : World} {p : Prop} {S m : Int} (hp : p) (h : IsLim S m) (hb : Below w.heap.size w w') : GivesIn w p S (.returned (.tuple #[.int .i64 m, .bool true])) w' := ⟨.inl ⟨m, hp, h, rfl⟩, hb⟩
theorem givesIn_no {w w' : World} {p : Prop} {S : Int} (h : ∀ m, ¬(p ∧ IsLim S m)) (hb : Below w.heap.size w w') : GivesIn w p S (.returned (.tuple #[.int .i64 0, .bool false])) w' := ⟨.inr ⟨h, rfl⟩, hb⟩

theorem isRed_square {hs : List (List Int)} (h : IsRed hs) : ∀ i, i < hs.length → (hs.getD i []).length = hs.length := h.1.2.1
theorem isRed_pos {hs : List (List Int)} (h : IsRed hs) : 0 < hs.length := h.1.1.1

set_option maxRecDepth 100000 in
set_option maxHeartbeats 1000000 in
theorem normOf_any (ah a : Option Addr) (nh caph n cap : Nat) (hs : List (List Int)) (xs : List Int) (w : World) (hred : IsRed hs) (hrm : RdM w ah caph hs) (hlm : hs.length = nh) (hr : RdI w a cap xs) (hl : xs.length = n) (hn : n ≤ 100000000000000) :
    Calls Try.prog 36 #[.slice ah nh caph, .slice a n cap] w (GivesIn w (IsVec nh xs) (innerS hs xs xs nh)) := by
  have hnh : nh ≤ 8 := by have := hred.1.1.2; omega
  by_cases hv : IsVec nh xs
  · have hD : Hid (decide (IsVec nh xs) = true) := decide_eq_true hv
    have HV := Lib.hid hv
    obtain rfl : n = nh := by rw [← hl]; exact hv.1
    have HRM := Lib.hid hrm
    have HR := Lib.hid hr
    have HRED := Lib.hid hred
    have HLM := Lib.hid hlm
    have HL := Lib.hid hl
    clear hv hrm hr hred hlm hl
    go_enter Try.func36, Try.ntmps36
    go_wp2_with fail
    refine (isVector_any ah a n caph n cap xs _ HR.out HL.out hn (by omega)).mono ?_
    rintro e w' ⟨rfl, rfl⟩
    rw [hD.out]
    go_wp2_with fail
    refine (inner_any mulOk addOk ah a a n caph cap cap hs xs xs _ HRM.out HLM.out (fun i hi => by rw [isRed_square HRED.out i (by rw [HLM.out]; exact hi), HLM.out]) HR.out HL.out HR.out HL.out hn (by have := isRed_pos HRED.out; rw [HLM.out] at this; exact this)).mono ?_
    rintro e w5 ⟨(⟨m, hm, rfl⟩ | ⟨hno, rfl⟩), hb⟩
    · have HMM := Lib.hid hm
      clear hm
      go_wp2_with fail
      go_ret2
      exact givesIn_yes HV.out HMM.out hb
    · have HNO := Lib.hid hno
      clear hno
      go_wp2_with fail
      go_ret2
      exact givesIn_no (fun m h => HNO.out m h.2) hb
  · have hD : Hid (decide (IsVec nh xs) = false) := decide_eq_false hv
    have HV := Lib.hid hv
    have HR := Lib.hid hr
    clear hv hr hred hrm
    go_enter Try.func36, Try.ntmps36
    go_wp2_with fail
    refine (isVector_any ah a nh caph n cap xs _ HR.out hl hn (by omega)).mono ?_
    rintro e w' ⟨rfl, rfl⟩
    rw [hD.out]
    go_wp2_with fail
    go_ret2
    exact givesIn_no (fun m h => HV.out h.1) (Below.refl _ _)

set_option maxRecDepth 100000 in
set_option maxHeartbeats 1000000 in
theorem inner2_any (ah a a2 : Option Addr) (nh caph n cap n2 cap2 : Nat) (hs : List (List Int)) (xs ys : List Int) (w : World) (hrm : RdM w ah caph hs) (hlm : hs.length = nh) (hnh : nh ≤ 100000000000000) (hr : RdI w a cap xs) (hl : xs.length = n) (hn : n ≤ 100000000000000) (hr2 : RdI w a2 cap2 ys) (hl2 : ys.length = n2) (hn2 : n2 ≤ 100000000000000) :
    Calls Try.prog 31 #[.slice ah nh caph, .slice a n cap, .slice a2 n2 cap2] w (GivesIn w (IsRed hs ∧ IsVec nh xs ∧ IsVec nh ys) (innerS hs xs ys nh)) := by
  have HRM := Lib.hid hrm
  have HR := Lib.hid hr
  have HR2 := Lib.hid hr2
  have HLM := Lib.hid hlm
  have HL := Lib.hid hl
  have HL2 := Lib.hid hl2
  clear hrm hr hr2 hlm hl hl2
  go_enter Try.func31, Try.ntmps31
  go_wp2_with fail
  refine (valid_any ah a nh caph n cap hs xs _ HRM.out HLM.out HR.out HL.out hn hnh).mono ?_
  rintro e w1 ⟨r, rfl, hrr, hb⟩
  cases r with
  | false =>
    have hno : Hid (∀ m, ¬((IsRed hs ∧ IsVec nh xs ∧ IsVec nh ys) ∧ IsLim (innerS hs xs ys nh) m)) := fun m h => by have := hrr.2 ⟨h.1.1, h.1.2.1⟩; simp at this
    clear hrr
    go_wp2_with fail
    go_ret2
    exact givesIn_no hno.out hb
  | true =>
    have hyes : Hid (IsRed hs ∧ IsVec nh xs) := hrr.1 rfl
    clear hrr
    have HRY : Hid (RdI w1 a2 cap2 ys) := HR2.out.below hb
    have HRX : Hid (RdI w1 a cap xs) := HR.out.below hb
    have HRM1 : Hid (RdM w1 ah caph hs) := HRM.out.below hb
    go_wp2_with fail
    refine (isVector_any ah a2 nh caph n2 cap2 ys _ HRY.out HL2.out hn2 hnh).mono ?_
    rintro e w' ⟨rfl, rfl⟩
    by_cases hv : IsVec nh ys
    · have hD : Hid (decide (IsVec nh ys) = true) := decide_eq_true hv
      have HV := Lib.hid hv
      rw [hD.out]
      obtain rfl : n2 = nh := by rw [← HL2.out]; exact hv.1
      obtain rfl : n = n2 := by rw [← HL.out]; exact hyes.out.2.1
      clear hv
      go_wp2_with fail
      refine (inner_any mulOk addOk ah a a2 n caph cap cap2 hs xs ys _ HRM1.out HLM.out (fun i hi => by rw [isRed_square hyes.out.1 i (by rw [HLM.out]; exact hi), HLM.out]) HRX.out HL.out HRY.out HL2.out hn (by have := isRed_pos hyes.out.1; rw [HLM.out] at this; exact this)).mono ?_
      rintro e w5 ⟨(⟨m, hm, rfl⟩ | ⟨hno, rfl⟩), hb5⟩
      · have HMM := Lib.hid hm
        clear hm
        go_wp2_with fail
        go_ret2
        exact givesIn_yes ⟨hyes.out.1, hyes.out.2, HV.out⟩ HMM.out (hb.trans (hb5.mono hb.size))
      · have HNO := Lib.hid hno
        clear hno
        go_wp2_with fail
        go_ret2
        exact givesIn_no (fun m h => HNO.out m h.2) (hb.trans (hb5.mono hb.size))
    · have hD : Hid (decide (IsVec nh ys) = false) := decide_eq_false hv
      have HV := Lib.hid hv
      rw [hD.out]
      clear hv
      go_wp2_with fail
      go_ret2
      exact givesIn_no (fun m h => HV.out h.1.2.2) hb

set_option maxRecDepth 100000 in
set_option maxHeartbeats 1000000 in
theorem norm_any (ah a : Option Addr) (nh caph n cap : Nat) (hs : List (List Int)) (xs : List Int) (w : World) (hrm : RdM w ah caph hs) (hlm : hs.length = nh) (hnh : nh ≤ 100000000000000) (hr : RdI w a cap xs) (hl : xs.length = n) (hn : n ≤ 100000000000000) :
    Calls Try.prog 16 #[.slice ah nh caph, .slice a n cap] w (GivesIn w (IsRed hs ∧ IsVec nh xs ∧ IsVec nh xs) (innerS hs xs xs nh)) := by
  have HRM := Lib.hid hrm
  have HR := Lib.hid hr
  clear hrm hr
  go_enter Try.func16, Try.ntmps16
  go_wp2_with fail
  refine (inner2_any ah a a nh caph n cap n cap hs xs xs _ HRM.out hlm hnh HR.out hl hn HR.out hl hn).mono ?_
  rintro e w5 ⟨(⟨m, hp, hm, rfl⟩ | ⟨hno, rfl⟩), hb⟩
  · have HMM := Lib.hid hm
    have HP := Lib.hid hp
    clear hm hp
    go_wp2_with fail
    go_ret2
    exact givesIn_yes HP.out HMM.out hb
  · have HNO := Lib.hid hno
    clear hno
    go_wp2_with fail
    go_ret2
    exact givesIn_no HNO.out hb
end Go.Proofs.Ytdpgkegfkobdoaa
