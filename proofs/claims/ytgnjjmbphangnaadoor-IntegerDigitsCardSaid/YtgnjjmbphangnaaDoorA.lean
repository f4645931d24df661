/-
  The walks of the small functions on limbs: contracts of trim, limbAt, order and their kin, said of lists of numbers.
-/
import Derived.Test.YtgnjjmbphangnaaDoorProg
import Derived.WalkKit
import Derived.WalkSpells
import Derived.WalkLawsBesides
import Derived.Lib.Hide
import Derived.Test.YtgnjjmbphangnaaDoorWM
namespace Go.Proofs.YtgnjjmbphangnaaDoor
open Go.RowKit

/-- Limb i, as the cells hold it. -/
def nth (xs : List Nat) (i : Nat) : Int := (xs.getD i 0 : Nat)
theorem nth_ge (xs : List Nat) (i : Nat) : 0 ≤ nth xs i := Int.natCast_nonneg _
theorem nth_lt {xs : List Nat} (h : Lim xs) (i : Nat) : nth xs i < 4294967296 := by have := h.getD i; unfold nth; omega

theorem nth_le {xs : List Nat} (h : Lim xs) (i : Nat) : nth xs i ≤ 4294967295 := by have := h.getD i; unfold nth; omega

/-- The slice at address a with capacity cap reads as the list xs. -/
structure Rd (w : World) (a : Option Addr) (cap : Nat) (xs : List Nat) : Prop where
  fits : xs.length ≤ cap
  lim : Lim xs
  cells : ∀ i, i < xs.length → ∃ b o, a = some ⟨b, o, none⟩ ∧ w.cell? ⟨b, o + i, none⟩ = some (.int .u32 (nth xs i))

theorem nth_take (xs : List Nat) (n i : Nat) (h : i < n) : nth (xs.take n) i = nth xs i := by
  unfold nth; simp only [List.getD_eq_getElem?_getD, List.getElem?_take, if_pos h]

theorem Rd.take {w : World} {a : Option Addr} {cap : Nat} {xs : List Nat} (h : Rd w a cap xs) (n : Nat) : Rd w a cap (xs.take n) := by
  refine ⟨by rw [List.length_take]; have := h.fits; omega, h.lim.take n, fun i hi => ?_⟩
  rw [List.length_take] at hi
  rw [nth_take xs n i (by omega)]
  exact h.cells i (by omega)

theorem Rd.trim {w : World} {a : Option Addr} {cap : Nat} {xs : List Nat} (h : Rd w a cap xs) : Rd w a cap (trimL xs) := by
  rw [trimL_eq_take]; exact h.take _

set_option maxHeartbeats 400000 in
theorem trim_any (a : Option Addr) (n cap : Nat) (xs : List Nat) (w : World) (h : Rd w a cap xs) (hl : xs.length = n) (hn : n ≤ 4000000000) :
    Calls Tryd.prog 19 #[.slice a n cap] w fun e w' => e = .returned (.slice a (trimL xs).length cap) ∧ w = w' := by
  subst hl
  have hcap := h.fits
  have hc := h.cells
  clear h
  go_enter Tryd.func19, Tryd.ntmps19
  go_wp2
  go_loop [3] (fun n => ∃ k : Nat, k ≤ xs.length ∧ n = .int .i64 k ∧ trimL xs = trimL (xs.take k)) (fun n => (intOf n).toNat)
  case atStart => exact ⟨xs.length, Nat.le_refl _, rfl, by rw [List.take_length]⟩
  case round =>
    obtain ⟨k, hk, rfl, ht⟩ := hrel
    have HT := Lib.hid ht
    clear ht
    by_cases h0 : 0 < k
    · obtain ⟨j, rfl⟩ : ∃ j, k = j + 1 := ⟨k - 1, by omega⟩
      obtain ⟨b, o, rfl, hj⟩ := hc j (by omega)
      clear hc
      by_cases hz : nth xs j = 0
      · have e := trimL_take_zero xs j (by omega) (by unfold nth at hz; omega)
        have E := Lib.hid e
        clear e
        rw [hz] at hj
        clear hz
        go_wp2
        go_round
        case rel => exact ⟨j, by omega, by go_num, HT.out.trans E.out⟩
        case measure => simp [intOf]
      · have e := trimL_take_pos xs j (by omega) (by unfold nth at hz; omega)
        have hl : (trimL xs).length = j + 1 := by rw [HT.out, e, List.length_take]; omega
        have E := Lib.hid hl
        clear e hl
        have hb : (nth xs j == 0) = false := by simpa using hz
        clear hz
        go_wp2
        go_ret
        exact ⟨by rw [E.out]; rfl, rfl⟩
    · obtain rfl : k = 0 := by omega
      have E : Hid ((trimL xs).length = 0) := by rw [HT.out]; rfl
      clear hc
      go_wp2
      go_ret
      exact ⟨by rw [E.out]; rfl, rfl⟩
end Go.Proofs.YtgnjjmbphangnaaDoor
