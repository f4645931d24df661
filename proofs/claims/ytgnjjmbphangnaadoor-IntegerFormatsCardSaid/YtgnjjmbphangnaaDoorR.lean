/-
  The contracts of the reference's small functions.
-/
import Derived.Test.YtgnjjmbphangnaaDoorQ
namespace Go.Proofs.YtgnjjmbphangnaaDoor
open Go.RowKit

theorem new_of_row {w w' : World} {v : Value} {zs : List Nat} (hb : Below w.heap.size w w') (hz : Lim zs) (h : w'.ownsRow w.heap.size 52 1 v zs.length (u32s zs)) : ∃ a cap, v = .slice a zs.length cap ∧ New w zs a cap w' := by
  rcases h.2 with ⟨rfl, h0⟩ | ⟨g, cap, cur, rfl, hg, hh, hn, _, _, ht⟩
  · have : zs = [] := List.eq_nil_of_length_eq_zero h0
    subst this
    exact ⟨none, 0, rfl, New.none hb 0⟩
  · exact ⟨some ⟨g, 0, none⟩, cap, rfl, hb, hn, .inr ⟨g, rfl, hg, hz, cur, hh, by rw [← ht, Nat.mul_one]⟩⟩

set_option maxRecDepth 100000 in
set_option maxHeartbeats 1000000 in
theorem rtrim_any (a : Option Addr) (n cap : Nat) (xs : List Nat) (w : World) (rdx : Rd w a cap xs) (hl : xs.length = n) (hn : n ≤ 4000000000) :
    Calls Tryd.prog 39 #[.slice a n cap] w (GivesNew w (trimL xs)) := by
  subst hl
  have hcap := rdx.fits
  have hc := rdx.cells
  have hlx := rdx.lim
  obtain ⟨i0, hi, hz0, hz1, hz2⟩ := info_parts Tryd.infoU32
  go_enter Tryd.func39, Tryd.ntmps39
  go_wp2_with fail
  go_loop [3] (fun n => ∃ k : Nat, k ≤ xs.length ∧ n = .int .i64 k ∧ trimL xs = trimL (xs.take k)) (fun n => (intOf n).toNat)
  case atStart => exact ⟨xs.length, Nat.le_refl _, rfl, by rw [List.take_length]⟩
  case round =>
    obtain ⟨k, hk, rfl, ht⟩ := hrel
    have HT := Lib.hid ht
    clear ht
    by_cases h0 : 0 < k
    · obtain ⟨j, rfl⟩ : ∃ j, k = j + 1 := ⟨k - 1, by omega⟩
      obtain ⟨b, o, rfl, hj⟩ := hc j (by omega)
      by_cases hz : nth xs j = 0
      · have e := trimL_take_zero xs j (by omega) (by unfold nth at hz; omega)
        have E := Lib.hid e
        clear e hc
        rw [hz] at hj
        clear hz
        go_wp2_with fail
        go_round
        case rel => exact ⟨j, by omega, by go_num, HT.out.trans E.out⟩
        case measure => simp [intOf]
      · have e := trimL_take_pos xs j (by omega) (by unfold nth at hz; omega)
        have hl : trimL xs = xs.take (j + 1) := HT.out.trans e
        have E := Lib.hid hl
        have hll : (xs.take (j + 1)).length = j + 1 := by rw [List.length_take]; omega
        have HLL := Lib.hid hll
        clear e hl hll
        have hb : (nth xs j == 0) = false := by simpa using hz
        have HC := Lib.hid hc
        clear hz hc
        go_wp2_with (at_builtin; refine wpList_append_own _ rfl _ _ 23 rfl w.heap.size 52 i0 (.int .u32 0) 1 4 Tryd.underlying23 hi hz0 hz1 hz2 rfl (by decide) (.slice none 0 0) 0 [] rfl (World.ownsRow_nil _ _ _ _) ⟨b, o, none⟩ (j + 1) cap (u32s (xs.take (j + 1))) rfl ?c0 ?c1 ?c2 ?c3 ?c4 (Nat.le_refl _) ?_)
        case c0 => rw [length_u32s, HLL.out]
        case c1 =>
          intro i u hu
          have hil : i < (xs.take (j + 1)).length := by have := (List.getElem?_eq_some_iff.1 hu).1; rwa [length_u32s] at this
          rw [u32s_get _ i hil, nth_take _ _ _ (by rw [HLL.out] at hil; exact hil)] at hu
          obtain ⟨b', o', e, hc⟩ := HC.out i (by rw [HLL.out] at hil; omega)
          simp only [Option.some.injEq, Addr.mk.injEq, and_true] at e
          obtain ⟨rfl, rfl⟩ := e
          rw [hc, hu]
        case c2 => exact u32s_one _
        case c3 => unfold maxLen; omega
        case c4 => omega
        intro v' w1 hown1 hgrow1 _
        have hb1 : Below w.heap.size w w1 := (Below.refl _ _).grown hgrow1 (Nat.le_refl _) (by intro q hq; simp [Value.ownBlock] at hq)
        obtain ⟨a1, c1, hv, hN⟩ := new_of_row hb1 (hlx.take (j + 1)) (by rw [HLL.out]; exact hown1)
        rw [hv]
        clear hown1 hgrow1
        go_wp2_with fail
        go_ret
        exact ⟨a1, c1, by rw [E.out]; rfl, by rw [E.out]; exact hN⟩
    · obtain rfl : k = 0 := by omega
      have E : Hid (trimL xs = []) := by unfold Hid; rw [HT.out]; rfl
      clear hc
      cases a with
      | none =>
        go_wp2_with fail
        go_ret
        exact ⟨none, 0, by rw [E.out]; rfl, by rw [E.out]; exact New.none (Below.refl _ _) 0⟩
      | some ad =>
        go_wp2_with fail
        go_ret
        exact ⟨none, 0, by rw [E.out]; rfl, by rw [E.out]; exact New.none (Below.refl _ _) 0⟩
end Go.Proofs.YtgnjjmbphangnaaDoor
