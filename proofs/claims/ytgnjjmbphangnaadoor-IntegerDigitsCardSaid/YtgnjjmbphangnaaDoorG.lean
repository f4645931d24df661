/-
  The contract of divideBy, which divides a list of the call's own in place.
-/
import Derived.Test.YtgnjjmbphangnaaDoorF
namespace Go.Proofs.YtgnjjmbphangnaaDoor
open Go.RowKit

theorem take_set_prev {xs qs : List Nat} {j v : Nat} (h : j < xs.length) : (xs.take (j + 1) ++ qs).set j v = xs.take j ++ (v :: qs) := by
  have hl : (xs.take (j + 1)).length = j + 1 := by rw [List.length_take]; omega
  rw [List.set_append_left _ _ (by omega), List.take_succ_eq_append_getElem h, List.set_append_right _ _ (by rw [List.length_take]; omega)]
  simp [Nat.min_eq_left (Nat.le_of_lt h)]

theorem nth_take_prev {xs qs : List Nat} {j : Nat} (h : j < xs.length) : nth (xs.take (j + 1) ++ qs) j = nth xs j := by
  unfold nth
  simp only [List.getD_eq_getElem?_getD]
  rw [List.getElem?_append_left (by rw [List.length_take]; omega), List.getElem?_take, if_pos (by omega)]

theorem grownBy_trans {a b c : World} {row : Option Nat} (h : a.grownBy b row) (k : b.grownBy c row) : a.grownBy c row :=
  ⟨k.os.trans h.os, k.tape.trans h.tape, k.output.trans h.output, Nat.le_trans h.size k.size, fun i hi hr => (k.block i (Nat.lt_of_lt_of_le hi h.size) hr).trans (h.block i hi hr)⟩

theorem grownBy_drewN (w : World) (n : Nat) (row : Option Nat) : w.grownBy (w.drewN n) row := ⟨rfl, rfl, rfl, Nat.le_refl _, fun _ _ _ => rfl⟩

/-- The remainder is returned, and the block holds the quotient. -/
def GivesDiv (w : World) (g n X d : Nat) (e : Ending) (w' : World) : Prop :=
  ∃ (r : Nat) (qs : List Nat), e = .returned (.int .u32 (r : Int)) ∧ Hid (r = X % d) ∧ r ≤ 4294967295 ∧ Hid (qs.length = n) ∧ Hid (val qs = X / d) ∧ Own w' g qs ∧ w.grownBy w' (some g) ∧ Hid (w'.heap.size = w.heap.size)

/-- One digit of a quotient, as the machine computes it. -/
theorem div_digit {xs qs : List Nat} {d j r : Nat} (hx : Lim xs) (hd : d < 4294967296) (hj : j < xs.length) (h : DivInv xs d (j + 1) qs r) :
    ∃ D : Int, bits .or .u64 ((r : Int) * 4294967296) (nth xs j) = D ∧ 0 ≤ D ∧ D ≤ 18446744073709551615 ∧
      ∃ q r' : Nat, q < 4294967296 ∧ D / (d : Int) % 4294967296 = (q : Int) ∧ D % (d : Int) = (r' : Int) ∧ r' < d ∧ DivInv xs d j (q :: qs) r' := by
  have h0 := h.small
  obtain ⟨h1, h2, h3⟩ := h.step hx hd hj
  have e : bits .or .u64 ((r : Int) * 4294967296) (nth xs j) = ((r * 4294967296 + xs.getD j 0 : Nat) : Int) := by
    have hj2 := hx.getD j
    rw [u64_or _ _ (by omega) (by omega) (nth_ge _ _) (by unfold nth; omega)]
    have e1 : ((r : Int) * 4294967296).toNat = 2 ^ 32 * r := by omega
    have e2 : (nth xs j).toNat = xs.getD j 0 := by unfold nth; omega
    rw [e1, e2, ← Nat.two_pow_add_eq_or_of_lt (by omega)]
    omega
  refine ⟨_, e, by omega, by omega, _, _, h2, ?_, ?_, h3.small, h3⟩
  · have : (((r * 4294967296 + xs.getD j 0 : Nat) : Int) / (d : Int)) = (((r * 4294967296 + xs.getD j 0) / d : Nat) : Int) := (Int.natCast_ediv _ _).symm
    rw [this]; exact Int.emod_eq_of_lt (Int.natCast_nonneg _) (Int.ofNat_lt.2 h2)
  · exact (Int.natCast_emod _ _).symm

set_option maxRecDepth 100000 in
set_option maxHeartbeats 1000000 in
theorem divideBy_any (g n cap : Nat) (xs : List Nat) (d : Nat) (w : World) (hO0 : Own w g xs) (hl : xs.length = n) (hn : n ≤ 1000000000) (hd0 : 1 ≤ d) (hd : d ≤ 4294967295) :
    Calls Tryd.prog 37 #[.slice (some ⟨g, 0, none⟩) n cap, .int .u32 d] w (GivesDiv w g n (val xs) d) := by
  have hlx := hO0.lim
  have HL := Lib.hid hl
  clear hl
  go_enter Tryd.func37, Tryd.ntmps37
  go_wp2_with fail
  go_loopw [5, 6] (fun c i wr => ∃ (k r : Nat) (qs : List Nat), k ≤ n ∧ i = .int .i64 ((k : Int) - 1) ∧ c = .int .u64 r ∧ DivInv xs d k qs r ∧ Own wr g (xs.take k ++ qs) ∧ w.grownBy wr (some g) ∧ Hid (wr.heap.size = w.heap.size)) (fun _ i _ => (intOf i + 1).toNat)
  case atStart => exact ⟨n, 0, [], by omega, rfl, rfl, by rw [← HL.out]; exact DivInv.start xs d (by omega), by rw [List.take_of_length_le (by rw [HL.out]; exact Nat.le_refl _), List.append_nil]; exact hO0, World.grownBy.refl _ _, rfl⟩
  case round =>
    obtain ⟨k, r, qs, hk, rfl, rfl, hI, hO, hG, hS⟩ := hrel
    have hr := hI.small
    by_cases h0 : 0 < k
    · obtain ⟨j, rfl⟩ : ∃ j, k = j + 1 := ⟨k - 1, by omega⟩
      have hjl : j < xs.length := by rw [HL.out]; omega
      have ej : ((j + 1 : Nat) : Int) - 1 = (j : Int) := by omega
      rw [ej]
      clear ej
      obtain ⟨D, hD, d0, d1, q, r', hq, hqv, hrv, hr', hI2⟩ := div_digit hlx (by omega) hjl hI
      have hcell := hO.cell j (by rw [List.length_append, List.length_take]; omega)
      rw [nth_take_prev hjl] at hcell
      have hfree := hO.free j
      have g1 := nth_ge xs j
      have g3 := nth_le hlx j
      have HQV := Lib.hid hqv
      have HRV := Lib.hid hrv
      have HI2 := Lib.hid hI2
      clear hqv hrv hI2
      go_wp2_with fail
      go_roundw
      case rel =>
        obtain ⟨hst, hg2⟩ := hO.store j q hq (D / (d : Int) % 4294967296) HQV.out
        rw [take_set_prev hjl] at hst
        exact ⟨j, r', q :: qs, by omega, rfl, by rw [HRV.out], HI2.out, hst, grownBy_trans hG hg2, by unfold Hid; rw [← hS.out]; simp [World.setCell]⟩
      case measure => simp [intOf]
    · obtain rfl : k = 0 := by omega
      have hdn := hI.done
      have hqn : qs.length = n := by rw [hI.len, HL.out]; omega
      simp only [List.take_zero, List.nil_append] at hO
      have HDN := Lib.hid hdn
      have HQN := Lib.hid hqn
      clear hdn hqn hI
      go_wp2_with fail
      go_ret
      exact ⟨r, qs, rfl, HDN.out.2, by omega, HQN, HDN.out.1, hO, hG, hS⟩
end Go.Proofs.YtgnjjmbphangnaaDoor
