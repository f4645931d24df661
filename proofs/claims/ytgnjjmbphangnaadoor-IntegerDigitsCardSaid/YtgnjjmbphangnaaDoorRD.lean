/-
  The reference's difference and double of limbs.
-/
import Derived.Test.YtgnjjmbphangnaaDoorRA
namespace Go.Proofs.YtgnjjmbphangnaaDoor
open Go.RowKit

structure DblInv (xs : List Nat) (bit k : Nat) (zs : List Nat) (c : Nat) : Prop where
  len : zs.length = k
  lim : Lim zs
  one : c ≤ 1
  eq : val zs + 4294967296 ^ k * c = 2 * val (xs.take k) + bit

theorem DblInv.start (xs : List Nat) (bit : Nat) (hb : bit ≤ 1) : DblInv xs bit 0 [] bit := ⟨rfl, Lim.nil, hb, by simp [val]⟩

theorem DblInv.done {xs : List Nat} {bit n : Nat} {zs : List Nat} {c : Nat} (h : DblInv xs bit n zs c) (hn : xs.length = n) : Lim (zs ++ [c]) ∧ val (zs ++ [c]) = 2 * val xs + bit := by
  have h3 := h.one
  refine ⟨h.lim.append (Lim.nil.cons (by omega)), ?_⟩
  have e := h.eq
  rw [List.take_of_length_le (by omega)] at e
  rw [val_snoc, h.len, e]

end Go.Proofs.YtgnjjmbphangnaaDoor
