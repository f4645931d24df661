/-
  The contracts of Pow, the program's and the reference's.
-/
import Derived.Test.YtgnjjmbphangnaaDoorRV
import Derived.Test.YtgnjjmbphangnaaDoorMU
import Derived.Test.YtgnjjmbphangnaaDoorDL
namespace Go.Proofs.YtgnjjmbphangnaaDoor
open Go.RowKit

/-- A list of limbs in a block of the call's own, which is neither of two given ones. -/
structure Apart (B0 B1 B2 : Nat) (zs : List Nat) (a : Option Addr) (cap : Nat) (w : World) : Prop where
  fits : zs.length ≤ cap
  own : (a = none ∧ zs = []) ∨ ∃ g, a = some ⟨g, 0, none⟩ ∧ B0 ≤ g ∧ g ≠ B1 ∧ g ≠ B2 ∧ Own w g zs

theorem Apart.rd {B0 B1 B2 : Nat} {zs : List Nat} {a : Option Addr} {cap : Nat} {w : World} (h : Apart B0 B1 B2 zs a cap w) : Rd w a cap zs := by
  rcases h.own with ⟨rfl, rfl⟩ | ⟨g, rfl, _, _, _, ho⟩
  · exact Rd.nil _ _ _
  · exact ho.rd h.fits
theorem Apart.of_new {B0 B1 B2 : Nat} {zs : List Nat} {a : Option Addr} {cap : Nat} {v w : World} (h : New v zs a cap w) (h0 : B0 ≤ v.heap.size) (h1 : B1 < v.heap.size ∨ w.heap.size ≤ B1) (h2 : B2 < v.heap.size ∨ w.heap.size ≤ B2) : Apart B0 B1 B2 zs a cap w := by
  refine ⟨h.fits, ?_⟩
  rcases h.own with h' | ⟨g, rfl, hg, ho⟩
  · exact .inl h'
  · have := ho.lt
    exact .inr ⟨g, rfl, by omega, by omega, by omega, ho⟩
theorem Apart.below {B0 B1 B2 : Nat} {zs : List Nat} {a : Option Addr} {cap : Nat} {w w' : World} (h : Apart B0 B1 B2 zs a cap w) (hb : Below w.heap.size w w') : Apart B0 B1 B2 zs a cap w' := by
  refine ⟨h.fits, ?_⟩
  rcases h.own with h' | ⟨g, rfl, hg, h1, h2, ho⟩
  · exact .inl h'
  · exact .inr ⟨g, rfl, hg, h1, h2, ho.below hb ho.lt⟩
theorem Apart.store1 {B0 B1 B2 : Nat} {zs : List Nat} {a : Option Addr} {cap : Nat} {w : World} (h : Apart B0 B1 B2 zs a cap w) (i : Nat) (v : Value) : Apart B0 B1 B2 zs a cap (w.setCell ⟨B1, i, none⟩ v) := by
  refine ⟨h.fits, ?_⟩
  rcases h.own with h' | ⟨g, rfl, hg, h1, h2, ho⟩
  · exact .inl h'
  · exact .inr ⟨g, rfl, hg, h1, h2, ho.of_heap (Below.heap_setCell _ _ _ _ (by simpa using h1))⟩
theorem Apart.store2 {B0 B1 B2 : Nat} {zs : List Nat} {a : Option Addr} {cap : Nat} {w : World} (h : Apart B0 B1 B2 zs a cap w) (i : Nat) (v : Value) : Apart B0 B1 B2 zs a cap (w.setCell ⟨B2, i, none⟩ v) := by
  refine ⟨h.fits, ?_⟩
  rcases h.own with h' | ⟨g, rfl, hg, h1, h2, ho⟩
  · exact .inl h'
  · exact .inr ⟨g, rfl, hg, h1, h2, ho.of_heap (Below.heap_setCell _ _ _ _ (by simpa using h2))⟩
theorem Apart.to_new {w w' : World} {B0 B1 B2 : Nat} {zs : List Nat} {a : Option Addr} {cap : Nat} (h : Apart B0 B1 B2 zs a cap w') (hB : w.heap.size ≤ B0) (hb : Below w.heap.size w w') : New w zs a cap w' := by
  refine ⟨hb, h.fits, ?_⟩
  rcases h.own with h' | ⟨g, rfl, hg, h1, h2, ho⟩
  · exact .inl h'
  · exact .inr ⟨g, rfl, by omega, ho⟩

theorem Box.stored {B : Nat} {u v : Value} {w : World} (h : Box B u v w) (x y : Value) : Box B x y ((w.setCell ⟨B, 0, none⟩ x).setCell ⟨B, 1, none⟩ y) := by
  obtain ⟨c0, c1, f0, f1, hs⟩ := h
  refine ⟨?_, ?_, ?_, ?_, ?_⟩
  all_goals simp [go_sem, c0, c1, f0, f1, hs]

theorem natAbs_lt' {neg : Bool} {xs : List Nat} (h : Lim xs) : (den neg xs).natAbs < 4294967296 ^ xs.length := by rw [natAbs_den]; exact val_lt h

attribute [local go_sem ↓] Go.wp_at_zero Go.wp_at_succ

end Go.Proofs.YtgnjjmbphangnaaDoor
