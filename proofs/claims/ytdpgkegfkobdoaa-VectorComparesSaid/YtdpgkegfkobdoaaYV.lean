/-
  The contracts of the maker's Next and Vector.
-/
import Derived.Test.YtdpgkegfkobdoaaYI
import Derived.Test.YtdpgkegfkobdoaaYK
namespace Go.Proofs.Ytdpgkegfkobdoaa
open Go.RowKit Go.Shelf

/-- The slice at address a reads as the list ks of int8. -/
structure Rd8 (w : World) (a : Option Addr) (ks : List Int) : Prop where
  lim : ∀ x ∈ ks, -128 ≤ x ∧ x ≤ 127
  cells : ∀ i, i < ks.length → ∃ b o, a = some ⟨b, o, none⟩ ∧ w.cell? ⟨b, o + i, none⟩ = some (.int .i8 (ks.getD i 0))
theorem Rd8.get {w : World} {a : Option Addr} {ks : List Int} (h : Rd8 w a ks) (i : Nat) : -128 ≤ ks.getD i 0 ∧ ks.getD i 0 ≤ 127 := by
  by_cases hi : i < ks.length
  · have e : ks.getD i 0 = ks[i] := by simp [List.getD_eq_getElem?_getD, List.getElem?_eq_getElem hi]
    rw [e]; exact h.lim _ (List.getElem_mem hi)
  · have e : ks.getD i 0 = 0 := by simp [List.getD_eq_getElem?_getD, List.getElem?_eq_none (Nat.le_of_not_lt hi)]
    rw [e]; omega
theorem Rd8.below {w w' : World} {a : Option Addr} {ks : List Int} (h : Rd8 w a ks) (hb : Below w.heap.size w w') : Rd8 w' a ks := by
  refine ⟨h.lim, fun i hi => ?_⟩
  obtain ⟨b, o, rfl, hc⟩ := h.cells i hi
  refine ⟨b, o, rfl, ?_⟩
  rw [hb.cell (World.block_lt_of_cell? w _ hc)]
  exact hc

end Go.Proofs.Ytdpgkegfkobdoaa
