/-
  What a list of int64 and a list of such lists in memory read as; the memory of a stage of the elimination; and the contract of belowLimit.
-/
import Derived.Test.YtdpgkegfkobdoaaProg
import Derived.WalkKit
import Derived.WalkSpells
import Derived.WalkLawsBesides
import Derived.Lib.Hide
import Derived.BigQuiet
import Derived.BigRegion
import Derived.Deep.QuietTactic
import Derived.Deep.OwnRows
import Derived.Deep.CutRange
import Derived.Laws.CopyOwn
namespace Go.Proofs.Ytdpgkegfkobdoaa
open Go.RowKit

theorem below_drewN' {B : Nat} {a w : World} (h : Below B a w) (n : Nat) : Below B a (w.drewN n) := ⟨h.os, h.tape, h.output, h.size, h.block⟩
/-- Within the bounds of int64. -/
def I64 (x : Int) : Prop := -9223372036854775808 ≤ x ∧ x ≤ 9223372036854775807

/-- The slice at address a with capacity cap reads as the list xs of int64. -/
structure RdI (w : World) (a : Option Addr) (cap : Nat) (xs : List Int) : Prop where
  fits : xs.length ≤ cap
  lim : ∀ x ∈ xs, I64 x
  cells : ∀ i, i < xs.length → ∃ b o, a = some ⟨b, o, none⟩ ∧ w.cell? ⟨b, o + i, none⟩ = some (.int .i64 (xs.getD i 0))

theorem RdI.get {w : World} {a : Option Addr} {cap : Nat} {xs : List Int} (h : RdI w a cap xs) (i : Nat) : I64 (xs.getD i 0) := by
  by_cases hi : i < xs.length
  · have e : xs.getD i 0 = xs[i] := by simp [List.getD_eq_getElem?_getD, List.getElem?_eq_getElem hi]
    rw [e]; exact h.lim _ (List.getElem_mem hi)
  · have e : xs.getD i 0 = 0 := by simp [List.getD_eq_getElem?_getD, List.getElem?_eq_none (Nat.le_of_not_lt hi)]
    rw [e]; exact ⟨by omega, by omega⟩

theorem RdI.nil (w : World) (a : Option Addr) (cap : Nat) : RdI w a cap [] := ⟨by simp, by simp, fun i hi => by simp at hi⟩

theorem RdI.below {w w' : World} {a : Option Addr} {cap : Nat} {xs : List Int} (h : RdI w a cap xs) (hb : Below w.heap.size w w') : RdI w' a cap xs := by
  refine ⟨h.fits, h.lim, fun i hi => ?_⟩
  obtain ⟨b, o, rfl, hc⟩ := h.cells i hi
  refine ⟨b, o, rfl, ?_⟩
  rw [hb.cell (World.block_lt_of_cell? w _ hc)]
  exact hc

/-- What is read lies in blocks below B. -/
def UnderI (B : Nat) (a : Option Addr) (xs : List Int) : Prop := xs ≠ [] → ∃ b o, a = some ⟨b, o, none⟩ ∧ b < B

theorem UnderI.mono {B B' : Nat} {a : Option Addr} {xs : List Int} (h : UnderI B a xs) (hB : B ≤ B') : UnderI B' a xs := fun hne => by
  obtain ⟨b, o, e, hlt⟩ := h hne
  exact ⟨b, o, e, by omega⟩

/-- The slice of slices at address a reads as the rows hs. -/
structure RdM (w : World) (a : Option Addr) (cap : Nat) (hs : List (List Int)) : Prop where
  fits : hs.length ≤ cap
  rows : ∀ i, i < hs.length → ∃ b o ai ci, a = some ⟨b, o, none⟩ ∧ w.cell? ⟨b, o + i, none⟩ = some (.slice ai (hs.getD i []).length ci) ∧ RdI w ai ci (hs.getD i []) ∧ (hs.getD i []).length ≤ 17592186044416

theorem RdM.below {w w' : World} {a : Option Addr} {cap : Nat} {hs : List (List Int)} (h : RdM w a cap hs) (hb : Below w.heap.size w w') : RdM w' a cap hs := by
  refine ⟨h.fits, fun i hi => ?_⟩
  obtain ⟨b, o, ai, ci, rfl, hc, hr, hl⟩ := h.rows i hi
  refine ⟨b, o, ai, ci, rfl, ?_, hr.below hb, hl⟩
  rw [hb.cell (World.block_lt_of_cell? w _ hc)]
  exact hc

/-- Where the rows lie, once for all worlds that keep what lay there. -/
theorem RdM.fix {w0 : World} {a : Option Addr} {cap : Nat} {hs : List (List Int)} (h : RdM w0 a cap hs) (hpos : 0 < hs.length) :
    ∃ b o, ∃ (A : Nat → Option Addr) (C : Nat → Nat), a = some ⟨b, o, none⟩ ∧ ∀ w, Below w0.heap.size w0 w → ∀ i, i < hs.length →
      w.cell? ⟨b, o + i, none⟩ = some (.slice (A i) (hs.getD i []).length (C i)) ∧ RdI w (A i) (C i) (hs.getD i []) ∧ (hs.getD i []).length ≤ 17592186044416 := by
  obtain ⟨b, o, _, _, rfl, _⟩ := h.rows 0 hpos
  have hx : ∀ i, ∃ p : Option Addr × Nat, i < hs.length → w0.cell? ⟨b, o + i, none⟩ = some (.slice p.1 (hs.getD i []).length p.2) ∧ RdI w0 p.1 p.2 (hs.getD i []) ∧ (hs.getD i []).length ≤ 17592186044416 := by
    intro i
    by_cases hi : i < hs.length
    · obtain ⟨b', o', ai, ci, e, hc, hr, hl⟩ := h.rows i hi
      simp only [Option.some.injEq, Addr.mk.injEq, and_true] at e
      obtain ⟨rfl, rfl⟩ := e
      exact ⟨(ai, ci), fun _ => ⟨hc, hr, hl⟩⟩
    · exact ⟨(none, 0), fun h => absurd h hi⟩
  refine ⟨b, o, fun i => (Classical.choose (hx i)).1, fun i => (Classical.choose (hx i)).2, rfl, fun w hb i hi => ?_⟩
  obtain ⟨hc, hr, hl⟩ := Classical.choose_spec (hx i) hi
  refine ⟨?_, hr.below hb, hl⟩
  rw [hb.cell (World.block_lt_of_cell? w0 _ hc)]
  exact hc

/-- Entry (i, j) of a list of rows. -/
def ent (hs : List (List Int)) (i j : Nat) : Int := (hs.getD i []).getD j 0

/-- Below the limit of the elimination. -/
def Small (x : Int) : Prop := -1073741824 < x ∧ x < 1073741824
instance (x : Int) : Decidable (Small x) := by unfold Small; infer_instance

set_option maxHeartbeats 400000 in
theorem belowLimit_any (x : Int) (w : World) : Calls Try.prog 43 #[.int .i64 x] w fun e w' => e = .returned (.bool (decide (Small x))) ∧ w = w' := by
  by_cases h1 : -1073741824 < x
  · by_cases h2 : x < 1073741824
    · have e : decide (Small x) = true := decide_eq_true ⟨h1, h2⟩
      have e2 : decide (x < 1073741824) = true := decide_eq_true h2
      rw [e]
      clear e
      go_enter Try.func43, Try.ntmps43
      go_wp2
      go_ret
      exact ⟨rfl, rfl⟩
    · have e : decide (Small x) = false := decide_eq_false fun h => h2 h.2
      have e2 : decide (x < 1073741824) = false := decide_eq_false h2
      rw [e]
      clear e
      go_enter Try.func43, Try.ntmps43
      go_wp2
      go_ret
      exact ⟨rfl, rfl⟩
  · have e : decide (Small x) = false := decide_eq_false fun h => h1 h.1
    have e2 : decide (-1073741824 < x) = false := decide_eq_false h1
    rw [e]
    clear e
    go_enter Try.func43, Try.ntmps43
    go_wp2
    go_ret
    exact ⟨rfl, rfl⟩

/-- The memory of a stage: cell 0 the number of rows, behind it the entries, eight a row. -/
def Stg (w : World) (b : Nat) (F : Nat → Int) : Prop := w.rowIs b 66 65 fun j => .int .i64 (F j)

theorem Stg.cell {w : World} {b : Nat} {F : Nat → Int} (h : Stg w b F) (i j : Nat) (hi : i < 8) (hj : j < 8) : w.cell? ⟨b, 1 + i * 8 + j, none⟩ = some (.int .i64 (F (1 + i * 8 + j))) :=
  World.rowIs.cell h (by omega)
theorem Stg.size {w : World} {b : Nat} {F : Nat → Int} (h : Stg w b F) : w.cell? ⟨b, 0, none⟩ = some (.int .i64 (F 0)) := World.rowIs.cell h (by omega)
theorem Stg.free {w : World} {b : Nat} {F : Nat → Int} (h : Stg w b F) (i : Nat) : w.frozen? ⟨b, i, none⟩ = false := World.rowIs.frozen h i
theorem Stg.drew {w : World} {b : Nat} {F : Nat → Int} (h : Stg w b F) (k : Nat) : Stg (w.drewN k) b F := h
end Go.Proofs.Ytdpgkegfkobdoaa
