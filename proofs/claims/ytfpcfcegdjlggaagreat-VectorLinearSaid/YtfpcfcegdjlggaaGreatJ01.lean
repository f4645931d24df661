/-
  Joined texts: YA YB YC YD YE YF.
-/
import Derived.Test.YtfpcfcegdjlggaaGreatProg
import Derived.WalkKit
import Derived.WalkSpells
import Derived.WalkLawsBesides
import Derived.Lib.Hide
import Derived.BigQuiet
import Derived.BigRegion
import Derived.Deep.QuietTactic
import Derived.Deep.OwnRows
import Derived.Deep.CutRange
import Derived.Laws.CopyOwn
import Derived.Deep.WholeRow
import Derived.Sort.Grow
namespace Go.Proofs.YtfpcfcegdjlggaaGreat
open Go.RowKit

theorem below_drewN' {B : Nat} {a w : World} (h : Below B a w) (n : Nat) : Below B a (w.drewN n) := ⟨h.os, h.tape, h.output, h.size, h.block⟩
/-- Within the bounds of int64. -/
def I64 (x : Int) : Prop := -9223372036854775808 ≤ x ∧ x ≤ 9223372036854775807

/-- The slice at address a with capacity cap reads as the list xs of int64. -/
structure RdI (w : World) (a : Option Addr) (cap : Nat) (xs : List Int) : Prop where
  fits : xs.length ≤ cap
  lim : ∀ x ∈ xs, I64 x
  cells : ∀ i, i < xs.length → ∃ b o, a = some ⟨b, o, none⟩ ∧ w.cell? ⟨b, o + i, none⟩ = some (.int .i64 (xs.getD i 0))

theorem RdI.get {w : World} {a : Option Addr} {cap : Nat} {xs : List Int} (h : RdI w a cap xs) (i : Nat) : I64 (xs.getD i 0) := by
  by_cases hi : i < xs.length
  · have e : xs.getD i 0 = xs[i] := by simp [List.getD_eq_getElem?_getD, List.getElem?_eq_getElem hi]
    rw [e]; exact h.lim _ (List.getElem_mem hi)
  · have e : xs.getD i 0 = 0 := by simp [List.getD_eq_getElem?_getD, List.getElem?_eq_none (Nat.le_of_not_lt hi)]
    rw [e]; exact ⟨by omega, by omega⟩

theorem RdI.nil (w : World) (a : Option Addr) (cap : Nat) : RdI w a cap [] := ⟨by simp, by simp, fun i hi => by simp at hi⟩

theorem RdI.below {w w' : World} {a : Option Addr} {cap : Nat} {xs : List Int} (h : RdI w a cap xs) (hb : Below w.heap.size w w') : RdI w' a cap xs := by
  refine ⟨h.fits, h.lim, fun i hi => ?_⟩
  obtain ⟨b, o, rfl, hc⟩ := h.cells i hi
  refine ⟨b, o, rfl, ?_⟩
  rw [hb.cell (World.block_lt_of_cell? w _ hc)]
  exact hc

/-- What is read lies in blocks below B. -/
def UnderI (B : Nat) (a : Option Addr) (xs : List Int) : Prop := xs ≠ [] → ∃ b o, a = some ⟨b, o, none⟩ ∧ b < B

theorem RdI.under {w : World} {a : Option Addr} {cap : Nat} {xs : List Int} (h : RdI w a cap xs) : UnderI w.heap.size a xs := by
  intro hne
  obtain ⟨b, o, rfl, hc⟩ := h.cells 0 (List.length_pos_iff.2 hne)
  exact ⟨b, o, rfl, World.block_lt_of_cell? w _ hc⟩

theorem RdI.belowU {w w' : World} {a : Option Addr} {cap B : Nat} {xs : List Int} (h : RdI w a cap xs) (hu : UnderI B a xs) (hb : Below B w w') : RdI w' a cap xs := by
  refine ⟨h.fits, h.lim, fun i hi => ?_⟩
  obtain ⟨b, o, rfl, hc⟩ := h.cells i hi
  obtain ⟨b', o', e, hlt⟩ := hu (by intro e; subst e; simp at hi)
  simp only [Option.some.injEq, Addr.mk.injEq] at e
  obtain ⟨rfl, rfl, _⟩ := e
  refine ⟨b, o, rfl, ?_⟩
  rw [hb.cell hlt]
  exact hc

theorem UnderI.mono {B B' : Nat} {a : Option Addr} {xs : List Int} (h : UnderI B a xs) (hB : B ≤ B') : UnderI B' a xs := fun hne => by
  obtain ⟨b, o, e, hlt⟩ := h hne
  exact ⟨b, o, e, by omega⟩

/-- The slice of slices at address a reads as the rows hs. -/
structure RdM (w : World) (a : Option Addr) (cap : Nat) (hs : List (List Int)) : Prop where
  fits : hs.length ≤ cap
  rows : ∀ i, i < hs.length → ∃ b o ai ci, a = some ⟨b, o, none⟩ ∧ w.cell? ⟨b, o + i, none⟩ = some (.slice ai (hs.getD i []).length ci) ∧ RdI w ai ci (hs.getD i []) ∧ (hs.getD i []).length ≤ 17592186044416

theorem RdM.below {w w' : World} {a : Option Addr} {cap : Nat} {hs : List (List Int)} (h : RdM w a cap hs) (hb : Below w.heap.size w w') : RdM w' a cap hs := by
  refine ⟨h.fits, fun i hi => ?_⟩
  obtain ⟨b, o, ai, ci, rfl, hc, hr, hl⟩ := h.rows i hi
  refine ⟨b, o, ai, ci, rfl, ?_, hr.below hb, hl⟩
  rw [hb.cell (World.block_lt_of_cell? w _ hc)]
  exact hc

/-- Where the rows lie, once for all worlds that keep what lay there. -/
theorem RdM.fix {w0 : World} {a : Option Addr} {cap : Nat} {hs : List (List Int)} (h : RdM w0 a cap hs) (hpos : 0 < hs.length) :
    ∃ b o, ∃ (A : Nat → Option Addr) (C : Nat → Nat), a = some ⟨b, o, none⟩ ∧ ∀ w, Below w0.heap.size w0 w → ∀ i, i < hs.length →
      w.cell? ⟨b, o + i, none⟩ = some (.slice (A i) (hs.getD i []).length (C i)) ∧ RdI w (A i) (C i) (hs.getD i []) ∧ (hs.getD i []).length ≤ 17592186044416 := by
  obtain ⟨b, o, _, _, rfl, _⟩ := h.rows 0 hpos
  have hx : ∀ i, ∃ p : Option Addr × Nat, i < hs.length → w0.cell? ⟨b, o + i, none⟩ = some (.slice p.1 (hs.getD i []).length p.2) ∧ RdI w0 p.1 p.2 (hs.getD i []) ∧ (hs.getD i []).length ≤ 17592186044416 := by
    intro i
    by_cases hi : i < hs.length
    · obtain ⟨b', o', ai, ci, e, hc, hr, hl⟩ := h.rows i hi
      simp only [Option.some.injEq, Addr.mk.injEq, and_true] at e
      obtain ⟨rfl, rfl⟩ := e
      exact ⟨(ai, ci), fun _ => ⟨hc, hr, hl⟩⟩
    · exact ⟨(none, 0), fun h => absurd h hi⟩
  refine ⟨b, o, fun i => (Classical.choose (hx i)).1, fun i => (Classical.choose (hx i)).2, rfl, fun w hb i hi => ?_⟩
  obtain ⟨hc, hr, hl⟩ := Classical.choose_spec (hx i) hi
  refine ⟨?_, hr.below hb, hl⟩
  rw [hb.cell (World.block_lt_of_cell? w0 _ hc)]
  exact hc

/-- Entry (i, j) of a list of rows. -/
def ent (hs : List (List Int)) (i j : Nat) : Int := (hs.getD i []).getD j 0

/-- Below the limit of the elimination. -/
def Small (x : Int) : Prop := -1073741824 < x ∧ x < 1073741824
instance (x : Int) : Decidable (Small x) := by unfold Small; infer_instance

set_option maxHeartbeats 400000 in
theorem belowLimit_any (x : Int) (w : World) : Calls Tryz.prog 108 #[.int .i64 x] w fun e w' => e = .returned (.bool (decide (Small x))) ∧ w = w' := by
  by_cases h1 : -1073741824 < x
  · by_cases h2 : x < 1073741824
    · have e : decide (Small x) = true := decide_eq_true ⟨h1, h2⟩
      have e2 : decide (x < 1073741824) = true := decide_eq_true h2
      rw [e]
      clear e
      go_enter Tryz.func108, Tryz.ntmps108
      go_wp2
      go_ret
      exact ⟨rfl, rfl⟩
    · have e : decide (Small x) = false := decide_eq_false fun h => h2 h.2
      have e2 : decide (x < 1073741824) = false := decide_eq_false h2
      rw [e]
      clear e
      go_enter Tryz.func108, Tryz.ntmps108
      go_wp2
      go_ret
      exact ⟨rfl, rfl⟩
  · have e : decide (Small x) = false := decide_eq_false fun h => h1 h.1
    have e2 : decide (-1073741824 < x) = false := decide_eq_false h1
    rw [e]
    clear e
    go_enter Tryz.func108, Tryz.ntmps108
    go_wp2
    go_ret
    exact ⟨rfl, rfl⟩

/-- The memory of a stage: cell 0 the number of rows, behind it the entries, eight a row. -/
def Stg (w : World) (b : Nat) (F : Nat → Int) : Prop := w.rowIs b 107 65 fun j => .int .i64 (F j)

theorem Stg.cell {w : World} {b : Nat} {F : Nat → Int} (h : Stg w b F) (i j : Nat) (hi : i < 8) (hj : j < 8) : w.cell? ⟨b, 1 + i * 8 + j, none⟩ = some (.int .i64 (F (1 + i * 8 + j))) :=
  World.rowIs.cell h (by omega)
theorem Stg.size {w : World} {b : Nat} {F : Nat → Int} (h : Stg w b F) : w.cell? ⟨b, 0, none⟩ = some (.int .i64 (F 0)) := World.rowIs.cell h (by omega)
theorem Stg.free {w : World} {b : Nat} {F : Nat → Int} (h : Stg w b F) (i : Nat) : w.frozen? ⟨b, i, none⟩ = false := World.rowIs.frozen h i
theorem Stg.drew {w : World} {b : Nat} {F : Nat → Int} (h : Stg w b F) (k : Nat) : Stg (w.drewN k) b F := h
end Go.Proofs.YtfpcfcegdjlggaaGreat
namespace Go.Proofs.YtfpcfcegdjlggaaGreat
open Go.RowKit

/-- The conditions of a reduced form at step k. -/
def RedAt (n : Nat) (F : Nat → Int) (k : Nat) : Prop :=
  0 < F (1 + k * 8 + k) ∧ (∀ i, k < i → i < n → 2 * F (1 + i * 8 + k) ≤ F (1 + k * 8 + k) ∧ -(2 * F (1 + i * 8 + k)) ≤ F (1 + k * 8 + k)) ∧
  (k + 1 = n ∨ 3 * F (1 + k * 8 + k) ≤ 4 * F (1 + (k + 1) * 8 + (k + 1)))

/-- A bool that says whether p; nothing but draws has happened. -/
def GivesIf (w : World) (p : Prop) (e : Ending) (w' : World) : Prop := ∃ r, e = .returned (.bool r) ∧ (r = true ↔ p) ∧ ∃ q, w.drewN q = w'
theorem givesIf_no {w w' : World} {p : Prop} {q : Nat} (h : ¬p) (hw : w.drewN q = w') : GivesIf w p (.returned (.bool false)) w' := ⟨false, rfl, by simp [h], q, hw⟩
theorem givesIf_mk {w w' : World} {p : Prop} {q : Nat} {r : Bool} (h : r = true ↔ p) (hw : w.drewN q = w') : GivesIf w p (.returned (.bool r)) w' := ⟨r, rfl, h, q, hw⟩
theorem givesIf_yes {w w' : World} {p : Prop} {q : Nat} (h : p) (hw : w.drewN q = w') : GivesIf w p (.returned (.bool true)) w' := ⟨true, rfl, by simp [h], q, hw⟩

set_option maxRecDepth 100000 in
set_option maxHeartbeats 1000000 in
theorem reducedAt_any (b n k : Nat) (F : Nat → Int) (w : World) (hS : Stg w b F) (h0 : F 0 = (n : Int)) (hk : k < n) (hn : n ≤ 8) (hF : ∀ i j, i < n → j ≤ i → Small (F (1 + i * 8 + j))) :
    Calls Tryz.prog 69 #[.pointer (some ⟨b, 0, none⟩), .int .i64 k] w (GivesIf w (RedAt n F k)) := by
  have hs := hS.size
  rw [h0] at hs
  have hc := hS.cell k k (by omega) (by omega)
  have hm := hF k k hk (Nat.le_refl _)
  obtain ⟨m, hmm⟩ : ∃ m, m = F (1 + k * 8 + k) := ⟨_, rfl⟩
  rw [← hmm] at hm hc
  have hm1 := hm.1
  have hm2 := hm.2
  by_cases hp : m ≤ 0
  · have hno : ¬RedAt n F k := fun h => by have := h.1; omega
    go_enter Tryz.func69, Tryz.ntmps69
    have HNO := Lib.hid hno
    clear hno
    go_wp2
    go_ret
    exact givesIf_no (q := 0) HNO.out rfl
  · have hp' : decide (m ≤ 0) = false := decide_eq_false hp
    have HM := Lib.hid hmm
    have HS := Lib.hid hS
    clear hmm hm hS
    go_enter Tryz.func69, Tryz.ntmps69
    go_wp2
    go_loopw [6] (fun i wr => ∃ j : Nat, k < j ∧ j ≤ n ∧ i = .int .i64 (j : Int) ∧ Hid (∀ i, k < i → i < j → 2 * F (1 + i * 8 + k) ≤ m ∧ -(2 * F (1 + i * 8 + k)) ≤ m) ∧ ∃ q, wr = w.drewN q) (fun i _ => n - (intOf i).toNat)
    case atStart => exact ⟨k + 1, by omega, by omega, by go_num, fun i h1 h2 => by omega, 0, rfl⟩
    case round =>
      obtain ⟨j, hkj, hjn, rfl, hall, q, rfl⟩ := hrel
      by_cases hj : j < n
      · have hcj := HS.out.cell j k (by omega) (by omega)
        have hFj := hF j k hj (by omega)
        obtain ⟨x, hx⟩ : ∃ x, x = F (1 + j * 8 + k) := ⟨_, rfl⟩
        rw [← hx] at hcj hFj
        have hf1 := hFj.1
        have hf2 := hFj.2
        have HX := Lib.hid hx
        clear hx hFj
        by_cases hb : 2 * x ≤ m ∧ -(2 * x) ≤ m
        · have hmx : decide (m < 2 * if x < -x then -x else x) = false := decide_eq_false (by split <;> omega)
          have hall' : Hid (∀ i, k < i → i < j + 1 → 2 * F (1 + i * 8 + k) ≤ m ∧ -(2 * F (1 + i * 8 + k)) ≤ m) := fun i h1 h2 => by
            by_cases e : i = j
            · rw [e, ← HX.out]; exact hb
            · exact hall.out i h1 (by omega)
          clear hb
          go_wp2
          go_quiet (fail)
          go_wp2
          go_roundw
          case rel => exact ⟨j + 1, by omega, by omega, by go_num, hall', _, rfl⟩
          case measure => simp [intOf]; omega
        · have hmx : decide (m < 2 * if x < -x then -x else x) = true := decide_eq_true (by split <;> omega)
          have hno : ¬RedAt n F k := fun h => hb (by have := h.2.1 j hkj hj; rw [HM.out, HX.out]; exact this)
          have HNO := Lib.hid hno
          clear hb hno
          go_wp2
          go_quiet (fail)
          go_wp2
          all_goals
            go_ret
            exact givesIf_no HNO.out rfl
      · obtain rfl : j = n := by omega
        by_cases hl : k + 1 = j
        · have he : ((k : Int) + 1 == (j : Int)) = true := by simp; omega
          have hyes : RedAt j F k := ⟨by rw [← HM.out]; omega, fun i h1 h2 => by rw [← HM.out]; exact hall.out i h1 h2, .inl hl⟩
          have HY := Lib.hid hyes
          clear hl hall hyes
          go_wp2
          go_ret
          exact givesIf_yes HY.out rfl
        · have he : ((k : Int) + 1 == (j : Int)) = false := by simp; omega
          have hcj := HS.out.cell (k + 1) (k + 1) (by omega) (by omega)
          have hFj := hF (k + 1) (k + 1) (by omega) (by omega)
          obtain ⟨x, hx⟩ : ∃ x, x = F (1 + (k + 1) * 8 + (k + 1)) := ⟨_, rfl⟩
          rw [← hx] at hcj hFj
          have hf1 := hFj.1
          have hf2 := hFj.2
          have HX := Lib.hid hx
          have hiff : (decide (3 * m ≤ 4 * x) = true ↔ RedAt j F k) := by
            rw [decide_eq_true_iff]
            refine ⟨fun h => ⟨by rw [← HM.out]; omega, fun i h1 h2 => by rw [← HM.out]; exact hall.out i h1 h2, .inr (by rw [← HM.out, ← HX.out]; exact h)⟩, fun h => ?_⟩
            rcases h.2.2 with h3 | h3
            · exact absurd h3 hl
            · rw [← HM.out, ← HX.out] at h3; exact h3
          have HI := Lib.hid hiff
          have hk8 : (k : Int) + 1 < 8 := by omega
          clear hx hFj hl hall hiff
          go_wp2
          go_ret
          exact givesIf_mk HI.out rfl
end Go.Proofs.YtfpcfcegdjlggaaGreat
namespace Go.Proofs.YtfpcfcegdjlggaaGreat
open Go.RowKit

/-- The new entry. -/
def stepE (F : Nat → Int) (k : Nat) (d : Int) (i j : Nat) : Int := Int.tdiv (F (1 + k * 8 + k) * F (1 + i * 8 + j) - F (1 + i * 8 + k) * F (1 + j * 8 + k)) d

/-- G is F but for the entries with k < j ≤ i that lie ahead of (i0, j0): these are the new ones, and below the limit. -/
structure Upto (n : Nat) (F : Nat → Int) (k : Nat) (d : Int) (i0 j0 : Nat) (G : Nat → Int) : Prop where
  done : ∀ i j, k < j → j ≤ i → i < n → (i < i0 ∨ (i = i0 ∧ j < j0)) → G (1 + i * 8 + j) = stepE F k d i j ∧ Small (stepE F k d i j)
  kept : ∀ i j, j < 8 → ¬(k < j ∧ j ≤ i ∧ i < n ∧ (i < i0 ∨ (i = i0 ∧ j < j0))) → G (1 + i * 8 + j) = F (1 + i * 8 + j)
  size : G 0 = F 0

/-- All new entries are below the limit. -/
def Lims (n : Nat) (F : Nat → Int) (k : Nat) (d : Int) : Prop := ∀ i j, k < j → j ≤ i → i < n → Small (stepE F k d i j)

/-- What eliminate gives. -/
def GivesStep (w : World) (b n : Nat) (F : Nat → Int) (k : Nat) (d : Int) (e : Ending) (w' : World) : Prop :=
  (Lims n F k d ∧ e = .returned (.bool true) ∧ ∃ G, Upto n F k d n 0 G ∧ Stg w' b G ∧ w.grownBy w' (some b)) ∨ (¬Lims n F k d ∧ e = .returned (.bool false) ∧ w.grownBy w' (some b))

theorem grownBy_drewNY {a w : World} {row : Option Nat} (h : a.grownBy w row) (n : Nat) : a.grownBy (w.drewN n) row := ⟨h.os, h.tape, h.output, h.size, h.block⟩
theorem grownBy_setCell {a w : World} {g : Nat} (h : a.grownBy w (some g)) (i : Nat) (u : Value) : a.grownBy (w.setCell ⟨g, i, none⟩ u) (some g) :=
  ⟨h.os, h.tape, h.output, by simpa [World.setCell] using h.size, fun j hj hne => (Below.heap_setCell w ⟨g, i, none⟩ u j (fun e => hne (by rw [e]))).trans (h.block j hj hne)⟩
theorem grownBy_refl (w : World) (row : Option Nat) : w.grownBy w row := ⟨rfl, rfl, rfl, Nat.le_refl _, fun _ _ _ => rfl⟩
theorem grownBy_transY {a b c : World} {g : Nat} (h : a.grownBy b (some g)) (h2 : b.grownBy c (some g)) : a.grownBy c (some g) :=
  ⟨h2.os.trans h.os, h2.tape.trans h.tape, h2.output.trans h.output, Nat.le_trans h.size h2.size, fun j hj hne => (h2.block j (Nat.lt_of_lt_of_le hj h.size) hne).trans (h.block j hj hne)⟩
theorem below_of_grownBy {a w w' : World} {B g : Nat} (h : Below B a w) (hg : w.grownBy w' (some g)) (hB : B ≤ w.heap.size) (hgB : B ≤ g) : Below B a w' :=
  h.grown hg hB (fun k hk => by simp only [Option.some.injEq] at hk; omega)

theorem Stg.set {w : World} {b : Nat} {F : Nat → Int} (h : Stg w b F) (i : Nat) (v : Int) : Stg (w.setCell ⟨b, i, none⟩ (.int .i64 v)) b (fun j => if j = i then v else F j) :=
  World.rowIs.congr (World.rowIs.set h i _) fun j _ => by by_cases e : j = i <;> simp [e]

theorem Upto.start (n : Nat) (F : Nat → Int) (k : Nat) (d : Int) : Upto n F k d (k + 1) (k + 1) F := by
  refine ⟨fun i j h1 h2 h3 h4 => ?_, fun i j _ _ => rfl, rfl⟩
  omega

theorem Upto.row {n : Nat} {F G : Nat → Int} {k : Nat} {d : Int} {i0 : Nat} (h : Upto n F k d i0 (i0 + 1) G) : Upto n F k d (i0 + 1) (k + 1) G :=
  ⟨fun i j h1 h2 h3 h4 => h.done i j h1 h2 h3 (by omega), fun i j h1 h2 => h.kept i j h1 (by omega), h.size⟩

theorem Upto.last {n : Nat} {F G : Nat → Int} {k : Nat} {d : Int} (h : Upto n F k d n (k + 1) G) : Upto n F k d n 0 G :=
  ⟨fun i j h1 h2 h3 h4 => h.done i j h1 h2 h3 (by omega), fun i j h1 h2 => h.kept i j h1 (by omega), h.size⟩

theorem Upto.one {n : Nat} {F G : Nat → Int} {k : Nat} {d : Int} {i0 j0 : Nat} (h : Upto n F k d i0 j0 G) (hk : k < j0) (hj : j0 ≤ i0) (hi : i0 < n) (hn : n ≤ 8) (hs : Small (stepE F k d i0 j0)) :
    Upto n F k d i0 (j0 + 1) (fun c => if c = 1 + i0 * 8 + j0 then stepE F k d i0 j0 else G c) := by
  refine ⟨fun i j h1 h2 h3 h4 => ?_, fun i j h1 h2 => ?_, ?_⟩
  · by_cases e : i = i0 ∧ j = j0
    · obtain ⟨rfl, rfl⟩ := e
      exact ⟨if_pos rfl, hs⟩
    · have hne : 1 + i * 8 + j ≠ 1 + i0 * 8 + j0 := by omega
      show (if _ then _ else _) = _ ∧ _
      rw [if_neg hne]
      exact h.done i j h1 h2 h3 (by omega)
  · have hne : 1 + i * 8 + j ≠ 1 + i0 * 8 + j0 := by omega
    show (if _ then _ else _) = _
    rw [if_neg hne]
    exact h.kept i j h1 (by omega)
  · show (if _ then _ else _) = _
    rw [if_neg (by omega)]
    exact h.size

/-- The product of two entries. -/
theorem prod_small {x y : Int} (hx : Small x) (hy : Small y) : ∃ P : Int, x * y = P ∧ -1152921504606846976 ≤ P ∧ P ≤ 1152921504606846976 := by
  have h : (x * y).natAbs ≤ 1073741824 * 1073741824 := by
    rw [Int.natAbs_mul]
    exact Nat.mul_le_mul (by have := hx.1; have := hx.2; omega) (by have := hy.1; have := hy.2; omega)
  exact ⟨_, rfl, by omega, by omega⟩

theorem tdiv_bound {x d : Int} (_hd : 0 < d) (h1 : -2305843009213693952 ≤ x) (h2 : x ≤ 2305843009213693952) : -2305843009213693952 ≤ Int.tdiv x d ∧ Int.tdiv x d ≤ 2305843009213693952 := by
  have h : (Int.tdiv x d).natAbs = x.natAbs / d.natAbs := Int.natAbs_tdiv x d
  have h3 : x.natAbs / d.natAbs ≤ x.natAbs := Nat.div_le_self _ _
  have h4 : (Int.tdiv x d).natAbs ≤ x.natAbs := by rw [h]; exact h3
  clear h h3
  omega

set_option maxRecDepth 100000 in
set_option maxHeartbeats 2000000 in
theorem eliminate_any (b n k : Nat) (F : Nat → Int) (d : Int) (w : World) (hS : Stg w b F) (h0 : F 0 = (n : Int)) (hk : k < n) (hn : n ≤ 8) (hF : ∀ i j, i < n → j ≤ i → Small (F (1 + i * 8 + j))) (hd : 0 < d) (hd2 : d < 1073741824) :
    Calls Tryz.prog 70 #[.pointer (some ⟨b, 0, none⟩), .int .i64 k, .int .i64 d] w (GivesStep w b n F k d) := by
  have H0 := Lib.hid h0
  have HS := Lib.hid hS
  clear h0 hS
  go_enter Tryz.func70, Tryz.ntmps70
  go_wp2_with fail
  go_loopw [7] (fun ii wr => ∃ (i : Nat) (G : Nat → Int), k < i ∧ i ≤ n ∧ ii = .int .i64 (i : Int) ∧ Hid (Upto n F k d i (k + 1) G) ∧ Hid (Stg wr b G) ∧ w.grownBy wr (some b)) (fun ii _ => n - (intOf ii).toNat)
  case atStart => exact ⟨k + 1, F, by omega, by omega, by go_num, Upto.start n F k d, HS, grownBy_refl _ _⟩
  case round =>
    obtain ⟨i, G, hki, hin, rfl, hU, hG, hgr⟩ := hrel
    have hsz := hG.out.size
    rw [hU.out.size, H0.out] at hsz
    by_cases hi : i < n
    · go_wp2_with fail
      go_loopw [8] (fun jj wq => ∃ (j : Nat) (G2 : Nat → Int), k < j ∧ j ≤ i + 1 ∧ jj = .int .i64 (j : Int) ∧ Hid (Upto n F k d i j G2) ∧ Hid (Stg wq b G2) ∧ w.grownBy wq (some b)) (fun jj _ => i + 1 - (intOf jj).toNat)
      case atStart => exact ⟨k + 1, G, by omega, by omega, by go_num, hU, hG, hgr⟩
      case round =>
        obtain ⟨j, G2, hkj, hji, rfl, hU2, hG2, hgr2⟩ := hrel
        clear hU hG hgr hsz
        by_cases hj : j ≤ i
        · have c1 := hG2.out.cell k k (by omega) (by omega)
          have c2 := hG2.out.cell i j (by omega) (by omega)
          have c3 := hG2.out.cell i k (by omega) (by omega)
          have c4 := hG2.out.cell j k (by omega) (by omega)
          have hfree := hG2.out.free (1 + i * 8 + j)
          rw [hU2.out.kept k k (by omega) (by omega)] at c1
          rw [hU2.out.kept i j (by omega) (by omega)] at c2
          rw [hU2.out.kept i k (by omega) (by omega)] at c3
          rw [hU2.out.kept j k (by omega) (by omega)] at c4
          obtain ⟨P1, hP1, p1, p2⟩ := prod_small (hF k k hk (Nat.le_refl _)) (hF i j hi hj)
          obtain ⟨P2, hP2, p3, p4⟩ := prod_small (hF i k hi (by omega)) (hF j k (by omega) (by omega))
          obtain ⟨z, hz⟩ : ∃ z, Int.tdiv (P1 - P2) d = z := ⟨_, rfl⟩
          obtain ⟨z1, z2⟩ := tdiv_bound (x := P1 - P2) hd (by omega) (by omega)
          rw [hz] at z1 z2
          have hst : stepE F k d i j = z := by unfold stepE; rw [hP1, hP2, hz]
          obtain ⟨x1, hx1⟩ : ∃ x, x = F (1 + k * 8 + k) := ⟨_, rfl⟩
          obtain ⟨x2, hx2⟩ : ∃ x, x = F (1 + i * 8 + j) := ⟨_, rfl⟩
          obtain ⟨x3, hx3⟩ : ∃ x, x = F (1 + i * 8 + k) := ⟨_, rfl⟩
          obtain ⟨x4, hx4⟩ : ∃ x, x = F (1 + j * 8 + k) := ⟨_, rfl⟩
          rw [← hx1] at c1 hP1
          rw [← hx2] at c2 hP1
          rw [← hx3] at c3 hP2
          rw [← hx4] at c4 hP2
          clear hx1 hx2 hx3 hx4
          have HST := Lib.hid hst
          clear hst
          go_wp2_with fail
          go_quiet (fail)
          go_wp2_with fail
          refine (belowLimit_any z _).mono ?_
          rintro e w1 ⟨rfl, rfl⟩
          by_cases hsm : Small z
          · have hdc : decide (Small z) = true := decide_eq_true hsm
            rw [hdc]
            have hnx : Hid (Upto n F k d i (j + 1) (fun c => if c = 1 + i * 8 + j then z else G2 c)) := by
              have h := hU2.out.one hkj hj hi hn (by rw [HST.out]; exact hsm)
              rw [HST.out] at h
              exact h
            clear hdc hsm
            go_wp2_with fail
            go_roundw
            case rel => exact ⟨j + 1, _, by omega, by omega, by go_num, hnx, (hG2.out.drew nq).set (1 + i * 8 + j) z, grownBy_setCell (grownBy_drewNY hgr2 nq) _ _⟩
            case measure => simp [intOf]; omega
          · have hdc : decide (Small z) = false := decide_eq_false hsm
            rw [hdc]
            have hno : Hid (¬Lims n F k d) := fun h => hsm (by rw [← HST.out]; exact h i j hkj hj hi)
            clear hdc hsm
            go_wp2_with fail
            go_ret
            exact .inr ⟨hno.out, rfl, grownBy_drewNY hgr2 nq⟩
        · obtain rfl : j = i + 1 := by omega
          go_wp2_with fail
          go_roundw
          case rel => exact ⟨i + 1, G2, by omega, by omega, by go_num, hU2.out.row, hG2, hgr2⟩
          case measure => simp [intOf]; omega
    · obtain rfl : i = n := by omega
      go_wp2_with fail
      go_ret
      exact .inl ⟨fun a c h1 h2 h3 => (hU.out.done a c h1 h2 h3 (.inl h3)).2, rfl, G, hU.out.last, hG.out, hgr⟩
end Go.Proofs.YtfpcfcegdjlggaaGreat
namespace Go.Proofs.YtfpcfcegdjlggaaGreat
open Go.RowKit

/-- The rows are those of a symmetric matrix with 1 to 8 rows and entries below the limit. -/
def ReadOk (hs : List (List Int)) : Prop :=
  (1 ≤ hs.length ∧ hs.length ≤ 8) ∧ (∀ i, i < hs.length → (hs.getD i []).length = hs.length) ∧ ∀ i j, j ≤ i → i < hs.length → ent hs i j = ent hs j i ∧ Small (ent hs i j)

structure RdUpto (hs : List (List Int)) (i0 j0 : Nat) (G : Nat → Int) : Prop where
  done : ∀ i j, j ≤ i → i < hs.length → (i < i0 ∨ (i = i0 ∧ j < j0)) → (ent hs i j = ent hs j i ∧ Small (ent hs i j)) ∧ G (1 + i * 8 + j) = ent hs i j
  size : G 0 = (hs.length : Int)

def GivesRead (w : World) (b : Nat) (hs : List (List Int)) (e : Ending) (w' : World) : Prop :=
  (ReadOk hs ∧ e = .returned (.bool true) ∧ ∃ G, RdUpto hs hs.length 0 G ∧ Stg w' b G ∧ w.grownBy w' (some b)) ∨ (¬ReadOk hs ∧ e = .returned (.bool false) ∧ w.grownBy w' (some b))

theorem RdUpto.row {hs : List (List Int)} {i0 : Nat} {G : Nat → Int} (h : RdUpto hs i0 (i0 + 1) G) : RdUpto hs (i0 + 1) 0 G :=
  ⟨fun i j h1 h2 h3 => h.done i j h1 h2 (by omega), h.size⟩

theorem RdUpto.one {hs : List (List Int)} {i0 j0 : Nat} {G : Nat → Int} (h : RdUpto hs i0 j0 G) (hj : j0 ≤ i0) (hi : i0 < hs.length) (hn : hs.length ≤ 8) (he : ent hs i0 j0 = ent hs j0 i0) (hs' : Small (ent hs i0 j0)) :
    RdUpto hs i0 (j0 + 1) (fun c => if c = 1 + i0 * 8 + j0 then ent hs i0 j0 else G c) := by
  refine ⟨fun i j h1 h2 h3 => ?_, ?_⟩
  · by_cases e : i = i0 ∧ j = j0
    · obtain ⟨rfl, rfl⟩ := e
      exact ⟨⟨he, hs'⟩, if_pos rfl⟩
    · have hne : 1 + i * 8 + j ≠ 1 + i0 * 8 + j0 := by omega
      show _ ∧ (if _ then _ else _) = _
      rw [if_neg hne]
      exact h.done i j h1 h2 (by omega)
  · show (if _ then _ else _) = _
    rw [if_neg (by omega)]
    exact h.size

set_option maxRecDepth 100000 in
set_option maxHeartbeats 2000000 in
theorem read_any (b : Nat) (F : Nat → Int) (a : Option Addr) (n cap : Nat) (hs : List (List Int)) (w w0 : World) (hS : Stg w b F) (h0 : F 0 = (n : Int)) (hl : hs.length = n) (hn : n ≤ 100000000000000)
    (hr : RdM w0 a cap hs) (hB : ∀ wr, w.grownBy wr (some b) → Below w0.heap.size w0 wr) :
    Calls Tryz.prog 68 #[.pointer (some ⟨b, 0, none⟩), .slice a n cap] w (GivesRead w b hs) := by
  have hsz := hS.size
  rw [h0] at hsz
  have H0 := Lib.hid h0
  have HS := Lib.hid hS
  have HB := Lib.hid hB
  have HL := Lib.hid hl
  clear h0 hS hB hl
  by_cases h1 : n < 1
  · obtain rfl : n = 0 := by omega
    have hno : Hid (¬ReadOk hs) := fun h => by have := h.1.1; rw [HL.out] at this; omega
    go_enter Tryz.func68, Tryz.ntmps68
    go_wp2_with fail
    go_ret
    exact .inr ⟨hno.out, rfl, grownBy_refl _ _⟩
  · by_cases h8 : 8 < n
    · have hno : Hid (¬ReadOk hs) := fun h => by have := h.1.2; rw [HL.out] at this; omega
      have d1 : decide ((n : Int) < 1) = false := decide_eq_false (by omega)
      have d2 : decide ((8 : Int) < (n : Int)) = true := decide_eq_true (by omega)
      go_enter Tryz.func68, Tryz.ntmps68
      go_wp2_with fail
      go_ret
      exact .inr ⟨hno.out, rfl, grownBy_refl _ _⟩
    · have d1 : decide ((n : Int) < 1) = false := decide_eq_false (by omega)
      have d2 : decide ((8 : Int) < (n : Int)) = false := decide_eq_false (by omega)
      obtain ⟨hb, ho, A, C, rfl, hfix⟩ := hr.fix (by rw [HL.out]; omega)
      have HF := Lib.hid hfix
      clear hr hfix
      go_enter Tryz.func68, Tryz.ntmps68
      go_wp2_with fail
      clear d1 d2
      go_loop [25] (fun ii => ∃ i : Nat, i ≤ n ∧ ii = .int .i64 (i : Int) ∧ Hid (∀ c, c < i → (hs.getD c []).length = n)) (fun ii => n - (intOf ii).toNat)
      case atStart => exact ⟨0, by omega, rfl, fun c hc => by omega⟩
      case round =>
        obtain ⟨i, hin, rfl, hlen⟩ := hrel
        by_cases hi : i < n
        · obtain ⟨hc, hri, hli⟩ := HF.out w (HB.out w (grownBy_refl _ _)) i (by rw [HL.out]; exact hi)
          obtain ⟨m, hm⟩ : ∃ m, m = (hs.getD i []).length := ⟨_, rfl⟩
          rw [← hm] at hc hli
          by_cases he : m = n
          · have hnx : Hid (∀ c, c < i + 1 → (hs.getD c []).length = n) := fun c hc => by
              by_cases e : c = i
              · rw [e, ← hm, he]
              · exact hlen.out c (by omega)
            subst he
            clear hm hri hlen
            go_wp2_with fail
            go_round
            case rel => exact ⟨i + 1, by omega, by go_num, hnx⟩
            case measure => simp [intOf]; omega
          · have hne : (((m : Nat) : Int) == (n : Int)) = false := by simp; omega
            have hno : Hid (¬ReadOk hs) := fun h => he (by have := h.2.1 i (by rw [HL.out]; exact hi); rw [hm, this, HL.out])
            clear hm hri hlen he
            go_wp2_with fail
            go_ret
            exact .inr ⟨hno.out, rfl, grownBy_refl _ _⟩
        · obtain rfl : i = n := by omega
          have hsq : Hid (∀ c, c < hs.length → (hs.getD c []).length = i) := fun c hc => hlen.out c (by rw [← HL.out]; exact hc)
          have hst : Hid (RdUpto hs 0 0 F) := ⟨fun i j h1 h2 h3 => by omega, by rw [H0.out, HL.out]⟩
          clear hlen hi
          go_wp2_with fail
          go_loopw [39] (fun ii wr => ∃ (k : Nat) (G : Nat → Int), k ≤ i ∧ ii = .int .i64 (k : Int) ∧ Hid (RdUpto hs k 0 G) ∧ Hid (Stg wr b G) ∧ w.grownBy wr (some b)) (fun ii _ => i - (intOf ii).toNat)
          case atStart => exact ⟨0, F, by omega, rfl, hst, HS, grownBy_refl _ _⟩
          case round =>
            obtain ⟨k, G, hki, rfl, hU, hG, hgr⟩ := hrel
            by_cases hk : k < i
            · obtain ⟨hc, hrk, hlk⟩ := HF.out _ (HB.out _ hgr) k (by rw [HL.out]; exact hk)
              have hlen := hsq.out k (by rw [HL.out]; exact hk)
              obtain ⟨hb2, ho2, hA, _⟩ := hrk.cells 0 (by rw [hlen]; omega)
              have hfit := hrk.fits
              rw [hlen] at hc hfit
              rw [hA] at hc
              obtain ⟨ck, hck⟩ : ∃ c, c = C k := ⟨_, rfl⟩
              rw [← hck] at hc hfit
              have HA := Lib.hid hA
              have HC := Lib.hid hck
              clear hrk hlen hlk hA hck
              go_wp2_with fail
              go_loopw [49] (fun jj wq => ∃ (j : Nat) (G2 : Nat → Int), j ≤ k + 1 ∧ jj = .int .i64 (j : Int) ∧ Hid (RdUpto hs k j G2) ∧ Hid (Stg wq b G2) ∧ w.grownBy wq (some b)) (fun jj _ => k + 1 - (intOf jj).toNat)
              case atStart => exact ⟨0, G, by omega, rfl, hU, hG, hgr⟩
              case round =>
                obtain ⟨j, G2, hjk, rfl, hU2, hG2, hgr2⟩ := hrel
                clear hU hG hc hfit
                by_cases hj : j ≤ k
                · obtain ⟨hc, hrk, hlk⟩ := HF.out _ (HB.out _ hgr2) k (by rw [HL.out]; exact hk)
                  obtain ⟨hcj, hrj, hlj⟩ := HF.out _ (HB.out _ hgr2) j (by rw [HL.out]; omega)
                  have hlenk := hsq.out k (by rw [HL.out]; exact hk)
                  have hlenj := hsq.out j (by rw [HL.out]; omega)
                  obtain ⟨b1, o1, e1, hx1⟩ := hrk.cells j (by rw [hlenk]; omega)
                  rw [HA.out] at e1
                  simp only [Option.some.injEq, Addr.mk.injEq, and_true] at e1
                  obtain ⟨rfl, rfl⟩ := e1
                  obtain ⟨b3, o3, e3, hx3⟩ := hrj.cells k (by rw [hlenj]; omega)
                  rw [hlenj, e3] at hcj
                  have hfree := hG2.out.free (1 + k * 8 + j)
                  have hcell := hG2.out.cell k j (by omega) (by omega)
                  obtain ⟨x, hx⟩ : ∃ x, x = ent hs k j := ⟨_, rfl⟩
                  obtain ⟨y, hy⟩ : ∃ y, y = ent hs j k := ⟨_, rfl⟩
                  have hx' : x = (hs.getD k []).getD j 0 := hx
                  have hy' : y = (hs.getD j []).getD k 0 := hy
                  rw [← hx'] at hx1
                  rw [← hy'] at hx3
                  have HX := Lib.hid hx
                  have HY := Lib.hid hy
                  clear hx hy hx' hy' hrk hrj hlk hlj hlenk hlenj hc e3
                  by_cases hxy : x = y
                  · subst hxy
                    by_cases hsm : Small x
                    · have hdc : decide (Small x) = true := decide_eq_true hsm
                      have hnx : Hid (RdUpto hs k (j + 1) (fun c => if c = 1 + k * 8 + j then x else G2 c)) := by
                        have h := hU2.out.one hj (by rw [HL.out]; exact hk) (by rw [HL.out]; omega) (by rw [← HX.out, ← HY.out]) (by rw [← HX.out]; exact hsm)
                        rw [← HX.out] at h
                        exact h
                      have HD := Lib.hid hdc
                      clear hdc hsm
                      go_wp2_with fail
                      refine (belowLimit_any x _).mono ?_
                      rintro e w1 ⟨rfl, rfl⟩
                      rw [HD.out]
                      go_wp2_with fail
                      go_roundw
                      case rel => exact ⟨j + 1, _, by omega, by go_num, hnx, hG2.out.set (1 + k * 8 + j) x, grownBy_setCell hgr2 _ _⟩
                      case measure => simp [intOf]; omega
                    · have hdc : decide (Small x) = false := decide_eq_false hsm
                      have hno : Hid (¬ReadOk hs) := fun h => hsm (by rw [HX.out]; exact (h.2.2 k j hj (by rw [HL.out]; exact hk)).2)
                      have HD := Lib.hid hdc
                      clear hdc hsm
                      go_wp2_with fail
                      refine (belowLimit_any x _).mono ?_
                      rintro e w1 ⟨rfl, rfl⟩
                      rw [HD.out]
                      go_wp2_with fail
                      go_ret
                      exact .inr ⟨hno.out, rfl, hgr2⟩
                  · have hne : decide (x = y) = false := decide_eq_false hxy
                    have hno : Hid (¬ReadOk hs) := fun h => hxy (by rw [HX.out, HY.out]; exact (h.2.2 k j hj (by rw [HL.out]; exact hk)).1)
                    go_wp2_with fail
                    go_ret
                    exact .inr ⟨hno.out, rfl, hgr2⟩
                · obtain rfl : j = k + 1 := by omega
                  go_wp2_with fail
                  go_roundw
                  case rel => exact ⟨k + 1, G2, by omega, by go_num, hU2.out.row, hG2, hgr2⟩
                  case measure => simp [intOf]; omega
            · obtain rfl : k = i := by omega
              have hyes : Hid (ReadOk hs) := ⟨by rw [HL.out]; omega, fun c hc => by rw [hsq.out c hc, HL.out], fun i j h1 h2 => (hU.out.done i j h1 h2 (by rw [HL.out] at h2; exact .inl h2)).1⟩
              go_wp2_with fail
              go_ret
              exact .inl ⟨hyes.out, rfl, G, by rw [HL.out]; exact hU.out, hG.out, hgr⟩
end Go.Proofs.YtfpcfcegdjlggaaGreat
namespace Go.Proofs.YtfpcfcegdjlggaaGreat
open Go.RowKit

/-- The cells behind the step from stage k. -/
def next (n : Nat) (F : Nat → Int) (k : Nat) (d : Int) (c : Nat) : Int :=
  if 1 ≤ c ∧ k < (c - 1) % 8 ∧ (c - 1) % 8 ≤ (c - 1) / 8 ∧ (c - 1) / 8 < n then stepE F k d ((c - 1) / 8) ((c - 1) % 8) else F c

theorem next_eq {n : Nat} {F G : Nat → Int} {k : Nat} {d : Int} (h : Upto n F k d n 0 G) : G = next n F k d := by
  funext c
  by_cases h0 : c = 0
  · subst h0
    rw [h.size]; unfold next; rw [if_neg (by omega)]
  · have hc : c = 1 + (c - 1) / 8 * 8 + (c - 1) % 8 := by omega
    unfold next
    split
    · rename_i hx
      have := (h.done ((c - 1) / 8) ((c - 1) % 8) hx.2.1 hx.2.2.1 hx.2.2.2 (.inl hx.2.2.2)).1
      rw [← hc] at this
      exact this
    · rename_i hx
      have := h.kept ((c - 1) / 8) ((c - 1) % 8) (by omega) (by omega)
      rw [← hc] at this
      exact this

theorem next_at {n : Nat} {F : Nat → Int} {k : Nat} {d : Int} {i j : Nat} (h : k < j ∧ j ≤ i ∧ i < n) (hj : j < 8) : next n F k d (1 + i * 8 + j) = stepE F k d i j := by
  have e1 : (1 + i * 8 + j - 1) / 8 = i := by omega
  have e2 : (1 + i * 8 + j - 1) % 8 = j := by omega
  unfold next
  rw [e1, e2, if_pos ⟨by omega, h⟩]
theorem next_old {n : Nat} {F : Nat → Int} {k : Nat} {d : Int} {i j : Nat} (h : ¬(k < j ∧ j ≤ i ∧ i < n)) (hj : j < 8) : next n F k d (1 + i * 8 + j) = F (1 + i * 8 + j) := by
  have e1 : (1 + i * 8 + j - 1) / 8 = i := by omega
  have e2 : (1 + i * 8 + j - 1) % 8 = j := by omega
  unfold next
  rw [e1, e2, if_neg (fun h' => h h'.2)]

/-- The steps from stage k on say yes. -/
def Red (n : Nat) : Nat → Nat → (Nat → Int) → Int → Prop
  | 0, _, _, d => d ≤ 10000
  | r + 1, k, F, d => RedAt n F k ∧ Lims n F k d ∧ Red n r (k + 1) (next n F k d) (F (1 + k * 8 + k))

/-- The cells that the rows make. -/
def cellsOf (hs : List (List Int)) (c : Nat) : Int := ent hs ((c - 1) / 8) ((c - 1) % 8)

theorem cellsOf_at (hs : List (List Int)) (i j : Nat) (hj : j < 8) : cellsOf hs (1 + i * 8 + j) = ent hs i j := by
  have e1 : (1 + i * 8 + j - 1) / 8 = i := by omega
  have e2 : (1 + i * 8 + j - 1) % 8 = j := by omega
  unfold cellsOf
  rw [e1, e2]

/-- The rows are those of a reduced form. -/
def IsRed (hs : List (List Int)) : Prop := ReadOk hs ∧ Red hs.length hs.length 0 (cellsOf hs) 1

theorem redAt_congr {n : Nat} {F G : Nat → Int} (h : ∀ i j, j ≤ i → i < n → F (1 + i * 8 + j) = G (1 + i * 8 + j)) (k : Nat) (hk : k < n) : RedAt n F k ↔ RedAt n G k := by
  unfold RedAt
  rw [h k k (Nat.le_refl _) hk]
  have e2 : (k + 1 = n ∨ 3 * G (1 + k * 8 + k) ≤ 4 * F (1 + (k + 1) * 8 + (k + 1))) ↔ (k + 1 = n ∨ 3 * G (1 + k * 8 + k) ≤ 4 * G (1 + (k + 1) * 8 + (k + 1))) := by
    by_cases hk1 : k + 1 = n
    · simp [hk1]
    · rw [h (k + 1) (k + 1) (Nat.le_refl _) (by omega)]
  rw [e2]
  constructor
  · rintro ⟨h1, h2, h3⟩
    exact ⟨h1, fun i a b => by rw [← h i k (by omega) b]; exact h2 i a b, h3⟩
  · rintro ⟨h1, h2, h3⟩
    exact ⟨h1, fun i a b => by rw [h i k (by omega) b]; exact h2 i a b, h3⟩

theorem stepE_congr {n : Nat} {F G : Nat → Int} (h : ∀ i j, j ≤ i → i < n → F (1 + i * 8 + j) = G (1 + i * 8 + j)) {k : Nat} {d : Int} {i j : Nat} (h1 : k < j) (h2 : j ≤ i) (h3 : i < n) : stepE F k d i j = stepE G k d i j := by
  unfold stepE
  rw [h k k (Nat.le_refl _) (by omega), h i j h2 h3, h i k (by omega) h3, h j k (by omega) (by omega)]

theorem red_congr {n : Nat} (hn : n ≤ 8) : ∀ (r k : Nat) {F G : Nat → Int} (d : Int), r + k = n → (∀ i j, j ≤ i → i < n → F (1 + i * 8 + j) = G (1 + i * 8 + j)) → (Red n r k F d ↔ Red n r k G d)
  | 0, k, F, G, d, _, h => Iff.rfl
  | r + 1, k, F, G, d, hk, h => by
    have hk' : k < n := by omega
    have e1 := redAt_congr h k hk'
    have e2 : Lims n F k d ↔ Lims n G k d := by
      constructor
      · intro hx i j a b c; rw [← stepE_congr h a b c]; exact hx i j a b c
      · intro hx i j a b c; rw [stepE_congr h a b c]; exact hx i j a b c
    have e3 := red_congr hn r (k + 1) (F := next n F k d) (G := next n G k d) (F (1 + k * 8 + k)) (by omega) (fun i j a b => by
      by_cases hx : k < j ∧ j ≤ i ∧ i < n
      · rw [next_at hx (by omega), next_at hx (by omega)]; exact stepE_congr h hx.1 a b
      · rw [next_old hx (by omega), next_old hx (by omega)]; exact h i j a b)
    unfold Red
    rw [e1, e2, e3, h k k (Nat.le_refl _) hk']

def GivesBY (w : World) (p : Prop) (e : Ending) (w' : World) : Prop := ∃ r, e = .returned (.bool r) ∧ (r = true ↔ p) ∧ Below w.heap.size w w'
theorem givesB_no {w w' : World} {p : Prop} (h : ¬p) (hw : Below w.heap.size w w') : GivesBY w p (.returned (.bool false)) w' := ⟨false, rfl, by simp [h], hw⟩
theorem givesB_mk {w w' : World} {p : Prop} {r : Bool} (h : r = true ↔ p) (hw : Below w.heap.size w w') : GivesBY w p (.returned (.bool r)) w' := ⟨r, rfl, h, hw⟩

set_option maxRecDepth 100000 in
theorem zeroStage : Tryz.zeroCells107 = Array.replicate 65 (.int .i64 0) := by kernel_rfl
theorem stageSize : (Tryz.prog.info? 107).map (·.size) = some 65 := by kernel_rfl

theorem stage_store (n : Nat) (w : World) : (storeCells ⟨w.heap.size, 0, none⟩ (Tryz.zeroCells107.toList.set 0 (.int .i64 (n : Int))) 0).run Tryz.prog (w.alloc (.cells Tryz.zeroCells107 107)) =
    .ok () (w.alloc (.cells (Tryz.zeroCells107.setIfInBounds 0 (.int .i64 (n : Int))) 107)) := by
  have h := run_storeCells_new (P := Tryz.prog) w 107 Tryz.zeroCells107 (Tryz.zeroCells107.setIfInBounds 0 (.int .i64 (n : Int))) (by rw [stageSize, zeroStage]; simp) (by simp) (by
    rw [zeroStage]
    simp only [Array.all_eq_true_iff_forall_mem]
    intro x hx
    obtain ⟨i, hi⟩ := Array.mem_iff_getElem?.1 hx
    rw [Array.getElem?_setIfInBounds] at hi
    split at hi
    · split at hi
      · simp only [Option.some.injEq] at hi; rw [← hi]; rfl
      · cases hi
    · rw [Array.getElem?_replicate] at hi
      split at hi
      · simp only [Option.some.injEq] at hi; rw [← hi]; rfl
      · cases hi)
  rwa [Array.toList_setIfInBounds] at h

theorem stage_made (n : Nat) (w : World) : Stg (w.alloc (.cells (Tryz.zeroCells107.setIfInBounds 0 (.int .i64 (n : Int))) 107)) w.heap.size (fun c => if c = 0 then (n : Int) else 0) := by
  have hsz : (Tryz.zeroCells107.setIfInBounds 0 (.int .i64 (n : Int))).size = 65 := by rw [zeroStage]; simp
  have h := World.rowIs_alloc w (Tryz.zeroCells107.setIfInBounds 0 (.int .i64 (n : Int))) 107 (fun c => .int .i64 (if c = 0 then (n : Int) else 0)) (fun i hi => by
    rw [hsz] at hi
    rw [zeroStage, Array.getElem?_setIfInBounds]
    by_cases e : i = 0
    · simp [e]
    · simp [e, Ne.symm e, hi])
  rw [hsz] at h
  exact h

set_option maxRecDepth 100000 in
set_option maxHeartbeats 2000000 in
theorem isReduced_any (a : Option Addr) (n cap : Nat) (hs : List (List Int)) (w : World) (hr : RdM w a cap hs) (hl : hs.length = n) (hn : n ≤ 100000000000000) :
    Calls Tryz.prog 33 #[.slice a n cap] w (GivesBY w (IsRed hs)) := by
  have hB : ∀ o wr, (w.alloc o).grownBy wr (some w.heap.size) → Below w.heap.size w wr := fun o wr hg => below_of_grownBy ((Below.refl _ w).alloc (Nat.le_refl _) o) hg (by simp) (Nat.le_refl _)
  have hstore := stage_store n w
  have hmade := stage_made n w
  obtain ⟨O, hO⟩ : ∃ O, O = Obj.cells (Tryz.zeroCells107.setIfInBounds 0 (.int .i64 (n : Int))) 107 := ⟨_, rfl⟩
  rw [← hO] at hstore hmade
  have HR := Lib.hid hr
  have HL := Lib.hid hl
  have HB := Lib.hid (hB O)
  have HM := Lib.hid hmade
  clear hr hl hB hmade hO
  go_enter Tryz.func33, Tryz.ntmps33
  go_wp2_with fail
  refine (read_any w.heap.size _ a n cap hs _ w HM.out rfl HL.out hn HR.out HB.out).mono ?_
  rintro e w1 (⟨hok, rfl, G, hU, hG, hgr⟩ | ⟨hno, rfl, hgr⟩)
  · have hn8 : n ≤ 8 := by have := hok.1.2; rw [HL.out] at this; exact this
    have hn1 : 1 ≤ n := by have := hok.1.1; rw [HL.out] at this; exact this
    have hiff : Hid (IsRed hs ↔ Red n n 0 G 1) := by
      unfold IsRed
      rw [HL.out]
      have e : Red n n 0 (cellsOf hs) 1 ↔ Red n n 0 G 1 := red_congr hn8 n 0 1 rfl (fun i j h1 h2 => by
        rw [cellsOf_at hs i j (by omega), (hU.done i j h1 (by rw [HL.out]; exact h2) (.inl (by rw [HL.out]; exact h2))).2])
      rw [← e]
      exact ⟨fun h => h.2, fun h => ⟨hok, h⟩⟩
    have hsm : Hid (∀ i j, i < n → j ≤ i → Small (G (1 + i * 8 + j))) := fun i j h1 h2 => by
      have h := hU.done i j h2 (by rw [HL.out]; exact h1) (.inl (by rw [HL.out]; exact h1))
      rw [h.2]; exact h.1.2
    have hG0 : G 0 = (n : Int) := by rw [hU.size, HL.out]
    have HG := Lib.hid hG
    have HG0 := Lib.hid hG0
    have hcs := hG.size
    rw [hG0] at hcs
    clear hok hU hG hG0
    go_wp2_with fail
    have hnn : Hid (n - 0 + 0 = n) := by unfold Hid; omega
    go_loopw [4, 14] (fun dd kk wr => ∃ (k : Nat) (F : Nat → Int) (d : Int), k ≤ n ∧ kk = .int .i64 (k : Int) ∧ dd = .int .i64 d ∧ 0 < d ∧ d < 1073741824 ∧ Hid (IsRed hs ↔ Red n (n - k) k F d) ∧ Hid (∀ i j, i < n → j ≤ i → Small (F (1 + i * 8 + j))) ∧ Hid (Stg wr w.heap.size F) ∧ Hid (F 0 = (n : Int)) ∧ (w.alloc O).grownBy wr (some w.heap.size)) (fun _ kk _ => n - (intOf kk).toNat)
    case atStart => exact ⟨0, G, 1, by omega, rfl, rfl, by omega, by omega, hiff, hsm, HG, HG0, hgr⟩
    case round =>
      obtain ⟨k, F, d, hkn, rfl, rfl, hd, hd2, hI, hS, hG2, hF0, hgr2⟩ := hrel
      clear hiff hsm HG HG0 hgr hcs
      by_cases hk : k < n
      · have hun : Red n (n - k) k F d ↔ (RedAt n F k ∧ Lims n F k d ∧ Red n (n - (k + 1)) (k + 1) (next n F k d) (F (1 + k * 8 + k))) := by
          rw [show n - k = (n - (k + 1)) + 1 from by omega]
          exact Iff.rfl
        have HUN := Lib.hid hun
        clear hun
        go_wp2_with fail
        refine (reducedAt_any w.heap.size n k F _ hG2.out hF0.out hk hn8 hS.out).mono ?_
        rintro e w2 ⟨r, rfl, hrr, q, rfl⟩
        cases r with
        | false =>
          have hno : Hid (¬IsRed hs) := fun h => by
            have := (HUN.out.1 (hI.out.1 h)).1
            exact absurd (hrr.2 this) (by simp)
          clear hrr
          go_wp2_with fail
          go_ret
          exact givesB_no hno.out (HB.out _ (grownBy_drewNY hgr2 q))
        | true =>
          have hra := hrr.1 rfl
          clear hrr
          have HRA := Lib.hid hra
          clear hra
          go_wp2_with fail
          refine (eliminate_any w.heap.size n k F d _ (hG2.out.drew q) hF0.out hk hn8 hS.out hd hd2).mono ?_
          rintro e w3 (⟨hlim, rfl, G3, hU3, hG3, hgr3⟩ | ⟨hno3, rfl, hgr3⟩)
          · have hG3' : Hid (Stg w3 w.heap.size G3) := hG3
            have hck := hG3.cell k k (by omega) (by omega)
            rw [hU3.kept k k (by omega) (by omega)] at hck
            have hpos : 0 < F (1 + k * 8 + k) := HRA.out.1
            have hsk : F (1 + k * 8 + k) < 1073741824 := (hS.out k k hk (Nat.le_refl _)).2
            obtain ⟨x, hx⟩ : ∃ x, x = F (1 + k * 8 + k) := ⟨_, rfl⟩
            rw [← hx] at hck hpos hsk
            have hnx : Hid (IsRed hs ↔ Red n (n - (k + 1)) (k + 1) G3 x) := by
              rw [hx, next_eq hU3]
              exact hI.out.trans (HUN.out.trans ⟨fun h => h.2.2, fun h => ⟨HRA.out, hlim, h⟩⟩)
            have hsm3 : Hid (∀ i j, i < n → j ≤ i → Small (G3 (1 + i * 8 + j))) := fun i j h1 h2 => by
              by_cases hkj : k < j
              · have h := hU3.done i j hkj h2 h1 (.inl h1)
                rw [h.1]; exact h.2
              · rw [hU3.kept i j (by omega) (by omega)]
                exact hS.out i j h1 h2
            have hF3 : Hid (G3 0 = (n : Int)) := hU3.size.trans hF0.out
            have hgr3' := grownBy_transY (grownBy_drewNY hgr2 q) hgr3
            clear hU3 hG3 hlim hx hgr3
            go_wp2_with fail
            go_roundw
            case rel => exact ⟨k + 1, G3, x, by omega, by go_num, rfl, hpos, hsk, hnx, hsm3, hG3', hF3, hgr3'⟩
            case measure => simp [intOf]; omega
          · have hno : Hid (¬IsRed hs) := fun h => hno3 (HUN.out.1 (hI.out.1 h)).2.1
            clear hno3
            go_wp2_with fail
            go_ret
            exact givesB_no hno.out (HB.out _ (grownBy_transY (grownBy_drewNY hgr2 q) hgr3))
      · obtain rfl : k = n := by omega
        have hfin : Hid (decide (d ≤ 10000) = true ↔ IsRed hs) := by
          have h := hI.out
          rw [Nat.sub_self] at h
          unfold Hid
          rw [decide_eq_true_iff]
          exact h.symm
        go_wp2_with fail
        go_ret
        exact givesB_mk hfin.out (HB.out _ hgr2)
  · have hno2 : Hid (¬IsRed hs) := fun h => hno h.1
    clear hno
    go_wp2_with fail
    go_ret
    exact givesB_no hno2.out (HB.out _ hgr)
end Go.Proofs.YtfpcfcegdjlggaaGreat
namespace Go.Proofs.YtfpcfcegdjlggaaGreat
open Go.RowKit

/-- The two words of an integer modulo 2^128. -/
def hiW (S : Int) : Int := S / 18446744073709551616 % 18446744073709551616
def loW (S : Int) : Int := S % 18446744073709551616
def wval (S : Int) : Value := .agg #[.int .u64 (hiW S), .int .u64 (loW S)]

theorem hiW_ge (S : Int) : 0 ≤ hiW S := Int.emod_nonneg _ (by omega)
theorem hiW_lt (S : Int) : hiW S ≤ 18446744073709551615 := by have := Int.emod_lt_of_pos (S / 18446744073709551616) (b := 18446744073709551616) (by omega); unfold hiW; omega
theorem loW_ge (S : Int) : 0 ≤ loW S := Int.emod_nonneg _ (by omega)
theorem loW_lt (S : Int) : loW S ≤ 18446744073709551615 := by have := Int.emod_lt_of_pos S (b := 18446744073709551616) (by omega); unfold loW; omega

/-- A number is its words, but for a multiple of 2^128. -/
theorem words (S : Int) : ∃ K, S = 340282366920938463463374607431768211456 * K + 18446744073709551616 * hiW S + loW S := by
  refine ⟨S / 18446744073709551616 / 18446744073709551616, ?_⟩
  unfold hiW loW
  omega

theorem words_of (K H L : Int) : hiW (340282366920938463463374607431768211456 * K + 18446744073709551616 * H + L) = (H + L / 18446744073709551616) % 18446744073709551616 ∧ loW (340282366920938463463374607431768211456 * K + 18446744073709551616 * H + L) = L % 18446744073709551616 := by
  unfold hiW loW
  omega

/-- The sum with a product, in words. -/
theorem plus_words (S A n : Int) (h l : Int) (hl : loW A * loW n = 18446744073709551616 * h + l) (_h0 : 0 ≤ l) (_h1 : l ≤ 18446744073709551615) :
    hiW (S + A * n) = (hiW S + ((h + (hiW A * loW n + loW A * hiW n)) % 18446744073709551616) + (loW S + l) / 18446744073709551616) % 18446744073709551616 ∧ loW (S + A * n) = (loW S + l) % 18446744073709551616 := by
  obtain ⟨K1, e1⟩ := words S
  obtain ⟨K2, e2⟩ := words A
  obtain ⟨K3, e3⟩ := words n
  have e : S + A * n = 340282366920938463463374607431768211456 * (K1 + K2 * n + (hiW A * 18446744073709551616 + loW A) * K3 + hiW A * hiW n) + 18446744073709551616 * (hiW S + h + (hiW A * loW n + loW A * hiW n)) + (loW S + l) := by
    have ea : A * n = 340282366920938463463374607431768211456 * (K2 * n) + (18446744073709551616 * hiW A + loW A) * n := by
      conv => lhs; rw [e2]
      generalize hiW A = x
      generalize loW A = y
      grind
    have eb : (18446744073709551616 * hiW A + loW A) * n = 340282366920938463463374607431768211456 * ((hiW A * 18446744073709551616 + loW A) * K3 + hiW A * hiW n) + 18446744073709551616 * (hiW A * loW n + loW A * hiW n) + loW A * loW n := by
      conv => lhs; rw [e3]
      generalize hiW A = x
      generalize loW A = y
      generalize hiW n = z
      generalize loW n = u
      grind
    rw [ea, eb, hl]
    omega
  rw [e]
  have h2 := words_of (K1 + K2 * n + (hiW A * 18446744073709551616 + loW A) * K3 + hiW A * hiW n) (hiW S + h + (hiW A * loW n + loW A * hiW n)) (loW S + l)
  rw [h2.1, h2.2]
  refine ⟨?_, rfl⟩
  generalize hiW A * loW n + loW A * hiW n = p
  omega

theorem widen_words (n : Int) (h : I64 n) : hiW n = (if n < 0 then 18446744073709551615 else 0) := by
  unfold hiW
  have := h.1
  have := h.2
  split <;> omega

theorem widen_high (n : Int) (h : I64 n) : IntKind.u64.wrap (n / 9223372036854775808) = hiW n := by
  rw [widen_words n h, IntKind.wrap_u64]
  have := h.1
  have := h.2
  split <;> omega
theorem widen_low (n : Int) : IntKind.u64.wrap n = loW n := by rw [IntKind.wrap_u64]; rfl

theorem widen_any (n : Int) (h : I64 n) (w : World) : Calls Tryz.prog 78 #[.int .i64 n] w fun e w' => e = .returned (wval n) ∧ Below w.heap.size w w' := by
  have h1 := h.1
  have h2 := h.2
  have eh := widen_high n h
  have el := widen_low n
  unfold wval
  go_enter Tryz.func78, Tryz.ntmps78
  go_wp2_with fail
  exact bodyPost_ret (v := .agg #[.int .u64 (hiW n), .int .u64 (loW n)]) (by simp [results, Tryz.results78, go_sem]) rfl ⟨rfl, (Below.refl _ _).alloc (Nat.le_refl _) _⟩

theorem alloc_grow (w : World) (o : Obj) : w.alloc o = Go.Sort.grow w #[o] := by
  unfold World.alloc Go.Sort.grow
  simp

theorem widen_grown (n : Int) (h : I64 n) (w : World) : Calls Tryz.prog 78 #[.int .i64 n] w fun e w' => e = .returned (wval n) ∧ ∃ q os, w' = Go.Sort.grow (w.drewN q) os := by
  have h1 := h.1
  have h2 := h.2
  have eh := widen_high n h
  have el := widen_low n
  unfold wval
  go_enter Tryz.func78, Tryz.ntmps78
  go_wp2_with fail
  exact bodyPost_ret (v := .agg #[.int .u64 (hiW n), .int .u64 (loW n)]) (by simp [results, Tryz.results78, go_sem]) rfl ⟨rfl, 0, _, alloc_grow _ _⟩

/-- A block of two cells. -/
structure Pr (b : Nat) (v0 v1 : Value) (w : World) : Prop where
  c0 : w.cell? ⟨b, 0, none⟩ = some v0
  c1 : w.cell? ⟨b, 1, none⟩ = some v1
  f0 : w.frozen? ⟨b, 0, none⟩ = false
  f1 : w.frozen? ⟨b, 1, none⟩ = false
  lt : b < w.heap.size

theorem Pr.made (w : World) (v0 v1 : Value) (t : TypeId) {b : Nat} (hB : b = w.heap.size) : Pr b v0 v1 (w.alloc (.cells #[v0, v1] t)) := by
  subst hB
  have hg := heap_alloc_last w (.cells #[v0, v1] t)
  refine ⟨?_, ?_, frozen_of_row _ _ _ _ _ hg, frozen_of_row _ _ _ _ _ hg, by simp⟩
  · rw [cell_of_row _ _ 0 _ _ (0, 0) hg]; rfl
  · rw [cell_of_row _ _ 1 _ _ (0, 0) hg]; rfl

theorem Pr.below {b B : Nat} {v0 v1 : Value} {w w' : World} (h : Pr b v0 v1 w) (hb : Below B w w') (hB : b < B) : Pr b v0 v1 w' :=
  ⟨by rw [hb.cell (p := ⟨b, 0, none⟩) hB]; exact h.c0, by rw [hb.cell (p := ⟨b, 1, none⟩) hB]; exact h.c1, by rw [hb.frozen (p := ⟨b, 0, none⟩) hB]; exact h.f0, by rw [hb.frozen (p := ⟨b, 1, none⟩) hB]; exact h.f1, Nat.lt_of_lt_of_le h.lt hb.size⟩

theorem Pr.alloc {b : Nat} {v0 v1 : Value} {w : World} (h : Pr b v0 v1 w) (o : Obj) : Pr b v0 v1 (w.alloc o) :=
  h.below ((Below.refl (b + 1) w).alloc h.lt o) (Nat.lt_succ_self b)

theorem Pr.moved {b : Nat} {v0 v1 : Value} {w w' : World} (h : Pr b v0 v1 w) (hb : Below w.heap.size w w') : Pr b v0 v1 w' := h.below hb h.lt

theorem Pr.set {b : Nat} {v0 v1 : Value} {w : World} (h : Pr b v0 v1 w) (x y : Value) : Pr b x y ((w.setCell ⟨b, 0, none⟩ x).setCell ⟨b, 1, none⟩ y) := by
  have h1 : (w.setCell ⟨b, 0, none⟩ x).cell? ⟨b, 1, none⟩ = some v1 := by rw [World.cell?_setCell_other _ _ _ _ (by simp)]; exact h.c1
  refine ⟨?_, World.cell?_setCell_same _ _ _ h1, by simp [h.f0], by simp [h.f1], by simp [World.setCell]; exact h.lt⟩
  rw [World.cell?_setCell_other _ _ _ _ (by simp)]
  exact World.cell?_setCell_same _ _ _ h.c0

/-- A product of words, by math/bits. -/
def MulOk : Prop := ∀ (x y : Nat) (_ : x < 18446744073709551616) (_ : y < 18446744073709551616) (w : World),
    Calls Tryz.prog 109 #[.int .u64 x, .int .u64 y] w fun e w' => e = .returned (.tuple #[.int .u64 ((x * y / 18446744073709551616 : Nat) : Int), .int .u64 ((x * y % 18446744073709551616 : Nat) : Int)]) ∧ w' = w
/-- A sum of words with a carry, by math/bits. -/
def AddOk : Prop := ∀ (x y c : Nat) (_ : c ≤ 1) (w : World), (callFunc 110 #[.int .u64 x, .int .u64 y, .int .u64 c]).run Tryz.prog w =
      .ok (.value (.tuple #[.int .u64 (((x + y + c) % 18446744073709551616 : Nat) : Int), .int .u64 (((x + y + c) / 18446744073709551616 : Nat) : Int)])) w

set_option maxRecDepth 100000 in
set_option maxHeartbeats 2000000 in
theorem plus_any (hM : MulOk) (hA : AddOk) (S A n : Int) (h : I64 n) (w : World) : Calls Tryz.prog 77 #[wval S, wval A, .int .i64 n] w fun e w' => e = .returned (wval (S + A * n)) ∧ Below w.heap.size w w' := by
  obtain ⟨s1, hs1⟩ : ∃ x : Nat, hiW S = (x : Int) := ⟨(hiW S).toNat, by have := hiW_ge S; omega⟩
  obtain ⟨s0, hs0⟩ : ∃ x : Nat, loW S = (x : Int) := ⟨(loW S).toNat, by have := loW_ge S; omega⟩
  obtain ⟨a1, ha1⟩ : ∃ x : Nat, hiW A = (x : Int) := ⟨(hiW A).toNat, by have := hiW_ge A; omega⟩
  obtain ⟨a0, ha0⟩ : ∃ x : Nat, loW A = (x : Int) := ⟨(loW A).toNat, by have := loW_ge A; omega⟩
  obtain ⟨f1, hf1⟩ : ∃ x : Nat, hiW n = (x : Int) := ⟨(hiW n).toNat, by have := hiW_ge n; omega⟩
  obtain ⟨f0, hf0⟩ : ∃ x : Nat, loW n = (x : Int) := ⟨(loW n).toNat, by have := loW_ge n; omega⟩
  have b1 := hiW_lt S
  have b2 := loW_lt S
  have b3 := hiW_lt A
  have b4 := loW_lt A
  have b5 := hiW_lt n
  have b6 := loW_lt n
  rw [hs1] at b1
  rw [hs0] at b2
  rw [ha1] at b3
  rw [ha0] at b4
  rw [hf1] at b5
  rw [hf0] at b6
  obtain ⟨hh, hhe⟩ : ∃ x, x = a0 * f0 / 18446744073709551616 := ⟨_, rfl⟩
  obtain ⟨ll, hle⟩ : ∃ x, x = a0 * f0 % 18446744073709551616 := ⟨_, rfl⟩
  have hll : ll < 18446744073709551616 := by rw [hle]; exact Nat.mod_lt _ (by omega)
  have hP := plus_words S A n (hh : Int) (ll : Int) (by rw [ha0, hf0, hhe, hle, ← Int.natCast_mul]; omega) (by omega) (by omega)
  rw [hs1, hs0, ha1, ha0, hf1, hf0] at hP
  have hm := hM a0 f0 (by omega) (by omega)
  rw [← hhe, ← hle] at hm
  obtain ⟨p1, hp1⟩ : ∃ x : Nat, (a1 : Int) * (f0 : Int) = (x : Int) := ⟨a1 * f0, by simp⟩
  obtain ⟨p2, hp2⟩ : ∃ x : Nat, (a0 : Int) * (f1 : Int) = (x : Int) := ⟨a0 * f1, by simp⟩
  rw [hp1, hp2] at hP
  have hw := widen_any n h
  unfold wval at hw ⊢
  rw [hf1, hf0] at hw
  rw [hs1, hs0, ha1, ha0, hP.1, hP.2]
  have hadd1 := hA s0 ll 0 (by omega)
  obtain ⟨l2, hl2⟩ : ∃ x, x = (s0 + ll + 0) % 18446744073709551616 := ⟨_, rfl⟩
  obtain ⟨cc, hcc⟩ : ∃ x, x = (s0 + ll + 0) / 18446744073709551616 := ⟨_, rfl⟩
  rw [← hl2, ← hcc] at hadd1
  have hcc1 : cc ≤ 1 := by omega
  rw [show ((0 : Nat) : Int) = 0 from rfl] at hadd1
  obtain ⟨m2, hm2⟩ : ∃ x : Nat, x = (hh + (p1 + p2)) % 18446744073709551616 := ⟨_, rfl⟩
  have hmid : IntKind.u64.wrap ((hh : Int) + IntKind.u64.wrap (IntKind.u64.wrap (p1 : Int) + IntKind.u64.wrap (p2 : Int))) = (m2 : Int) := by simp only [IntKind.wrap_u64]; omega
  have hadd2 := hA s1 m2 cc hcc1
  obtain ⟨m3, hm3⟩ : ∃ x, x = (s1 + m2 + cc) % 18446744073709551616 := ⟨_, rfl⟩
  obtain ⟨c3, hc3⟩ : ∃ x, x = (s1 + m2 + cc) / 18446744073709551616 := ⟨_, rfl⟩
  rw [← hm3, ← hc3] at hadd2
  have er1 : ((s1 : Int) + ((hh : Int) + ((p1 : Int) + (p2 : Int))) % 18446744073709551616 + ((s0 : Int) + (ll : Int)) / 18446744073709551616) % 18446744073709551616 = (m3 : Int) := by omega
  have er2 : ((s0 : Int) + (ll : Int)) % 18446744073709551616 = (l2 : Int) := by omega
  rw [er1, er2]
  have HM := Lib.hid hm
  have HW := Lib.hid hw
  clear hm hw hs1 hs0 ha1 ha0 hf1 hf0 hP hhe hle hl2 hcc hm2 hm3 hc3 er1 er2 hM hA
  go_enter Tryz.func77, Tryz.ntmps77
  go_wp2_with fail
  refine (HW.out _).mono ?_
  rintro e w1 ⟨rfl, hb1⟩
  obtain ⟨W, hW⟩ : ∃ W, W = ((w.alloc (.cells #[.int .u64 s1, .int .u64 s0] 115)).alloc (.cells #[.int .u64 a1, .int .u64 a0] 115)).alloc (.cells #[.int .u64 0, .int .u64 0] 115) := ⟨_, rfl⟩
  rw [← hW] at hb1
  have hx1 : Pr w.heap.size (.int .u64 s1) (.int .u64 s0) W := by rw [hW]; exact ((Pr.made _ _ _ _ rfl).alloc _).alloc _
  have hx2 : Pr (w.heap.size + 1) (.int .u64 a1) (.int .u64 a0) W := by rw [hW]; exact (Pr.made _ _ _ _ (by simp)).alloc _
  have hx3 : Pr (w.heap.size + 1 + 1) (.int .u64 0) (.int .u64 0) W := by rw [hW]; exact Pr.made _ _ _ _ (by simp)
  have hB : Below w.heap.size w W := by rw [hW]; exact (((Below.refl _ _).alloc (Nat.le_refl _) _).alloc (by simp) _).alloc (by simp; omega) _
  have hB1 := hB.trans (hb1.mono hB.size)
  obtain ⟨p1', p2', p3', p4', p5'⟩ := hx1.moved hb1
  obtain ⟨q1, q2, q3, q4, q5⟩ := hx2.moved hb1
  obtain ⟨r1, r2, r3, r4, r5⟩ := hx3.moved hb1
  clear hx1 hx2 hx3 hb1 hW hB
  go_wp2_with fail
  refine (HM.out _).mono ?_
  rintro e w2 ⟨rfl, rfl⟩
  go_wp2_with fail
  obtain ⟨WF, hWF⟩ : ∃ W, W = (((w1.setCell ⟨w.heap.size + 1 + 1, 0, none⟩ (.int .u64 m3)).setCell ⟨w.heap.size + 1 + 1, 1, none⟩ (.int .u64 l2)).alloc (.cells #[.int .u64 f1, .int .u64 f0] 115)) := ⟨_, rfl⟩
  rw [← hWF]
  have hPF : Pr (w.heap.size + 1 + 1) (.int .u64 m3) (.int .u64 l2) WF := by rw [hWF]; exact ((Pr.mk r1 r2 r3 r4 r5).set _ _).alloc _
  have hBF : Below w.heap.size w WF := by rw [hWF]; exact ((hB1.setCell (by show w.heap.size ≤ w.heap.size + 1 + 1; omega) _).setCell (by show w.heap.size ≤ w.heap.size + 1 + 1; omega) _).alloc (by simp [World.setCell]; omega) _
  obtain ⟨t1, t2, t3, t4, t5⟩ := hPF
  exact bodyPost_ret (v := .agg #[.int .u64 m3, .int .u64 l2]) (by simp [results, Tryz.results77, go_sem, t1, t2]) rfl ⟨rfl, hBF⟩
end Go.Proofs.YtfpcfcegdjlggaaGreat
