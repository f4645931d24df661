/-
  Joined texts: YA YB YC YD.
-/
import Derived.Test.YtpnnbjifhoonkaaGreatProg
import Derived.WalkKit
import Derived.WalkSpells
import Derived.WalkLawsBesides
import Derived.Lib.Hide
import Derived.BigQuiet
import Derived.BigRegion
import Derived.Deep.QuietTactic
import Derived.Deep.OwnRows
import Derived.Deep.CutRange
import Derived.Laws.CopyOwn
namespace Go.Proofs.YtpnnbjifhoonkaaGreat
open Go.RowKit

theorem below_drewN' {B : Nat} {a w : World} (h : Below B a w) (n : Nat) : Below B a (w.drewN n) := ⟨h.os, h.tape, h.output, h.size, h.block⟩
/-- Within the bounds of int64. -/
def I64 (x : Int) : Prop := -9223372036854775808 ≤ x ∧ x ≤ 9223372036854775807

/-- The slice at address a with capacity cap reads as the list xs of int64. -/
structure RdI (w : World) (a : Option Addr) (cap : Nat) (xs : List Int) : Prop where
  fits : xs.length ≤ cap
  lim : ∀ x ∈ xs, I64 x
  cells : ∀ i, i < xs.length → ∃ b o, a = some ⟨b, o, none⟩ ∧ w.cell? ⟨b, o + i, none⟩ = some (.int .i64 (xs.getD i 0))

theorem RdI.get {w : World} {a : Option Addr} {cap : Nat} {xs : List Int} (h : RdI w a cap xs) (i : Nat) : I64 (xs.getD i 0) := by
  by_cases hi : i < xs.length
  · have e : xs.getD i 0 = xs[i] := by simp [List.getD_eq_getElem?_getD, List.getElem?_eq_getElem hi]
    rw [e]; exact h.lim _ (List.getElem_mem hi)
  · have e : xs.getD i 0 = 0 := by simp [List.getD_eq_getElem?_getD, List.getElem?_eq_none (Nat.le_of_not_lt hi)]
    rw [e]; exact ⟨by omega, by omega⟩

theorem RdI.nil (w : World) (a : Option Addr) (cap : Nat) : RdI w a cap [] := ⟨by simp, by simp, fun i hi => by simp at hi⟩

theorem RdI.below {w w' : World} {a : Option Addr} {cap : Nat} {xs : List Int} (h : RdI w a cap xs) (hb : Below w.heap.size w w') : RdI w' a cap xs := by
  refine ⟨h.fits, h.lim, fun i hi => ?_⟩
  obtain ⟨b, o, rfl, hc⟩ := h.cells i hi
  refine ⟨b, o, rfl, ?_⟩
  rw [hb.cell (World.block_lt_of_cell? w _ hc)]
  exact hc

/-- What is read lies in blocks below B. -/
def UnderI (B : Nat) (a : Option Addr) (xs : List Int) : Prop := xs ≠ [] → ∃ b o, a = some ⟨b, o, none⟩ ∧ b < B

theorem RdI.under {w : World} {a : Option Addr} {cap : Nat} {xs : List Int} (h : RdI w a cap xs) : UnderI w.heap.size a xs := by
  intro hne
  obtain ⟨b, o, rfl, hc⟩ := h.cells 0 (List.length_pos_iff.2 hne)
  exact ⟨b, o, rfl, World.block_lt_of_cell? w _ hc⟩

theorem RdI.belowU {w w' : World} {a : Option Addr} {cap B : Nat} {xs : List Int} (h : RdI w a cap xs) (hu : UnderI B a xs) (hb : Below B w w') : RdI w' a cap xs := by
  refine ⟨h.fits, h.lim, fun i hi => ?_⟩
  obtain ⟨b, o, rfl, hc⟩ := h.cells i hi
  obtain ⟨b', o', e, hlt⟩ := hu (by intro e; subst e; simp at hi)
  simp only [Option.some.injEq, Addr.mk.injEq] at e
  obtain ⟨rfl, rfl, _⟩ := e
  refine ⟨b, o, rfl, ?_⟩
  rw [hb.cell hlt]
  exact hc

theorem UnderI.mono {B B' : Nat} {a : Option Addr} {xs : List Int} (h : UnderI B a xs) (hB : B ≤ B') : UnderI B' a xs := fun hne => by
  obtain ⟨b, o, e, hlt⟩ := h hne
  exact ⟨b, o, e, by omega⟩

/-- The slice of slices at address a reads as the rows hs. -/
structure RdM (w : World) (a : Option Addr) (cap : Nat) (hs : List (List Int)) : Prop where
  fits : hs.length ≤ cap
  rows : ∀ i, i < hs.length → ∃ b o ai ci, a = some ⟨b, o, none⟩ ∧ w.cell? ⟨b, o + i, none⟩ = some (.slice ai (hs.getD i []).length ci) ∧ RdI w ai ci (hs.getD i []) ∧ (hs.getD i []).length ≤ 17592186044416

theorem RdM.below {w w' : World} {a : Option Addr} {cap : Nat} {hs : List (List Int)} (h : RdM w a cap hs) (hb : Below w.heap.size w w') : RdM w' a cap hs := by
  refine ⟨h.fits, fun i hi => ?_⟩
  obtain ⟨b, o, ai, ci, rfl, hc, hr, hl⟩ := h.rows i hi
  refine ⟨b, o, ai, ci, rfl, ?_, hr.below hb, hl⟩
  rw [hb.cell (World.block_lt_of_cell? w _ hc)]
  exact hc

/-- Where the rows lie, once for all worlds that keep what lay there. -/
theorem RdM.fix {w0 : World} {a : Option Addr} {cap : Nat} {hs : List (List Int)} (h : RdM w0 a cap hs) (hpos : 0 < hs.length) :
    ∃ b o, ∃ (A : Nat → Option Addr) (C : Nat → Nat), a = some ⟨b, o, none⟩ ∧ ∀ w, Below w0.heap.size w0 w → ∀ i, i < hs.length →
      w.cell? ⟨b, o + i, none⟩ = some (.slice (A i) (hs.getD i []).length (C i)) ∧ RdI w (A i) (C i) (hs.getD i []) ∧ (hs.getD i []).length ≤ 17592186044416 := by
  obtain ⟨b, o, _, _, rfl, _⟩ := h.rows 0 hpos
  have hx : ∀ i, ∃ p : Option Addr × Nat, i < hs.length → w0.cell? ⟨b, o + i, none⟩ = some (.slice p.1 (hs.getD i []).length p.2) ∧ RdI w0 p.1 p.2 (hs.getD i []) ∧ (hs.getD i []).length ≤ 17592186044416 := by
    intro i
    by_cases hi : i < hs.length
    · obtain ⟨b', o', ai, ci, e, hc, hr, hl⟩ := h.rows i hi
      simp only [Option.some.injEq, Addr.mk.injEq, and_true] at e
      obtain ⟨rfl, rfl⟩ := e
      exact ⟨(ai, ci), fun _ => ⟨hc, hr, hl⟩⟩
    · exact ⟨(none, 0), fun h => absurd h hi⟩
  refine ⟨b, o, fun i => (Classical.choose (hx i)).1, fun i => (Classical.choose (hx i)).2, rfl, fun w hb i hi => ?_⟩
  obtain ⟨hc, hr, hl⟩ := Classical.choose_spec (hx i) hi
  refine ⟨?_, hr.below hb, hl⟩
  rw [hb.cell (World.block_lt_of_cell? w0 _ hc)]
  exact hc

/-- Entry (i, j) of a list of rows. -/
def ent (hs : List (List Int)) (i j : Nat) : Int := (hs.getD i []).getD j 0

/-- Below the limit of the elimination. -/
def Small (x : Int) : Prop := -1073741824 < x ∧ x < 1073741824
instance (x : Int) : Decidable (Small x) := by unfold Small; infer_instance

set_option maxHeartbeats 400000 in
theorem belowLimit_any (x : Int) (w : World) : Calls Tryz.prog 59 #[.int .i64 x] w fun e w' => e = .returned (.bool (decide (Small x))) ∧ w = w' := by
  by_cases h1 : -1073741824 < x
  · by_cases h2 : x < 1073741824
    · have e : decide (Small x) = true := decide_eq_true ⟨h1, h2⟩
      have e2 : decide (x < 1073741824) = true := decide_eq_true h2
      rw [e]
      clear e
      go_enter Tryz.func59, Tryz.ntmps59
      go_wp2
      go_ret
      exact ⟨rfl, rfl⟩
    · have e : decide (Small x) = false := decide_eq_false fun h => h2 h.2
      have e2 : decide (x < 1073741824) = false := decide_eq_false h2
      rw [e]
      clear e
      go_enter Tryz.func59, Tryz.ntmps59
      go_wp2
      go_ret
      exact ⟨rfl, rfl⟩
  · have e : decide (Small x) = false := decide_eq_false fun h => h1 h.1
    have e2 : decide (-1073741824 < x) = false := decide_eq_false h1
    rw [e]
    clear e
    go_enter Tryz.func59, Tryz.ntmps59
    go_wp2
    go_ret
    exact ⟨rfl, rfl⟩

/-- The memory of a stage: cell 0 the number of rows, behind it the entries, eight a row. -/
def Stg (w : World) (b : Nat) (F : Nat → Int) : Prop := w.rowIs b 71 65 fun j => .int .i64 (F j)

theorem Stg.cell {w : World} {b : Nat} {F : Nat → Int} (h : Stg w b F) (i j : Nat) (hi : i < 8) (hj : j < 8) : w.cell? ⟨b, 1 + i * 8 + j, none⟩ = some (.int .i64 (F (1 + i * 8 + j))) :=
  World.rowIs.cell h (by omega)
theorem Stg.size {w : World} {b : Nat} {F : Nat → Int} (h : Stg w b F) : w.cell? ⟨b, 0, none⟩ = some (.int .i64 (F 0)) := World.rowIs.cell h (by omega)
theorem Stg.free {w : World} {b : Nat} {F : Nat → Int} (h : Stg w b F) (i : Nat) : w.frozen? ⟨b, i, none⟩ = false := World.rowIs.frozen h i
theorem Stg.drew {w : World} {b : Nat} {F : Nat → Int} (h : Stg w b F) (k : Nat) : Stg (w.drewN k) b F := h
end Go.Proofs.YtpnnbjifhoonkaaGreat
namespace Go.Proofs.YtpnnbjifhoonkaaGreat
open Go.RowKit

/-- The conditions of a reduced form at step k. -/
def RedAt (n : Nat) (F : Nat → Int) (k : Nat) : Prop :=
  0 < F (1 + k * 8 + k) ∧ (∀ i, k < i → i < n → 2 * F (1 + i * 8 + k) ≤ F (1 + k * 8 + k) ∧ -(2 * F (1 + i * 8 + k)) ≤ F (1 + k * 8 + k)) ∧
  (k + 1 = n ∨ 3 * F (1 + k * 8 + k) ≤ 4 * F (1 + (k + 1) * 8 + (k + 1)))

/-- A bool that says whether p; nothing but draws has happened. -/
def GivesIf (w : World) (p : Prop) (e : Ending) (w' : World) : Prop := ∃ r, e = .returned (.bool r) ∧ (r = true ↔ p) ∧ ∃ q, w.drewN q = w'
theorem givesIf_no {w w' : World} {p : Prop} {q : Nat} (h : ¬p) (hw : w.drewN q = w') : GivesIf w p (.returned (.bool false)) w' := ⟨false, rfl, by simp [h], q, hw⟩
theorem givesIf_mk {w w' : World} {p : Prop} {q : Nat} {r : Bool} (h : r = true ↔ p) (hw : w.drewN q = w') : GivesIf w p (.returned (.bool r)) w' := ⟨r, rfl, h, q, hw⟩
theorem givesIf_yes {w w' : World} {p : Prop} {q : Nat} (h : p) (hw : w.drewN q = w') : GivesIf w p (.returned (.bool true)) w' := ⟨true, rfl, by simp [h], q, hw⟩

set_option maxRecDepth 100000 in
set_option maxHeartbeats 1000000 in
theorem reducedAt_any (b n k : Nat) (F : Nat → Int) (w : World) (hS : Stg w b F) (h0 : F 0 = (n : Int)) (hk : k < n) (hn : n ≤ 8) (hF : ∀ i j, i < n → j ≤ i → Small (F (1 + i * 8 + j))) :
    Calls Tryz.prog 38 #[.pointer (some ⟨b, 0, none⟩), .int .i64 k] w (GivesIf w (RedAt n F k)) := by
  have hs := hS.size
  rw [h0] at hs
  have hc := hS.cell k k (by omega) (by omega)
  have hm := hF k k hk (Nat.le_refl _)
  obtain ⟨m, hmm⟩ : ∃ m, m = F (1 + k * 8 + k) := ⟨_, rfl⟩
  rw [← hmm] at hm hc
  have hm1 := hm.1
  have hm2 := hm.2
  by_cases hp : m ≤ 0
  · have hno : ¬RedAt n F k := fun h => by have := h.1; omega
    go_enter Tryz.func38, Tryz.ntmps38
    have HNO := Lib.hid hno
    clear hno
    go_wp2
    go_ret
    exact givesIf_no (q := 0) HNO.out rfl
  · have hp' : decide (m ≤ 0) = false := decide_eq_false hp
    have HM := Lib.hid hmm
    have HS := Lib.hid hS
    clear hmm hm hS
    go_enter Tryz.func38, Tryz.ntmps38
    go_wp2
    go_loopw [6] (fun i wr => ∃ j : Nat, k < j ∧ j ≤ n ∧ i = .int .i64 (j : Int) ∧ Hid (∀ i, k < i → i < j → 2 * F (1 + i * 8 + k) ≤ m ∧ -(2 * F (1 + i * 8 + k)) ≤ m) ∧ ∃ q, wr = w.drewN q) (fun i _ => n - (intOf i).toNat)
    case atStart => exact ⟨k + 1, by omega, by omega, by go_num, fun i h1 h2 => by omega, 0, rfl⟩
    case round =>
      obtain ⟨j, hkj, hjn, rfl, hall, q, rfl⟩ := hrel
      by_cases hj : j < n
      · have hcj := HS.out.cell j k (by omega) (by omega)
        have hFj := hF j k hj (by omega)
        obtain ⟨x, hx⟩ : ∃ x, x = F (1 + j * 8 + k) := ⟨_, rfl⟩
        rw [← hx] at hcj hFj
        have hf1 := hFj.1
        have hf2 := hFj.2
        have HX := Lib.hid hx
        clear hx hFj
        by_cases hb : 2 * x ≤ m ∧ -(2 * x) ≤ m
        · have hmx : decide (m < 2 * if x < -x then -x else x) = false := decide_eq_false (by split <;> omega)
          have hall' : Hid (∀ i, k < i → i < j + 1 → 2 * F (1 + i * 8 + k) ≤ m ∧ -(2 * F (1 + i * 8 + k)) ≤ m) := fun i h1 h2 => by
            by_cases e : i = j
            · rw [e, ← HX.out]; exact hb
            · exact hall.out i h1 (by omega)
          clear hb
          go_wp2
          go_quiet (fail)
          go_wp2
          go_roundw
          case rel => exact ⟨j + 1, by omega, by omega, by go_num, hall', _, rfl⟩
          case measure => simp [intOf]; omega
        · have hmx : decide (m < 2 * if x < -x then -x else x) = true := decide_eq_true (by split <;> omega)
          have hno : ¬RedAt n F k := fun h => hb (by have := h.2.1 j hkj hj; rw [HM.out, HX.out]; exact this)
          have HNO := Lib.hid hno
          clear hb hno
          go_wp2
          go_quiet (fail)
          go_wp2
          all_goals
            go_ret
            exact givesIf_no HNO.out rfl
      · obtain rfl : j = n := by omega
        by_cases hl : k + 1 = j
        · have he : ((k : Int) + 1 == (j : Int)) = true := by simp; omega
          have hyes : RedAt j F k := ⟨by rw [← HM.out]; omega, fun i h1 h2 => by rw [← HM.out]; exact hall.out i h1 h2, .inl hl⟩
          have HY := Lib.hid hyes
          clear hl hall hyes
          go_wp2
          go_ret
          exact givesIf_yes HY.out rfl
        · have he : ((k : Int) + 1 == (j : Int)) = false := by simp; omega
          have hcj := HS.out.cell (k + 1) (k + 1) (by omega) (by omega)
          have hFj := hF (k + 1) (k + 1) (by omega) (by omega)
          obtain ⟨x, hx⟩ : ∃ x, x = F (1 + (k + 1) * 8 + (k + 1)) := ⟨_, rfl⟩
          rw [← hx] at hcj hFj
          have hf1 := hFj.1
          have hf2 := hFj.2
          have HX := Lib.hid hx
          have hiff : (decide (3 * m ≤ 4 * x) = true ↔ RedAt j F k) := by
            rw [decide_eq_true_iff]
            refine ⟨fun h => ⟨by rw [← HM.out]; omega, fun i h1 h2 => by rw [← HM.out]; exact hall.out i h1 h2, .inr (by rw [← HM.out, ← HX.out]; exact h)⟩, fun h => ?_⟩
            rcases h.2.2 with h3 | h3
            · exact absurd h3 hl
            · rw [← HM.out, ← HX.out] at h3; exact h3
          have HI := Lib.hid hiff
          have hk8 : (k : Int) + 1 < 8 := by omega
          clear hx hFj hl hall hiff
          go_wp2
          go_ret
          exact givesIf_mk HI.out rfl
end Go.Proofs.YtpnnbjifhoonkaaGreat
namespace Go.Proofs.YtpnnbjifhoonkaaGreat
open Go.RowKit

/-- The new entry. -/
def stepE (F : Nat → Int) (k : Nat) (d : Int) (i j : Nat) : Int := Int.tdiv (F (1 + k * 8 + k) * F (1 + i * 8 + j) - F (1 + i * 8 + k) * F (1 + j * 8 + k)) d

/-- G is F but for the entries with k < j ≤ i that lie ahead of (i0, j0): these are the new ones, and below the limit. -/
structure Upto (n : Nat) (F : Nat → Int) (k : Nat) (d : Int) (i0 j0 : Nat) (G : Nat → Int) : Prop where
  done : ∀ i j, k < j → j ≤ i → i < n → (i < i0 ∨ (i = i0 ∧ j < j0)) → G (1 + i * 8 + j) = stepE F k d i j ∧ Small (stepE F k d i j)
  kept : ∀ i j, j < 8 → ¬(k < j ∧ j ≤ i ∧ i < n ∧ (i < i0 ∨ (i = i0 ∧ j < j0))) → G (1 + i * 8 + j) = F (1 + i * 8 + j)
  size : G 0 = F 0

/-- All new entries are below the limit. -/
def Lims (n : Nat) (F : Nat → Int) (k : Nat) (d : Int) : Prop := ∀ i j, k < j → j ≤ i → i < n → Small (stepE F k d i j)

/-- What eliminate gives. -/
def GivesStep (w : World) (b n : Nat) (F : Nat → Int) (k : Nat) (d : Int) (e : Ending) (w' : World) : Prop :=
  (Lims n F k d ∧ e = .returned (.bool true) ∧ ∃ G, Upto n F k d n 0 G ∧ Stg w' b G ∧ w.grownBy w' (some b)) ∨ (¬Lims n F k d ∧ e = .returned (.bool false) ∧ w.grownBy w' (some b))

theorem grownBy_drewNY {a w : World} {row : Option Nat} (h : a.grownBy w row) (n : Nat) : a.grownBy (w.drewN n) row := ⟨h.os, h.tape, h.output, h.size, h.block⟩
theorem grownBy_setCell {a w : World} {g : Nat} (h : a.grownBy w (some g)) (i : Nat) (u : Value) : a.grownBy (w.setCell ⟨g, i, none⟩ u) (some g) :=
  ⟨h.os, h.tape, h.output, by simpa [World.setCell] using h.size, fun j hj hne => (Below.heap_setCell w ⟨g, i, none⟩ u j (fun e => hne (by rw [e]))).trans (h.block j hj hne)⟩
theorem grownBy_refl (w : World) (row : Option Nat) : w.grownBy w row := ⟨rfl, rfl, rfl, Nat.le_refl _, fun _ _ _ => rfl⟩
theorem grownBy_transY {a b c : World} {g : Nat} (h : a.grownBy b (some g)) (h2 : b.grownBy c (some g)) : a.grownBy c (some g) :=
  ⟨h2.os.trans h.os, h2.tape.trans h.tape, h2.output.trans h.output, Nat.le_trans h.size h2.size, fun j hj hne => (h2.block j (Nat.lt_of_lt_of_le hj h.size) hne).trans (h.block j hj hne)⟩
theorem below_of_grownBy {a w w' : World} {B g : Nat} (h : Below B a w) (hg : w.grownBy w' (some g)) (hB : B ≤ w.heap.size) (hgB : B ≤ g) : Below B a w' :=
  h.grown hg hB (fun k hk => by simp only [Option.some.injEq] at hk; omega)

theorem Stg.set {w : World} {b : Nat} {F : Nat → Int} (h : Stg w b F) (i : Nat) (v : Int) : Stg (w.setCell ⟨b, i, none⟩ (.int .i64 v)) b (fun j => if j = i then v else F j) :=
  World.rowIs.congr (World.rowIs.set h i _) fun j _ => by by_cases e : j = i <;> simp [e]

theorem Upto.start (n : Nat) (F : Nat → Int) (k : Nat) (d : Int) : Upto n F k d (k + 1) (k + 1) F := by
  refine ⟨fun i j h1 h2 h3 h4 => ?_, fun i j _ _ => rfl, rfl⟩
  omega

theorem Upto.row {n : Nat} {F G : Nat → Int} {k : Nat} {d : Int} {i0 : Nat} (h : Upto n F k d i0 (i0 + 1) G) : Upto n F k d (i0 + 1) (k + 1) G :=
  ⟨fun i j h1 h2 h3 h4 => h.done i j h1 h2 h3 (by omega), fun i j h1 h2 => h.kept i j h1 (by omega), h.size⟩

theorem Upto.last {n : Nat} {F G : Nat → Int} {k : Nat} {d : Int} (h : Upto n F k d n (k + 1) G) : Upto n F k d n 0 G :=
  ⟨fun i j h1 h2 h3 h4 => h.done i j h1 h2 h3 (by omega), fun i j h1 h2 => h.kept i j h1 (by omega), h.size⟩

theorem Upto.one {n : Nat} {F G : Nat → Int} {k : Nat} {d : Int} {i0 j0 : Nat} (h : Upto n F k d i0 j0 G) (hk : k < j0) (hj : j0 ≤ i0) (hi : i0 < n) (hn : n ≤ 8) (hs : Small (stepE F k d i0 j0)) :
    Upto n F k d i0 (j0 + 1) (fun c => if c = 1 + i0 * 8 + j0 then stepE F k d i0 j0 else G c) := by
  refine ⟨fun i j h1 h2 h3 h4 => ?_, fun i j h1 h2 => ?_, ?_⟩
  · by_cases e : i = i0 ∧ j = j0
    · obtain ⟨rfl, rfl⟩ := e
      exact ⟨if_pos rfl, hs⟩
    · have hne : 1 + i * 8 + j ≠ 1 + i0 * 8 + j0 := by omega
      show (if _ then _ else _) = _ ∧ _
      rw [if_neg hne]
      exact h.done i j h1 h2 h3 (by omega)
  · have hne : 1 + i * 8 + j ≠ 1 + i0 * 8 + j0 := by omega
    show (if _ then _ else _) = _
    rw [if_neg hne]
    exact h.kept i j h1 (by omega)
  · show (if _ then _ else _) = _
    rw [if_neg (by omega)]
    exact h.size

/-- The product of two entries. -/
theorem prod_small {x y : Int} (hx : Small x) (hy : Small y) : ∃ P : Int, x * y = P ∧ -1152921504606846976 ≤ P ∧ P ≤ 1152921504606846976 := by
  have h : (x * y).natAbs ≤ 1073741824 * 1073741824 := by
    rw [Int.natAbs_mul]
    exact Nat.mul_le_mul (by have := hx.1; have := hx.2; omega) (by have := hy.1; have := hy.2; omega)
  exact ⟨_, rfl, by omega, by omega⟩

theorem tdiv_bound {x d : Int} (hd : 0 < d) (h1 : -2305843009213693952 ≤ x) (h2 : x ≤ 2305843009213693952) : -2305843009213693952 ≤ Int.tdiv x d ∧ Int.tdiv x d ≤ 2305843009213693952 := by
  have h : (Int.tdiv x d).natAbs = x.natAbs / d.natAbs := Int.natAbs_tdiv x d
  have h3 : x.natAbs / d.natAbs ≤ x.natAbs := Nat.div_le_self _ _
  have h4 : (Int.tdiv x d).natAbs ≤ x.natAbs := by rw [h]; exact h3
  clear h h3
  omega

set_option maxRecDepth 100000 in
set_option maxHeartbeats 2000000 in
theorem eliminate_any (b n k : Nat) (F : Nat → Int) (d : Int) (w : World) (hS : Stg w b F) (h0 : F 0 = (n : Int)) (hk : k < n) (hn : n ≤ 8) (hF : ∀ i j, i < n → j ≤ i → Small (F (1 + i * 8 + j))) (hd : 0 < d) (hd2 : d < 1073741824) :
    Calls Tryz.prog 39 #[.pointer (some ⟨b, 0, none⟩), .int .i64 k, .int .i64 d] w (GivesStep w b n F k d) := by
  have H0 := Lib.hid h0
  have HS := Lib.hid hS
  clear h0 hS
  go_enter Tryz.func39, Tryz.ntmps39
  go_wp2_with fail
  go_loopw [7] (fun ii wr => ∃ (i : Nat) (G : Nat → Int), k < i ∧ i ≤ n ∧ ii = .int .i64 (i : Int) ∧ Hid (Upto n F k d i (k + 1) G) ∧ Hid (Stg wr b G) ∧ w.grownBy wr (some b)) (fun ii _ => n - (intOf ii).toNat)
  case atStart => exact ⟨k + 1, F, by omega, by omega, by go_num, Upto.start n F k d, HS, grownBy_refl _ _⟩
  case round =>
    obtain ⟨i, G, hki, hin, rfl, hU, hG, hgr⟩ := hrel
    have hsz := hG.out.size
    rw [hU.out.size, H0.out] at hsz
    by_cases hi : i < n
    · go_wp2_with fail
      go_loopw [8] (fun jj wq => ∃ (j : Nat) (G2 : Nat → Int), k < j ∧ j ≤ i + 1 ∧ jj = .int .i64 (j : Int) ∧ Hid (Upto n F k d i j G2) ∧ Hid (Stg wq b G2) ∧ w.grownBy wq (some b)) (fun jj _ => i + 1 - (intOf jj).toNat)
      case atStart => exact ⟨k + 1, G, by omega, by omega, by go_num, hU, hG, hgr⟩
      case round =>
        obtain ⟨j, G2, hkj, hji, rfl, hU2, hG2, hgr2⟩ := hrel
        clear hU hG hgr hsz
        by_cases hj : j ≤ i
        · have c1 := hG2.out.cell k k (by omega) (by omega)
          have c2 := hG2.out.cell i j (by omega) (by omega)
          have c3 := hG2.out.cell i k (by omega) (by omega)
          have c4 := hG2.out.cell j k (by omega) (by omega)
          have hfree := hG2.out.free (1 + i * 8 + j)
          rw [hU2.out.kept k k (by omega) (by omega)] at c1
          rw [hU2.out.kept i j (by omega) (by omega)] at c2
          rw [hU2.out.kept i k (by omega) (by omega)] at c3
          rw [hU2.out.kept j k (by omega) (by omega)] at c4
          obtain ⟨P1, hP1, p1, p2⟩ := prod_small (hF k k hk (Nat.le_refl _)) (hF i j hi hj)
          obtain ⟨P2, hP2, p3, p4⟩ := prod_small (hF i k hi (by omega)) (hF j k (by omega) (by omega))
          obtain ⟨z, hz⟩ : ∃ z, Int.tdiv (P1 - P2) d = z := ⟨_, rfl⟩
          obtain ⟨z1, z2⟩ := tdiv_bound (x := P1 - P2) hd (by omega) (by omega)
          rw [hz] at z1 z2
          have hst : stepE F k d i j = z := by unfold stepE; rw [hP1, hP2, hz]
          obtain ⟨x1, hx1⟩ : ∃ x, x = F (1 + k * 8 + k) := ⟨_, rfl⟩
          obtain ⟨x2, hx2⟩ : ∃ x, x = F (1 + i * 8 + j) := ⟨_, rfl⟩
          obtain ⟨x3, hx3⟩ : ∃ x, x = F (1 + i * 8 + k) := ⟨_, rfl⟩
          obtain ⟨x4, hx4⟩ : ∃ x, x = F (1 + j * 8 + k) := ⟨_, rfl⟩
          rw [← hx1] at c1 hP1
          rw [← hx2] at c2 hP1
          rw [← hx3] at c3 hP2
          rw [← hx4] at c4 hP2
          clear hx1 hx2 hx3 hx4
          have HST := Lib.hid hst
          clear hst
          go_wp2_with fail
          go_quiet (fail)
          go_wp2_with fail
          refine (belowLimit_any z _).mono ?_
          rintro e w1 ⟨rfl, rfl⟩
          by_cases hsm : Small z
          · have hdc : decide (Small z) = true := decide_eq_true hsm
            rw [hdc]
            have hnx : Hid (Upto n F k d i (j + 1) (fun c => if c = 1 + i * 8 + j then z else G2 c)) := by
              have h := hU2.out.one hkj hj hi hn (by rw [HST.out]; exact hsm)
              rw [HST.out] at h
              exact h
            clear hdc hsm
            go_wp2_with fail
            go_roundw
            case rel => exact ⟨j + 1, _, by omega, by omega, by go_num, hnx, (hG2.out.drew nq).set (1 + i * 8 + j) z, grownBy_setCell (grownBy_drewNY hgr2 nq) _ _⟩
            case measure => simp [intOf]; omega
          · have hdc : decide (Small z) = false := decide_eq_false hsm
            rw [hdc]
            have hno : Hid (¬Lims n F k d) := fun h => hsm (by rw [← HST.out]; exact h i j hkj hj hi)
            clear hdc hsm
            go_wp2_with fail
            go_ret
            exact .inr ⟨hno.out, rfl, grownBy_drewNY hgr2 nq⟩
        · obtain rfl : j = i + 1 := by omega
          go_wp2_with fail
          go_roundw
          case rel => exact ⟨i + 1, G2, by omega, by omega, by go_num, hU2.out.row, hG2, hgr2⟩
          case measure => simp [intOf]; omega
    · obtain rfl : i = n := by omega
      go_wp2_with fail
      go_ret
      exact .inl ⟨fun a c h1 h2 h3 => (hU.out.done a c h1 h2 h3 (.inl h3)).2, rfl, G, hU.out.last, hG.out, hgr⟩
end Go.Proofs.YtpnnbjifhoonkaaGreat
namespace Go.Proofs.YtpnnbjifhoonkaaGreat
open Go.RowKit

/-- The rows are those of a symmetric matrix with 1 to 8 rows and entries below the limit. -/
def ReadOk (hs : List (List Int)) : Prop :=
  (1 ≤ hs.length ∧ hs.length ≤ 8) ∧ (∀ i, i < hs.length → (hs.getD i []).length = hs.length) ∧ ∀ i j, j ≤ i → i < hs.length → ent hs i j = ent hs j i ∧ Small (ent hs i j)

structure RdUpto (hs : List (List Int)) (i0 j0 : Nat) (G : Nat → Int) : Prop where
  done : ∀ i j, j ≤ i → i < hs.length → (i < i0 ∨ (i = i0 ∧ j < j0)) → (ent hs i j = ent hs j i ∧ Small (ent hs i j)) ∧ G (1 + i * 8 + j) = ent hs i j
  size : G 0 = (hs.length : Int)

def GivesRead (w : World) (b : Nat) (hs : List (List Int)) (e : Ending) (w' : World) : Prop :=
  (ReadOk hs ∧ e = .returned (.bool true) ∧ ∃ G, RdUpto hs hs.length 0 G ∧ Stg w' b G ∧ w.grownBy w' (some b)) ∨ (¬ReadOk hs ∧ e = .returned (.bool false) ∧ w.grownBy w' (some b))

theorem RdUpto.row {hs : List (List Int)} {i0 : Nat} {G : Nat → Int} (h : RdUpto hs i0 (i0 + 1) G) : RdUpto hs (i0 + 1) 0 G :=
  ⟨fun i j h1 h2 h3 => h.done i j h1 h2 (by omega), h.size⟩

theorem RdUpto.one {hs : List (List Int)} {i0 j0 : Nat} {G : Nat → Int} (h : RdUpto hs i0 j0 G) (hj : j0 ≤ i0) (hi : i0 < hs.length) (hn : hs.length ≤ 8) (he : ent hs i0 j0 = ent hs j0 i0) (hs' : Small (ent hs i0 j0)) :
    RdUpto hs i0 (j0 + 1) (fun c => if c = 1 + i0 * 8 + j0 then ent hs i0 j0 else G c) := by
  refine ⟨fun i j h1 h2 h3 => ?_, ?_⟩
  · by_cases e : i = i0 ∧ j = j0
    · obtain ⟨rfl, rfl⟩ := e
      exact ⟨⟨he, hs'⟩, if_pos rfl⟩
    · have hne : 1 + i * 8 + j ≠ 1 + i0 * 8 + j0 := by omega
      show _ ∧ (if _ then _ else _) = _
      rw [if_neg hne]
      exact h.done i j h1 h2 (by omega)
  · show (if _ then _ else _) = _
    rw [if_neg (by omega)]
    exact h.size

set_option maxRecDepth 100000 in
set_option maxHeartbeats 2000000 in
theorem read_any (b : Nat) (F : Nat → Int) (a : Option Addr) (n cap : Nat) (hs : List (List Int)) (w w0 : World) (hS : Stg w b F) (h0 : F 0 = (n : Int)) (hl : hs.length = n) (hn : n ≤ 100000000000000)
    (hr : RdM w0 a cap hs) (hB : ∀ wr, w.grownBy wr (some b) → Below w0.heap.size w0 wr) :
    Calls Tryz.prog 37 #[.pointer (some ⟨b, 0, none⟩), .slice a n cap] w (GivesRead w b hs) := by
  have hsz := hS.size
  rw [h0] at hsz
  have H0 := Lib.hid h0
  have HS := Lib.hid hS
  have HB := Lib.hid hB
  have HL := Lib.hid hl
  clear h0 hS hB hl
  by_cases h1 : n < 1
  · obtain rfl : n = 0 := by omega
    have hno : Hid (¬ReadOk hs) := fun h => by have := h.1.1; rw [HL.out] at this; omega
    go_enter Tryz.func37, Tryz.ntmps37
    go_wp2_with fail
    go_ret
    exact .inr ⟨hno.out, rfl, grownBy_refl _ _⟩
  · by_cases h8 : 8 < n
    · have hno : Hid (¬ReadOk hs) := fun h => by have := h.1.2; rw [HL.out] at this; omega
      have d1 : decide ((n : Int) < 1) = false := decide_eq_false (by omega)
      have d2 : decide ((8 : Int) < (n : Int)) = true := decide_eq_true (by omega)
      go_enter Tryz.func37, Tryz.ntmps37
      go_wp2_with fail
      go_ret
      exact .inr ⟨hno.out, rfl, grownBy_refl _ _⟩
    · have d1 : decide ((n : Int) < 1) = false := decide_eq_false (by omega)
      have d2 : decide ((8 : Int) < (n : Int)) = false := decide_eq_false (by omega)
      obtain ⟨hb, ho, A, C, rfl, hfix⟩ := hr.fix (by rw [HL.out]; omega)
      have HF := Lib.hid hfix
      clear hr hfix
      go_enter Tryz.func37, Tryz.ntmps37
      go_wp2_with fail
      clear d1 d2
      go_loop [25] (fun ii => ∃ i : Nat, i ≤ n ∧ ii = .int .i64 (i : Int) ∧ Hid (∀ c, c < i → (hs.getD c []).length = n)) (fun ii => n - (intOf ii).toNat)
      case atStart => exact ⟨0, by omega, rfl, fun c hc => by omega⟩
      case round =>
        obtain ⟨i, hin, rfl, hlen⟩ := hrel
        by_cases hi : i < n
        · obtain ⟨hc, hri, hli⟩ := HF.out w (HB.out w (grownBy_refl _ _)) i (by rw [HL.out]; exact hi)
          obtain ⟨m, hm⟩ : ∃ m, m = (hs.getD i []).length := ⟨_, rfl⟩
          rw [← hm] at hc hli
          by_cases he : m = n
          · have hnx : Hid (∀ c, c < i + 1 → (hs.getD c []).length = n) := fun c hc => by
              by_cases e : c = i
              · rw [e, ← hm, he]
              · exact hlen.out c (by omega)
            subst he
            clear hm hri hlen
            go_wp2_with fail
            go_round
            case rel => exact ⟨i + 1, by omega, by go_num, hnx⟩
            case measure => simp [intOf]; omega
          · have hne : (((m : Nat) : Int) == (n : Int)) = false := by simp; omega
            have hno : Hid (¬ReadOk hs) := fun h => he (by have := h.2.1 i (by rw [HL.out]; exact hi); rw [hm, this, HL.out])
            clear hm hri hlen he
            go_wp2_with fail
            go_ret
            exact .inr ⟨hno.out, rfl, grownBy_refl _ _⟩
        · obtain rfl : i = n := by omega
          have hsq : Hid (∀ c, c < hs.length → (hs.getD c []).length = i) := fun c hc => hlen.out c (by rw [← HL.out]; exact hc)
          have hst : Hid (RdUpto hs 0 0 F) := ⟨fun i j h1 h2 h3 => by omega, by rw [H0.out, HL.out]⟩
          clear hlen hi
          go_wp2_with fail
          go_loopw [39] (fun ii wr => ∃ (k : Nat) (G : Nat → Int), k ≤ i ∧ ii = .int .i64 (k : Int) ∧ Hid (RdUpto hs k 0 G) ∧ Hid (Stg wr b G) ∧ w.grownBy wr (some b)) (fun ii _ => i - (intOf ii).toNat)
          case atStart => exact ⟨0, F, by omega, rfl, hst, HS, grownBy_refl _ _⟩
          case round =>
            obtain ⟨k, G, hki, rfl, hU, hG, hgr⟩ := hrel
            by_cases hk : k < i
            · obtain ⟨hc, hrk, hlk⟩ := HF.out _ (HB.out _ hgr) k (by rw [HL.out]; exact hk)
              have hlen := hsq.out k (by rw [HL.out]; exact hk)
              obtain ⟨hb2, ho2, hA, _⟩ := hrk.cells 0 (by rw [hlen]; omega)
              have hfit := hrk.fits
              rw [hlen] at hc hfit
              rw [hA] at hc
              obtain ⟨ck, hck⟩ : ∃ c, c = C k := ⟨_, rfl⟩
              rw [← hck] at hc hfit
              have HA := Lib.hid hA
              have HC := Lib.hid hck
              clear hrk hlen hlk hA hck
              go_wp2_with fail
              go_loopw [49] (fun jj wq => ∃ (j : Nat) (G2 : Nat → Int), j ≤ k + 1 ∧ jj = .int .i64 (j : Int) ∧ Hid (RdUpto hs k j G2) ∧ Hid (Stg wq b G2) ∧ w.grownBy wq (some b)) (fun jj _ => k + 1 - (intOf jj).toNat)
              case atStart => exact ⟨0, G, by omega, rfl, hU, hG, hgr⟩
              case round =>
                obtain ⟨j, G2, hjk, rfl, hU2, hG2, hgr2⟩ := hrel
                clear hU hG hc hfit
                by_cases hj : j ≤ k
                · obtain ⟨hc, hrk, hlk⟩ := HF.out _ (HB.out _ hgr2) k (by rw [HL.out]; exact hk)
                  obtain ⟨hcj, hrj, hlj⟩ := HF.out _ (HB.out _ hgr2) j (by rw [HL.out]; omega)
                  have hlenk := hsq.out k (by rw [HL.out]; exact hk)
                  have hlenj := hsq.out j (by rw [HL.out]; omega)
                  obtain ⟨b1, o1, e1, hx1⟩ := hrk.cells j (by rw [hlenk]; omega)
                  rw [HA.out] at e1
                  simp only [Option.some.injEq, Addr.mk.injEq, and_true] at e1
                  obtain ⟨rfl, rfl⟩ := e1
                  obtain ⟨b3, o3, e3, hx3⟩ := hrj.cells k (by rw [hlenj]; omega)
                  rw [hlenj, e3] at hcj
                  have hfree := hG2.out.free (1 + k * 8 + j)
                  have hcell := hG2.out.cell k j (by omega) (by omega)
                  obtain ⟨x, hx⟩ : ∃ x, x = ent hs k j := ⟨_, rfl⟩
                  obtain ⟨y, hy⟩ : ∃ y, y = ent hs j k := ⟨_, rfl⟩
                  have hx' : x = (hs.getD k []).getD j 0 := hx
                  have hy' : y = (hs.getD j []).getD k 0 := hy
                  rw [← hx'] at hx1
                  rw [← hy'] at hx3
                  have HX := Lib.hid hx
                  have HY := Lib.hid hy
                  clear hx hy hx' hy' hrk hrj hlk hlj hlenk hlenj hc e3
                  by_cases hxy : x = y
                  · subst hxy
                    by_cases hsm : Small x
                    · have hdc : decide (Small x) = true := decide_eq_true hsm
                      have hnx : Hid (RdUpto hs k (j + 1) (fun c => if c = 1 + k * 8 + j then x else G2 c)) := by
                        have h := hU2.out.one hj (by rw [HL.out]; exact hk) (by rw [HL.out]; omega) (by rw [← HX.out, ← HY.out]) (by rw [← HX.out]; exact hsm)
                        rw [← HX.out] at h
                        exact h
                      have HD := Lib.hid hdc
                      clear hdc hsm
                      go_wp2_with fail
                      refine (belowLimit_any x _).mono ?_
                      rintro e w1 ⟨rfl, rfl⟩
                      rw [HD.out]
                      go_wp2_with fail
                      go_roundw
                      case rel => exact ⟨j + 1, _, by omega, by go_num, hnx, hG2.out.set (1 + k * 8 + j) x, grownBy_setCell hgr2 _ _⟩
                      case measure => simp [intOf]; omega
                    · have hdc : decide (Small x) = false := decide_eq_false hsm
                      have hno : Hid (¬ReadOk hs) := fun h => hsm (by rw [HX.out]; exact (h.2.2 k j hj (by rw [HL.out]; exact hk)).2)
                      have HD := Lib.hid hdc
                      clear hdc hsm
                      go_wp2_with fail
                      refine (belowLimit_any x _).mono ?_
                      rintro e w1 ⟨rfl, rfl⟩
                      rw [HD.out]
                      go_wp2_with fail
                      go_ret
                      exact .inr ⟨hno.out, rfl, hgr2⟩
                  · have hne : decide (x = y) = false := decide_eq_false hxy
                    have hno : Hid (¬ReadOk hs) := fun h => hxy (by rw [HX.out, HY.out]; exact (h.2.2 k j hj (by rw [HL.out]; exact hk)).1)
                    go_wp2_with fail
                    go_ret
                    exact .inr ⟨hno.out, rfl, hgr2⟩
                · obtain rfl : j = k + 1 := by omega
                  go_wp2_with fail
                  go_roundw
                  case rel => exact ⟨k + 1, G2, by omega, by go_num, hU2.out.row, hG2, hgr2⟩
                  case measure => simp [intOf]; omega
            · obtain rfl : k = i := by omega
              have hyes : Hid (ReadOk hs) := ⟨by rw [HL.out]; omega, fun c hc => by rw [hsq.out c hc, HL.out], fun i j h1 h2 => (hU.out.done i j h1 h2 (by rw [HL.out] at h2; exact .inl h2)).1⟩
              go_wp2_with fail
              go_ret
              exact .inl ⟨hyes.out, rfl, G, by rw [HL.out]; exact hU.out, hG.out, hgr⟩
end Go.Proofs.YtpnnbjifhoonkaaGreat
