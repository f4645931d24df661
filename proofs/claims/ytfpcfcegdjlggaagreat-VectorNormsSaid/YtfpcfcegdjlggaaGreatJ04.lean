/-
  Joined texts: D E F I J K L M.
-/
import Derived.Test.YtfpcfcegdjlggaaGreatJ03
import Derived.BigQuiet
import Derived.Test.YtfpcfcegdjlggaaGreatShelf
import Derived.Lib.ItoaNum
import Derived.Deep.LoopGhost
namespace Go.Proofs.YtfpcfcegdjlggaaGreat
open Go.RowKit

/-- The order of two numbers as an int. -/
def cmpI (x y : Nat) : Int := if x < y then -1 else if y < x then 1 else 0

theorem sgn_len {xs ys : List Nat} (hx : Lim xs) (hy : Lim ys) (ht : trimL xs = xs) (ht' : trimL ys = ys) (hne : xs.length ≠ ys.length) (b : Bool) (hb : b = decide (xs.length < ys.length)) :
    sgn b = cmpI (val xs) (val ys) := by
  have e1 : limbs (val xs) = xs := by rw [limbs_val hx, ht]
  have e2 : limbs (val ys) = ys := by rw [limbs_val hy, ht']
  subst hb
  rcases Nat.lt_or_gt_of_ne hne with h | h
  · have := limbs_length_lt (m := val xs) (n := val ys) (by rw [e1, e2]; exact h)
    simp [sgn, cmpI, h, this]
  · have := limbs_length_lt (m := val ys) (n := val xs) (by rw [e1, e2]; exact h)
    have h' : ¬ xs.length < ys.length := by omega
    have h'' : ¬ val xs < val ys := by omega
    simp [sgn, cmpI, h', h'', this]

theorem sgn_top {xs ys : List Nat} (hx : Lim xs) (hy : Lim ys) (hl : xs.length = ys.length) (k : Nat) (hk : k < xs.length) (hd : xs.drop (k + 1) = ys.drop (k + 1)) (hne : nth xs k ≠ nth ys k) :
    sgn (decide (nth xs k < nth ys k)) = cmpI (val xs) (val ys) := by
  unfold nth at *
  rcases Nat.lt_or_gt_of_ne (show xs.getD k 0 ≠ ys.getD k 0 by omega) with h | h
  · have := val_lt_of_top hx hl k hk hd h
    have h' : ((xs.getD k 0 : Nat) : Int) < (ys.getD k 0 : Nat) := by omega
    rw [decide_eq_true h']
    simp [sgn, cmpI, this]
  · have := val_lt_of_top hy hl.symm k (by omega) hd.symm h
    have h' : ¬ ((xs.getD k 0 : Nat) : Int) < (ys.getD k 0 : Nat) := by omega
    have h'' : ¬ val xs < val ys := by omega
    rw [decide_eq_false h']
    simp [sgn, cmpI, h'', this]

end Go.Proofs.YtfpcfcegdjlggaaGreat
namespace Go.Proofs.YtfpcfcegdjlggaaGreat
open Go.RowKit

/-- What 'make([]uint32, n)' leaves. -/
theorem own_made {w w1 : World} {n : Nat} (h : w1.ownsRow w.heap.size 87 1 (.slice (some ⟨w.heap.size, 0, none⟩) n n) n (madeCells #[Value.int .u32 0] n).toList) : Own w1 w.heap.size (List.replicate n 0) := by
  rw [madeU32] at h
  exact Own.of_ownsRow (Lim.replicate _ _ (by omega)) (by simp) h

end Go.Proofs.YtfpcfcegdjlggaaGreat
namespace Go.Proofs.YtfpcfcegdjlggaaGreat
open Go.RowKit

theorem wrap_u64' (n : Int) : IntKind.u64.wrap n = n % 18446744073709551616 := by simp [IntKind.wrap, IntKind.bits, IntKind.signed]

end Go.Proofs.YtfpcfcegdjlggaaGreat
namespace Go.Proofs.YtfpcfcegdjlggaaGreat
open Go.RowKit

/-- What is new for a later world is new for an earlier one. -/
theorem New.before {w w2 w3 : World} {zs : List Nat} {a : Option Addr} {cap : Nat} (hb : Below w.heap.size w w2) (h : New w2 zs a cap w3) : New w zs a cap w3 := by
  have hs := hb.size
  refine ⟨hb.trans (h.below.mono hs), h.fits, ?_⟩
  rcases h.own with h0 | ⟨g, rfl, hg, ho⟩
  · exact .inl h0
  · exact .inr ⟨g, rfl, by omega, ho⟩

/-- What is new stays while more is made. -/
theorem New.after {w w2 w3 : World} {zs : List Nat} {a : Option Addr} {cap : Nat} (h : New w zs a cap w2) (hb : Below w2.heap.size w2 w3) : New w zs a cap w3 := by
  have hs := h.below.size
  refine ⟨h.below.trans (hb.mono hs), h.fits, ?_⟩
  rcases h.own with h0 | ⟨g, rfl, hg, ho⟩
  · exact .inl h0
  · exact .inr ⟨g, rfl, hg, ho.below hb ho.lt⟩

end Go.Proofs.YtfpcfcegdjlggaaGreat
namespace Go.Proofs.YtfpcfcegdjlggaaGreat
open Go.RowKit

theorem pow_small (m : Nat) (hm : m < 32) : 2 ^ m ≤ 2147483648 ∧ 1 ≤ 2 ^ m :=
  ⟨Nat.le_trans (Nat.pow_le_pow_right (by omega) (show m ≤ 31 by omega)) (by decide), Nat.pow_pos (by omega)⟩

theorem pow_wrap (m : Nat) (hm : m < 32) : IntKind.u32.wrap (2 ^ m : Int) = ((2 ^ m : Nat) : Int) := by
  have h := pow_small m hm
  rw [IntKind.wrap_u32, show (2 : Int) ^ m = ((2 ^ m : Nat) : Int) by simp]
  omega

theorem New.drewN {w w' : World} {zs : List Nat} {a : Option Addr} {cap : Nat} (h : New w zs a cap w') (n : Nat) : New w zs a cap (w'.drewN n) := by
  refine ⟨below_drewN h.below n, h.fits, ?_⟩
  rcases h.own with h0 | ⟨g, rfl, hg, ho⟩
  · exact .inl h0
  · exact .inr ⟨g, rfl, hg, ho.drewN n⟩

theorem New.lim {w w' : World} {zs : List Nat} {a : Option Addr} {cap : Nat} (h : New w zs a cap w') : Lim zs := h.rd.lim

end Go.Proofs.YtfpcfcegdjlggaaGreat
namespace Go.Proofs.YtfpcfcegdjlggaaGreat
open Go.RowKit

/-- The integer that a sign and limbs denote. -/
def den (neg : Bool) (xs : List Nat) : Int := if neg then -(val xs : Int) else (val xs : Int)
def sg (z : Int) : Bool := decide (z < 0)
def mg (z : Int) : List Nat := limbs z.natAbs

/-- A canonical Int in new memory. -/
def GivesInt (w : World) (z : Int) (e : Ending) (w' : World) : Prop :=
  ∃ a cap, e = .returned (.agg #[.bool (sg z), .slice a (mg z).length cap]) ∧ New w (mg z) a cap w'

theorem den_mg (z : Int) : den (sg z) (mg z) = z := by
  unfold den sg mg
  rw [val_limbs]
  by_cases h : z < 0
  · rw [decide_eq_true h]; simp; omega
  · rw [decide_eq_false h]; simp; omega
/-- The block of a struct of two cells stands untouched. -/
theorem held2 {w w3 : World} {c0 c1 : Value} {t : TypeId} (h : Below (w.alloc (.cells #[c0, c1] t)).heap.size (w.alloc (.cells #[c0, c1] t)) w3) :
    w3.cell? ⟨w.heap.size, 0, none⟩ = some c0 ∧ w3.cell? ⟨w.heap.size, 1, none⟩ = some c1 ∧ w3.frozen? ⟨w.heap.size, 0, none⟩ = false ∧ w3.frozen? ⟨w.heap.size, 1, none⟩ = false ∧ w.heap.size < w3.heap.size := by
  have hs := h.size
  rw [World.size_alloc] at hs
  refine ⟨?_, ?_, ?_, ?_, by omega⟩
  · rw [h.cell (p := ⟨w.heap.size, 0, none⟩) (by simp)]; simp [go_sem]
  · rw [h.cell (p := ⟨w.heap.size, 1, none⟩) (by simp)]; simp [go_sem]
  · rw [h.frozen (p := ⟨w.heap.size, 0, none⟩) (by simp)]; simp [go_sem]
  · rw [h.frozen (p := ⟨w.heap.size, 1, none⟩) (by simp)]; simp [go_sem]

/-- A new list stays new while the result's own two cells are written. -/
theorem new_result {w w3 : World} {o : Obj} {zs : List Nat} {a : Option Addr} {cap : Nat} (h : New (w.alloc o) zs a cap w3) (u v : Value) :
    New w zs a cap ((w3.setCell ⟨w.heap.size, 0, none⟩ u).setCell ⟨w.heap.size, 1, none⟩ v) := by
  have hb : Below w.heap.size w w3 := ((Below.refl _ _).alloc (Nat.le_refl _) o).trans (h.below.mono (by simp))
  refine ⟨(hb.setCell (p := ⟨w.heap.size, 0, none⟩) (Nat.le_refl _) u).setCell (p := ⟨w.heap.size, 1, none⟩) (Nat.le_refl _) v, h.fits, ?_⟩
  rcases h.own with h0 | ⟨g, rfl, hg, ho⟩
  · exact .inl h0
  · rw [World.size_alloc] at hg
    refine .inr ⟨g, rfl, by omega, ho.of_heap ?_⟩
    rw [Below.heap_setCell _ _ _ _ (by simp; omega), Below.heap_setCell _ _ _ _ (by simp; omega)]

theorem Rd.alloc {w : World} {a : Option Addr} {cap : Nat} {xs : List Nat} (h : Rd w a cap xs) (o : Obj) : Rd (w.alloc o) a cap xs :=
  h.below ((Below.refl _ _).alloc (Nat.le_refl _) o)

theorem trim_length_zero {xs : List Nat} (h : Lim xs) : (trimL xs).length = 0 ↔ val xs = 0 := by
  rw [← limbs_val h, List.length_eq_zero_iff, limbs_eq_nil]

def sign3 (z : Int) : Int := if z < 0 then -1 else if z = 0 then 0 else 1

/-- What Int64 answers. -/
def in64 (z : Int) : Bool := decide (-9223372036854775808 ≤ z ∧ z ≤ 9223372036854775807)
def to64 (z : Int) : Int := if in64 z then z else 0
theorem in64_yes {z : Int} (h : -9223372036854775808 ≤ z ∧ z ≤ 9223372036854775807) : in64 z = true := decide_eq_true h
theorem in64_no {z : Int} (h : ¬(-9223372036854775808 ≤ z ∧ z ≤ 9223372036854775807)) : in64 z = false := decide_eq_false h

theorem val_trim_len {xs : List Nat} (h : Lim xs) (h2 : ¬(trimL xs).length ≤ 2) : 18446744073709551616 ≤ val xs := by
  rw [← limbs_val h] at h2
  rcases Nat.lt_or_ge (val xs) 18446744073709551616 with h1 | h1
  · exact absurd (length_limbs_le (k := 2) (by omega)) h2
  · exact h1

end Go.Proofs.YtfpcfcegdjlggaaGreat
namespace Go.Proofs.YtfpcfcegdjlggaaGreat
open Go.RowKit

theorem euclid {z d Q R : Int} (hd : d ≠ 0) (h : z = Q * d + R) (h0 : 0 ≤ R) (h1 : R < d.natAbs) : z / d = Q ∧ z % d = R := by
  rcases Int.lt_or_gt_of_ne hd with hn | hp
  · have := (Int.ediv_emod_unique (a := z) (b := -d) (r := R) (q := -Q) (by omega)).2 ⟨by rw [Int.neg_mul_neg, h, Int.mul_comm]; omega, h0, by omega⟩
    rw [Int.ediv_neg, Int.emod_neg] at this
    exact ⟨by omega, this.2⟩
  · exact (Int.ediv_emod_unique hp).2 ⟨by rw [h, Int.mul_comm]; omega, h0, by omega⟩

theorem den_zero {neg : Bool} {xs : List Nat} : den neg xs = 0 ↔ val xs = 0 := by unfold den; cases neg <;> simp
theorem natAbs_den (neg : Bool) (xs : List Nat) : (den neg xs).natAbs = val xs := by unfold den; cases neg <;> simp

theorem divmod_plain {na nb : Bool} {X Y q r : Nat} (hY : 0 < Y) (hq : q = X / Y) (hr : r = X % Y) (h : na = true → r = 0) :
    (if na then -(X : Int) else X) / (if nb then -(Y : Int) else Y) = (if (na != nb) then -(q : Int) else q) ∧ (if na then -(X : Int) else X) % (if nb then -(Y : Int) else Y) = (r : Int) := by
  have e := Nat.div_add_mod X Y
  have hlt := Nat.mod_lt X hY
  rw [← hq, ← hr] at e
  rw [← hr] at hlt
  have ez : (X : Int) = (q : Int) * (Y : Int) + (r : Int) := by rw [← e]; push_cast; rw [Int.mul_comm]
  apply euclid
  · cases nb <;> simp <;> omega
  · cases na <;> cases nb
    · simpa using ez
    · simp only [Bool.false_eq_true, if_false, if_true, Bool.false_bne, Int.neg_mul, Int.mul_neg, Int.neg_neg]; omega
    · have := h rfl
      subst this
      simp only [Bool.false_eq_true, if_false, if_true, Bool.true_bne, Bool.not_false, Int.neg_mul]; omega
    · have := h rfl
      subst this
      simp only [Bool.false_eq_true, if_false, if_true, bne_self_eq_false, Int.mul_neg]; omega
  · omega
  · cases nb <;> simp <;> omega

theorem divmod_neg {nb : Bool} {X Y q r : Nat} (hY : 0 < Y) (hq : q = X / Y) (hr : r = X % Y) (h : 0 < r) :
    (-(X : Int)) / (if nb then -(Y : Int) else Y) = (if (true != nb) then -((q + 1 : Nat) : Int) else ((q + 1 : Nat) : Int)) ∧ (-(X : Int)) % (if nb then -(Y : Int) else Y) = ((Y - r : Nat) : Int) := by
  have e := Nat.div_add_mod X Y
  have hlt := Nat.mod_lt X hY
  rw [← hq, ← hr] at e
  rw [← hr] at hlt
  have ez : (X : Int) = (q : Int) * (Y : Int) + (r : Int) := by rw [← e]; push_cast; rw [Int.mul_comm]
  have ey : ((Y - r : Nat) : Int) = (Y : Int) - (r : Int) := by omega
  rw [ey]
  apply euclid
  · cases nb <;> simp <;> omega
  · cases nb
    · simp only [Bool.false_eq_true, if_false, if_true, Bool.true_bne, Bool.not_false, Int.neg_mul]; rw [Int.natCast_add, Int.add_mul]; omega
    · simp only [Bool.false_eq_true, if_false, if_true, bne_self_eq_false, Int.mul_neg]; rw [Int.natCast_add, Int.add_mul]; omega
  · omega
  · cases nb <;> simp <;> omega

def GivesDM (w : World) (z d : Int) (e : Ending) (w' : World) : Prop :=
  ∃ a cap b cap', e = .returned (.tuple #[.agg #[.bool (sg (z / d)), .slice a (mg (z / d)).length cap], .agg #[.bool (sg (z % d)), .slice b (mg (z % d)).length cap'], .bool true]) ∧ New w (mg (z / d)) a cap w' ∧ New w (mg (z % d)) b cap' w'

/-- What the four blocks of a call of DivMod hold: two arguments, two results. -/
structure Four (B : Nat) (na nb : Bool) (w : World) : Prop where
  c0 : w.cell? ⟨B, 0, none⟩ = some (.bool na)
  c1 : w.cell? ⟨B + 1, 0, none⟩ = some (.bool nb)
  r0 : w.cell? ⟨B + 1 + 1, 0, none⟩ = some (.bool false)
  r1 : w.cell? ⟨B + 1 + 1, 1, none⟩ = some (.slice none 0 0)
  s0 : w.cell? ⟨B + 1 + 1 + 1, 0, none⟩ = some (.bool false)
  s1 : w.cell? ⟨B + 1 + 1 + 1, 1, none⟩ = some (.slice none 0 0)
  f0 : w.frozen? ⟨B + 1 + 1, 0, none⟩ = false
  f1 : w.frozen? ⟨B + 1 + 1, 1, none⟩ = false
  g0 : w.frozen? ⟨B + 1 + 1 + 1, 0, none⟩ = false
  g1 : w.frozen? ⟨B + 1 + 1 + 1, 1, none⟩ = false
  size : B + 1 + 1 + 1 < w.heap.size

theorem Four.below {B : Nat} {na nb : Bool} {w w' : World} (h : Four B na nb w) (hb : Below w.heap.size w w') : Four B na nb w' := by
  have hs := h.size
  have hs' := hb.size
  exact ⟨(hb.cell (by simp; omega)).trans h.c0, (hb.cell (by simp; omega)).trans h.c1, (hb.cell (by simp; omega)).trans h.r0, (hb.cell (by simp; omega)).trans h.r1, (hb.cell (by simp; omega)).trans h.s0, (hb.cell (by simp; omega)).trans h.s1,
    (hb.frozen (by simp; omega)).trans h.f0, (hb.frozen (by simp; omega)).trans h.f1, (hb.frozen (by simp; omega)).trans h.g0, (hb.frozen (by simp; omega)).trans h.g1, by omega⟩

theorem new_result4 {w W0 w3 : World} {zs : List Nat} {a : Option Addr} {cap : Nat} (hBW : Below w.heap.size w W0) (h : New W0 zs a cap w3) (hs : w.heap.size + 1 + 1 + 1 < W0.heap.size) (u1 u2 u3 u4 : Value) :
    New w zs a cap ((((w3.setCell ⟨w.heap.size + 1 + 1, 0, none⟩ u1).setCell ⟨w.heap.size + 1 + 1, 1, none⟩ u2).setCell ⟨w.heap.size + 1 + 1 + 1, 0, none⟩ u3).setCell ⟨w.heap.size + 1 + 1 + 1, 1, none⟩ u4) := by
  have hb : Below w.heap.size w w3 := hBW.trans (h.below.mono hBW.size)
  refine ⟨(((hb.setCell (p := ⟨w.heap.size + 1 + 1, 0, none⟩) (by simp; omega) u1).setCell (p := ⟨w.heap.size + 1 + 1, 1, none⟩) (by simp; omega) u2).setCell (p := ⟨w.heap.size + 1 + 1 + 1, 0, none⟩) (by simp; omega) u3).setCell (p := ⟨w.heap.size + 1 + 1 + 1, 1, none⟩) (by simp; omega) u4, h.fits, ?_⟩
  rcases h.own with h0 | ⟨g, rfl, hg, ho⟩
  · exact .inl h0
  · refine .inr ⟨g, rfl, by omega, ho.of_heap ?_⟩
    rw [Below.heap_setCell _ _ _ _ (by simp; omega), Below.heap_setCell _ _ _ _ (by simp; omega), Below.heap_setCell _ _ _ _ (by simp; omega), Below.heap_setCell _ _ _ _ (by simp; omega)]

end Go.Proofs.YtfpcfcegdjlggaaGreat
namespace Go.Proofs.YtfpcfcegdjlggaaGreat
open Go.RowKit

/-- A block of two cells that holds a struct: an argument or a result. -/
structure Box (B : Nat) (v0 v1 : Value) (w : World) : Prop where
  c0 : w.cell? ⟨B, 0, none⟩ = some v0
  c1 : w.cell? ⟨B, 1, none⟩ = some v1
  f0 : w.frozen? ⟨B, 0, none⟩ = false
  f1 : w.frozen? ⟨B, 1, none⟩ = false
  size : B < w.heap.size

theorem Box.below {B : Nat} {v0 v1 : Value} {w w' : World} (h : Box B v0 v1 w) (hb : Below w.heap.size w w') : Box B v0 v1 w' :=
  ⟨(hb.cell h.size).trans h.c0, (hb.cell h.size).trans h.c1, (hb.frozen h.size).trans h.f0, (hb.frozen h.size).trans h.f1, Nat.lt_of_lt_of_le h.size hb.size⟩
theorem Box.alloc {B : Nat} {v0 v1 : Value} {w : World} (h : Box B v0 v1 w) (o : Obj) : Box B v0 v1 (w.alloc o) := h.below ((Below.refl _ _).alloc (Nat.le_refl _) _)
theorem Box.made (w : World) (B : Nat) (hB : B = w.heap.size) (v0 v1 : Value) (t : TypeId) : Box B v0 v1 (w.alloc (.cells #[v0, v1] t)) := by
  subst hB
  exact ⟨by simp [go_sem], by simp [go_sem], by simp [go_sem], by simp [go_sem], by simp⟩
theorem Box.drewN {B : Nat} {v0 v1 : Value} {w : World} (h : Box B v0 v1 w) (n : Nat) : Box B v0 v1 (w.drewN n) := ⟨h.c0, h.c1, h.f0, h.f1, h.size⟩

end Go.Proofs.YtfpcfcegdjlggaaGreat
