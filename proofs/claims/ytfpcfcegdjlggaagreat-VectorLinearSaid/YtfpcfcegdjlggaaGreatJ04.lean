/-
  Joined texts: B C D E F I J K.
-/
import Derived.Test.YtfpcfcegdjlggaaGreatJ03
import Derived.BigQuiet
import Derived.Deep.QuietTactic
import Derived.Laws.CopyOwn
import Derived.Test.YtfpcfcegdjlggaaGreatShelf
import Derived.Lib.ItoaNum
import Derived.Deep.LoopGhost
namespace Go.Proofs.YtfpcfcegdjlggaaGreat
open Go.RowKit

theorem or_join64 (x t : Int) (h0 : 0 ≤ x) (h1 : x < 4294967296) (h2 : 0 ≤ t) (h3 : t < 4294967296) : bits .or .u64 x (t * 4294967296) = x + t * 4294967296 := by
  rw [u64_or _ _ h0 (by omega) (by omega) (by omega), Nat.or_comm]
  have e : (t * 4294967296).toNat = 2 ^ 32 * t.toNat := by omega
  rw [e, ← Nat.two_pow_add_eq_or_of_lt (by omega : x.toNat < 2 ^ 32)]
  omega

/-- The cells of a list of limbs. -/
def u32s (zs : List Nat) : List Value := zs.map fun (n : Nat) => Value.int .u32 (n : Int)
theorem length_u32s (zs : List Nat) : (u32s zs).length = zs.length := by simp [u32s]
theorem u32s_get (zs : List Nat) (i : Nat) (h : i < zs.length) : (u32s zs)[i]? = some (.int .u32 (nth zs i)) := by
  simp [u32s, nth, List.getD_eq_getElem?_getD, List.getElem?_eq_getElem h]
theorem u32s_one (zs : List Nat) : ∀ u ∈ u32s zs, u.oneCell' = true := by
  intro u hu
  obtain ⟨_, _, rfl⟩ := List.mem_map.1 hu
  rfl

/-- The first cells of block g are the limbs zs. -/
structure Own (w : World) (g : Nat) (zs : List Nat) : Prop where
  lim : Lim zs
  row : ∃ cur : Array Value, w.heap[g]? = some (.cells cur 87 (0, 0)) ∧ cur.toList.take zs.length = u32s zs

theorem Own.lt {w : World} {g : Nat} {zs : List Nat} (h : Own w g zs) : g < w.heap.size := by
  obtain ⟨cur, hg, _⟩ := h.row
  exact (Array.getElem?_eq_some_iff.1 hg).1

theorem Own.cell {w : World} {g : Nat} {zs : List Nat} (h : Own w g zs) (i : Nat) (hi : i < zs.length) : w.cell? ⟨g, i, none⟩ = some (.int .u32 (nth zs i)) := by
  obtain ⟨cur, hg, ht⟩ := h.row
  rw [cell_of_row w g i cur _ (0, 0) hg]
  have e := u32s_get zs i hi
  rw [← ht, List.getElem?_take, if_pos hi] at e
  simpa using e

theorem Own.free {w : World} {g : Nat} {zs : List Nat} (h : Own w g zs) (i : Nat) : w.frozen? ⟨g, i, none⟩ = false := by
  obtain ⟨cur, hg, _⟩ := h.row
  exact frozen_of_row w g i cur _ hg

theorem Own.store {w : World} {g : Nat} {zs : List Nat} (h : Own w g zs) (i m : Nat) (hm : m < 4294967296) (v : Int) (hv : v = (m : Int)) :
    Own (w.setCell ⟨g, i, none⟩ (.int .u32 v)) g (zs.set i m) ∧ w.grownBy (w.setCell ⟨g, i, none⟩ (.int .u32 v)) (some g) := by
  subst hv
  obtain ⟨cur, hg, ht⟩ := h.row
  refine ⟨⟨h.lim.set i m hm, cur.setIfInBounds i (.int .u32 m), heap_setCell_same w g i cur _ _ hg, ?_⟩,
    ⟨rfl, rfl, rfl, by simp, fun k _ hk => heap_setCell_other w ⟨g, i, none⟩ k _ (fun e => hk (by simp [e]))⟩⟩
  rw [Array.toList_setIfInBounds, List.length_set, List.take_set, ht, u32s, u32s, List.map_set]

theorem Own.take {w : World} {g : Nat} {zs : List Nat} (h : Own w g zs) (n : Nat) : Own w g (zs.take n) := by
  obtain ⟨cur, hg, ht⟩ := h.row
  refine ⟨h.lim.take n, cur, hg, ?_⟩
  rw [u32s, List.map_take, ← u32s, ← ht, List.take_take, List.length_take]

theorem Own.trim {w : World} {g : Nat} {zs : List Nat} (h : Own w g zs) : Own w g (trimL zs) := by
  rw [trimL_eq_take]; exact h.take _

theorem Own.of_heap {w w' : World} {g : Nat} {zs : List Nat} (h : Own w g zs) (he : w'.heap[g]? = w.heap[g]?) : Own w' g zs := by
  obtain ⟨cur, hg, ht⟩ := h.row
  exact ⟨h.lim, cur, by rw [he]; exact hg, ht⟩

theorem Own.kept {w w' : World} {g : Nat} {zs : List Nat} {row : Option Nat} (h : Own w g zs) (hg : w.grownBy w' row) (hr : row ≠ some g) : Own w' g zs :=
  h.of_heap (hg.block g h.lt (fun e => hr e.symm))

theorem Own.below {w w' : World} {g B : Nat} {zs : List Nat} (h : Own w g zs) (hb : Below B w w') (hg : g < B) : Own w' g zs := h.of_heap (hb.block g hg)

theorem Own.alloc {w : World} {g : Nat} {zs : List Nat} (h : Own w g zs) (o : Obj) : Own (w.alloc o) g zs := h.of_heap (Below.heap_alloc w o g h.lt)

theorem Own.made (w : World) (zs : List Nat) (h : Lim zs) : Own (w.alloc (.cells (u32s zs).toArray 87)) w.heap.size zs :=
  ⟨h, _, heap_alloc_new w _, by rw [List.take_of_length_le (by simp [length_u32s])]⟩

theorem Own.rd {w : World} {g cap : Nat} {zs : List Nat} (h : Own w g zs) (hc : zs.length ≤ cap) : Rd w (some ⟨g, 0, none⟩) cap zs :=
  ⟨hc, h.lim, fun i hi => ⟨g, 0, rfl, by rw [Nat.zero_add]; exact h.cell i hi⟩⟩

theorem Own.window {w : World} {g cap o n : Nat} {zs : List Nat} (h : Own w g zs) (hn : o + n ≤ zs.length) (hc : n ≤ cap) : Rd w (some ⟨g, o, none⟩) cap ((zs.drop o).take n) := by
  have hl : ((zs.drop o).take n).length = n := by rw [List.length_take, List.length_drop]; omega
  refine ⟨by omega, (h.lim.drop o).take n, fun i hi => ⟨g, o, rfl, ?_⟩⟩
  rw [nth_take _ _ _ (by omega), h.cell (o + i) (by omega)]
  unfold nth
  simp [List.getD_eq_getElem?_getD]

theorem Rd.below {w w' : World} {a : Option Addr} {cap : Nat} {xs : List Nat} (h : Rd w a cap xs) (hb : Below w.heap.size w w') : Rd w' a cap xs := by
  refine ⟨h.fits, h.lim, fun i hi => ?_⟩
  obtain ⟨b, o, rfl, hc⟩ := h.cells i hi
  refine ⟨b, o, rfl, ?_⟩
  rw [hb.cell (World.block_lt_of_cell? w _ hc)]
  exact hc

/-- What is read lies in blocks below B. -/
def Under (B : Nat) (a : Option Addr) (xs : List Nat) : Prop := xs ≠ [] → ∃ b o, a = some ⟨b, o, none⟩ ∧ b < B

theorem Rd.under {w : World} {a : Option Addr} {cap : Nat} {xs : List Nat} (h : Rd w a cap xs) : Under w.heap.size a xs := by
  intro hne
  obtain ⟨b, o, rfl, hc⟩ := h.cells 0 (List.length_pos_iff.2 hne)
  exact ⟨b, o, rfl, World.block_lt_of_cell? w _ hc⟩

theorem Rd.belowU {w w' : World} {a : Option Addr} {cap B : Nat} {xs : List Nat} (h : Rd w a cap xs) (hu : Under B a xs) (hb : Below B w w') : Rd w' a cap xs := by
  refine ⟨h.fits, h.lim, fun i hi => ?_⟩
  obtain ⟨b, o, rfl, hc⟩ := h.cells i hi
  obtain ⟨b', o', e, hlt⟩ := hu (by intro e; subst e; simp at hi)
  simp only [Option.some.injEq, Addr.mk.injEq] at e
  obtain ⟨rfl, rfl, _⟩ := e
  refine ⟨b, o, rfl, ?_⟩
  rw [hb.cell hlt]
  exact hc

theorem Rd.nil (w : World) (a : Option Addr) (cap : Nat) : Rd w a cap [] := ⟨by simp, Lim.nil, fun i hi => by simp at hi⟩

/-- A list of limbs in memory of the call's own, or nothing. -/
structure New (w : World) (zs : List Nat) (a : Option Addr) (cap : Nat) (w' : World) : Prop where
  below : Below w.heap.size w w'
  fits : zs.length ≤ cap
  own : (a = none ∧ zs = []) ∨ ∃ g, a = some ⟨g, 0, none⟩ ∧ w.heap.size ≤ g ∧ Own w' g zs

theorem New.rd {w w' : World} {zs : List Nat} {a : Option Addr} {cap : Nat} (h : New w zs a cap w') : Rd w' a cap zs := by
  rcases h.own with ⟨rfl, rfl⟩ | ⟨g, rfl, _, ho⟩
  · exact Rd.nil _ _ _
  · exact ho.rd h.fits

theorem New.trim {w w' : World} {zs : List Nat} {a : Option Addr} {cap : Nat} (h : New w zs a cap w') : New w (trimL zs) a cap w' := by
  refine ⟨h.below, Nat.le_trans (length_trimL_le zs) h.fits, ?_⟩
  rcases h.own with ⟨rfl, rfl⟩ | ⟨g, rfl, hg, ho⟩
  · exact .inl ⟨rfl, rfl⟩
  · exact .inr ⟨g, rfl, hg, ho.trim⟩

theorem New.none {w w' : World} (h : Below w.heap.size w w') (cap : Nat) : New w [] none cap w' := ⟨h, by simp, .inl ⟨rfl, rfl⟩⟩

def GivesNew (w : World) (zs : List Nat) (e : Ending) (w' : World) : Prop := ∃ a cap, e = .returned (.slice a zs.length cap) ∧ New w zs a cap w'

def sgn (less : Bool) : Int := if less then -1 else 1
end Go.Proofs.YtfpcfcegdjlggaaGreat
namespace Go.Proofs.YtfpcfcegdjlggaaGreat
open Go.RowKit

theorem Tryz.infoU32 : (Tryz.prog.info? 87).map (fun i => (i.zero, i.size, i.bytes)) = some (some (.int .u32 0), 1, 4) := by kernel_rfl
theorem Rd.drewN {w : World} {a : Option Addr} {cap : Nat} {xs : List Nat} (h : Rd w a cap xs) (n : Nat) : Rd (w.drewN n) a cap xs := ⟨h.fits, h.lim, h.cells⟩
theorem Own.drewN {w : World} {g : Nat} {zs : List Nat} (h : Own w g zs) (n : Nat) : Own (w.drewN n) g zs := ⟨h.lim, h.row⟩

theorem Own.of_ownsRow {w : World} {base g n cap : Nat} {zs : List Nat} (hz : Lim zs) (hn : zs.length = n) (h : w.ownsRow base 87 1 (.slice (some ⟨g, 0, none⟩) n cap) n (u32s zs)) : Own w g zs := by
  rcases h.2 with ⟨h', _⟩ | ⟨g', cap', cur, h', _, hg, _, _, _, ht⟩
  · simp at h'
  · simp only [Value.slice.injEq, Option.some.injEq, Addr.mk.injEq, and_true, true_and] at h'
    obtain ⟨rfl, rfl⟩ := h'
    refine ⟨hz, cur, hg, ?_⟩
    rw [hn, ← ht, Nat.mul_one]

theorem madeU32 (n : Nat) : (madeCells #[Value.int .u32 0] n).toList = u32s (List.replicate n 0) :=
  (toList_madeCells_one _ n).trans (by simp [u32s])

end Go.Proofs.YtfpcfcegdjlggaaGreat
namespace Go.Proofs.YtfpcfcegdjlggaaGreat
open Go.RowKit

/-- The order of two numbers as an int. -/
def cmpI (x y : Nat) : Int := if x < y then -1 else if y < x then 1 else 0

theorem sgn_len {xs ys : List Nat} (hx : Lim xs) (hy : Lim ys) (ht : trimL xs = xs) (ht' : trimL ys = ys) (hne : xs.length ≠ ys.length) (b : Bool) (hb : b = decide (xs.length < ys.length)) :
    sgn b = cmpI (val xs) (val ys) := by
  have e1 : limbs (val xs) = xs := by rw [limbs_val hx, ht]
  have e2 : limbs (val ys) = ys := by rw [limbs_val hy, ht']
  subst hb
  rcases Nat.lt_or_gt_of_ne hne with h | h
  · have := limbs_length_lt (m := val xs) (n := val ys) (by rw [e1, e2]; exact h)
    simp [sgn, cmpI, h, this]
  · have := limbs_length_lt (m := val ys) (n := val xs) (by rw [e1, e2]; exact h)
    have h' : ¬ xs.length < ys.length := by omega
    have h'' : ¬ val xs < val ys := by omega
    simp [sgn, cmpI, h', h'', this]

theorem sgn_top {xs ys : List Nat} (hx : Lim xs) (hy : Lim ys) (hl : xs.length = ys.length) (k : Nat) (hk : k < xs.length) (hd : xs.drop (k + 1) = ys.drop (k + 1)) (hne : nth xs k ≠ nth ys k) :
    sgn (decide (nth xs k < nth ys k)) = cmpI (val xs) (val ys) := by
  unfold nth at *
  rcases Nat.lt_or_gt_of_ne (show xs.getD k 0 ≠ ys.getD k 0 by omega) with h | h
  · have := val_lt_of_top hx hl k hk hd h
    have h' : ((xs.getD k 0 : Nat) : Int) < (ys.getD k 0 : Nat) := by omega
    rw [decide_eq_true h']
    simp [sgn, cmpI, this]
  · have := val_lt_of_top hy hl.symm k (by omega) hd.symm h
    have h' : ¬ ((xs.getD k 0 : Nat) : Int) < (ys.getD k 0 : Nat) := by omega
    have h'' : ¬ val xs < val ys := by omega
    rw [decide_eq_false h']
    simp [sgn, cmpI, h'', this]

end Go.Proofs.YtfpcfcegdjlggaaGreat
namespace Go.Proofs.YtfpcfcegdjlggaaGreat
open Go.RowKit

/-- What 'make([]uint32, n)' leaves. -/
theorem own_made {w w1 : World} {n : Nat} (h : w1.ownsRow w.heap.size 87 1 (.slice (some ⟨w.heap.size, 0, none⟩) n n) n (madeCells #[Value.int .u32 0] n).toList) : Own w1 w.heap.size (List.replicate n 0) := by
  rw [madeU32] at h
  exact Own.of_ownsRow (Lim.replicate _ _ (by omega)) (by simp) h

end Go.Proofs.YtfpcfcegdjlggaaGreat
namespace Go.Proofs.YtfpcfcegdjlggaaGreat
open Go.RowKit

theorem wrap_u64' (n : Int) : IntKind.u64.wrap n = n % 18446744073709551616 := by simp [IntKind.wrap, IntKind.bits, IntKind.signed]

end Go.Proofs.YtfpcfcegdjlggaaGreat
namespace Go.Proofs.YtfpcfcegdjlggaaGreat
open Go.RowKit

/-- What is new for a later world is new for an earlier one. -/
theorem New.before {w w2 w3 : World} {zs : List Nat} {a : Option Addr} {cap : Nat} (hb : Below w.heap.size w w2) (h : New w2 zs a cap w3) : New w zs a cap w3 := by
  have hs := hb.size
  refine ⟨hb.trans (h.below.mono hs), h.fits, ?_⟩
  rcases h.own with h0 | ⟨g, rfl, hg, ho⟩
  · exact .inl h0
  · exact .inr ⟨g, rfl, by omega, ho⟩

/-- What is new stays while more is made. -/
theorem New.after {w w2 w3 : World} {zs : List Nat} {a : Option Addr} {cap : Nat} (h : New w zs a cap w2) (hb : Below w2.heap.size w2 w3) : New w zs a cap w3 := by
  have hs := h.below.size
  refine ⟨h.below.trans (hb.mono hs), h.fits, ?_⟩
  rcases h.own with h0 | ⟨g, rfl, hg, ho⟩
  · exact .inl h0
  · exact .inr ⟨g, rfl, hg, ho.below hb ho.lt⟩

end Go.Proofs.YtfpcfcegdjlggaaGreat
namespace Go.Proofs.YtfpcfcegdjlggaaGreat
open Go.RowKit

theorem pow_small (m : Nat) (hm : m < 32) : 2 ^ m ≤ 2147483648 ∧ 1 ≤ 2 ^ m :=
  ⟨Nat.le_trans (Nat.pow_le_pow_right (by omega) (show m ≤ 31 by omega)) (by decide), Nat.pow_pos (by omega)⟩

theorem pow_wrap (m : Nat) (hm : m < 32) : IntKind.u32.wrap (2 ^ m : Int) = ((2 ^ m : Nat) : Int) := by
  have h := pow_small m hm
  rw [IntKind.wrap_u32, show (2 : Int) ^ m = ((2 ^ m : Nat) : Int) by simp]
  omega

theorem New.drewN {w w' : World} {zs : List Nat} {a : Option Addr} {cap : Nat} (h : New w zs a cap w') (n : Nat) : New w zs a cap (w'.drewN n) := by
  refine ⟨below_drewN h.below n, h.fits, ?_⟩
  rcases h.own with h0 | ⟨g, rfl, hg, ho⟩
  · exact .inl h0
  · exact .inr ⟨g, rfl, hg, ho.drewN n⟩

theorem New.lim {w w' : World} {zs : List Nat} {a : Option Addr} {cap : Nat} (h : New w zs a cap w') : Lim zs := h.rd.lim

end Go.Proofs.YtfpcfcegdjlggaaGreat
namespace Go.Proofs.YtfpcfcegdjlggaaGreat
open Go.RowKit

/-- The integer that a sign and limbs denote. -/
def den (neg : Bool) (xs : List Nat) : Int := if neg then -(val xs : Int) else (val xs : Int)
def sg (z : Int) : Bool := decide (z < 0)
def mg (z : Int) : List Nat := limbs z.natAbs

/-- A canonical Int in new memory. -/
def GivesInt (w : World) (z : Int) (e : Ending) (w' : World) : Prop :=
  ∃ a cap, e = .returned (.agg #[.bool (sg z), .slice a (mg z).length cap]) ∧ New w (mg z) a cap w'

theorem den_mg (z : Int) : den (sg z) (mg z) = z := by
  unfold den sg mg
  rw [val_limbs]
  by_cases h : z < 0
  · rw [decide_eq_true h]; simp; omega
  · rw [decide_eq_false h]; simp; omega
/-- The block of a struct of two cells stands untouched. -/
theorem held2 {w w3 : World} {c0 c1 : Value} {t : TypeId} (h : Below (w.alloc (.cells #[c0, c1] t)).heap.size (w.alloc (.cells #[c0, c1] t)) w3) :
    w3.cell? ⟨w.heap.size, 0, none⟩ = some c0 ∧ w3.cell? ⟨w.heap.size, 1, none⟩ = some c1 ∧ w3.frozen? ⟨w.heap.size, 0, none⟩ = false ∧ w3.frozen? ⟨w.heap.size, 1, none⟩ = false ∧ w.heap.size < w3.heap.size := by
  have hs := h.size
  rw [World.size_alloc] at hs
  refine ⟨?_, ?_, ?_, ?_, by omega⟩
  · rw [h.cell (p := ⟨w.heap.size, 0, none⟩) (by simp)]; simp [go_sem]
  · rw [h.cell (p := ⟨w.heap.size, 1, none⟩) (by simp)]; simp [go_sem]
  · rw [h.frozen (p := ⟨w.heap.size, 0, none⟩) (by simp)]; simp [go_sem]
  · rw [h.frozen (p := ⟨w.heap.size, 1, none⟩) (by simp)]; simp [go_sem]

/-- A new list stays new while the result's own two cells are written. -/
theorem new_result {w w3 : World} {o : Obj} {zs : List Nat} {a : Option Addr} {cap : Nat} (h : New (w.alloc o) zs a cap w3) (u v : Value) :
    New w zs a cap ((w3.setCell ⟨w.heap.size, 0, none⟩ u).setCell ⟨w.heap.size, 1, none⟩ v) := by
  have hb : Below w.heap.size w w3 := ((Below.refl _ _).alloc (Nat.le_refl _) o).trans (h.below.mono (by simp))
  refine ⟨(hb.setCell (p := ⟨w.heap.size, 0, none⟩) (Nat.le_refl _) u).setCell (p := ⟨w.heap.size, 1, none⟩) (Nat.le_refl _) v, h.fits, ?_⟩
  rcases h.own with h0 | ⟨g, rfl, hg, ho⟩
  · exact .inl h0
  · rw [World.size_alloc] at hg
    refine .inr ⟨g, rfl, by omega, ho.of_heap ?_⟩
    rw [Below.heap_setCell _ _ _ _ (by simp; omega), Below.heap_setCell _ _ _ _ (by simp; omega)]

theorem Rd.alloc {w : World} {a : Option Addr} {cap : Nat} {xs : List Nat} (h : Rd w a cap xs) (o : Obj) : Rd (w.alloc o) a cap xs :=
  h.below ((Below.refl _ _).alloc (Nat.le_refl _) o)

theorem trim_length_zero {xs : List Nat} (h : Lim xs) : (trimL xs).length = 0 ↔ val xs = 0 := by
  rw [← limbs_val h, List.length_eq_zero_iff, limbs_eq_nil]

def sign3 (z : Int) : Int := if z < 0 then -1 else if z = 0 then 0 else 1

/-- What Int64 answers. -/
def in64 (z : Int) : Bool := decide (-9223372036854775808 ≤ z ∧ z ≤ 9223372036854775807)
def to64 (z : Int) : Int := if in64 z then z else 0
theorem in64_yes {z : Int} (h : -9223372036854775808 ≤ z ∧ z ≤ 9223372036854775807) : in64 z = true := decide_eq_true h
theorem in64_no {z : Int} (h : ¬(-9223372036854775808 ≤ z ∧ z ≤ 9223372036854775807)) : in64 z = false := decide_eq_false h

theorem val_trim_len {xs : List Nat} (h : Lim xs) (h2 : ¬(trimL xs).length ≤ 2) : 18446744073709551616 ≤ val xs := by
  rw [← limbs_val h] at h2
  rcases Nat.lt_or_ge (val xs) 18446744073709551616 with h1 | h1
  · exact absurd (length_limbs_le (k := 2) (by omega)) h2
  · exact h1

end Go.Proofs.YtfpcfcegdjlggaaGreat
