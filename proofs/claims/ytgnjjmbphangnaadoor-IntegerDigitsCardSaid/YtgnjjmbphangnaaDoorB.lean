/-
  What the call itself owns: a block whose first cells are known limbs; and the contracts of the small functions on limbs.
-/
import Derived.Test.YtgnjjmbphangnaaDoorA
import Derived.BigQuiet
import Derived.Deep.QuietTactic
import Derived.Laws.CopyOwn
namespace Go.Proofs.YtgnjjmbphangnaaDoor
open Go.RowKit

theorem or_join64 (x t : Int) (h0 : 0 ≤ x) (h1 : x < 4294967296) (h2 : 0 ≤ t) (h3 : t < 4294967296) : bits .or .u64 x (t * 4294967296) = x + t * 4294967296 := by
  rw [u64_or _ _ h0 (by omega) (by omega) (by omega), Nat.or_comm]
  have e : (t * 4294967296).toNat = 2 ^ 32 * t.toNat := by omega
  rw [e, ← Nat.two_pow_add_eq_or_of_lt (by omega : x.toNat < 2 ^ 32)]
  omega

/-- The cells of a list of limbs. -/
def u32s (zs : List Nat) : List Value := zs.map fun (n : Nat) => Value.int .u32 (n : Int)
theorem length_u32s (zs : List Nat) : (u32s zs).length = zs.length := by simp [u32s]
theorem u32s_get (zs : List Nat) (i : Nat) (h : i < zs.length) : (u32s zs)[i]? = some (.int .u32 (nth zs i)) := by
  simp [u32s, nth, List.getD_eq_getElem?_getD, List.getElem?_eq_getElem h]
theorem u32s_one (zs : List Nat) : ∀ u ∈ u32s zs, u.oneCell' = true := by
  intro u hu
  obtain ⟨_, _, rfl⟩ := List.mem_map.1 hu
  rfl

/-- The first cells of block g are the limbs zs. -/
structure Own (w : World) (g : Nat) (zs : List Nat) : Prop where
  lim : Lim zs
  row : ∃ cur : Array Value, w.heap[g]? = some (.cells cur 52 (0, 0)) ∧ cur.toList.take zs.length = u32s zs

theorem Own.lt {w : World} {g : Nat} {zs : List Nat} (h : Own w g zs) : g < w.heap.size := by
  obtain ⟨cur, hg, _⟩ := h.row
  exact (Array.getElem?_eq_some_iff.1 hg).1

theorem Own.cell {w : World} {g : Nat} {zs : List Nat} (h : Own w g zs) (i : Nat) (hi : i < zs.length) : w.cell? ⟨g, i, none⟩ = some (.int .u32 (nth zs i)) := by
  obtain ⟨cur, hg, ht⟩ := h.row
  rw [cell_of_row w g i cur _ (0, 0) hg]
  have e := u32s_get zs i hi
  rw [← ht, List.getElem?_take, if_pos hi] at e
  simpa using e

theorem Own.free {w : World} {g : Nat} {zs : List Nat} (h : Own w g zs) (i : Nat) : w.frozen? ⟨g, i, none⟩ = false := by
  obtain ⟨cur, hg, _⟩ := h.row
  exact frozen_of_row w g i cur _ hg

theorem Own.store {w : World} {g : Nat} {zs : List Nat} (h : Own w g zs) (i m : Nat) (hm : m < 4294967296) (v : Int) (hv : v = (m : Int)) :
    Own (w.setCell ⟨g, i, none⟩ (.int .u32 v)) g (zs.set i m) ∧ w.grownBy (w.setCell ⟨g, i, none⟩ (.int .u32 v)) (some g) := by
  subst hv
  obtain ⟨cur, hg, ht⟩ := h.row
  refine ⟨⟨h.lim.set i m hm, cur.setIfInBounds i (.int .u32 m), heap_setCell_same w g i cur _ _ hg, ?_⟩,
    ⟨rfl, rfl, rfl, by simp, fun k _ hk => heap_setCell_other w ⟨g, i, none⟩ k _ (fun e => hk (by simp [e]))⟩⟩
  rw [Array.toList_setIfInBounds, List.length_set, List.take_set, ht, u32s, u32s, List.map_set]

theorem Own.take {w : World} {g : Nat} {zs : List Nat} (h : Own w g zs) (n : Nat) : Own w g (zs.take n) := by
  obtain ⟨cur, hg, ht⟩ := h.row
  refine ⟨h.lim.take n, cur, hg, ?_⟩
  rw [u32s, List.map_take, ← u32s, ← ht, List.take_take, List.length_take]

theorem Own.trim {w : World} {g : Nat} {zs : List Nat} (h : Own w g zs) : Own w g (trimL zs) := by
  rw [trimL_eq_take]; exact h.take _

theorem Own.of_heap {w w' : World} {g : Nat} {zs : List Nat} (h : Own w g zs) (he : w'.heap[g]? = w.heap[g]?) : Own w' g zs := by
  obtain ⟨cur, hg, ht⟩ := h.row
  exact ⟨h.lim, cur, by rw [he]; exact hg, ht⟩

theorem Own.kept {w w' : World} {g : Nat} {zs : List Nat} {row : Option Nat} (h : Own w g zs) (hg : w.grownBy w' row) (hr : row ≠ some g) : Own w' g zs :=
  h.of_heap (hg.block g h.lt (fun e => hr e.symm))

theorem Own.below {w w' : World} {g B : Nat} {zs : List Nat} (h : Own w g zs) (hb : Below B w w') (hg : g < B) : Own w' g zs := h.of_heap (hb.block g hg)

theorem Own.alloc {w : World} {g : Nat} {zs : List Nat} (h : Own w g zs) (o : Obj) : Own (w.alloc o) g zs := h.of_heap (Below.heap_alloc w o g h.lt)

theorem Own.made (w : World) (zs : List Nat) (h : Lim zs) : Own (w.alloc (.cells (u32s zs).toArray 52)) w.heap.size zs :=
  ⟨h, _, heap_alloc_new w _, by rw [List.take_of_length_le (by simp [length_u32s])]⟩

theorem Own.rd {w : World} {g cap : Nat} {zs : List Nat} (h : Own w g zs) (hc : zs.length ≤ cap) : Rd w (some ⟨g, 0, none⟩) cap zs :=
  ⟨hc, h.lim, fun i hi => ⟨g, 0, rfl, by rw [Nat.zero_add]; exact h.cell i hi⟩⟩

theorem Own.window {w : World} {g cap o n : Nat} {zs : List Nat} (h : Own w g zs) (hn : o + n ≤ zs.length) (hc : n ≤ cap) : Rd w (some ⟨g, o, none⟩) cap ((zs.drop o).take n) := by
  have hl : ((zs.drop o).take n).length = n := by rw [List.length_take, List.length_drop]; omega
  refine ⟨by omega, (h.lim.drop o).take n, fun i hi => ⟨g, o, rfl, ?_⟩⟩
  rw [nth_take _ _ _ (by omega), h.cell (o + i) (by omega)]
  unfold nth
  simp [List.getD_eq_getElem?_getD]

theorem Rd.below {w w' : World} {a : Option Addr} {cap : Nat} {xs : List Nat} (h : Rd w a cap xs) (hb : Below w.heap.size w w') : Rd w' a cap xs := by
  refine ⟨h.fits, h.lim, fun i hi => ?_⟩
  obtain ⟨b, o, rfl, hc⟩ := h.cells i hi
  refine ⟨b, o, rfl, ?_⟩
  rw [hb.cell (World.block_lt_of_cell? w _ hc)]
  exact hc

/-- What is read lies in blocks below B. -/
def Under (B : Nat) (a : Option Addr) (xs : List Nat) : Prop := xs ≠ [] → ∃ b o, a = some ⟨b, o, none⟩ ∧ b < B

theorem Rd.under {w : World} {a : Option Addr} {cap : Nat} {xs : List Nat} (h : Rd w a cap xs) : Under w.heap.size a xs := by
  intro hne
  obtain ⟨b, o, rfl, hc⟩ := h.cells 0 (List.length_pos_iff.2 hne)
  exact ⟨b, o, rfl, World.block_lt_of_cell? w _ hc⟩

theorem Rd.belowU {w w' : World} {a : Option Addr} {cap B : Nat} {xs : List Nat} (h : Rd w a cap xs) (hu : Under B a xs) (hb : Below B w w') : Rd w' a cap xs := by
  refine ⟨h.fits, h.lim, fun i hi => ?_⟩
  obtain ⟨b, o, rfl, hc⟩ := h.cells i hi
  obtain ⟨b', o', e, hlt⟩ := hu (by intro e; subst e; simp at hi)
  simp only [Option.some.injEq, Addr.mk.injEq] at e
  obtain ⟨rfl, rfl, _⟩ := e
  refine ⟨b, o, rfl, ?_⟩
  rw [hb.cell hlt]
  exact hc

theorem Rd.nil (w : World) (a : Option Addr) (cap : Nat) : Rd w a cap [] := ⟨by simp, Lim.nil, fun i hi => by simp at hi⟩

/-- A list of limbs in memory of the call's own, or nothing. -/
structure New (w : World) (zs : List Nat) (a : Option Addr) (cap : Nat) (w' : World) : Prop where
  below : Below w.heap.size w w'
  fits : zs.length ≤ cap
  own : (a = none ∧ zs = []) ∨ ∃ g, a = some ⟨g, 0, none⟩ ∧ w.heap.size ≤ g ∧ Own w' g zs

theorem New.rd {w w' : World} {zs : List Nat} {a : Option Addr} {cap : Nat} (h : New w zs a cap w') : Rd w' a cap zs := by
  rcases h.own with ⟨rfl, rfl⟩ | ⟨g, rfl, _, ho⟩
  · exact Rd.nil _ _ _
  · exact ho.rd h.fits

theorem New.trim {w w' : World} {zs : List Nat} {a : Option Addr} {cap : Nat} (h : New w zs a cap w') : New w (trimL zs) a cap w' := by
  refine ⟨h.below, Nat.le_trans (length_trimL_le zs) h.fits, ?_⟩
  rcases h.own with ⟨rfl, rfl⟩ | ⟨g, rfl, hg, ho⟩
  · exact .inl ⟨rfl, rfl⟩
  · exact .inr ⟨g, rfl, hg, ho.trim⟩

theorem New.none {w w' : World} (h : Below w.heap.size w w') (cap : Nat) : New w [] none cap w' := ⟨h, by simp, .inl ⟨rfl, rfl⟩⟩

def GivesNew (w : World) (zs : List Nat) (e : Ending) (w' : World) : Prop := ∃ a cap, e = .returned (.slice a zs.length cap) ∧ New w zs a cap w'

set_option maxHeartbeats 400000 in
theorem limbAt_any (a : Option Addr) (n cap : Nat) (xs : List Nat) (w : World) (h : Rd w a cap xs) (hl : xs.length = n) (hn : n ≤ 4000000000) (j : Int) (k : Nat) (hj : j = (k : Int)) :
    Calls Tryd.prog 47 #[.slice a n cap, .int .i64 j] w fun e w' => e = .returned (.int .u32 (nth xs k)) ∧ w = w' := by
  subst hl hj
  by_cases hk : k < xs.length
  · obtain ⟨b, o, rfl, hc⟩ := h.cells k hk
    clear h
    go_enter Tryd.func47, Tryd.ntmps47
    go_wp2
    go_ret
    exact ⟨rfl, rfl⟩
  · have e : nth xs k = 0 := by unfold nth; rw [getD_past xs k (by omega)]; rfl
    rw [e]
    clear h e
    go_enter Tryd.func47, Tryd.ntmps47
    go_wp2
    go_ret
    exact ⟨rfl, rfl⟩

def sgn (less : Bool) : Int := if less then -1 else 1
theorem order_any (b : Bool) (w : World) : Calls Tryd.prog 66 #[.bool b] w fun e w' => e = .returned (.int .i64 (sgn b)) ∧ w = w' := by
  cases b
  all_goals
    go_enter Tryd.func66, Tryd.ntmps66
    go_wp2
    go_ret
    exact ⟨rfl, rfl⟩

def fits2 (n : Nat) : Bool := decide (n ≤ 2)
theorem fitsWord_any (a : Option Addr) (n cap : Nat) (w : World) : Calls Tryd.prog 33 #[.slice a n cap] w fun e w' => e = .returned (.bool (fits2 n)) ∧ w = w' := by
  have e : decide ((n : Int) ≤ 2) = fits2 n := by unfold fits2; simp only [decide_eq_decide]; omega
  have E := Lib.hid e
  clear e
  go_enter Tryd.func33, Tryd.ntmps33
  go_wp2
  go_ret
  exact ⟨by rw [← E.out]; rfl, rfl⟩

set_option maxHeartbeats 400000 in
theorem wordOfLimbs_any (a : Option Addr) (n cap : Nat) (xs : List Nat) (w : World) (h : Rd w a cap xs) (hl : xs.length = n) (hn : n ≤ 2) :
    Calls Tryd.prog 34 #[.slice a n cap] w fun e w' => e = .returned (.int .u64 (val xs)) ∧ w = w' := by
  have hl0 := nth_lt h.lim 0
  have hl1 := nth_lt h.lim 1
  have hg0 := nth_ge xs 0
  have hg1 := nth_ge xs 1
  have e : bits .or .u64 (nth xs 0) (nth xs 1 * 4294967296) = (val xs : Int) := by
    rw [or_join64 _ _ hg0 hl0 hg1 hl1, (two_of_short h.lim (by omega)).1]; unfold nth; omega
  have E := Lib.hid e
  clear e
  go_enter Tryd.func34, Tryd.ntmps34
  go_wp2_with fail
  refine (limbAt_any _ _ _ xs _ h hl (by omega) _ 0 rfl).mono ?_
  rintro e w' ⟨rfl, rfl⟩
  go_wp2_with fail
  refine (limbAt_any _ _ _ xs _ h hl (by omega) _ 1 rfl).mono ?_
  rintro e w' ⟨rfl, rfl⟩
  go_wp2_with fail
  go_ret
  exact ⟨by rw [← E.out]; rfl, rfl⟩

theorem canonical_any (neg : Bool) (a : Option Addr) (n cap : Nat) (w : World) : Calls Tryd.prog 12 #[.bool neg, .slice a n cap] w fun e w' => (n = 0 → e = .returned (.agg #[.bool false, .slice none 0 0])) ∧ (n ≠ 0 → e = .returned (.agg #[.bool neg, .slice a n cap])) ∧ Below w.heap.size w w' := by
  go_enter Tryd.func12, Tryd.ntmps12
  by_cases hn : n = 0
  · subst hn
    go_wp2
    exact bodyPost_ret (v := .agg #[.bool false, .slice none 0 0]) (by simp [results, Tryd.results12, go_sem]) rfl ⟨rfl, (Below.refl _ _).alloc (Nat.le_refl _) _⟩
  · have hb : ((n : Int) == 0) = false := by simpa using hn
    go_wp2
    exact bodyPost_ret (v := .agg #[.bool neg, .slice a n cap]) (by simp [results, Tryd.results12, go_sem]) rfl ⟨fun e => absurd e hn, fun _ => rfl, (Below.refl _ _).alloc (Nat.le_refl _) _⟩
end Go.Proofs.YtgnjjmbphangnaaDoor
