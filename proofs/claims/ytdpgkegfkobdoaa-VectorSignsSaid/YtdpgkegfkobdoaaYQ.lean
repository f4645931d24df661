/-
  The contract of SortUnique.
-/
import Derived.Test.YtdpgkegfkobdoaaYP
import Derived.Deep.MidRow
namespace Go.Proofs.Ytdpgkegfkobdoaa
open Go.RowKit Go.Shelf

theorem infoNormed : (Try.prog.info? 58).map (fun i => (i.zero, i.size, i.bytes)) = some (some (.agg #[.int .i64 0, .slice none 0 0]), 2, 32) := by kernel_rfl
theorem infoRows : (Try.prog.info? 22).map (fun i => (i.zero, i.size, i.bytes)) = some (some (.slice none 0 0), 1, 24) := by kernel_rfl

/-- An item whose vector is the call's own. -/
structure ItOwn (w : World) (x : Item) : Prop where
  at' : ∃ g, x.a = some ⟨g, 0, none⟩ ∧ OwnI w g x.vec
  fits : x.vec.length ≤ x.cap
  lim : ∀ v ∈ x.vec, I64 v
  len : x.vec.length ≤ 100000000000000

/-- The cells of the first n items. -/
def flatN (f : Nat → Item) (n : Nat) : List Value := (List.range n).flatMap fun i => encN (f i)

theorem flatN_succ (f : Nat → Item) (n : Nat) : flatN f (n + 1) = flatN f n ++ encN (f n) := by simp [flatN, List.range_succ]
theorem length_flatN (f : Nat → Item) : ∀ n, (flatN f n).length = n * 2
  | 0 => rfl
  | n + 1 => by rw [flatN_succ, List.length_append, length_flatN f n]; simp [encN]; omega
theorem flatN_get (f : Nat → Item) : ∀ n i, i < n → (flatN f n)[i * 2]? = some (.int .i64 (f i).norm) ∧ (flatN f n)[i * 2 + 1]? = some (.slice (f i).a (f i).vec.length (f i).cap)
  | 0, i, h => by omega
  | n + 1, i, h => by
    have hl := length_flatN f n
    rw [flatN_succ]
    by_cases e : i < n
    · obtain ⟨h1, h2⟩ := flatN_get f n i e
      exact ⟨by rw [List.getElem?_append_left (by omega)]; exact h1, by rw [List.getElem?_append_left (by omega)]; exact h2⟩
    · obtain rfl : i = n := by omega
      exact ⟨by rw [List.getElem?_append_right (by omega), hl, Nat.sub_self]; rfl, by rw [List.getElem?_append_right (by omega), hl, show i * 2 + 1 - i * 2 = 1 from by omega]; rfl⟩
theorem flatN_congr {f f' : Nat → Item} : ∀ {n : Nat}, (∀ i, i < n → f i = f' i) → flatN f n = flatN f' n
  | 0, _ => rfl
  | n + 1, h => by rw [flatN_succ, flatN_succ, flatN_congr (fun i hi => h i (by omega)), h n (by omega)]

/-- The list and its order: block o, whose items are the first n. -/
def ListAt (w : World) (o : Nat) (v : Value) : Prop := w.heap[o]? = some (.cells #[v, .func (.func 28) #[] #[]] 56 (0, 0))

theorem ListAt.c0 {w : World} {o : Nat} {v : Value} (h : ListAt w o v) : w.cell? ⟨o, 0, none⟩ = some v := by rw [cell_of_row _ _ 0 _ _ (0, 0) h]; rfl
theorem ListAt.c1 {w : World} {o : Nat} {v : Value} (h : ListAt w o v) : w.cell? ⟨o, 1, none⟩ = some (.func (.func 28) #[] #[]) := by rw [cell_of_row _ _ 1 _ _ (0, 0) h]; rfl
theorem ListAt.fr {w : World} {o : Nat} {v : Value} (h : ListAt w o v) (i : Nat) : w.frozen? ⟨o, i, none⟩ = false := frozen_of_row _ _ _ _ _ h
theorem ListAt.of_heap {w w' : World} {o : Nat} {v : Value} (h : ListAt w o v) (he : w'.heap[o]? = w.heap[o]?) : ListAt w' o v := he.trans h
theorem ListAt.lt {w : World} {o : Nat} {v : Value} (h : ListAt w o v) : o < w.heap.size := (Array.getElem?_eq_some_iff.1 h).1
theorem ListAt.set {w : World} {o : Nat} {v : Value} (h : ListAt w o v) (u : Value) : ListAt (w.setCell ⟨o, 0, none⟩ u) o u := by
  unfold ListAt
  rw [heap_setCell_same w o 0 _ _ u h]
  rfl

theorem ItOwn.of_heap {w w' : World} {x : Item} (h : ItOwn w x) (he : ∀ g, x.a = some ⟨g, 0, none⟩ → w'.heap[g]? = w.heap[g]?) : ItOwn w' x := by
  obtain ⟨g, e, ho⟩ := h.at'
  exact ⟨⟨g, e, ho.of_heap (he g e)⟩, h.fits, h.lim, h.len⟩
theorem ItOwn.below {w w' : World} {x : Item} (h : ItOwn w x) (hb : Below w.heap.size w w') : ItOwn w' x := by
  obtain ⟨g, e, ho⟩ := h.at'
  exact ⟨⟨g, e, ho.below hb ho.lt⟩, h.fits, h.lim, h.len⟩

/-- Blocks of other types are other blocks. -/
theorem OwnI.ne {w : World} {g : Nat} {zs : List Int} (h : OwnI w g zs) {k : Nat} {cur : Array Value} {t : TypeId} (hk : w.heap[k]? = some (.cells cur t (0, 0))) (ht : t ≠ 2) : g ≠ k := by
  rintro rfl
  obtain ⟨cur', hg, _⟩ := h.row
  rw [hk] at hg
  simp only [Option.some.injEq, Obj.cells.injEq] at hg
  exact ht hg.2.1

theorem ItOwn.ne {w : World} {x : Item} (h : ItOwn w x) {k : Nat} {cur : Array Value} {t : TypeId} (hk : w.heap[k]? = some (.cells cur t (0, 0))) (ht : t ≠ 2) : ∀ g, x.a = some ⟨g, 0, none⟩ → g ≠ k := fun g e => by
  obtain ⟨g', e', ho⟩ := h.at'
  rw [e] at e'
  simp only [Option.some.injEq, Addr.mk.injEq, and_true] at e'
  rw [e']
  exact ho.ne hk ht

theorem ItOwn.far {w : World} {x : Item} (h : ItOwn w x) {k : Nat} {cur : Array Value} {t : TypeId} (hk : w.heap[k]? = some (.cells cur t (0, 0))) (ht : t ≠ 2) : FarN w k x := by
  obtain ⟨g, e, ho⟩ := h.at'
  refine ⟨⟨by rw [e]; exact ho.rd h.fits h.lim, h.len⟩, fun _ b o e2 => ?_⟩
  rw [e] at e2
  simp only [Option.some.injEq, Addr.mk.injEq, and_true] at e2
  rw [← e2.1]
  exact ho.ne hk ht

theorem ItOwn.grown {w w' : World} {x : Item} (h : ItOwn w x) {v : Value} (hg : w.grownBy w' v.ownBlock) (hne : ∀ g, x.a = some ⟨g, 0, none⟩ → some g ≠ v.ownBlock) : ItOwn w' x := by
  obtain ⟨g, e, ho⟩ := h.at'
  exact ⟨⟨g, e, ho.of_heap (hg.block g ho.lt (hne g e))⟩, h.fits, h.lim, h.len⟩

/-- The block of an own row of items. -/
theorem row_block {w : World} {B n : Nat} {v : Value} {xs : List Value} (h : w.ownsRow B 58 2 v n xs) (g : Nat) (hv : v.ownBlock = some g) : B ≤ g ∧ ∃ cur, w.heap[g]? = some (.cells cur 58 (0, 0)) := by
  rcases h.2 with ⟨h0, _⟩ | ⟨g', cap, cur, hv', hb, hg, _⟩
  · rw [h0] at hv; cases hv
  · rw [hv'] at hv
    simp only [Value.ownBlock, Option.some.injEq] at hv
    subst hv
    exact ⟨hb, cur, hg⟩

theorem ItOwn.row_ne {w : World} {x : Item} (h : ItOwn w x) {B n : Nat} {v : Value} {xs : List Value} (hr : w.ownsRow B 58 2 v n xs) : ∀ g, x.a = some ⟨g, 0, none⟩ → some g ≠ v.ownBlock := fun g e e2 => by
  obtain ⟨_, cur, hc⟩ := row_block hr g e2.symm
  exact h.ne hc (by decide) g e rfl

theorem ListAt.row_ne {w : World} {o : Nat} {u : Value} (h : ListAt w o u) {B n : Nat} {v : Value} {xs : List Value} (hr : w.ownsRow B 58 2 v n xs) : some o ≠ v.ownBlock := fun e => by
  obtain ⟨_, cur, hc⟩ := row_block hr o e.symm
  unfold ListAt at h
  rw [h] at hc
  simp only [Option.some.injEq, Obj.cells.injEq] at hc
  exact absurd hc.2.1 (by decide)

/-- An own row of items, in the words of the sort. -/
theorem ownF_of_row {w : World} {B n : Nat} {v : Value} {f : Nat → Item} (hn : 1 ≤ n) (h : w.ownsRow B 58 2 v n (flatN f n)) :
    ∃ g cap, v = .slice (some ⟨g, 0, none⟩) n cap ∧ n ≤ cap ∧ cap ≤ 9223372036854775807 ∧ B ≤ g ∧ OwnF w g n f ∧ ∃ cur, w.heap[g]? = some (.cells cur 58 (0, 0)) := by
  rcases h.2 with ⟨_, h0⟩ | ⟨g, cap, cur, hv, hb, hg, hnc, hcm, _, ht⟩
  · omega
  · have key : ∀ i, i < n * 2 → cur[i]? = (flatN f n)[i]? := fun i hi => by
      rw [← ht, List.getElem?_take, if_pos hi]; simp
    refine ⟨g, cap, hv, hnc, hcm, hb, ⟨fun i hi => ?_, fun i hi => ?_, fun i _ => frozen_of_row _ _ _ _ _ hg⟩, cur, hg⟩
    · rw [cell_of_row _ _ _ _ _ (0, 0) hg, key _ (by omega), (flatN_get f n i hi).1]
    · rw [cell_of_row _ _ _ _ _ (0, 0) hg, key _ (by omega), (flatN_get f n i hi).2]
end Go.Proofs.Ytdpgkegfkobdoaa
