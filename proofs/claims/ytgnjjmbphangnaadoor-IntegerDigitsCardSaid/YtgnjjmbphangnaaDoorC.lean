/-
  The contracts of the functions that make lists of limbs by one loop: limbsOfWord, copyLimbs, cmpLimbs, addLimbs, subLimbs.
-/
import Derived.Test.YtgnjjmbphangnaaDoorB
namespace Go.Proofs.YtgnjjmbphangnaaDoor
open Go.RowKit

theorem Tryd.infoU32 : (Tryd.prog.info? 52).map (fun i => (i.zero, i.size, i.bytes)) = some (some (.int .u32 0), 1, 4) := by kernel_rfl
theorem Tryd.size1U32 : (Tryd.prog.info? 52).map (·.size) = some 1 := by kernel_rfl

/-- A contract that leaves the world alone, inside a region that draws. -/
theorem quiet_eq {P : Program} {f : FuncId} {args : Array Value} {w : World} {n : Nat} {v : Value}
    (h : Calls P f args (w.drewN n) fun e w' => e = .returned v ∧ w.drewN n = w') : Calls P f args (w.drewN n) fun e w'' => e = .returned v ∧ ∃ m, w'' = w.drewN m :=
  h.mono fun _ _ ⟨he, hm⟩ => ⟨he, n, hm.symm⟩

theorem quiet_eq2 {P : Program} {f : FuncId} {args : Array Value} {w : World} {q n : Nat} {v : Value}
    (h : Calls P f args (w.drewN (q + n)) fun e w' => e = .returned v ∧ w.drewN (q + n) = w') : Calls P f args (w.drewN (q + n)) fun e w'' => e = .returned v ∧ ∃ m, w'' = w.drewN (q + m) :=
  h.mono fun _ _ ⟨he, hm⟩ => ⟨he, n, hm.symm⟩

theorem Rd.drewN {w : World} {a : Option Addr} {cap : Nat} {xs : List Nat} (h : Rd w a cap xs) (n : Nat) : Rd (w.drewN n) a cap xs := ⟨h.fits, h.lim, h.cells⟩
theorem Own.drewN {w : World} {g : Nat} {zs : List Nat} (h : Own w g zs) (n : Nat) : Own (w.drewN n) g zs := ⟨h.lim, h.row⟩

theorem Own.of_ownsRow {w : World} {base g n cap : Nat} {zs : List Nat} (hz : Lim zs) (hn : zs.length = n) (h : w.ownsRow base 52 1 (.slice (some ⟨g, 0, none⟩) n cap) n (u32s zs)) : Own w g zs := by
  rcases h.2 with ⟨h', _⟩ | ⟨g', cap', cur, h', _, hg, _, _, _, ht⟩
  · simp at h'
  · simp only [Value.slice.injEq, Option.some.injEq, Addr.mk.injEq, and_true, true_and] at h'
    obtain ⟨rfl, rfl⟩ := h'
    refine ⟨hz, cur, hg, ?_⟩
    rw [hn, ← ht, Nat.mul_one]

set_option maxHeartbeats 400000 in
theorem limbsOfWord_any (u : Nat) (w : World) (h1 : u < 18446744073709551616) : Calls Tryd.prog 31 #[.int .u64 u] w (GivesNew w (limbs u)) := by
  have hl : Lim [u % 4294967296, u / 4294967296] := (Lim.nil.cons (by omega)).cons (by omega)
  have hv : limbs u = trimL [u % 4294967296, u / 4294967296] := by
    rw [← limbs_val hl]; congr 1; simp [val]; omega
  have HV := Lib.hid hv
  clear hv
  have hown : Own (w.alloc (.cells #[.int .u32 ((u : Int) % 4294967296), .int .u32 ((u : Int) / 4294967296)] 52)) w.heap.size [u % 4294967296, u / 4294967296] := by
    have := Own.made w _ hl
    simpa [u32s] using this
  go_enter Tryd.func31, Tryd.ntmps31
  go_wp2_with fail
  refine (trim_any _ 2 2 _ _ (hown.rd (by simp)) rfl (by omega)).mono ?_
  rintro e w' ⟨rfl, rfl⟩
  go_wp2_with fail
  go_ret
  refine ⟨some ⟨w.heap.size, 0, none⟩, 2, by rw [HV.out]; rfl, ?_⟩
  rw [HV.out]
  exact (New.trim ⟨(Below.refl _ _).alloc (Nat.le_refl _) _, by simp, .inr ⟨_, rfl, Nat.le_refl _, hown⟩⟩)

theorem madeU32 (n : Nat) : (madeCells #[Value.int .u32 0] n).toList = u32s (List.replicate n 0) :=
  (toList_madeCells_one _ n).trans (by simp [u32s])

theorem ownsRow_heap {w : World} {base e n g : Nat} {xs : List Value} (h : w.ownsRow base e 1 (.slice (some ⟨g, 0, none⟩) n n) n xs) : w.heap[g]? = some (.cells xs.toArray e (0, 0)) := by
  rcases h.2 with ⟨h', _⟩ | ⟨g', cap', cur, h', _, hg, _, _, hs, ht⟩
  · simp at h'
  · simp only [Value.slice.injEq, Option.some.injEq, Addr.mk.injEq, and_true, true_and] at h'
    obtain ⟨rfl, rfl⟩ := h'
    rw [hg, ← ht, List.take_of_length_le (by simp [hs])]

set_option maxHeartbeats 400000 in
theorem copyLimbs_any (a : Option Addr) (n cap : Nat) (xs : List Nat) (w : World) (h : Rd w a cap xs) (hl : xs.length = n) (hn : n ≤ 4000000000) : Calls Tryd.prog 18 #[.slice a n cap] w (GivesNew w xs) := by
  subst hl
  obtain ⟨i, hi, hz0, hz1, hz2⟩ := info_parts Tryd.infoU32
  go_enter Tryd.func18, Tryd.ntmps18
  go_wp2_with (at_make; refine wpList_make_full _ rfl _ _ 23 rfl w.heap.size 52 i (.int .u32 0) 1 Tryd.underlying23 hi hz0 hz1 _ _ _ _ xs.length rfl rfl rfl rfl ?b1 ?b2 ?b3 ?_)
  case b1 => rw [hz2]; omega
  case b2 => unfold maxLen; omega
  case b3 => exact Nat.le_refl _
  intro w1 hown hgrow
  have hg1 : w1.heap[w.heap.size]? = some (.cells (u32s (List.replicate xs.length 0)).toArray 52 (0, 0)) := by
    rw [ownsRow_heap hown, madeU32]
  have hb1 : Below w.heap.size w w1 := (Below.refl _ _).grown hgrow (Nat.le_refl _) (by intro k hk; cases hk)
  have hr1 := h.below hb1
  clear hown hgrow h
  go_wp2_with (with_reducible refine wpList_copy_splice rfl _ _ 23 23 rfl 52 Tryd.underlying23 Tryd.size1U32 _ _ _ _ _ _ rfl rfl w.heap.size 0 _ _ hg1 (u32s xs) ?c1 ?c2 ?c3 (u32s_one _) w.heap.size w hb1 (Nat.le_refl _) ?_)
  case c1 => rw [length_u32s]; exact (Nat.min_self _).symm
  case c2 =>
    intro hp
    rw [length_u32s] at hp
    obtain ⟨b, o, rfl, _⟩ := hr1.cells 0 hp
    refine ⟨⟨b, o, none⟩, rfl, fun j v hj => ?_⟩
    have hjl : j < xs.length := by have := (List.getElem?_eq_some_iff.1 hj).1; rwa [length_u32s] at this
    obtain ⟨b', o', e, hc⟩ := hr1.cells j hjl
    simp only [Option.some.injEq, Addr.mk.injEq, and_true] at e
    obtain ⟨rfl, rfl⟩ := e
    rw [u32s_get xs j hjl] at hj
    rw [Addr.add_lit, hc, hj]
  case c3 => simp [length_u32s]
  intro w2 hg2 hb2
  go_wp2_with fail
  go_ret
  refine ⟨some ⟨w.heap.size, 0, none⟩, xs.length, rfl, hb2, Nat.le_refl _, .inr ⟨_, rfl, Nat.le_refl _, hr1.lim, _, hg2.out, ?_⟩⟩
  simp [splice, u32s, List.take_of_length_le]

end Go.Proofs.YtgnjjmbphangnaaDoor
