/-
  Items in memory of the call's own; clear of a slice of structs; the contract of CompactFunc.
-/
import Derived.Test.YtdpgkegfkobdoaaYM
import Derived.Lib.SliceRun
namespace Go.Proofs.Ytdpgkegfkobdoaa
open Go.RowKit Go.Shelf

def zI : Item := ⟨0, [], none, 0⟩
instance : Inhabited Item := ⟨zI⟩

/-- The first n items of block g. -/
structure OwnF (w : World) (g n : Nat) (f : Nat → Item) : Prop where
  c0 : ∀ i, i < n → w.cell? ⟨g, i * 2, none⟩ = some (.int .i64 (f i).norm)
  c1 : ∀ i, i < n → w.cell? ⟨g, i * 2 + 1, none⟩ = some (.slice (f i).a (f i).vec.length (f i).cap)
  fr : ∀ i, i < n * 2 → w.frozen? ⟨g, i, none⟩ = false

theorem OwnF.lt {w : World} {g n : Nat} {f : Nat → Item} (h : OwnF w g n f) (hn : 0 < n) : g < w.heap.size := World.block_lt_of_cell? w _ (h.c0 0 hn)

theorem OwnF.grown {w : World} {g n : Nat} {f : Nat → Item} (h : OwnF w g n f) (hn : 0 < n) (q : Nat) (os : Array Obj) : OwnF (Go.Sort.grow (w.drewN q) os) g n f :=
  ⟨fun i hi => cell_grown (h.lt hn) (h.c0 i hi) q os, fun i hi => cell_grown (h.lt hn) (h.c1 i hi) q os, fun i hi => by rw [Go.Sort.frozen?_grow _ _ _ (by exact h.lt hn)]; exact h.fr i hi⟩

theorem OwnF.less {w : World} {g n m : Nat} {f : Nat → Item} (h : OwnF w g n f) (hm : m ≤ n) : OwnF w g m f :=
  ⟨fun i hi => h.c0 i (by omega), fun i hi => h.c1 i (by omega), fun i hi => h.fr i (by omega)⟩

theorem OwnF.congr {w : World} {g n : Nat} {f f' : Nat → Item} (h : OwnF w g n f) (he : ∀ i, i < n → f i = f' i) : OwnF w g n f' :=
  ⟨fun i hi => by rw [← he i hi]; exact h.c0 i hi, fun i hi => by rw [← he i hi]; exact h.c1 i hi, h.fr⟩

theorem OwnF.set {w : World} {g n : Nat} {f : Nat → Item} (h : OwnF w g n f) (k : Nat) (hk : k < n) (x : Item) :
    OwnF ((w.setCell ⟨g, k * 2, none⟩ (.int .i64 x.norm)).setCell ⟨g, k * 2 + 1, none⟩ (.slice x.a x.vec.length x.cap)) g n (fun i => if i = k then x else f i) := by
  have e1 : (w.setCell ⟨g, k * 2, none⟩ (.int .i64 x.norm)).cell? ⟨g, k * 2 + 1, none⟩ = some (.slice (f k).a (f k).vec.length (f k).cap) := by
    rw [World.cell?_setCell_other _ _ _ _ (by simp)]; exact h.c1 k hk
  refine ⟨fun i hi => ?_, fun i hi => ?_, fun i hi => by simp [h.fr i hi]⟩
  · by_cases e : i = k
    · subst e
      rw [if_pos rfl, World.cell?_setCell_other _ _ _ _ (by simp)]
      exact World.cell?_setCell_same _ _ _ (h.c0 i hi)
    · rw [if_neg e, World.cell?_setCell_other _ _ _ _ (by intro h; injection h with _ h _; omega), World.cell?_setCell_other _ _ _ _ (by intro h; injection h with _ h _; omega)]
      exact h.c0 i hi
  · by_cases e : i = k
    · subst e
      rw [if_pos rfl]
      exact World.cell?_setCell_same _ _ _ e1
    · rw [if_neg e, World.cell?_setCell_other _ _ _ _ (by intro h; injection h with _ h _; omega), World.cell?_setCell_other _ _ _ _ (by intro h; injection h with _ h _; omega)]
      exact h.c1 i hi

theorem grownBy_grow {a w : World} {g : Nat} (h : a.grownBy w (some g)) (q : Nat) (os : Array Obj) : a.grownBy (Go.Sort.grow (w.drewN q) os) (some g) :=
  ⟨h.os, h.tape, h.output, by simp; have := h.size; omega, fun j hj hne => (Go.Sort.heap_grow_old _ _ (Nat.lt_of_lt_of_le hj h.size)).trans (h.block j hj hne)⟩

theorem grownBy_setCells {a : World} {g : Nat} : ∀ (vs : List Value) (o : Nat) (w : World), a.grownBy w (some g) → a.grownBy (w.setCells g o vs) (some g)
  | [], _, _, h => h
  | v :: r, o, w, h => grownBy_setCells r (o + 1) _ (grownBy_setCell h o v)

theorem clear_run (w : World) (b o n c : Nat) (hn : 0 < n) (hc : ∀ j, j < n * 2 → (w.cell? ⟨b, o + j, none⟩).isSome = true) (hf : ∀ j, j < n * 2 → w.frozen? ⟨b, o + j, none⟩ = false) :
    ∃ vs, vs.length = n * 2 ∧ ∀ ty, (Builtin.clear_ #[54] ty #[.slice (some ⟨b, o, none⟩) n c]).run Try.prog w = .ok (.tuple #[]) (w.setCells b o vs) := by
  obtain ⟨vs, hvs⟩ : ∃ vs, vs = (Builtin.zeroCells (Value.agg #[.int .i64 0, .slice none 0 0]).cells n).toList := ⟨_, rfl⟩
  have hl : vs.length = n * 2 := by rw [hvs]; simp [Builtin.zeroCells, Value.cells]; try omega
  have h1 : ∀ v ∈ vs, v.oneCell' = true := by
    rw [hvs]
    intro v hv
    simp only [Builtin.zeroCells, Value.cells, Array.toList_map, List.mem_map] at hv
    obtain ⟨i, _, rfl⟩ := hv
    have h2 : i % #[Value.int .i64 0, Value.slice none 0 0].size < 2 := Nat.mod_lt _ (by decide)
    rcases (by omega : i % #[Value.int .i64 0, Value.slice none 0 0].size = 0 ∨ i % #[Value.int .i64 0, Value.slice none 0 0].size = 1) with e | e
    · rw [e]; rfl
    · rw [e]; rfl
  have hst := run_storeCells_cells (P := Try.prog) b o vs 0 w (by rw [hl]; simpa using hc) (by rw [hl]; simpa using hf) h1
  simp only [Nat.add_zero] at hst
  refine ⟨vs, hl, fun ty => ?_⟩
  obtain ⟨m, rfl⟩ : ∃ m, n = m + 1 := ⟨n - 1, by omega⟩
  have hz := Try.zeroValue58
  simp [Builtin.clear_, run_underlying Try.underlying54, hz, ← hvs, hst]

/-- What is kept of the first m items: those that are not equal to the one ahead of them. -/
def kept (f : Nat → Item) : Nat → List Item
  | 0 => []
  | m + 1 => if m ≠ 0 ∧ cfN (f m) (f (m - 1)) = 0 then kept f m else kept f m ++ [f m]

theorem kept_skip {f : Nat → Item} {m : Nat} (h : cfN (f (m + 1)) (f m) = 0) : kept f (m + 2) = kept f (m + 1) := by
  show (if m + 1 ≠ 0 ∧ cfN (f (m + 1)) (f (m + 1 - 1)) = 0 then _ else _) = _
  rw [if_pos ⟨by omega, h⟩]
theorem kept_take {f : Nat → Item} {m : Nat} (h : cfN (f (m + 1)) (f m) ≠ 0) : kept f (m + 2) = kept f (m + 1) ++ [f (m + 1)] := by
  show (if m + 1 ≠ 0 ∧ cfN (f (m + 1)) (f (m + 1 - 1)) = 0 then _ else _) = _
  rw [if_neg (fun h' => h h'.2)]
theorem kept_one (f : Nat → Item) : kept f 1 = [f 0] := by
  show (if 0 ≠ 0 ∧ _ then _ else _) = _
  rw [if_neg (fun h => h.1 rfl)]; rfl
theorem length_kept (f : Nat → Item) : ∀ m, (kept f m).length ≤ m
  | 0 => Nat.le_refl _
  | m + 1 => by
    have := length_kept f m
    show (if _ then _ else _ : List Item).length ≤ _
    split
    · omega
    · simp; omega

/-- The first items of the block are those of a list. -/
structure Kept (w : World) (g n : Nat) (f : Nat → Item) (m k : Nat) (es : Nat → Item) : Prop where
  own : OwnF w g n es
  len : (kept f m).length = k
  same : ∀ i, i < k → es i = (kept f m).getD i zI
  rest : ∀ i, m ≤ i + 1 → i < n → es i = f i

theorem kept_same {f : Nat → Item} (i : Nat) (hi : i < 1) : f i = (kept f 1).getD i zI := by
  obtain rfl : i = 0 := by omega
  rw [kept_one]; rfl

theorem kept_start {w : World} {g n : Nat} {f : Nat → Item} (ho : OwnF w g n f) : Kept w g n f 1 1 f :=
  ⟨ho, by rw [kept_one]; rfl, kept_same, fun _ _ _ => rfl⟩

theorem Kept.grown {w : World} {g n m k : Nat} {f es : Nat → Item} (h : Kept w g n f m k es) (hn : 0 < n) (q : Nat) (os : Array Obj) : Kept (Go.Sort.grow (w.drewN q) os) g n f m k es :=
  ⟨h.own.grown hn q os, h.len, h.same, h.rest⟩

theorem kept_get {f : Nat → Item} {m k : Nat} (hl : (kept f (m + 1)).length = k) (h : cfN (f (m + 1)) (f m) ≠ 0) (i : Nat) : (kept f (m + 2)).getD i zI = if i = k then f (m + 1) else (kept f (m + 1)).getD i zI := by
  rw [kept_take h, List.getD_eq_getElem?_getD, List.getD_eq_getElem?_getD, List.getElem?_append, hl]
  by_cases h1 : i < k
  · rw [if_pos h1, if_neg (by omega)]
  · rw [if_neg h1]
    by_cases h2 : i = k
    · subst h2; simp
    · rw [if_neg h2, List.getElem?_eq_none (by simp; omega), List.getElem?_eq_none (by omega)]

theorem Kept.more {w : World} {g n k : Nat} {f : Nat → Item} (h : Kept w g n f (k + 1) (k + 1) f) (hne : cfN (f (k + 1)) (f k) ≠ 0) : Kept w g n f (k + 2) (k + 2) f :=
  ⟨h.own, by rw [kept_take hne, List.length_append, h.len]; rfl, fun i hi => by
    rw [kept_get h.len hne]
    split
    · rename_i e; rw [e]
    · exact h.same i (by omega), fun _ _ _ => rfl⟩

theorem Kept.skip {w : World} {g n m k : Nat} {f es : Nat → Item} (h : Kept w g n f (m + 1) k es) (he : cfN (f (m + 1)) (f m) = 0) : Kept w g n f (m + 2) k es :=
  ⟨h.own, by rw [kept_skip he]; exact h.len, fun i hi => by rw [kept_skip he]; exact h.same i hi, fun i h1 h2 => h.rest i (by omega) h2⟩

theorem Kept.write {w : World} {g n m k : Nat} {f es : Nat → Item} (h : Kept w g n f (m + 1) k es) (hne : cfN (f (m + 1)) (f m) ≠ 0) (hk : k ≤ m) (hm : m + 1 < n) :
    Kept ((w.setCell ⟨g, k * 2, none⟩ (.int .i64 (f (m + 1)).norm)).setCell ⟨g, k * 2 + 1, none⟩ (.slice (f (m + 1)).a (f (m + 1)).vec.length (f (m + 1)).cap)) g n f (m + 2) (k + 1) (fun i => if i = k then f (m + 1) else es i) :=
  ⟨h.own.set k (by omega) (f (m + 1)), by rw [kept_take hne, List.length_append, h.len]; rfl, fun i hi => by
    rw [kept_get h.len hne]
    show (if _ then _ else _) = _
    by_cases e : i = k
    · rw [if_pos e, if_pos e]
    · rw [if_neg e, if_neg e]; exact h.same i (by omega), fun i h1 h2 => by
    show (if _ then _ else _) = _
    rw [if_neg (by omega)]
    exact h.rest i (by omega) h2⟩

theorem Kept.take {w : World} {g n m k : Nat} {f es : Nat → Item} (h : Kept w g n f m k es) (hk : k ≤ n) : OwnF w g k (fun i => (kept f m).getD i zI) :=
  (h.own.less hk).congr h.same

def GivesCompact (w : World) (g n cap : Nat) (f : Nat → Item) (e : Ending) (w' : World) : Prop :=
  e = .returned (.slice (some ⟨g, 0, none⟩) (kept f n).length cap) ∧ OwnF w' g (kept f n).length (fun i => (kept f n).getD i zI) ∧ w.grownBy w' (some g)

set_option maxRecDepth 100000 in
set_option maxHeartbeats 4000000 in
theorem compact_any (bx bo g n cap : Nat) (f : Nat → Item) (w : World) (hn : 1 ≤ n) (hcap : n ≤ cap) (hn2 : cap ≤ 9223372036854775807) (ho : OwnF w g n f)
    (hK : ∀ wr, w.grownBy wr (some g) → ∀ i, i < n → OkN wr (f i)) (hO : ∀ wr, w.grownBy wr (some g) → OrdBox wr bx bo) :
    Calls Try.prog 38 #[.slice (some ⟨g, 0, none⟩) n cap, .func (.func 39) #[] #[.pointer (some ⟨bx, 0, none⟩)]] w (GivesCompact w g n cap f) := by
  have hmix := mixed
  by_cases h1 : n = 1
  · subst h1
    have hend : GivesCompact w g 1 cap f (.returned (.slice (some ⟨g, 0, none⟩) 1 cap)) w := by
      unfold GivesCompact
      rw [kept_one]
      refine ⟨rfl, ho.congr (fun i hi => ?_), grownBy_refl _ _⟩
      have := kept_same (f := f) i hi
      rwa [kept_one] at this
    have HE := Lib.hid hend
    clear ho hK hO hend
    go_enter Try.func38, Try.ntmps38
    go_wp2_with fail
    go_ret
    exact HE.out
  · have d1 : decide ((n : Int) < 2) = false := decide_eq_false (by omega)
    have HK := Lib.hid hK
    have HO := Lib.hid hO
    have hst : Hid (Kept w g n f 1 1 f) := kept_start ho
    clear ho hK hO
    go_enter Try.func38, Try.ntmps38
    go_wp2_with fail
    go_loopw [5] (fun kk wr => ∃ k : Nat, k < n ∧ kk = .int .i64 ((k + 1 : Nat) : Int) ∧ Hid (Kept wr g n f (k + 1) (k + 1) f) ∧ w.grownBy wr (some g)) (fun kk _ => n - (intOf kk).toNat)
    case atStart => exact ⟨0, by omega, rfl, hst, grownBy_refl _ _⟩
    case round =>
      obtain ⟨k, hk, rfl, hR, hgr⟩ := hrel
      clear hst
      by_cases hkn : k + 1 < n
      · have hlt := hR.out.own.lt (by omega)
        have c1 := fun q os => cell_grown (n := q) (os := os) hlt (hR.out.own.c0 (k + 1) hkn)
        have c2 := fun q os => cell_grown (n := q) (os := os) hlt (hR.out.own.c1 (k + 1) hkn)
        have c3 := fun q os => cell_grown (n := q) (os := os) hlt (hR.out.own.c0 k (by omega))
        have c4 := fun q os => cell_grown (n := q) (os := os) hlt (hR.out.own.c1 k (by omega))
        have hE := fun q os => equalNormed_any bx bo (f (k + 1)) (f k) (Go.Sort.grow (wr.drewN q) os) (HK.out _ (grownBy_grow hgr q os) (k + 1) hkn) (HK.out _ (grownBy_grow hgr q os) k (by omega)) (HO.out _ (grownBy_grow hgr q os))
        have HE := Lib.hid hE
        have hb0 : (0 : Int) ≤ (k : Int) + 1 := by omega
        have hb1 : (k : Int) + 1 < (n : Int) := by omega
        have hb2 : (k : Int) < (n : Int) := by omega
        have hb3 : ((k : Int) + 1).toNat = k + 1 := by omega
        have hb4 : IntKind.i64.wrap (k : Int) = (k : Int) := by rw [IntKind.wrap_i64]; omega
        clear hE hlt
        go_wp2_with fail
        go_quiet_grown (first | (go_at_call 39; exact Calls.grown_of (HE.out _ _)))
        have hgr2 := grownBy_grow hgr nq osq
        have hR2 : Hid (Kept (Go.Sort.grow (wr.drewN nq) osq) g n f (k + 1) (k + 1) f) := hR.out.grown (by omega) nq osq
        obtain ⟨V, hV⟩ : ∃ V, V = Go.Sort.grow (wr.drewN nq) osq := ⟨_, rfl⟩
        have HV : Hid (Go.Sort.grow (wr.drewN nq) osq = V) := hV.symm
        rw [← hV] at hgr2 hR2
        clear c1 c2 c3 c4 HE hV hb0 hb1 hb2 hb3 hb4 hR
        show Exit.then _ _ _ _ (Go.Sort.grow (wr.drewN nq) osq)
        rw [HV.out]
        obtain ⟨bb, hbb⟩ : ∃ b, b = (cfN (f (k + 1)) (f k) == 0) := ⟨_, rfl⟩
        rw [← hbb]
        cases bb with
        | true =>
          have heq : cfN (f (k + 1)) (f k) = 0 := by simpa using hbb.symm
          have hsk : Hid (Kept V g n f (k + 2) (k + 1) f) := hR2.out.skip heq
          clear hR2 heq hgr hbb
          go_wp2_with fail
          generalize hd : n - (k + 1) = d
          generalize hdc : cap - (k + 1) = dc
          have hnd1 : n ≤ k + 1 + d := by omega
          have hnd2 : k + 1 + d ≤ n := by omega
          have HDC : Hid (cap - (k + 1) = dc) := hdc
          clear hd hdc
          go_loopw [5, 7] (fun kk jj wq => ∃ (j q : Nat) (es : Nat → Item), j + 1 ≤ d ∧ q ≤ k + 1 + j ∧ kk = .int .i64 (q : Int) ∧ jj = .int .i64 ((j + 1 : Nat) : Int) ∧ Hid (Kept wq g n f (k + 1 + j + 1) q es) ∧ w.grownBy wq (some g)) (fun _ jj _ => d + 1 - (intOf jj).toNat)
          case atStart => exact ⟨0, k + 1, f, by omega, by omega, by go_num, rfl, hsk, hgr2⟩
          case round =>
            obtain ⟨j, q, es, hjd, hqj, rfl, rfl, hR, hgr⟩ := hrel
            clear hsk hgr2 HV
            by_cases hj : j + 1 < d
            · have hlt := hR.out.own.lt (by omega)
              have r1 := hR.out.rest (k + 1 + j + 1) (by omega) (by omega)
              have r0 := hR.out.rest (k + 1 + j) (by omega) (by omega)
              have c1 := fun q os => cell_grown (n := q) (os := os) hlt (hR.out.own.c0 (k + 1 + j + 1) (by omega))
              have c2 := fun q os => cell_grown (n := q) (os := os) hlt (hR.out.own.c1 (k + 1 + j + 1) (by omega))
              have c3 := fun q os => cell_grown (n := q) (os := os) hlt (hR.out.own.c0 (k + 1 + j) (by omega))
              have c4 := fun q os => cell_grown (n := q) (os := os) hlt (hR.out.own.c1 (k + 1 + j) (by omega))
              rw [r1] at c1 c2
              rw [r0] at c3 c4
              rw [show (k + 1 + j + 1) * 2 = (k + 1) * 2 + (j + 1) * 2 from by omega] at c1 c2
              rw [show (k + 1 + j) * 2 = (k + 1) * 2 + j * 2 from by omega] at c3 c4
              obtain ⟨x1, hx1⟩ : ∃ x, x = f (k + 1 + j + 1) := ⟨_, rfl⟩
              obtain ⟨x0, hx0⟩ : ∃ x, x = f (k + 1 + j) := ⟨_, rfl⟩
              have hE := fun q os => equalNormed_any bx bo x1 x0 (Go.Sort.grow (wr.drewN q) os) (by rw [hx1]; exact HK.out _ (grownBy_grow hgr q os) (k + 1 + j + 1) (by omega)) (by rw [hx0]; exact HK.out _ (grownBy_grow hgr q os) (k + 1 + j) (by omega)) (HO.out _ (grownBy_grow hgr q os))
              have HE := Lib.hid hE
              rw [← hx1] at c1 c2
              rw [← hx0] at c3 c4
              have hb0 : (0 : Int) ≤ (j : Int) + 1 := by omega
              have hb1 : (j : Int) + 1 < (d : Int) := by omega
              have hb2 : (j : Int) < (d : Int) := by omega
              have hb3 : ((j : Int) + 1).toNat = j + 1 := by omega
              have hb4 : IntKind.i64.wrap (j : Int) = (j : Int) := by rw [IntKind.wrap_i64]; omega
              have HX1 := Lib.hid hx1
              have HX0 := Lib.hid hx0
              clear hE hlt r0 r1 hx1 hx0
              go_wp2_with fail
              go_quiet_grown (first | (go_at_call 39; exact Calls.grown_of (HE.out _ _)))
              have hgr3 := grownBy_grow hgr nq osq
              have hR3 : Hid (Kept (Go.Sort.grow (wr.drewN nq) osq) g n f (k + 1 + j + 1) q es) := hR.out.grown (by omega) nq osq
              obtain ⟨V2, hV2⟩ : ∃ V, V = Go.Sort.grow (wr.drewN nq) osq := ⟨_, rfl⟩
              have HV2 : Hid (Go.Sort.grow (wr.drewN nq) osq = V2) := hV2.symm
              have d1' := c1 nq osq
              have d2' := c2 nq osq
              rw [← hV2] at hgr3 hR3 d1' d2'
              clear c1 c2 c3 c4 HE hV2 hR hgr
              show Exit.then _ _ _ _ (Go.Sort.grow (wr.drewN nq) osq)
              rw [HV2.out]
              obtain ⟨bb, hbb⟩ : ∃ b, b = (cfN x1 x0 == 0) := ⟨_, rfl⟩
              rw [← hbb]
              cases bb with
              | true =>
                have heq : cfN x1 x0 = 0 := by simpa using hbb.symm
                have hsk : Hid (Kept V2 g n f (k + 1 + (j + 1) + 1) q es) := hR3.out.skip (m := k + 1 + j) (by rw [← HX1.out, ← HX0.out]; exact heq)
                clear hR3 heq hbb
                go_wp2_with fail
                go_roundw
                case rel => exact ⟨j + 1, q, es, by omega, by omega, by go_num, by go_num, hsk, hgr3⟩
                case measure => simp [intOf]; omega
              | false =>
                have heq : ¬cfN x1 x0 = 0 := by simpa using hbb.symm
                have hwr : Hid (Kept ((V2.setCell ⟨g, q * 2, none⟩ (.int .i64 x1.norm)).setCell ⟨g, q * 2 + 1, none⟩ (.slice x1.a x1.vec.length x1.cap)) g n f (k + 1 + (j + 1) + 1) (q + 1) (fun i => if i = q then x1 else es i)) := by
                  have h := hR3.out.write (m := k + 1 + j) (by rw [← HX1.out, ← HX0.out]; exact heq) hqj (by omega)
                  rw [← HX1.out] at h
                  exact h
                have hqn : (q : Int) < (n : Int) := by omega
                have f1 := hR3.out.own.fr (q * 2) (by omega)
                have f2 := hR3.out.own.fr (q * 2 + 1) (by omega)
                have g1 := hR3.out.own.c0 q (by omega)
                have g2 := hR3.out.own.c1 q (by omega)
                clear hR3 heq hbb
                go_wp2_with fail
                go_roundw
                case rel => exact ⟨j + 1, q + 1, _, by omega, by omega, by go_num, by go_num, hwr, grownBy_setCell (grownBy_setCell hgr3 _ _) _ _⟩
                case measure => simp [intOf]; omega
            · obtain rfl : j + 1 = d := by omega
              have hqn : q < n := by omega
              have hRk : Hid (Kept wr g n f n q es) := by
                have h := hR.out
                rw [show k + 1 + j + 1 = n from by omega] at h
                exact h
              obtain ⟨vs, hvl, hcl⟩ := clear_run wr g (q * 2) (n - q) (cap - q) (by omega) (fun i hi => by
                  obtain ⟨t, ht⟩ : ∃ t, i = t * 2 ∨ i = t * 2 + 1 := ⟨i / 2, by omega⟩
                  rcases ht with rfl | rfl
                  · rw [show q * 2 + t * 2 = (q + t) * 2 from by omega, hRk.out.own.c0 (q + t) (by omega)]; rfl
                  · rw [show q * 2 + (t * 2 + 1) = (q + t) * 2 + 1 from by omega, hRk.out.own.c1 (q + t) (by omega)]; rfl) (fun i hi => hRk.out.own.fr (q * 2 + i) (by omega))
              have hlen := hRk.out.len
              have hown : OwnF (wr.setCells g (q * 2) vs) g q (fun i => (kept f n).getD i zI) := by
                have h := hRk.out.take (Nat.le_of_lt hqn)
                refine ⟨fun i hi => ?_, fun i hi => ?_, fun i hi => ?_⟩
                · rw [World.cell?_setCells_out _ _ _ _ _ (fun _ _ => .inl (by show i * 2 < q * 2; omega))]; exact h.c0 i hi
                · rw [World.cell?_setCells_out _ _ _ _ _ (fun _ _ => .inl (by show i * 2 + 1 < q * 2; omega))]; exact h.c1 i hi
                · rw [World.frozen?_setCells]; exact h.fr i hi
              have hend : Hid (GivesCompact w g n cap f (.returned (.slice (some ⟨g, 0, none⟩) q cap)) (wr.setCells g (q * 2) vs)) := by
                unfold Hid GivesCompact
                rw [hlen]
                exact ⟨rfl, hown, grownBy_setCells vs _ _ hgr⟩
              have hqi : (q : Int) ≤ (n : Int) := by omega
              have hqc : (q : Int) ≤ (cap : Int) := by omega
              clear hR hRk hown hlen
              go_wp2_with fail
              go_ret
              exact hend.out
        | false =>
          have heq : ¬cfN (f (k + 1)) (f k) = 0 := by simpa using hbb.symm
          have hmo : Hid (Kept V g n f (k + 2) (k + 2) f) := hR2.out.more heq
          clear hR2 heq hgr hbb
          go_wp2_with fail
          go_roundw
          case rel => exact ⟨k + 1, by omega, by go_num, hmo, hgr2⟩
          case measure => simp [intOf]; omega
      · obtain rfl : k + 1 = n := by omega
        have hlen := hR.out.len
        have hend : Hid (GivesCompact w g (k + 1) cap f (.returned (.slice (some ⟨g, 0, none⟩) (k + 1) cap)) wr) := by
          have ht := hR.out.take (Nat.le_refl _)
          unfold Hid GivesCompact
          rw [hlen]
          exact ⟨rfl, ht, hgr⟩
        go_wp2_with fail
        go_ret
        exact hend.out
end Go.Proofs.Ytdpgkegfkobdoaa
