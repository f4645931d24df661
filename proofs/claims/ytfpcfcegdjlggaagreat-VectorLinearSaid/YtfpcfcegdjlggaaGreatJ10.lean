/-
  Joined texts: UK UL UM UN UE UF UH.
-/
import Derived.Test.YtfpcfcegdjlggaaGreatJ09
namespace Go.Proofs.YtfpcfcegdjlggaaGreat
open Go.RowKit

/-- What Copy has built: i rows whole, of row i the first j entries. -/
structure Cp (w0 w : World) (G n m : Nat) (M : Nat → Nat → Int) (i j : Nat) (v : Value) (R : Nat → Nat) (C : Nat → Nat) : Prop where
  outer : w.rowIs G 119 n (fun p => if p < i then .slice (some ⟨R p, 0, none⟩) m (C p) else if p = i then v else .slice none 0 0)
  rows : ∀ p, p < i → RowZ w (R p) m (M p)
  types : ∀ p, p < i → w0.heap.size ≤ R p ∧ ∃ cur, w.heap[R p]? = some (.cells cur 51 (0, 0))
  part : RowB w w0.heap.size v j (M i)
  inj : ∀ p q, p < i → q < i → R p = R q → p = q
  far : ∀ p, p < i → v.ownBlock ≠ some (R p)
  low : w0.heap.size ≤ G
  below : Below w0.heap.size w0 w

theorem Cp.moved {w0 w w' : World} {G n m i j : Nat} {M : Nat → Nat → Int} {v : Value} {R C : Nat → Nat} (h : Cp w0 w G n m M i j v R C) (hb : Below w.heap.size w w') : Cp w0 w' G n m M i j v R C := by
  refine ⟨h.outer.of_block (hb.block G h.outer.lt), fun p hp => (h.rows p hp).belowU hb, fun p hp => ?_, h.part.moved hb, h.inj, h.far, h.low, h.below.trans (hb.mono h.below.size)⟩
  obtain ⟨h1, cur, h2⟩ := h.types p hp
  exact ⟨h1, cur, (hb.block _ (h.rows p hp).lt).trans h2⟩

theorem rowIs_type {w : World} {G n : Nat} {t : TypeId} {f : Nat → Value} (h : w.rowIs G t n f) : ∃ cur, w.heap[G]? = some (.cells cur t (0, 0)) := by
  obtain ⟨c, hb, _, _⟩ := h
  exact ⟨c, hb⟩

theorem ne_of_types {w : World} {a b : Nat} {cur cur' : Array Value} {t t' : TypeId} (ha : w.heap[a]? = some (.cells cur t (0, 0))) (hb : w.heap[b]? = some (.cells cur' t' (0, 0))) (ht : t ≠ t') : a ≠ b := by
  rintro rfl
  rw [ha] at hb
  simp only [Option.some.injEq, Obj.cells.injEq] at hb
  exact ht hb.2.1

/-- The row's block changes, by an append to row i: the rest stands. -/
theorem RowZ.grown {w w' : World} {b m : Nat} {f : Nat → Int} (h : RowZ w b m f) {row : Option Nat} (hg : w.grownBy w' row) (hne : row ≠ some b) (hr : ∀ k, row = some k → ∃ cur t, w.heap[k]? = some (.cells cur t (0, 0)) ∧ t ≠ 87) : RowZ w' b m f := by
  have hb : w'.heap[b]? = w.heap[b]? := hg.block b h.lt (fun e => hne e.symm)
  refine ⟨fun j hj => ?_, fun k => (World.frozen?_of_block (w := w) (a := ⟨b, k, none⟩) hb).trans (h.fr k), Nat.lt_of_lt_of_le h.lt hg.size⟩
  obtain ⟨a, c, q1, q2, q3⟩ := h.c j hj
  exact ⟨a, c, (World.cell?_of_block (w := w) (a := ⟨b, _, none⟩) hb).trans q1, (World.cell?_of_block (w := w) (a := ⟨b, _, none⟩) hb).trans q2, q3.grown hg hr⟩

theorem RowZ.setO1 {w : World} {b m : Nat} {f : Nat → Int} (h : RowZ w b m f) {G o : Nat} (hne : G ≠ b) {u : Value} (hu : w.cell? ⟨G, o, none⟩ = some u) (hn : ∀ x, u ≠ .int .u32 x) (x : Value) : RowZ (w.setCell ⟨G, o, none⟩ x) b m f := by
  refine ⟨fun j hj => ?_, fun k => by simp [h.fr k], by simpa [World.setCell] using h.lt⟩
  obtain ⟨a, c, q1, q2, q3⟩ := h.c j hj
  refine ⟨a, c, ?_, ?_, q3.setO rfl hu hn x⟩
  · rw [World.cell?_setCell_other _ _ _ _ (by simp)]; exact q1
  · rw [World.cell?_setCell_other _ _ _ _ (by simp)]; exact q2

/-- One entry more in row i: the append, and the store of the new slice. -/
theorem Cp.next {w0 w w1 : World} {G n m i j g cap : Nat} {M : Nat → Nat → Int} {v : Value} {R C : Nat → Nat} (h : Cp w0 w G n m M i j v R C) (hi : i < n) (hpart : RowB w1 w0.heap.size (.slice (some ⟨g, 0, none⟩) (j + 1) cap) (j + 1) (M i)) (hg : w.grownBy w1 v.ownBlock)
    (hat : v.ownBlock = some g ∨ g = w.heap.size) : Cp w0 (w1.setCell ⟨G, i, none⟩ (.slice (some ⟨g, 0, none⟩) (j + 1) cap)) G n m M i (j + 1) (.slice (some ⟨g, 0, none⟩) (j + 1) cap) R C := by
  have hr : ∀ k, v.ownBlock = some k → ∃ cur t, w.heap[k]? = some (.cells cur t (0, 0)) ∧ t ≠ 87 := fun k hk => by
    obtain ⟨_, cur, hc⟩ := h.part.type k hk
    exact ⟨cur, _, hc, by decide⟩
  obtain ⟨curG, hG⟩ := rowIs_type h.outer
  have hGv : v.ownBlock ≠ some G := fun e => by
    obtain ⟨_, cur, hc⟩ := h.part.type G e
    exact ne_of_types hG hc (by decide) rfl
  have ho1 : w1.rowIs G 119 n (fun p => if p < i then .slice (some ⟨R p, 0, none⟩) m (C p) else if p = i then v else .slice none 0 0) := h.outer.of_block (hg.block G h.outer.lt (fun e => hGv e.symm))
  have hcell := ho1.cell hi
  rw [if_neg (Nat.lt_irrefl i), if_pos rfl] at hcell
  have hvn : ∀ x, v ≠ .int .u32 x := by
    obtain ⟨A, C', h1, _⟩ := h.part
    rcases h1.2 with ⟨hv, _⟩ | ⟨_, _, _, hv, _⟩ <;> rw [hv] <;> simp
  obtain ⟨curG1, hG1⟩ := rowIs_type ho1
  have hRG : ∀ p, p < i → G ≠ R p := fun p hp => by
    obtain ⟨_, cur, hc⟩ := h.types p hp
    exact ne_of_types hG hc (by decide)
  have hgG : g ≠ G := fun e => by
    obtain ⟨_, cur, hc⟩ := hpart.type g rfl
    rw [e] at hc
    exact ne_of_types hG1 hc (by decide) rfl
  refine ⟨(ho1.set i _).congr fun p hp => ?_, fun p hp => ((h.rows p hp).grown hg (h.far p hp) hr).setO1 (hRG p hp) hcell hvn _, fun p hp => ?_, hpart.setO (fun k hk => ?_) hcell hvn _, h.inj, fun p hp e => ?_, h.low, ?_⟩
  · by_cases e : p = i
    · rw [if_pos e, if_neg (by omega), if_pos e]
    · simp [e]
  · obtain ⟨h1, cur, h2⟩ := h.types p hp
    refine ⟨h1, cur, ?_⟩
    rw [Below.heap_setCell w1 ⟨G, i, none⟩ _ (R p) (hRG p hp).symm, hg.block (R p) (h.rows p hp).lt (fun e => h.far p hp e.symm)]
    exact h2
  · simp only [Value.ownBlock, Option.some.injEq] at hk
    rw [← hk]; exact hgG
  · simp only [Value.ownBlock, Option.some.injEq] at e
    rcases hat with e2 | e2
    · exact h.far p hp (by rw [e2, e])
    · have := (h.rows p hp).lt
      omega
  · have h3 : Below w0.heap.size w0 w1 := h.below.grown hg h.below.size (fun k hk => (h.part.type k hk).1)
    exact h3.setCell (p := ⟨G, i, none⟩) h.low _

/-- Row i is whole. -/
theorem Cp.row {w0 w : World} {G n m i : Nat} {M : Nat → Nat → Int} {v : Value} {R C : Nat → Nat} (h : Cp w0 w G n m M i m v R C) (hm : 0 < m) : ∃ R' C', Cp w0 w G n m M (i + 1) 0 (.slice none 0 0) R' C' := by
  obtain ⟨g, cap, rfl, hb, hrow, cur, hc⟩ := h.part.done hm
  refine ⟨fun p => if p = i then g else R p, fun p => if p = i then cap else C p, h.outer.congr fun p hp => ?_, fun p hp => ?_, fun p hp => ?_, RowB.nil _ _ _, fun p q hp hq e => ?_, fun p hp => by simp [Value.ownBlock], h.low, h.below⟩
  · by_cases e : p = i
    · subst e
      rw [if_neg (Nat.lt_irrefl p), if_pos rfl, if_pos (by omega), if_pos rfl, if_pos rfl]
    · by_cases e2 : p < i
      · rw [if_pos e2, if_pos (by omega), if_neg e, if_neg e]
      · rw [if_neg e2, if_neg e, if_neg (by omega)]
        split <;> rfl
  · show RowZ w (if p = i then g else R p) m (M p)
    by_cases e : p = i
    · rw [if_pos e, e]; exact hrow
    · rw [if_neg e]; exact h.rows p (by omega)
  · show w0.heap.size ≤ (if p = i then g else R p) ∧ ∃ cur, w.heap[if p = i then g else R p]? = _
    by_cases e : p = i
    · rw [if_pos e]; exact ⟨hb, cur, hc⟩
    · rw [if_neg e]; exact h.types p (by omega)
  · have hf : ∀ q, q < i → g ≠ R q := fun q hq e => h.far q hq (by simp [Value.ownBlock, e])
    try simp only at e
    by_cases e1 : p = i
    · by_cases e2 : q = i
      · omega
      · rw [if_pos e1, if_neg e2] at e
        exact absurd e (hf q (by omega))
    · by_cases e2 : q = i
      · rw [if_neg e1, if_pos e2] at e
        exact absurd e.symm (hf p (by omega))
      · rw [if_neg e1, if_neg e2] at e
        exact h.inj p q (by omega) (by omega) e

/-- All rows are whole. -/
theorem Cp.mat {w0 w : World} {G n m : Nat} {M : Nat → Nat → Int} {v : Value} {R C : Nat → Nat} (h : Cp w0 w G n m M n 0 v R C) : MatZ w G n m R M := by
  obtain ⟨curG, hG⟩ := rowIs_type h.outer
  refine ⟨fun i hi => ⟨C i, ?_⟩, fun k => h.outer.frozen k, h.rows, fun p q hp hq => h.inj p q hp hq, fun i hi => ?_, h.outer.lt⟩
  · have := h.outer.cell hi
    rwa [if_pos hi] at this
  · obtain ⟨_, cur, hc⟩ := h.types i hi
    exact ne_of_types hc hG (by decide)

set_option maxRecDepth 100000 in
set_option maxHeartbeats 4000000 in
theorem rcopy_any (g n m cap : Nat) (R : Nat → Nat) (M : Nat → Nat → Int) (w : World) (hM : MatZ w g n m R M) (hn : n ≤ 1000) (hm1 : 1 ≤ m) (hm : m ≤ 1000) (hs : ∀ i j, i < n → j < m → (mg (M i j)).length ≤ 1000000) :
    Calls Tryz.prog 56 #[.slice (some ⟨g, 0, none⟩) n cap] w (GivesMat w n m M) := by
  obtain ⟨i0, hi, hz0, hz1, hz2⟩ := info_parts infoZ
  have hmk := run_make_row' (P := Tryz.prog) 55 119 (.slice none 0 0) 24 Tryz.underlying55 infoRZ rfl .i64 .i64 n (by omega) (by omega) w
  obtain ⟨W, hW⟩ : ∃ W, W = w.alloc (.cells (madeCells #[.slice none 0 0] n) 119) := ⟨_, rfl⟩
  have hbW : Below w.heap.size w W := by rw [hW]; exact (Below.refl _ _).alloc (Nat.le_refl _) _
  have hst : Hid (∃ R' C', Cp w W w.heap.size n m M 0 0 (.slice none 0 0) R' C') := by
    refine ⟨fun _ => 0, fun _ => 0, ?_, fun p hp => by omega, fun p hp => by omega, RowB.nil _ _ _, fun p q hp => by omega, fun p hp => by omega, Nat.le_refl _, hbW⟩
    rw [hW]
    exact (World.rowIs_made w (.slice none 0 0) n 119).congr fun p _ => by
      rw [if_neg (Nat.not_lt_zero p)]
      split <;> rfl
  have HM := Lib.hid hM
  have HS := Lib.hid hs
  have HWW : Hid (w.alloc (.cells (madeCells #[.slice none 0 0] n) 119) = W) := hW.symm
  clear hM hs hW hbW
  go_enter Tryz.func56, Tryz.ntmps56
  go_wp2_with fail
  rw [HWW.out]
  clear hmk
  go_loopw [12] (fun ii wr => ∃ (i : Nat), i ≤ n ∧ ii = .int .i64 (i : Int) ∧ Hid (∃ R' C', Cp w wr w.heap.size n m M i 0 (.slice none 0 0) R' C')) (fun ii _ => n - (intOf ii).toNat)
  case atStart => exact ⟨0, by omega, rfl, hst⟩
  case round =>
    obtain ⟨i, hin, rfl, hC⟩ := hrel
    clear hst
    by_cases hlt : i < n
    · obtain ⟨R1, C1, hC1⟩ := hC.out
      obtain ⟨cr, ho⟩ := (HM.out.below hC1.below).outer i hlt
      clear hC1
      go_wp2_with fail
      go_loopw [20] (fun jj wq => ∃ (j : Nat) (v : Value), j ≤ m ∧ jj = .int .i64 (j : Int) ∧ Hid (∃ R' C', Cp w wq w.heap.size n m M i j v R' C')) (fun jj _ => m - (intOf jj).toNat)
      case atStart => exact ⟨0, _, by omega, rfl, hC⟩
      case round =>
        obtain ⟨j, v, hjm, rfl, hCj⟩ := hrel
        clear hC ho
        by_cases hj : j < m
        · obtain ⟨R2, C2, hC2⟩ := hCj.out
          obtain ⟨c3, a3, d3, o3, x3, y3, r3⟩ := (HM.out.below hC2.below).entry i j hlt hj
          have hsh : Hid ((mg (M i j)).length ≤ 1000000) := HS.out i j hlt hj
          obtain ⟨x, hx⟩ : ∃ x, x = M i j := ⟨_, rfl⟩
          rw [← hx] at x3 y3 r3 hsh
          have HX := Lib.hid hx
          have HR3 := Lib.hid r3
          clear r3 hC2 hx
          obtain ⟨V, hV⟩ : ∃ V, V = wr.alloc (.cells #[.bool (sg x), .slice a3 (mg x).length d3] 51) := ⟨_, rfl⟩
          have hbV : Below wr.heap.size wr V := by rw [hV]; exact (Below.refl _ _).alloc (Nat.le_refl _) _
          have hBx : Box wr.heap.size (.bool (sg x)) (.slice a3 (mg x).length d3) V := by rw [hV]; exact Box.made _ _ rfl _ _ _
          have hvlt : Hid (∀ k, v.ownBlock = some k → k < wr.heap.size) := by
            obtain ⟨R2, C2, hC2⟩ := hCj.out
            intro k hk
            obtain ⟨_, cur, hc⟩ := hC2.part.type k hk
            exact (Array.getElem?_eq_some_iff.1 hc).1
          have HCV : Hid (∃ R' C', Cp w V w.heap.size n m M i j v R' C') := by
            obtain ⟨R2, C2, hC2⟩ := hCj.out
            exact ⟨R2, C2, hC2.moved hbV⟩
          have hcO : V.cell? ⟨w.heap.size, i, none⟩ = some v ∧ (∀ k, V.frozen? ⟨w.heap.size, k, none⟩ = false) ∧ w.heap.size ≤ V.heap.size ∧ w.heap.size < V.heap.size := by
            obtain ⟨R2, C2, hC2⟩ := HCV.out
            have h := hC2.outer.cell hlt
            rw [if_neg (Nat.lt_irrefl i), if_pos rfl] at h
            exact ⟨h, fun k => hC2.outer.frozen k, hC2.below.size, hC2.outer.lt⟩
          have HRV := Lib.hid (HR3.out.below hbV)
          have HVV : Hid (wr.alloc (.cells #[.bool (sg x), .slice a3 (mg x).length d3] 51) = V) := hV.symm
          obtain ⟨hcO1, hcO2, hcO3, hcO4⟩ := hcO
          have hfO := hcO2 i
          have hK : Hid (∀ w', Below V.heap.size V w' → w'.cell? ⟨w.heap.size, i, none⟩ = some v ∧ w'.cell? ⟨wr.heap.size, 0, none⟩ = some (.bool (sg x)) ∧ w'.cell? ⟨wr.heap.size, 1, none⟩ = some (.slice a3 (mg x).length d3)) :=
            fun w' h => ⟨cell_keep h hcO1, cell_keep h hBx.c0, cell_keep h hBx.c1⟩
          have hbD : Below V.heap.size V V.drew := (Below.refl _ _).drew
          have z2 : (0 : Int) ≤ (i : Int) := by omega
          have z4 : (i : Int) < (n : Int) := by omega
          have hBs := hBx.size
          clear hCj hV hbV hBx hcO2 HR3
          go_wp2_with fail
          rw [HVV.out]
          clear x3 y3 o3
          refine begin_T 11 (fun w' => w'.cell? ⟨w.heap.size, i, none⟩ = some v ∧ w'.cell? ⟨wr.heap.size, 0, none⟩ = some (.bool (sg x)) ∧ w'.cell? ⟨wr.heap.size, 1, none⟩ = some (.slice a3 (mg x).length d3)) (by kernel_rfl) (hK.out _ hbD) (fun hHeld => ?_)
          refine first_T (i := 0) (v := ?_) rfl (by kernel_rfl) (fun _ _ _ h => h) (by rfl) (fun w hSw => ?_) hHeld ?_
          rotate_left
          · ((try dsimp only at hSw); go_simp; (try with_reducible rfl))
          try simp only [Act.put, List.setIfInBounds_toArray, List.set_cons_zero, List.set_cons_succ]
          refine first_T (i := 1) (v := ?_) rfl (by kernel_rfl) (fun _ _ _ h => h) (by rfl) (fun w hSw => ?_) hHeld ?_
          rotate_left
          · ((try dsimp only at hSw); go_simp; (try with_reducible rfl))
          try simp only [Act.put, List.setIfInBounds_toArray, List.set_cons_zero, List.set_cons_succ]
          refine first_T (i := 2) (v := ?_) rfl (by kernel_rfl) (fun _ _ _ h => h) (by rfl) (fun w hSw => ?_) hHeld ?_
          rotate_left
          · ((try dsimp only at hSw); go_simp; (try with_reducible rfl))
          try simp only [Act.put, List.setIfInBounds_toArray, List.set_cons_zero, List.set_cons_succ]
          refine first_T (i := 3) (v := ?_) rfl (by kernel_rfl) (fun _ _ _ h => h) (by rfl) (fun w hSw => ?_) hHeld ?_
          rotate_left
          · ((try dsimp only at hSw); go_simp; (try with_reducible rfl))
          try simp only [Act.put, List.setIfInBounds_toArray, List.set_cons_zero, List.set_cons_succ]
          refine first_T (i := 4) (v := ?_) rfl (by kernel_rfl) (fun _ _ _ h => h) (by rfl) (fun w hSw => ?_) hHeld ?_
          rotate_left
          · ((try dsimp only at hSw); go_simp; (try with_reducible rfl))
          try simp only [Act.put, List.setIfInBounds_toArray, List.set_cons_zero, List.set_cons_succ]
          refine first_T (i := 5) (v := ?_) rfl (by kernel_rfl) (fun _ _ _ h => h) (by rfl) (fun w hSw => ?_) hHeld ?_
          rotate_left
          · ((try dsimp only at hSw); go_simp; (try with_reducible rfl))
          try simp only [Act.put, List.setIfInBounds_toArray, List.set_cons_zero, List.set_cons_succ]
          refine first_T (i := 6) (v := ?_) rfl (by kernel_rfl) (fun _ _ _ h => h) (by rfl) (fun w hSw => ?_) hHeld ?_
          rotate_left
          · ((try dsimp only at hSw); go_simp; (try with_reducible rfl))
          try simp only [Act.put, List.setIfInBounds_toArray, List.set_cons_zero, List.set_cons_succ]
          refine next_T (i := 7) rfl (by kernel_rfl) (fun K hKK => ?_)
          go_simp
          refine (normalizeZ (HRV.out.below hbD) hsh.out).mono ?_
          rintro e w7 ⟨a7, c7, rfl, hr7, hb7⟩
          have hbN : Below V.heap.size V w7 := hbD.trans (hb7.mono hbD.size)
          go_wp2_with fail
          clear hHeld
          refine hKK.out _ _ (hK.out _ hbN) (fun hHeld => ?_)
          clear hKK K
          try simp only [Act.put, List.setIfInBounds_toArray, List.set_cons_zero, List.set_cons_succ]
          refine next_T (i := 8) rfl (by kernel_rfl) (fun K hKK => ?_)
          go_simp
          obtain ⟨w8, hw8⟩ : ∃ w8, w8 = w7.alloc (.cells #[.bool (sg x), .slice a7 (mg x).length c7] 51) := ⟨_, rfl⟩
          have hb8 : Below w7.heap.size w7 w8 := by rw [hw8]; exact (Below.refl _ _).alloc (Nat.le_refl _) _
          have hbO : Below V.heap.size V w8 := hbN.trans (hb8.mono hbN.size)
          have hB8 : Box w7.heap.size (.bool (sg x)) (.slice a7 (mg x).length c7) w8 := by rw [hw8]; exact Box.made _ _ rfl _ _ _
          have hr8 := hr7.below hb8
          rw [← hw8]
          clear hHeld
          refine hKK.out _ _ (hK.out _ hbO) (fun hHeld => ?_)
          clear hKK K
          try simp only [Act.put, List.setIfInBounds_toArray, List.set_cons_zero, List.set_cons_succ]
          obtain ⟨R2, C2, hC2⟩ := HCV.out
          have hC8 := hC2.moved hbO
          obtain ⟨A, CC, hown, hLs⟩ := hC8.part
          refine next_T (i := 9) rfl (by kernel_rfl) (fun K hKK => ?_)
          refine step_append_lies _ rfl _ _ 119 rfl w.heap.size 51 i0 (.agg #[.bool false, .slice none 0 0]) 2 32 Tryz.underlying119 hi hz0 hz1 hz2 rfl (by decide) v j (flatZ (M i) A CC j) rfl hown ⟨w7.heap.size, 0, none⟩ 1 1 [.bool (sg x), .slice a7 (mg x).length c7] rfl rfl ?c1 ?c2 (by decide) (by unfold maxLen; omega) (by omega) hC8.below.size _ rfl ?c6
          case c1 =>
            intro q u hq
            rcases (by
              have := (List.getElem?_eq_some_iff.1 hq).1
              simp at this
              omega : q = 0 ∨ q = 1) with rfl | rfl
            · have e : u = .bool (sg x) := by simpa using hq.symm
              rw [e]; exact hB8.c0
            · have e : u = .slice a7 (mg x).length c7 := by simpa using hq.symm
              rw [e]; exact hB8.c1
          case c2 =>
            intro u hu
            simp only [List.mem_cons, List.not_mem_nil, or_false] at hu
            rcases hu with rfl | rfl <;> rfl
          intro g9 cap9 w9 hown9 hg9 hat9 _
          have hpart : RowB w9 w.heap.size (.slice (some ⟨g9, 0, none⟩) (j + 1) cap9) (j + 1) (M i) := by
            refine RowB.next hown hLs (a := a7) (c := c7) ?_ ?_ hg9
            · rw [← HX.out]; exact hr8
            · rw [← HX.out]; exact hown9
          have hnx : Hid (∃ R' C', Cp w (w9.setCell ⟨w.heap.size, i, none⟩ (.slice (some ⟨g9, 0, none⟩) (j + 1) cap9)) w.heap.size n m M i (j + 1) (.slice (some ⟨g9, 0, none⟩) (j + 1) cap9) R' C') := ⟨R2, C2, hC8.next hlt hpart hg9 hat9⟩
          have hneb : ∀ k, v.ownBlock = some k → k ≠ wr.heap.size := fun k hk => by have := hvlt.out k hk; omega
          obtain ⟨curG, hG8⟩ := rowIs_type hC8.outer
          have hneG : ∀ k, v.ownBlock = some k → k ≠ w.heap.size := fun k hk e => by
            obtain ⟨_, cur, hc⟩ := ownsRow_type hown k hk
            rw [e] at hc
            exact ne_of_types hG8 hc (by decide) rfl
          have hbx8 : wr.heap.size < w8.heap.size := by have := hbO.size; omega
          have hO8 : w.heap.size < w8.heap.size := hC8.outer.lt
          have q1 : w9.cell? ⟨w.heap.size, i, none⟩ = some v := (World.cell?_of_block (w := w8) (a := ⟨w.heap.size, i, none⟩) (hg9.block _ hO8 (fun e => hneG _ e.symm rfl))).trans hHeld.1
          have q2 : w9.cell? ⟨wr.heap.size, 0, none⟩ = some (.bool (sg x)) := (World.cell?_of_block (w := w8) (a := ⟨wr.heap.size, 0, none⟩) (hg9.block _ hbx8 (fun e => hneb _ e.symm rfl))).trans hHeld.2.1
          have q3 : w9.cell? ⟨wr.heap.size, 1, none⟩ = some (.slice a3 (mg x).length d3) := (World.cell?_of_block (w := w8) (a := ⟨wr.heap.size, 1, none⟩) (hg9.block _ hbx8 (fun e => hneb _ e.symm rfl))).trans hHeld.2.2
          have q4 : w9.frozen? ⟨w.heap.size, i, none⟩ = false := (World.frozen?_of_block (w := w8) (a := ⟨w.heap.size, i, none⟩) (hg9.block _ hO8 (fun e => hneG _ e.symm rfl))).trans (hC8.outer.frozen i)
          clear hHeld
          refine hKK.out _ _ ⟨q1, q2, q3⟩ (fun hHeld => ?_)
          clear hKK K
          try simp only [Act.put, List.setIfInBounds_toArray, List.set_cons_zero, List.set_cons_succ]
          clear hpart hg9 hown9 hown hLs hC8 hC2 hneb hneG hw8 hB8 hr8 hr7 hat9
          refine next_T (i := 10) rfl (by kernel_rfl) (fun K hKK => ?_)
          go_simp
          refine hKK.out _ _ ⟨q1, q2, q3⟩ (fun hHeld => ?_)
          clear hKK K
          try simp only [Act.put, List.setIfInBounds_toArray, List.set_cons_zero, List.set_cons_succ]
          refine last_T (t := 11) rfl (by kernel_rfl) (by kernel_rfl) (fun K hKK => ?_)
          go_simp
          refine hKK.out _ _ ?_
          clear hKK K hHeld q1 q2 q3 q4 hbO hbN hb7 hb8 hbx8 hO8 hG8 hbD hcO1 hfO
          go_wp2_with fail
          go_roundw
          case rel =>
            first
              | exact ⟨j + 1, _, by omega, by go_num, hnx⟩
              | ((repeat apply Exists.intro); exact ⟨⟨j + 1, _, by omega, by go_num, hnx⟩, rfl⟩)
          case measure => simp [intOf]; omega
        · obtain rfl : j = m := by omega
          have hnx : Hid (∃ R' C', Cp w wr w.heap.size n j M (i + 1) 0 (.slice none 0 0) R' C') := by
            obtain ⟨R2, C2, hC2⟩ := hCj.out
            exact hC2.row hm1
          clear hCj
          go_wp2_with fail
          go_roundw
          case rel => exact ⟨i + 1, by omega, by go_num, hnx⟩
          case measure => simp [intOf]; omega
    · obtain rfl : i = n := by omega
      have hfin : Hid (∃ R', MatZ wr w.heap.size i m R' M ∧ (∀ p, p < i → w.heap.size ≤ R' p) ∧ Below w.heap.size w wr) := by
        obtain ⟨R1, C1, hC1⟩ := hC.out
        exact ⟨R1, hC1.mat, fun p hp => (hC1.types p hp).1, hC1.below⟩
      clear hC
      go_wp2_with fail
      go_ret
      obtain ⟨R1, h1, h2, h3⟩ := hfin.out
      exact ⟨w.heap.size, i, R1, rfl, h1, Nat.le_refl _, h2, h3⟩
end Go.Proofs.YtfpcfcegdjlggaaGreat
namespace Go.Proofs.YtfpcfcegdjlggaaGreat
open Go.RowKit

theorem infoN : (Tryz.prog.info? 3).map (fun i => (i.zero, i.size, i.bytes)) = some (some (.int .i64 0), 1, 8) := by kernel_rfl

/-- The first n numbers of xs, as cells. -/
def flatI (xs : Nat → Nat) (n : Nat) : List Value := (List.range n).map fun p => .int .i64 (xs p : Int)
theorem flatI_succ (xs : Nat → Nat) (n : Nat) : flatI xs (n + 1) = flatI xs n ++ [.int .i64 (xs n : Int)] := by simp [flatI, List.range_succ]
theorem flatI_get (xs : Nat → Nat) (n p : Nat) (h : p < n) : (flatI xs n)[p]? = some (.int .i64 (xs p : Int)) := by simp [flatI, h]
theorem flatI_congr {xs ys : Nat → Nat} {n : Nat} (h : ∀ p, p < n → xs p = ys p) : flatI xs n = flatI ys n := by
  unfold flatI
  refine List.map_congr_left fun p hp => ?_
  rw [h p (List.mem_range.1 hp)]

/-- A list of numbers that is being built. -/
def NumB (w : World) (B : Nat) (v : Value) (n : Nat) (xs : Nat → Nat) : Prop := w.ownsRow B 3 1 v n (flatI xs n)

/-- A list of numbers that is read. -/
structure RdN (w : World) (b n : Nat) (xs : Nat → Nat) : Prop where
  c : ∀ p, p < n → w.cell? ⟨b, p, none⟩ = some (.int .i64 (xs p : Int))
  lt : b < w.heap.size

theorem RdN.below {w w' : World} {b n : Nat} {xs : Nat → Nat} (h : RdN w b n xs) (hb : Below w.heap.size w w') : RdN w' b n xs :=
  ⟨fun p hp => (hb.cell (p := ⟨b, p, none⟩) h.lt).trans (h.c p hp), Nat.lt_of_lt_of_le h.lt hb.size⟩

theorem NumB.done {w : World} {B n : Nat} {v : Value} {xs : Nat → Nat} (h : NumB w B v n xs) (hn : 0 < n) : ∃ g cap, v = .slice (some ⟨g, 0, none⟩) n cap ∧ RdN w g n xs := by
  rcases h.2 with ⟨_, h0⟩ | ⟨g, cap, cur, hv, hb, hg, hnc, hcm, _, ht⟩
  · omega
  · have key : ∀ i, i < n → cur[i]? = (flatI xs n)[i]? := fun i hi => by
      rw [← ht, List.getElem?_take, if_pos (by omega)]; simp
    refine ⟨g, cap, hv, fun p hp => ?_, (Array.getElem?_eq_some_iff.1 hg).1⟩
    rw [cell_of_row _ _ _ _ _ (0, 0) hg, key p hp, flatI_get xs n p hp]

theorem NumB.moved {w w' : World} {B n : Nat} {v : Value} {xs : Nat → Nat} (h : NumB w B v n xs) (hb : Below w.heap.size w w') : NumB w' B v n xs := ownsRow_below h hb
theorem NumB.congr {w : World} {B n : Nat} {v : Value} {xs ys : Nat → Nat} (h : NumB w B v n xs) (he : ∀ p, p < n → xs p = ys p) : NumB w B v n ys := by
  unfold NumB; rw [← flatI_congr he]; exact h

/-- Below, behind an append to a row of the call's own. -/
theorem below_app {w0 w w' : World} {n s : Nat} {t : TypeId} {v : Value} {xs : List Value} (h : Below w0.heap.size w0 w) (hown : w.ownsRow w0.heap.size t s v n xs) (hg : w.grownBy w' v.ownBlock) : Below w0.heap.size w0 w' :=
  h.grown hg h.size (fun k hk => (hown.lt k hk).1)

section
variable {w : World} {ops : Array Oper} {rest : List Oper} {o : Oper} {a : Act} {Q : Exit → Act → World → Prop}

/-- append of one number. -/
theorem app_num (hgd : o.guard = none) (s x : Operand) (ho : o.op = .call { callee := .builtin .append, args := #[s, x], argTypes := #[156, 156] })
    (B : Nat) (v : Value) (n : Nat) (xs : Nat → Nat) (hs : a.eval s = v) (hown : NumB w B v n xs) (h : Nat) (c : Nat) (hx : a.eval x = .slice (some ⟨h, 0, none⟩) 1 c) (y : Nat) (hc : w.cell? ⟨h, 0, none⟩ = some (.int .i64 (y : Int)))
    (hn : n ≤ 1000) (hb : B ≤ w.heap.size)
    (K : ∀ g cap w', NumB w' B (.slice (some ⟨g, 0, none⟩) (n + 1) cap) (n + 1) (fun p => if p = n then y else xs p) → w.grownBy w' v.ownBlock → (v.ownBlock = some g ∨ g = w.heap.size) → g < w'.heap.size → wpList Tryz.prog ops Q rest (a.put o.dst (.slice (some ⟨g, 0, none⟩) (n + 1) cap)) w') :
    wpList Tryz.prog ops Q (o :: rest) a w := by
  obtain ⟨i0, hi, hz0, hz1, hz2⟩ := info_parts infoN
  refine wpList_append_lies w hgd s x 156 ho B 3 i0 (.int .i64 0) 1 8 Tryz.underlying156 hi hz0 hz1 hz2 rfl (by decide) v n (flatI xs n) hs hown ⟨h, 0, none⟩ 1 c [.int .i64 (y : Int)] hx rfl ?_ ?_ (by decide) (by unfold maxLen; omega) (by omega) hb _ rfl ?_
  · intro j u hj
    obtain rfl : j = 0 := by
      have := (List.getElem?_eq_some_iff.1 hj).1
      simpa using this
    have e : u = .int .i64 (y : Int) := by simpa using hj.symm
    rw [e]; exact hc
  · intro u hu
    simp only [List.mem_singleton] at hu
    rw [hu]; rfl
  · intro g cap w' h1 h2 h3 h4
    refine K g cap w' ?_ h2 h3 h4
    unfold NumB
    rw [flatI_succ, if_pos rfl, flatI_congr (ys := xs) fun p hp => if_neg (by omega)]
    exact h1

/-- append of one Int. -/
theorem app_Z (hgd : o.guard = none) (s x : Operand) (ho : o.op = .call { callee := .builtin .append, args := #[s, x], argTypes := #[119, 119] })
    (B : Nat) (v : Value) (n : Nat) (f : Nat → Int) (hs : a.eval s = v) (hown : RowB w B v n f) (h : Nat) (c : Nat) (hx : a.eval x = .slice (some ⟨h, 0, none⟩) 1 c) (y : Int) (ya : Option Addr) (yc : Nat)
    (hc0 : w.cell? ⟨h, 0, none⟩ = some (.bool (sg y))) (hc1 : w.cell? ⟨h, 1, none⟩ = some (.slice ya (mg y).length yc)) (hL : Lm w ya yc (mg y))
    (hn : n ≤ 1000) (hb : B ≤ w.heap.size)
    (K : ∀ g cap w', RowB w' B (.slice (some ⟨g, 0, none⟩) (n + 1) cap) (n + 1) (fun p => if p = n then y else f p) → w.grownBy w' v.ownBlock → (v.ownBlock = some g ∨ g = w.heap.size) → g < w'.heap.size → wpList Tryz.prog ops Q rest (a.put o.dst (.slice (some ⟨g, 0, none⟩) (n + 1) cap)) w') :
    wpList Tryz.prog ops Q (o :: rest) a w := by
  obtain ⟨i0, hi, hz0, hz1, hz2⟩ := info_parts infoZ
  obtain ⟨A, C, hown, hA⟩ := hown
  refine wpList_append_lies w hgd s x 119 ho B 51 i0 (.agg #[.bool false, .slice none 0 0]) 2 32 Tryz.underlying119 hi hz0 hz1 hz2 rfl (by decide) v n (flatZ f A C n) hs hown ⟨h, 0, none⟩ 1 c [.bool (sg y), .slice ya (mg y).length yc] hx rfl ?_ ?_ (by decide) (by unfold maxLen; omega) (by omega) hb _ rfl ?_
  · intro j u hj
    rcases (by
      have := (List.getElem?_eq_some_iff.1 hj).1
      simp at this
      omega : j = 0 ∨ j = 1) with rfl | rfl
    · have e : u = .bool (sg y) := by simpa using hj.symm
      rw [e]; exact hc0
    · have e : u = .slice ya (mg y).length yc := by simpa using hj.symm
      rw [e]; exact hc1
  · intro u hu
    simp only [List.mem_cons, List.not_mem_nil, or_false] at hu
    rcases hu with rfl | rfl <;> rfl
  · intro g cap w' h1 h2 h3 h4
    refine K g cap w' ?_ h2 h3 h4
    have e : flatZ f A C n = flatZ (fun p => if p = n then y else f p) A C n := flatZ_congr fun i hi => ⟨(if_neg (by omega)).symm, rfl, rfl⟩
    refine RowB.next (f := fun p => if p = n then y else f p) (A := A) (C := C) (a := ya) (c := yc) (by rw [← e]; exact hown) (fun q hq => ?_) ?_ ?_ h2
    · show Lm w (A q) (C q) (mg (if q = n then y else f q))
      rw [if_neg (by omega)]; exact hA q hq
    · show Lm w ya yc (mg (if n = n then y else f n))
      rw [if_pos rfl]; exact hL
    · show w'.ownsRow B 51 2 _ (n + 1) (flatZ (fun p => if p = n then y else f p) A C n ++ [.bool (sg (if n = n then y else f n)), .slice ya (mg (if n = n then y else f n)).length yc])
      rw [if_pos rfl, ← e]; exact h1
end
end Go.Proofs.YtfpcfcegdjlggaaGreat
namespace Go.Proofs.YtfpcfcegdjlggaaGreat
open Go.RowKit

/-- The numbers 0 .. k-1, and one more behind. -/
def firstN (k more : Nat) (p : Nat) : Nat := if p = k then more else p

set_option maxRecDepth 100000 in
set_option maxHeartbeats 2000000 in
theorem rfirst_any (k more : Nat) (w : World) (hk : k ≤ 100) :
    Calls Tryz.prog 120 #[.int .i64 (k : Int), .int .i64 (more : Int)] w fun e w' => ∃ g cap, e = .returned (.slice (some ⟨g, 0, none⟩) (k + 1) cap) ∧ RdN w' g (k + 1) (firstN k more) ∧ Below w.heap.size w w' := by
  go_enter Tryz.func120, Tryz.ntmps120
  go_wp2_with fail
  go_loopw [5, 6] (fun vv ii wr => ∃ i : Nat, i ≤ k ∧ ii = .int .i64 (i : Int) ∧ Hid (NumB wr w.heap.size vv i (fun p => p)) ∧ Hid (Below w.heap.size w wr)) (fun _ ii _ => k - (intOf ii).toNat)
  case atStart => exact ⟨0, by omega, rfl, World.ownsRow_nil _ _ _ _, Below.refl _ _⟩
  case round =>
    obtain ⟨i, hik, rfl, hN, hB⟩ := hrel
    by_cases hi : i < k
    · obtain ⟨W, hW⟩ : ∃ W, W = wr.alloc (.cells #[.int .i64 (i : Int)] 3) := ⟨_, rfl⟩
      have hbW : Below wr.heap.size wr W := by rw [hW]; exact (Below.refl _ _).alloc (Nat.le_refl _) _
      have hNW : Hid (NumB W w.heap.size u5 i (fun p => p)) := hN.out.moved hbW
      have hBW : Hid (Below w.heap.size w W) := hB.out.trans (hbW.mono hB.out.size)
      have hcW : Hid (W.cell? ⟨wr.heap.size, 0, none⟩ = some (.int .i64 (i : Int))) := by unfold Hid; rw [hW]; simp [go_sem]
      have hWW : Hid (wr.alloc (.cells #[.int .i64 (i : Int)] 3) = W) := hW.symm
      clear hW hbW
      go_wp2_with (at_builtin; rw [hWW.out]; refine app_num rfl _ _ rfl w.heap.size _ i (fun p => p) rfl hNW.out wr.heap.size _ rfl i hcW.out (by omega) hBW.out.size ?_)
      intro g cap w3 h1 h2 h3 h4
      have hb3 : Hid (Below w.heap.size w w3) := below_app hBW.out hNW.out h2
      have hn3 : Hid (NumB w3 w.heap.size (.slice (some ⟨g, 0, none⟩) (i + 1) cap) (i + 1) (fun p => p)) := NumB.congr h1 fun p hp => by
        by_cases e : p = i
        · rw [if_pos e, e]
        · rw [if_neg e]
      clear h1 h2 h3 h4
      go_wp2_with fail
      go_roundw
      case rel => exact ⟨i + 1, by omega, by go_num, hn3, hb3⟩
      case measure => simp [intOf]; omega
    · obtain rfl : i = k := by omega
      obtain ⟨W, hW⟩ : ∃ W, W = wr.alloc (.cells #[.int .i64 (more : Int)] 3) := ⟨_, rfl⟩
      have hbW : Below wr.heap.size wr W := by rw [hW]; exact (Below.refl _ _).alloc (Nat.le_refl _) _
      have hNW : Hid (NumB W w.heap.size u5 i (fun p => p)) := hN.out.moved hbW
      have hBW : Hid (Below w.heap.size w W) := hB.out.trans (hbW.mono hB.out.size)
      have hcW : Hid (W.cell? ⟨wr.heap.size, 0, none⟩ = some (.int .i64 (more : Int))) := by unfold Hid; rw [hW]; simp [go_sem]
      have hWW : Hid (wr.alloc (.cells #[.int .i64 (more : Int)] 3) = W) := hW.symm
      clear hW hbW
      go_wp2_with (at_builtin; rw [hWW.out]; refine app_num rfl _ _ rfl w.heap.size _ i (fun p => p) rfl hNW.out wr.heap.size _ rfl more hcW.out (by omega) hBW.out.size ?_)
      intro g cap w3 h1 h2 h3 h4
      have hb3 : Hid (Below w.heap.size w w3) := below_app hBW.out hNW.out h2
      obtain ⟨g', cap', he, hr⟩ := NumB.done h1 (by omega)
      simp only [Value.slice.injEq, Option.some.injEq, Addr.mk.injEq, and_true, true_and] at he
      obtain ⟨rfl, rfl⟩ := he
      have hr3 := Lib.hid hr
      clear h1 h2 h3 h4 hr
      go_wp2_with fail
      go_ret
      exact ⟨g, cap, rfl, ⟨fun p hp => hr3.out.c p hp, hr3.out.lt⟩, hb3.out⟩
end Go.Proofs.YtfpcfcegdjlggaaGreat
namespace Go.Proofs.YtfpcfcegdjlggaaGreat
open Go.RowKit

/-- The cells of the first n rows. -/
def flatR (R C : Nat → Nat) (m n : Nat) : List Value := (List.range n).map fun p => .slice (some ⟨R p, 0, none⟩) m (C p)
theorem flatR_succ (R C : Nat → Nat) (m n : Nat) : flatR R C m (n + 1) = flatR R C m n ++ [.slice (some ⟨R n, 0, none⟩) m (C n)] := by simp [flatR, List.range_succ]
theorem flatR_get (R C : Nat → Nat) (m n p : Nat) (h : p < n) : (flatR R C m n)[p]? = some (.slice (some ⟨R p, 0, none⟩) m (C p)) := by simp [flatR, h]
theorem flatR_congr {R R' C C' : Nat → Nat} {m n : Nat} (h : ∀ p, p < n → R p = R' p ∧ C p = C' p) : flatR R C m n = flatR R' C' m n := by
  unfold flatR
  refine List.map_congr_left fun p hp => ?_
  rw [(h p (List.mem_range.1 hp)).1, (h p (List.mem_range.1 hp)).2]

/-- A matrix that is built by append of its rows: v holds the first i. -/
structure Sl (w0 w : World) (v : Value) (i m : Nat) (M : Nat → Nat → Int) (R C : Nat → Nat) : Prop where
  outer : w.ownsRow w0.heap.size 119 1 v i (flatR R C m i)
  rows : ∀ p, p < i → RowZ w (R p) m (M p)
  types : ∀ p, p < i → w0.heap.size ≤ R p ∧ ∃ cur, w.heap[R p]? = some (.cells cur 51 (0, 0))
  inj : ∀ p q, p < i → q < i → R p = R q → p = q
  below : Below w0.heap.size w0 w

theorem Sl.nil (w : World) (m : Nat) (M : Nat → Nat → Int) : Sl w w (.slice none 0 0) 0 m M (fun _ => 0) (fun _ => 0) :=
  ⟨World.ownsRow_nil _ _ _ _, fun p hp => by omega, fun p hp => by omega, fun p q hp => by omega, Below.refl _ _⟩

theorem Sl.moved {w0 w w' : World} {v : Value} {i m : Nat} {M : Nat → Nat → Int} {R C : Nat → Nat} (h : Sl w0 w v i m M R C) (hb : Below w.heap.size w w') : Sl w0 w' v i m M R C := by
  refine ⟨ownsRow_below h.outer hb, fun p hp => (h.rows p hp).belowU hb, fun p hp => ?_, h.inj, h.below.trans (hb.mono h.below.size)⟩
  obtain ⟨h1, cur, h2⟩ := h.types p hp
  exact ⟨h1, cur, (hb.block _ (h.rows p hp).lt).trans h2⟩

/-- An append to another row of Ints. -/
theorem Sl.grownRow {w0 w w1 : World} {v u : Value} {i m j : Nat} {M : Nat → Nat → Int} {R C : Nat → Nat} {f : Nat → Int} (h : Sl w0 w v i m M R C) (hu : RowB w w0.heap.size u j f) (hfar : ∀ p, p < i → u.ownBlock ≠ some (R p)) (hg : w.grownBy w1 u.ownBlock) : Sl w0 w1 v i m M R C := by
  have hr : ∀ k, u.ownBlock = some k → ∃ cur t, w.heap[k]? = some (.cells cur t (0, 0)) ∧ t ≠ 87 := fun k hk => by
    obtain ⟨_, cur, hc⟩ := hu.type k hk
    exact ⟨cur, _, hc, by decide⟩
  refine ⟨ownsRow_of_heap h.outer fun k hk => hg.block k (h.outer.lt k hk).2 fun e => ?_, fun p hp => (h.rows p hp).grown hg (hfar p hp) hr, fun p hp => ?_, h.inj, h.below.grown hg h.below.size (fun k hk => (hu.type k hk).1)⟩
  · obtain ⟨_, cur, hc⟩ := ownsRow_type h.outer k hk
    obtain ⟨_, cur', hc'⟩ := hu.type k e.symm
    exact ne_of_types hc hc' (by decide) rfl
  · obtain ⟨h1, cur, h2⟩ := h.types p hp
    exact ⟨h1, cur, (hg.block _ (h.rows p hp).lt (fun e => hfar p hp e.symm)).trans h2⟩

/-- One row more. -/
theorem Sl.push {w0 w w1 : World} {v v' : Value} {i m g cap : Nat} {M : Nat → Nat → Int} {R C : Nat → Nat} (h : Sl w0 w v i m M R C) (hm : 0 < m) (hu : RowB w w0.heap.size (.slice (some ⟨g, 0, none⟩) m cap) m (M i)) (hfar : ∀ p, p < i → g ≠ R p)
    (hown : w1.ownsRow w0.heap.size 119 1 v' (i + 1) (flatR R C m i ++ [.slice (some ⟨g, 0, none⟩) m cap])) (hg : w.grownBy w1 v.ownBlock) : ∃ R' C', Sl w0 w1 v' (i + 1) m M R' C' := by
  have hr : ∀ k, v.ownBlock = some k → ∃ cur t, w.heap[k]? = some (.cells cur t (0, 0)) ∧ t ≠ 87 := fun k hk => by
    obtain ⟨_, cur, hc⟩ := ownsRow_type h.outer k hk
    exact ⟨cur, _, hc, by decide⟩
  have hne : ∀ b cur, w.heap[b]? = some (.cells cur 51 (0, 0)) → v.ownBlock ≠ some b := fun b cur hb e => by
    obtain ⟨_, cur', hc'⟩ := ownsRow_type h.outer b e
    exact ne_of_types hb hc' (by decide) rfl
  obtain ⟨g', cap', he, hb, hrow, cur, hc⟩ := hu.done hm
  simp only [Value.slice.injEq, Option.some.injEq, Addr.mk.injEq, and_true, true_and] at he
  obtain ⟨rfl, rfl⟩ := he
  refine ⟨fun p => if p = i then g else R p, fun p => if p = i then cap else C p, ?_, fun p hp => ?_, fun p hp => ?_, fun p q hp hq e => ?_, h.below.grown hg h.below.size (fun k hk => (h.outer.lt k hk).1)⟩
  · rw [flatR_succ, if_pos rfl, if_pos rfl, flatR_congr (R' := R) (C' := C) fun p hp => ⟨if_neg (by omega), if_neg (by omega)⟩]
    exact hown
  · show RowZ w1 (if p = i then g else R p) m (M p)
    by_cases e : p = i
    · rw [if_pos e, e]; exact hrow.grown hg (hne g cur hc) hr
    · rw [if_neg e]
      obtain ⟨_, cur', h2⟩ := h.types p (by omega)
      exact (h.rows p (by omega)).grown hg (hne _ cur' h2) hr
  · show w0.heap.size ≤ (if p = i then g else R p) ∧ ∃ cur, w1.heap[if p = i then g else R p]? = _
    by_cases e : p = i
    · rw [if_pos e]; exact ⟨hb, cur, (hg.block g hrow.lt (fun e => hne g cur hc e.symm)).trans hc⟩
    · rw [if_neg e]
      obtain ⟨h1, cur', h2⟩ := h.types p (by omega)
      exact ⟨h1, cur', (hg.block _ (h.rows p (by omega)).lt (fun e => hne _ cur' h2 e.symm)).trans h2⟩
  · try simp only at e
    by_cases e1 : p = i
    · by_cases e2 : q = i
      · omega
      · rw [if_pos e1, if_neg e2] at e
        exact absurd e (hfar q (by omega))
    · by_cases e2 : q = i
      · rw [if_neg e1, if_pos e2] at e
        exact absurd e.symm (hfar p (by omega))
      · rw [if_neg e1, if_neg e2] at e
        exact h.inj p q (by omega) (by omega) e

/-- The matrix is whole. -/
theorem Sl.mat {w0 w : World} {v : Value} {n m : Nat} {M : Nat → Nat → Int} {R C : Nat → Nat} (h : Sl w0 w v n m M R C) (hn : 0 < n) : ∃ g cap, v = .slice (some ⟨g, 0, none⟩) n cap ∧ MatZ w g n m R M ∧ w0.heap.size ≤ g := by
  rcases h.outer.2 with ⟨_, h0⟩ | ⟨g, cap, cur, hv, hb, hg, hnc, hcm, _, ht⟩
  · omega
  · have key : ∀ i, i < n → cur[i]? = (flatR R C m n)[i]? := fun i hi => by
      rw [← ht, List.getElem?_take, if_pos (by omega)]; simp
    refine ⟨g, cap, hv, ⟨fun i hi => ⟨C i, ?_⟩, fun k => frozen_of_row _ _ _ _ _ hg, h.rows, fun p q hp hq => h.inj p q hp hq, fun i hi => ?_, (Array.getElem?_eq_some_iff.1 hg).1⟩, hb⟩
    · rw [cell_of_row _ _ _ _ _ (0, 0) hg, key i hi, flatR_get R C m n i hi]
    · obtain ⟨_, cur', hc⟩ := h.types i hi
      exact ne_of_types hc hg (by decide)

/-- append of one row. -/
theorem app_R {w : World} {ops : Array Oper} {rest : List Oper} {o : Oper} {a : Act} {Q : Exit → Act → World → Prop} (hgd : o.guard = none) (s x : Operand) (ho : o.op = .call { callee := .builtin .append, args := #[s, x], argTypes := #[55, 55] })
    (B : Nat) (v : Value) (n : Nat) (zs : List Value) (hs : a.eval s = v) (hown : w.ownsRow B 119 1 v n zs) (h : Nat) (c : Nat) (hx : a.eval x = .slice (some ⟨h, 0, none⟩) 1 c) (ra : Option Addr) (rn rc : Nat) (hc : w.cell? ⟨h, 0, none⟩ = some (.slice ra rn rc))
    (hn : n ≤ 1000) (hb : B ≤ w.heap.size)
    (K : ∀ g cap w', w'.ownsRow B 119 1 (.slice (some ⟨g, 0, none⟩) (n + 1) cap) (n + 1) (zs ++ [.slice ra rn rc]) → w.grownBy w' v.ownBlock → wpList Tryz.prog ops Q rest (a.put o.dst (.slice (some ⟨g, 0, none⟩) (n + 1) cap)) w') :
    wpList Tryz.prog ops Q (o :: rest) a w := by
  obtain ⟨i0, hi, hz0, hz1, hz2⟩ := info_parts infoRZ
  refine wpList_append_lies w hgd s x 55 ho B 119 i0 (.slice none 0 0) 1 24 Tryz.underlying55 hi hz0 hz1 hz2 rfl (by decide) v n zs hs hown ⟨h, 0, none⟩ 1 c [.slice ra rn rc] hx rfl ?_ ?_ (by decide) (by unfold maxLen; omega) (by omega) hb _ rfl ?_
  · intro j u hj
    obtain rfl : j = 0 := by
      have := (List.getElem?_eq_some_iff.1 hj).1
      simpa using this
    have e : u = .slice ra rn rc := by simpa using hj.symm
    rw [e]; exact hc
  · intro u hu
    simp only [List.mem_singleton] at hu
    rw [hu]; rfl
  · intro g cap w' h1 h2 _ _
    exact K g cap w' h1 h2

set_option maxRecDepth 100000 in
set_option maxHeartbeats 4000000 in
theorem rselect_any (g n m cap : Nat) (R : Nat → Nat) (M : Nat → Nat → Int) (ba na ca bb nb cb : Nat) (xs ys : Nat → Nat) (w : World) (hM : MatZ w g n m R M) (hra : RdN w ba na xs) (hrb : RdN w bb nb ys) (hxs : ∀ p, p < na → xs p < n) (hys : ∀ q, q < nb → ys q < m)
    (h1 : 1 ≤ na) (h2 : na ≤ 100) (h3 : 1 ≤ nb) (h4 : nb ≤ 100) (_hn : n ≤ 1000) (_hm : m ≤ 1000) :
    Calls Tryz.prog 119 #[.slice (some ⟨g, 0, none⟩) n cap, .slice (some ⟨ba, 0, none⟩) na ca, .slice (some ⟨bb, 0, none⟩) nb cb] w (GivesMat w na nb (fun p q => M (xs p) (ys q))) := by
  have HM := Lib.hid hM
  have HA := Lib.hid hra
  have HB := Lib.hid hrb
  have HXS := Lib.hid hxs
  have HYS := Lib.hid hys
  clear hM hra hrb hxs hys
  go_enter Tryz.func119, Tryz.ntmps119
  go_wp2_with fail
  go_loopw [7, 15] (fun vv ii wr => ∃ (i : Nat), i ≤ na ∧ ii = .int .i64 (i : Int) ∧ Hid (∃ R' C', Sl w wr vv i nb (fun p q => M (xs p) (ys q)) R' C')) (fun _ ii _ => na - (intOf ii).toNat)
  case atStart => exact ⟨0, by omega, rfl, _, _, Sl.nil _ _ _⟩
  case round =>
    obtain ⟨i, hin, rfl, hS⟩ := hrel
    by_cases hlt : i < na
    · have hbR : Hid (Below w.heap.size w wr) := by obtain ⟨_, _, h⟩ := hS.out; exact h.below
      have hci := (HA.out.below hbR.out).c i hlt
      have hxi := HXS.out i hlt
      obtain ⟨p, hp⟩ : ∃ p, p = xs i := ⟨_, rfl⟩
      rw [← hp] at hci hxi
      have HP := Lib.hid hp
      clear hp
      go_wp2_with fail
      go_loopw [10, 21] (fun uu jj wq => ∃ (j : Nat), j ≤ nb ∧ jj = .int .i64 (j : Int) ∧ Hid (∃ R' C', Sl w wq u7 i nb (fun p q => M (xs p) (ys q)) R' C' ∧ RowB wq w.heap.size uu j (fun q => M p (ys q)) ∧ ∀ p, p < i → uu.ownBlock ≠ some (R' p))) (fun _ jj _ => nb - (intOf jj).toNat)
      case atStart =>
        obtain ⟨R', C', h⟩ := hS.out
        exact ⟨0, by omega, rfl, R', C', h, RowB.nil _ _ _, fun p _ => by simp [Value.ownBlock]⟩
      case round =>
        obtain ⟨j, hjn, rfl, hS2⟩ := hrel
        clear hS hci hbR
        have hbR : Hid (Below w.heap.size w wr) := by obtain ⟨_, _, h, _⟩ := hS2.out; exact h.below
        by_cases hj : j < nb
        · have hcj := (HB.out.below hbR.out).c j hj
          have hyj := HYS.out j hj
          obtain ⟨q, hq⟩ : ∃ q, q = ys j := ⟨_, rfl⟩
          rw [← hq] at hcj hyj
          obtain ⟨c3, a3, d3, o3, x3, y3, r3⟩ := (HM.out.below hbR.out).entry p q hxi hyj
          obtain ⟨x, hx⟩ : ∃ x, x = M p q := ⟨_, rfl⟩
          rw [← hx] at x3 y3 r3
          have HX : Hid (x = M p (ys j)) := by unfold Hid; rw [hx, hq]
          obtain ⟨W, hW⟩ : ∃ W, W = wr.alloc (.cells #[.bool (sg x), .slice a3 (mg x).length d3] 51) := ⟨_, rfl⟩
          have hbW : Below wr.heap.size wr W := by rw [hW]; exact (Below.refl _ _).alloc (Nat.le_refl _) _
          have hBx : Box wr.heap.size (.bool (sg x)) (.slice a3 (mg x).length d3) W := by rw [hW]; exact Box.made _ _ rfl _ _ _
          have hSW : Hid (∃ R' C', Sl w W u7 i nb (fun p q => M (xs p) (ys q)) R' C' ∧ RowB W w.heap.size u10 j (fun q => M p (ys q)) ∧ ∀ p, p < i → u10.ownBlock ≠ some (R' p)) := by
            obtain ⟨R', C', q1, q2, q3⟩ := hS2.out
            exact ⟨R', C', q1.moved hbW, q2.moved hbW, q3⟩
          have hRB : Hid (RowB W w.heap.size u10 j (fun q => M p (ys q))) := by obtain ⟨_, _, _, h, _⟩ := hSW.out; exact h
          have hc0 := Lib.hid hBx.c0
          have hc1 := Lib.hid hBx.c1
          have hL := Lib.hid (r3.below hbW)
          have hsz : w.heap.size ≤ W.heap.size := by have h1 := hbR.out.size; have h2 := hbW.size; omega
          have hWW : Hid (wr.alloc (.cells #[.bool (sg x), .slice a3 (mg x).length d3] 51) = W) := hW.symm
          clear hW hbW hBx r3 hS2 hx hq
          go_wp2_with (at_builtin; rw [hWW.out]; refine app_Z rfl _ _ rfl w.heap.size _ j (fun q => M p (ys q)) rfl hRB.out wr.heap.size _ rfl x a3 d3 hc0.out hc1.out hL.out (by omega) hsz ?_)
          intro g9 cap9 w9 q1 q2 q3 q4
          have hnx : Hid (∃ R' C', Sl w w9 u7 i nb (fun p q => M (xs p) (ys q)) R' C' ∧ RowB w9 w.heap.size (.slice (some ⟨g9, 0, none⟩) (j + 1) cap9) (j + 1) (fun q => M p (ys q)) ∧ ∀ p, p < i → (Value.slice (some ⟨g9, 0, none⟩) (j + 1) cap9).ownBlock ≠ some (R' p)) := by
            obtain ⟨R', C', s1, s2, s3⟩ := hSW.out
            refine ⟨R', C', s1.grownRow s2 s3 q2, q1.congr fun t ht => ?_, fun t ht e => ?_⟩
            · by_cases e : t = j
              · rw [if_pos e, e, HX.out]
              · rw [if_neg e]
            · simp only [Value.ownBlock, Option.some.injEq] at e
              rcases q3 with e2 | e2
              · exact s3 t ht (by rw [e2, e])
              · have := (s1.rows t ht).lt
                omega
          clear q1 q2 q3 q4 hSW hRB hc0 hc1 hL o3 x3 y3 hcj
          go_wp2_with fail
          go_roundw
          case rel => exact ⟨j + 1, by omega, by go_num, hnx⟩
          case measure => simp [intOf]; omega
        · obtain rfl : j = nb := by omega
          obtain ⟨g5, cap5, hv5⟩ : ∃ g cap, u10 = .slice (some ⟨g, 0, none⟩) j cap := by
            obtain ⟨_, _, _, h, _⟩ := hS2.out
            obtain ⟨g, cap, e, _⟩ := h.done h3
            exact ⟨g, cap, e⟩
          subst hv5
          obtain ⟨W, hW⟩ : ∃ W, W = wr.alloc (.cells #[.slice (some ⟨g5, 0, none⟩) j cap5] 119) := ⟨_, rfl⟩
          have hbW : Below wr.heap.size wr W := by rw [hW]; exact (Below.refl _ _).alloc (Nat.le_refl _) _
          have hcW : Hid (W.cell? ⟨wr.heap.size, 0, none⟩ = some (.slice (some ⟨g5, 0, none⟩) j cap5)) := by unfold Hid; rw [hW]; simp [go_sem]
          obtain ⟨R', C', s1, s2, s3⟩ := hS2.out
          have t1 := s1.moved hbW
          have t2 := s2.moved hbW
          have hsz := t1.below.size
          have ho := Lib.hid t1.outer
          have T1 := Lib.hid t1
          have T2 := Lib.hid t2
          have S3 := Lib.hid s3
          have hWW : Hid (wr.alloc (.cells #[.slice (some ⟨g5, 0, none⟩) j cap5] 119) = W) := hW.symm
          clear hW hbW hS2 s1 s2 s3 t1 t2
          go_wp2_with (at_builtin; rw [hWW.out]; refine app_R rfl _ _ rfl w.heap.size _ i _ rfl ho.out wr.heap.size _ rfl _ _ _ hcW.out (by omega) hsz ?_)
          intro g9 cap9 w9 q1 q2
          have hnx : Hid (∃ R' C', Sl w w9 (.slice (some ⟨g9, 0, none⟩) (i + 1) cap9) (i + 1) j (fun p q => M (xs p) (ys q)) R' C') :=
            T1.out.push h3 (T2.out.congr fun t _ => by rw [HP.out]) (fun t ht e => S3.out t ht (by simp [Value.ownBlock, e])) q1 q2
          clear q1 q2 T1 T2 S3 ho hcW
          go_wp2_with fail
          go_roundw
          case rel => exact ⟨i + 1, by omega, by go_num, hnx⟩
          case measure => simp [intOf]; omega
    · obtain rfl : i = na := by omega
      obtain ⟨R', C', h⟩ := hS.out
      obtain ⟨g5, cap5, hv5, hm5, hg5⟩ := h.mat h1
      subst hv5
      have HM5 := Lib.hid hm5
      have HL : Hid (∀ p, p < i → w.heap.size ≤ R' p) := fun p hp => (h.types p hp).1
      have HB5 := Lib.hid h.below
      clear h hm5 hS
      go_wp2_with fail
      go_ret
      exact ⟨g5, cap5, R', rfl, HM5.out, hg5, HL.out, HB5.out⟩
end Go.Proofs.YtfpcfcegdjlggaaGreat
namespace Go.Proofs.YtfpcfcegdjlggaaGreat
open Go.RowKit Minor

/-- The determinant of the first n rows and columns, as the reference reckons it. -/
def detZ (a : Nat → Nat → Int) (n : Nat) : Int := detP n n 0 a 1 false

/-- The entries behind step k that lie ahead of (i, j) are the new ones. -/
def upd (M : Nat → Nat → Int) (n k : Nat) (last : Int) (i j : Nat) (p q : Nat) : Int :=
  if k < p ∧ k < q ∧ p < n ∧ q < n ∧ (p < i ∨ (p = i ∧ q < j)) then (M k k * M p q - M p k * M k q) / last else M p q

theorem upd_old {M : Nat → Nat → Int} {n k : Nat} {last : Int} {i j p q : Nat} (h : ¬(k < p ∧ k < q ∧ p < n ∧ q < n ∧ (p < i ∨ (p = i ∧ q < j)))) : upd M n k last i j p q = M p q := if_neg h
theorem upd_start (M : Nat → Nat → Int) (n k : Nat) (last : Int) (p q : Nat) : M p q = upd M n k last (k + 1) (k + 1) p q := (upd_old (by omega)).symm
theorem upd_row (M : Nat → Nat → Int) (n k : Nat) (last : Int) (i p q : Nat) (hq : q < n) : upd M n k last i n p q = upd M n k last (i + 1) (k + 1) p q := by
  unfold upd
  by_cases h : k < p ∧ k < q ∧ p < n ∧ q < n ∧ (p < i ∨ (p = i ∧ q < n))
  · rw [if_pos h, if_pos (by omega)]
  · rw [if_neg h, if_neg (by omega)]
theorem upd_next {M : Nat → Nat → Int} {n k : Nat} {last : Int} {i j : Nat} (hi : k < i) (hin : i < n) (hj : k < j) (hjn : j < n) (p q : Nat) :
    (if p = i ∧ q = j then (M k k * M i j - M i k * M k j) / last else upd M n k last i j p q) = upd M n k last i (j + 1) p q := by
  by_cases e : p = i ∧ q = j
  · obtain ⟨rfl, rfl⟩ := e
    rw [if_pos ⟨rfl, rfl⟩]
    unfold upd
    rw [if_pos (by omega)]
  · rw [if_neg e]
    unfold upd
    by_cases h : k < p ∧ k < q ∧ p < n ∧ q < n ∧ (p < i ∨ (p = i ∧ q < j))
    · rw [if_pos h, if_pos (by omega)]
    · rw [if_neg h, if_neg (by omega)]
theorem upd_end (M : Nat → Nat → Int) (n k : Nat) (last : Int) (j p q : Nat) : upd M n k last n j p q = elim M n k last p q := by
  unfold upd elim
  by_cases h : k < p ∧ k < q ∧ p < n ∧ q < n
  · rw [if_pos (by omega), if_pos h]
  · rw [if_neg (by omega), if_neg h]

/-- The memory of the elimination: the matrix, the last pivot, the result's two cells. -/
structure St (w0 w : World) (g L n : Nat) (R : Nat → Nat) (M : Nat → Nat → Int) (z : Int) : Prop where
  mat : MatZ w g n n R M
  rr : ∀ i, i < n → w0.heap.size < R i ∧ R i < L
  gg : w0.heap.size < g ∧ g < L
  last : RowZ w L 1 (fun _ => z)
  res : Box w0.heap.size (.bool false) (.slice none 0 0) w
  below : Below w0.heap.size w0 w

theorem St.moved {w0 w w' : World} {g L n : Nat} {R : Nat → Nat} {M : Nat → Nat → Int} {z : Int} (h : St w0 w g L n R M z) (hb : Below w.heap.size w w') : St w0 w' g L n R M z :=
  ⟨h.mat.below hb, h.rr, h.gg, h.last.belowU hb, h.res.below hb, h.below.trans (hb.mono h.below.size)⟩

theorem St.moved' {w0 w w' : World} {g L n : Nat} {R : Nat → Nat} {M : Nat → Nat → Int} {z : Int} (h : St w0 w g L n R M z) (hb : Below w.heap.size w w') : St w0 w' g L n R M z := h.moved hb

theorem St.congr {w0 w : World} {g L n : Nat} {R : Nat → Nat} {M M' : Nat → Nat → Int} {z : Int} (h : St w0 w g L n R M z) (he : ∀ i j, i < n → j < n → M i j = M' i j) : St w0 w g L n R M' z :=
  ⟨h.mat.congr he, h.rr, h.gg, h.last, h.res, h.below⟩

theorem Box.off {B G o : Nat} {u v : Value} {w : World} (h : Box B u v w) (hne : G ≠ B) (x y : Value) : Box B u v ((w.setCell ⟨G, o, none⟩ x).setCell ⟨G, o + 1, none⟩ y) := by
  obtain ⟨c0, c1, f0, f1, hs⟩ := h
  refine ⟨?_, ?_, ?_, ?_, ?_⟩
  · rw [World.cell?_setCell_other _ _ _ _ (by simp), World.cell?_setCell_other _ _ _ _ (by simp)]; exact c0
  · rw [World.cell?_setCell_other _ _ _ _ (by simp), World.cell?_setCell_other _ _ _ _ (by simp)]; exact c1
  · simp [f0]
  · simp [f1]
  · simpa [World.setCell] using hs

theorem Box.off1 {B : Nat} {u v : Value} {w : World} (h : Box B u v w) {p : Addr} (hne : p.block ≠ B) (x : Value) : Box B u v (w.setCell p x) := by
  obtain ⟨c0, c1, f0, f1, hs⟩ := h
  refine ⟨?_, ?_, ?_, ?_, ?_⟩
  · rw [World.cell?_setCell_other _ _ _ _ (by intro e; rw [e] at hne; exact hne rfl)]; exact c0
  · rw [World.cell?_setCell_other _ _ _ _ (by intro e; rw [e] at hne; exact hne rfl)]; exact c1
  · simp [f0]
  · simp [f1]
  · simpa [World.setCell] using hs

theorem St.store {w0 w : World} {g L n : Nat} {R : Nat → Nat} {M : Nat → Nat → Int} {z : Int} (h : St w0 w g L n R M z) (i j : Nat) (hi : i < n) (hj : j < n) (x : Int) {a : Option Addr} {c : Nat} (hr : Lm w a c (mg x)) :
    St w0 ((w.setCell ⟨R i, j * 2, none⟩ (.bool (sg x))).setCell ⟨R i, j * 2 + 1, none⟩ (.slice a (mg x).length c)) g L n R (fun p q => if p = i ∧ q = j then x else M p q) z := by
  obtain ⟨a0, c0, p1, p2, p3⟩ := (h.mat.row i hi).c j hj
  have h1 := h.rr i hi
  exact ⟨h.mat.store i j hi hj x hr, h.rr, h.gg, h.last.other (by omega) p1 p2 (by simp) (by simp) _ _, h.res.off (by omega) _ _,
    (h.below.setCell (p := ⟨R i, j * 2, none⟩) (by show _ ≤ R i; omega) _).setCell (p := ⟨R i, j * 2 + 1, none⟩) (by show _ ≤ R i; omega) _⟩

theorem St.swapped {w0 w : World} {g L n : Nat} {R : Nat → Nat} {M : Nat → Nat → Int} {z : Int} (h : St w0 w g L n R M z) (p k : Nat) (hp : p < n) (hk : k < n) (hne : p ≠ k) {c c' : Nat} :
    St w0 ((w.setCell ⟨g, p, none⟩ (.slice (some ⟨R k, 0, none⟩) n c)).setCell ⟨g, k, none⟩ (.slice (some ⟨R p, 0, none⟩) n c')) g L n (swapR R p k) (swapRows M p k) z := by
  have h0 := h.gg
  obtain ⟨cp, hcp⟩ := h.mat.outer p hp
  obtain ⟨ck, hck⟩ := h.mat.outer k hk
  have e1 : (w.setCell ⟨g, p, none⟩ (.slice (some ⟨R k, 0, none⟩) n c)).cell? ⟨g, k, none⟩ = some (.slice (some ⟨R k, 0, none⟩) n ck) := by
    rw [World.cell?_setCell_other _ _ _ _ (by simp)]; exact hck
  refine ⟨h.mat.swap p k hp hk hne, fun i hi => by rw [swapR_eq]; exact h.rr _ (swapI_lt hp hk hi), h0, ?_, (h.res.off1 (p := ⟨g, p, none⟩) (by show g ≠ _; omega) _).off1 (p := ⟨g, k, none⟩) (by show g ≠ _; omega) _,
    (h.below.setCell (p := ⟨g, p, none⟩) (by show _ ≤ g; omega) _).setCell (p := ⟨g, k, none⟩) (by show _ ≤ g; omega) _⟩
  refine ⟨fun j hj => ?_, fun x => by simp [h.last.fr x], by simpa [World.setCell] using h.last.lt⟩
  obtain ⟨a, d, q1, q2, q3⟩ := h.last.c j hj
  have n1 : g ≠ L := by omega
  refine ⟨a, d, ?_, ?_, (q3.setO rfl hcp (by simp) _).setO rfl e1 (by simp) _⟩
  · rw [World.cell?_setCell_other _ _ _ _ (by simp), World.cell?_setCell_other _ _ _ _ (by simp)]; exact q1
  · rw [World.cell?_setCell_other _ _ _ _ (by simp), World.cell?_setCell_other _ _ _ _ (by simp)]; exact q2

theorem St.pivot {w0 w : World} {g L n : Nat} {R : Nat → Nat} {M : Nat → Nat → Int} {z : Int} (h : St w0 w g L n R M z) (x : Int) {a : Option Addr} {c : Nat} (hr : Lm w a c (mg x)) :
    St w0 ((w.setCell ⟨L, 0, none⟩ (.bool (sg x))).setCell ⟨L, 1, none⟩ (.slice a (mg x).length c)) g L n R M x := by
  obtain ⟨a0, c0, p1, p2, p3⟩ := h.last.c 0 (by omega)
  have p1' : w.cell? ⟨L, 0, none⟩ = some (.bool (sg z)) := p1
  have p2' : w.cell? ⟨L, 1, none⟩ = some (.slice a0 (mg z).length c0) := p2
  have h0 := h.gg
  have hl : RowZ ((w.setCell ⟨L, 0, none⟩ (.bool (sg x))).setCell ⟨L, 1, none⟩ (.slice a (mg x).length c)) L 1 (fun _ => x) := by
    have := h.last.store 0 (by omega) x hr
    exact this.congr fun j hj => by rw [if_pos (by omega)]
  refine ⟨⟨fun i hi => ?_, fun k => by simp [h.mat.ofr k], fun i hi => (h.mat.row i hi).other (o := 0) (by have := h.rr i hi; omega) p1' p2' (by simp) (by simp) _ _, h.mat.inj, h.mat.apart, by simpa [World.setCell] using h.mat.lt⟩, h.rr, h0, hl, h.res.off (o := 0) (by omega) _ _,
    (h.below.setCell (p := ⟨L, 0, none⟩) (by show _ ≤ L; omega) _).setCell (p := ⟨L, 1, none⟩) (by show _ ≤ L; omega) _⟩
  obtain ⟨c', hc'⟩ := h.mat.outer i hi
  have n1 : L ≠ g := by omega
  refine ⟨c', ?_⟩
  rw [World.cell?_setCell_other _ _ _ _ (by simp), World.cell?_setCell_other _ _ _ _ (by simp)]; exact hc'
end Go.Proofs.YtfpcfcegdjlggaaGreat
namespace Go.Proofs.YtfpcfcegdjlggaaGreat
open Go.RowKit Minor

theorem sign3_zero {z : Int} : (sign3 z == 0) = decide (z = 0) := by
  unfold sign3
  by_cases h : z < 0
  · rw [if_pos h, decide_eq_false (by omega)]; rfl
  · rw [if_neg h]
    by_cases h2 : z = 0
    · rw [if_pos h2, decide_eq_true h2]; rfl
    · rw [if_neg h2, decide_eq_false h2]; rfl

theorem seek_go {M : Nat → Nat → Int} {k n p : Nat} (hp : p < n) (h : M p k = 0) : seek M k (n - p) p = seek M k (n - (p + 1)) (p + 1) := by
  obtain ⟨f, hf⟩ : ∃ f, n - p = f + 1 := ⟨n - p - 1, by omega⟩
  rw [hf, show n - (p + 1) = f from by omega]
  conv => lhs; unfold seek
  rw [if_pos h]
theorem seek_stop {M : Nat → Nat → Int} {k n p : Nat} (hp : p < n) (h : M p k ≠ 0) : seek M k (n - p) p = p := by
  obtain ⟨f, hf⟩ : ∃ f, n - p = f + 1 := ⟨n - p - 1, by omega⟩
  rw [hf]
  unfold seek
  rw [if_neg h]
theorem seek_end {M : Nat → Nat → Int} {k n : Nat} : seek M k (n - n) n = n := by
  rw [Nat.sub_self]; rfl

theorem detP_none {n k : Nat} {M : Nat → Nat → Int} {z : Int} {neg : Bool} (hk : k < n) (h : seek M k (n - k) k = n) : detP n (n - k) k M z neg = 0 := by
  obtain ⟨f, hf⟩ : ∃ f, n - k = f + 1 := ⟨n - k - 1, by omega⟩
  rw [hf]
  unfold detP
  rw [if_pos (by rw [← hf] at *; exact h)]

/-- The matrix behind the exchange of step k, and its sign. -/
def swM (M : Nat → Nat → Int) (p k : Nat) : Nat → Nat → Int := if k < p then swapRows M p k else M
def swN (neg : Bool) (p k : Nat) : Bool := if k < p then !neg else neg

theorem swM_kk (M : Nat → Nat → Int) {p k : Nat} (h : k ≤ p) (j : Nat) : swM M p k k j = M p j := by
  unfold swM
  by_cases e : k < p
  · rw [if_pos e]; unfold swapRows; rw [if_neg (by omega), if_pos rfl]
  · rw [if_neg e, show p = k from by omega]

theorem detP_step {n k p : Nat} {M : Nat → Nat → Int} {z : Int} {neg : Bool} (hk : k < n) (hp : p < n) (h : seek M k (n - k) k = p) (hkp : k ≤ p) :
    detP n (n - k) k M z neg = detP n (n - (k + 1)) (k + 1) (elim (swM M p k) n k z) (swM M p k k k) (swN neg p k) := by
  obtain ⟨f, hf⟩ : ∃ f, n - k = f + 1 := ⟨n - k - 1, by omega⟩
  rw [swM_kk M hkp, hf, show n - (k + 1) = f from by omega]
  rw [hf] at h
  unfold swM swN
  conv => lhs; unfold detP
  rw [hf, h, if_neg (by omega)]
  by_cases e : k < p
  · rw [if_pos e, if_pos e, if_pos e]
  · obtain rfl : p = k := by omega
    rw [if_neg e, if_neg e, if_neg e]

theorem bound_sw {M : Nat → Nat → Int} {n p k B : Nat} (h : ∀ i j, i < n → j < n → (M i j).natAbs ≤ B) (hp : p < n) (hk : k < n) (i j : Nat) (hi : i < n) (hj : j < n) : (swM M p k i j).natAbs ≤ B := by
  unfold swM
  split
  · unfold swapRows
    split
    · exact h k j hk hj
    · split
      · exact h p j hp hj
      · exact h i j hi hj
  · exact h i j hi hj

theorem prod_bound {x y : Int} {B : Nat} (hx : x.natAbs ≤ B) (hy : y.natAbs ≤ B) : (x * y).natAbs ≤ B * B := by
  rw [Int.natAbs_mul]; exact Nat.mul_le_mul hx hy
end Go.Proofs.YtfpcfcegdjlggaaGreat
namespace Go.Proofs.YtfpcfcegdjlggaaGreat
open Go.RowKit

section
variable {P : Program} {l : List Oper} {Q : Exit → Act → World → Prop} {S : World → Prop}

theorem take_first {i : Nat} {oi : Oper} {v : Value} {fuel : Nat} {listed : Array Bool} {a : Act} {w : World} (hi : l[i]? = some oi)
    (hs : Region.noSelect l.toArray = true) (hf : Region.free .any l.toArray listed i = true) (hr : (Region.ready .any l.toArray listed).contains i = true)
    (hQ : ∀ c a w, Q (.panic c) (a.put oi.dst v) w → Q (.panic c) a w) (hw : Region.wanted oi (yielded l.toArray a.tmps) = true)
    (hy : ∀ w, S w → (execOp a.eval oi).run P w = .ok (.value v) w) (hS : S w)
    (h : wpAnyH P .any l.toArray Q S fuel (listed.setIfInBounds i true) (a.put oi.dst v) w) : wpAnyH P .any l.toArray Q S (fuel + 1) listed a w :=
  wpAnyH_take (by simpa using hi) hs hf hr hQ (Or.inl ⟨hw, hy⟩) hS h

theorem comes_next {i : Nat} {oi : Oper} {fuel : Nat} {listed : Array Bool} {a : Act} {w : World} (hi : l[i]? = some oi) (hr : Region.ready .any l.toArray listed = [i])
    (h : ∀ K' : Act → World → Prop, Shut (∀ a w, S w → (S w → wpAnyH P .any l.toArray Q S fuel (listed.setIfInBounds i true) a w) → K' a w) → if Region.wanted oi (yielded l.toArray a.tmps) = true then Oper.wp P oi a w K' Q else K' (a.put oi.dst undef) w) :
    wpAnyH P .any l.toArray Q S (fuel + 1) listed a w :=
  wpAnyH_ready hr (by simp) (AllReadyH.cons (by simpa using hi) h AllReadyH.nil)
end
end Go.Proofs.YtfpcfcegdjlggaaGreat
