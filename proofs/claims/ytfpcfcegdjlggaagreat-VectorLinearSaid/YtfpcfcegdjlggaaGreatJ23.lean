/-
  Joined texts: YP YQ YR YT.
-/
import Derived.Test.YtfpcfcegdjlggaaGreatJ22
import Derived.StillTailTactics
import Derived.Deep.MidRow
namespace Go.Proofs.YtfpcfcegdjlggaaGreat
open Go.RowKit Go.Shelf

/-- Only blocks g and o have changed, and what is new. -/
structure Two (g o : Nat) (w w' : World) : Prop where
  os : w'.os = w.os
  tape : w'.tape = w.tape
  output : w'.output = w.output
  size : w.heap.size ≤ w'.heap.size
  block : ∀ k, k < w.heap.size → k ≠ g → k ≠ o → w'.heap[k]? = w.heap[k]?

theorem Two.refl (g o : Nat) (w : World) : Two g o w w := ⟨rfl, rfl, rfl, Nat.le_refl _, fun _ _ _ _ => rfl⟩
theorem Two.of_below {g o : Nat} {a w : World} (h : Below a.heap.size a w) : Two g o a w := ⟨h.os, h.tape, h.output, h.size, fun k hk _ _ => h.block k hk⟩
theorem Two.of_grown {g o : Nat} {a w : World} (h : a.grownBy w (some g)) : Two g o a w :=
  ⟨h.os, h.tape, h.output, h.size, fun k hk hg _ => h.block k hk (fun e => hg (by simp at e; omega))⟩
theorem Two.trans {g o : Nat} {a b c : World} (h : Two g o a b) (k : Two g o b c) : Two g o a c :=
  ⟨k.os.trans h.os, k.tape.trans h.tape, k.output.trans h.output, Nat.le_trans h.size k.size, fun i hi hg ho => (k.block i (Nat.lt_of_lt_of_le hi h.size) hg ho).trans (h.block i hi hg ho)⟩
theorem Two.drewN {g o : Nat} {a w : World} (h : Two g o a w) (n : Nat) : Two g o a (w.drewN n) := ⟨h.os, h.tape, h.output, h.size, h.block⟩
theorem Two.setCell {g o : Nat} {a w : World} (h : Two g o a w) (i : Nat) (v : Value) : Two g o a (w.setCell ⟨o, i, none⟩ v) :=
  ⟨h.os, h.tape, h.output, by simpa [World.setCell] using h.size, fun k hk hg ho => (Below.heap_setCell w ⟨o, i, none⟩ v k ho).trans (h.block k hk hg ho)⟩
theorem Two.cell {g o : Nat} {a w : World} (h : Two g o a w) {p : Addr} (hp : p.block < a.heap.size) (hg : p.block ≠ g) (ho : p.block ≠ o) : w.cell? p = a.cell? p := World.cell?_of_block (w := a) (h.block p.block hp hg ho)
theorem Two.below {g o B : Nat} {a w : World} (h : Two g o a w) (hg : B ≤ g) (ho : B ≤ o) (hB : B ≤ a.heap.size) : Below B a w :=
  ⟨h.os, h.tape, h.output, h.size, fun k hk => h.block k (by omega) (by omega) (by omega)⟩

/-- The list and its order: block o. -/
structure OrdAt (w : World) (o g n cap : Nat) : Prop where
  c0 : w.cell? ⟨o, 0, none⟩ = some (.slice (some ⟨g, 0, none⟩) n cap)
  c1 : w.cell? ⟨o, 1, none⟩ = some (.func (.func 43) #[] #[])
  f0 : w.frozen? ⟨o, 0, none⟩ = false

/-- What sortUnique gives: the items once each, in order. -/
def GivesUnique (w : World) (o g n cap : Nat) (f : Nat → Item) (e : Ending) (w' : World) : Prop :=
  e = .returned (.tuple #[]) ∧ ∃ L : Nat, ∃ h : Nat → Item, 1 ≤ L ∧ L ≤ n ∧ (∀ i, i < L → ∃ j, j < n ∧ h i = f j) ∧ (∀ j, j < n → ∃ i, i < L ∧ cfN (h i) (f j) = 0) ∧ (∀ i j, i < j → j < L → cfN (h i) (h j) < 0) ∧
    OwnF w' g L h ∧ w'.cell? ⟨o, 0, none⟩ = some (.slice (some ⟨g, 0, none⟩) L cap) ∧ Two g o w w'

theorem kept_mem {f : Nat → Item} : ∀ m i, i < (kept f m).length → ∃ j, j < m ∧ (kept f m).getD i zI = f j := by
  intro m
  induction m with
  | zero => intro i hi; exact absurd hi (Nat.not_lt_zero _)
  | succ m ih =>
    intro i
    show i < (if m ≠ 0 ∧ cfN (f m) (f (m - 1)) = 0 then kept f m else kept f m ++ [f m] : List Item).length → ∃ j, j < m + 1 ∧ (if m ≠ 0 ∧ cfN (f m) (f (m - 1)) = 0 then kept f m else kept f m ++ [f m] : List Item).getD i zI = f j
    split
    · intro hi
      obtain ⟨j, hj, e⟩ := ih i hi
      exact ⟨j, by omega, e⟩
    · intro hi
      by_cases h : i < (kept f m).length
      · obtain ⟨j, hj, e⟩ := ih i h
        refine ⟨j, by omega, ?_⟩
        rw [← e, List.getD_eq_getElem?_getD, List.getD_eq_getElem?_getD, List.getElem?_append_left h]
      · have h2 : i = (kept f m).length := by simp at hi; omega
        refine ⟨m, by omega, ?_⟩
        rw [h2, List.getD_eq_getElem?_getD, List.getElem?_append_right (Nat.le_refl _)]
        simp

theorem kept_has {f : Nat → Item} : ∀ m j, j < m → ∃ i, i < (kept f m).length ∧ cfN ((kept f m).getD i zI) (f j) = 0 := by
  intro m
  induction m with
  | zero => intro j hj; omega
  | succ m ih =>
    intro j hj
    show ∃ i, i < (if m ≠ 0 ∧ cfN (f m) (f (m - 1)) = 0 then kept f m else kept f m ++ [f m] : List Item).length ∧ cfN ((if m ≠ 0 ∧ cfN (f m) (f (m - 1)) = 0 then kept f m else kept f m ++ [f m] : List Item).getD i zI) (f j) = 0
    split
    · rename_i hc
      by_cases h : j < m
      · exact ih j h
      · obtain rfl : j = m := by omega
        obtain ⟨i, hi, e⟩ := ih (j - 1) (by omega)
        refine ⟨i, hi, ?_⟩
        rw [(cfN_congr hc.2).2]
        exact e
    · by_cases h : j < m
      · obtain ⟨i, hi, e⟩ := ih j h
        refine ⟨i, by simp; omega, ?_⟩
        rw [List.getD_eq_getElem?_getD, List.getElem?_append_left hi, ← List.getD_eq_getElem?_getD]
        exact e
      · obtain rfl : j = m := by omega
        refine ⟨(kept f j).length, by simp, ?_⟩
        rw [List.getD_eq_getElem?_getD, List.getElem?_append_right (Nat.le_refl _)]
        simp [cfN_self]

theorem below_next {f : Nat → Item} {n : Nat} (hs : ∀ i j, i < j → j < n → ¬cfN (f j) (f i) < 0) {m j : Nat} (hj : j < m + 1) (hm : m + 1 < n) (hne : cfN (f (m + 1)) (f m) ≠ 0) : cfN (f j) (f (m + 1)) < 0 := by
  have h1 := hs m (m + 1) (by omega) hm
  have n1 := cfN_neg (f m) (f (m + 1))
  have h2 : cfN (f m) (f (m + 1)) < 0 := by omega
  by_cases e : j = m
  · rw [e]; exact h2
  · have h3 := hs j m (by omega) (by omega)
    have n2 := cfN_neg (f j) (f m)
    by_cases e0 : cfN (f j) (f m) = 0
    · rw [(cfN_congr e0).1]; exact h2
    · exact cfN_trans (y := f m) (by omega) h2

/-- Of a list in order what is kept ascends. -/
theorem kept_asc {f : Nat → Item} {n : Nat} (hs : ∀ i j, i < j → j < n → ¬cfN (f j) (f i) < 0) : ∀ m, m ≤ n → ∀ i j, i < j → j < (kept f m).length → cfN ((kept f m).getD i zI) ((kept f m).getD j zI) < 0 := by
  intro m
  induction m with
  | zero => intro _ i j _ h; exact absurd h (Nat.not_lt_zero _)
  | succ m ih =>
    intro hm i j hij hj
    cases m with
    | zero =>
      rw [kept_one] at hj
      simp at hj
      omega
    | succ m =>
      by_cases he : cfN (f (m + 1)) (f m) = 0
      · rw [kept_skip he] at hj ⊢
        exact ih (by omega) i j hij hj
      · have hl : (kept f (m + 2)).length = (kept f (m + 1)).length + 1 := by rw [kept_take he]; simp
        rw [hl] at hj
        rw [kept_get rfl he i, kept_get rfl he j, if_neg (by omega)]
        by_cases hjl : j = (kept f (m + 1)).length
        · rw [if_pos hjl]
          obtain ⟨t, ht, e⟩ := kept_mem (f := f) (m + 1) i (by omega)
          rw [e]
          exact below_next hs ht (by omega) he
        · rw [if_neg hjl]
          exact ih (by omega) i j hij (by omega)

theorem length_kept_pos {f : Nat → Item} {m : Nat} (h : 0 < m) : 1 ≤ (kept f m).length := by
  obtain ⟨i, hi, _⟩ := kept_has (f := f) m 0 h
  omega


theorem FarN.grown {w wr : World} {g : Nat} {x : Item} (h : FarN w g x) (hg : w.grownBy wr (some g)) : FarN wr g x := by
  refine ⟨⟨⟨h.1.1.fits, h.1.1.lim, fun i hi => ?_⟩, h.1.2⟩, h.2⟩
  obtain ⟨b, o, e, hc⟩ := h.1.1.cells i hi
  refine ⟨b, o, e, ?_⟩
  have hb := h.2 (fun h0 => by rw [h0] at hi; simp at hi) b o e
  rw [← hc]
  exact World.cell?_of_block (w := w) (hg.block b (World.block_lt_of_cell? w _ hc) (fun e' => hb (by simp at e'; omega)))
theorem FarN.below {w wr : World} {g : Nat} {x : Item} (h : FarN w g x) (hb : Below w.heap.size w wr) : FarN wr g x := ⟨⟨h.1.1.below hb, h.1.2⟩, h.2⟩

theorem cell_grownBy {w wr : World} {g : Nat} (hg : w.grownBy wr (some g)) {p : Addr} {v : Value} (hne : p.block ≠ g) (h : w.cell? p = some v) : wr.cell? p = some v := by
  rw [← h]
  exact World.cell?_of_block (w := w) (hg.block p.block (World.block_lt_of_cell? w _ h) (fun e => hne (by simp at e; omega)))
theorem frozen_grownBy {w wr : World} {g : Nat} (hg : w.grownBy wr (some g)) {p : Addr} (hlt : p.block < w.heap.size) (hne : p.block ≠ g) : wr.frozen? p = w.frozen? p :=
  World.frozen?_of_block (w := w) (hg.block p.block hlt (fun e => hne (by simp at e; omega)))

theorem OwnF.below {w wr : World} {g n B : Nat} {f : Nat → Item} (h : OwnF w g n f) (hb : Below B w wr) (hg : g < B) : OwnF wr g n f :=
  ⟨fun i hi => by rw [hb.cell (p := ⟨g, i * 2, none⟩) hg]; exact h.c0 i hi, fun i hi => by rw [hb.cell (p := ⟨g, i * 2 + 1, none⟩) hg]; exact h.c1 i hi, fun i hi => by rw [hb.frozen (p := ⟨g, i, none⟩) hg]; exact h.fr i hi⟩
theorem OwnF.far {w : World} {g n : Nat} {f : Nat → Item} (h : OwnF w g n f) {a : Addr} (hne : g ≠ a.block) (u : Value) : OwnF (w.setCell a u) g n f :=
  ⟨fun i hi => by rw [World.cell?_setCell_far _ _ _ _ (fun e => hne e.symm)]; exact h.c0 i hi, fun i hi => by rw [World.cell?_setCell_far _ _ _ _ (fun e => hne e.symm)]; exact h.c1 i hi, fun i hi => by simp [h.fr i hi]⟩

theorem OwnF.drew {w : World} {g n : Nat} {f : Nat → Item} (h : OwnF w g n f) : OwnF w.drew g n f := ⟨h.c0, h.c1, h.fr⟩
theorem grownBy_drew {a w : World} {row : Option Nat} (h : a.drew.grownBy w row) : a.grownBy w row := ⟨h.os, h.tape, h.output, h.size, h.block⟩
set_option maxRecDepth 100000 in
set_option maxHeartbeats 4000000 in
theorem sortUnique_any (o g n cap : Nat) (f : Nat → Item) (w : World) (hn : 1 ≤ n) (hn3 : n ≤ 1000000000000) (hcap : n ≤ cap) (hn2 : cap ≤ 9223372036854775807) (ho : OrdAt w o g n cap) (hgo : g ≠ o) (hown : OwnF w g n f)
    (hf : ∀ i, i < n → FarN w g (f i)) :
    Calls Tryz.prog 45 #[.pointer (some ⟨o, 0, none⟩)] w (GivesUnique w o g n cap f) := by
  obtain ⟨W, hW⟩ : ∃ W, W = w.alloc (.cells #[.pointer (some ⟨o, 0, none⟩)] 126) := ⟨_, rfl⟩
  have hb : Below w.heap.size w W := by rw [hW]; exact (Below.refl _ _).alloc (Nat.le_refl _) _
  have hlt := hown.lt hn
  have holt : o < w.heap.size := World.block_lt_of_cell? w _ ho.c0
  have hbx : W.cell? ⟨w.heap.size, 0, none⟩ = some (.pointer (some ⟨o, 0, none⟩)) := by
    rw [hW, cell_of_row _ _ 0 _ _ (0, 0) (heap_alloc_last w _)]; rfl
  have h1 : W.cell? ⟨o, 0, none⟩ = some (.slice (some ⟨g, 0, none⟩) n cap) := by rw [hb.cell (p := ⟨o, 0, none⟩) holt]; exact ho.c0
  have h2 : W.cell? ⟨o, 1, none⟩ = some (.func (.func 43) #[] #[]) := by rw [hb.cell (p := ⟨o, 1, none⟩) holt]; exact ho.c1
  have h3 : W.frozen? ⟨o, 0, none⟩ = false := by rw [hb.frozen (p := ⟨o, 0, none⟩) holt]; exact ho.f0
  have hltW : g < W.heap.size := Nat.lt_of_lt_of_le hlt hb.size
  have holtW : o < W.heap.size := Nat.lt_of_lt_of_le holt hb.size
  have HBX := Lib.hid hbx
  have H2 := Lib.hid h2
  have H3 := Lib.hid h3
  have H1 := Lib.hid h1
  have HB := Lib.hid hb
  have hmix := mixed
  have HF : Hid (∀ i, i < n → FarN W g (f i)) := fun i hi => (hf i hi).below hb
  have HOWN : Hid (OwnF W g n f) := hown.below hb hlt
  have HWW : Hid (w.alloc (.cells #[.pointer (some ⟨o, 0, none⟩)] 126) = W) := hW.symm
  clear hW ho hown hf hb h3
  go_enter Tryz.func45, Tryz.ntmps45
  go_wp2_with fail
  rw [HWW.out]
  go_still_tail 8, hmix
  change wpList _ _ _ _ _ W.drew
  go_wp2_with fail
  refine (sort_any g n cap f W.drew hn (by omega) (fun i hi => (HF.out i hi).below (Below.refl _ W).drew) HOWN.out.drew).mono ?_
  rintro e w2 ⟨rfl, f', hm1, hm2, hs, ho2, hg2⟩
  have hg := grownBy_drew hg2
  have HG := Lib.hid hg
  have HM1 := Lib.hid hm1
  have HM2 := Lib.hid hm2
  have HS := Lib.hid hs
  have HO2 := Lib.hid ho2
  have b1 : w2.cell? ⟨w.heap.size, 0, none⟩ = some (.pointer (some ⟨o, 0, none⟩)) := cell_grownBy hg (p := ⟨w.heap.size, 0, none⟩) (by show w.heap.size ≠ g; omega) HBX.out
  have b2 : w2.cell? ⟨o, 0, none⟩ = some (.slice (some ⟨g, 0, none⟩) n cap) := cell_grownBy hg (p := ⟨o, 0, none⟩) (Ne.symm hgo) H1.out
  have b3 : w2.cell? ⟨o, 1, none⟩ = some (.func (.func 43) #[] #[]) := cell_grownBy hg (p := ⟨o, 1, none⟩) (Ne.symm hgo) H2.out
  have hK : Hid (∀ wr, w2.drew.grownBy wr (some g) → ∀ i, i < n → OkN wr (f' i)) := fun wr hwr i hi => by
    obtain ⟨j, hj, e⟩ := HM1.out i hi
    rw [e]
    exact (((HF.out j hj).grown HG.out).grown (grownBy_drew hwr)).1
  have hO : Hid (∀ wr, w2.drew.grownBy wr (some g) → OrdBox wr w.heap.size o) := fun wr hwr =>
    ⟨cell_grownBy (grownBy_drew hwr) (p := ⟨w.heap.size, 0, none⟩) (by show w.heap.size ≠ g; omega) b1, cell_grownBy (grownBy_drew hwr) (p := ⟨o, 1, none⟩) (Ne.symm hgo) b3⟩
  have BB := Lib.hid b2
  have BX := Lib.hid b1
  have hFr : Hid (w2.frozen? ⟨o, 0, none⟩ = false) := (frozen_grownBy hg (p := ⟨o, 0, none⟩) holtW (Ne.symm hgo)).trans H3.out
  have hend : Hid (∀ w3, OwnF w3 g (kept f' n).length (fun i => (kept f' n).getD i zI) → w2.drew.grownBy w3 (some g) → GivesUnique w o g n cap f (.returned (.tuple #[])) (w3.setCell ⟨o, 0, none⟩ (.slice (some ⟨g, 0, none⟩) (kept f' n).length cap))) := fun w3 ho3 hg3 => by
    have hw2 : Two g o w w2 := (Two.of_below HB.out).trans (Two.of_grown hg)
    have hw3 : Two g o w w3 := hw2.trans (Two.of_grown (grownBy_drew hg3))
    have hc3 := cell_grownBy (grownBy_drew hg3) (p := ⟨o, 0, none⟩) (Ne.symm hgo) b2
    refine ⟨rfl, (kept f' n).length, fun i => (kept f' n).getD i zI, length_kept_pos hn, length_kept f' n, fun i hi => ?_, fun j hj => ?_, fun i j hij hj => kept_asc hs n (Nat.le_refl _) i j hij hj, ho3.far (a := ⟨o, 0, none⟩) hgo _, World.cell?_setCell_same _ _ _ hc3, hw3.setCell 0 _⟩
    · obtain ⟨j, hj, e⟩ := kept_mem (f := f') n i hi
      obtain ⟨t, ht, e2⟩ := hm1 j hj
      exact ⟨t, ht, e.trans e2⟩
    · obtain ⟨t, ht, e⟩ := hm2 j hj
      obtain ⟨i, hi, e2⟩ := kept_has (f := f') n t ht
      exact ⟨i, hi, by rw [← e]; exact e2⟩
  clear hbx h1 h2 hg2 hg hm1 hm2 hs ho2 b3
  go_wp2_with fail
  go_region_with ((first
    | (go_at_call 88; refine (compact_any w.heap.size o g n cap f' _ hn hcap hn2 HO2.out.drew hK.out hO.out).mono ?_; rintro e w3 ⟨rfl, ho3, hg3⟩; have k1 := cell_grownBy (grownBy_drew hg3) (p := ⟨o, 0, none⟩) (Ne.symm hgo) BB.out; have k2 := (frozen_grownBy (grownBy_drew hg3) (p := ⟨o, 0, none⟩) (World.block_lt_of_cell? _ _ BB.out) (Ne.symm hgo)).trans hFr.out; have k3 := cell_grownBy (grownBy_drew hg3) (p := ⟨w.heap.size, 0, none⟩) (by show w.heap.size ≠ g; omega) BX.out)))
  all_goals exact bodyPost_end (results_none rfl _ _ _) rfl (hend.out _ ho3 hg3)
end Go.Proofs.YtfpcfcegdjlggaaGreat
namespace Go.Proofs.YtfpcfcegdjlggaaGreat
open Go.RowKit Go.Shelf

theorem infoNormed : (Tryz.prog.info? 76).map (fun i => (i.zero, i.size, i.bytes)) = some (some (.agg #[.int .i64 0, .slice none 0 0]), 2, 32) := by kernel_rfl
theorem infoRows : (Tryz.prog.info? 23).map (fun i => (i.zero, i.size, i.bytes)) = some (some (.slice none 0 0), 1, 24) := by kernel_rfl

/-- An item whose vector is the call's own. -/
structure ItOwn (w : World) (x : Item) : Prop where
  at' : ∃ g, x.a = some ⟨g, 0, none⟩ ∧ OwnI w g x.vec
  fits : x.vec.length ≤ x.cap
  lim : ∀ v ∈ x.vec, I64 v
  len : x.vec.length ≤ 100000000000000

/-- The cells of the first n items. -/
def flatN (f : Nat → Item) (n : Nat) : List Value := (List.range n).flatMap fun i => encN (f i)

theorem flatN_succ (f : Nat → Item) (n : Nat) : flatN f (n + 1) = flatN f n ++ encN (f n) := by simp [flatN, List.range_succ]
theorem length_flatN (f : Nat → Item) : ∀ n, (flatN f n).length = n * 2
  | 0 => rfl
  | n + 1 => by rw [flatN_succ, List.length_append, length_flatN f n]; simp [encN]; omega
theorem flatN_get (f : Nat → Item) : ∀ n i, i < n → (flatN f n)[i * 2]? = some (.int .i64 (f i).norm) ∧ (flatN f n)[i * 2 + 1]? = some (.slice (f i).a (f i).vec.length (f i).cap)
  | 0, i, h => by omega
  | n + 1, i, h => by
    have hl := length_flatN f n
    rw [flatN_succ]
    by_cases e : i < n
    · obtain ⟨h1, h2⟩ := flatN_get f n i e
      exact ⟨by rw [List.getElem?_append_left (by omega)]; exact h1, by rw [List.getElem?_append_left (by omega)]; exact h2⟩
    · obtain rfl : i = n := by omega
      exact ⟨by rw [List.getElem?_append_right (by omega), hl, Nat.sub_self]; rfl, by rw [List.getElem?_append_right (by omega), hl, show i * 2 + 1 - i * 2 = 1 from by omega]; rfl⟩
theorem flatN_congr {f f' : Nat → Item} : ∀ {n : Nat}, (∀ i, i < n → f i = f' i) → flatN f n = flatN f' n
  | 0, _ => rfl
  | n + 1, h => by rw [flatN_succ, flatN_succ, flatN_congr (fun i hi => h i (by omega)), h n (by omega)]

/-- The list and its order: block o, whose items are the first n. -/
def ListAt (w : World) (o : Nat) (v : Value) : Prop := w.heap[o]? = some (.cells #[v, .func (.func 43) #[] #[]] 74 (0, 0))

theorem ListAt.c0 {w : World} {o : Nat} {v : Value} (h : ListAt w o v) : w.cell? ⟨o, 0, none⟩ = some v := by rw [cell_of_row _ _ 0 _ _ (0, 0) h]; rfl
theorem ListAt.c1 {w : World} {o : Nat} {v : Value} (h : ListAt w o v) : w.cell? ⟨o, 1, none⟩ = some (.func (.func 43) #[] #[]) := by rw [cell_of_row _ _ 1 _ _ (0, 0) h]; rfl
theorem ListAt.fr {w : World} {o : Nat} {v : Value} (h : ListAt w o v) (i : Nat) : w.frozen? ⟨o, i, none⟩ = false := frozen_of_row _ _ _ _ _ h
theorem ListAt.of_heap {w w' : World} {o : Nat} {v : Value} (h : ListAt w o v) (he : w'.heap[o]? = w.heap[o]?) : ListAt w' o v := he.trans h
theorem ListAt.lt {w : World} {o : Nat} {v : Value} (h : ListAt w o v) : o < w.heap.size := (Array.getElem?_eq_some_iff.1 h).1
theorem ListAt.set {w : World} {o : Nat} {v : Value} (h : ListAt w o v) (u : Value) : ListAt (w.setCell ⟨o, 0, none⟩ u) o u := by
  unfold ListAt
  rw [heap_setCell_same w o 0 _ _ u h]
  rfl

theorem ItOwn.of_heap {w w' : World} {x : Item} (h : ItOwn w x) (he : ∀ g, x.a = some ⟨g, 0, none⟩ → w'.heap[g]? = w.heap[g]?) : ItOwn w' x := by
  obtain ⟨g, e, ho⟩ := h.at'
  exact ⟨⟨g, e, ho.of_heap (he g e)⟩, h.fits, h.lim, h.len⟩
theorem ItOwn.below {w w' : World} {x : Item} (h : ItOwn w x) (hb : Below w.heap.size w w') : ItOwn w' x := by
  obtain ⟨g, e, ho⟩ := h.at'
  exact ⟨⟨g, e, ho.below hb ho.lt⟩, h.fits, h.lim, h.len⟩

/-- Blocks of other types are other blocks. -/
theorem OwnI.ne {w : World} {g : Nat} {zs : List Int} (h : OwnI w g zs) {k : Nat} {cur : Array Value} {t : TypeId} (hk : w.heap[k]? = some (.cells cur t (0, 0))) (ht : t ≠ 2) : g ≠ k := by
  rintro rfl
  obtain ⟨cur', hg, _⟩ := h.row
  rw [hk] at hg
  simp only [Option.some.injEq, Obj.cells.injEq] at hg
  exact ht hg.2.1

theorem ItOwn.ne {w : World} {x : Item} (h : ItOwn w x) {k : Nat} {cur : Array Value} {t : TypeId} (hk : w.heap[k]? = some (.cells cur t (0, 0))) (ht : t ≠ 2) : ∀ g, x.a = some ⟨g, 0, none⟩ → g ≠ k := fun g e => by
  obtain ⟨g', e', ho⟩ := h.at'
  rw [e] at e'
  simp only [Option.some.injEq, Addr.mk.injEq, and_true] at e'
  rw [e']
  exact ho.ne hk ht

theorem ItOwn.far {w : World} {x : Item} (h : ItOwn w x) {k : Nat} {cur : Array Value} {t : TypeId} (hk : w.heap[k]? = some (.cells cur t (0, 0))) (ht : t ≠ 2) : FarN w k x := by
  obtain ⟨g, e, ho⟩ := h.at'
  refine ⟨⟨by rw [e]; exact ho.rd h.fits h.lim, h.len⟩, fun _ b o e2 => ?_⟩
  rw [e] at e2
  simp only [Option.some.injEq, Addr.mk.injEq, and_true] at e2
  rw [← e2.1]
  exact ho.ne hk ht

theorem ItOwn.grown {w w' : World} {x : Item} (h : ItOwn w x) {v : Value} (hg : w.grownBy w' v.ownBlock) (hne : ∀ g, x.a = some ⟨g, 0, none⟩ → some g ≠ v.ownBlock) : ItOwn w' x := by
  obtain ⟨g, e, ho⟩ := h.at'
  exact ⟨⟨g, e, ho.of_heap (hg.block g ho.lt (hne g e))⟩, h.fits, h.lim, h.len⟩

/-- The block of an own row of items. -/
theorem row_block {w : World} {B n : Nat} {v : Value} {xs : List Value} (h : w.ownsRow B 76 2 v n xs) (g : Nat) (hv : v.ownBlock = some g) : B ≤ g ∧ ∃ cur, w.heap[g]? = some (.cells cur 76 (0, 0)) := by
  rcases h.2 with ⟨h0, _⟩ | ⟨g', cap, cur, hv', hb, hg, _⟩
  · rw [h0] at hv; cases hv
  · rw [hv'] at hv
    simp only [Value.ownBlock, Option.some.injEq] at hv
    subst hv
    exact ⟨hb, cur, hg⟩

theorem ItOwn.row_ne {w : World} {x : Item} (h : ItOwn w x) {B n : Nat} {v : Value} {xs : List Value} (hr : w.ownsRow B 76 2 v n xs) : ∀ g, x.a = some ⟨g, 0, none⟩ → some g ≠ v.ownBlock := fun g e e2 => by
  obtain ⟨_, cur, hc⟩ := row_block hr g e2.symm
  exact h.ne hc (by decide) g e rfl

theorem ListAt.row_ne {w : World} {o : Nat} {u : Value} (h : ListAt w o u) {B n : Nat} {v : Value} {xs : List Value} (hr : w.ownsRow B 76 2 v n xs) : some o ≠ v.ownBlock := fun e => by
  obtain ⟨_, cur, hc⟩ := row_block hr o e.symm
  unfold ListAt at h
  rw [h] at hc
  simp only [Option.some.injEq, Obj.cells.injEq] at hc
  exact absurd hc.2.1 (by decide)

/-- An own row of items, in the words of the sort. -/
theorem ownF_of_row {w : World} {B n : Nat} {v : Value} {f : Nat → Item} (hn : 1 ≤ n) (h : w.ownsRow B 76 2 v n (flatN f n)) :
    ∃ g cap, v = .slice (some ⟨g, 0, none⟩) n cap ∧ n ≤ cap ∧ cap ≤ 9223372036854775807 ∧ B ≤ g ∧ OwnF w g n f ∧ ∃ cur, w.heap[g]? = some (.cells cur 76 (0, 0)) := by
  rcases h.2 with ⟨_, h0⟩ | ⟨g, cap, cur, hv, hb, hg, hnc, hcm, _, ht⟩
  · omega
  · have key : ∀ i, i < n * 2 → cur[i]? = (flatN f n)[i]? := fun i hi => by
      rw [← ht, List.getElem?_take, if_pos hi]; simp
    refine ⟨g, cap, hv, hnc, hcm, hb, ⟨fun i hi => ?_, fun i hi => ?_, fun i _ => frozen_of_row _ _ _ _ _ hg⟩, cur, hg⟩
    · rw [cell_of_row _ _ _ _ _ (0, 0) hg, key _ (by omega), (flatN_get f n i hi).1]
    · rw [cell_of_row _ _ _ _ _ (0, 0) hg, key _ (by omega), (flatN_get f n i hi).2]
end Go.Proofs.YtfpcfcegdjlggaaGreat
namespace Go.Proofs.YtfpcfcegdjlggaaGreat
open Go.RowKit Go.Shelf

/-- Item h belongs to the list x. -/
def Belongs (nh : Nat) (hs : List (List Int)) (x : List Int) (h : Item) : Prop := Fine nh hs x h.norm ∧ h.vec = canonL x

/-- The rows out are the list of vectors of ls. -/
def IsList (nh : Nat) (hs ls out : List (List Int)) : Prop :=
  ∃ h : Nat → Item, (∀ i, i < out.length → ∃ c, c < ls.length ∧ Belongs nh hs (ls.getD c []) (h i)) ∧ (∀ c, c < ls.length → ∃ i, i < out.length ∧ Belongs nh hs (ls.getD c []) (h i)) ∧
    (∀ i j, i < j → j < out.length → cfN (h i) (h j) < 0) ∧ ∀ i, i < out.length → out.getD i [] = (h i).vec

/-- h is a reduced form, and each list is one of its vectors that belongs into a list. -/
def AllFine (nh : Nat) (hs ls : List (List Int)) : Prop := IsRed hs ∧ ∀ c, c < ls.length → ∃ m, Fine nh hs (ls.getD c []) m

def GivesList (w : World) (nh : Nat) (hs ls : List (List Int)) (e : Ending) (w' : World) : Prop :=
  ((AllFine nh hs ls ∧ ∃ out a c, e = .returned (.tuple #[.slice a out.length c, .bool true]) ∧ RdM w' a c out ∧ IsList nh hs ls out) ∨
   (¬AllFine nh hs ls ∧ e = .returned (.tuple #[.slice none 0 0, .bool false]))) ∧ Below w.heap.size w w'
theorem givesList_no {w w' : World} {nh : Nat} {hs ls : List (List Int)} (h : ¬AllFine nh hs ls) (hb : Below w.heap.size w w') : GivesList w nh hs ls (.returned (.tuple #[.slice none 0 0, .bool false])) w' := ⟨.inr ⟨h, rfl⟩, hb⟩

/-- What the first loop has built behind i rounds. -/
structure Built (w wr : World) (nh : Nat) (hs ls : List (List Int)) (o : Nat) (v : Value) (i : Nat) (f : Nat → Item) : Prop where
  list : ListAt wr o v
  row : wr.ownsRow w.heap.size 76 2 v i (flatN f i)
  items : ∀ c, c < i → ItOwn wr (f c) ∧ Belongs nh hs (ls.getD c []) (f c)
  below : Below w.heap.size w wr

theorem row_of_heap {w w' : World} {B n : Nat} {v : Value} {xs : List Value} (h : w.ownsRow B 76 2 v n xs) (he : ∀ g, v.ownBlock = some g → w'.heap[g]? = w.heap[g]?) : w'.ownsRow B 76 2 v n xs := by
  refine ⟨h.1, ?_⟩
  rcases h.2 with h0 | ⟨g, cap, cur, hv, hb, hg, hr⟩
  · exact .inl h0
  · exact .inr ⟨g, cap, cur, hv, hb, by rw [he g (by rw [hv]; rfl)]; exact hg, hr⟩

theorem row_below {w w' : World} {B n : Nat} {v : Value} {xs : List Value} (h : w.ownsRow B 76 2 v n xs) (hb : Below w.heap.size w w') : w'.ownsRow B 76 2 v n xs :=
  row_of_heap h fun g hg => hb.block g (h.lt g hg).2

theorem Built.next {w wr w2 X w3 : World} {nh : Nat} {hs ls : List (List Int)} {o i : Nat} {v v' : Value} {f : Nat → Item} (hB : Built w wr nh hs ls o v i f) (hob : w.heap.size ≤ o) (hb2 : Below wr.heap.size wr w2) {x : Item} (hx : ItOwn w2 x) (hbel : Belongs nh hs (ls.getD i []) x)
    (hX : Below w2.heap.size w2 X) (hown : w3.ownsRow w.heap.size 76 2 v' (i + 1) (flatN f i ++ encN x)) (hgrow : X.grownBy w3 v.ownBlock) :
    Built w (w3.setCell ⟨o, 0, none⟩ v') nh hs ls o v' (i + 1) (fun c => if c = i then x else f c) := by
  have hbX : Below wr.heap.size wr X := hb2.trans (hX.mono hb2.size)
  have hrowX := row_below hB.row hbX
  have hlX : ListAt X o v := hB.list.of_heap (hbX.block o hB.list.lt)
  have hl3 : ListAt w3 o v := hlX.of_heap (hgrow.block o hlX.lt (hlX.row_ne hrowX))
  have hset : ∀ k, k ≠ o → (w3.setCell ⟨o, 0, none⟩ v').heap[k]? = w3.heap[k]? := fun k hk => Below.heap_setCell w3 ⟨o, 0, none⟩ v' k hk
  have hfin : ∀ y, ItOwn X y → ItOwn (w3.setCell ⟨o, 0, none⟩ v') y := fun y hy => by
    have h3 := hy.grown hgrow (hy.row_ne hrowX)
    exact h3.of_heap fun g e => hset g (h3.ne hl3 (by decide) g e)
  refine ⟨hl3.set v', ?_, fun c hc => ?_, ?_⟩
  · have e : flatN (fun c => if c = i then x else f c) (i + 1) = flatN f i ++ encN x := by
      rw [flatN_succ, flatN_congr (f' := f) (fun c hc => if_neg (by omega)), if_pos rfl]
    rw [e]
    refine row_of_heap hown fun g hg => hset g fun e => ?_
    exact hl3.row_ne hown (by rw [hg, e])
  · show ItOwn _ (if c = i then x else f c) ∧ Belongs nh hs _ (if c = i then x else f c)
    by_cases e : c = i
    · rw [if_pos e, e]
      exact ⟨hfin x (hx.below hX), hbel⟩
    · rw [if_neg e]
      obtain ⟨h1, h2⟩ := hB.items c (by omega)
      exact ⟨hfin _ (h1.below hbX), h2⟩
  · have h1 : Below w.heap.size w X := hB.below.trans (hbX.mono hB.below.size)
    have h3 : Below w.heap.size w w3 := h1.grown hgrow h1.size (fun k hk => (hrowX.lt k hk).1)
    exact h3.setCell (p := ⟨o, 0, none⟩) hob v'

theorem Belongs.congr {nh : Nat} {hs : List (List Int)} {x : List Int} {h h' : Item} (hb : Belongs nh hs x h) (e : cfN h' h = 0) : Belongs nh hs x h' := by
  obtain ⟨e1, e2⟩ := cfN_eq e
  exact ⟨by rw [e1]; exact hb.1, e2.trans hb.2⟩

theorem row_slice {w : World} {B n : Nat} {v : Value} {xs : List Value} (h : w.ownsRow B 76 2 v n xs) (hn : 0 < n) : ∃ g cap, v = .slice (some ⟨g, 0, none⟩) n cap := by
  rcases h.2 with ⟨_, h0⟩ | ⟨g, cap, cur, hv, _⟩
  · omega
  · exact ⟨g, cap, hv⟩

theorem run_store_func (P : Program) (w : World) (a : Addr) (m : Mode) (f : Fn) (t : Array Value) (b : Array Value) : (store a (.func f t b) m).run P w = stored P w a (.func f t b) m := run_store P w a _ m rfl
attribute [local go_sem] run_store_func

set_option maxRecDepth 100000 in
set_option maxHeartbeats 4000000 in
theorem sortUnique2_any (ah al : Option Addr) (nh caph nl capl : Nat) (hs ls : List (List Int)) (w : World) (hrm : RdM w ah caph hs) (hlm : hs.length = nh) (hnh : nh ≤ 100000000000000) (hrl : RdM w al capl ls) (hll : ls.length = nl) (hn1 : 1 ≤ nl) (hn2 : nl ≤ 1000000) :
    Calls Tryz.prog 22 #[.slice ah nh caph, .slice al nl capl] w (GivesList w nh hs ls) := by
  obtain ⟨bl, ol, A, C, rfl, hfix⟩ := hrl.fix (by rw [hll]; omega)
  have HF := Lib.hid hfix
  have HRM := Lib.hid hrm
  have HLL := Lib.hid hll
  have HLM := Lib.hid hlm
  obtain ⟨i0, hi, hz0, hz1, hz2⟩ := info_parts infoNormed
  obtain ⟨i1, hi', hy0, hy1, hy2⟩ := info_parts infoRows
  clear hfix hrm hrl hll hlm
  go_enter Tryz.func22, Tryz.ntmps22
  go_wp2_with fail
  refine (isReduced_any ah nh caph hs _ HRM.out HLM.out hnh).mono ?_
  rintro e w1 ⟨r, rfl, hrr, hb⟩
  cases r with
  | false =>
    have hno : Hid (¬AllFine nh hs ls) := fun h => by have := hrr.2 h.1; simp at this
    clear hrr
    go_wp2_with fail
    go_ret2
    exact givesList_no hno.out hb
  | true =>
    have HRED : Hid (IsRed hs) := hrr.1 rfl
    obtain ⟨W, hW⟩ : ∃ W, W = w1.alloc (.cells #[.slice none 0 0, .func (.func 43) #[] #[]] 74) := ⟨_, rfl⟩
    have hbW : Below w.heap.size w W := by rw [hW]; exact hb.alloc hb.size _
    have hst : Hid (Built w W nh hs ls w1.heap.size (.slice none 0 0) 0 (fun _ => zI)) := ⟨by rw [hW]; exact heap_alloc_new w1 _, World.ownsRow_nil _ _ _ _, fun c hc => by omega, hbW⟩
    have HWW : Hid (w1.alloc (.cells #[.slice none 0 0, .func (.func 43) #[] #[]] 74) = W) := hW.symm
    have hob := hb.size
    clear hrr hW hbW hb
    go_wp2_with fail
    rw [HWW.out]
    go_loopw [20] (fun ii wr => ∃ (i : Nat) (v : Value) (f : Nat → Item), i ≤ nl ∧ ii = .int .i64 (i : Int) ∧ Hid (Built w wr nh hs ls w1.heap.size v i f)) (fun ii _ => nl - (intOf ii).toNat)
    case atStart => exact ⟨0, _, _, by omega, rfl, hst⟩
    case round =>
      obtain ⟨i, v, f, hin, rfl, hB⟩ := hrel
      clear hst
      by_cases hlt : i < nl
      · obtain ⟨hc, hri, hli⟩ := HF.out _ hB.out.below i (by rw [HLL.out]; exact hlt)
        obtain ⟨xs, hxs⟩ : ∃ xs, xs = ls.getD i [] := ⟨_, rfl⟩
        obtain ⟨ax, hax⟩ : ∃ x, x = A i := ⟨_, rfl⟩
        obtain ⟨cx, hcx⟩ : ∃ x, x = C i := ⟨_, rfl⟩
        rw [← hxs, ← hax, ← hcx] at hc hri
        rw [← hxs] at hli
        have HRI := Lib.hid hri
        have HXS := Lib.hid hxs
        have hrm2 : Hid (RdM wr ah caph hs) := HRM.out.below hB.out.below
        obtain ⟨lx, hlx⟩ : ∃ n, n = xs.length := ⟨_, rfl⟩
        rw [← hlx] at hc hli
        have HLX : Hid (xs.length = lx) := hlx.symm
        clear hxs hax hcx hri hlx
        go_wp2_with fail
        refine (newNormed_any ah ax nh caph lx cx hs xs _ HRED.out hrm2.out HLM.out HRI.out HLX.out hli).mono ?_
        rintro e w2 ⟨(⟨m, g, c, hfine, rfl, hgc, hgg, hown⟩ | ⟨hno, v0, v1, rfl, rfl⟩), hb2⟩
        · have hnx : nh = (canonL xs).length := by rw [length_canonL]; exact hfine.1.1.symm
          obtain ⟨x, hx⟩ : ∃ x : Item, x = ⟨m, canonL xs, some ⟨g, 0, none⟩, c⟩ := ⟨_, rfl⟩
          have hxo : Hid (ItOwn w2 x) := by
            rw [hx]
            refine ⟨⟨g, rfl, hown⟩, ?_, ?_, ?_⟩
            · show (canonL xs).length ≤ c
              omega
            · intro z hz
              show I64 z
              have hin := hfine.1.2
              have hz2 : ∃ k, k < xs.length ∧ (z = xs.getD k 0 ∨ z = -(xs.getD k 0)) := by
                have hz' : z ∈ canonL xs := hz
                unfold canonL at hz'
                split at hz'
                · obtain ⟨y, hy, e⟩ := List.mem_map.1 hz'
                  obtain ⟨k, hk, e2⟩ := List.getElem_of_mem hy
                  exact ⟨k, hk, .inr (by rw [← e, ← e2]; simp [List.getD_eq_getElem?_getD, List.getElem?_eq_getElem hk])⟩
                · obtain ⟨k, hk, e2⟩ := List.getElem_of_mem hz'
                  exact ⟨k, hk, .inl (by rw [← e2]; simp [List.getD_eq_getElem?_getD, List.getElem?_eq_getElem hk])⟩
              obtain ⟨k, hk, e⟩ := hz2
              have := hin k hk
              unfold I64
              rcases e with e | e <;> omega
            · show (canonL xs).length ≤ 100000000000000
              rw [length_canonL, HLX.out]; omega
          have hbel : Hid (Belongs nh hs (ls.getD i []) x) := by rw [hx, ← HXS.out]; exact ⟨hfine, rfl⟩
          have henc : Hid ([.int .i64 m, .slice (some ⟨g, 0, none⟩) nh c] = encN x) := by rw [hx, hnx]; rfl
          obtain ⟨X, hX⟩ : ∃ X, X = (w2.alloc (.cells #[.int .i64 m, .slice (some ⟨g, 0, none⟩) nh c] 76)).alloc (.cells #[.int .i64 m, .slice (some ⟨g, 0, none⟩) nh c] 76) := ⟨_, rfl⟩
          have hXb : Hid (Below w2.heap.size w2 X) := by rw [hX]; exact ((Below.refl _ _).alloc (Nat.le_refl _) _).alloc (by simp) _
          have hXp : Hid (Pr (w2.heap.size + 1) (.int .i64 m) (.slice (some ⟨g, 0, none⟩) nh c) X) := by rw [hX]; exact Pr.made _ _ _ _ (by simp)
          have hbX : Hid (Below wr.heap.size wr X) := hb2.trans (hXb.out.mono hb2.size)
          have hrX : Hid (X.ownsRow w.heap.size 76 2 v i (flatN f i)) := row_below hB.out.row hbX.out
          have hlX : Hid (ListAt X w1.heap.size v) := hB.out.list.of_heap (hbX.out.block _ hB.out.list.lt)
          have hl2 : ListAt w2 w1.heap.size v := hB.out.list.of_heap (hb2.block _ hB.out.list.lt)
          have l0 : (w2.alloc (.cells #[.int .i64 m, .slice (some ⟨g, 0, none⟩) nh c] 76)).cell? ⟨w1.heap.size, 0, none⟩ = some v := by
            rw [((Below.refl w2.heap.size w2).alloc (Nat.le_refl _) _).cell (p := ⟨w1.heap.size, 0, none⟩) hl2.lt]; exact hl2.c0
          have HXX : Hid ((w2.alloc (.cells #[.int .i64 m, .slice (some ⟨g, 0, none⟩) nh c] 76)).alloc (.cells #[.int .i64 m, .slice (some ⟨g, 0, none⟩) nh c] 76) = X) := hX.symm
          have HB2 := Lib.hid hb2
          have hXs : Hid (w.heap.size ≤ X.heap.size) := by have h1 := hB.out.below.size; have h2 := hbX.out.size; unfold Hid; omega
          clear hfine hown hnx hx hX hb2 hc
          go_wp2_with (at_builtin; refine wpList_append_own _ rfl _ _ 72 rfl w.heap.size 76 i0 (.agg #[.int .i64 0, .slice none 0 0]) 2 32 Tryz.underlying72 hi hz0 hz1 hz2 rfl (by decide) v i (flatN f i) rfl (HXX.out.symm ▸ hrX.out) ⟨w2.heap.size + 1, 0, none⟩ 1 1 [.int .i64 m, .slice (some ⟨g, 0, none⟩) nh c] rfl rfl ?c1 ?c2 ?c3 ?c4 ?c5 ?_)
          case c1 =>
            intro j u hj
            rw [HXX.out]
            rcases (by
              have := (List.getElem?_eq_some_iff.1 hj).1
              simp at this
              omega : j = 0 ∨ j = 1) with rfl | rfl
            · have e : u = .int .i64 m := by simpa using hj.symm
              rw [e]; exact hXp.out.c0
            · have e : u = .slice (some ⟨g, 0, none⟩) nh c := by simpa using hj.symm
              rw [e]; exact hXp.out.c1
          case c2 =>
            intro u hu
            simp only [List.mem_cons, List.not_mem_nil, or_false] at hu
            rcases hu with rfl | rfl <;> rfl
          case c3 => unfold maxLen; omega
          case c4 => omega
          case c5 => rw [HXX.out]; exact hXs.out
          intro v' w3 hown hgrow _
          rw [HXX.out] at hgrow
          rw [henc.out] at hown
          have hnew : Hid (Built w (w3.setCell ⟨w1.heap.size, 0, none⟩ v') nh hs ls w1.heap.size v' (i + 1) (fun c => if c = i then x else f c)) := hB.out.next hob HB2.out hxo.out hbel.out hXb.out hown hgrow
          have hl3 : ListAt w3 w1.heap.size v := hlX.out.of_heap (hgrow.block _ hlX.out.lt (hlX.out.row_ne hrX.out))
          have t0 := hl3.c0
          have t1 := hl3.fr 0
          obtain ⟨g', cap', rfl⟩ := row_slice hown (by omega)
          clear hl2 l0 hown hgrow hl3
          go_wp2_with fail
          go_roundw
          case rel => exact ⟨i + 1, _, _, by omega, by go_num, hnew⟩
          case measure => simp [intOf]; omega
        · have hno2 : Hid (¬AllFine nh hs ls) := fun h => by
            obtain ⟨m, hm⟩ := h.2 i (by rw [HLL.out]; exact hlt)
            rw [← HXS.out] at hm
            exact hno m hm
          have hbw : Hid (Below w.heap.size w (w2.alloc (.cells #[.int .i64 v0, .slice none 0 0] 76))) := (hB.out.below.trans (hb2.mono hB.out.below.size)).alloc (hB.out.below.trans (hb2.mono hB.out.below.size)).size _
          clear hno hc
          go_wp2_with fail
          go_ret2
          exact givesList_no hno2.out hbw.out
      · obtain rfl : i = nl := by omega
        obtain ⟨g, cap, rfl, hnc, hcm, hbg, hoF, cur, hgb⟩ := ownF_of_row hn1 hB.out.row
        have hat : Hid (OrdAt wr w1.heap.size g i cap) := ⟨hB.out.list.c0, hB.out.list.c1, hB.out.list.fr 0⟩
        have hgo : g ≠ w1.heap.size := fun e => by
          have h1 := hB.out.list
          unfold ListAt at h1
          rw [← e, hgb] at h1
          simp only [Option.some.injEq, Obj.cells.injEq] at h1
          exact absurd h1.2.1 (by decide)
        have hfar : Hid (∀ c, c < i → FarN wr g (f c)) := fun c hc => (hB.out.items c hc).1.far hgb (by decide)
        have HOF := Lib.hid hoF
        have HGB : Hid (∃ cur, wr.heap[g]? = some (.cells cur 76 (0, 0))) := ⟨cur, hgb⟩
        clear hoF hgb
        go_wp2_with fail
        refine (sortUnique_any w1.heap.size g i cap f _ hn1 (by omega) hnc hcm hat.out hgo HOF.out hfar.out).mono ?_
        rintro e w2 ⟨rfl, L, h, hL1, hL2, hm1, hm2, hasc, hoF2, hc0, htwo⟩
        have hyes : Hid (AllFine nh hs ls) := ⟨HRED.out, fun c hc => ⟨_, (hB.out.items c (by rw [← HLL.out]; exact hc)).2.1⟩⟩
        have hbe : Hid (∀ t, t < L → ∃ c, c < ls.length ∧ Belongs nh hs (ls.getD c []) (h t)) := fun t ht => by
          obtain ⟨c, hc, e⟩ := hm1 t ht
          exact ⟨c, by rw [HLL.out]; exact hc, by rw [e]; exact (hB.out.items c hc).2⟩
        have hbe2 : Hid (∀ c, c < ls.length → ∃ t, t < L ∧ Belongs nh hs (ls.getD c []) (h t)) := fun c hc => by
          rw [HLL.out] at hc
          obtain ⟨t, ht, e⟩ := hm2 c hc
          exact ⟨t, ht, (hB.out.items c hc).2.congr e⟩
        have hrd : Hid (∀ t, t < L → RdI w2 (h t).a (h t).cap (h t).vec ∧ (h t).vec.length ≤ 17592186044416) := fun t ht => by
          obtain ⟨c, hc, e⟩ := hm1 t ht
          rw [e]
          have hio := (hB.out.items c hc).1
          have hbel := (hB.out.items c hc).2
          obtain ⟨gi, ei, hoi⟩ := hio.at'
          obtain ⟨cur, hgb⟩ := HGB.out
          have n1 := hoi.ne hgb (by decide)
          have n2 := hoi.ne (hB.out.list : wr.heap[w1.heap.size]? = _) (by decide)
          refine ⟨?_, ?_⟩
          · rw [ei]
            exact (hoi.of_heap (htwo.block gi hoi.lt n1 n2)).rd hio.fits hio.lim
          · rw [hbel.2, length_canonL]
            have h1 := hbel.1.1.1
            have h2 := HRED.out.1.1.2
            have h3 := HLM.out
            omega
        have hB2 : Hid (Below w.heap.size w w2) := hB.out.below.trans (htwo.below hbg hob hB.out.below.size)
        have HASC := Lib.hid hasc
        have HO2 := Lib.hid hoF2
        have HTWO := Lib.hid htwo
        have hmk := fun W => run_make_row' (P := Tryz.prog) 22 23 (.slice none 0 0) 24 Tryz.underlying22 infoRows rfl .i64 .i64 L (by omega) (by omega) W
        clear hm1 hm2 hasc hoF2 htwo hat hfar HOF HGB
        obtain ⟨W4, hW4⟩ : ∃ W, W = w2.alloc (.cells (madeCells #[.slice none 0 0] L) 23) := ⟨_, rfl⟩
        have hrow4 : Hid (W4.rowIs w2.heap.size 23 L (fun t => if t < 0 then .slice (h t).a (h t).vec.length (h t).cap else .slice none 0 0)) := by
          rw [hW4]
          exact (World.rowIs_made w2 (.slice none 0 0) L 23).congr fun t _ => by rw [if_neg (Nat.not_lt_zero t)]
        have hb4 : Hid (Below w2.heap.size w2 W4) := by rw [hW4]; exact (Below.refl _ _).alloc (Nat.le_refl _) _
        have HW4 : Hid (w2.alloc (.cells (madeCells #[.slice none 0 0] L) 23) = W4) := hW4.symm
        have hc1 : (w2.alloc (.cells (madeCells #[.slice none 0 0] L) 23)).cell? ⟨w1.heap.size, 0, none⟩ = some (.slice (some ⟨g, 0, none⟩) L cap) := by
          rw [← hW4, hb4.out.cell (p := ⟨w1.heap.size, 0, none⟩) (World.block_lt_of_cell? _ _ hc0)]; exact hc0
        have hg2 : g < w2.heap.size := HO2.out.lt hL1
        have hbs := hB2.out.size
        clear hW4
        go_wp2_with fail
        rw [HW4.out]
        clear hc0 hc1 hmk
        go_loopw [47] (fun kk wq => ∃ k : Nat, k ≤ L ∧ kk = .int .i64 (k : Int) ∧ Hid (wq.rowIs w2.heap.size 23 L (fun t => if t < k then .slice (h t).a (h t).vec.length (h t).cap else .slice none 0 0)) ∧ Hid (Below w2.heap.size w2 wq)) (fun kk _ => L - (intOf kk).toNat)
        case atStart => exact ⟨0, by omega, rfl, hrow4, hb4⟩
        case round =>
          obtain ⟨k, hkL, rfl, hrow, hbq⟩ := hrel
          clear hrow4 hb4
          by_cases hk : k < L
          · have hOk := HO2.out.below hbq.out hg2
            have c0 := hOk.c0 k hk
            have c1 := hOk.c1 k hk
            have hcr := hrow.out.cell hk
            rw [if_neg (Nat.lt_irrefl k)] at hcr
            have hfr := hrow.out.frozen k
            obtain ⟨x, hx⟩ : ∃ x, x = h k := ⟨_, rfl⟩
            rw [← hx] at c0 c1
            have hltr := hrow.out.lt
            have e1 : (wr.alloc (.cells #[.int .i64 x.norm, .slice x.a x.vec.length x.cap] 76)).cell? ⟨w2.heap.size, k, none⟩ = some (.slice none 0 0) := by
              rw [((Below.refl wr.heap.size wr).alloc (Nat.le_refl _) _).cell (p := ⟨w2.heap.size, k, none⟩) hltr]; exact hcr
            have e2 : (wr.alloc (.cells #[.int .i64 x.norm, .slice x.a x.vec.length x.cap] 76)).frozen? ⟨w2.heap.size, k, none⟩ = false := by
              rw [((Below.refl wr.heap.size wr).alloc (Nat.le_refl _) _).frozen (p := ⟨w2.heap.size, k, none⟩) hltr]; exact hfr
            have hset : ∀ W : World, W.rowIs w2.heap.size 23 L (fun t => if t < k then .slice (h t).a (h t).vec.length (h t).cap else .slice none 0 0) → Hid ((W.setCell ⟨w2.heap.size, k, none⟩ (.slice x.a x.vec.length x.cap)).rowIs w2.heap.size 23 L (fun t => if t < k + 1 then .slice (h t).a (h t).vec.length (h t).cap else .slice none 0 0)) := fun W hW => by
              refine (hW.set k _).congr fun t ht => ?_
              by_cases e : t = k
              · rw [if_pos e, if_pos (by omega), e, ← hx]
              · rw [if_neg e]
                by_cases e2 : t < k
                · rw [if_pos e2, if_pos (by omega)]
                · rw [if_neg e2, if_neg (by omega)]
            have HSET := Lib.hid hset
            have hkl : (k : Int) < (L : Int) := by omega
            clear hOk hx hset
            go_wp2_with fail
            go_roundw
            case rel =>
              refine ⟨k + 1, by omega, by go_num, ?_, ?_⟩
              · first
                  | exact HSET.out _ (hrow.out.alloc _)
                  | exact (HSET.out _ hrow.out).alloc _
              · first
                  | exact (hbq.out.alloc hbq.out.size _).setCell (p := ⟨w2.heap.size, k, none⟩) (Nat.le_refl _) _
                  | exact (hbq.out.setCell (p := ⟨w2.heap.size, k, none⟩) (Nat.le_refl _) _).alloc (by simpa [World.setCell] using hbq.out.size) _
            case measure => simp [intOf]; omega
          · obtain rfl : k = L := by omega
            obtain ⟨out, hout⟩ : ∃ out, out = (List.range k).map fun t => (h t).vec := ⟨_, rfl⟩
            have hol : out.length = k := by rw [hout]; simp
            have hog : ∀ t, t < k → out.getD t [] = (h t).vec := fun t ht => by rw [hout]; simp [List.getD_eq_getElem?_getD, ht]
            have hend : Hid (GivesList w nh hs ls (.returned (.tuple #[.slice (some ⟨w2.heap.size, 0, none⟩) k k, .bool true])) wr) := by
              refine ⟨.inl ⟨hyes.out, out, some ⟨w2.heap.size, 0, none⟩, k, by rw [hol], ⟨by rw [hol]; exact Nat.le_refl _, fun t ht => ?_⟩, ?_⟩, hB2.out.trans (hbq.out.mono hbs)⟩
              · rw [hol] at ht
                have hc := hrow.out.cell ht
                rw [if_pos ht] at hc
                obtain ⟨h1, h2⟩ := hrd.out t ht
                exact ⟨w2.heap.size, 0, (h t).a, (h t).cap, rfl, by rw [Nat.zero_add, hog t ht]; exact hc, by rw [hog t ht]; exact h1.below hbq.out, by rw [hog t ht]; exact h2⟩
              · refine ⟨h, fun t ht => hbe.out t (by rw [← hol]; exact ht), fun c hc => ?_, fun a b hab hb => HASC.out a b hab (by rw [← hol]; exact hb), fun t ht => hog t (by rw [← hol]; exact ht)⟩
                rw [hol]
                exact hbe2.out c hc
            clear hout hol hog
            go_wp2_with fail
            go_ret2
            exact hend.out
end Go.Proofs.YtfpcfcegdjlggaaGreat
namespace Go.Proofs.YtfpcfcegdjlggaaGreat
open Go.RowKit Go.Shelf

/-- Lists laid one behind the other. -/
def layR : World → List (List Int) → World
  | w, [] => w
  | w, r :: rs => layR (w.alloc (.cells (i64s r).toArray 2)) rs
def outerC (b : Nat) : List (List Int) → List Value
  | [] => []
  | r :: rs => .slice (some ⟨b, 0, none⟩) r.length r.length :: outerC (b + 1) rs
def layM (w : World) (rs : List (List Int)) : World := (layR w rs).alloc (.cells (outerC w.heap.size rs).toArray 23)

theorem ownI_made (w : World) (zs : List Int) : OwnI (w.alloc (.cells (i64s zs).toArray 2)) w.heap.size zs :=
  ⟨_, heap_alloc_new w _, by rw [List.take_of_length_le (by simp [length_i64s])]⟩

theorem size_layR : ∀ (rs : List (List Int)) (w : World), (layR w rs).heap.size = w.heap.size + rs.length
  | [], w => rfl
  | r :: rs, w => by
    show (layR (w.alloc _) rs).heap.size = _
    rw [size_layR rs]
    simp
    omega
theorem below_layR : ∀ (rs : List (List Int)) (w : World), Below w.heap.size w (layR w rs)
  | [], w => Below.refl _ _
  | r :: rs, w => by
    have h1 : Below w.heap.size w (w.alloc (.cells (i64s r).toArray 2)) := (Below.refl _ _).alloc (Nat.le_refl _) _
    exact h1.trans ((below_layR rs _).mono h1.size)
theorem own_layR : ∀ (rs : List (List Int)) (w : World) (i : Nat), i < rs.length → OwnI (layR w rs) (w.heap.size + i) (rs.getD i [])
  | [], w, i, h => absurd h (Nat.not_lt_zero _)
  | r :: rs, w, 0, _ => by
    have h1 := ownI_made w r
    exact h1.below (below_layR rs _) h1.lt
  | r :: rs, w, i + 1, h => by
    have := own_layR rs (w.alloc (.cells (i64s r).toArray 2)) i (by simpa using h)
    rw [show (w.alloc (.cells (i64s r).toArray 2)).heap.size + i = w.heap.size + (i + 1) from by simp; omega] at this
    exact this

theorem outerC_get : ∀ (rs : List (List Int)) (b i : Nat), i < rs.length → (outerC b rs)[i]? = some (.slice (some ⟨b + i, 0, none⟩) (rs.getD i []).length (rs.getD i []).length)
  | [], b, i, h => absurd h (Nat.not_lt_zero _)
  | r :: rs, b, 0, _ => rfl
  | r :: rs, b, i + 1, h => by
    have := outerC_get rs (b + 1) i (by simpa using h)
    rw [show b + 1 + i = b + (i + 1) from by omega] at this
    exact this

theorem rd_layM (w : World) (rs : List (List Int)) (hl : ∀ r ∈ rs, (∀ x ∈ r, I64 x) ∧ r.length ≤ 17592186044416) : RdM (layM w rs) (some ⟨w.heap.size + rs.length, 0, none⟩) rs.length rs := by
  refine ⟨Nat.le_refl _, fun i hi => ⟨w.heap.size + rs.length, 0, some ⟨w.heap.size + i, 0, none⟩, (rs.getD i []).length, rfl, ?_, ?_, ?_⟩⟩
  · have hg := heap_alloc_new (layR w rs) (.cells (outerC w.heap.size rs).toArray 23)
    rw [size_layR] at hg
    unfold layM
    rw [cell_of_row _ _ _ _ _ (0, 0) hg, Nat.zero_add]
    simpa using outerC_get rs w.heap.size i hi
  · have ho := own_layR rs w i hi
    have hm : rs.getD i [] ∈ rs := by
      rw [List.getD_eq_getElem?_getD, List.getElem?_eq_getElem hi]
      exact List.getElem_mem hi
    exact (ho.rd (Nat.le_refl _) (hl _ hm).1).below ((Below.refl _ _).alloc (Nat.le_refl _) _)
  · have hm : rs.getD i [] ∈ rs := by
      rw [List.getD_eq_getElem?_getD, List.getElem?_eq_getElem hi]
      exact List.getElem_mem hi
    exact (hl _ hm).2
theorem below_layM (w : World) (rs : List (List Int)) : Below w.heap.size w (layM w rs) := (below_layR rs w).alloc (by rw [size_layR]; omega) _
theorem size_layM (w : World) (rs : List (List Int)) : (layM w rs).heap.size = w.heap.size + rs.length + 1 := by unfold layM; simp [size_layR]

/-- The form of the examples. -/
def exH : List (List Int) := [[2, 1], [1, 2]]
def exL : List (List Int) := [[-1, 1], [0, 2], [1, -1], [1, 0]]
def exO : List (List Int) := [[1, -1], [1, 0], [0, 2]]

theorem exH_ok : ReadOk exH := by
  refine ⟨⟨by decide, by decide⟩, ?_, ?_⟩
  · intro i hi
    have hi' : i < 2 := hi
    rcases (by omega : i = 0 ∨ i = 1) with rfl | rfl <;> rfl
  · intro i j hj hi
    have hi' : i < 2 := hi
    rcases (by omega : (i = 0 ∧ j = 0) ∨ (i = 1 ∧ j = 0) ∨ (i = 1 ∧ j = 1)) with ⟨rfl, rfl⟩ | ⟨rfl, rfl⟩ | ⟨rfl, rfl⟩ <;> exact ⟨rfl, by decide⟩

theorem exH_red : IsRed exH := by
  refine ⟨exH_ok, ?_⟩
  show Red 2 2 0 (cellsOf exH) 1
  refine ⟨⟨by decide, ?_, .inr (by decide)⟩, ?_, ?_⟩
  · intro i h1 h2
    obtain rfl : i = 1 := by omega
    decide
  · intro i j h1 h2 h3
    obtain rfl : i = 1 := by omega
    obtain rfl : j = 1 := by omega
    decide
  · refine ⟨⟨by decide, fun i h1 h2 => by omega, .inl rfl⟩, fun i j h1 h2 h3 => by omega, ?_⟩
    show next 2 (cellsOf exH) 0 1 (1 + 1 * 8 + 1) ≤ 10000
    decide

theorem lim_unique {S m : Int} (h : IsLim S m) (h1 : -4611686018427387904 ≤ S) (h2 : S ≤ 4611686018427387904) : m = S := by
  obtain ⟨a, b, c⟩ := h
  omega
theorem ex_fine (c : Nat) (hc : c < exL.length) : Fine 2 exH (exL.getD c []) (if c = 1 then 8 else 2) := by
  have hc' : c < 4 := hc
  rcases (by omega : c = 0 ∨ c = 1 ∨ c = 2 ∨ c = 3) with rfl | rfl | rfl | rfl
  all_goals exact ⟨⟨rfl, by decide⟩, by unfold IsLim; decide, by decide⟩

theorem ex_norm (c : Nat) (hc : c < exL.length) {m : Int} (h : Fine 2 exH (exL.getD c []) m) : m = if c = 1 then 8 else 2 := by
  have hc' : c < 4 := hc
  rcases (by omega : c = 0 ∨ c = 1 ∨ c = 2 ∨ c = 3) with rfl | rfl | rfl | rfl
  all_goals exact lim_unique h.2.1 (by decide) (by decide)

theorem ex_all : AllFine 2 exH exL := ⟨exH_red, fun c hc => ⟨_, ex_fine c hc⟩⟩

/-- The three items of the example. -/
def exI : Nat → Item
  | 0 => ⟨2, [1, -1], none, 0⟩
  | 1 => ⟨2, [1, 0], none, 0⟩
  | _ => ⟨8, [0, 2], none, 0⟩

theorem cfN_key {x y x' y' : Item} (h1 : x.norm = x'.norm) (h2 : x.vec = x'.vec) (h3 : y.norm = y'.norm) (h4 : y.vec = y'.vec) : cfN x y = cfN x' y' := by
  unfold cfN
  rw [h1, h2, h3, h4]

theorem ex_class (c : Nat) (hc : c < exL.length) {h : Item} (hb : Belongs 2 exH (exL.getD c []) h) : ∃ k, k < 3 ∧ h.norm = (exI k).norm ∧ h.vec = (exI k).vec ∧ (k = if c = 1 then 2 else if c = 3 then 1 else 0) := by
  have hn := ex_norm c hc hb.1
  have hv := hb.2
  have hc' : c < 4 := hc
  rcases (by omega : c = 0 ∨ c = 1 ∨ c = 2 ∨ c = 3) with rfl | rfl | rfl | rfl
  · exact ⟨0, by omega, hn, hv, rfl⟩
  · exact ⟨2, by omega, hn, hv, rfl⟩
  · exact ⟨0, by omega, hn, hv, rfl⟩
  · exact ⟨1, by omega, hn, hv, rfl⟩

theorem exI_lt (a b : Nat) (ha : a < 3) (hb : b < 3) (h : cfN (exI a) (exI b) < 0) : a < b := by
  rcases (by omega : a = 0 ∨ a = 1 ∨ a = 2) with rfl | rfl | rfl <;> rcases (by omega : b = 0 ∨ b = 1 ∨ b = 2) with rfl | rfl | rfl <;> first | omega | exact absurd h (by decide)

theorem ex_out {out : List (List Int)} (h : IsList 2 exH exL out) : out = exO := by
  obtain ⟨g, hA, hB, hC, hD⟩ := h
  have hk : ∀ i, ∃ k, i < out.length → k < 3 ∧ (g i).norm = (exI k).norm ∧ (g i).vec = (exI k).vec := by
    intro i
    by_cases hi : i < out.length
    · obtain ⟨c, hc, hb⟩ := hA i hi
      obtain ⟨k, h1, h2, h3, _⟩ := ex_class c hc hb
      exact ⟨k, fun _ => ⟨h1, h2, h3⟩⟩
    · exact ⟨0, fun h => absurd h hi⟩
  obtain ⟨k, hk⟩ := Classical.axiomOfChoice hk
  have hasc : ∀ i j, i < j → j < out.length → k i < k j := by
    intro i j hij hj
    obtain ⟨a1, a2, a3⟩ := hk i (by omega)
    obtain ⟨b1, b2, b3⟩ := hk j hj
    have := hC i j hij hj
    rw [cfN_key a2 a3 b2 b3] at this
    exact exI_lt _ _ a1 b1 this
  have hsur : ∀ c, c < 4 → ∃ i, i < out.length ∧ k i = if c = 1 then 2 else if c = 3 then 1 else 0 := by
    intro c hc
    obtain ⟨i, hi, hb⟩ := hB c hc
    obtain ⟨k', h1, h2, h3, h4⟩ := ex_class c hc hb
    obtain ⟨a1, a2, a3⟩ := hk i hi
    refine ⟨i, hi, ?_⟩
    rw [← h4]
    have e1 : (exI (k i)).norm = (exI k').norm := by rw [← a2, h2]
    have e2 : (exI (k i)).vec = (exI k').vec := by rw [← a3, h3]
    rcases (by omega : k i = 0 ∨ k i = 1 ∨ k i = 2) with e | e | e <;> rcases (by omega : k' = 0 ∨ k' = 1 ∨ k' = 2) with e' | e' | e' <;> rw [e, e'] at e1 e2 <;> first | omega | exact absurd e1 (by decide) | exact absurd e2 (by decide)
  obtain ⟨i0, h0, e0⟩ := hsur 0 (by omega)
  obtain ⟨i1, h1, e1⟩ := hsur 3 (by omega)
  obtain ⟨i2, h2, e2⟩ := hsur 1 (by omega)
  have f0 : k i0 = 0 := e0
  have f1 : k i1 = 1 := e1
  have f2 : k i2 = 2 := e2
  have l01 : i0 < i1 := by
    rcases Nat.lt_trichotomy i0 i1 with h | h | h
    · exact h
    · subst h; omega
    · have := hasc i1 i0 h h0; omega
  have l12 : i1 < i2 := by
    rcases Nat.lt_trichotomy i1 i2 with h | h | h
    · exact h
    · subst h; omega
    · have := hasc i2 i1 h h1; omega
  have hlen : out.length = 3 := by
    by_cases h : 3 < out.length
    · have a := hasc 0 1 (by omega) (by omega)
      have b := hasc 1 2 (by omega) (by omega)
      have c := hasc 2 3 (by omega) h
      have := (hk 3 h).1
      omega
    · omega
  have a := hasc 0 1 (by omega) (by omega)
  have b := hasc 1 2 (by omega) (by omega)
  have c := (hk 2 (by omega)).1
  have k0 : k 0 = 0 := by omega
  have k1 : k 1 = 1 := by omega
  have k2 : k 2 = 2 := by omega
  have g0 := hD 0 (by omega)
  have g1 := hD 1 (by omega)
  have g2 := hD 2 (by omega)
  rw [(hk 0 (by omega)).2.2, k0] at g0
  rw [(hk 1 (by omega)).2.2, k1] at g1
  rw [(hk 2 (by omega)).2.2, k2] at g2
  match out, hlen with
  | [x, y, z], _ =>
    have g0' : x = [1, -1] := g0
    have g1' : y = [1, 0] := g1
    have g2' : z = [0, 2] := g2
    rw [g0', g1', g2']
    rfl

theorem layM_eq (V : World) (rs : List (List Int)) {b : Nat} (hb : V.heap.size = b) : layM V rs = (layR V rs).alloc (.cells (outerC b rs).toArray 23) := by subst hb; rfl

theorem ex_sign : sgnL [0, -3, 1] ≠ 0 ∧ InR [0, -3, 1] := ⟨by decide, by decide⟩

theorem rd_made (w : World) (zs : List Int) (h : ∀ x ∈ zs, I64 x) : RdI (w.alloc (.cells (i64s zs).toArray 2)) (some ⟨w.heap.size, 0, none⟩) zs.length zs := (ownI_made w zs).rd (Nat.le_refl _) h

theorem small_I64 : (∀ r ∈ exH, (∀ x ∈ r, I64 x) ∧ r.length ≤ 17592186044416) ∧ (∀ r ∈ exL, (∀ x ∈ r, I64 x) ∧ r.length ≤ 17592186044416) ∧ (∀ r ∈ exO, (∀ x ∈ r, I64 x) ∧ r.length ≤ 17592186044416) := by
  refine ⟨?_, ?_, ?_⟩ <;> (unfold I64; decide)

set_option maxRecDepth 100000 in
set_option maxHeartbeats 4000000 in
theorem vawake_any (w : World) : Calls Tryz.prog 14 #[] w fun e w' => e = .returned (.bool true) ∧ Below w.heap.size w w' := by
  have s1 : (layM w exH).heap.size = w.heap.size + 1 + 1 + 1 := size_layM w exH
  obtain ⟨V, hV⟩ : ∃ V, V = layM (layM w exH) exL := ⟨_, rfl⟩
  have HW8 : Hid (((((((((w.alloc (.cells #[.int .i64 2, .int .i64 1] 2)).alloc (.cells #[.int .i64 1, .int .i64 2] 2)).alloc (.cells #[.slice (some ⟨w.heap.size, 0, none⟩) 2 2, .slice (some ⟨w.heap.size + 1, 0, none⟩) 2 2] 23)).alloc
      (.cells #[.int .i64 (-1), .int .i64 1] 2)).alloc (.cells #[.int .i64 0, .int .i64 2] 2)).alloc (.cells #[.int .i64 1, .int .i64 (-1)] 2)).alloc (.cells #[.int .i64 1, .int .i64 0] 2)).alloc
      (.cells #[.slice (some ⟨w.heap.size + 1 + 1 + 1, 0, none⟩) 2 2, .slice (some ⟨w.heap.size + 1 + 1 + 1 + 1, 0, none⟩) 2 2, .slice (some ⟨w.heap.size + 1 + 1 + 1 + 1 + 1, 0, none⟩) 2 2, .slice (some ⟨w.heap.size + 1 + 1 + 1 + 1 + 1 + 1, 0, none⟩) 2 2] 23)) = V) := by
    unfold Hid
    rw [hV, layM_eq _ exL s1]
    rfl
  have hbV : Below w.heap.size w V := by
    rw [hV]
    exact (below_layM w exH).trans ((below_layM _ exL).mono (by rw [s1]; omega))
  have hH : RdM V (some ⟨w.heap.size + 1 + 1, 0, none⟩) 2 exH := by
    rw [hV]
    exact (rd_layM w exH small_I64.1).below (below_layM _ exL)
  have hL : RdM V (some ⟨w.heap.size + 1 + 1 + 1 + 1 + 1 + 1 + 1, 0, none⟩) 4 exL := by
    rw [hV]
    have h := rd_layM (layM w exH) exL small_I64.2.1
    rw [s1] at h
    exact h
  have HH := Lib.hid hH
  have HL := Lib.hid hL
  have HBV := Lib.hid hbV
  clear hV s1 hbV hH hL
  go_enter Tryz.func14, Tryz.ntmps14
  go_wp2_with fail
  rw [HW8.out]
  refine (sortUnique2_any _ _ 2 2 4 4 exH exL V HH.out rfl (by omega) HL.out rfl (by omega) (by omega)).mono ?_
  rintro e w1 ⟨(⟨_, out, ao, co, rfl, hro, hlist⟩ | ⟨hno, _⟩), hb1⟩
  · obtain rfl := ex_out hlist
    have hb1' : Hid (Below w.heap.size w w1) := HBV.out.trans (hb1.mono HBV.out.size)
    obtain ⟨W2, hW2⟩ : ∃ W, W = w1.alloc (.cells #[.int .i64 1, .int .i64 (-1)] 2) := ⟨_, rfl⟩
    have hb2 : Below w1.heap.size w1 W2 := by rw [hW2]; exact (Below.refl _ _).alloc (Nat.le_refl _) _
    have HW2 : Hid (w1.alloc (.cells #[.int .i64 1, .int .i64 (-1)] 2) = W2) := hW2.symm
    have hr2 : Hid (RdI W2 (some ⟨w1.heap.size, 0, none⟩) 2 [1, -1]) := by rw [hW2]; exact rd_made w1 [1, -1] (by unfold I64; decide)
    have hH2 : Hid (RdM W2 (some ⟨w.heap.size + 1 + 1, 0, none⟩) 2 exH) := (HH.out.below hb1).below hb2
    have hO2 : Hid (RdM W2 ao co exO) := hro.below hb2
    have hB2 : Hid (Below w.heap.size w W2) := hb1'.out.trans (hb2.mono hb1'.out.size)
    clear hb1 hro hlist hW2 hb2
    have hlen : exO.length = 3 := rfl
    rw [hlen]
    clear hlen
    go_wp2_with fail
    rw [HW2.out]
    refine (norm_any _ _ 2 2 2 2 exH [1, -1] W2 hH2.out rfl (by omega) hr2.out rfl (by omega)).mono ?_
    rintro e w3 ⟨(⟨m, hp, hm, rfl⟩ | ⟨hno, _⟩), hb3⟩
    · have hm2 : m = 2 := lim_unique (S := innerS exH [1, -1] [1, -1] 2) hm (by decide) (by decide)
      subst hm2
      have hB3 : Hid (Below w.heap.size w w3) := hB2.out.trans (hb3.mono hB2.out.size)
      have hO3 : Hid (RdM w3 ao co exO) := hO2.out.below hb3
      obtain ⟨W4, hW4⟩ : ∃ W, W = w3.alloc (.cells #[.int .i64 0, .int .i64 (-3), .int .i64 1] 2) := ⟨_, rfl⟩
      have hb4 : Below w3.heap.size w3 W4 := by rw [hW4]; exact (Below.refl _ _).alloc (Nat.le_refl _) _
      have HW4 : Hid (w3.alloc (.cells #[.int .i64 0, .int .i64 (-3), .int .i64 1] 2) = W4) := hW4.symm
      have hr4 : Hid (RdI W4 (some ⟨w3.heap.size, 0, none⟩) 3 [0, -3, 1]) := by rw [hW4]; exact rd_made w3 [0, -3, 1] (by unfold I64; decide)
      have hO4 : Hid (RdM W4 ao co exO) := hO3.out.below hb4
      have hB4 : Hid (Below w.heap.size w W4) := hB3.out.trans (hb4.mono hB3.out.size)
      clear hb3 hW4 hb4 hp hm
      go_wp2_with fail
      rw [HW4.out]
      refine (csign_any _ 3 3 [0, -3, 1] W4 hr4.out rfl (by omega)).mono ?_
      rintro e w5 ⟨(⟨_, _, gx, cx, rfl, hcx, _, hox⟩ | ⟨hno, _⟩), hb5⟩
      · have hB5 : Hid (Below w.heap.size w w5) := hB4.out.trans (hb5.mono hB4.out.size)
        have hO5 : Hid (RdM w5 ao co exO) := hO4.out.below hb5
        have hx5 : Hid (RdI w5 (some ⟨gx, 0, none⟩) cx [0, 3, -1]) := by
          have e : canonL [0, -3, 1] = [0, 3, -1] := by decide
          rw [e] at hox
          exact hox.rd hcx (by unfold I64; decide)
        obtain ⟨W6, hW6⟩ : ∃ W, W = layM w5 exO := ⟨_, rfl⟩
        have hb6 : Below w5.heap.size w5 W6 := by rw [hW6]; exact below_layM w5 exO
        have hE6 : Hid (RdM W6 (some ⟨w5.heap.size + 1 + 1 + 1, 0, none⟩) 3 exO) := by rw [hW6]; exact rd_layM w5 exO small_I64.2.2
        have HW6 : Hid ((((w5.alloc (.cells #[.int .i64 1, .int .i64 (-1)] 2)).alloc (.cells #[.int .i64 1, .int .i64 0] 2)).alloc (.cells #[.int .i64 0, .int .i64 2] 2)).alloc
            (.cells #[.slice (some ⟨w5.heap.size, 0, none⟩) 2 2, .slice (some ⟨w5.heap.size + 1, 0, none⟩) 2 2, .slice (some ⟨w5.heap.size + 1 + 1, 0, none⟩) 2 2] 23) = W6) := by
          unfold Hid
          rw [hW6]; rfl
        have hO6 : Hid (RdM W6 ao co exO) := hO5.out.below hb6
        have hx6 : Hid (RdI W6 (some ⟨gx, 0, none⟩) cx [0, 3, -1]) := hx5.out.below hb6
        have hB6 : Hid (Below w.heap.size w W6) := hB5.out.trans (hb6.mono hB5.out.size)
        have hlx : ([0, -3, 1] : List Int).length = 3 := rfl
        rw [hlx]
        clear hlx hb5 hox hcx hW6 hb6
        go_wp2_with fail
        rw [HW6.out]
        refine (rsame_any ao _ 3 co 3 3 exO exO W6 hO6.out rfl hE6.out rfl (by omega) (by omega)).mono ?_
        rintro e w7 ⟨r, rfl, hr, q, rfl⟩
        have hrt : r = true := hr.2 ⟨rfl, fun _ _ => rfl⟩
        subst hrt
        have hx7 : RdI (W6.drewN q) (some ⟨gx, 0, none⟩) cx [0, 3, -1] := hx6.out.below (below_drewN' (Below.refl _ _) q)
        obtain ⟨W8, hW8⟩ : ∃ W, W = (W6.drewN q).alloc (.cells #[.int .i64 0, .int .i64 3, .int .i64 (-1)] 2) := ⟨_, rfl⟩
        have hb8 : Below (W6.drewN q).heap.size (W6.drewN q) W8 := by rw [hW8]; exact (Below.refl _ _).alloc (Nat.le_refl _) _
        have HW8b : Hid ((W6.drewN q).alloc (.cells #[.int .i64 0, .int .i64 3, .int .i64 (-1)] 2) = W8) := hW8.symm
        have hx8 : Hid (RdI W8 (some ⟨gx, 0, none⟩) cx [0, 3, -1]) := hx7.below hb8
        have hy8 : Hid (RdI W8 (some ⟨W6.heap.size, 0, none⟩) 3 [0, 3, -1]) := by rw [hW8]; exact rd_made (W6.drewN q) [0, 3, -1] (by unfold I64; decide)
        have hB8 : Hid (Below w.heap.size w W8) := by
          have h := below_drewN' hB6.out q
          exact h.trans (hb8.mono h.size)
        clear hr hx7 hW8 hb8
        go_wp2_with fail
        rw [HW8b.out]
        refine (rcompare_any _ _ 3 cx 3 3 [0, 3, -1] [0, 3, -1] W8 hx8.out rfl hy8.out rfl (by omega) (by omega)).mono ?_
        rintro e w9 ⟨rfl, q2, rfl⟩
        rw [cmpL_self0]
        have hB9 : Hid (Below w.heap.size w (W8.drewN q2)) := below_drewN' hB8.out q2
        go_wp2_with fail
        go_ret
        exact ⟨rfl, hB9.out⟩
      · exact absurd ex_sign hno
    · exact absurd ⟨⟨exH_red, ⟨rfl, by decide⟩, ⟨rfl, by decide⟩⟩, by unfold IsLim; decide⟩ (hno 2)
  · exact absurd ex_all hno
end Go.Proofs.YtfpcfcegdjlggaaGreat
