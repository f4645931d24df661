/-
  The contract of sortUnique.
-/
import Derived.Test.YtdpgkegfkobdoaaYO
import Derived.StillTailTactics
namespace Go.Proofs.Ytdpgkegfkobdoaa
open Go.RowKit Go.Shelf

/-- Only blocks g and o have changed, and what is new. -/
structure Two (g o : Nat) (w w' : World) : Prop where
  os : w'.os = w.os
  tape : w'.tape = w.tape
  output : w'.output = w.output
  size : w.heap.size ≤ w'.heap.size
  block : ∀ k, k < w.heap.size → k ≠ g → k ≠ o → w'.heap[k]? = w.heap[k]?

theorem Two.refl (g o : Nat) (w : World) : Two g o w w := ⟨rfl, rfl, rfl, Nat.le_refl _, fun _ _ _ _ => rfl⟩
theorem Two.of_below {g o : Nat} {a w : World} (h : Below a.heap.size a w) : Two g o a w := ⟨h.os, h.tape, h.output, h.size, fun k hk _ _ => h.block k hk⟩
theorem Two.of_grown {g o : Nat} {a w : World} (h : a.grownBy w (some g)) : Two g o a w :=
  ⟨h.os, h.tape, h.output, h.size, fun k hk hg _ => h.block k hk (fun e => hg (by simp at e; omega))⟩
theorem Two.trans {g o : Nat} {a b c : World} (h : Two g o a b) (k : Two g o b c) : Two g o a c :=
  ⟨k.os.trans h.os, k.tape.trans h.tape, k.output.trans h.output, Nat.le_trans h.size k.size, fun i hi hg ho => (k.block i (Nat.lt_of_lt_of_le hi h.size) hg ho).trans (h.block i hi hg ho)⟩
theorem Two.drewN {g o : Nat} {a w : World} (h : Two g o a w) (n : Nat) : Two g o a (w.drewN n) := ⟨h.os, h.tape, h.output, h.size, h.block⟩
theorem Two.setCell {g o : Nat} {a w : World} (h : Two g o a w) (i : Nat) (v : Value) : Two g o a (w.setCell ⟨o, i, none⟩ v) :=
  ⟨h.os, h.tape, h.output, by simpa [World.setCell] using h.size, fun k hk hg ho => (Below.heap_setCell w ⟨o, i, none⟩ v k ho).trans (h.block k hk hg ho)⟩
theorem Two.cell {g o : Nat} {a w : World} (h : Two g o a w) {p : Addr} (hp : p.block < a.heap.size) (hg : p.block ≠ g) (ho : p.block ≠ o) : w.cell? p = a.cell? p := World.cell?_of_block (w := a) (h.block p.block hp hg ho)
theorem Two.below {g o B : Nat} {a w : World} (h : Two g o a w) (hg : B ≤ g) (ho : B ≤ o) (hB : B ≤ a.heap.size) : Below B a w :=
  ⟨h.os, h.tape, h.output, h.size, fun k hk => h.block k (by omega) (by omega) (by omega)⟩

/-- The list and its order: block o. -/
structure OrdAt (w : World) (o g n cap : Nat) : Prop where
  c0 : w.cell? ⟨o, 0, none⟩ = some (.slice (some ⟨g, 0, none⟩) n cap)
  c1 : w.cell? ⟨o, 1, none⟩ = some (.func (.func 28) #[] #[])
  f0 : w.frozen? ⟨o, 0, none⟩ = false

/-- What sortUnique gives: the items once each, in order. -/
def GivesUnique (w : World) (o g n cap : Nat) (f : Nat → Item) (e : Ending) (w' : World) : Prop :=
  e = .returned (.tuple #[]) ∧ ∃ L : Nat, ∃ h : Nat → Item, 1 ≤ L ∧ L ≤ n ∧ (∀ i, i < L → ∃ j, j < n ∧ h i = f j) ∧ (∀ j, j < n → ∃ i, i < L ∧ cfN (h i) (f j) = 0) ∧ (∀ i j, i < j → j < L → cfN (h i) (h j) < 0) ∧
    OwnF w' g L h ∧ w'.cell? ⟨o, 0, none⟩ = some (.slice (some ⟨g, 0, none⟩) L cap) ∧ Two g o w w'

theorem kept_mem {f : Nat → Item} : ∀ m i, i < (kept f m).length → ∃ j, j < m ∧ (kept f m).getD i zI = f j := by
  intro m
  induction m with
  | zero => intro i hi; exact absurd hi (Nat.not_lt_zero _)
  | succ m ih =>
    intro i
    show i < (if m ≠ 0 ∧ cfN (f m) (f (m - 1)) = 0 then kept f m else kept f m ++ [f m] : List Item).length → ∃ j, j < m + 1 ∧ (if m ≠ 0 ∧ cfN (f m) (f (m - 1)) = 0 then kept f m else kept f m ++ [f m] : List Item).getD i zI = f j
    split
    · intro hi
      obtain ⟨j, hj, e⟩ := ih i hi
      exact ⟨j, by omega, e⟩
    · intro hi
      by_cases h : i < (kept f m).length
      · obtain ⟨j, hj, e⟩ := ih i h
        refine ⟨j, by omega, ?_⟩
        rw [← e, List.getD_eq_getElem?_getD, List.getD_eq_getElem?_getD, List.getElem?_append_left h]
      · have h2 : i = (kept f m).length := by simp at hi; omega
        refine ⟨m, by omega, ?_⟩
        rw [h2, List.getD_eq_getElem?_getD, List.getElem?_append_right (Nat.le_refl _)]
        simp

theorem kept_has {f : Nat → Item} : ∀ m j, j < m → ∃ i, i < (kept f m).length ∧ cfN ((kept f m).getD i zI) (f j) = 0 := by
  intro m
  induction m with
  | zero => intro j hj; omega
  | succ m ih =>
    intro j hj
    show ∃ i, i < (if m ≠ 0 ∧ cfN (f m) (f (m - 1)) = 0 then kept f m else kept f m ++ [f m] : List Item).length ∧ cfN ((if m ≠ 0 ∧ cfN (f m) (f (m - 1)) = 0 then kept f m else kept f m ++ [f m] : List Item).getD i zI) (f j) = 0
    split
    · rename_i hc
      by_cases h : j < m
      · exact ih j h
      · obtain rfl : j = m := by omega
        obtain ⟨i, hi, e⟩ := ih (j - 1) (by omega)
        refine ⟨i, hi, ?_⟩
        rw [(cfN_congr hc.2).2]
        exact e
    · by_cases h : j < m
      · obtain ⟨i, hi, e⟩ := ih j h
        refine ⟨i, by simp; omega, ?_⟩
        rw [List.getD_eq_getElem?_getD, List.getElem?_append_left hi, ← List.getD_eq_getElem?_getD]
        exact e
      · obtain rfl : j = m := by omega
        refine ⟨(kept f j).length, by simp, ?_⟩
        rw [List.getD_eq_getElem?_getD, List.getElem?_append_right (Nat.le_refl _)]
        simp [cfN_self]

theorem below_next {f : Nat → Item} {n : Nat} (hs : ∀ i j, i < j → j < n → ¬cfN (f j) (f i) < 0) {m j : Nat} (hj : j < m + 1) (hm : m + 1 < n) (hne : cfN (f (m + 1)) (f m) ≠ 0) : cfN (f j) (f (m + 1)) < 0 := by
  have h1 := hs m (m + 1) (by omega) hm
  have n1 := cfN_neg (f m) (f (m + 1))
  have h2 : cfN (f m) (f (m + 1)) < 0 := by omega
  by_cases e : j = m
  · rw [e]; exact h2
  · have h3 := hs j m (by omega) (by omega)
    have n2 := cfN_neg (f j) (f m)
    by_cases e0 : cfN (f j) (f m) = 0
    · rw [(cfN_congr e0).1]; exact h2
    · exact cfN_trans (y := f m) (by omega) h2

/-- Of a list in order what is kept ascends. -/
theorem kept_asc {f : Nat → Item} {n : Nat} (hs : ∀ i j, i < j → j < n → ¬cfN (f j) (f i) < 0) : ∀ m, m ≤ n → ∀ i j, i < j → j < (kept f m).length → cfN ((kept f m).getD i zI) ((kept f m).getD j zI) < 0 := by
  intro m
  induction m with
  | zero => intro _ i j _ h; exact absurd h (Nat.not_lt_zero _)
  | succ m ih =>
    intro hm i j hij hj
    cases m with
    | zero =>
      rw [kept_one] at hj
      simp at hj
      omega
    | succ m =>
      by_cases he : cfN (f (m + 1)) (f m) = 0
      · rw [kept_skip he] at hj ⊢
        exact ih (by omega) i j hij hj
      · have hl : (kept f (m + 2)).length = (kept f (m + 1)).length + 1 := by rw [kept_take he]; simp
        rw [hl] at hj
        rw [kept_get rfl he i, kept_get rfl he j, if_neg (by omega)]
        by_cases hjl : j = (kept f (m + 1)).length
        · rw [if_pos hjl]
          obtain ⟨t, ht, e⟩ := kept_mem (f := f) (m + 1) i (by omega)
          rw [e]
          exact below_next hs ht (by omega) he
        · rw [if_neg hjl]
          exact ih (by omega) i j hij (by omega)

theorem length_kept_pos {f : Nat → Item} {m : Nat} (h : 0 < m) : 1 ≤ (kept f m).length := by
  obtain ⟨i, hi, _⟩ := kept_has (f := f) m 0 h
  omega


theorem FarN.grown {w wr : World} {g : Nat} {x : Item} (h : FarN w g x) (hg : w.grownBy wr (some g)) : FarN wr g x := by
  refine ⟨⟨⟨h.1.1.fits, h.1.1.lim, fun i hi => ?_⟩, h.1.2⟩, h.2⟩
  obtain ⟨b, o, e, hc⟩ := h.1.1.cells i hi
  refine ⟨b, o, e, ?_⟩
  have hb := h.2 (fun h0 => by rw [h0] at hi; simp at hi) b o e
  rw [← hc]
  exact World.cell?_of_block (w := w) (hg.block b (World.block_lt_of_cell? w _ hc) (fun e' => hb (by simp at e'; omega)))
theorem FarN.below {w wr : World} {g : Nat} {x : Item} (h : FarN w g x) (hb : Below w.heap.size w wr) : FarN wr g x := ⟨⟨h.1.1.below hb, h.1.2⟩, h.2⟩

theorem cell_grownBy {w wr : World} {g : Nat} (hg : w.grownBy wr (some g)) {p : Addr} {v : Value} (hne : p.block ≠ g) (h : w.cell? p = some v) : wr.cell? p = some v := by
  rw [← h]
  exact World.cell?_of_block (w := w) (hg.block p.block (World.block_lt_of_cell? w _ h) (fun e => hne (by simp at e; omega)))
theorem frozen_grownBy {w wr : World} {g : Nat} (hg : w.grownBy wr (some g)) {p : Addr} (hlt : p.block < w.heap.size) (hne : p.block ≠ g) : wr.frozen? p = w.frozen? p :=
  World.frozen?_of_block (w := w) (hg.block p.block hlt (fun e => hne (by simp at e; omega)))

theorem OwnF.below {w wr : World} {g n B : Nat} {f : Nat → Item} (h : OwnF w g n f) (hb : Below B w wr) (hg : g < B) : OwnF wr g n f :=
  ⟨fun i hi => by rw [hb.cell (p := ⟨g, i * 2, none⟩) hg]; exact h.c0 i hi, fun i hi => by rw [hb.cell (p := ⟨g, i * 2 + 1, none⟩) hg]; exact h.c1 i hi, fun i hi => by rw [hb.frozen (p := ⟨g, i, none⟩) hg]; exact h.fr i hi⟩
theorem OwnF.far {w : World} {g n : Nat} {f : Nat → Item} (h : OwnF w g n f) {a : Addr} (hne : g ≠ a.block) (u : Value) : OwnF (w.setCell a u) g n f :=
  ⟨fun i hi => by rw [World.cell?_setCell_far _ _ _ _ (fun e => hne e.symm)]; exact h.c0 i hi, fun i hi => by rw [World.cell?_setCell_far _ _ _ _ (fun e => hne e.symm)]; exact h.c1 i hi, fun i hi => by simp [h.fr i hi]⟩

theorem OwnF.drew {w : World} {g n : Nat} {f : Nat → Item} (h : OwnF w g n f) : OwnF w.drew g n f := ⟨h.c0, h.c1, h.fr⟩
theorem grownBy_drew {a w : World} {row : Option Nat} (h : a.drew.grownBy w row) : a.grownBy w row := ⟨h.os, h.tape, h.output, h.size, h.block⟩
set_option maxRecDepth 100000 in
set_option maxHeartbeats 4000000 in
theorem sortUnique_any (o g n cap : Nat) (f : Nat → Item) (w : World) (hn : 1 ≤ n) (hn3 : n ≤ 1000000000000) (hcap : n ≤ cap) (hn2 : cap ≤ 9223372036854775807) (ho : OrdAt w o g n cap) (hgo : g ≠ o) (hown : OwnF w g n f)
    (hf : ∀ i, i < n → FarN w g (f i)) :
    Calls Try.prog 30 #[.pointer (some ⟨o, 0, none⟩)] w (GivesUnique w o g n cap f) := by
  obtain ⟨W, hW⟩ : ∃ W, W = w.alloc (.cells #[.pointer (some ⟨o, 0, none⟩)] 69) := ⟨_, rfl⟩
  have hb : Below w.heap.size w W := by rw [hW]; exact (Below.refl _ _).alloc (Nat.le_refl _) _
  have hlt := hown.lt hn
  have holt : o < w.heap.size := World.block_lt_of_cell? w _ ho.c0
  have hbx : W.cell? ⟨w.heap.size, 0, none⟩ = some (.pointer (some ⟨o, 0, none⟩)) := by
    rw [hW, cell_of_row _ _ 0 _ _ (0, 0) (heap_alloc_last w _)]; rfl
  have h1 : W.cell? ⟨o, 0, none⟩ = some (.slice (some ⟨g, 0, none⟩) n cap) := by rw [hb.cell (p := ⟨o, 0, none⟩) holt]; exact ho.c0
  have h2 : W.cell? ⟨o, 1, none⟩ = some (.func (.func 28) #[] #[]) := by rw [hb.cell (p := ⟨o, 1, none⟩) holt]; exact ho.c1
  have h3 : W.frozen? ⟨o, 0, none⟩ = false := by rw [hb.frozen (p := ⟨o, 0, none⟩) holt]; exact ho.f0
  have hltW : g < W.heap.size := Nat.lt_of_lt_of_le hlt hb.size
  have holtW : o < W.heap.size := Nat.lt_of_lt_of_le holt hb.size
  have HBX := Lib.hid hbx
  have H2 := Lib.hid h2
  have H3 := Lib.hid h3
  have H1 := Lib.hid h1
  have HB := Lib.hid hb
  have hmix := mixed
  have HF : Hid (∀ i, i < n → FarN W g (f i)) := fun i hi => (hf i hi).below hb
  have HOWN : Hid (OwnF W g n f) := hown.below hb hlt
  have HWW : Hid (w.alloc (.cells #[.pointer (some ⟨o, 0, none⟩)] 69) = W) := hW.symm
  clear hW ho hown hf hb h3
  go_enter Try.func30, Try.ntmps30
  go_wp2_with fail
  rw [HWW.out]
  go_still_tail 8, hmix
  change wpList _ _ _ _ _ W.drew
  go_wp2_with fail
  refine (sort_any g n cap f W.drew hn (by omega) (fun i hi => (HF.out i hi).below (Below.refl _ W).drew) HOWN.out.drew).mono ?_
  rintro e w2 ⟨rfl, f', hm1, hm2, hs, ho2, hg2⟩
  have hg := grownBy_drew hg2
  have HG := Lib.hid hg
  have HM1 := Lib.hid hm1
  have HM2 := Lib.hid hm2
  have HS := Lib.hid hs
  have HO2 := Lib.hid ho2
  have b1 : w2.cell? ⟨w.heap.size, 0, none⟩ = some (.pointer (some ⟨o, 0, none⟩)) := cell_grownBy hg (p := ⟨w.heap.size, 0, none⟩) (by show w.heap.size ≠ g; omega) HBX.out
  have b2 : w2.cell? ⟨o, 0, none⟩ = some (.slice (some ⟨g, 0, none⟩) n cap) := cell_grownBy hg (p := ⟨o, 0, none⟩) (Ne.symm hgo) H1.out
  have b3 : w2.cell? ⟨o, 1, none⟩ = some (.func (.func 28) #[] #[]) := cell_grownBy hg (p := ⟨o, 1, none⟩) (Ne.symm hgo) H2.out
  have hK : Hid (∀ wr, w2.drew.grownBy wr (some g) → ∀ i, i < n → OkN wr (f' i)) := fun wr hwr i hi => by
    obtain ⟨j, hj, e⟩ := HM1.out i hi
    rw [e]
    exact (((HF.out j hj).grown HG.out).grown (grownBy_drew hwr)).1
  have hO : Hid (∀ wr, w2.drew.grownBy wr (some g) → OrdBox wr w.heap.size o) := fun wr hwr =>
    ⟨cell_grownBy (grownBy_drew hwr) (p := ⟨w.heap.size, 0, none⟩) (by show w.heap.size ≠ g; omega) b1, cell_grownBy (grownBy_drew hwr) (p := ⟨o, 1, none⟩) (Ne.symm hgo) b3⟩
  have BB := Lib.hid b2
  have BX := Lib.hid b1
  have hFr : Hid (w2.frozen? ⟨o, 0, none⟩ = false) := (frozen_grownBy hg (p := ⟨o, 0, none⟩) holtW (Ne.symm hgo)).trans H3.out
  have hend : Hid (∀ w3, OwnF w3 g (kept f' n).length (fun i => (kept f' n).getD i zI) → w2.drew.grownBy w3 (some g) → GivesUnique w o g n cap f (.returned (.tuple #[])) (w3.setCell ⟨o, 0, none⟩ (.slice (some ⟨g, 0, none⟩) (kept f' n).length cap))) := fun w3 ho3 hg3 => by
    have hw2 : Two g o w w2 := (Two.of_below HB.out).trans (Two.of_grown hg)
    have hw3 : Two g o w w3 := hw2.trans (Two.of_grown (grownBy_drew hg3))
    have hc3 := cell_grownBy (grownBy_drew hg3) (p := ⟨o, 0, none⟩) (Ne.symm hgo) b2
    refine ⟨rfl, (kept f' n).length, fun i => (kept f' n).getD i zI, length_kept_pos hn, length_kept f' n, fun i hi => ?_, fun j hj => ?_, fun i j hij hj => kept_asc hs n (Nat.le_refl _) i j hij hj, ho3.far (a := ⟨o, 0, none⟩) hgo _, World.cell?_setCell_same _ _ _ hc3, hw3.setCell 0 _⟩
    · obtain ⟨j, hj, e⟩ := kept_mem (f := f') n i hi
      obtain ⟨t, ht, e2⟩ := hm1 j hj
      exact ⟨t, ht, e.trans e2⟩
    · obtain ⟨t, ht, e⟩ := hm2 j hj
      obtain ⟨i, hi, e2⟩ := kept_has (f := f') n t ht
      exact ⟨i, hi, by rw [← e]; exact e2⟩
  clear hbx h1 h2 hg2 hg hm1 hm2 hs ho2 b3
  go_wp2_with fail
  go_region_with ((first
    | (go_at_call 38; refine (compact_any w.heap.size o g n cap f' _ hn hcap hn2 HO2.out.drew hK.out hO.out).mono ?_; rintro e w3 ⟨rfl, ho3, hg3⟩; have k1 := cell_grownBy (grownBy_drew hg3) (p := ⟨o, 0, none⟩) (Ne.symm hgo) BB.out; have k2 := (frozen_grownBy (grownBy_drew hg3) (p := ⟨o, 0, none⟩) (World.block_lt_of_cell? _ _ BB.out) (Ne.symm hgo)).trans hFr.out; have k3 := cell_grownBy (grownBy_drew hg3) (p := ⟨w.heap.size, 0, none⟩) (by show w.heap.size ≠ g; omega) BX.out)))
  all_goals exact bodyPost_end (results_none rfl _ _ _) rfl (hend.out _ ho3 hg3)
end Go.Proofs.Ytdpgkegfkobdoaa
