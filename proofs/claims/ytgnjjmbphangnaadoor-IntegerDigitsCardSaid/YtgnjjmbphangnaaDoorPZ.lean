/-
  The contract of Parse on the text of a number that is too long, and the digits that IntegerDigits writes.
-/
import Derived.Test.YtgnjjmbphangnaaDoorPF
import Derived.Test.YtgnjjmbphangnaaDoorQM
namespace Go.Proofs.YtgnjjmbphangnaaDoor
open Go.RowKit Go.Lib

def GivesLarge (e : Ending) : Prop := e = .returned (.tuple #[.agg #[.bool false, .slice none 0 0], .int .i64 7])

set_option maxRecDepth 100000 in
set_option maxHeartbeats 4000000 in
theorem parse_plain_long (ds : List Nat) (w : World) (hd : Nat10 ds) (hl : ds.length ≤ 100000) (hlong : 2000 < ds.length) :
    Calls Tryd.prog 5 #[.string (str ds)] w (fun e w' => GivesLarge e ∧ Below w.heap.size w w') := by
  obtain ⟨s, hs⟩ : ∃ s, s = str ds := ⟨_, rfl⟩
  have hsz : (s.size : Int) = (ds.length : Int) := by rw [hs, str_size]
  have hgt : decide ((2000 : Int) < (ds.length : Int)) = true := decide_eq_true (by omega)
  have HS := Lib.hid hs
  have HD := Lib.hid hd
  rw [← hs]
  obtain ⟨W, hW⟩ : ∃ W, W = w.alloc (.cells #[.bool false, .slice none 0 0] 25) := ⟨_, rfl⟩
  have hxr : Box w.heap.size (.bool false) (.slice none 0 0) W := by rw [hW]; exact Box.made _ _ rfl _ _ _
  have hb0 : Below w.heap.size w W := by rw [hW]; exact (Below.refl _ _).alloc (Nat.le_refl _) _
  have HW := Lib.hid hW
  have HXR := Lib.hid hxr
  have HB0 := Lib.hid hb0
  clear hs hd hW hxr hb0 hlong
  go_enter Tryd.func5, Tryd.ntmps5
  go_wp2_with fail
  rw [← HW.out]
  refine (Tryd.strings_TrimPrefix s _ _).mono ?_
  rintro e w1 ⟨rfl, rfl⟩
  have ht : (⟨(Lib.trimPrefix s.data.toList (⟨#[45]⟩ : ByteArray).data.toList).toArray⟩ : ByteArray) = s := by rw [HS.out]; exact trim_none ds HD.out
  rw [ht]
  clear ht
  go_wp2_with fail
  rw [HS.out]
  refine (natural_true ds _ HD.out (by omega)).mono ?_
  rintro e w2 ⟨rfl, hb2⟩
  rw [← HS.out]
  obtain ⟨r0, r1, r2, r3, r4⟩ := HXR.out.below hb2
  have hfin : Below w.heap.size w ((w2.setCell ⟨w.heap.size, 0, none⟩ (.bool false)).setCell ⟨w.heap.size, 1, none⟩ (.slice none 0 0)) := bel_store (HB0.out.trans (hb2.mono HB0.out.size)) w.heap.size (Nat.le_refl _) _ _
  have HF := Lib.hid hfin
  clear hfin
  go_wp2_with fail
  refine bodyPost_ret (v := .tuple #[.agg #[.bool false, .slice none 0 0], .int .i64 7]) ?_ rfl ⟨rfl, HF.out⟩
  simp [results, Tryd.results5, go_sem, r0, r1]

set_option maxRecDepth 100000 in
set_option maxHeartbeats 4000000 in
theorem parse_minus_long (ds : List Nat) (w : World) (hd : Nat10 ds) (hl : ds.length ≤ 100000) (hlong : 2000 < ds.length) :
    Calls Tryd.prog 5 #[.string (str (45 :: ds))] w (fun e w' => GivesLarge e ∧ Below w.heap.size w w') := by
  obtain ⟨s0, hs0⟩ : ∃ s, s = str (45 :: ds) := ⟨_, rfl⟩
  have hsz0 : (s0.size : Int) = (ds.length : Int) + 1 := by rw [hs0, str_size]; simp
  have HS0 := Lib.hid hs0
  obtain ⟨s, hs⟩ : ∃ s, s = str ds := ⟨_, rfl⟩
  have hsz : (s.size : Int) = (ds.length : Int) := by rw [hs, str_size]
  have hgt : decide ((2000 : Int) < (ds.length : Int)) = true := decide_eq_true (by omega)
  have HS := Lib.hid hs
  have h0 : (s.toList == [48]) = false := by rw [hs]; exact str_ne0 hd.dig (fun e => by rw [e] at hlong; simp at hlong)
  have HD := Lib.hid hd
  rw [← hs0]
  obtain ⟨W, hW⟩ : ∃ W, W = w.alloc (.cells #[.bool false, .slice none 0 0] 25) := ⟨_, rfl⟩
  have hxr : Box w.heap.size (.bool false) (.slice none 0 0) W := by rw [hW]; exact Box.made _ _ rfl _ _ _
  have hb0 : Below w.heap.size w W := by rw [hW]; exact (Below.refl _ _).alloc (Nat.le_refl _) _
  have HW := Lib.hid hW
  have HXR := Lib.hid hxr
  have HB0 := Lib.hid hb0
  clear hs hs0 hd hW hxr hb0 hlong
  go_enter Tryd.func5, Tryd.ntmps5
  go_wp2_with fail
  rw [← HW.out]
  refine (Tryd.strings_TrimPrefix s0 _ _).mono ?_
  rintro e w1 ⟨rfl, rfl⟩
  have ht : (⟨(Lib.trimPrefix s0.data.toList (⟨#[45]⟩ : ByteArray).data.toList).toArray⟩ : ByteArray) = s := by rw [HS0.out, HS.out]; exact trim_minus ds
  rw [ht]
  clear ht
  go_wp2_with fail
  rw [HS.out]
  refine (natural_true ds _ HD.out (by omega)).mono ?_
  rintro e w2 ⟨rfl, hb2⟩
  rw [← HS.out]
  obtain ⟨r0, r1, r2, r3, r4⟩ := HXR.out.below hb2
  have hfin : Below w.heap.size w ((w2.setCell ⟨w.heap.size, 0, none⟩ (.bool false)).setCell ⟨w.heap.size, 1, none⟩ (.slice none 0 0)) := bel_store (HB0.out.trans (hb2.mono HB0.out.size)) w.heap.size (Nat.le_refl _) _ _
  have HF := Lib.hid hfin
  clear hfin
  go_wp2_with fail
  refine bodyPost_ret (v := .tuple #[.agg #[.bool false, .slice none 0 0], .int .i64 7]) ?_ rfl ⟨rfl, HF.out⟩
  simp [results, Tryd.results5, go_sem, r0, r1]

/-- The digits 1, 2, .., 9, 1, 2, .. -/
def dgs (n : Nat) : List Nat := (List.range n).map fun i => 49 + i % 9
theorem length_dgs (n : Nat) : (dgs n).length = n := by simp [dgs]
theorem dgs_succ (n : Nat) : dgs (n + 1) = dgs n ++ [49 + n % 9] := by simp [dgs, List.range_succ]
theorem dig_dgs (n : Nat) : Dig (dgs n) := by
  intro c hc
  obtain ⟨i, _, rfl⟩ := List.mem_map.1 hc
  omega
theorem dgs_zero {n : Nat} (h : 0 < n) : (dgs n).getD 0 0 = 49 := by
  obtain ⟨m, rfl⟩ : ∃ m, n = m + 1 := ⟨n - 1, by omega⟩
  rw [List.getD_eq_getElem?_getD, List.getElem?_eq_getElem (by rw [length_dgs]; omega)]
  simp [dgs]
theorem nat10_dgs {n : Nat} (h : 0 < n) : Nat10 (dgs n) := ⟨dig_dgs n, by rw [length_dgs]; exact h, fun e => by rw [dgs_zero h] at e; omega⟩
theorem digs_dgs {n : Nat} (h : 0 < n) : (digs (num (dgs n))).reverse = dgs n :=
  (digs_unique _ (dgs n) (dig_dgs n) (fun _ => by rw [dgs_zero h]; omega) rfl).symm
theorem num_dgs_ne {n : Nat} (h : 0 < n) : num (dgs n) ≠ 0 := by
  intro e
  have h1 := congrArg List.length (digs_dgs h)
  rw [e, length_dgs] at h1
  simp [digs_zero] at h1
  omega

/-- The digits, the last one replaced by an x. -/
def dgx (n : Nat) : List Nat := (dgs n).set (n - 1) 120
theorem length_dgx (n : Nat) : (dgx n).length = n := by simp [dgx, length_dgs]
theorem byt_dgx (n : Nat) : Byt (dgx n) := by
  intro c hc
  rcases List.mem_or_eq_of_mem_set hc with h | h
  · have := dig_dgs n c h; omega
  · omega
theorem not_dig_dgx {n : Nat} (h : 0 < n) : ¬Dig (dgx n) := by
  intro hd
  have h1 := hd 120 (by
    unfold dgx
    rw [List.mem_iff_getElem]
    exact ⟨n - 1, by simp [length_dgs]; omega, by simp⟩)
  omega
theorem reads_dig {neg : Bool} {ds l : List Nat} (h : Reads neg ds l) : l = ds ∧ neg = false ∨ l = 45 :: ds ∧ neg = true := by
  cases neg
  · exact .inl ⟨h.1, rfl⟩
  · exact .inr ⟨h.1, rfl⟩
theorem dgx_bad {n : Nat} (h : 1 < n) (neg : Bool) (l : List Nat) (hl : l = (if neg then [45] else []) ++ dgx n) : ∀ ng ds, ¬Reads ng ds l := by
  intro ng ds hr
  have hx := not_dig_dgx (n := n) (by omega)
  have h0 : (dgx n).getD 0 0 = 49 := by
    unfold dgx
    rw [List.getD_eq_getElem?_getD, List.getElem?_set_ne (by omega), ← List.getD_eq_getElem?_getD]
    exact dgs_zero (by omega)
  have hne : dgx n ≠ [] := fun e => by have := length_dgx n; rw [e] at this; simp at this; omega
  rcases reads_dig hr with ⟨e, _⟩ | ⟨e, _⟩
  · have hdg := hr.2.1.dig
    rw [← e, hl] at hdg
    exact hx fun c hc => hdg c (List.mem_append_right _ hc)
  · have hdg := hr.2.1.dig
    cases neg
    · rw [hl] at e
      have e2 : (dgx n).getD 0 0 = 45 := by
        have e3 : dgx n = 45 :: ds := by simpa using e
        rw [e3]; rfl
      omega
    · have e3 : dgx n = ds := by
        rw [hl] at e
        simpa using e
      rw [← e3] at hdg
      exact hx hdg
end Go.Proofs.YtgnjjmbphangnaaDoor
