/-
  The contract of Parse on the text of a number.
-/
import Derived.Test.YtgnjjmbphangnaaDoorPL
import Derived.Test.YtgnjjmbphangnaaDoorPW
namespace Go.Proofs.YtgnjjmbphangnaaDoor
open Go.RowKit Go.Lib

def GivesParsed (w : World) (z : Int) (e : Ending) (w' : World) : Prop :=
  ∃ (a : Option Addr) (cap : Nat), e = .returned (.tuple #[.agg #[.bool (sg z), .slice a (mg z).length cap], .int .i64 0]) ∧ New w (mg z) a cap w'

theorem str_data (l : List Nat) : (str l).data.toList = l.map fun n => UInt8.ofNat n := by
  unfold str; rw [strOfNums_data, List.map_map]
  apply List.map_congr_left
  intro n _
  simp

theorem str_of_bytes (l : List Nat) : (⟨(l.map fun n => UInt8.ofNat n).toArray⟩ : ByteArray) = str l := by
  unfold str strOfNums
  rw [List.map_map]
  congr 2

theorem trim_minus (ds : List Nat) : (⟨(Lib.trimPrefix (str (45 :: ds)).data.toList (⟨#[45]⟩ : ByteArray).data.toList).toArray⟩ : ByteArray) = str ds := by
  have h : Lib.hasPrefix (str (45 :: ds)).data.toList (⟨#[45]⟩ : ByteArray).data.toList = true := by
    rw [str_data]; unfold Lib.hasPrefix; simp
  unfold Lib.trimPrefix
  rw [if_pos h, str_data, ← str_of_bytes]
  simp

theorem trim_none (ds : List Nat) (h : Nat10 ds) : (⟨(Lib.trimPrefix (str ds).data.toList (⟨#[45]⟩ : ByteArray).data.toList).toArray⟩ : ByteArray) = str ds := by
  have hp := h.pos
  have h2 : Lib.hasPrefix (str ds).data.toList (⟨#[45]⟩ : ByteArray).data.toList = false := by
    rw [str_data]; unfold Lib.hasPrefix
    cases ds with
    | nil => simp at hp
    | cons c cs =>
      have hc := h.dig c (by simp)
      have hne : ((45 : UInt8) == UInt8.ofNat c) = false := by
        rw [beq_eq_false_iff_ne]
        intro e
        have := congrArg UInt8.toNat e
        simp at this
        omega
      simp [List.isPrefixOf, hne]
  unfold Lib.trimPrefix
  rw [if_neg (by rw [h2]; simp), str_data, ← str_of_bytes]

theorem str_ne0 {l : List Nat} (hd : Dig l) (h : l ≠ [48]) : ((str l).toList == [48]) = false := by
  rw [beq_eq_false_iff_ne]
  intro e
  unfold str at e
  rw [strOfNums_toList] at e
  unfold bytesOf at e
  rw [List.map_map] at e
  match l, hd, h, e with
  | [], _, _, e => simp at e
  | [c], hd, h, e =>
    have hc := hd c (by simp)
    simp at e
    have := congrArg UInt8.toNat e
    simp at this
    exact h (by congr 1; omega)
  | _ :: _ :: _, _, _, e => simp at e

set_option maxRecDepth 100000 in
set_option maxHeartbeats 4000000 in
theorem parse_plain (ds : List Nat) (w : World) (hd : Nat10 ds) (hl : ds.length ≤ 2000) :
    Calls Tryd.prog 5 #[.string (str ds)] w (GivesParsed w ((num ds : Nat) : Int)) := by
  obtain ⟨s, hs⟩ : ∃ s, s = str ds := ⟨_, rfl⟩
  have hsz : (s.size : Int) = (ds.length : Int) := by rw [hs, str_size]
  have HS := Lib.hid hs
  have HD := Lib.hid hd
  rw [← hs]
  obtain ⟨W, hW⟩ : ∃ W, W = w.alloc (.cells #[.bool false, .slice none 0 0] 25) := ⟨_, rfl⟩
  have hxr : Box w.heap.size (.bool false) (.slice none 0 0) W := by rw [hW]; exact Box.made _ _ rfl _ _ _
  have HW := Lib.hid hW
  have HXR := Lib.hid hxr
  clear hs hd hW hxr
  go_enter Tryd.func5, Tryd.ntmps5
  go_wp2_with fail
  rw [← HW.out]
  refine (Tryd.strings_TrimPrefix s _ _).mono ?_
  rintro e w1 ⟨rfl, rfl⟩
  have ht : (⟨(Lib.trimPrefix s.data.toList (⟨#[45]⟩ : ByteArray).data.toList).toArray⟩ : ByteArray) = s := by rw [HS.out]; exact trim_none ds HD.out
  rw [ht]
  clear ht
  go_wp2_with fail
  rw [HS.out]
  refine (natural_true ds _ HD.out (by omega)).mono ?_
  rintro e w2 ⟨rfl, hb2⟩
  rw [← HS.out]
  go_wp2_with fail
  rw [HS.out]
  refine (limbsOfDigits_any ds _ HD.out.dig (by omega)).mono ?_
  rintro e w3 ⟨a3, c3, rfl, hN3⟩
  go_wp2_with fail
  refine (canonical_int false (num ds) ((num ds : Nat) : Int) rfl a3 _ c3 w2 _ hN3 rfl).mono ?_
  rintro e w4 ⟨⟨a4, c4, rfl, hN4⟩, hb4⟩
  have hN := New.before hb2 hN4
  obtain ⟨r0, r1, r2, r3, r4⟩ := HXR.out.below hN.below
  rw [HW.out] at hN
  have hn := new_result hN (.bool (sg ((num ds : Nat) : Int))) (.slice a4 (mg ((num ds : Nat) : Int)).length c4)
  have HN := Lib.hid hn
  clear hN3 hN4 hN hn
  go_wp2_with fail
  refine bodyPost_ret (v := .tuple #[.agg #[.bool (sg ((num ds : Nat) : Int)), .slice a4 (mg ((num ds : Nat) : Int)).length c4], .int .i64 0]) ?_ rfl ⟨a4, c4, rfl, HN.out⟩
  simp [results, Tryd.results5, go_sem, r0, r1]
set_option maxRecDepth 100000 in
set_option maxHeartbeats 4000000 in
theorem parse_minus (ds : List Nat) (w : World) (hd : Nat10 ds) (hl : ds.length ≤ 2000) (h48 : ds ≠ [48]) :
    Calls Tryd.prog 5 #[.string (str (45 :: ds))] w (GivesParsed w (-((num ds : Nat) : Int))) := by
  obtain ⟨s0, hs0⟩ : ∃ s, s = str (45 :: ds) := ⟨_, rfl⟩
  have hsz0 : (s0.size : Int) = (ds.length : Int) + 1 := by rw [hs0, str_size]; simp
  have HS0 := Lib.hid hs0
  obtain ⟨s, hs⟩ : ∃ s, s = str ds := ⟨_, rfl⟩
  have hsz : (s.size : Int) = (ds.length : Int) := by rw [hs, str_size]
  have HS := Lib.hid hs
  have h0 : (s.toList == [48]) = false := by rw [hs]; exact str_ne0 hd.dig h48
  have HD := Lib.hid hd
  rw [← hs0]
  obtain ⟨W, hW⟩ : ∃ W, W = w.alloc (.cells #[.bool false, .slice none 0 0] 25) := ⟨_, rfl⟩
  have hxr : Box w.heap.size (.bool false) (.slice none 0 0) W := by rw [hW]; exact Box.made _ _ rfl _ _ _
  have HW := Lib.hid hW
  have HXR := Lib.hid hxr
  clear hs hs0 hd hW hxr h48
  go_enter Tryd.func5, Tryd.ntmps5
  go_wp2_with fail
  rw [← HW.out]
  refine (Tryd.strings_TrimPrefix s0 _ _).mono ?_
  rintro e w1 ⟨rfl, rfl⟩
  have ht : (⟨(Lib.trimPrefix s0.data.toList (⟨#[45]⟩ : ByteArray).data.toList).toArray⟩ : ByteArray) = s := by rw [HS0.out, HS.out]; exact trim_minus ds
  rw [ht]
  clear ht
  go_wp2_with fail
  rw [HS.out]
  refine (natural_true ds _ HD.out (by omega)).mono ?_
  rintro e w2 ⟨rfl, hb2⟩
  rw [← HS.out]
  go_wp2_with fail
  rw [HS.out]
  refine (limbsOfDigits_any ds _ HD.out.dig (by omega)).mono ?_
  rintro e w3 ⟨a3, c3, rfl, hN3⟩
  go_wp2_with fail
  refine (canonical_int true (num ds) (-((num ds : Nat) : Int)) rfl a3 _ c3 w2 _ hN3 rfl).mono ?_
  rintro e w4 ⟨⟨a4, c4, rfl, hN4⟩, hb4⟩
  have hN := New.before hb2 hN4
  obtain ⟨r0, r1, r2, r3, r4⟩ := HXR.out.below hN.below
  rw [HW.out] at hN
  have hn := new_result hN (.bool (sg (-((num ds : Nat) : Int)))) (.slice a4 (mg (-((num ds : Nat) : Int))).length c4)
  have HN := Lib.hid hn
  clear hN3 hN4 hN hn
  go_wp2_with fail
  refine bodyPost_ret (v := .tuple #[.agg #[.bool (sg (-((num ds : Nat) : Int))), .slice a4 (mg (-((num ds : Nat) : Int))).length c4], .int .i64 0]) ?_ rfl ⟨a4, c4, rfl, HN.out⟩
  simp [results, Tryd.results5, go_sem, r0, r1]
end Go.Proofs.YtgnjjmbphangnaaDoor
