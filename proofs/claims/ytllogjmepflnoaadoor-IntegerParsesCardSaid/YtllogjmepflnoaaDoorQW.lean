/-
  The walk of IntegerParses.
-/
import Derived.Test.YtllogjmepflnoaaDoorPH
import Derived.Test.YtllogjmepflnoaaDoorDL
namespace Go.Proofs.YtllogjmepflnoaaDoor
open Go.RowKit Go.Lib

theorem reads_isnum (neg : Bool) (ds l : List Nat) (w : World) (hb : Byt l) (hl : l.length ≤ 1000) (h : Reads neg ds l) :
    Calls Tryd.prog 76 #[.string (str l)] w (GivesB w true) := by
  obtain ⟨rfl, h10, h48⟩ := h
  have hbd : Byt ds := by
    intro c hc
    exact hb c (List.mem_append_right _ hc)
  cases neg
  · have hl' : ds.length ≤ 100000 := by simp at hl; omega
    refine isnum_plain ds true w hbd ?_ hl' (.inl ⟨h10, rfl⟩)
    have := h10.dig.getD h10.pos
    omega
  · have hl' : ds.length ≤ 100000 := by simp at hl; omega
    exact isnum_minus ds true w hbd hl' (.inl ⟨h10, h48 rfl, rfl⟩)

theorem noreads_isnum (l : List Nat) (w : World) (hb : Byt l) (hl : l.length ≤ 1000) (h : ∀ neg ds, ¬Reads neg ds l) :
    Calls Tryd.prog 76 #[.string (str l)] w (GivesB w false) := by
  by_cases h45 : l.getD 0 0 = 45
  · obtain ⟨dg, rfl⟩ : ∃ dg, l = 45 :: dg := by
      cases l with
      | nil => simp at h45
      | cons c dg => simp at h45; exact ⟨dg, by rw [h45]⟩
    have hbd : Byt dg := fun c hc => hb c (List.mem_cons_of_mem _ hc)
    refine isnum_minus dg false w hbd (by simp at hl; omega) (.inr ⟨?_, rfl⟩)
    by_cases h48 : dg = [48]
    · exact .inr h48
    · exact .inl fun h10 => h true dg ⟨rfl, h10, fun _ => h48⟩
  · exact isnum_plain l false w hb h45 (by omega) (.inr ⟨fun h10 => h false l ⟨rfl, h10, fun e => by cases e⟩, rfl⟩)

theorem reads_parse (neg : Bool) (ds l : List Nat) (w : World) (hl : l.length ≤ 1000) (h : Reads neg ds l) :
    Calls Tryd.prog 47 #[.string (str l)] w (GivesParsed w (if neg then -((num ds : Nat) : Int) else ((num ds : Nat) : Int))) := by
  obtain ⟨rfl, h10, h48⟩ := h
  cases neg
  · exact parse_plain ds w h10 (by simp at hl; omega)
  · exact parse_minus ds w h10 (by simp at hl; omega) (h48 rfl)

theorem reads_rparse (neg : Bool) (ds l : List Nat) (w : World) (hb : Byt l) (hl : l.length ≤ 1000) (h : Reads neg ds l) :
    Calls Tryd.prog 48 #[.string (str l)] w (GivesParsed w (if neg then -((num ds : Nat) : Int) else ((num ds : Nat) : Int))) := by
  have hi := fun w => reads_isnum neg ds l w hb hl h
  obtain ⟨rfl, h10, h48⟩ := h
  exact rparse_ok neg ds w h10 (by simp at hl; omega) hi

attribute [local go_sem ↓] Go.wp_at_zero Go.wp_at_succ

set_option maxRecDepth 100000 in
set_option maxHeartbeats 4000000 in
theorem integerParses_walk (s : ByteArray) (w : World) :
    Calls Tryd.prog 15 #[.string s] w fun e w' => e = .returned (.bool true) ∧ Below w.heap.size w w' := by
  obtain ⟨l, rfl, hb⟩ := str_all s
  obtain ⟨t, ht⟩ : ∃ t, t = str l := ⟨_, rfl⟩
  have hsz : (t.size : Int) = (l.length : Int) := by rw [ht, str_size]
  by_cases h1 : 200 < l.length
  · have d1 : decide ((200 : Int) < (t.size : Int)) = true := decide_eq_true (by omega)
    rw [← ht]
    clear h1 hsz ht hb
    go_enter Tryd.func15, Tryd.ntmps15
    go_wp2_with fail
    refine (awake_any divLong_any _).mono ?_
    rintro e w9 ⟨rfl, hb9⟩
    go_wp2_with fail
    go_ret
    exact ⟨rfl, hb9⟩
  · have d1 : decide ((200 : Int) < (t.size : Int)) = false := decide_eq_false (by omega)
    have hl : l.length ≤ 1000 := by omega
    by_cases hr : ∃ neg ds, Reads neg ds l
    · obtain ⟨neg, ds, hrd⟩ := hr
      have hp := fun w => reads_parse neg ds l w hl hrd
      have hq := fun w => reads_rparse neg ds l w hb hl hrd
      have hdl : Dig ds := hrd.2.1.dig
      have hdn : ds.length ≤ 1000 := by have := hrd.1; rw [this] at hl; simp at hl; omega
      obtain ⟨z, hz⟩ : ∃ z, z = (if neg then -((num ds : Nat) : Int) else ((num ds : Nat) : Int)) := ⟨_, rfl⟩
      have hzl : (mg z).length ≤ 1001 := by
        have h2 := num_len hdl (i := ds.length) (Nat.le_refl _)
        rw [List.take_of_length_le (Nat.le_refl _)] at h2
        have e : z.natAbs = num ds := by rw [hz]; cases neg <;> simp
        unfold mg; rw [e]; omega
      rw [← hz] at hp hq
      rw [← ht] at hp hq
      rw [← ht]
      have HP := Lib.hid hp
      have HQ := Lib.hid hq
      clear h1 hsz ht hb hl hrd hp hq hdl hdn hz
      go_enter Tryd.func15, Tryd.ntmps15
      go_wp2_with fail
      refine (HP.out _).mono ?_
      rintro e w1 ⟨a1, c1, rfl, hN1⟩
      go_wp2_with fail
      obtain ⟨W1, hW1⟩ : ∃ V, V = w1.alloc (.cells #[.bool (sg z), .slice a1 (mg z).length c1] 24) := ⟨_, rfl⟩
      rw [← hW1]
      have hbb : Below w1.heap.size w1 W1 := by rw [hW1]; exact (Below.refl _ _).alloc (Nat.le_refl _) _
      have hx1 : Box w1.heap.size (.bool (sg z)) (.slice a1 (mg z).length c1) W1 := by rw [hW1]; exact Box.made _ _ rfl _ _ _
      have hb1 := hN1.below.trans (hbb.mono hN1.below.size)
      have hr1 := hN1.rd.below hbb
      clear hW1 hbb hN1
      refine (HQ.out _).mono ?_
      rintro e w2 ⟨a2, c2, rfl, hN2⟩
      obtain ⟨W2, hW2⟩ : ∃ V, V = w2.alloc (.cells #[.bool (sg z), .slice a2 (mg z).length c2] 24) := ⟨_, rfl⟩
      have hbb : Below w2.heap.size w2 W2 := by rw [hW2]; exact (Below.refl _ _).alloc (Nat.le_refl _) _
      have hx2 : Box w2.heap.size (.bool (sg z)) (.slice a2 (mg z).length c2) W2 := by rw [hW2]; exact Box.made _ _ rfl _ _ _
      have hb12 := hN2.below.trans (hbb.mono hN2.below.size)
      have hr2 := hN2.rd.below hbb
      have hr12 := hr1.below hb12
      have hx12 := hx1.below hb12
      have hb2 := hb1.trans (hb12.mono hb1.size)
      have HW2 := Lib.hid hW2
      clear hW2 hbb hN2 hb1 hb12 hr1 hx1
      rw [HW2.out] at hx12 hx2
      obtain ⟨p0, p1, p2, p3, p4⟩ := hx12
      obtain ⟨q0, q1, q2, q3, q4⟩ := hx2
      go_wp2_with fail
      rw [← HW2.out]
      clear p0 p1 p2 p3 p4 q0 q1 q2 q3 q4
      refine (same_true (sg z) a1 a2 _ c1 c2 (mg z) _ hr12 hr2 rfl (by omega)).mono ?_
      rintro e w3 ⟨rfl, hb3'⟩
      have hb3 := hb2.trans (hb3'.mono hb2.size)
      go_wp2_with fail
      refine (awake_any divLong_any _).mono ?_
      rintro e w9 ⟨rfl, hb9⟩
      have hB9 := hb3.trans (hb9.mono hb3.size)
      go_wp2_with fail
      go_ret
      exact ⟨rfl, hB9⟩
    · have hno : ∀ neg ds, ¬Reads neg ds l := fun neg ds h => hr ⟨neg, ds, h⟩
      have hp := fun w => parse_bad l w hb (by omega) hno
      have hq := fun w => rparse_bad (str l) w (fun w => noreads_isnum l w hb hl hno)
      rw [← ht] at hp hq
      rw [← ht]
      have HP := Lib.hid hp
      have HQ := Lib.hid hq
      clear h1 hsz ht hb hl hr hno hp hq
      go_enter Tryd.func15, Tryd.ntmps15
      go_wp2_with fail
      refine (HP.out _).mono ?_
      rintro e w1 ⟨rfl, hb1⟩
      go_wp2_with fail
      obtain ⟨W1, hW1⟩ : ∃ V, V = w1.alloc (.cells #[.bool false, .slice none 0 0] 24) := ⟨_, rfl⟩
      rw [← hW1]
      have hbb : Below w1.heap.size w1 W1 := by rw [hW1]; exact (Below.refl _ _).alloc (Nat.le_refl _) _
      have hx1 : Box w1.heap.size (.bool false) (.slice none 0 0) W1 := by rw [hW1]; exact Box.made _ _ rfl _ _ _
      have hb1' := hb1.trans (hbb.mono hb1.size)
      clear hW1 hbb hb1
      refine (HQ.out _).mono ?_
      rintro e w2 ⟨rfl, hb2⟩
      obtain ⟨W2, hW2⟩ : ∃ V, V = w2.alloc (.cells #[.bool false, .slice none 0 0] 24) := ⟨_, rfl⟩
      have hbb : Below w2.heap.size w2 W2 := by rw [hW2]; exact (Below.refl _ _).alloc (Nat.le_refl _) _
      have hx2 : Box w2.heap.size (.bool false) (.slice none 0 0) W2 := by rw [hW2]; exact Box.made _ _ rfl _ _ _
      have hb12 := hb2.trans (hbb.mono hb2.size)
      have hx12 := hx1.below hb12
      have hb22 := hb1'.trans (hb12.mono hb1'.size)
      have HW2 := Lib.hid hW2
      clear hW2 hbb hb2 hb1' hb12 hx1
      rw [HW2.out] at hx12 hx2
      obtain ⟨p0, p1, p2, p3, p4⟩ := hx12
      obtain ⟨q0, q1, q2, q3, q4⟩ := hx2
      go_wp2_with fail
      rw [← HW2.out]
      clear p0 p1 p2 p3 p4 q0 q1 q2 q3 q4
      refine (same_true false none none 0 0 0 [] _ (Rd.nil _ _ _) (Rd.nil _ _ _) rfl (by omega)).mono ?_
      rintro e w3 ⟨rfl, hb3'⟩
      have hb3 := hb22.trans (hb3'.mono hb22.size)
      go_wp2_with fail
      refine (awake_any divLong_any _).mono ?_
      rintro e w9 ⟨rfl, hb9⟩
      have hB9 := hb3.trans (hb9.mono hb3.size)
      go_wp2_with fail
      go_ret
      exact ⟨rfl, hB9⟩
end Go.Proofs.YtllogjmepflnoaaDoor
