/-
  The walk of IntegerRoundTrip.
-/
import Derived.Test.YtllogjmepflnoaaDoorPA
import Derived.Test.YtllogjmepflnoaaDoorNZ
import Derived.Test.YtllogjmepflnoaaDoorDL
namespace Go.Proofs.YtllogjmepflnoaaDoor
open Go.RowKit Go.Lib

theorem last_digs (N : Nat) : N ≠ 0 → (digs N).reverse.getD 0 0 ≠ 48 := by
  induction N using Nat.strongRecOn with
  | ind N ih =>
    intro h
    rw [digs_step N h, List.reverse_cons]
    by_cases h10 : N / 10 = 0
    · rw [h10, digs_zero]; simp; omega
    · have hp := digs_ne h10
      have := ih (N / 10) (by omega) h10
      rw [List.getD_eq_getElem?_getD, List.getElem?_append_left (by simp; omega), ← List.getD_eq_getElem?_getD]
      exact this

theorem num_digs (N : Nat) : num (digs N).reverse = N := by
  induction N using Nat.strongRecOn with
  | ind N ih =>
    by_cases h : N = 0
    · subst h; rfl
    · rw [digs_step N h, List.reverse_cons, num_snoc, ih (N / 10) (by omega)]; omega

theorem nat10_digs {N : Nat} (h : N ≠ 0) : Nat10 (digs N).reverse :=
  ⟨fun c hc => digs_small N c (List.mem_reverse.1 hc), by have := digs_ne h; simp; omega, fun e => absurd e (last_digs N h)⟩

theorem nat10_zero : Nat10 [48] := ⟨fun c hc => by simp at hc; omega, by simp, fun _ => rfl⟩

theorem parse_text (z : Int) (w : World) (hl : (digs z.natAbs).length ≤ 2000) :
    Calls Tryd.prog 47 #[.string (str (text z))] w (GivesParsed w z) := by
  unfold text
  by_cases h0 : z = 0
  · subst h0
    exact parse_plain [48] w nat10_zero (by simp)
  · rw [if_neg h0]
    have hN : z.natAbs ≠ 0 := by omega
    have h10 := nat10_digs hN
    have hnum := num_digs z.natAbs
    by_cases hz : z < 0
    · rw [if_pos hz]
      have h := parse_minus (digs z.natAbs).reverse w h10 (by simpa using hl) (by
        intro e
        rw [e] at hnum
        have : num [48] = 0 := rfl
        omega)
      rw [hnum] at h
      have e : -((z.natAbs : Nat) : Int) = z := by omega
      rw [e] at h
      exact h
    · rw [if_neg hz]
      have h := parse_plain (digs z.natAbs).reverse w h10 (by simpa using hl)
      rw [hnum] at h
      have e : ((z.natAbs : Nat) : Int) = z := by omega
      rw [e] at h
      exact h

attribute [local go_sem ↓] Go.wp_at_zero Go.wp_at_succ

set_option maxRecDepth 100000 in
set_option maxHeartbeats 4000000 in
theorem integerRoundTrip_walk (na : Bool) (a : Option Addr) (n cap : Nat) (xs : List Nat) (w : World) (rdx : Rd w a cap xs) (hl : xs.length = n) :
    Calls Tryd.prog 18 #[.agg #[.bool na, .slice a n cap]] w fun e w' => e = .returned (.bool true) ∧ Below w.heap.size w w' := by
  obtain ⟨W, hW⟩ : ∃ W, W = w.alloc (.cells #[.bool na, .slice a n cap] 24) := ⟨_, rfl⟩
  have hb0 : Below w.heap.size w W := by rw [hW]; exact (Below.refl _ _).alloc (Nat.le_refl _) _
  have hxa : Box w.heap.size (.bool na) (.slice a n cap) W := by rw [hW]; exact Box.made _ _ rfl _ _ _
  have hra : Rd W a cap xs := rdx.below hb0
  have HW := Lib.hid hW
  have HL := Lib.hid hl
  have HB0 := Lib.hid hb0
  have HXA := Lib.hid hxa
  have HRA := Lib.hid hra
  have hlx := rdx.lim
  clear hW hl rdx hb0 hxa hra
  by_cases h1 : 40 < n
  · have d1 : decide ((40 : Int) < (n : Int)) = true := decide_eq_true (by omega)
    clear h1
    go_enter Tryd.func18, Tryd.ntmps18
    go_wp2_with fail
    rw [← HW.out]
    obtain ⟨p0, p1, p2, p3, p4⟩ := HXA.out
    go_wp2_with fail
    refine (long_any na a n cap W true d1).mono ?_
    rintro e w1 ⟨rfl, hb1⟩
    have hB1 := HB0.out.trans (hb1.mono HB0.out.size)
    go_wp2_with fail
    refine (awake_any divLong_any _).mono ?_
    rintro e w9 ⟨rfl, hb9⟩
    have hB9 := hB1.trans (hb9.mono hB1.size)
    go_wp2_with fail
    go_ret
    exact ⟨rfl, hB9⟩
  · have d1 : decide ((40 : Int) < (n : Int)) = false := decide_eq_false (by omega)
    have hn : n ≤ 40 := by omega
    obtain ⟨z, hz⟩ : ∃ z, z = den na xs := ⟨_, rfl⟩
    have hdl : (digs z.natAbs).length ≤ 2000 := by
      have h2 := val_lt hlx
      rw [HL.out] at h2
      have h3 := digs_bound h2
      rw [hz, natAbs_den]; omega
    have hzl : (mg z).length ≤ 40 := by
      rw [hz, mg_den]
      refine length_limbs_le ?_
      have h2 := val_lt hlx
      rw [HL.out] at h2
      exact Nat.lt_of_lt_of_le h2 (Nat.pow_le_pow_right (by omega) hn)
    have HZ := Lib.hid hz
    clear h1 hz
    go_enter Tryd.func18, Tryd.ntmps18
    go_wp2_with fail
    rw [← HW.out]
    obtain ⟨p0, p1, p2, p3, p4⟩ := HXA.out
    go_wp2_with fail
    refine (long_any na a n cap W false d1).mono ?_
    rintro e w1 ⟨rfl, hb1⟩
    have hB1 := HB0.out.trans (hb1.mono HB0.out.size)
    have hra1 := HRA.out.below hb1
    clear p0 p1 p2 p3 p4
    obtain ⟨p0, p1, p2, p3, p4⟩ := HXA.out.below hb1
    go_wp2_with fail
    refine (format_any na a n cap xs _ hra1 HL.out (by omega)).mono ?_
    rw [← HZ.out]
    rintro e w2 ⟨rfl, hb2'⟩
    have hb2 := hb1.trans (hb2'.mono hb1.size)
    go_wp2_with fail
    refine (parse_text z _ hdl).mono ?_
    rintro e w3 ⟨a3, c3, rfl, hN3⟩
    have hb3 := hb2.trans (hN3.below.mono hb2.size)
    clear p0 p1 p2 p3 p4
    go_wp2_with fail
    obtain ⟨W3, hW3⟩ : ∃ V, V = w3.alloc (.cells #[.bool (sg z), .slice a3 (mg z).length c3] 24) := ⟨_, rfl⟩
    rw [← hW3]
    have hbb : Below w3.heap.size w3 W3 := by rw [hW3]; exact (Below.refl _ _).alloc (Nat.le_refl _) _
    have HXB : Hid (Box w3.heap.size (.bool (sg z)) (.slice a3 (mg z).length c3) W3) := by unfold Hid; rw [hW3]; exact Box.made _ _ rfl _ _ _
    have hb4 := hb3.trans (hbb.mono hb3.size)
    have HXA4 := Lib.hid (HXA.out.below hb4)
    have HRA4 := Lib.hid (HRA.out.below hb4)
    have HRB4 := Lib.hid (hN3.rd.below hbb)
    have HB4 := Lib.hid (HB0.out.trans (hb4.mono HB0.out.size))
    clear hW3 hbb hb1 hb2 hb2' hb3 hb4 hN3 hB1 hra1
    go_region_held3 (fun w' => w'.cell? ⟨w3.heap.size, 0, none⟩ = some (.bool (sg z)) ∧ w'.cell? ⟨w3.heap.size, 1, none⟩ = some (.slice a3 (mg z).length c3) ∧ w'.cell? ⟨w.heap.size, 0, none⟩ = some (.bool na) ∧ w'.cell? ⟨w.heap.size, 1, none⟩ = some (.slice a n cap) ∧ Below W3.heap.size W3 w')
      (first | exact two_draw HXB.out HXA4.out | exact two_step HXB.out HXA4.out (by assumption) hN5.below | exact two_step HXB.out HXA4.out (by assumption) k6 | exact two_step HXB.out HXA4.out (by assumption) k8)
      ((first
        | (go_at_call 24; have hq := two_rd HRA4.out (by assumption); refine (rnormalize_any na a n cap xs _ hq HL.out (by omega)).mono ?_; clear hq; rw [← HZ.out]; rintro e w5 ⟨a5, c5, rfl, hN5⟩)
        | (go_at_call 23; have hq := two_rd HRB4.out (by assumption); refine (same_true (sg z) a3 a5 _ c3 c5 (mg z) _ hq hN5.rd rfl (by omega)).mono ?_; clear hq; rintro e w6 ⟨rfl, k6⟩)
        | (go_at_call 20; refine (awake_any divLong_any _).mono ?_; rintro e w8 ⟨rfl, k8⟩)))
    have hB9 := HB4.out.trans ((two_below (by assumption)).mono HB4.out.size)
    go_wp2_with fail
    go_ret
    exact ⟨rfl, hB9⟩
end Go.Proofs.YtllogjmepflnoaaDoor
