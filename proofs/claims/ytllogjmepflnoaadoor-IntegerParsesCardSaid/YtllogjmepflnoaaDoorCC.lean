/-
  The laws' copied: an Int with its own limbs.
-/
import Derived.Test.YtllogjmepflnoaaDoorRC
import Derived.Deep.AppendLies
namespace Go.Proofs.YtllogjmepflnoaaDoor
open Go.RowKit

/-- An Int with its own limbs. -/
def GivesCopy (w : World) (neg : Bool) (xs : List Nat) (e : Ending) (w' : World) : Prop :=
  ∃ a cap, e = .returned (.agg #[.bool neg, .slice a xs.length cap]) ∧ New w xs a cap w'

section
variable {A R : Nat} {u0 u1 : Value} {W v v' : World}
theorem kept_draw (h : Box A u0 u1 W) (hR : R ≤ W.heap.size) : W.drew.cell? ⟨A, 0, none⟩ = some u0 ∧ W.drew.cell? ⟨A, 1, none⟩ = some u1 ∧ Below R W W.drew :=
  ⟨h.c0, h.c1, ((Below.refl _ _).drew).mono hR⟩
theorem kept_step (_h : Box A u0 u1 W) (hA : A < R) (_hR : R ≤ W.heap.size) (hs : v.cell? ⟨A, 0, none⟩ = some u0 ∧ v.cell? ⟨A, 1, none⟩ = some u1 ∧ Below R W v) (hb : Below R v v') :
    v'.cell? ⟨A, 0, none⟩ = some u0 ∧ v'.cell? ⟨A, 1, none⟩ = some u1 ∧ Below R W v' :=
  ⟨(hb.cell hA).trans hs.1, (hb.cell hA).trans hs.2.1, hs.2.2.trans hb⟩
theorem kept_store (h : Box A u0 u1 W) (hA : A < R) (hR : R ≤ W.heap.size) (x y : Value) (hs : v.cell? ⟨A, 0, none⟩ = some u0 ∧ v.cell? ⟨A, 1, none⟩ = some u1 ∧ Below R W v) :
    ((v.setCell ⟨R, 0, none⟩ x).setCell ⟨R, 1, none⟩ y).cell? ⟨A, 0, none⟩ = some u0 ∧ ((v.setCell ⟨R, 0, none⟩ x).setCell ⟨R, 1, none⟩ y).cell? ⟨A, 1, none⟩ = some u1 ∧ Below R W ((v.setCell ⟨R, 0, none⟩ x).setCell ⟨R, 1, none⟩ y) :=
  kept_step h hA hR hs (((Below.refl _ _).setCell (p := ⟨R, 0, none⟩) (Nat.le_refl _) _).setCell (p := ⟨R, 1, none⟩) (Nat.le_refl _) _)
theorem kept_store0 (h : Box A u0 u1 W) (hA : A < R) (_hR : R ≤ W.heap.size) (x y : Value) :
    ((W.setCell ⟨R, 0, none⟩ x).setCell ⟨R, 1, none⟩ y).drew.cell? ⟨A, 0, none⟩ = some u0 ∧ ((W.setCell ⟨R, 0, none⟩ x).setCell ⟨R, 1, none⟩ y).drew.cell? ⟨A, 1, none⟩ = some u1 ∧ Below R W ((W.setCell ⟨R, 0, none⟩ x).setCell ⟨R, 1, none⟩ y).drew :=
  have hb : Below R W ((W.setCell ⟨R, 0, none⟩ x).setCell ⟨R, 1, none⟩ y).drew := (((Below.refl _ _).setCell (p := ⟨R, 0, none⟩) (Nat.le_refl _) _).setCell (p := ⟨R, 1, none⟩) (Nat.le_refl _) _).drew
  ⟨(hb.cell hA).trans h.c0, (hb.cell hA).trans h.c1, hb⟩
end

attribute [local go_sem ↓] Go.wp_at_zero Go.wp_at_succ

set_option maxRecDepth 100000 in
set_option maxHeartbeats 2000000 in
theorem copied_any (neg : Bool) (a : Option Addr) (n cap : Nat) (xs : List Nat) (w : World) (rdx : Rd w a cap xs) (hl : xs.length = n) (hn : n ≤ 1000000000) :
    Calls Tryd.prog 21 #[.agg #[.bool neg, .slice a n cap]] w (GivesCopy w neg xs) := by
  obtain ⟨i0, hi, hz0, hz1, hz2⟩ := info_parts Tryd.infoU32
  obtain ⟨V, hV⟩ : ∃ V, V = w.alloc (.cells #[.bool neg, .slice a n cap] 24) := ⟨_, rfl⟩
  obtain ⟨W, hW⟩ : ∃ W, W = V.alloc (.cells #[.bool false, .slice none 0 0] 24) := ⟨_, rfl⟩
  have hb0 : Below w.heap.size w V := by rw [hV]; exact (Below.refl _ _).alloc (Nat.le_refl _) _
  have hVs : V.heap.size = w.heap.size + 1 := by rw [hV]; simp
  have hWs : W.heap.size = w.heap.size + 2 := by rw [hW, World.size_alloc, hVs]
  have hx0 : Box w.heap.size (.bool neg) (.slice a n cap) V := by rw [hV]; exact Box.made _ _ rfl _ _ _
  have hx : Box w.heap.size (.bool neg) (.slice a n cap) W := by rw [hW]; exact hx0.alloc _
  have hy : Box (w.heap.size + 1) (.bool false) (.slice none 0 0) W := by rw [hW]; exact Box.made _ _ hVs.symm _ _ _
  have hr : Rd W a cap xs := by rw [hW]; exact (rdx.below hb0).alloc _
  have hlx := rdx.lim
  have hWW : (w.alloc (.cells #[.bool neg, .slice a n cap] 24)).alloc (.cells #[.bool false, .slice none 0 0] 24) = W := by rw [hW, hV]
  have HWW := Lib.hid hWW
  have HW := Lib.hid hW
  have HVS := Lib.hid hVs
  have HB0 := Lib.hid hb0
  have HX := Lib.hid hx
  have HL := Lib.hid hl
  clear hV hW hVs hb0 hx0 hWW hl rdx hx
  by_cases h0 : n = 0
  · subst h0
    obtain rfl : xs = [] := List.eq_nil_of_length_eq_zero HL.out
    obtain ⟨y0, y1, y2, y3, y4⟩ := hy
    clear hr
    rcases a with _ | ⟨ab, ao, ap⟩
    · go_enter Tryd.func21, Tryd.ntmps21
      go_wp2_with fail
      rw [HWW.out]
      go_region_held3 (fun w' => w'.cell? ⟨w.heap.size, 0, none⟩ = some (.bool neg) ∧ w'.cell? ⟨w.heap.size, 1, none⟩ = some (.slice none 0 cap) ∧ Below (w.heap.size + 1) W w')
        (first | exact kept_draw HX.out (by omega) | assumption | exact kept_store0 HX.out (by omega) (by omega) _ _) (fail)
      have hN : New W [] none 0 W := New.none (Below.refl _ _) 0
      rw [HW.out] at hN
      have hN2 := new_result hN
      rw [HVS.out] at hN2
      have hfin := (New.before HB0.out (hN2 (.bool neg) (.slice none 0 0))).after (Below.refl _ _).drew
      rw [← HW.out] at hfin
      have HF := Lib.hid hfin
      clear hN hN2 hfin
      go_wp2_with fail
      exact bodyPost_ret (v := .agg #[.bool neg, .slice none 0 0]) (by simp [results, Tryd.results21, go_sem, y0, y1]) rfl ⟨none, 0, rfl, HF.out⟩
    · go_enter Tryd.func21, Tryd.ntmps21
      go_wp2_with fail
      rw [HWW.out]
      go_region_held3 (fun w' => w'.cell? ⟨w.heap.size, 0, none⟩ = some (.bool neg) ∧ w'.cell? ⟨w.heap.size, 1, none⟩ = some (.slice (some ⟨ab, ao, ap⟩) 0 cap) ∧ Below (w.heap.size + 1) W w')
        (first | exact kept_draw HX.out (by omega) | assumption | exact kept_store0 HX.out (by omega) (by omega) _ _) (fail)
      have hN : New W [] none 0 W := New.none (Below.refl _ _) 0
      rw [HW.out] at hN
      have hN2 := new_result hN
      rw [HVS.out] at hN2
      have hfin := (New.before HB0.out (hN2 (.bool neg) (.slice none 0 0))).after (Below.refl _ _).drew
      rw [← HW.out] at hfin
      have HF := Lib.hid hfin
      clear hN hN2 hfin
      go_wp2_with fail
      exact bodyPost_ret (v := .agg #[.bool neg, .slice none 0 0]) (by simp [results, Tryd.results21, go_sem, y0, y1]) rfl ⟨none, 0, rfl, HF.out⟩
  · obtain ⟨b, o, rfl, _⟩ := hr.cells 0 (by rw [HL.out]; omega)
    have hc : ∀ j u, (u32s xs)[j]? = some u → W.drew.cell? ((⟨b, o, none⟩ : Addr).add j) = some u := by
      intro j u hu
      have hil : j < xs.length := by have := (List.getElem?_eq_some_iff.1 hu).1; rwa [length_u32s] at this
      rw [u32s_get _ j hil] at hu
      obtain ⟨b', o', e, hcj⟩ := hr.cells j hil
      simp only [Option.some.injEq, Addr.mk.injEq, and_true] at e
      obtain ⟨rfl, rfl⟩ := e
      rw [Go.WideShapes.add_plain]
      rw [← hu]
      exact hcj
    have HC := Lib.hid hc
    have HY := Lib.hid hy
    clear hc hy
    go_enter Tryd.func21, Tryd.ntmps21
    go_wp2_with fail
    rw [HWW.out]
    go_region_held3 (fun w' => w'.cell? ⟨w.heap.size, 0, none⟩ = some (.bool neg) ∧ w'.cell? ⟨w.heap.size, 1, none⟩ = some (.slice (some ⟨b, o, none⟩) n cap) ∧ Below (w.heap.size + 1) W w')
      (first | exact kept_draw HX.out (by omega) | exact kept_step HX.out (by omega) (by omega) (by assumption) ((hb1.mono (by simp; omega))) | exact kept_store HX.out (by omega) (by omega) _ _ (by assumption))
      ((refine step_append_lies _ (by rfl) _ _ _ (by rfl) W.drew.heap.size 29 i0 (.int .u32 0) 1 4 Tryd.underlying22 hi hz0 hz1 hz2 rfl (by omega) (Value.slice none 0 0) 0 [] (by rfl) (World.ownsRow_nil _ _ _ _)
            ⟨b, o, none⟩ n cap (u32s xs) (by rfl) (by rw [length_u32s, HL.out, Nat.mul_one]) HC.out (u32s_one _) (by omega) (by unfold maxLen; omega) (by omega) (Nat.le_refl _) _ rfl ?_
        intro gg c1 w1 hown1 hgrow1 hat1 hlt1
        have hb1 : Below W.drew.heap.size W.drew w1 := (Below.refl _ _).grown hgrow1 (Nat.le_refl _) (by intro q hq; simp [Value.ownBlock] at hq)
        obtain ⟨y0, y1, y2, y3, y4⟩ := (HY.out.drewN 1).below hb1))
    have hb2 : Below W.heap.size W w1 := (Below.refl _ _).drew.trans hb1
    obtain ⟨a9, c9, hv9, hN9⟩ := new_of_row hb1 hlx (by rw [List.nil_append] at hown1; rw [HL.out]; simpa using hown1)
    obtain ⟨rfl, _, rfl⟩ : a9 = some ⟨gg, 0, none⟩ ∧ True ∧ c9 = c1 := by
      simp only [Value.slice.injEq] at hv9
      exact ⟨hv9.1.symm, trivial, hv9.2.2.symm⟩
    have hN : New W xs (some ⟨gg, 0, none⟩) c9 w1 := New.before (Below.refl _ _).drew hN9
    rw [HW.out] at hN
    have hN2 := new_result hN
    rw [HVS.out] at hN2
    have hfin := New.before HB0.out (hN2 (.bool neg) (.slice (some ⟨gg, 0, none⟩) n c9))
    have HF := Lib.hid hfin
    clear hN9 hN hN2 hfin hown1 hgrow1 hb1 hb2 hv9
    go_wp2_with fail
    exact bodyPost_ret (v := .agg #[.bool neg, .slice (some ⟨gg, 0, none⟩) n c9]) (by simp [results, Tryd.results21, go_sem, y0, y1]) rfl ⟨_, c9, by rw [HL.out], HF.out⟩
end Go.Proofs.YtllogjmepflnoaaDoor
