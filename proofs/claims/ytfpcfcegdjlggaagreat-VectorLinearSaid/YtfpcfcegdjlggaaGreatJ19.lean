/-
  Joined texts: HE.
-/
import Derived.Test.YtfpcfcegdjlggaaGreatJ18
namespace Go.Proofs.YtfpcfcegdjlggaaGreat
open Go.RowKit

theorem reds_add {X Y x y X2 Y2 x2 y2 : Int} (h : Reds X Y x y) (h2 : Reds X2 Y2 x2 y2) (hy : 0 < y) (_hy2 : 0 < y2) : Reds (X * Y2 + X2 * Y) (Y * Y2) (x * y2 + x2 * y) (y * y2) := by
  have e1 := h.eq
  have e2 := h2.eq
  have hp := h.pos
  have hp2 := h2.pos
  have e : (X * Y2 + X2 * Y) * (y * y2) = (x * y2 + x2 * y) * (Y * Y2) := by
    calc (X * Y2 + X2 * Y) * (y * y2) = X * y * (Y2 * y2) + X2 * y2 * (Y * y) := by grind
      _ = x * Y * (Y2 * y2) + x2 * Y2 * (Y * y) := by rw [e1, e2]
      _ = (x * y2 + x2 * y) * (Y * Y2) := by grind
  have d : Y * Y2 ≤ y * y2 := Int.mul_le_mul h.den h2.den (Int.le_of_lt hp2) (Int.le_of_lt hy)
  have p : 0 < Y * Y2 := Int.mul_pos hp hp2
  refine ⟨p, e, ?_, d⟩
  have e3 := congrArg Int.natAbs e
  rw [Int.natAbs_mul, Int.natAbs_mul (x * y2 + x2 * y)] at e3
  have d2 : (Y * Y2).natAbs ≤ (y * y2).natAbs := by omega
  have d3 : 0 < (y * y2).natAbs := by omega
  have e4 := Nat.mul_le_mul_left (x * y2 + x2 * y).natAbs d2
  rw [← e3] at e4
  exact Nat.le_of_mul_le_mul_right e4 d3

theorem BoxR.other {B G : Nat} {u0 u1 u2 u3 : Value} {w : World} (h : BoxR B u0 u1 u2 u3 w) (hne : B ≠ G) (x0 x1 x2 x3 : Value) : BoxR B u0 u1 u2 u3 (setR w G x0 x1 x2 x3) := by
  have key : ∀ (o : Nat) (u : Value), w.cell? ⟨B, o, none⟩ = some u → (setR w G x0 x1 x2 x3).cell? ⟨B, o, none⟩ = some u := fun o u h => by
    rw [World.cell?_setCell_other _ _ _ _ (by simp), World.cell?_setCell_other _ _ _ _ (by simp), World.cell?_setCell_other _ _ _ _ (by simp), World.cell?_setCell_other _ _ _ _ (by simp)]; exact h
  exact ⟨key _ _ h.c0, key _ _ h.c1, key _ _ h.c2, key _ _ h.c3, fun k => by simp [h.fr k], by simpa [World.setCell] using h.lt⟩

/-- What two quotients in memory are. -/
structure TwoR (W : World) (gq gr : Nat) (X Y X2 Y2 : Int) (w : World) : Prop where
  rest : ∃ a c b d a2 c2 b2 d2, BoxR gq (.bool (sg X)) (.slice a (mg X).length c) (.bool (sg Y)) (.slice b (mg Y).length d) w ∧ BoxR gr (.bool (sg X2)) (.slice a2 (mg X2).length c2) (.bool (sg Y2)) (.slice b2 (mg Y2).length d2) w ∧ Lm w a c (mg X) ∧ Lm w b d (mg Y) ∧ Lm w a2 c2 (mg X2) ∧ Lm w b2 d2 (mg Y2) ∧ Below W.heap.size W w

section
variable {A B : Nat} {u0 u1 u2 u3 v0 v1 v2 v3 : Value} {V v v' : World}
end

theorem boxR_new {u0 u1 u2 u3 : Value} {t : TypeId} (w : World) (_ : w.heap.size = w.heap.size) : BoxR w.heap.size u0 u1 u2 u3 (w.alloc (.cells #[u0, u1, u2, u3] t)) := BoxR.made w _ rfl _ _ _ _ _

section
variable {P : Program} {l : List Oper} {Q : Exit → Act → World → Prop} {S : World → Prop} {t : Nat}
/-- One of three comes next, ahead of number t. -/
theorem three_T {i j k : Nat} {oi oj ok : Oper} {fuel : Nat} {listed : Array Bool} {a : Act} {w : World} (hi : l[i]? = some oi) (hj : l[j]? = some oj) (hk : l[k]? = some ok) (hr : Region.ready .any l.toArray listed = [i, j, k])
    (h : ∀ K' : Act → World → Prop, Shut (∀ a w, S w → (S w → wpAnyT P .any l.toArray Q S t fuel (listed.setIfInBounds i true) a w) → K' a w) → if Region.wanted oi (yielded l.toArray a.tmps) = true then Oper.wp P oi a w K' Q else K' (a.put oi.dst undef) w)
    (h' : ∀ K' : Act → World → Prop, Shut (∀ a w, S w → (S w → wpAnyT P .any l.toArray Q S t fuel (listed.setIfInBounds j true) a w) → K' a w) → if Region.wanted oj (yielded l.toArray a.tmps) = true then Oper.wp P oj a w K' Q else K' (a.put oj.dst undef) w)
    (h'' : ∀ K' : Act → World → Prop, Shut (∀ a w, S w → (S w → wpAnyT P .any l.toArray Q S t fuel (listed.setIfInBounds k true) a w) → K' a w) → if Region.wanted ok (yielded l.toArray a.tmps) = true then Oper.wp P ok a w K' Q else K' (a.put ok.dst undef) w) :
    wpAnyT P .any l.toArray Q S t (fuel + 1) listed a w := by
  have hi' : l.toArray[i]? = some oi := by simpa using hi
  have hj' : l.toArray[j]? = some oj := by simpa using hj
  have hk' : l.toArray[k]? = some ok := by simpa using hk
  refine ⟨fun h0 => (by rw [hr] at h0; cases h0), fun m hm => ?_⟩
  rw [hr] at hm
  simp only [List.mem_cons, List.not_mem_nil, or_false] at hm
  rcases hm with rfl | rfl | rfl
  · exact wpOp_step hi' (fun K' hK => h K' (fun a w hS hW => hK a w ⟨fun _ => hS, hW hS⟩))
  · exact wpOp_step hj' (fun K' hK => h' K' (fun a w hS hW => hK a w ⟨fun _ => hS, hW hS⟩))
  · exact wpOp_step hk' (fun K' hK => h'' K' (fun a w hS hW => hK a w ⟨fun _ => hS, hW hS⟩))
end

set_option maxRecDepth 100000 in
set_option maxHeartbeats 8000000 in
theorem raddR_pos {x y x2 y2 : Int} {a b a2 b2 : Option Addr} {c d c2 d2 t : Nat} {w : World} (hx : Lm w a c (mg x)) (hy : Lm w b d (mg y)) (hx2 : Lm w a2 c2 (mg x2)) (hy2 : Lm w b2 d2 (mg y2)) (ht : t ≤ 11) (bx : x.natAbs ≤ cB t) (by' : y.natAbs ≤ cB t) (bx2 : x2.natAbs ≤ cB t) (by2 : y2.natAbs ≤ cB t) (h0 : 0 < y) (h02 : 0 < y2) :
    Calls Tryz.prog 123 #[.agg #[.bool (sg x), .slice a (mg x).length c, .bool (sg y), .slice b (mg y).length d], .agg #[.bool (sg x2), .slice a2 (mg x2).length c2, .bool (sg y2), .slice b2 (mg y2).length d2]] w (GivesQ w (x * y2 + x2 * y) (y * y2)) := by
  obtain ⟨W, hW⟩ : ∃ W, W = ((w.alloc (.cells #[.bool (sg x), .slice a (mg x).length c, .bool (sg y), .slice b (mg y).length d] 140)).alloc (.cells #[.bool (sg x2), .slice a2 (mg x2).length c2, .bool (sg y2), .slice b2 (mg y2).length d2] 140)).alloc (.cells #[.bool false, .slice none 0 0, .bool false, .slice none 0 0] 140) := ⟨_, rfl⟩
  have hbW : Below w.heap.size w W := by rw [hW]; exact (((Below.refl _ _).alloc (Nat.le_refl _) _).alloc (by simp) _).alloc (by simp; omega) _
  have hxa : Hid (BoxR w.heap.size (.bool (sg x)) (.slice a (mg x).length c) (.bool (sg y)) (.slice b (mg y).length d) W) := by rw [hW]; exact ((BoxR.made _ _ rfl _ _ _ _ _).alloc _).alloc _
  have hxb : Hid (BoxR (w.heap.size + 1) (.bool (sg x2)) (.slice a2 (mg x2).length c2) (.bool (sg y2)) (.slice b2 (mg y2).length d2) W) := by rw [hW]; exact (BoxR.made _ _ (by simp) _ _ _ _ _).alloc _
  have hres : Hid (BoxR (w.heap.size + 2) (.bool false) (.slice none 0 0) (.bool false) (.slice none 0 0) W) := by rw [hW]; exact BoxR.made _ _ (by simp) _ _ _ _ _
  have HWW : Hid (((w.alloc (.cells #[.bool (sg x), .slice a (mg x).length c, .bool (sg y), .slice b (mg y).length d] 140)).alloc (.cells #[.bool (sg x2), .slice a2 (mg x2).length c2, .bool (sg y2), .slice b2 (mg y2).length d2] 140)).alloc (.cells #[.bool false, .slice none 0 0, .bool false, .slice none 0 0] 140) = W) := hW.symm
  have hWs : Hid (W.heap.size = w.heap.size + 3) := by rw [hW]; simp [Hid]
  have HLX := Lib.hid (hx.below hbW)
  have HLY := Lib.hid (hy.below hbW)
  have HLX2 := Lib.hid (hx2.below hbW)
  have HLY2 := Lib.hid (hy2.below hbW)
  have HBW := Lib.hid hbW
  have hk : ∀ z : Int, z.natAbs ≤ cB t → (mg z).length ≤ 1000000 := fun z hz => cB_short (by omega) hz
  have k1 : Hid ((mg x).length ≤ 1000000) := hk _ bx
  have k2 : Hid ((mg y).length ≤ 1000000) := hk _ by'
  have k3 : Hid ((mg x2).length ≤ 1000000) := hk _ bx2
  have k4 : Hid ((mg y2).length ≤ 1000000) := hk _ by2
  have H0 := Lib.hid h0
  have H02 := Lib.hid h02
  have BX := Lib.hid bx
  have BY := Lib.hid by'
  have BX2 := Lib.hid bx2
  have BY2 := Lib.hid by2
  clear hW hbW hx hy hx2 hy2 h0 h02 hk bx by' bx2 by2
  go_enter Tryz.func123, Tryz.ntmps123
  go_wp2_with fail
  rw [HWW.out]
  have hK : Hid (∀ w', Below W.heap.size W w' → w'.cell? ⟨w.heap.size, 0, none⟩ = some (.bool (sg x)) ∧ w'.cell? ⟨w.heap.size, 1, none⟩ = some (.slice a (mg x).length c) ∧ w'.cell? ⟨w.heap.size, 2, none⟩ = some (.bool (sg y)) ∧ w'.cell? ⟨w.heap.size, 3, none⟩ = some (.slice b (mg y).length d) ∧ w'.cell? ⟨w.heap.size + 1, 0, none⟩ = some (.bool (sg x2)) ∧ w'.cell? ⟨w.heap.size + 1, 1, none⟩ = some (.slice a2 (mg x2).length c2) ∧ w'.cell? ⟨w.heap.size + 1, 2, none⟩ = some (.bool (sg y2)) ∧ w'.cell? ⟨w.heap.size + 1, 3, none⟩ = some (.slice b2 (mg y2).length d2)) := fun w' h => ⟨(hxa.out.below h).c0, (hxa.out.below h).c1, (hxa.out.below h).c2, (hxa.out.below h).c3, (hxb.out.below h).c0, (hxb.out.below h).c1, (hxb.out.below h).c2, (hxb.out.below h).c3⟩
  have hbD : Hid (Below W.heap.size W W.drew) := (Below.refl _ _).drew
  go_cut [5, 6] from 14 (fun q r wx => ∃ (gq gr : Nat) (X Y X2 Y2 : Int), q = .pointer (some ⟨gq, 0, none⟩) ∧ r = .pointer (some ⟨gr, 0, none⟩) ∧ Reds X Y x y ∧ Reds X2 Y2 x2 y2 ∧ TwoR W gq gr X Y X2 Y2 wx)
  case first =>
    refine begin_T 7 (fun w' => w'.cell? ⟨w.heap.size, 0, none⟩ = some (.bool (sg x)) ∧ w'.cell? ⟨w.heap.size, 1, none⟩ = some (.slice a (mg x).length c) ∧ w'.cell? ⟨w.heap.size, 2, none⟩ = some (.bool (sg y)) ∧ w'.cell? ⟨w.heap.size, 3, none⟩ = some (.slice b (mg y).length d) ∧ w'.cell? ⟨w.heap.size + 1, 0, none⟩ = some (.bool (sg x2)) ∧ w'.cell? ⟨w.heap.size + 1, 1, none⟩ = some (.slice a2 (mg x2).length c2) ∧ w'.cell? ⟨w.heap.size + 1, 2, none⟩ = some (.bool (sg y2)) ∧ w'.cell? ⟨w.heap.size + 1, 3, none⟩ = some (.slice b2 (mg y2).length d2)) (by kernel_rfl) (hK.out _ hbD.out) (fun hHeld => ?_)
    have hby := hbD.out
    generalize W.drew = w0d at hby hHeld ⊢
    refine first_T (i := 0) (v := ?_) rfl (by kernel_rfl) (fun _ _ _ h => h) (by rfl) (fun w hSw => ?_) hHeld ?_
    rotate_left
    · ((try dsimp only at hSw); go_simp; (try with_reducible rfl))
    try simp only [Act.put, List.setIfInBounds_toArray, List.set_cons_zero, List.set_cons_succ]
    refine first_T (i := 2) (v := ?_) rfl (by kernel_rfl) (fun _ _ _ h => h) (by rfl) (fun w hSw => ?_) hHeld ?_
    rotate_left
    · ((try dsimp only at hSw); go_simp; (try with_reducible rfl))
    try simp only [Act.put, List.setIfInBounds_toArray, List.set_cons_zero, List.set_cons_succ]
    refine three_T (i := 1) (j := 4) (k := 5) rfl rfl rfl (by kernel_rfl) (fun K hKK => ?_) (fun K hKK => ?_) (fun K hKK => ?_)
    · go_simp
      refine (rnormR_pos (HLX.out.below hby) (HLY.out.below hby) k1.out k2.out H0.out).mono ?_
      rintro e wt1 ⟨X10, Y10, hR10, a10, c10, b10, d10, rfl, hr10, hs10, hbn⟩
      replace hby := hby.trans (hbn.mono hby.size)
      go_wp2_with fail
      clear hHeld
      refine hKK.out _ _ (hK.out _ hby) (fun hHeld => ?_)
      clear hKK K hbn
      try simp only [Act.put, List.setIfInBounds_toArray, List.set_cons_zero, List.set_cons_succ]
      refine three_T (i := 3) (j := 4) (k := 5) rfl rfl rfl (by kernel_rfl) (fun K hKK => ?_) (fun K hKK => ?_) (fun K hKK => ?_)
      · go_simp
        refine (rnormR_pos (HLX2.out.below hby) (HLY2.out.below hby) k3.out k4.out H02.out).mono ?_
        rintro e wt2 ⟨X11, Y11, hR11, a11, c11, b11, d11, rfl, hr11, hs11, hbn⟩
        replace hby := hby.trans (hbn.mono hby.size)
        replace hr10 := hr10.below hbn
        replace hs10 := hs10.below hbn
        go_wp2_with fail
        clear hHeld
        refine hKK.out _ _ (hK.out _ hby) (fun hHeld => ?_)
        clear hKK K hbn
        try simp only [Act.put, List.setIfInBounds_toArray, List.set_cons_zero, List.set_cons_succ]
        refine two_T (i := 4) (j := 5) rfl rfl (by kernel_rfl) (fun K hKK => ?_) (fun K hKK => ?_)
        · go_simp
          refine hKK.out _ _ (hK.out _ (hby.alloc hby.size _)) (fun hHeld2 => ?_)
          have g4V := hby.size
          have hA4 := boxR_new (u0 := .bool false) (u1 := .slice none 0 0) (u2 := .bool false) (u3 := .slice none 0 0) (t := 140) wt2 (Eq.refl wt2.heap.size)
          replace hby := hby.alloc hby.size (.cells #[.bool false, .slice none 0 0, .bool false, .slice none 0 0] 140)
          replace hr10 := hr10.alloc (.cells #[.bool false, .slice none 0 0, .bool false, .slice none 0 0] 140)
          replace hs10 := hs10.alloc (.cells #[.bool false, .slice none 0 0, .bool false, .slice none 0 0] 140)
          replace hr11 := hr11.alloc (.cells #[.bool false, .slice none 0 0, .bool false, .slice none 0 0] 140)
          replace hs11 := hs11.alloc (.cells #[.bool false, .slice none 0 0, .bool false, .slice none 0 0] 140)
          clear hKK K hHeld
          have hHeld := hHeld2
          clear hHeld2
          try simp only [Act.put, List.setIfInBounds_toArray, List.set_cons_zero, List.set_cons_succ]
          generalize (wt2.alloc (.cells #[.bool false, .slice none 0 0, .bool false, .slice none 0 0] 140)) = wt3 at hr10 hs10 hr11 hs11 hA4 hby hHeld ⊢
          generalize wt2.heap.size = g4 at hA4 g4V ⊢
          refine next_T (i := 5) rfl (by kernel_rfl) (fun K hKK => ?_)
          go_simp
          refine hKK.out _ _ (hK.out _ (hby.alloc hby.size _)) (fun hHeld2 => ?_)
          have g5V := hby.size
          have hA5 := boxR_new (u0 := .bool false) (u1 := .slice none 0 0) (u2 := .bool false) (u3 := .slice none 0 0) (t := 140) wt3 (Eq.refl wt3.heap.size)
          have hne : g4 ≠ wt3.heap.size := Nat.ne_of_lt hA4.lt
          have hne2 : wt3.heap.size ≠ g4 := Ne.symm hne
          replace hby := hby.alloc hby.size (.cells #[.bool false, .slice none 0 0, .bool false, .slice none 0 0] 140)
          replace hr10 := hr10.alloc (.cells #[.bool false, .slice none 0 0, .bool false, .slice none 0 0] 140)
          replace hs10 := hs10.alloc (.cells #[.bool false, .slice none 0 0, .bool false, .slice none 0 0] 140)
          replace hr11 := hr11.alloc (.cells #[.bool false, .slice none 0 0, .bool false, .slice none 0 0] 140)
          replace hs11 := hs11.alloc (.cells #[.bool false, .slice none 0 0, .bool false, .slice none 0 0] 140)
          replace hA4 := hA4.alloc (.cells #[.bool false, .slice none 0 0, .bool false, .slice none 0 0] 140)
          clear hKK K hHeld
          have hHeld := hHeld2
          clear hHeld2
          try simp only [Act.put, List.setIfInBounds_toArray, List.set_cons_zero, List.set_cons_succ]
          generalize (wt3.alloc (.cells #[.bool false, .slice none 0 0, .bool false, .slice none 0 0] 140)) = wt4 at hr10 hs10 hr11 hs11 hA4 hA5 hby hHeld ⊢
          generalize wt3.heap.size = g5 at hA5 g5V hne hne2 ⊢
          have hA4c := hA4
          have hA5c := hA5
          obtain ⟨m0, m1, m2, m3, m4, m5⟩ := hA4c
          obtain ⟨o0, o1, o2, o3, o4, o5⟩ := hA5c
          have hby2 := setR_bel hby g4V (.bool (sg X10)) (.slice a10 (mg X10).length c10) (.bool (sg Y10)) (.slice b10 (mg Y10).length d10)
          refine next_T (i := 6) rfl (by kernel_rfl) (fun K hKK => ?_)
          go_simp
          refine hKK.out _ _ (hK.out _ hby2) (fun hHeld2 => ?_)
          clear hKK K hHeld
          try simp only [Act.put, List.setIfInBounds_toArray, List.set_cons_zero, List.set_cons_succ]
          have hA4n := setR_made hA4 (.bool (sg X10)) (.slice a10 (mg X10).length c10) (.bool (sg Y10)) (.slice b10 (mg Y10).length d10)
          have hA5n := hA5.other (by first | exact hne | exact hne2) (.bool (sg X10)) (.slice a10 (mg X10).length c10) (.bool (sg Y10)) (.slice b10 (mg Y10).length d10)
          replace hr10 := setR_lm hr10 hA4 (.bool (sg X10)) (.slice a10 (mg X10).length c10) (.bool (sg Y10)) (.slice b10 (mg Y10).length d10)
          replace hs10 := setR_lm hs10 hA4 (.bool (sg X10)) (.slice a10 (mg X10).length c10) (.bool (sg Y10)) (.slice b10 (mg Y10).length d10)
          replace hr11 := setR_lm hr11 hA4 (.bool (sg X10)) (.slice a10 (mg X10).length c10) (.bool (sg Y10)) (.slice b10 (mg Y10).length d10)
          replace hs11 := setR_lm hs11 hA4 (.bool (sg X10)) (.slice a10 (mg X10).length c10) (.bool (sg Y10)) (.slice b10 (mg Y10).length d10)
          clear m0 m1 m2 m3 m4 m5 o0 o1 o2 o3 o4 o5
          clear hHeld2
          obtain ⟨wz, hwz⟩ : ∃ wz, wz = setR wt4 g4 (.bool (sg X10)) (.slice a10 (mg X10).length c10) (.bool (sg Y10)) (.slice b10 (mg Y10).length d10) := ⟨_, rfl⟩
          have hwz2 : ((((wt4.setCell ⟨g4, 0, none⟩ (.bool (sg X10))).setCell ⟨g4, 1, none⟩ (.slice a10 (mg X10).length c10)).setCell ⟨g4, 2, none⟩ (.bool (sg Y10))).setCell ⟨g4, 3, none⟩ (.slice b10 (mg Y10).length d10)) = wz := hwz.symm
          rw [hwz2]
          rw [← hwz] at hA4n hA5n hr10 hs10 hr11 hs11 hby2
          clear hwz hwz2
          obtain ⟨o0, o1, o2, o3, o4, o5⟩ := hA5n
          refine last_T (t := 7) rfl (by kernel_rfl) (by kernel_rfl) (fun K hKK => ?_)
          go_simp
          refine hKK.out _ _ ?_
          have hQ5 : BoxR g5 (.bool false) (.slice none 0 0) (.bool false) (.slice none 0 0) wz := ⟨o0, o1, o2, o3, o4, o5⟩
          have hF4 := hA4n.other (by first | exact hne | exact hne2) (.bool (sg X11)) (.slice a11 (mg X11).length c11) (.bool (sg Y11)) (.slice b11 (mg Y11).length d11)
          have hF5 := setR_made hQ5 (.bool (sg X11)) (.slice a11 (mg X11).length c11) (.bool (sg Y11)) (.slice b11 (mg Y11).length d11)
          replace hr10 := setR_lm hr10 hQ5 (.bool (sg X11)) (.slice a11 (mg X11).length c11) (.bool (sg Y11)) (.slice b11 (mg Y11).length d11)
          replace hs10 := setR_lm hs10 hQ5 (.bool (sg X11)) (.slice a11 (mg X11).length c11) (.bool (sg Y11)) (.slice b11 (mg Y11).length d11)
          replace hr11 := setR_lm hr11 hQ5 (.bool (sg X11)) (.slice a11 (mg X11).length c11) (.bool (sg Y11)) (.slice b11 (mg Y11).length d11)
          replace hs11 := setR_lm hs11 hQ5 (.bool (sg X11)) (.slice a11 (mg X11).length c11) (.bool (sg Y11)) (.slice b11 (mg Y11).length d11)
          have hby3 := setR_bel hby2 g5V (.bool (sg X11)) (.slice a11 (mg X11).length c11) (.bool (sg Y11)) (.slice b11 (mg Y11).length d11)
          go_wp2_with fail
          go_meet
          exact ⟨g4, g5, X10, Y10, X11, Y11, rfl, rfl, hR10, hR11, ⟨⟨a10, c10, b10, d10, a11, c11, b11, d11, hF4, hF5, hr10, hs10, hr11, hs11, hby3⟩⟩⟩
        · go_simp
          refine hKK.out _ _ (hK.out _ (hby.alloc hby.size _)) (fun hHeld2 => ?_)
          have g5V := hby.size
          have hA5 := boxR_new (u0 := .bool false) (u1 := .slice none 0 0) (u2 := .bool false) (u3 := .slice none 0 0) (t := 140) wt2 (Eq.refl wt2.heap.size)
          replace hby := hby.alloc hby.size (.cells #[.bool false, .slice none 0 0, .bool false, .slice none 0 0] 140)
          replace hr10 := hr10.alloc (.cells #[.bool false, .slice none 0 0, .bool false, .slice none 0 0] 140)
          replace hs10 := hs10.alloc (.cells #[.bool false, .slice none 0 0, .bool false, .slice none 0 0] 140)
          replace hr11 := hr11.alloc (.cells #[.bool false, .slice none 0 0, .bool false, .slice none 0 0] 140)
          replace hs11 := hs11.alloc (.cells #[.bool false, .slice none 0 0, .bool false, .slice none 0 0] 140)
          clear hKK K hHeld
          have hHeld := hHeld2
          clear hHeld2
          try simp only [Act.put, List.setIfInBounds_toArray, List.set_cons_zero, List.set_cons_succ]
          generalize (wt2.alloc (.cells #[.bool false, .slice none 0 0, .bool false, .slice none 0 0] 140)) = wt5 at hr10 hs10 hr11 hs11 hA5 hby hHeld ⊢
          generalize wt2.heap.size = g5 at hA5 g5V ⊢
          refine next_T (i := 4) rfl (by kernel_rfl) (fun K hKK => ?_)
          go_simp
          refine hKK.out _ _ (hK.out _ (hby.alloc hby.size _)) (fun hHeld2 => ?_)
          have g4V := hby.size
          have hA4 := boxR_new (u0 := .bool false) (u1 := .slice none 0 0) (u2 := .bool false) (u3 := .slice none 0 0) (t := 140) wt5 (Eq.refl wt5.heap.size)
          have hne : g5 ≠ wt5.heap.size := Nat.ne_of_lt hA5.lt
          have hne2 : wt5.heap.size ≠ g5 := Ne.symm hne
          replace hby := hby.alloc hby.size (.cells #[.bool false, .slice none 0 0, .bool false, .slice none 0 0] 140)
          replace hr10 := hr10.alloc (.cells #[.bool false, .slice none 0 0, .bool false, .slice none 0 0] 140)
          replace hs10 := hs10.alloc (.cells #[.bool false, .slice none 0 0, .bool false, .slice none 0 0] 140)
          replace hr11 := hr11.alloc (.cells #[.bool false, .slice none 0 0, .bool false, .slice none 0 0] 140)
          replace hs11 := hs11.alloc (.cells #[.bool false, .slice none 0 0, .bool false, .slice none 0 0] 140)
          replace hA5 := hA5.alloc (.cells #[.bool false, .slice none 0 0, .bool false, .slice none 0 0] 140)
          clear hKK K hHeld
          have hHeld := hHeld2
          clear hHeld2
          try simp only [Act.put, List.setIfInBounds_toArray, List.set_cons_zero, List.set_cons_succ]
          generalize (wt5.alloc (.cells #[.bool false, .slice none 0 0, .bool false, .slice none 0 0] 140)) = wt6 at hr10 hs10 hr11 hs11 hA5 hA4 hby hHeld ⊢
          generalize wt5.heap.size = g4 at hA4 g4V hne hne2 ⊢
          have hA4c := hA4
          have hA5c := hA5
          obtain ⟨m0, m1, m2, m3, m4, m5⟩ := hA4c
          obtain ⟨o0, o1, o2, o3, o4, o5⟩ := hA5c
          have hby2 := setR_bel hby g4V (.bool (sg X10)) (.slice a10 (mg X10).length c10) (.bool (sg Y10)) (.slice b10 (mg Y10).length d10)
          refine next_T (i := 6) rfl (by kernel_rfl) (fun K hKK => ?_)
          go_simp
          refine hKK.out _ _ (hK.out _ hby2) (fun hHeld2 => ?_)
          clear hKK K hHeld
          try simp only [Act.put, List.setIfInBounds_toArray, List.set_cons_zero, List.set_cons_succ]
          have hA4n := setR_made hA4 (.bool (sg X10)) (.slice a10 (mg X10).length c10) (.bool (sg Y10)) (.slice b10 (mg Y10).length d10)
          have hA5n := hA5.other (by first | exact hne | exact hne2) (.bool (sg X10)) (.slice a10 (mg X10).length c10) (.bool (sg Y10)) (.slice b10 (mg Y10).length d10)
          replace hr10 := setR_lm hr10 hA4 (.bool (sg X10)) (.slice a10 (mg X10).length c10) (.bool (sg Y10)) (.slice b10 (mg Y10).length d10)
          replace hs10 := setR_lm hs10 hA4 (.bool (sg X10)) (.slice a10 (mg X10).length c10) (.bool (sg Y10)) (.slice b10 (mg Y10).length d10)
          replace hr11 := setR_lm hr11 hA4 (.bool (sg X10)) (.slice a10 (mg X10).length c10) (.bool (sg Y10)) (.slice b10 (mg Y10).length d10)
          replace hs11 := setR_lm hs11 hA4 (.bool (sg X10)) (.slice a10 (mg X10).length c10) (.bool (sg Y10)) (.slice b10 (mg Y10).length d10)
          clear m0 m1 m2 m3 m4 m5 o0 o1 o2 o3 o4 o5
          clear hHeld2
          obtain ⟨wz, hwz⟩ : ∃ wz, wz = setR wt6 g4 (.bool (sg X10)) (.slice a10 (mg X10).length c10) (.bool (sg Y10)) (.slice b10 (mg Y10).length d10) := ⟨_, rfl⟩
          have hwz2 : ((((wt6.setCell ⟨g4, 0, none⟩ (.bool (sg X10))).setCell ⟨g4, 1, none⟩ (.slice a10 (mg X10).length c10)).setCell ⟨g4, 2, none⟩ (.bool (sg Y10))).setCell ⟨g4, 3, none⟩ (.slice b10 (mg Y10).length d10)) = wz := hwz.symm
          rw [hwz2]
          rw [← hwz] at hA4n hA5n hr10 hs10 hr11 hs11 hby2
          clear hwz hwz2
          obtain ⟨o0, o1, o2, o3, o4, o5⟩ := hA5n
          refine last_T (t := 7) rfl (by kernel_rfl) (by kernel_rfl) (fun K hKK => ?_)
          go_simp
          refine hKK.out _ _ ?_
          have hQ5 : BoxR g5 (.bool false) (.slice none 0 0) (.bool false) (.slice none 0 0) wz := ⟨o0, o1, o2, o3, o4, o5⟩
          have hF4 := hA4n.other (by first | exact hne | exact hne2) (.bool (sg X11)) (.slice a11 (mg X11).length c11) (.bool (sg Y11)) (.slice b11 (mg Y11).length d11)
          have hF5 := setR_made hQ5 (.bool (sg X11)) (.slice a11 (mg X11).length c11) (.bool (sg Y11)) (.slice b11 (mg Y11).length d11)
          replace hr10 := setR_lm hr10 hQ5 (.bool (sg X11)) (.slice a11 (mg X11).length c11) (.bool (sg Y11)) (.slice b11 (mg Y11).length d11)
          replace hs10 := setR_lm hs10 hQ5 (.bool (sg X11)) (.slice a11 (mg X11).length c11) (.bool (sg Y11)) (.slice b11 (mg Y11).length d11)
          replace hr11 := setR_lm hr11 hQ5 (.bool (sg X11)) (.slice a11 (mg X11).length c11) (.bool (sg Y11)) (.slice b11 (mg Y11).length d11)
          replace hs11 := setR_lm hs11 hQ5 (.bool (sg X11)) (.slice a11 (mg X11).length c11) (.bool (sg Y11)) (.slice b11 (mg Y11).length d11)
          have hby3 := setR_bel hby2 g5V (.bool (sg X11)) (.slice a11 (mg X11).length c11) (.bool (sg Y11)) (.slice b11 (mg Y11).length d11)
          go_wp2_with fail
          go_meet
          exact ⟨g4, g5, X10, Y10, X11, Y11, rfl, rfl, hR10, hR11, ⟨⟨a10, c10, b10, d10, a11, c11, b11, d11, hF4, hF5, hr10, hs10, hr11, hs11, hby3⟩⟩⟩
      · go_simp
        refine hKK.out _ _ (hK.out _ (hby.alloc hby.size _)) (fun hHeld2 => ?_)
        have g4V := hby.size
        have hA4 := boxR_new (u0 := .bool false) (u1 := .slice none 0 0) (u2 := .bool false) (u3 := .slice none 0 0) (t := 140) wt1 (Eq.refl wt1.heap.size)
        replace hby := hby.alloc hby.size (.cells #[.bool false, .slice none 0 0, .bool false, .slice none 0 0] 140)
        replace hr10 := hr10.alloc (.cells #[.bool false, .slice none 0 0, .bool false, .slice none 0 0] 140)
        replace hs10 := hs10.alloc (.cells #[.bool false, .slice none 0 0, .bool false, .slice none 0 0] 140)
        clear hKK K hHeld
        have hHeld := hHeld2
        clear hHeld2
        try simp only [Act.put, List.setIfInBounds_toArray, List.set_cons_zero, List.set_cons_succ]
        generalize (wt1.alloc (.cells #[.bool false, .slice none 0 0, .bool false, .slice none 0 0] 140)) = wt7 at hr10 hs10 hA4 hby hHeld ⊢
        generalize wt1.heap.size = g4 at hA4 g4V ⊢
        refine two_T (i := 3) (j := 5) rfl rfl (by kernel_rfl) (fun K hKK => ?_) (fun K hKK => ?_)
        · go_simp
          refine (rnormR_pos (HLX2.out.below hby) (HLY2.out.below hby) k3.out k4.out H02.out).mono ?_
          rintro e wt8 ⟨X11, Y11, hR11, a11, c11, b11, d11, rfl, hr11, hs11, hbn⟩
          replace hby := hby.trans (hbn.mono hby.size)
          replace hr10 := hr10.below hbn
          replace hs10 := hs10.below hbn
          replace hA4 := hA4.below hbn
          go_wp2_with fail
          clear hHeld
          refine hKK.out _ _ (hK.out _ hby) (fun hHeld => ?_)
          clear hKK K hbn
          try simp only [Act.put, List.setIfInBounds_toArray, List.set_cons_zero, List.set_cons_succ]
          refine next_T (i := 5) rfl (by kernel_rfl) (fun K hKK => ?_)
          go_simp
          refine hKK.out _ _ (hK.out _ (hby.alloc hby.size _)) (fun hHeld2 => ?_)
          have g5V := hby.size
          have hA5 := boxR_new (u0 := .bool false) (u1 := .slice none 0 0) (u2 := .bool false) (u3 := .slice none 0 0) (t := 140) wt8 (Eq.refl wt8.heap.size)
          have hne : g4 ≠ wt8.heap.size := Nat.ne_of_lt hA4.lt
          have hne2 : wt8.heap.size ≠ g4 := Ne.symm hne
          replace hby := hby.alloc hby.size (.cells #[.bool false, .slice none 0 0, .bool false, .slice none 0 0] 140)
          replace hr10 := hr10.alloc (.cells #[.bool false, .slice none 0 0, .bool false, .slice none 0 0] 140)
          replace hs10 := hs10.alloc (.cells #[.bool false, .slice none 0 0, .bool false, .slice none 0 0] 140)
          replace hA4 := hA4.alloc (.cells #[.bool false, .slice none 0 0, .bool false, .slice none 0 0] 140)
          replace hr11 := hr11.alloc (.cells #[.bool false, .slice none 0 0, .bool false, .slice none 0 0] 140)
          replace hs11 := hs11.alloc (.cells #[.bool false, .slice none 0 0, .bool false, .slice none 0 0] 140)
          clear hKK K hHeld
          have hHeld := hHeld2
          clear hHeld2
          try simp only [Act.put, List.setIfInBounds_toArray, List.set_cons_zero, List.set_cons_succ]
          generalize (wt8.alloc (.cells #[.bool false, .slice none 0 0, .bool false, .slice none 0 0] 140)) = wt9 at hr10 hs10 hA4 hr11 hs11 hA5 hby hHeld ⊢
          generalize wt8.heap.size = g5 at hA5 g5V hne hne2 ⊢
          have hA4c := hA4
          have hA5c := hA5
          obtain ⟨m0, m1, m2, m3, m4, m5⟩ := hA4c
          obtain ⟨o0, o1, o2, o3, o4, o5⟩ := hA5c
          have hby2 := setR_bel hby g4V (.bool (sg X10)) (.slice a10 (mg X10).length c10) (.bool (sg Y10)) (.slice b10 (mg Y10).length d10)
          refine next_T (i := 6) rfl (by kernel_rfl) (fun K hKK => ?_)
          go_simp
          refine hKK.out _ _ (hK.out _ hby2) (fun hHeld2 => ?_)
          clear hKK K hHeld
          try simp only [Act.put, List.setIfInBounds_toArray, List.set_cons_zero, List.set_cons_succ]
          have hA4n := setR_made hA4 (.bool (sg X10)) (.slice a10 (mg X10).length c10) (.bool (sg Y10)) (.slice b10 (mg Y10).length d10)
          have hA5n := hA5.other (by first | exact hne | exact hne2) (.bool (sg X10)) (.slice a10 (mg X10).length c10) (.bool (sg Y10)) (.slice b10 (mg Y10).length d10)
          replace hr10 := setR_lm hr10 hA4 (.bool (sg X10)) (.slice a10 (mg X10).length c10) (.bool (sg Y10)) (.slice b10 (mg Y10).length d10)
          replace hs10 := setR_lm hs10 hA4 (.bool (sg X10)) (.slice a10 (mg X10).length c10) (.bool (sg Y10)) (.slice b10 (mg Y10).length d10)
          replace hr11 := setR_lm hr11 hA4 (.bool (sg X10)) (.slice a10 (mg X10).length c10) (.bool (sg Y10)) (.slice b10 (mg Y10).length d10)
          replace hs11 := setR_lm hs11 hA4 (.bool (sg X10)) (.slice a10 (mg X10).length c10) (.bool (sg Y10)) (.slice b10 (mg Y10).length d10)
          clear m0 m1 m2 m3 m4 m5 o0 o1 o2 o3 o4 o5
          clear hHeld2
          obtain ⟨wz, hwz⟩ : ∃ wz, wz = setR wt9 g4 (.bool (sg X10)) (.slice a10 (mg X10).length c10) (.bool (sg Y10)) (.slice b10 (mg Y10).length d10) := ⟨_, rfl⟩
          have hwz2 : ((((wt9.setCell ⟨g4, 0, none⟩ (.bool (sg X10))).setCell ⟨g4, 1, none⟩ (.slice a10 (mg X10).length c10)).setCell ⟨g4, 2, none⟩ (.bool (sg Y10))).setCell ⟨g4, 3, none⟩ (.slice b10 (mg Y10).length d10)) = wz := hwz.symm
          rw [hwz2]
          rw [← hwz] at hA4n hA5n hr10 hs10 hr11 hs11 hby2
          clear hwz hwz2
          obtain ⟨o0, o1, o2, o3, o4, o5⟩ := hA5n
          refine last_T (t := 7) rfl (by kernel_rfl) (by kernel_rfl) (fun K hKK => ?_)
          go_simp
          refine hKK.out _ _ ?_
          have hQ5 : BoxR g5 (.bool false) (.slice none 0 0) (.bool false) (.slice none 0 0) wz := ⟨o0, o1, o2, o3, o4, o5⟩
          have hF4 := hA4n.other (by first | exact hne | exact hne2) (.bool (sg X11)) (.slice a11 (mg X11).length c11) (.bool (sg Y11)) (.slice b11 (mg Y11).length d11)
          have hF5 := setR_made hQ5 (.bool (sg X11)) (.slice a11 (mg X11).length c11) (.bool (sg Y11)) (.slice b11 (mg Y11).length d11)
          replace hr10 := setR_lm hr10 hQ5 (.bool (sg X11)) (.slice a11 (mg X11).length c11) (.bool (sg Y11)) (.slice b11 (mg Y11).length d11)
          replace hs10 := setR_lm hs10 hQ5 (.bool (sg X11)) (.slice a11 (mg X11).length c11) (.bool (sg Y11)) (.slice b11 (mg Y11).length d11)
          replace hr11 := setR_lm hr11 hQ5 (.bool (sg X11)) (.slice a11 (mg X11).length c11) (.bool (sg Y11)) (.slice b11 (mg Y11).length d11)
          replace hs11 := setR_lm hs11 hQ5 (.bool (sg X11)) (.slice a11 (mg X11).length c11) (.bool (sg Y11)) (.slice b11 (mg Y11).length d11)
          have hby3 := setR_bel hby2 g5V (.bool (sg X11)) (.slice a11 (mg X11).length c11) (.bool (sg Y11)) (.slice b11 (mg Y11).length d11)
          go_wp2_with fail
          go_meet
          exact ⟨g4, g5, X10, Y10, X11, Y11, rfl, rfl, hR10, hR11, ⟨⟨a10, c10, b10, d10, a11, c11, b11, d11, hF4, hF5, hr10, hs10, hr11, hs11, hby3⟩⟩⟩
        · go_simp
          refine hKK.out _ _ (hK.out _ (hby.alloc hby.size _)) (fun hHeld2 => ?_)
          have g5V := hby.size
          have hA5 := boxR_new (u0 := .bool false) (u1 := .slice none 0 0) (u2 := .bool false) (u3 := .slice none 0 0) (t := 140) wt7 (Eq.refl wt7.heap.size)
          have hne : g4 ≠ wt7.heap.size := Nat.ne_of_lt hA4.lt
          have hne2 : wt7.heap.size ≠ g4 := Ne.symm hne
          replace hby := hby.alloc hby.size (.cells #[.bool false, .slice none 0 0, .bool false, .slice none 0 0] 140)
          replace hr10 := hr10.alloc (.cells #[.bool false, .slice none 0 0, .bool false, .slice none 0 0] 140)
          replace hs10 := hs10.alloc (.cells #[.bool false, .slice none 0 0, .bool false, .slice none 0 0] 140)
          replace hA4 := hA4.alloc (.cells #[.bool false, .slice none 0 0, .bool false, .slice none 0 0] 140)
          clear hKK K hHeld
          have hHeld := hHeld2
          clear hHeld2
          try simp only [Act.put, List.setIfInBounds_toArray, List.set_cons_zero, List.set_cons_succ]
          generalize (wt7.alloc (.cells #[.bool false, .slice none 0 0, .bool false, .slice none 0 0] 140)) = wt10 at hr10 hs10 hA4 hA5 hby hHeld ⊢
          generalize wt7.heap.size = g5 at hA5 g5V hne hne2 ⊢
          refine next_T (i := 3) rfl (by kernel_rfl) (fun K hKK => ?_)
          go_simp
          refine (rnormR_pos (HLX2.out.below hby) (HLY2.out.below hby) k3.out k4.out H02.out).mono ?_
          rintro e wt11 ⟨X11, Y11, hR11, a11, c11, b11, d11, rfl, hr11, hs11, hbn⟩
          replace hby := hby.trans (hbn.mono hby.size)
          replace hr10 := hr10.below hbn
          replace hs10 := hs10.below hbn
          replace hA4 := hA4.below hbn
          replace hA5 := hA5.below hbn
          go_wp2_with fail
          clear hHeld
          refine hKK.out _ _ (hK.out _ hby) (fun hHeld => ?_)
          clear hKK K hbn
          try simp only [Act.put, List.setIfInBounds_toArray, List.set_cons_zero, List.set_cons_succ]
          have hA4c := hA4
          have hA5c := hA5
          obtain ⟨m0, m1, m2, m3, m4, m5⟩ := hA4c
          obtain ⟨o0, o1, o2, o3, o4, o5⟩ := hA5c
          have hby2 := setR_bel hby g4V (.bool (sg X10)) (.slice a10 (mg X10).length c10) (.bool (sg Y10)) (.slice b10 (mg Y10).length d10)
          refine next_T (i := 6) rfl (by kernel_rfl) (fun K hKK => ?_)
          go_simp
          refine hKK.out _ _ (hK.out _ hby2) (fun hHeld2 => ?_)
          clear hKK K hHeld
          try simp only [Act.put, List.setIfInBounds_toArray, List.set_cons_zero, List.set_cons_succ]
          have hA4n := setR_made hA4 (.bool (sg X10)) (.slice a10 (mg X10).length c10) (.bool (sg Y10)) (.slice b10 (mg Y10).length d10)
          have hA5n := hA5.other (by first | exact hne | exact hne2) (.bool (sg X10)) (.slice a10 (mg X10).length c10) (.bool (sg Y10)) (.slice b10 (mg Y10).length d10)
          replace hr10 := setR_lm hr10 hA4 (.bool (sg X10)) (.slice a10 (mg X10).length c10) (.bool (sg Y10)) (.slice b10 (mg Y10).length d10)
          replace hs10 := setR_lm hs10 hA4 (.bool (sg X10)) (.slice a10 (mg X10).length c10) (.bool (sg Y10)) (.slice b10 (mg Y10).length d10)
          replace hr11 := setR_lm hr11 hA4 (.bool (sg X10)) (.slice a10 (mg X10).length c10) (.bool (sg Y10)) (.slice b10 (mg Y10).length d10)
          replace hs11 := setR_lm hs11 hA4 (.bool (sg X10)) (.slice a10 (mg X10).length c10) (.bool (sg Y10)) (.slice b10 (mg Y10).length d10)
          clear m0 m1 m2 m3 m4 m5 o0 o1 o2 o3 o4 o5
          clear hHeld2
          obtain ⟨wz, hwz⟩ : ∃ wz, wz = setR wt11 g4 (.bool (sg X10)) (.slice a10 (mg X10).length c10) (.bool (sg Y10)) (.slice b10 (mg Y10).length d10) := ⟨_, rfl⟩
          have hwz2 : ((((wt11.setCell ⟨g4, 0, none⟩ (.bool (sg X10))).setCell ⟨g4, 1, none⟩ (.slice a10 (mg X10).length c10)).setCell ⟨g4, 2, none⟩ (.bool (sg Y10))).setCell ⟨g4, 3, none⟩ (.slice b10 (mg Y10).length d10)) = wz := hwz.symm
          rw [hwz2]
          rw [← hwz] at hA4n hA5n hr10 hs10 hr11 hs11 hby2
          clear hwz hwz2
          obtain ⟨o0, o1, o2, o3, o4, o5⟩ := hA5n
          refine last_T (t := 7) rfl (by kernel_rfl) (by kernel_rfl) (fun K hKK => ?_)
          go_simp
          refine hKK.out _ _ ?_
          have hQ5 : BoxR g5 (.bool false) (.slice none 0 0) (.bool false) (.slice none 0 0) wz := ⟨o0, o1, o2, o3, o4, o5⟩
          have hF4 := hA4n.other (by first | exact hne | exact hne2) (.bool (sg X11)) (.slice a11 (mg X11).length c11) (.bool (sg Y11)) (.slice b11 (mg Y11).length d11)
          have hF5 := setR_made hQ5 (.bool (sg X11)) (.slice a11 (mg X11).length c11) (.bool (sg Y11)) (.slice b11 (mg Y11).length d11)
          replace hr10 := setR_lm hr10 hQ5 (.bool (sg X11)) (.slice a11 (mg X11).length c11) (.bool (sg Y11)) (.slice b11 (mg Y11).length d11)
          replace hs10 := setR_lm hs10 hQ5 (.bool (sg X11)) (.slice a11 (mg X11).length c11) (.bool (sg Y11)) (.slice b11 (mg Y11).length d11)
          replace hr11 := setR_lm hr11 hQ5 (.bool (sg X11)) (.slice a11 (mg X11).length c11) (.bool (sg Y11)) (.slice b11 (mg Y11).length d11)
          replace hs11 := setR_lm hs11 hQ5 (.bool (sg X11)) (.slice a11 (mg X11).length c11) (.bool (sg Y11)) (.slice b11 (mg Y11).length d11)
          have hby3 := setR_bel hby2 g5V (.bool (sg X11)) (.slice a11 (mg X11).length c11) (.bool (sg Y11)) (.slice b11 (mg Y11).length d11)
          go_wp2_with fail
          go_meet
          exact ⟨g4, g5, X10, Y10, X11, Y11, rfl, rfl, hR10, hR11, ⟨⟨a10, c10, b10, d10, a11, c11, b11, d11, hF4, hF5, hr10, hs10, hr11, hs11, hby3⟩⟩⟩
      · go_simp
        refine hKK.out _ _ (hK.out _ (hby.alloc hby.size _)) (fun hHeld2 => ?_)
        have g5V := hby.size
        have hA5 := boxR_new (u0 := .bool false) (u1 := .slice none 0 0) (u2 := .bool false) (u3 := .slice none 0 0) (t := 140) wt1 (Eq.refl wt1.heap.size)
        replace hby := hby.alloc hby.size (.cells #[.bool false, .slice none 0 0, .bool false, .slice none 0 0] 140)
        replace hr10 := hr10.alloc (.cells #[.bool false, .slice none 0 0, .bool false, .slice none 0 0] 140)
        replace hs10 := hs10.alloc (.cells #[.bool false, .slice none 0 0, .bool false, .slice none 0 0] 140)
        clear hKK K hHeld
        have hHeld := hHeld2
        clear hHeld2
        try simp only [Act.put, List.setIfInBounds_toArray, List.set_cons_zero, List.set_cons_succ]
        generalize (wt1.alloc (.cells #[.bool false, .slice none 0 0, .bool false, .slice none 0 0] 140)) = wt12 at hr10 hs10 hA5 hby hHeld ⊢
        generalize wt1.heap.size = g5 at hA5 g5V ⊢
        refine two_T (i := 3) (j := 4) rfl rfl (by kernel_rfl) (fun K hKK => ?_) (fun K hKK => ?_)
        · go_simp
          refine (rnormR_pos (HLX2.out.below hby) (HLY2.out.below hby) k3.out k4.out H02.out).mono ?_
          rintro e wt13 ⟨X11, Y11, hR11, a11, c11, b11, d11, rfl, hr11, hs11, hbn⟩
          replace hby := hby.trans (hbn.mono hby.size)
          replace hr10 := hr10.below hbn
          replace hs10 := hs10.below hbn
          replace hA5 := hA5.below hbn
          go_wp2_with fail
          clear hHeld
          refine hKK.out _ _ (hK.out _ hby) (fun hHeld => ?_)
          clear hKK K hbn
          try simp only [Act.put, List.setIfInBounds_toArray, List.set_cons_zero, List.set_cons_succ]
          refine next_T (i := 4) rfl (by kernel_rfl) (fun K hKK => ?_)
          go_simp
          refine hKK.out _ _ (hK.out _ (hby.alloc hby.size _)) (fun hHeld2 => ?_)
          have g4V := hby.size
          have hA4 := boxR_new (u0 := .bool false) (u1 := .slice none 0 0) (u2 := .bool false) (u3 := .slice none 0 0) (t := 140) wt13 (Eq.refl wt13.heap.size)
          have hne : g5 ≠ wt13.heap.size := Nat.ne_of_lt hA5.lt
          have hne2 : wt13.heap.size ≠ g5 := Ne.symm hne
          replace hby := hby.alloc hby.size (.cells #[.bool false, .slice none 0 0, .bool false, .slice none 0 0] 140)
          replace hr10 := hr10.alloc (.cells #[.bool false, .slice none 0 0, .bool false, .slice none 0 0] 140)
          replace hs10 := hs10.alloc (.cells #[.bool false, .slice none 0 0, .bool false, .slice none 0 0] 140)
          replace hA5 := hA5.alloc (.cells #[.bool false, .slice none 0 0, .bool false, .slice none 0 0] 140)
          replace hr11 := hr11.alloc (.cells #[.bool false, .slice none 0 0, .bool false, .slice none 0 0] 140)
          replace hs11 := hs11.alloc (.cells #[.bool false, .slice none 0 0, .bool false, .slice none 0 0] 140)
          clear hKK K hHeld
          have hHeld := hHeld2
          clear hHeld2
          try simp only [Act.put, List.setIfInBounds_toArray, List.set_cons_zero, List.set_cons_succ]
          generalize (wt13.alloc (.cells #[.bool false, .slice none 0 0, .bool false, .slice none 0 0] 140)) = wt14 at hr10 hs10 hA5 hr11 hs11 hA4 hby hHeld ⊢
          generalize wt13.heap.size = g4 at hA4 g4V hne hne2 ⊢
          have hA4c := hA4
          have hA5c := hA5
          obtain ⟨m0, m1, m2, m3, m4, m5⟩ := hA4c
          obtain ⟨o0, o1, o2, o3, o4, o5⟩ := hA5c
          have hby2 := setR_bel hby g4V (.bool (sg X10)) (.slice a10 (mg X10).length c10) (.bool (sg Y10)) (.slice b10 (mg Y10).length d10)
          refine next_T (i := 6) rfl (by kernel_rfl) (fun K hKK => ?_)
          go_simp
          refine hKK.out _ _ (hK.out _ hby2) (fun hHeld2 => ?_)
          clear hKK K hHeld
          try simp only [Act.put, List.setIfInBounds_toArray, List.set_cons_zero, List.set_cons_succ]
          have hA4n := setR_made hA4 (.bool (sg X10)) (.slice a10 (mg X10).length c10) (.bool (sg Y10)) (.slice b10 (mg Y10).length d10)
          have hA5n := hA5.other (by first | exact hne | exact hne2) (.bool (sg X10)) (.slice a10 (mg X10).length c10) (.bool (sg Y10)) (.slice b10 (mg Y10).length d10)
          replace hr10 := setR_lm hr10 hA4 (.bool (sg X10)) (.slice a10 (mg X10).length c10) (.bool (sg Y10)) (.slice b10 (mg Y10).length d10)
          replace hs10 := setR_lm hs10 hA4 (.bool (sg X10)) (.slice a10 (mg X10).length c10) (.bool (sg Y10)) (.slice b10 (mg Y10).length d10)
          replace hr11 := setR_lm hr11 hA4 (.bool (sg X10)) (.slice a10 (mg X10).length c10) (.bool (sg Y10)) (.slice b10 (mg Y10).length d10)
          replace hs11 := setR_lm hs11 hA4 (.bool (sg X10)) (.slice a10 (mg X10).length c10) (.bool (sg Y10)) (.slice b10 (mg Y10).length d10)
          clear m0 m1 m2 m3 m4 m5 o0 o1 o2 o3 o4 o5
          clear hHeld2
          obtain ⟨wz, hwz⟩ : ∃ wz, wz = setR wt14 g4 (.bool (sg X10)) (.slice a10 (mg X10).length c10) (.bool (sg Y10)) (.slice b10 (mg Y10).length d10) := ⟨_, rfl⟩
          have hwz2 : ((((wt14.setCell ⟨g4, 0, none⟩ (.bool (sg X10))).setCell ⟨g4, 1, none⟩ (.slice a10 (mg X10).length c10)).setCell ⟨g4, 2, none⟩ (.bool (sg Y10))).setCell ⟨g4, 3, none⟩ (.slice b10 (mg Y10).length d10)) = wz := hwz.symm
          rw [hwz2]
          rw [← hwz] at hA4n hA5n hr10 hs10 hr11 hs11 hby2
          clear hwz hwz2
          obtain ⟨o0, o1, o2, o3, o4, o5⟩ := hA5n
          refine last_T (t := 7) rfl (by kernel_rfl) (by kernel_rfl) (fun K hKK => ?_)
          go_simp
          refine hKK.out _ _ ?_
          have hQ5 : BoxR g5 (.bool false) (.slice none 0 0) (.bool false) (.slice none 0 0) wz := ⟨o0, o1, o2, o3, o4, o5⟩
          have hF4 := hA4n.other (by first | exact hne | exact hne2) (.bool (sg X11)) (.slice a11 (mg X11).length c11) (.bool (sg Y11)) (.slice b11 (mg Y11).length d11)
          have hF5 := setR_made hQ5 (.bool (sg X11)) (.slice a11 (mg X11).length c11) (.bool (sg Y11)) (.slice b11 (mg Y11).length d11)
          replace hr10 := setR_lm hr10 hQ5 (.bool (sg X11)) (.slice a11 (mg X11).length c11) (.bool (sg Y11)) (.slice b11 (mg Y11).length d11)
          replace hs10 := setR_lm hs10 hQ5 (.bool (sg X11)) (.slice a11 (mg X11).length c11) (.bool (sg Y11)) (.slice b11 (mg Y11).length d11)
          replace hr11 := setR_lm hr11 hQ5 (.bool (sg X11)) (.slice a11 (mg X11).length c11) (.bool (sg Y11)) (.slice b11 (mg Y11).length d11)
          replace hs11 := setR_lm hs11 hQ5 (.bool (sg X11)) (.slice a11 (mg X11).length c11) (.bool (sg Y11)) (.slice b11 (mg Y11).length d11)
          have hby3 := setR_bel hby2 g5V (.bool (sg X11)) (.slice a11 (mg X11).length c11) (.bool (sg Y11)) (.slice b11 (mg Y11).length d11)
          go_wp2_with fail
          go_meet
          exact ⟨g4, g5, X10, Y10, X11, Y11, rfl, rfl, hR10, hR11, ⟨⟨a10, c10, b10, d10, a11, c11, b11, d11, hF4, hF5, hr10, hs10, hr11, hs11, hby3⟩⟩⟩
        · go_simp
          refine hKK.out _ _ (hK.out _ (hby.alloc hby.size _)) (fun hHeld2 => ?_)
          have g4V := hby.size
          have hA4 := boxR_new (u0 := .bool false) (u1 := .slice none 0 0) (u2 := .bool false) (u3 := .slice none 0 0) (t := 140) wt12 (Eq.refl wt12.heap.size)
          have hne : g5 ≠ wt12.heap.size := Nat.ne_of_lt hA5.lt
          have hne2 : wt12.heap.size ≠ g5 := Ne.symm hne
          replace hby := hby.alloc hby.size (.cells #[.bool false, .slice none 0 0, .bool false, .slice none 0 0] 140)
          replace hr10 := hr10.alloc (.cells #[.bool false, .slice none 0 0, .bool false, .slice none 0 0] 140)
          replace hs10 := hs10.alloc (.cells #[.bool false, .slice none 0 0, .bool false, .slice none 0 0] 140)
          replace hA5 := hA5.alloc (.cells #[.bool false, .slice none 0 0, .bool false, .slice none 0 0] 140)
          clear hKK K hHeld
          have hHeld := hHeld2
          clear hHeld2
          try simp only [Act.put, List.setIfInBounds_toArray, List.set_cons_zero, List.set_cons_succ]
          generalize (wt12.alloc (.cells #[.bool false, .slice none 0 0, .bool false, .slice none 0 0] 140)) = wt15 at hr10 hs10 hA5 hA4 hby hHeld ⊢
          generalize wt12.heap.size = g4 at hA4 g4V hne hne2 ⊢
          refine next_T (i := 3) rfl (by kernel_rfl) (fun K hKK => ?_)
          go_simp
          refine (rnormR_pos (HLX2.out.below hby) (HLY2.out.below hby) k3.out k4.out H02.out).mono ?_
          rintro e wt16 ⟨X11, Y11, hR11, a11, c11, b11, d11, rfl, hr11, hs11, hbn⟩
          replace hby := hby.trans (hbn.mono hby.size)
          replace hr10 := hr10.below hbn
          replace hs10 := hs10.below hbn
          replace hA5 := hA5.below hbn
          replace hA4 := hA4.below hbn
          go_wp2_with fail
          clear hHeld
          refine hKK.out _ _ (hK.out _ hby) (fun hHeld => ?_)
          clear hKK K hbn
          try simp only [Act.put, List.setIfInBounds_toArray, List.set_cons_zero, List.set_cons_succ]
          have hA4c := hA4
          have hA5c := hA5
          obtain ⟨m0, m1, m2, m3, m4, m5⟩ := hA4c
          obtain ⟨o0, o1, o2, o3, o4, o5⟩ := hA5c
          have hby2 := setR_bel hby g4V (.bool (sg X10)) (.slice a10 (mg X10).length c10) (.bool (sg Y10)) (.slice b10 (mg Y10).length d10)
          refine next_T (i := 6) rfl (by kernel_rfl) (fun K hKK => ?_)
          go_simp
          refine hKK.out _ _ (hK.out _ hby2) (fun hHeld2 => ?_)
          clear hKK K hHeld
          try simp only [Act.put, List.setIfInBounds_toArray, List.set_cons_zero, List.set_cons_succ]
          have hA4n := setR_made hA4 (.bool (sg X10)) (.slice a10 (mg X10).length c10) (.bool (sg Y10)) (.slice b10 (mg Y10).length d10)
          have hA5n := hA5.other (by first | exact hne | exact hne2) (.bool (sg X10)) (.slice a10 (mg X10).length c10) (.bool (sg Y10)) (.slice b10 (mg Y10).length d10)
          replace hr10 := setR_lm hr10 hA4 (.bool (sg X10)) (.slice a10 (mg X10).length c10) (.bool (sg Y10)) (.slice b10 (mg Y10).length d10)
          replace hs10 := setR_lm hs10 hA4 (.bool (sg X10)) (.slice a10 (mg X10).length c10) (.bool (sg Y10)) (.slice b10 (mg Y10).length d10)
          replace hr11 := setR_lm hr11 hA4 (.bool (sg X10)) (.slice a10 (mg X10).length c10) (.bool (sg Y10)) (.slice b10 (mg Y10).length d10)
          replace hs11 := setR_lm hs11 hA4 (.bool (sg X10)) (.slice a10 (mg X10).length c10) (.bool (sg Y10)) (.slice b10 (mg Y10).length d10)
          clear m0 m1 m2 m3 m4 m5 o0 o1 o2 o3 o4 o5
          clear hHeld2
          obtain ⟨wz, hwz⟩ : ∃ wz, wz = setR wt16 g4 (.bool (sg X10)) (.slice a10 (mg X10).length c10) (.bool (sg Y10)) (.slice b10 (mg Y10).length d10) := ⟨_, rfl⟩
          have hwz2 : ((((wt16.setCell ⟨g4, 0, none⟩ (.bool (sg X10))).setCell ⟨g4, 1, none⟩ (.slice a10 (mg X10).length c10)).setCell ⟨g4, 2, none⟩ (.bool (sg Y10))).setCell ⟨g4, 3, none⟩ (.slice b10 (mg Y10).length d10)) = wz := hwz.symm
          rw [hwz2]
          rw [← hwz] at hA4n hA5n hr10 hs10 hr11 hs11 hby2
          clear hwz hwz2
          obtain ⟨o0, o1, o2, o3, o4, o5⟩ := hA5n
          refine last_T (t := 7) rfl (by kernel_rfl) (by kernel_rfl) (fun K hKK => ?_)
          go_simp
          refine hKK.out _ _ ?_
          have hQ5 : BoxR g5 (.bool false) (.slice none 0 0) (.bool false) (.slice none 0 0) wz := ⟨o0, o1, o2, o3, o4, o5⟩
          have hF4 := hA4n.other (by first | exact hne | exact hne2) (.bool (sg X11)) (.slice a11 (mg X11).length c11) (.bool (sg Y11)) (.slice b11 (mg Y11).length d11)
          have hF5 := setR_made hQ5 (.bool (sg X11)) (.slice a11 (mg X11).length c11) (.bool (sg Y11)) (.slice b11 (mg Y11).length d11)
          replace hr10 := setR_lm hr10 hQ5 (.bool (sg X11)) (.slice a11 (mg X11).length c11) (.bool (sg Y11)) (.slice b11 (mg Y11).length d11)
          replace hs10 := setR_lm hs10 hQ5 (.bool (sg X11)) (.slice a11 (mg X11).length c11) (.bool (sg Y11)) (.slice b11 (mg Y11).length d11)
          replace hr11 := setR_lm hr11 hQ5 (.bool (sg X11)) (.slice a11 (mg X11).length c11) (.bool (sg Y11)) (.slice b11 (mg Y11).length d11)
          replace hs11 := setR_lm hs11 hQ5 (.bool (sg X11)) (.slice a11 (mg X11).length c11) (.bool (sg Y11)) (.slice b11 (mg Y11).length d11)
          have hby3 := setR_bel hby2 g5V (.bool (sg X11)) (.slice a11 (mg X11).length c11) (.bool (sg Y11)) (.slice b11 (mg Y11).length d11)
          go_wp2_with fail
          go_meet
          exact ⟨g4, g5, X10, Y10, X11, Y11, rfl, rfl, hR10, hR11, ⟨⟨a10, c10, b10, d10, a11, c11, b11, d11, hF4, hF5, hr10, hs10, hr11, hs11, hby3⟩⟩⟩
    · go_simp
      refine hKK.out _ _ (hK.out _ (hby.alloc hby.size _)) (fun hHeld2 => ?_)
      have g4V := hby.size
      have hA4 := boxR_new (u0 := .bool false) (u1 := .slice none 0 0) (u2 := .bool false) (u3 := .slice none 0 0) (t := 140) w0d (Eq.refl w0d.heap.size)
      replace hby := hby.alloc hby.size (.cells #[.bool false, .slice none 0 0, .bool false, .slice none 0 0] 140)
      clear hKK K hHeld
      have hHeld := hHeld2
      clear hHeld2
      try simp only [Act.put, List.setIfInBounds_toArray, List.set_cons_zero, List.set_cons_succ]
      generalize (w0d.alloc (.cells #[.bool false, .slice none 0 0, .bool false, .slice none 0 0] 140)) = wt17 at hA4 hby hHeld ⊢
      generalize w0d.heap.size = g4 at hA4 g4V ⊢
      refine two_T (i := 1) (j := 5) rfl rfl (by kernel_rfl) (fun K hKK => ?_) (fun K hKK => ?_)
      · go_simp
        refine (rnormR_pos (HLX.out.below hby) (HLY.out.below hby) k1.out k2.out H0.out).mono ?_
        rintro e wt18 ⟨X10, Y10, hR10, a10, c10, b10, d10, rfl, hr10, hs10, hbn⟩
        replace hby := hby.trans (hbn.mono hby.size)
        replace hA4 := hA4.below hbn
        go_wp2_with fail
        clear hHeld
        refine hKK.out _ _ (hK.out _ hby) (fun hHeld => ?_)
        clear hKK K hbn
        try simp only [Act.put, List.setIfInBounds_toArray, List.set_cons_zero, List.set_cons_succ]
        refine two_T (i := 3) (j := 5) rfl rfl (by kernel_rfl) (fun K hKK => ?_) (fun K hKK => ?_)
        · go_simp
          refine (rnormR_pos (HLX2.out.below hby) (HLY2.out.below hby) k3.out k4.out H02.out).mono ?_
          rintro e wt19 ⟨X11, Y11, hR11, a11, c11, b11, d11, rfl, hr11, hs11, hbn⟩
          replace hby := hby.trans (hbn.mono hby.size)
          replace hA4 := hA4.below hbn
          replace hr10 := hr10.below hbn
          replace hs10 := hs10.below hbn
          go_wp2_with fail
          clear hHeld
          refine hKK.out _ _ (hK.out _ hby) (fun hHeld => ?_)
          clear hKK K hbn
          try simp only [Act.put, List.setIfInBounds_toArray, List.set_cons_zero, List.set_cons_succ]
          refine next_T (i := 5) rfl (by kernel_rfl) (fun K hKK => ?_)
          go_simp
          refine hKK.out _ _ (hK.out _ (hby.alloc hby.size _)) (fun hHeld2 => ?_)
          have g5V := hby.size
          have hA5 := boxR_new (u0 := .bool false) (u1 := .slice none 0 0) (u2 := .bool false) (u3 := .slice none 0 0) (t := 140) wt19 (Eq.refl wt19.heap.size)
          have hne : g4 ≠ wt19.heap.size := Nat.ne_of_lt hA4.lt
          have hne2 : wt19.heap.size ≠ g4 := Ne.symm hne
          replace hby := hby.alloc hby.size (.cells #[.bool false, .slice none 0 0, .bool false, .slice none 0 0] 140)
          replace hA4 := hA4.alloc (.cells #[.bool false, .slice none 0 0, .bool false, .slice none 0 0] 140)
          replace hr10 := hr10.alloc (.cells #[.bool false, .slice none 0 0, .bool false, .slice none 0 0] 140)
          replace hs10 := hs10.alloc (.cells #[.bool false, .slice none 0 0, .bool false, .slice none 0 0] 140)
          replace hr11 := hr11.alloc (.cells #[.bool false, .slice none 0 0, .bool false, .slice none 0 0] 140)
          replace hs11 := hs11.alloc (.cells #[.bool false, .slice none 0 0, .bool false, .slice none 0 0] 140)
          clear hKK K hHeld
          have hHeld := hHeld2
          clear hHeld2
          try simp only [Act.put, List.setIfInBounds_toArray, List.set_cons_zero, List.set_cons_succ]
          generalize (wt19.alloc (.cells #[.bool false, .slice none 0 0, .bool false, .slice none 0 0] 140)) = wt20 at hA4 hr10 hs10 hr11 hs11 hA5 hby hHeld ⊢
          generalize wt19.heap.size = g5 at hA5 g5V hne hne2 ⊢
          have hA4c := hA4
          have hA5c := hA5
          obtain ⟨m0, m1, m2, m3, m4, m5⟩ := hA4c
          obtain ⟨o0, o1, o2, o3, o4, o5⟩ := hA5c
          have hby2 := setR_bel hby g4V (.bool (sg X10)) (.slice a10 (mg X10).length c10) (.bool (sg Y10)) (.slice b10 (mg Y10).length d10)
          refine next_T (i := 6) rfl (by kernel_rfl) (fun K hKK => ?_)
          go_simp
          refine hKK.out _ _ (hK.out _ hby2) (fun hHeld2 => ?_)
          clear hKK K hHeld
          try simp only [Act.put, List.setIfInBounds_toArray, List.set_cons_zero, List.set_cons_succ]
          have hA4n := setR_made hA4 (.bool (sg X10)) (.slice a10 (mg X10).length c10) (.bool (sg Y10)) (.slice b10 (mg Y10).length d10)
          have hA5n := hA5.other (by first | exact hne | exact hne2) (.bool (sg X10)) (.slice a10 (mg X10).length c10) (.bool (sg Y10)) (.slice b10 (mg Y10).length d10)
          replace hr10 := setR_lm hr10 hA4 (.bool (sg X10)) (.slice a10 (mg X10).length c10) (.bool (sg Y10)) (.slice b10 (mg Y10).length d10)
          replace hs10 := setR_lm hs10 hA4 (.bool (sg X10)) (.slice a10 (mg X10).length c10) (.bool (sg Y10)) (.slice b10 (mg Y10).length d10)
          replace hr11 := setR_lm hr11 hA4 (.bool (sg X10)) (.slice a10 (mg X10).length c10) (.bool (sg Y10)) (.slice b10 (mg Y10).length d10)
          replace hs11 := setR_lm hs11 hA4 (.bool (sg X10)) (.slice a10 (mg X10).length c10) (.bool (sg Y10)) (.slice b10 (mg Y10).length d10)
          clear m0 m1 m2 m3 m4 m5 o0 o1 o2 o3 o4 o5
          clear hHeld2
          obtain ⟨wz, hwz⟩ : ∃ wz, wz = setR wt20 g4 (.bool (sg X10)) (.slice a10 (mg X10).length c10) (.bool (sg Y10)) (.slice b10 (mg Y10).length d10) := ⟨_, rfl⟩
          have hwz2 : ((((wt20.setCell ⟨g4, 0, none⟩ (.bool (sg X10))).setCell ⟨g4, 1, none⟩ (.slice a10 (mg X10).length c10)).setCell ⟨g4, 2, none⟩ (.bool (sg Y10))).setCell ⟨g4, 3, none⟩ (.slice b10 (mg Y10).length d10)) = wz := hwz.symm
          rw [hwz2]
          rw [← hwz] at hA4n hA5n hr10 hs10 hr11 hs11 hby2
          clear hwz hwz2
          obtain ⟨o0, o1, o2, o3, o4, o5⟩ := hA5n
          refine last_T (t := 7) rfl (by kernel_rfl) (by kernel_rfl) (fun K hKK => ?_)
          go_simp
          refine hKK.out _ _ ?_
          have hQ5 : BoxR g5 (.bool false) (.slice none 0 0) (.bool false) (.slice none 0 0) wz := ⟨o0, o1, o2, o3, o4, o5⟩
          have hF4 := hA4n.other (by first | exact hne | exact hne2) (.bool (sg X11)) (.slice a11 (mg X11).length c11) (.bool (sg Y11)) (.slice b11 (mg Y11).length d11)
          have hF5 := setR_made hQ5 (.bool (sg X11)) (.slice a11 (mg X11).length c11) (.bool (sg Y11)) (.slice b11 (mg Y11).length d11)
          replace hr10 := setR_lm hr10 hQ5 (.bool (sg X11)) (.slice a11 (mg X11).length c11) (.bool (sg Y11)) (.slice b11 (mg Y11).length d11)
          replace hs10 := setR_lm hs10 hQ5 (.bool (sg X11)) (.slice a11 (mg X11).length c11) (.bool (sg Y11)) (.slice b11 (mg Y11).length d11)
          replace hr11 := setR_lm hr11 hQ5 (.bool (sg X11)) (.slice a11 (mg X11).length c11) (.bool (sg Y11)) (.slice b11 (mg Y11).length d11)
          replace hs11 := setR_lm hs11 hQ5 (.bool (sg X11)) (.slice a11 (mg X11).length c11) (.bool (sg Y11)) (.slice b11 (mg Y11).length d11)
          have hby3 := setR_bel hby2 g5V (.bool (sg X11)) (.slice a11 (mg X11).length c11) (.bool (sg Y11)) (.slice b11 (mg Y11).length d11)
          go_wp2_with fail
          go_meet
          exact ⟨g4, g5, X10, Y10, X11, Y11, rfl, rfl, hR10, hR11, ⟨⟨a10, c10, b10, d10, a11, c11, b11, d11, hF4, hF5, hr10, hs10, hr11, hs11, hby3⟩⟩⟩
        · go_simp
          refine hKK.out _ _ (hK.out _ (hby.alloc hby.size _)) (fun hHeld2 => ?_)
          have g5V := hby.size
          have hA5 := boxR_new (u0 := .bool false) (u1 := .slice none 0 0) (u2 := .bool false) (u3 := .slice none 0 0) (t := 140) wt18 (Eq.refl wt18.heap.size)
          have hne : g4 ≠ wt18.heap.size := Nat.ne_of_lt hA4.lt
          have hne2 : wt18.heap.size ≠ g4 := Ne.symm hne
          replace hby := hby.alloc hby.size (.cells #[.bool false, .slice none 0 0, .bool false, .slice none 0 0] 140)
          replace hA4 := hA4.alloc (.cells #[.bool false, .slice none 0 0, .bool false, .slice none 0 0] 140)
          replace hr10 := hr10.alloc (.cells #[.bool false, .slice none 0 0, .bool false, .slice none 0 0] 140)
          replace hs10 := hs10.alloc (.cells #[.bool false, .slice none 0 0, .bool false, .slice none 0 0] 140)
          clear hKK K hHeld
          have hHeld := hHeld2
          clear hHeld2
          try simp only [Act.put, List.setIfInBounds_toArray, List.set_cons_zero, List.set_cons_succ]
          generalize (wt18.alloc (.cells #[.bool false, .slice none 0 0, .bool false, .slice none 0 0] 140)) = wt21 at hA4 hr10 hs10 hA5 hby hHeld ⊢
          generalize wt18.heap.size = g5 at hA5 g5V hne hne2 ⊢
          refine next_T (i := 3) rfl (by kernel_rfl) (fun K hKK => ?_)
          go_simp
          refine (rnormR_pos (HLX2.out.below hby) (HLY2.out.below hby) k3.out k4.out H02.out).mono ?_
          rintro e wt22 ⟨X11, Y11, hR11, a11, c11, b11, d11, rfl, hr11, hs11, hbn⟩
          replace hby := hby.trans (hbn.mono hby.size)
          replace hA4 := hA4.below hbn
          replace hr10 := hr10.below hbn
          replace hs10 := hs10.below hbn
          replace hA5 := hA5.below hbn
          go_wp2_with fail
          clear hHeld
          refine hKK.out _ _ (hK.out _ hby) (fun hHeld => ?_)
          clear hKK K hbn
          try simp only [Act.put, List.setIfInBounds_toArray, List.set_cons_zero, List.set_cons_succ]
          have hA4c := hA4
          have hA5c := hA5
          obtain ⟨m0, m1, m2, m3, m4, m5⟩ := hA4c
          obtain ⟨o0, o1, o2, o3, o4, o5⟩ := hA5c
          have hby2 := setR_bel hby g4V (.bool (sg X10)) (.slice a10 (mg X10).length c10) (.bool (sg Y10)) (.slice b10 (mg Y10).length d10)
          refine next_T (i := 6) rfl (by kernel_rfl) (fun K hKK => ?_)
          go_simp
          refine hKK.out _ _ (hK.out _ hby2) (fun hHeld2 => ?_)
          clear hKK K hHeld
          try simp only [Act.put, List.setIfInBounds_toArray, List.set_cons_zero, List.set_cons_succ]
          have hA4n := setR_made hA4 (.bool (sg X10)) (.slice a10 (mg X10).length c10) (.bool (sg Y10)) (.slice b10 (mg Y10).length d10)
          have hA5n := hA5.other (by first | exact hne | exact hne2) (.bool (sg X10)) (.slice a10 (mg X10).length c10) (.bool (sg Y10)) (.slice b10 (mg Y10).length d10)
          replace hr10 := setR_lm hr10 hA4 (.bool (sg X10)) (.slice a10 (mg X10).length c10) (.bool (sg Y10)) (.slice b10 (mg Y10).length d10)
          replace hs10 := setR_lm hs10 hA4 (.bool (sg X10)) (.slice a10 (mg X10).length c10) (.bool (sg Y10)) (.slice b10 (mg Y10).length d10)
          replace hr11 := setR_lm hr11 hA4 (.bool (sg X10)) (.slice a10 (mg X10).length c10) (.bool (sg Y10)) (.slice b10 (mg Y10).length d10)
          replace hs11 := setR_lm hs11 hA4 (.bool (sg X10)) (.slice a10 (mg X10).length c10) (.bool (sg Y10)) (.slice b10 (mg Y10).length d10)
          clear m0 m1 m2 m3 m4 m5 o0 o1 o2 o3 o4 o5
          clear hHeld2
          obtain ⟨wz, hwz⟩ : ∃ wz, wz = setR wt22 g4 (.bool (sg X10)) (.slice a10 (mg X10).length c10) (.bool (sg Y10)) (.slice b10 (mg Y10).length d10) := ⟨_, rfl⟩
          have hwz2 : ((((wt22.setCell ⟨g4, 0, none⟩ (.bool (sg X10))).setCell ⟨g4, 1, none⟩ (.slice a10 (mg X10).length c10)).setCell ⟨g4, 2, none⟩ (.bool (sg Y10))).setCell ⟨g4, 3, none⟩ (.slice b10 (mg Y10).length d10)) = wz := hwz.symm
          rw [hwz2]
          rw [← hwz] at hA4n hA5n hr10 hs10 hr11 hs11 hby2
          clear hwz hwz2
          obtain ⟨o0, o1, o2, o3, o4, o5⟩ := hA5n
          refine last_T (t := 7) rfl (by kernel_rfl) (by kernel_rfl) (fun K hKK => ?_)
          go_simp
          refine hKK.out _ _ ?_
          have hQ5 : BoxR g5 (.bool false) (.slice none 0 0) (.bool false) (.slice none 0 0) wz := ⟨o0, o1, o2, o3, o4, o5⟩
          have hF4 := hA4n.other (by first | exact hne | exact hne2) (.bool (sg X11)) (.slice a11 (mg X11).length c11) (.bool (sg Y11)) (.slice b11 (mg Y11).length d11)
          have hF5 := setR_made hQ5 (.bool (sg X11)) (.slice a11 (mg X11).length c11) (.bool (sg Y11)) (.slice b11 (mg Y11).length d11)
          replace hr10 := setR_lm hr10 hQ5 (.bool (sg X11)) (.slice a11 (mg X11).length c11) (.bool (sg Y11)) (.slice b11 (mg Y11).length d11)
          replace hs10 := setR_lm hs10 hQ5 (.bool (sg X11)) (.slice a11 (mg X11).length c11) (.bool (sg Y11)) (.slice b11 (mg Y11).length d11)
          replace hr11 := setR_lm hr11 hQ5 (.bool (sg X11)) (.slice a11 (mg X11).length c11) (.bool (sg Y11)) (.slice b11 (mg Y11).length d11)
          replace hs11 := setR_lm hs11 hQ5 (.bool (sg X11)) (.slice a11 (mg X11).length c11) (.bool (sg Y11)) (.slice b11 (mg Y11).length d11)
          have hby3 := setR_bel hby2 g5V (.bool (sg X11)) (.slice a11 (mg X11).length c11) (.bool (sg Y11)) (.slice b11 (mg Y11).length d11)
          go_wp2_with fail
          go_meet
          exact ⟨g4, g5, X10, Y10, X11, Y11, rfl, rfl, hR10, hR11, ⟨⟨a10, c10, b10, d10, a11, c11, b11, d11, hF4, hF5, hr10, hs10, hr11, hs11, hby3⟩⟩⟩
      · go_simp
        refine hKK.out _ _ (hK.out _ (hby.alloc hby.size _)) (fun hHeld2 => ?_)
        have g5V := hby.size
        have hA5 := boxR_new (u0 := .bool false) (u1 := .slice none 0 0) (u2 := .bool false) (u3 := .slice none 0 0) (t := 140) wt17 (Eq.refl wt17.heap.size)
        have hne : g4 ≠ wt17.heap.size := Nat.ne_of_lt hA4.lt
        have hne2 : wt17.heap.size ≠ g4 := Ne.symm hne
        replace hby := hby.alloc hby.size (.cells #[.bool false, .slice none 0 0, .bool false, .slice none 0 0] 140)
        replace hA4 := hA4.alloc (.cells #[.bool false, .slice none 0 0, .bool false, .slice none 0 0] 140)
        clear hKK K hHeld
        have hHeld := hHeld2
        clear hHeld2
        try simp only [Act.put, List.setIfInBounds_toArray, List.set_cons_zero, List.set_cons_succ]
        generalize (wt17.alloc (.cells #[.bool false, .slice none 0 0, .bool false, .slice none 0 0] 140)) = wt23 at hA4 hA5 hby hHeld ⊢
        generalize wt17.heap.size = g5 at hA5 g5V hne hne2 ⊢
        refine next_T (i := 1) rfl (by kernel_rfl) (fun K hKK => ?_)
        go_simp
        refine (rnormR_pos (HLX.out.below hby) (HLY.out.below hby) k1.out k2.out H0.out).mono ?_
        rintro e wt24 ⟨X10, Y10, hR10, a10, c10, b10, d10, rfl, hr10, hs10, hbn⟩
        replace hby := hby.trans (hbn.mono hby.size)
        replace hA4 := hA4.below hbn
        replace hA5 := hA5.below hbn
        go_wp2_with fail
        clear hHeld
        refine hKK.out _ _ (hK.out _ hby) (fun hHeld => ?_)
        clear hKK K hbn
        try simp only [Act.put, List.setIfInBounds_toArray, List.set_cons_zero, List.set_cons_succ]
        refine next_T (i := 3) rfl (by kernel_rfl) (fun K hKK => ?_)
        go_simp
        refine (rnormR_pos (HLX2.out.below hby) (HLY2.out.below hby) k3.out k4.out H02.out).mono ?_
        rintro e wt25 ⟨X11, Y11, hR11, a11, c11, b11, d11, rfl, hr11, hs11, hbn⟩
        replace hby := hby.trans (hbn.mono hby.size)
        replace hA4 := hA4.below hbn
        replace hA5 := hA5.below hbn
        replace hr10 := hr10.below hbn
        replace hs10 := hs10.below hbn
        go_wp2_with fail
        clear hHeld
        refine hKK.out _ _ (hK.out _ hby) (fun hHeld => ?_)
        clear hKK K hbn
        try simp only [Act.put, List.setIfInBounds_toArray, List.set_cons_zero, List.set_cons_succ]
        have hA4c := hA4
        have hA5c := hA5
        obtain ⟨m0, m1, m2, m3, m4, m5⟩ := hA4c
        obtain ⟨o0, o1, o2, o3, o4, o5⟩ := hA5c
        have hby2 := setR_bel hby g4V (.bool (sg X10)) (.slice a10 (mg X10).length c10) (.bool (sg Y10)) (.slice b10 (mg Y10).length d10)
        refine next_T (i := 6) rfl (by kernel_rfl) (fun K hKK => ?_)
        go_simp
        refine hKK.out _ _ (hK.out _ hby2) (fun hHeld2 => ?_)
        clear hKK K hHeld
        try simp only [Act.put, List.setIfInBounds_toArray, List.set_cons_zero, List.set_cons_succ]
        have hA4n := setR_made hA4 (.bool (sg X10)) (.slice a10 (mg X10).length c10) (.bool (sg Y10)) (.slice b10 (mg Y10).length d10)
        have hA5n := hA5.other (by first | exact hne | exact hne2) (.bool (sg X10)) (.slice a10 (mg X10).length c10) (.bool (sg Y10)) (.slice b10 (mg Y10).length d10)
        replace hr10 := setR_lm hr10 hA4 (.bool (sg X10)) (.slice a10 (mg X10).length c10) (.bool (sg Y10)) (.slice b10 (mg Y10).length d10)
        replace hs10 := setR_lm hs10 hA4 (.bool (sg X10)) (.slice a10 (mg X10).length c10) (.bool (sg Y10)) (.slice b10 (mg Y10).length d10)
        replace hr11 := setR_lm hr11 hA4 (.bool (sg X10)) (.slice a10 (mg X10).length c10) (.bool (sg Y10)) (.slice b10 (mg Y10).length d10)
        replace hs11 := setR_lm hs11 hA4 (.bool (sg X10)) (.slice a10 (mg X10).length c10) (.bool (sg Y10)) (.slice b10 (mg Y10).length d10)
        clear m0 m1 m2 m3 m4 m5 o0 o1 o2 o3 o4 o5
        clear hHeld2
        obtain ⟨wz, hwz⟩ : ∃ wz, wz = setR wt25 g4 (.bool (sg X10)) (.slice a10 (mg X10).length c10) (.bool (sg Y10)) (.slice b10 (mg Y10).length d10) := ⟨_, rfl⟩
        have hwz2 : ((((wt25.setCell ⟨g4, 0, none⟩ (.bool (sg X10))).setCell ⟨g4, 1, none⟩ (.slice a10 (mg X10).length c10)).setCell ⟨g4, 2, none⟩ (.bool (sg Y10))).setCell ⟨g4, 3, none⟩ (.slice b10 (mg Y10).length d10)) = wz := hwz.symm
        rw [hwz2]
        rw [← hwz] at hA4n hA5n hr10 hs10 hr11 hs11 hby2
        clear hwz hwz2
        obtain ⟨o0, o1, o2, o3, o4, o5⟩ := hA5n
        refine last_T (t := 7) rfl (by kernel_rfl) (by kernel_rfl) (fun K hKK => ?_)
        go_simp
        refine hKK.out _ _ ?_
        have hQ5 : BoxR g5 (.bool false) (.slice none 0 0) (.bool false) (.slice none 0 0) wz := ⟨o0, o1, o2, o3, o4, o5⟩
        have hF4 := hA4n.other (by first | exact hne | exact hne2) (.bool (sg X11)) (.slice a11 (mg X11).length c11) (.bool (sg Y11)) (.slice b11 (mg Y11).length d11)
        have hF5 := setR_made hQ5 (.bool (sg X11)) (.slice a11 (mg X11).length c11) (.bool (sg Y11)) (.slice b11 (mg Y11).length d11)
        replace hr10 := setR_lm hr10 hQ5 (.bool (sg X11)) (.slice a11 (mg X11).length c11) (.bool (sg Y11)) (.slice b11 (mg Y11).length d11)
        replace hs10 := setR_lm hs10 hQ5 (.bool (sg X11)) (.slice a11 (mg X11).length c11) (.bool (sg Y11)) (.slice b11 (mg Y11).length d11)
        replace hr11 := setR_lm hr11 hQ5 (.bool (sg X11)) (.slice a11 (mg X11).length c11) (.bool (sg Y11)) (.slice b11 (mg Y11).length d11)
        replace hs11 := setR_lm hs11 hQ5 (.bool (sg X11)) (.slice a11 (mg X11).length c11) (.bool (sg Y11)) (.slice b11 (mg Y11).length d11)
        have hby3 := setR_bel hby2 g5V (.bool (sg X11)) (.slice a11 (mg X11).length c11) (.bool (sg Y11)) (.slice b11 (mg Y11).length d11)
        go_wp2_with fail
        go_meet
        exact ⟨g4, g5, X10, Y10, X11, Y11, rfl, rfl, hR10, hR11, ⟨⟨a10, c10, b10, d10, a11, c11, b11, d11, hF4, hF5, hr10, hs10, hr11, hs11, hby3⟩⟩⟩
    · go_simp
      refine hKK.out _ _ (hK.out _ (hby.alloc hby.size _)) (fun hHeld2 => ?_)
      have g5V := hby.size
      have hA5 := boxR_new (u0 := .bool false) (u1 := .slice none 0 0) (u2 := .bool false) (u3 := .slice none 0 0) (t := 140) w0d (Eq.refl w0d.heap.size)
      replace hby := hby.alloc hby.size (.cells #[.bool false, .slice none 0 0, .bool false, .slice none 0 0] 140)
      clear hKK K hHeld
      have hHeld := hHeld2
      clear hHeld2
      try simp only [Act.put, List.setIfInBounds_toArray, List.set_cons_zero, List.set_cons_succ]
      generalize (w0d.alloc (.cells #[.bool false, .slice none 0 0, .bool false, .slice none 0 0] 140)) = wt26 at hA5 hby hHeld ⊢
      generalize w0d.heap.size = g5 at hA5 g5V ⊢
      refine two_T (i := 1) (j := 4) rfl rfl (by kernel_rfl) (fun K hKK => ?_) (fun K hKK => ?_)
      · go_simp
        refine (rnormR_pos (HLX.out.below hby) (HLY.out.below hby) k1.out k2.out H0.out).mono ?_
        rintro e wt27 ⟨X10, Y10, hR10, a10, c10, b10, d10, rfl, hr10, hs10, hbn⟩
        replace hby := hby.trans (hbn.mono hby.size)
        replace hA5 := hA5.below hbn
        go_wp2_with fail
        clear hHeld
        refine hKK.out _ _ (hK.out _ hby) (fun hHeld => ?_)
        clear hKK K hbn
        try simp only [Act.put, List.setIfInBounds_toArray, List.set_cons_zero, List.set_cons_succ]
        refine two_T (i := 3) (j := 4) rfl rfl (by kernel_rfl) (fun K hKK => ?_) (fun K hKK => ?_)
        · go_simp
          refine (rnormR_pos (HLX2.out.below hby) (HLY2.out.below hby) k3.out k4.out H02.out).mono ?_
          rintro e wt28 ⟨X11, Y11, hR11, a11, c11, b11, d11, rfl, hr11, hs11, hbn⟩
          replace hby := hby.trans (hbn.mono hby.size)
          replace hA5 := hA5.below hbn
          replace hr10 := hr10.below hbn
          replace hs10 := hs10.below hbn
          go_wp2_with fail
          clear hHeld
          refine hKK.out _ _ (hK.out _ hby) (fun hHeld => ?_)
          clear hKK K hbn
          try simp only [Act.put, List.setIfInBounds_toArray, List.set_cons_zero, List.set_cons_succ]
          refine next_T (i := 4) rfl (by kernel_rfl) (fun K hKK => ?_)
          go_simp
          refine hKK.out _ _ (hK.out _ (hby.alloc hby.size _)) (fun hHeld2 => ?_)
          have g4V := hby.size
          have hA4 := boxR_new (u0 := .bool false) (u1 := .slice none 0 0) (u2 := .bool false) (u3 := .slice none 0 0) (t := 140) wt28 (Eq.refl wt28.heap.size)
          have hne : g5 ≠ wt28.heap.size := Nat.ne_of_lt hA5.lt
          have hne2 : wt28.heap.size ≠ g5 := Ne.symm hne
          replace hby := hby.alloc hby.size (.cells #[.bool false, .slice none 0 0, .bool false, .slice none 0 0] 140)
          replace hA5 := hA5.alloc (.cells #[.bool false, .slice none 0 0, .bool false, .slice none 0 0] 140)
          replace hr10 := hr10.alloc (.cells #[.bool false, .slice none 0 0, .bool false, .slice none 0 0] 140)
          replace hs10 := hs10.alloc (.cells #[.bool false, .slice none 0 0, .bool false, .slice none 0 0] 140)
          replace hr11 := hr11.alloc (.cells #[.bool false, .slice none 0 0, .bool false, .slice none 0 0] 140)
          replace hs11 := hs11.alloc (.cells #[.bool false, .slice none 0 0, .bool false, .slice none 0 0] 140)
          clear hKK K hHeld
          have hHeld := hHeld2
          clear hHeld2
          try simp only [Act.put, List.setIfInBounds_toArray, List.set_cons_zero, List.set_cons_succ]
          generalize (wt28.alloc (.cells #[.bool false, .slice none 0 0, .bool false, .slice none 0 0] 140)) = wt29 at hA5 hr10 hs10 hr11 hs11 hA4 hby hHeld ⊢
          generalize wt28.heap.size = g4 at hA4 g4V hne hne2 ⊢
          have hA4c := hA4
          have hA5c := hA5
          obtain ⟨m0, m1, m2, m3, m4, m5⟩ := hA4c
          obtain ⟨o0, o1, o2, o3, o4, o5⟩ := hA5c
          have hby2 := setR_bel hby g4V (.bool (sg X10)) (.slice a10 (mg X10).length c10) (.bool (sg Y10)) (.slice b10 (mg Y10).length d10)
          refine next_T (i := 6) rfl (by kernel_rfl) (fun K hKK => ?_)
          go_simp
          refine hKK.out _ _ (hK.out _ hby2) (fun hHeld2 => ?_)
          clear hKK K hHeld
          try simp only [Act.put, List.setIfInBounds_toArray, List.set_cons_zero, List.set_cons_succ]
          have hA4n := setR_made hA4 (.bool (sg X10)) (.slice a10 (mg X10).length c10) (.bool (sg Y10)) (.slice b10 (mg Y10).length d10)
          have hA5n := hA5.other (by first | exact hne | exact hne2) (.bool (sg X10)) (.slice a10 (mg X10).length c10) (.bool (sg Y10)) (.slice b10 (mg Y10).length d10)
          replace hr10 := setR_lm hr10 hA4 (.bool (sg X10)) (.slice a10 (mg X10).length c10) (.bool (sg Y10)) (.slice b10 (mg Y10).length d10)
          replace hs10 := setR_lm hs10 hA4 (.bool (sg X10)) (.slice a10 (mg X10).length c10) (.bool (sg Y10)) (.slice b10 (mg Y10).length d10)
          replace hr11 := setR_lm hr11 hA4 (.bool (sg X10)) (.slice a10 (mg X10).length c10) (.bool (sg Y10)) (.slice b10 (mg Y10).length d10)
          replace hs11 := setR_lm hs11 hA4 (.bool (sg X10)) (.slice a10 (mg X10).length c10) (.bool (sg Y10)) (.slice b10 (mg Y10).length d10)
          clear m0 m1 m2 m3 m4 m5 o0 o1 o2 o3 o4 o5
          clear hHeld2
          obtain ⟨wz, hwz⟩ : ∃ wz, wz = setR wt29 g4 (.bool (sg X10)) (.slice a10 (mg X10).length c10) (.bool (sg Y10)) (.slice b10 (mg Y10).length d10) := ⟨_, rfl⟩
          have hwz2 : ((((wt29.setCell ⟨g4, 0, none⟩ (.bool (sg X10))).setCell ⟨g4, 1, none⟩ (.slice a10 (mg X10).length c10)).setCell ⟨g4, 2, none⟩ (.bool (sg Y10))).setCell ⟨g4, 3, none⟩ (.slice b10 (mg Y10).length d10)) = wz := hwz.symm
          rw [hwz2]
          rw [← hwz] at hA4n hA5n hr10 hs10 hr11 hs11 hby2
          clear hwz hwz2
          obtain ⟨o0, o1, o2, o3, o4, o5⟩ := hA5n
          refine last_T (t := 7) rfl (by kernel_rfl) (by kernel_rfl) (fun K hKK => ?_)
          go_simp
          refine hKK.out _ _ ?_
          have hQ5 : BoxR g5 (.bool false) (.slice none 0 0) (.bool false) (.slice none 0 0) wz := ⟨o0, o1, o2, o3, o4, o5⟩
          have hF4 := hA4n.other (by first | exact hne | exact hne2) (.bool (sg X11)) (.slice a11 (mg X11).length c11) (.bool (sg Y11)) (.slice b11 (mg Y11).length d11)
          have hF5 := setR_made hQ5 (.bool (sg X11)) (.slice a11 (mg X11).length c11) (.bool (sg Y11)) (.slice b11 (mg Y11).length d11)
          replace hr10 := setR_lm hr10 hQ5 (.bool (sg X11)) (.slice a11 (mg X11).length c11) (.bool (sg Y11)) (.slice b11 (mg Y11).length d11)
          replace hs10 := setR_lm hs10 hQ5 (.bool (sg X11)) (.slice a11 (mg X11).length c11) (.bool (sg Y11)) (.slice b11 (mg Y11).length d11)
          replace hr11 := setR_lm hr11 hQ5 (.bool (sg X11)) (.slice a11 (mg X11).length c11) (.bool (sg Y11)) (.slice b11 (mg Y11).length d11)
          replace hs11 := setR_lm hs11 hQ5 (.bool (sg X11)) (.slice a11 (mg X11).length c11) (.bool (sg Y11)) (.slice b11 (mg Y11).length d11)
          have hby3 := setR_bel hby2 g5V (.bool (sg X11)) (.slice a11 (mg X11).length c11) (.bool (sg Y11)) (.slice b11 (mg Y11).length d11)
          go_wp2_with fail
          go_meet
          exact ⟨g4, g5, X10, Y10, X11, Y11, rfl, rfl, hR10, hR11, ⟨⟨a10, c10, b10, d10, a11, c11, b11, d11, hF4, hF5, hr10, hs10, hr11, hs11, hby3⟩⟩⟩
        · go_simp
          refine hKK.out _ _ (hK.out _ (hby.alloc hby.size _)) (fun hHeld2 => ?_)
          have g4V := hby.size
          have hA4 := boxR_new (u0 := .bool false) (u1 := .slice none 0 0) (u2 := .bool false) (u3 := .slice none 0 0) (t := 140) wt27 (Eq.refl wt27.heap.size)
          have hne : g5 ≠ wt27.heap.size := Nat.ne_of_lt hA5.lt
          have hne2 : wt27.heap.size ≠ g5 := Ne.symm hne
          replace hby := hby.alloc hby.size (.cells #[.bool false, .slice none 0 0, .bool false, .slice none 0 0] 140)
          replace hA5 := hA5.alloc (.cells #[.bool false, .slice none 0 0, .bool false, .slice none 0 0] 140)
          replace hr10 := hr10.alloc (.cells #[.bool false, .slice none 0 0, .bool false, .slice none 0 0] 140)
          replace hs10 := hs10.alloc (.cells #[.bool false, .slice none 0 0, .bool false, .slice none 0 0] 140)
          clear hKK K hHeld
          have hHeld := hHeld2
          clear hHeld2
          try simp only [Act.put, List.setIfInBounds_toArray, List.set_cons_zero, List.set_cons_succ]
          generalize (wt27.alloc (.cells #[.bool false, .slice none 0 0, .bool false, .slice none 0 0] 140)) = wt30 at hA5 hr10 hs10 hA4 hby hHeld ⊢
          generalize wt27.heap.size = g4 at hA4 g4V hne hne2 ⊢
          refine next_T (i := 3) rfl (by kernel_rfl) (fun K hKK => ?_)
          go_simp
          refine (rnormR_pos (HLX2.out.below hby) (HLY2.out.below hby) k3.out k4.out H02.out).mono ?_
          rintro e wt31 ⟨X11, Y11, hR11, a11, c11, b11, d11, rfl, hr11, hs11, hbn⟩
          replace hby := hby.trans (hbn.mono hby.size)
          replace hA5 := hA5.below hbn
          replace hr10 := hr10.below hbn
          replace hs10 := hs10.below hbn
          replace hA4 := hA4.below hbn
          go_wp2_with fail
          clear hHeld
          refine hKK.out _ _ (hK.out _ hby) (fun hHeld => ?_)
          clear hKK K hbn
          try simp only [Act.put, List.setIfInBounds_toArray, List.set_cons_zero, List.set_cons_succ]
          have hA4c := hA4
          have hA5c := hA5
          obtain ⟨m0, m1, m2, m3, m4, m5⟩ := hA4c
          obtain ⟨o0, o1, o2, o3, o4, o5⟩ := hA5c
          have hby2 := setR_bel hby g4V (.bool (sg X10)) (.slice a10 (mg X10).length c10) (.bool (sg Y10)) (.slice b10 (mg Y10).length d10)
          refine next_T (i := 6) rfl (by kernel_rfl) (fun K hKK => ?_)
          go_simp
          refine hKK.out _ _ (hK.out _ hby2) (fun hHeld2 => ?_)
          clear hKK K hHeld
          try simp only [Act.put, List.setIfInBounds_toArray, List.set_cons_zero, List.set_cons_succ]
          have hA4n := setR_made hA4 (.bool (sg X10)) (.slice a10 (mg X10).length c10) (.bool (sg Y10)) (.slice b10 (mg Y10).length d10)
          have hA5n := hA5.other (by first | exact hne | exact hne2) (.bool (sg X10)) (.slice a10 (mg X10).length c10) (.bool (sg Y10)) (.slice b10 (mg Y10).length d10)
          replace hr10 := setR_lm hr10 hA4 (.bool (sg X10)) (.slice a10 (mg X10).length c10) (.bool (sg Y10)) (.slice b10 (mg Y10).length d10)
          replace hs10 := setR_lm hs10 hA4 (.bool (sg X10)) (.slice a10 (mg X10).length c10) (.bool (sg Y10)) (.slice b10 (mg Y10).length d10)
          replace hr11 := setR_lm hr11 hA4 (.bool (sg X10)) (.slice a10 (mg X10).length c10) (.bool (sg Y10)) (.slice b10 (mg Y10).length d10)
          replace hs11 := setR_lm hs11 hA4 (.bool (sg X10)) (.slice a10 (mg X10).length c10) (.bool (sg Y10)) (.slice b10 (mg Y10).length d10)
          clear m0 m1 m2 m3 m4 m5 o0 o1 o2 o3 o4 o5
          clear hHeld2
          obtain ⟨wz, hwz⟩ : ∃ wz, wz = setR wt31 g4 (.bool (sg X10)) (.slice a10 (mg X10).length c10) (.bool (sg Y10)) (.slice b10 (mg Y10).length d10) := ⟨_, rfl⟩
          have hwz2 : ((((wt31.setCell ⟨g4, 0, none⟩ (.bool (sg X10))).setCell ⟨g4, 1, none⟩ (.slice a10 (mg X10).length c10)).setCell ⟨g4, 2, none⟩ (.bool (sg Y10))).setCell ⟨g4, 3, none⟩ (.slice b10 (mg Y10).length d10)) = wz := hwz.symm
          rw [hwz2]
          rw [← hwz] at hA4n hA5n hr10 hs10 hr11 hs11 hby2
          clear hwz hwz2
          obtain ⟨o0, o1, o2, o3, o4, o5⟩ := hA5n
          refine last_T (t := 7) rfl (by kernel_rfl) (by kernel_rfl) (fun K hKK => ?_)
          go_simp
          refine hKK.out _ _ ?_
          have hQ5 : BoxR g5 (.bool false) (.slice none 0 0) (.bool false) (.slice none 0 0) wz := ⟨o0, o1, o2, o3, o4, o5⟩
          have hF4 := hA4n.other (by first | exact hne | exact hne2) (.bool (sg X11)) (.slice a11 (mg X11).length c11) (.bool (sg Y11)) (.slice b11 (mg Y11).length d11)
          have hF5 := setR_made hQ5 (.bool (sg X11)) (.slice a11 (mg X11).length c11) (.bool (sg Y11)) (.slice b11 (mg Y11).length d11)
          replace hr10 := setR_lm hr10 hQ5 (.bool (sg X11)) (.slice a11 (mg X11).length c11) (.bool (sg Y11)) (.slice b11 (mg Y11).length d11)
          replace hs10 := setR_lm hs10 hQ5 (.bool (sg X11)) (.slice a11 (mg X11).length c11) (.bool (sg Y11)) (.slice b11 (mg Y11).length d11)
          replace hr11 := setR_lm hr11 hQ5 (.bool (sg X11)) (.slice a11 (mg X11).length c11) (.bool (sg Y11)) (.slice b11 (mg Y11).length d11)
          replace hs11 := setR_lm hs11 hQ5 (.bool (sg X11)) (.slice a11 (mg X11).length c11) (.bool (sg Y11)) (.slice b11 (mg Y11).length d11)
          have hby3 := setR_bel hby2 g5V (.bool (sg X11)) (.slice a11 (mg X11).length c11) (.bool (sg Y11)) (.slice b11 (mg Y11).length d11)
          go_wp2_with fail
          go_meet
          exact ⟨g4, g5, X10, Y10, X11, Y11, rfl, rfl, hR10, hR11, ⟨⟨a10, c10, b10, d10, a11, c11, b11, d11, hF4, hF5, hr10, hs10, hr11, hs11, hby3⟩⟩⟩
      · go_simp
        refine hKK.out _ _ (hK.out _ (hby.alloc hby.size _)) (fun hHeld2 => ?_)
        have g4V := hby.size
        have hA4 := boxR_new (u0 := .bool false) (u1 := .slice none 0 0) (u2 := .bool false) (u3 := .slice none 0 0) (t := 140) wt26 (Eq.refl wt26.heap.size)
        have hne : g5 ≠ wt26.heap.size := Nat.ne_of_lt hA5.lt
        have hne2 : wt26.heap.size ≠ g5 := Ne.symm hne
        replace hby := hby.alloc hby.size (.cells #[.bool false, .slice none 0 0, .bool false, .slice none 0 0] 140)
        replace hA5 := hA5.alloc (.cells #[.bool false, .slice none 0 0, .bool false, .slice none 0 0] 140)
        clear hKK K hHeld
        have hHeld := hHeld2
        clear hHeld2
        try simp only [Act.put, List.setIfInBounds_toArray, List.set_cons_zero, List.set_cons_succ]
        generalize (wt26.alloc (.cells #[.bool false, .slice none 0 0, .bool false, .slice none 0 0] 140)) = wt32 at hA5 hA4 hby hHeld ⊢
        generalize wt26.heap.size = g4 at hA4 g4V hne hne2 ⊢
        refine next_T (i := 1) rfl (by kernel_rfl) (fun K hKK => ?_)
        go_simp
        refine (rnormR_pos (HLX.out.below hby) (HLY.out.below hby) k1.out k2.out H0.out).mono ?_
        rintro e wt33 ⟨X10, Y10, hR10, a10, c10, b10, d10, rfl, hr10, hs10, hbn⟩
        replace hby := hby.trans (hbn.mono hby.size)
        replace hA5 := hA5.below hbn
        replace hA4 := hA4.below hbn
        go_wp2_with fail
        clear hHeld
        refine hKK.out _ _ (hK.out _ hby) (fun hHeld => ?_)
        clear hKK K hbn
        try simp only [Act.put, List.setIfInBounds_toArray, List.set_cons_zero, List.set_cons_succ]
        refine next_T (i := 3) rfl (by kernel_rfl) (fun K hKK => ?_)
        go_simp
        refine (rnormR_pos (HLX2.out.below hby) (HLY2.out.below hby) k3.out k4.out H02.out).mono ?_
        rintro e wt34 ⟨X11, Y11, hR11, a11, c11, b11, d11, rfl, hr11, hs11, hbn⟩
        replace hby := hby.trans (hbn.mono hby.size)
        replace hA5 := hA5.below hbn
        replace hA4 := hA4.below hbn
        replace hr10 := hr10.below hbn
        replace hs10 := hs10.below hbn
        go_wp2_with fail
        clear hHeld
        refine hKK.out _ _ (hK.out _ hby) (fun hHeld => ?_)
        clear hKK K hbn
        try simp only [Act.put, List.setIfInBounds_toArray, List.set_cons_zero, List.set_cons_succ]
        have hA4c := hA4
        have hA5c := hA5
        obtain ⟨m0, m1, m2, m3, m4, m5⟩ := hA4c
        obtain ⟨o0, o1, o2, o3, o4, o5⟩ := hA5c
        have hby2 := setR_bel hby g4V (.bool (sg X10)) (.slice a10 (mg X10).length c10) (.bool (sg Y10)) (.slice b10 (mg Y10).length d10)
        refine next_T (i := 6) rfl (by kernel_rfl) (fun K hKK => ?_)
        go_simp
        refine hKK.out _ _ (hK.out _ hby2) (fun hHeld2 => ?_)
        clear hKK K hHeld
        try simp only [Act.put, List.setIfInBounds_toArray, List.set_cons_zero, List.set_cons_succ]
        have hA4n := setR_made hA4 (.bool (sg X10)) (.slice a10 (mg X10).length c10) (.bool (sg Y10)) (.slice b10 (mg Y10).length d10)
        have hA5n := hA5.other (by first | exact hne | exact hne2) (.bool (sg X10)) (.slice a10 (mg X10).length c10) (.bool (sg Y10)) (.slice b10 (mg Y10).length d10)
        replace hr10 := setR_lm hr10 hA4 (.bool (sg X10)) (.slice a10 (mg X10).length c10) (.bool (sg Y10)) (.slice b10 (mg Y10).length d10)
        replace hs10 := setR_lm hs10 hA4 (.bool (sg X10)) (.slice a10 (mg X10).length c10) (.bool (sg Y10)) (.slice b10 (mg Y10).length d10)
        replace hr11 := setR_lm hr11 hA4 (.bool (sg X10)) (.slice a10 (mg X10).length c10) (.bool (sg Y10)) (.slice b10 (mg Y10).length d10)
        replace hs11 := setR_lm hs11 hA4 (.bool (sg X10)) (.slice a10 (mg X10).length c10) (.bool (sg Y10)) (.slice b10 (mg Y10).length d10)
        clear m0 m1 m2 m3 m4 m5 o0 o1 o2 o3 o4 o5
        clear hHeld2
        obtain ⟨wz, hwz⟩ : ∃ wz, wz = setR wt34 g4 (.bool (sg X10)) (.slice a10 (mg X10).length c10) (.bool (sg Y10)) (.slice b10 (mg Y10).length d10) := ⟨_, rfl⟩
        have hwz2 : ((((wt34.setCell ⟨g4, 0, none⟩ (.bool (sg X10))).setCell ⟨g4, 1, none⟩ (.slice a10 (mg X10).length c10)).setCell ⟨g4, 2, none⟩ (.bool (sg Y10))).setCell ⟨g4, 3, none⟩ (.slice b10 (mg Y10).length d10)) = wz := hwz.symm
        rw [hwz2]
        rw [← hwz] at hA4n hA5n hr10 hs10 hr11 hs11 hby2
        clear hwz hwz2
        obtain ⟨o0, o1, o2, o3, o4, o5⟩ := hA5n
        refine last_T (t := 7) rfl (by kernel_rfl) (by kernel_rfl) (fun K hKK => ?_)
        go_simp
        refine hKK.out _ _ ?_
        have hQ5 : BoxR g5 (.bool false) (.slice none 0 0) (.bool false) (.slice none 0 0) wz := ⟨o0, o1, o2, o3, o4, o5⟩
        have hF4 := hA4n.other (by first | exact hne | exact hne2) (.bool (sg X11)) (.slice a11 (mg X11).length c11) (.bool (sg Y11)) (.slice b11 (mg Y11).length d11)
        have hF5 := setR_made hQ5 (.bool (sg X11)) (.slice a11 (mg X11).length c11) (.bool (sg Y11)) (.slice b11 (mg Y11).length d11)
        replace hr10 := setR_lm hr10 hQ5 (.bool (sg X11)) (.slice a11 (mg X11).length c11) (.bool (sg Y11)) (.slice b11 (mg Y11).length d11)
        replace hs10 := setR_lm hs10 hQ5 (.bool (sg X11)) (.slice a11 (mg X11).length c11) (.bool (sg Y11)) (.slice b11 (mg Y11).length d11)
        replace hr11 := setR_lm hr11 hQ5 (.bool (sg X11)) (.slice a11 (mg X11).length c11) (.bool (sg Y11)) (.slice b11 (mg Y11).length d11)
        replace hs11 := setR_lm hs11 hQ5 (.bool (sg X11)) (.slice a11 (mg X11).length c11) (.bool (sg Y11)) (.slice b11 (mg Y11).length d11)
        have hby3 := setR_bel hby2 g5V (.bool (sg X11)) (.slice a11 (mg X11).length c11) (.bool (sg Y11)) (.slice b11 (mg Y11).length d11)
        go_wp2_with fail
        go_meet
        exact ⟨g4, g5, X10, Y10, X11, Y11, rfl, rfl, hR10, hR11, ⟨⟨a10, c10, b10, d10, a11, c11, b11, d11, hF4, hF5, hr10, hs10, hr11, hs11, hby3⟩⟩⟩
  case rest =>
    obtain ⟨gq, gr, X, Y, X2, Y2, rfl, rfl, hR1, hR2, ⟨⟨qa, qc, qb, qd, ra, rc, rb, rd, hBq, hBr, hqx, hqy, hrx, hry, hBw⟩⟩⟩ := hcut
    have hbX : X.natAbs ≤ cB t := Nat.le_trans hR1.num BX.out
    have hbY : Y.natAbs ≤ cB t := by have := hR1.pos; have := hR1.den; have := BY.out; omega
    have hbX2 : X2.natAbs ≤ cB t := Nat.le_trans hR2.num BX2.out
    have hbY2 : Y2.natAbs ≤ cB t := by have := hR2.pos; have := hR2.den; have := BY2.out; omega
    have p1 := prod_bound hbX hbY2
    have p2 := prod_bound hbX2 hbY
    have p3 := prod_bound hbY hbY2
    have hcs := cB_step t
    have j1 : Hid ((mg X).length ≤ 1000000) := cB_short (k := t) (by omega) hbX
    have j2 : Hid ((mg Y).length ≤ 1000000) := cB_short (k := t) (by omega) hbY
    have j3 : Hid ((mg X2).length ≤ 1000000) := cB_short (k := t) (by omega) hbX2
    have j4 : Hid ((mg Y2).length ≤ 1000000) := cB_short (k := t) (by omega) hbY2
    have j5 : Hid ((mg (X * Y2)).length ≤ 1000000) := cB_short (k := t + 1) (by omega) (by omega)
    have j6 : Hid ((mg (X2 * Y)).length ≤ 1000000) := cB_short (k := t + 1) (by omega) (by omega)
    have j7 : Hid ((mg (X * Y2 + X2 * Y)).length ≤ 1000000) := cB_short (k := t + 1) (by omega) (by omega)
    have j8 : Hid ((mg (Y * Y2)).length ≤ 1000000) := cB_short (k := t + 1) (by omega) (by omega)
    have JP : Hid (0 < Y * Y2) := Int.mul_pos hR1.pos hR2.pos
    obtain ⟨U, hU⟩ : ∃ U, U = (X * Y2 + X2 * Y) / gcdI (X * Y2 + X2 * Y) (Y * Y2) := ⟨_, rfl⟩
    obtain ⟨Vd, hV⟩ : ∃ V, V = (Y * Y2) / gcdI (X * Y2 + X2 * Y) (Y * Y2) := ⟨_, rfl⟩
    have HRF : Hid (Reds U Vd (x * y2 + x2 * y) (y * y2)) := by
      have := (reds_gcd (x := X * Y2 + X2 * Y) JP.out).trans (reds_add hR1 hR2 H0.out H02.out)
      rw [← hU, ← hV] at this
      exact this
    have HU := Lib.hid hU
    have HV := Lib.hid hV
    have HBq := Lib.hid hBq
    have HBr := Lib.hid hBr
    have HQX := Lib.hid hqx
    have HQY := Lib.hid hqy
    have HQX2 := Lib.hid hrx
    have HQY2 := Lib.hid hry
    have HBC := Lib.hid hBw
    clear hK hbD
    have hK : Hid (∀ w', Below wc.heap.size wc w' → w'.cell? ⟨gq, 0, none⟩ = some (.bool (sg X)) ∧ w'.cell? ⟨gq, 1, none⟩ = some (.slice qa (mg X).length qc) ∧ w'.cell? ⟨gq, 2, none⟩ = some (.bool (sg Y)) ∧ w'.cell? ⟨gq, 3, none⟩ = some (.slice qb (mg Y).length qd) ∧ w'.cell? ⟨gr, 0, none⟩ = some (.bool (sg X2)) ∧ w'.cell? ⟨gr, 1, none⟩ = some (.slice ra (mg X2).length rc) ∧ w'.cell? ⟨gr, 2, none⟩ = some (.bool (sg Y2)) ∧ w'.cell? ⟨gr, 3, none⟩ = some (.slice rb (mg Y2).length rd)) := fun w' h => ⟨(HBq.out.below h).c0, (HBq.out.below h).c1, (HBq.out.below h).c2, (HBq.out.below h).c3, (HBr.out.below h).c0, (HBr.out.below h).c1, (HBr.out.below h).c2, (HBr.out.below h).c3⟩
    have hbD : Hid (Below wc.heap.size wc wc.drew) := (Below.refl _ _).drew
    clear hU hV hBq hBr hqx hqy hrx hry hBw hR1 hR2 hbX hbY hbX2 hbY2 p1 p2 p3 hcs
    go_wp2_with fail
    go_cut [7] from 33 (fun p wy => ∃ (G : Nat) (ua : Option Addr) (uc : Nat) (ub : Option Addr) (ud : Nat), p = .pointer (some ⟨G, 0, none⟩) ∧ BoxR G (.bool (sg U)) (.slice ua (mg U).length uc) (.bool (sg Vd)) (.slice ub (mg Vd).length ud) wy ∧ Lm wy ua uc (mg U) ∧ Lm wy ub ud (mg Vd) ∧ Below wc.heap.size wc wy)
    case first =>
      refine begin_T 22 (fun w' => w'.cell? ⟨gq, 0, none⟩ = some (.bool (sg X)) ∧ w'.cell? ⟨gq, 1, none⟩ = some (.slice qa (mg X).length qc) ∧ w'.cell? ⟨gq, 2, none⟩ = some (.bool (sg Y)) ∧ w'.cell? ⟨gq, 3, none⟩ = some (.slice qb (mg Y).length qd) ∧ w'.cell? ⟨gr, 0, none⟩ = some (.bool (sg X2)) ∧ w'.cell? ⟨gr, 1, none⟩ = some (.slice ra (mg X2).length rc) ∧ w'.cell? ⟨gr, 2, none⟩ = some (.bool (sg Y2)) ∧ w'.cell? ⟨gr, 3, none⟩ = some (.slice rb (mg Y2).length rd)) (by kernel_rfl) (hK.out _ hbD.out) (fun hHeld => ?_)
      have hby := hbD.out
      generalize wc.drew = w0d at hby hHeld ⊢
      refine first_T (i := 0) (v := ?_) rfl (by kernel_rfl) (fun _ _ _ h => h) (by rfl) (fun w hSw => ?_) hHeld ?_
      rotate_left
      · ((try dsimp only at hSw); go_simp; (try with_reducible rfl))
      try simp only [Act.put, List.setIfInBounds_toArray, List.set_cons_zero, List.set_cons_succ]
      refine first_T (i := 1) (v := ?_) rfl (by kernel_rfl) (fun _ _ _ h => h) (by rfl) (fun w hSw => ?_) hHeld ?_
      rotate_left
      · ((try dsimp only at hSw); go_simp; (try with_reducible rfl))
      try simp only [Act.put, List.setIfInBounds_toArray, List.set_cons_zero, List.set_cons_succ]
      refine first_T (i := 2) (v := ?_) rfl (by kernel_rfl) (fun _ _ _ h => h) (by rfl) (fun w hSw => ?_) hHeld ?_
      rotate_left
      · ((try dsimp only at hSw); go_simp; (try with_reducible rfl))
      try simp only [Act.put, List.setIfInBounds_toArray, List.set_cons_zero, List.set_cons_succ]
      refine first_T (i := 3) (v := ?_) rfl (by kernel_rfl) (fun _ _ _ h => h) (by rfl) (fun w hSw => ?_) hHeld ?_
      rotate_left
      · ((try dsimp only at hSw); go_simp; (try with_reducible rfl))
      try simp only [Act.put, List.setIfInBounds_toArray, List.set_cons_zero, List.set_cons_succ]
      refine first_T (i := 5) (v := ?_) rfl (by kernel_rfl) (fun _ _ _ h => h) (by rfl) (fun w hSw => ?_) hHeld ?_
      rotate_left
      · ((try dsimp only at hSw); go_simp; (try with_reducible rfl))
      try simp only [Act.put, List.setIfInBounds_toArray, List.set_cons_zero, List.set_cons_succ]
      refine first_T (i := 6) (v := ?_) rfl (by kernel_rfl) (fun _ _ _ h => h) (by rfl) (fun w hSw => ?_) hHeld ?_
      rotate_left
      · ((try dsimp only at hSw); go_simp; (try with_reducible rfl))
      try simp only [Act.put, List.setIfInBounds_toArray, List.set_cons_zero, List.set_cons_succ]
      refine first_T (i := 7) (v := ?_) rfl (by kernel_rfl) (fun _ _ _ h => h) (by rfl) (fun w hSw => ?_) hHeld ?_
      rotate_left
      · ((try dsimp only at hSw); go_simp; (try with_reducible rfl))
      try simp only [Act.put, List.setIfInBounds_toArray, List.set_cons_zero, List.set_cons_succ]
      refine first_T (i := 8) (v := ?_) rfl (by kernel_rfl) (fun _ _ _ h => h) (by rfl) (fun w hSw => ?_) hHeld ?_
      rotate_left
      · ((try dsimp only at hSw); go_simp; (try with_reducible rfl))
      try simp only [Act.put, List.setIfInBounds_toArray, List.set_cons_zero, List.set_cons_succ]
      refine first_T (i := 11) (v := ?_) rfl (by kernel_rfl) (fun _ _ _ h => h) (by rfl) (fun w hSw => ?_) hHeld ?_
      rotate_left
      · ((try dsimp only at hSw); go_simp; (try with_reducible rfl))
      try simp only [Act.put, List.setIfInBounds_toArray, List.set_cons_zero, List.set_cons_succ]
      refine first_T (i := 12) (v := ?_) rfl (by kernel_rfl) (fun _ _ _ h => h) (by rfl) (fun w hSw => ?_) hHeld ?_
      rotate_left
      · ((try dsimp only at hSw); go_simp; (try with_reducible rfl))
      try simp only [Act.put, List.setIfInBounds_toArray, List.set_cons_zero, List.set_cons_succ]
      refine first_T (i := 13) (v := ?_) rfl (by kernel_rfl) (fun _ _ _ h => h) (by rfl) (fun w hSw => ?_) hHeld ?_
      rotate_left
      · ((try dsimp only at hSw); go_simp; (try with_reducible rfl))
      try simp only [Act.put, List.setIfInBounds_toArray, List.set_cons_zero, List.set_cons_succ]
      refine first_T (i := 14) (v := ?_) rfl (by kernel_rfl) (fun _ _ _ h => h) (by rfl) (fun w hSw => ?_) hHeld ?_
      rotate_left
      · ((try dsimp only at hSw); go_simp; (try with_reducible rfl))
      try simp only [Act.put, List.setIfInBounds_toArray, List.set_cons_zero, List.set_cons_succ]
      refine two_T (i := 4) (j := 20) rfl rfl (by kernel_rfl) (fun K hKK => ?_) (fun K hKK => ?_)
      · go_simp
        refine (mulZ (x := X) (y := Y2) (HQX.out.below hby) (HQY2.out.below hby) j1.out j4.out).mono ?_
        rintro e wt1 ⟨a18, c18, rfl, hr18, hbn⟩
        replace hby := hby.trans (hbn.mono hby.size)
        go_wp2_with fail
        clear hHeld
        refine hKK.out _ _ (hK.out _ hby) (fun hHeld => ?_)
        clear hKK K hbn
        try simp only [Act.put, List.setIfInBounds_toArray, List.set_cons_zero, List.set_cons_succ]
        refine two_T (i := 9) (j := 20) rfl rfl (by kernel_rfl) (fun K hKK => ?_) (fun K hKK => ?_)
        · go_simp
          refine (mulZ (x := X2) (y := Y) (HQX2.out.below hby) (HQY.out.below hby) j3.out j2.out).mono ?_
          rintro e wt2 ⟨a23, c23, rfl, hr23, hbn⟩
          replace hby := hby.trans (hbn.mono hby.size)
          replace hr18 := hr18.below hbn
          go_wp2_with fail
          clear hHeld
          refine hKK.out _ _ (hK.out _ hby) (fun hHeld => ?_)
          clear hKK K hbn
          try simp only [Act.put, List.setIfInBounds_toArray, List.set_cons_zero, List.set_cons_succ]
          refine two_T (i := 10) (j := 20) rfl rfl (by kernel_rfl) (fun K hKK => ?_) (fun K hKK => ?_)
          · go_simp
            refine (addZ (x := X * Y2) (y := X2 * Y) hr18 hr23 j5.out j6.out).mono ?_
            rintro e wt3 ⟨a24, c24, rfl, hr24, hbn⟩
            replace hby := hby.trans (hbn.mono hby.size)
            clear hr18
            clear hr23
            go_wp2_with fail
            clear hHeld
            refine hKK.out _ _ (hK.out _ hby) (fun hHeld => ?_)
            clear hKK K hbn
            try simp only [Act.put, List.setIfInBounds_toArray, List.set_cons_zero, List.set_cons_succ]
            refine two_T (i := 15) (j := 20) rfl rfl (by kernel_rfl) (fun K hKK => ?_) (fun K hKK => ?_)
            · go_simp
              refine (mulZ (x := Y) (y := Y2) (HQY.out.below hby) (HQY2.out.below hby) j2.out j4.out).mono ?_
              rintro e wt4 ⟨a29, c29, rfl, hr29, hbn⟩
              replace hby := hby.trans (hbn.mono hby.size)
              replace hr24 := hr24.below hbn
              go_wp2_with fail
              clear hHeld
              refine hKK.out _ _ (hK.out _ hby) (fun hHeld => ?_)
              clear hKK K hbn
              try simp only [Act.put, List.setIfInBounds_toArray, List.set_cons_zero, List.set_cons_succ]
              refine two_T (i := 16) (j := 20) rfl rfl (by kernel_rfl) (fun K hKK => ?_) (fun K hKK => ?_)
              · go_simp
                refine (rnew_pos (x := X * Y2 + X2 * Y) (y := Y * Y2) hr24 hr29 j7.out j8.out JP.out).mono ?_
                rintro e wt5 ⟨a30, c30, b30, d30, rfl, hr30, hs30, hbn⟩
                rw [← HU.out] at hr30
                rw [← HV.out] at hs30
                rw [← HU.out, ← HV.out]
                replace hby := hby.trans (hbn.mono hby.size)
                clear hr24
                clear hr29
                go_wp2_with fail
                clear hHeld
                refine hKK.out _ _ (hK.out _ hby) (fun hHeld => ?_)
                clear hKK K hbn
                try simp only [Act.put, List.setIfInBounds_toArray, List.set_cons_zero, List.set_cons_succ]
                refine first_T (i := 17) (v := ?_) rfl (by kernel_rfl) (fun _ _ _ h => h) (by rfl) (fun w hSw => ?_) hHeld ?_
                rotate_left
                · ((try dsimp only at hSw); go_simp; (try with_reducible rfl))
                try simp only [Act.put, List.setIfInBounds_toArray, List.set_cons_zero, List.set_cons_succ]
                refine first_T (i := 18) (v := ?_) rfl (by kernel_rfl) (fun _ _ _ h => h) (by rfl) (fun w hSw => ?_) hHeld ?_
                rotate_left
                · ((try dsimp only at hSw); go_simp; (try with_reducible rfl))
                try simp only [Act.put, List.setIfInBounds_toArray, List.set_cons_zero, List.set_cons_succ]
                refine first_T (i := 19) (v := ?_) rfl (by kernel_rfl) (fun _ _ _ h => h) (by rfl) (fun w hSw => ?_) hHeld ?_
                rotate_left
                · ((try dsimp only at hSw); go_simp; (try with_reducible rfl))
                try simp only [Act.put, List.setIfInBounds_toArray, List.set_cons_zero, List.set_cons_succ]
                refine next_T (i := 20) rfl (by kernel_rfl) (fun K hKK => ?_)
                go_simp
                refine hKK.out _ _ (hK.out _ (hby.alloc hby.size _)) (fun hHeld2 => ?_)
                have g20V := hby.size
                have hA20 := boxR_new (u0 := .bool false) (u1 := .slice none 0 0) (u2 := .bool false) (u3 := .slice none 0 0) (t := 140) wt5 (Eq.refl wt5.heap.size)
                replace hby := hby.alloc hby.size (.cells #[.bool false, .slice none 0 0, .bool false, .slice none 0 0] 140)
                replace hr30 := hr30.alloc (.cells #[.bool false, .slice none 0 0, .bool false, .slice none 0 0] 140)
                replace hs30 := hs30.alloc (.cells #[.bool false, .slice none 0 0, .bool false, .slice none 0 0] 140)
                clear hKK K hHeld
                have hHeld := hHeld2
                clear hHeld2
                try simp only [Act.put, List.setIfInBounds_toArray, List.set_cons_zero, List.set_cons_succ]
                generalize (wt5.alloc (.cells #[.bool false, .slice none 0 0, .bool false, .slice none 0 0] 140)) = wt6 at hr30 hs30 hA20 hby hHeld ⊢
                generalize wt5.heap.size = g20 at hA20 g20V ⊢
                obtain ⟨m0, m1, m2, m3, m4, m5⟩ := hA20
                have hQ20 : BoxR g20 (.bool false) (.slice none 0 0) (.bool false) (.slice none 0 0) wt6 := ⟨m0, m1, m2, m3, m4, m5⟩
                have hby2 := setR_bel hby g20V (.bool (sg U)) (.slice a30 (mg U).length c30) (.bool (sg Vd)) (.slice b30 (mg Vd).length d30)
                refine next_T (i := 21) rfl (by kernel_rfl) (fun K hKK => ?_)
                go_simp
                refine hKK.out _ _ (hK.out _ hby2) (fun hHeld2 => ?_)
                clear hKK K hHeld
                try simp only [Act.put, List.setIfInBounds_toArray, List.set_cons_zero, List.set_cons_succ]
                have hF := setR_made hQ20 (.bool (sg U)) (.slice a30 (mg U).length c30) (.bool (sg Vd)) (.slice b30 (mg Vd).length d30)
                replace hr30 := setR_lm hr30 hQ20 (.bool (sg U)) (.slice a30 (mg U).length c30) (.bool (sg Vd)) (.slice b30 (mg Vd).length d30)
                replace hs30 := setR_lm hs30 hQ20 (.bool (sg U)) (.slice a30 (mg U).length c30) (.bool (sg Vd)) (.slice b30 (mg Vd).length d30)
                clear m0 m1 m2 m3 m4 m5 hQ20
                clear hHeld2
                obtain ⟨wz, hwz⟩ : ∃ wz, wz = setR wt6 g20 (.bool (sg U)) (.slice a30 (mg U).length c30) (.bool (sg Vd)) (.slice b30 (mg Vd).length d30) := ⟨_, rfl⟩
                have hwz2 : ((((wt6.setCell ⟨g20, 0, none⟩ (.bool (sg U))).setCell ⟨g20, 1, none⟩ (.slice a30 (mg U).length c30)).setCell ⟨g20, 2, none⟩ (.bool (sg Vd))).setCell ⟨g20, 3, none⟩ (.slice b30 (mg Vd).length d30)) = wz := hwz.symm
                rw [hwz2]
                rw [← hwz] at hF hr30 hs30 hby2
                clear hwz hwz2
                refine last_T (t := 22) rfl (by kernel_rfl) (by kernel_rfl) (fun K hKK => ?_)
                go_simp
                refine hKK.out _ _ ?_
                go_wp2_with fail
                go_meet
                exact ⟨g20, a30, c30, b30, d30, rfl, hF, hr30, hs30, hby2⟩
              · go_simp
                refine hKK.out _ _ (hK.out _ (hby.alloc hby.size _)) (fun hHeld2 => ?_)
                have g20V := hby.size
                have hA20 := boxR_new (u0 := .bool false) (u1 := .slice none 0 0) (u2 := .bool false) (u3 := .slice none 0 0) (t := 140) wt4 (Eq.refl wt4.heap.size)
                replace hby := hby.alloc hby.size (.cells #[.bool false, .slice none 0 0, .bool false, .slice none 0 0] 140)
                replace hr24 := hr24.alloc (.cells #[.bool false, .slice none 0 0, .bool false, .slice none 0 0] 140)
                replace hr29 := hr29.alloc (.cells #[.bool false, .slice none 0 0, .bool false, .slice none 0 0] 140)
                clear hKK K hHeld
                have hHeld := hHeld2
                clear hHeld2
                try simp only [Act.put, List.setIfInBounds_toArray, List.set_cons_zero, List.set_cons_succ]
                generalize (wt4.alloc (.cells #[.bool false, .slice none 0 0, .bool false, .slice none 0 0] 140)) = wt7 at hr24 hr29 hA20 hby hHeld ⊢
                generalize wt4.heap.size = g20 at hA20 g20V ⊢
                refine next_T (i := 16) rfl (by kernel_rfl) (fun K hKK => ?_)
                go_simp
                refine (rnew_pos (x := X * Y2 + X2 * Y) (y := Y * Y2) hr24 hr29 j7.out j8.out JP.out).mono ?_
                rintro e wt8 ⟨a30, c30, b30, d30, rfl, hr30, hs30, hbn⟩
                rw [← HU.out] at hr30
                rw [← HV.out] at hs30
                rw [← HU.out, ← HV.out]
                replace hby := hby.trans (hbn.mono hby.size)
                clear hr24
                clear hr29
                replace hA20 := hA20.below hbn
                go_wp2_with fail
                clear hHeld
                refine hKK.out _ _ (hK.out _ hby) (fun hHeld => ?_)
                clear hKK K hbn
                try simp only [Act.put, List.setIfInBounds_toArray, List.set_cons_zero, List.set_cons_succ]
                refine first_T (i := 17) (v := ?_) rfl (by kernel_rfl) (fun _ _ _ h => h) (by rfl) (fun w hSw => ?_) hHeld ?_
                rotate_left
                · ((try dsimp only at hSw); go_simp; (try with_reducible rfl))
                try simp only [Act.put, List.setIfInBounds_toArray, List.set_cons_zero, List.set_cons_succ]
                refine first_T (i := 18) (v := ?_) rfl (by kernel_rfl) (fun _ _ _ h => h) (by rfl) (fun w hSw => ?_) hHeld ?_
                rotate_left
                · ((try dsimp only at hSw); go_simp; (try with_reducible rfl))
                try simp only [Act.put, List.setIfInBounds_toArray, List.set_cons_zero, List.set_cons_succ]
                refine first_T (i := 19) (v := ?_) rfl (by kernel_rfl) (fun _ _ _ h => h) (by rfl) (fun w hSw => ?_) hHeld ?_
                rotate_left
                · ((try dsimp only at hSw); go_simp; (try with_reducible rfl))
                try simp only [Act.put, List.setIfInBounds_toArray, List.set_cons_zero, List.set_cons_succ]
                obtain ⟨m0, m1, m2, m3, m4, m5⟩ := hA20
                have hQ20 : BoxR g20 (.bool false) (.slice none 0 0) (.bool false) (.slice none 0 0) wt8 := ⟨m0, m1, m2, m3, m4, m5⟩
                have hby2 := setR_bel hby g20V (.bool (sg U)) (.slice a30 (mg U).length c30) (.bool (sg Vd)) (.slice b30 (mg Vd).length d30)
                refine next_T (i := 21) rfl (by kernel_rfl) (fun K hKK => ?_)
                go_simp
                refine hKK.out _ _ (hK.out _ hby2) (fun hHeld2 => ?_)
                clear hKK K hHeld
                try simp only [Act.put, List.setIfInBounds_toArray, List.set_cons_zero, List.set_cons_succ]
                have hF := setR_made hQ20 (.bool (sg U)) (.slice a30 (mg U).length c30) (.bool (sg Vd)) (.slice b30 (mg Vd).length d30)
                replace hr30 := setR_lm hr30 hQ20 (.bool (sg U)) (.slice a30 (mg U).length c30) (.bool (sg Vd)) (.slice b30 (mg Vd).length d30)
                replace hs30 := setR_lm hs30 hQ20 (.bool (sg U)) (.slice a30 (mg U).length c30) (.bool (sg Vd)) (.slice b30 (mg Vd).length d30)
                clear m0 m1 m2 m3 m4 m5 hQ20
                clear hHeld2
                obtain ⟨wz, hwz⟩ : ∃ wz, wz = setR wt8 g20 (.bool (sg U)) (.slice a30 (mg U).length c30) (.bool (sg Vd)) (.slice b30 (mg Vd).length d30) := ⟨_, rfl⟩
                have hwz2 : ((((wt8.setCell ⟨g20, 0, none⟩ (.bool (sg U))).setCell ⟨g20, 1, none⟩ (.slice a30 (mg U).length c30)).setCell ⟨g20, 2, none⟩ (.bool (sg Vd))).setCell ⟨g20, 3, none⟩ (.slice b30 (mg Vd).length d30)) = wz := hwz.symm
                rw [hwz2]
                rw [← hwz] at hF hr30 hs30 hby2
                clear hwz hwz2
                refine last_T (t := 22) rfl (by kernel_rfl) (by kernel_rfl) (fun K hKK => ?_)
                go_simp
                refine hKK.out _ _ ?_
                go_wp2_with fail
                go_meet
                exact ⟨g20, a30, c30, b30, d30, rfl, hF, hr30, hs30, hby2⟩
            · go_simp
              refine hKK.out _ _ (hK.out _ (hby.alloc hby.size _)) (fun hHeld2 => ?_)
              have g20V := hby.size
              have hA20 := boxR_new (u0 := .bool false) (u1 := .slice none 0 0) (u2 := .bool false) (u3 := .slice none 0 0) (t := 140) wt3 (Eq.refl wt3.heap.size)
              replace hby := hby.alloc hby.size (.cells #[.bool false, .slice none 0 0, .bool false, .slice none 0 0] 140)
              replace hr24 := hr24.alloc (.cells #[.bool false, .slice none 0 0, .bool false, .slice none 0 0] 140)
              clear hKK K hHeld
              have hHeld := hHeld2
              clear hHeld2
              try simp only [Act.put, List.setIfInBounds_toArray, List.set_cons_zero, List.set_cons_succ]
              generalize (wt3.alloc (.cells #[.bool false, .slice none 0 0, .bool false, .slice none 0 0] 140)) = wt9 at hr24 hA20 hby hHeld ⊢
              generalize wt3.heap.size = g20 at hA20 g20V ⊢
              refine next_T (i := 15) rfl (by kernel_rfl) (fun K hKK => ?_)
              go_simp
              refine (mulZ (x := Y) (y := Y2) (HQY.out.below hby) (HQY2.out.below hby) j2.out j4.out).mono ?_
              rintro e wt10 ⟨a29, c29, rfl, hr29, hbn⟩
              replace hby := hby.trans (hbn.mono hby.size)
              replace hr24 := hr24.below hbn
              replace hA20 := hA20.below hbn
              go_wp2_with fail
              clear hHeld
              refine hKK.out _ _ (hK.out _ hby) (fun hHeld => ?_)
              clear hKK K hbn
              try simp only [Act.put, List.setIfInBounds_toArray, List.set_cons_zero, List.set_cons_succ]
              refine next_T (i := 16) rfl (by kernel_rfl) (fun K hKK => ?_)
              go_simp
              refine (rnew_pos (x := X * Y2 + X2 * Y) (y := Y * Y2) hr24 hr29 j7.out j8.out JP.out).mono ?_
              rintro e wt11 ⟨a30, c30, b30, d30, rfl, hr30, hs30, hbn⟩
              rw [← HU.out] at hr30
              rw [← HV.out] at hs30
              rw [← HU.out, ← HV.out]
              replace hby := hby.trans (hbn.mono hby.size)
              clear hr24
              clear hr29
              replace hA20 := hA20.below hbn
              go_wp2_with fail
              clear hHeld
              refine hKK.out _ _ (hK.out _ hby) (fun hHeld => ?_)
              clear hKK K hbn
              try simp only [Act.put, List.setIfInBounds_toArray, List.set_cons_zero, List.set_cons_succ]
              refine first_T (i := 17) (v := ?_) rfl (by kernel_rfl) (fun _ _ _ h => h) (by rfl) (fun w hSw => ?_) hHeld ?_
              rotate_left
              · ((try dsimp only at hSw); go_simp; (try with_reducible rfl))
              try simp only [Act.put, List.setIfInBounds_toArray, List.set_cons_zero, List.set_cons_succ]
              refine first_T (i := 18) (v := ?_) rfl (by kernel_rfl) (fun _ _ _ h => h) (by rfl) (fun w hSw => ?_) hHeld ?_
              rotate_left
              · ((try dsimp only at hSw); go_simp; (try with_reducible rfl))
              try simp only [Act.put, List.setIfInBounds_toArray, List.set_cons_zero, List.set_cons_succ]
              refine first_T (i := 19) (v := ?_) rfl (by kernel_rfl) (fun _ _ _ h => h) (by rfl) (fun w hSw => ?_) hHeld ?_
              rotate_left
              · ((try dsimp only at hSw); go_simp; (try with_reducible rfl))
              try simp only [Act.put, List.setIfInBounds_toArray, List.set_cons_zero, List.set_cons_succ]
              obtain ⟨m0, m1, m2, m3, m4, m5⟩ := hA20
              have hQ20 : BoxR g20 (.bool false) (.slice none 0 0) (.bool false) (.slice none 0 0) wt11 := ⟨m0, m1, m2, m3, m4, m5⟩
              have hby2 := setR_bel hby g20V (.bool (sg U)) (.slice a30 (mg U).length c30) (.bool (sg Vd)) (.slice b30 (mg Vd).length d30)
              refine next_T (i := 21) rfl (by kernel_rfl) (fun K hKK => ?_)
              go_simp
              refine hKK.out _ _ (hK.out _ hby2) (fun hHeld2 => ?_)
              clear hKK K hHeld
              try simp only [Act.put, List.setIfInBounds_toArray, List.set_cons_zero, List.set_cons_succ]
              have hF := setR_made hQ20 (.bool (sg U)) (.slice a30 (mg U).length c30) (.bool (sg Vd)) (.slice b30 (mg Vd).length d30)
              replace hr30 := setR_lm hr30 hQ20 (.bool (sg U)) (.slice a30 (mg U).length c30) (.bool (sg Vd)) (.slice b30 (mg Vd).length d30)
              replace hs30 := setR_lm hs30 hQ20 (.bool (sg U)) (.slice a30 (mg U).length c30) (.bool (sg Vd)) (.slice b30 (mg Vd).length d30)
              clear m0 m1 m2 m3 m4 m5 hQ20
              clear hHeld2
              obtain ⟨wz, hwz⟩ : ∃ wz, wz = setR wt11 g20 (.bool (sg U)) (.slice a30 (mg U).length c30) (.bool (sg Vd)) (.slice b30 (mg Vd).length d30) := ⟨_, rfl⟩
              have hwz2 : ((((wt11.setCell ⟨g20, 0, none⟩ (.bool (sg U))).setCell ⟨g20, 1, none⟩ (.slice a30 (mg U).length c30)).setCell ⟨g20, 2, none⟩ (.bool (sg Vd))).setCell ⟨g20, 3, none⟩ (.slice b30 (mg Vd).length d30)) = wz := hwz.symm
              rw [hwz2]
              rw [← hwz] at hF hr30 hs30 hby2
              clear hwz hwz2
              refine last_T (t := 22) rfl (by kernel_rfl) (by kernel_rfl) (fun K hKK => ?_)
              go_simp
              refine hKK.out _ _ ?_
              go_wp2_with fail
              go_meet
              exact ⟨g20, a30, c30, b30, d30, rfl, hF, hr30, hs30, hby2⟩
          · go_simp
            refine hKK.out _ _ (hK.out _ (hby.alloc hby.size _)) (fun hHeld2 => ?_)
            have g20V := hby.size
            have hA20 := boxR_new (u0 := .bool false) (u1 := .slice none 0 0) (u2 := .bool false) (u3 := .slice none 0 0) (t := 140) wt2 (Eq.refl wt2.heap.size)
            replace hby := hby.alloc hby.size (.cells #[.bool false, .slice none 0 0, .bool false, .slice none 0 0] 140)
            replace hr18 := hr18.alloc (.cells #[.bool false, .slice none 0 0, .bool false, .slice none 0 0] 140)
            replace hr23 := hr23.alloc (.cells #[.bool false, .slice none 0 0, .bool false, .slice none 0 0] 140)
            clear hKK K hHeld
            have hHeld := hHeld2
            clear hHeld2
            try simp only [Act.put, List.setIfInBounds_toArray, List.set_cons_zero, List.set_cons_succ]
            generalize (wt2.alloc (.cells #[.bool false, .slice none 0 0, .bool false, .slice none 0 0] 140)) = wt12 at hr18 hr23 hA20 hby hHeld ⊢
            generalize wt2.heap.size = g20 at hA20 g20V ⊢
            refine next_T (i := 10) rfl (by kernel_rfl) (fun K hKK => ?_)
            go_simp
            refine (addZ (x := X * Y2) (y := X2 * Y) hr18 hr23 j5.out j6.out).mono ?_
            rintro e wt13 ⟨a24, c24, rfl, hr24, hbn⟩
            replace hby := hby.trans (hbn.mono hby.size)
            clear hr18
            clear hr23
            replace hA20 := hA20.below hbn
            go_wp2_with fail
            clear hHeld
            refine hKK.out _ _ (hK.out _ hby) (fun hHeld => ?_)
            clear hKK K hbn
            try simp only [Act.put, List.setIfInBounds_toArray, List.set_cons_zero, List.set_cons_succ]
            refine next_T (i := 15) rfl (by kernel_rfl) (fun K hKK => ?_)
            go_simp
            refine (mulZ (x := Y) (y := Y2) (HQY.out.below hby) (HQY2.out.below hby) j2.out j4.out).mono ?_
            rintro e wt14 ⟨a29, c29, rfl, hr29, hbn⟩
            replace hby := hby.trans (hbn.mono hby.size)
            replace hA20 := hA20.below hbn
            replace hr24 := hr24.below hbn
            go_wp2_with fail
            clear hHeld
            refine hKK.out _ _ (hK.out _ hby) (fun hHeld => ?_)
            clear hKK K hbn
            try simp only [Act.put, List.setIfInBounds_toArray, List.set_cons_zero, List.set_cons_succ]
            refine next_T (i := 16) rfl (by kernel_rfl) (fun K hKK => ?_)
            go_simp
            refine (rnew_pos (x := X * Y2 + X2 * Y) (y := Y * Y2) hr24 hr29 j7.out j8.out JP.out).mono ?_
            rintro e wt15 ⟨a30, c30, b30, d30, rfl, hr30, hs30, hbn⟩
            rw [← HU.out] at hr30
            rw [← HV.out] at hs30
            rw [← HU.out, ← HV.out]
            replace hby := hby.trans (hbn.mono hby.size)
            clear hr24
            clear hr29
            replace hA20 := hA20.below hbn
            go_wp2_with fail
            clear hHeld
            refine hKK.out _ _ (hK.out _ hby) (fun hHeld => ?_)
            clear hKK K hbn
            try simp only [Act.put, List.setIfInBounds_toArray, List.set_cons_zero, List.set_cons_succ]
            refine first_T (i := 17) (v := ?_) rfl (by kernel_rfl) (fun _ _ _ h => h) (by rfl) (fun w hSw => ?_) hHeld ?_
            rotate_left
            · ((try dsimp only at hSw); go_simp; (try with_reducible rfl))
            try simp only [Act.put, List.setIfInBounds_toArray, List.set_cons_zero, List.set_cons_succ]
            refine first_T (i := 18) (v := ?_) rfl (by kernel_rfl) (fun _ _ _ h => h) (by rfl) (fun w hSw => ?_) hHeld ?_
            rotate_left
            · ((try dsimp only at hSw); go_simp; (try with_reducible rfl))
            try simp only [Act.put, List.setIfInBounds_toArray, List.set_cons_zero, List.set_cons_succ]
            refine first_T (i := 19) (v := ?_) rfl (by kernel_rfl) (fun _ _ _ h => h) (by rfl) (fun w hSw => ?_) hHeld ?_
            rotate_left
            · ((try dsimp only at hSw); go_simp; (try with_reducible rfl))
            try simp only [Act.put, List.setIfInBounds_toArray, List.set_cons_zero, List.set_cons_succ]
            obtain ⟨m0, m1, m2, m3, m4, m5⟩ := hA20
            have hQ20 : BoxR g20 (.bool false) (.slice none 0 0) (.bool false) (.slice none 0 0) wt15 := ⟨m0, m1, m2, m3, m4, m5⟩
            have hby2 := setR_bel hby g20V (.bool (sg U)) (.slice a30 (mg U).length c30) (.bool (sg Vd)) (.slice b30 (mg Vd).length d30)
            refine next_T (i := 21) rfl (by kernel_rfl) (fun K hKK => ?_)
            go_simp
            refine hKK.out _ _ (hK.out _ hby2) (fun hHeld2 => ?_)
            clear hKK K hHeld
            try simp only [Act.put, List.setIfInBounds_toArray, List.set_cons_zero, List.set_cons_succ]
            have hF := setR_made hQ20 (.bool (sg U)) (.slice a30 (mg U).length c30) (.bool (sg Vd)) (.slice b30 (mg Vd).length d30)
            replace hr30 := setR_lm hr30 hQ20 (.bool (sg U)) (.slice a30 (mg U).length c30) (.bool (sg Vd)) (.slice b30 (mg Vd).length d30)
            replace hs30 := setR_lm hs30 hQ20 (.bool (sg U)) (.slice a30 (mg U).length c30) (.bool (sg Vd)) (.slice b30 (mg Vd).length d30)
            clear m0 m1 m2 m3 m4 m5 hQ20
            clear hHeld2
            obtain ⟨wz, hwz⟩ : ∃ wz, wz = setR wt15 g20 (.bool (sg U)) (.slice a30 (mg U).length c30) (.bool (sg Vd)) (.slice b30 (mg Vd).length d30) := ⟨_, rfl⟩
            have hwz2 : ((((wt15.setCell ⟨g20, 0, none⟩ (.bool (sg U))).setCell ⟨g20, 1, none⟩ (.slice a30 (mg U).length c30)).setCell ⟨g20, 2, none⟩ (.bool (sg Vd))).setCell ⟨g20, 3, none⟩ (.slice b30 (mg Vd).length d30)) = wz := hwz.symm
            rw [hwz2]
            rw [← hwz] at hF hr30 hs30 hby2
            clear hwz hwz2
            refine last_T (t := 22) rfl (by kernel_rfl) (by kernel_rfl) (fun K hKK => ?_)
            go_simp
            refine hKK.out _ _ ?_
            go_wp2_with fail
            go_meet
            exact ⟨g20, a30, c30, b30, d30, rfl, hF, hr30, hs30, hby2⟩
        · go_simp
          refine hKK.out _ _ (hK.out _ (hby.alloc hby.size _)) (fun hHeld2 => ?_)
          have g20V := hby.size
          have hA20 := boxR_new (u0 := .bool false) (u1 := .slice none 0 0) (u2 := .bool false) (u3 := .slice none 0 0) (t := 140) wt1 (Eq.refl wt1.heap.size)
          replace hby := hby.alloc hby.size (.cells #[.bool false, .slice none 0 0, .bool false, .slice none 0 0] 140)
          replace hr18 := hr18.alloc (.cells #[.bool false, .slice none 0 0, .bool false, .slice none 0 0] 140)
          clear hKK K hHeld
          have hHeld := hHeld2
          clear hHeld2
          try simp only [Act.put, List.setIfInBounds_toArray, List.set_cons_zero, List.set_cons_succ]
          generalize (wt1.alloc (.cells #[.bool false, .slice none 0 0, .bool false, .slice none 0 0] 140)) = wt16 at hr18 hA20 hby hHeld ⊢
          generalize wt1.heap.size = g20 at hA20 g20V ⊢
          refine next_T (i := 9) rfl (by kernel_rfl) (fun K hKK => ?_)
          go_simp
          refine (mulZ (x := X2) (y := Y) (HQX2.out.below hby) (HQY.out.below hby) j3.out j2.out).mono ?_
          rintro e wt17 ⟨a23, c23, rfl, hr23, hbn⟩
          replace hby := hby.trans (hbn.mono hby.size)
          replace hr18 := hr18.below hbn
          replace hA20 := hA20.below hbn
          go_wp2_with fail
          clear hHeld
          refine hKK.out _ _ (hK.out _ hby) (fun hHeld => ?_)
          clear hKK K hbn
          try simp only [Act.put, List.setIfInBounds_toArray, List.set_cons_zero, List.set_cons_succ]
          refine next_T (i := 10) rfl (by kernel_rfl) (fun K hKK => ?_)
          go_simp
          refine (addZ (x := X * Y2) (y := X2 * Y) hr18 hr23 j5.out j6.out).mono ?_
          rintro e wt18 ⟨a24, c24, rfl, hr24, hbn⟩
          replace hby := hby.trans (hbn.mono hby.size)
          clear hr18
          clear hr23
          replace hA20 := hA20.below hbn
          go_wp2_with fail
          clear hHeld
          refine hKK.out _ _ (hK.out _ hby) (fun hHeld => ?_)
          clear hKK K hbn
          try simp only [Act.put, List.setIfInBounds_toArray, List.set_cons_zero, List.set_cons_succ]
          refine next_T (i := 15) rfl (by kernel_rfl) (fun K hKK => ?_)
          go_simp
          refine (mulZ (x := Y) (y := Y2) (HQY.out.below hby) (HQY2.out.below hby) j2.out j4.out).mono ?_
          rintro e wt19 ⟨a29, c29, rfl, hr29, hbn⟩
          replace hby := hby.trans (hbn.mono hby.size)
          replace hA20 := hA20.below hbn
          replace hr24 := hr24.below hbn
          go_wp2_with fail
          clear hHeld
          refine hKK.out _ _ (hK.out _ hby) (fun hHeld => ?_)
          clear hKK K hbn
          try simp only [Act.put, List.setIfInBounds_toArray, List.set_cons_zero, List.set_cons_succ]
          refine next_T (i := 16) rfl (by kernel_rfl) (fun K hKK => ?_)
          go_simp
          refine (rnew_pos (x := X * Y2 + X2 * Y) (y := Y * Y2) hr24 hr29 j7.out j8.out JP.out).mono ?_
          rintro e wt20 ⟨a30, c30, b30, d30, rfl, hr30, hs30, hbn⟩
          rw [← HU.out] at hr30
          rw [← HV.out] at hs30
          rw [← HU.out, ← HV.out]
          replace hby := hby.trans (hbn.mono hby.size)
          clear hr24
          clear hr29
          replace hA20 := hA20.below hbn
          go_wp2_with fail
          clear hHeld
          refine hKK.out _ _ (hK.out _ hby) (fun hHeld => ?_)
          clear hKK K hbn
          try simp only [Act.put, List.setIfInBounds_toArray, List.set_cons_zero, List.set_cons_succ]
          refine first_T (i := 17) (v := ?_) rfl (by kernel_rfl) (fun _ _ _ h => h) (by rfl) (fun w hSw => ?_) hHeld ?_
          rotate_left
          · ((try dsimp only at hSw); go_simp; (try with_reducible rfl))
          try simp only [Act.put, List.setIfInBounds_toArray, List.set_cons_zero, List.set_cons_succ]
          refine first_T (i := 18) (v := ?_) rfl (by kernel_rfl) (fun _ _ _ h => h) (by rfl) (fun w hSw => ?_) hHeld ?_
          rotate_left
          · ((try dsimp only at hSw); go_simp; (try with_reducible rfl))
          try simp only [Act.put, List.setIfInBounds_toArray, List.set_cons_zero, List.set_cons_succ]
          refine first_T (i := 19) (v := ?_) rfl (by kernel_rfl) (fun _ _ _ h => h) (by rfl) (fun w hSw => ?_) hHeld ?_
          rotate_left
          · ((try dsimp only at hSw); go_simp; (try with_reducible rfl))
          try simp only [Act.put, List.setIfInBounds_toArray, List.set_cons_zero, List.set_cons_succ]
          obtain ⟨m0, m1, m2, m3, m4, m5⟩ := hA20
          have hQ20 : BoxR g20 (.bool false) (.slice none 0 0) (.bool false) (.slice none 0 0) wt20 := ⟨m0, m1, m2, m3, m4, m5⟩
          have hby2 := setR_bel hby g20V (.bool (sg U)) (.slice a30 (mg U).length c30) (.bool (sg Vd)) (.slice b30 (mg Vd).length d30)
          refine next_T (i := 21) rfl (by kernel_rfl) (fun K hKK => ?_)
          go_simp
          refine hKK.out _ _ (hK.out _ hby2) (fun hHeld2 => ?_)
          clear hKK K hHeld
          try simp only [Act.put, List.setIfInBounds_toArray, List.set_cons_zero, List.set_cons_succ]
          have hF := setR_made hQ20 (.bool (sg U)) (.slice a30 (mg U).length c30) (.bool (sg Vd)) (.slice b30 (mg Vd).length d30)
          replace hr30 := setR_lm hr30 hQ20 (.bool (sg U)) (.slice a30 (mg U).length c30) (.bool (sg Vd)) (.slice b30 (mg Vd).length d30)
          replace hs30 := setR_lm hs30 hQ20 (.bool (sg U)) (.slice a30 (mg U).length c30) (.bool (sg Vd)) (.slice b30 (mg Vd).length d30)
          clear m0 m1 m2 m3 m4 m5 hQ20
          clear hHeld2
          obtain ⟨wz, hwz⟩ : ∃ wz, wz = setR wt20 g20 (.bool (sg U)) (.slice a30 (mg U).length c30) (.bool (sg Vd)) (.slice b30 (mg Vd).length d30) := ⟨_, rfl⟩
          have hwz2 : ((((wt20.setCell ⟨g20, 0, none⟩ (.bool (sg U))).setCell ⟨g20, 1, none⟩ (.slice a30 (mg U).length c30)).setCell ⟨g20, 2, none⟩ (.bool (sg Vd))).setCell ⟨g20, 3, none⟩ (.slice b30 (mg Vd).length d30)) = wz := hwz.symm
          rw [hwz2]
          rw [← hwz] at hF hr30 hs30 hby2
          clear hwz hwz2
          refine last_T (t := 22) rfl (by kernel_rfl) (by kernel_rfl) (fun K hKK => ?_)
          go_simp
          refine hKK.out _ _ ?_
          go_wp2_with fail
          go_meet
          exact ⟨g20, a30, c30, b30, d30, rfl, hF, hr30, hs30, hby2⟩
      · go_simp
        refine hKK.out _ _ (hK.out _ (hby.alloc hby.size _)) (fun hHeld2 => ?_)
        have g20V := hby.size
        have hA20 := boxR_new (u0 := .bool false) (u1 := .slice none 0 0) (u2 := .bool false) (u3 := .slice none 0 0) (t := 140) w0d (Eq.refl w0d.heap.size)
        replace hby := hby.alloc hby.size (.cells #[.bool false, .slice none 0 0, .bool false, .slice none 0 0] 140)
        clear hKK K hHeld
        have hHeld := hHeld2
        clear hHeld2
        try simp only [Act.put, List.setIfInBounds_toArray, List.set_cons_zero, List.set_cons_succ]
        generalize (w0d.alloc (.cells #[.bool false, .slice none 0 0, .bool false, .slice none 0 0] 140)) = wt21 at hA20 hby hHeld ⊢
        generalize w0d.heap.size = g20 at hA20 g20V ⊢
        refine next_T (i := 4) rfl (by kernel_rfl) (fun K hKK => ?_)
        go_simp
        refine (mulZ (x := X) (y := Y2) (HQX.out.below hby) (HQY2.out.below hby) j1.out j4.out).mono ?_
        rintro e wt22 ⟨a18, c18, rfl, hr18, hbn⟩
        replace hby := hby.trans (hbn.mono hby.size)
        replace hA20 := hA20.below hbn
        go_wp2_with fail
        clear hHeld
        refine hKK.out _ _ (hK.out _ hby) (fun hHeld => ?_)
        clear hKK K hbn
        try simp only [Act.put, List.setIfInBounds_toArray, List.set_cons_zero, List.set_cons_succ]
        refine next_T (i := 9) rfl (by kernel_rfl) (fun K hKK => ?_)
        go_simp
        refine (mulZ (x := X2) (y := Y) (HQX2.out.below hby) (HQY.out.below hby) j3.out j2.out).mono ?_
        rintro e wt23 ⟨a23, c23, rfl, hr23, hbn⟩
        replace hby := hby.trans (hbn.mono hby.size)
        replace hA20 := hA20.below hbn
        replace hr18 := hr18.below hbn
        go_wp2_with fail
        clear hHeld
        refine hKK.out _ _ (hK.out _ hby) (fun hHeld => ?_)
        clear hKK K hbn
        try simp only [Act.put, List.setIfInBounds_toArray, List.set_cons_zero, List.set_cons_succ]
        refine next_T (i := 10) rfl (by kernel_rfl) (fun K hKK => ?_)
        go_simp
        refine (addZ (x := X * Y2) (y := X2 * Y) hr18 hr23 j5.out j6.out).mono ?_
        rintro e wt24 ⟨a24, c24, rfl, hr24, hbn⟩
        replace hby := hby.trans (hbn.mono hby.size)
        clear hr18
        clear hr23
        replace hA20 := hA20.below hbn
        go_wp2_with fail
        clear hHeld
        refine hKK.out _ _ (hK.out _ hby) (fun hHeld => ?_)
        clear hKK K hbn
        try simp only [Act.put, List.setIfInBounds_toArray, List.set_cons_zero, List.set_cons_succ]
        refine next_T (i := 15) rfl (by kernel_rfl) (fun K hKK => ?_)
        go_simp
        refine (mulZ (x := Y) (y := Y2) (HQY.out.below hby) (HQY2.out.below hby) j2.out j4.out).mono ?_
        rintro e wt25 ⟨a29, c29, rfl, hr29, hbn⟩
        replace hby := hby.trans (hbn.mono hby.size)
        replace hA20 := hA20.below hbn
        replace hr24 := hr24.below hbn
        go_wp2_with fail
        clear hHeld
        refine hKK.out _ _ (hK.out _ hby) (fun hHeld => ?_)
        clear hKK K hbn
        try simp only [Act.put, List.setIfInBounds_toArray, List.set_cons_zero, List.set_cons_succ]
        refine next_T (i := 16) rfl (by kernel_rfl) (fun K hKK => ?_)
        go_simp
        refine (rnew_pos (x := X * Y2 + X2 * Y) (y := Y * Y2) hr24 hr29 j7.out j8.out JP.out).mono ?_
        rintro e wt26 ⟨a30, c30, b30, d30, rfl, hr30, hs30, hbn⟩
        rw [← HU.out] at hr30
        rw [← HV.out] at hs30
        rw [← HU.out, ← HV.out]
        replace hby := hby.trans (hbn.mono hby.size)
        clear hr24
        clear hr29
        replace hA20 := hA20.below hbn
        go_wp2_with fail
        clear hHeld
        refine hKK.out _ _ (hK.out _ hby) (fun hHeld => ?_)
        clear hKK K hbn
        try simp only [Act.put, List.setIfInBounds_toArray, List.set_cons_zero, List.set_cons_succ]
        refine first_T (i := 17) (v := ?_) rfl (by kernel_rfl) (fun _ _ _ h => h) (by rfl) (fun w hSw => ?_) hHeld ?_
        rotate_left
        · ((try dsimp only at hSw); go_simp; (try with_reducible rfl))
        try simp only [Act.put, List.setIfInBounds_toArray, List.set_cons_zero, List.set_cons_succ]
        refine first_T (i := 18) (v := ?_) rfl (by kernel_rfl) (fun _ _ _ h => h) (by rfl) (fun w hSw => ?_) hHeld ?_
        rotate_left
        · ((try dsimp only at hSw); go_simp; (try with_reducible rfl))
        try simp only [Act.put, List.setIfInBounds_toArray, List.set_cons_zero, List.set_cons_succ]
        refine first_T (i := 19) (v := ?_) rfl (by kernel_rfl) (fun _ _ _ h => h) (by rfl) (fun w hSw => ?_) hHeld ?_
        rotate_left
        · ((try dsimp only at hSw); go_simp; (try with_reducible rfl))
        try simp only [Act.put, List.setIfInBounds_toArray, List.set_cons_zero, List.set_cons_succ]
        obtain ⟨m0, m1, m2, m3, m4, m5⟩ := hA20
        have hQ20 : BoxR g20 (.bool false) (.slice none 0 0) (.bool false) (.slice none 0 0) wt26 := ⟨m0, m1, m2, m3, m4, m5⟩
        have hby2 := setR_bel hby g20V (.bool (sg U)) (.slice a30 (mg U).length c30) (.bool (sg Vd)) (.slice b30 (mg Vd).length d30)
        refine next_T (i := 21) rfl (by kernel_rfl) (fun K hKK => ?_)
        go_simp
        refine hKK.out _ _ (hK.out _ hby2) (fun hHeld2 => ?_)
        clear hKK K hHeld
        try simp only [Act.put, List.setIfInBounds_toArray, List.set_cons_zero, List.set_cons_succ]
        have hF := setR_made hQ20 (.bool (sg U)) (.slice a30 (mg U).length c30) (.bool (sg Vd)) (.slice b30 (mg Vd).length d30)
        replace hr30 := setR_lm hr30 hQ20 (.bool (sg U)) (.slice a30 (mg U).length c30) (.bool (sg Vd)) (.slice b30 (mg Vd).length d30)
        replace hs30 := setR_lm hs30 hQ20 (.bool (sg U)) (.slice a30 (mg U).length c30) (.bool (sg Vd)) (.slice b30 (mg Vd).length d30)
        clear m0 m1 m2 m3 m4 m5 hQ20
        clear hHeld2
        obtain ⟨wz, hwz⟩ : ∃ wz, wz = setR wt26 g20 (.bool (sg U)) (.slice a30 (mg U).length c30) (.bool (sg Vd)) (.slice b30 (mg Vd).length d30) := ⟨_, rfl⟩
        have hwz2 : ((((wt26.setCell ⟨g20, 0, none⟩ (.bool (sg U))).setCell ⟨g20, 1, none⟩ (.slice a30 (mg U).length c30)).setCell ⟨g20, 2, none⟩ (.bool (sg Vd))).setCell ⟨g20, 3, none⟩ (.slice b30 (mg Vd).length d30)) = wz := hwz.symm
        rw [hwz2]
        rw [← hwz] at hF hr30 hs30 hby2
        clear hwz hwz2
        refine last_T (t := 22) rfl (by kernel_rfl) (by kernel_rfl) (fun K hKK => ?_)
        go_simp
        refine hKK.out _ _ ?_
        go_wp2_with fail
        go_meet
        exact ⟨g20, a30, c30, b30, d30, rfl, hF, hr30, hs30, hby2⟩
    case rest =>
      obtain ⟨G, ua, uc, ub, ud, rfl, hBG, hLu, hLv, hBy⟩ := hcut
      have hB2 := HBC.out.trans (hBy.mono HBC.out.size)
      have hBr := hres.out.below hB2
      have HL4 := Lib.hid (setR_lm hLu hBr (.bool (sg U)) (.slice ua (mg U).length uc) (.bool (sg Vd)) (.slice ub (mg Vd).length ud))
      have HL5 := Lib.hid (setR_lm hLv hBr (.bool (sg U)) (.slice ua (mg U).length uc) (.bool (sg Vd)) (.slice ub (mg Vd).length ud))
      have HBF := Lib.hid (setR_bel (G := w.heap.size + 2) (HBW.out.trans (hB2.mono HBW.out.size)) (by omega) (.bool (sg U)) (.slice ua (mg U).length uc) (.bool (sg Vd)) (.slice ub (mg Vd).length ud))
      obtain ⟨z0, z1, z2, z3, z4, z5⟩ := hBr
      obtain ⟨y0, y1, y2', y3, y4, y5⟩ := hBG
      clear hLu hLv hBy hB2
      go_wp2_with fail
      refine bodyPost_ret (v := .agg #[.bool (sg U), .slice ua (mg U).length uc, .bool (sg Vd), .slice ub (mg Vd).length ud]) ?_ rfl ?_
      · simp [results, Tryz.results123, go_sem, z0, z1, z2, z3]
      · exact ⟨U, Vd, HRF.out, ua, uc, ub, ud, rfl, HL4.out, HL5.out, HBF.out⟩
end Go.Proofs.YtfpcfcegdjlggaaGreat
