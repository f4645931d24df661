/-
  Joined texts: RX DT DU DV.
-/
import Derived.Test.YtfpcfcegdjlggaaGreatJ07
import Derived.Deep.Cut
import Derived.Deep.RegionWith
namespace Go.Proofs.YtfpcfcegdjlggaaGreat
open Go.RowKit

/-- Four structs behind each other: two arguments, two results. -/
structure Box4 (B : Nat) (u0 v0 u1 v1 u2 v2 u3 v3 : Value) (w : World) : Prop where
  a : Box B u0 v0 w
  b : Box (B + 1) u1 v1 w
  c : Box (B + 1 + 1) u2 v2 w
  d : Box (B + 1 + 1 + 1) u3 v3 w
theorem Box4.below {B : Nat} {u0 v0 u1 v1 u2 v2 u3 v3 : Value} {w w' : World} (h : Box4 B u0 v0 u1 v1 u2 v2 u3 v3 w) (hb : Below w.heap.size w w') : Box4 B u0 v0 u1 v1 u2 v2 u3 v3 w' :=
  ⟨h.a.below hb, h.b.below hb, h.c.below hb, h.d.below hb⟩
theorem Box4.made (w : World) (u0 v0 u1 v1 u2 v2 u3 v3 : Value) (t : TypeId) :
    Box4 w.heap.size u0 v0 u1 v1 u2 v2 u3 v3 ((((w.alloc (.cells #[u0, v0] t)).alloc (.cells #[u1, v1] t)).alloc (.cells #[u2, v2] t)).alloc (.cells #[u3, v3] t)) :=
  ⟨(((Box.made _ _ rfl _ _ _).alloc _).alloc _).alloc _, ((Box.made _ _ (by simp) _ _ _).alloc _).alloc _, (Box.made _ _ (by simp) _ _ _).alloc _, Box.made _ _ (by simp) _ _ _⟩
theorem below4 (w : World) (o1 o2 o3 o4 : Obj) : Below w.heap.size w ((((w.alloc o1).alloc o2).alloc o3).alloc o4) :=
  ((((Below.refl _ _).alloc (Nat.le_refl _) _).alloc (by simp) _).alloc (by simp; omega) _).alloc (by simp; omega) _

section
variable {A B : Nat} {u0 u1 v0 v1 : Value} {W v : World}
theorem two_more (h : Box A u0 u1 W) (h' : Box B v0 v1 W) (v' : World) (hs : v.cell? ⟨A, 0, none⟩ = some u0 ∧ v.cell? ⟨A, 1, none⟩ = some u1 ∧ v.cell? ⟨B, 0, none⟩ = some v0 ∧ v.cell? ⟨B, 1, none⟩ = some v1 ∧ Below W.heap.size W v) (hb : Below W.heap.size v v') : v'.cell? ⟨A, 0, none⟩ = some u0 ∧ v'.cell? ⟨A, 1, none⟩ = some u1 ∧ v'.cell? ⟨B, 0, none⟩ = some v0 ∧ v'.cell? ⟨B, 1, none⟩ = some v1 ∧ Below W.heap.size W v' :=
  have hb' := hs.2.2.2.2.trans hb
  ⟨(h.below hb').c0, (h.below hb').c1, (h'.below hb').c0, (h'.below hb').c1, hb'⟩
theorem two_alloc (h : Box A u0 u1 W) (h' : Box B v0 v1 W) (o : Obj) (hs : v.cell? ⟨A, 0, none⟩ = some u0 ∧ v.cell? ⟨A, 1, none⟩ = some u1 ∧ v.cell? ⟨B, 0, none⟩ = some v0 ∧ v.cell? ⟨B, 1, none⟩ = some v1 ∧ Below W.heap.size W v) : (v.alloc o).cell? ⟨A, 0, none⟩ = some u0 ∧ (v.alloc o).cell? ⟨A, 1, none⟩ = some u1 ∧ (v.alloc o).cell? ⟨B, 0, none⟩ = some v0 ∧ (v.alloc o).cell? ⟨B, 1, none⟩ = some v1 ∧ Below W.heap.size W (v.alloc o) :=
  two_more h h' _ hs ((Below.refl _ _).alloc hs.2.2.2.2.size o)
theorem two_of (h : Box A u0 u1 W) (h' : Box B v0 v1 W) (hb : Below W.heap.size W v) : v.cell? ⟨A, 0, none⟩ = some u0 ∧ v.cell? ⟨A, 1, none⟩ = some u1 ∧ v.cell? ⟨B, 0, none⟩ = some v0 ∧ v.cell? ⟨B, 1, none⟩ = some v1 ∧ Below W.heap.size W v :=
  ⟨(h.below hb).c0, (h.below hb).c1, (h'.below hb).c0, (h'.below hb).c1, hb⟩
end

theorem dm_plain {na nb sq : Bool} {xs ys : List Nat} {Qn Rn : Nat} (hq : Qn = val xs / val ys) (hr : Rn = val xs % val ys) (hy : 0 < val ys) (hs : (!na == nb) = sq) (h : 0 ≤ den na (limbs Rn)) :
    den na xs / den nb ys = den sq (limbs Qn) ∧ den na xs % den nb ys = den na (limbs Rn) := by
  have hna : na = true → Rn = 0 := by
    intro e; subst e; unfold den at h; rw [val_limbs] at h; simp at h; omega
  have e1 : den sq (limbs Qn) = if (na != nb) then -(Qn : Int) else Qn := by unfold den; rw [val_limbs, ← hs]; cases na <;> cases nb <;> rfl
  have e2 : den na (limbs Rn) = (Rn : Int) := by
    unfold den; rw [val_limbs]
    cases na
    · rfl
    · rw [hna rfl]; rfl
  rw [e1, e2]; exact divmod_plain hy hq hr hna
theorem dm_neg {nb sq : Bool} {xs ys : List Nat} {Qn Rn : Nat} (hq : Qn = val xs / val ys) (hr : Rn = val xs % val ys) (hy : 0 < val ys) (hs : (!true == nb) = sq) (h : den true (limbs Rn) < 0) :
    den true xs % den nb ys = den true (limbs Rn) + den false ys ∧ (nb = true → den true xs / den nb ys = den sq (limbs Qn) + 1) ∧ (nb = false → den true xs / den nb ys = den sq (limbs Qn) - 1) := by
  have hp : 0 < Rn := by unfold den at h; rw [val_limbs] at h; simp at h; omega
  have hlt := Nat.mod_lt (val xs) hy
  rw [← hr] at hlt
  obtain ⟨h1, h2⟩ := divmod_neg (nb := nb) hy hq hr hp
  have e0 : den true xs = -((val xs : Nat) : Int) := rfl
  have e1 : den nb ys = if nb then -((val ys : Nat) : Int) else ((val ys : Nat) : Int) := rfl
  rw [e0, e1, h1, h2]
  refine ⟨?_, ?_, ?_⟩
  · unfold den; rw [val_limbs]; simp; omega
  · intro hb; subst hb; subst hs; unfold den; rw [val_limbs]; simp
  · intro hb; subst hb; subst hs; unfold den; rw [val_limbs]; simp; omega
theorem bel_store {R : Nat} {W v : World} (hs : Below R W v) (g : Nat) (hg : R ≤ g) (x y : Value) : Below R W ((v.setCell ⟨g, 0, none⟩ x).setCell ⟨g, 1, none⟩ y) :=
  (hs.setCell (p := ⟨g, 0, none⟩) hg x).setCell (p := ⟨g, 1, none⟩) hg y

section
variable {A B R : Nat} {u0 u1 v0 v1 : Value} {W v v' : World}
theorem far2_draw (h : Box A u0 u1 W) (h' : Box B v0 v1 W) (hR : R ≤ W.heap.size) : W.drew.cell? ⟨A, 0, none⟩ = some u0 ∧ W.drew.cell? ⟨A, 1, none⟩ = some u1 ∧ W.drew.cell? ⟨B, 0, none⟩ = some v0 ∧ W.drew.cell? ⟨B, 1, none⟩ = some v1 ∧ Below R W W.drew := ⟨h.c0, h.c1, h'.c0, h'.c1, (Below.refl _ _).drew.mono hR⟩
theorem far2_call (h : Box A u0 u1 W) (h' : Box B v0 v1 W) (hR : R ≤ W.heap.size) (hs : v.cell? ⟨A, 0, none⟩ = some u0 ∧ v.cell? ⟨A, 1, none⟩ = some u1 ∧ v.cell? ⟨B, 0, none⟩ = some v0 ∧ v.cell? ⟨B, 1, none⟩ = some v1 ∧ Below R W v) (hb : Below v.heap.size v v') : v'.cell? ⟨A, 0, none⟩ = some u0 ∧ v'.cell? ⟨A, 1, none⟩ = some u1 ∧ v'.cell? ⟨B, 0, none⟩ = some v0 ∧ v'.cell? ⟨B, 1, none⟩ = some v1 ∧ Below R W v' :=
  have hsz := hs.2.2.2.2.size
  ⟨(hb.cell (p := ⟨A, 0, none⟩) (Nat.lt_of_lt_of_le h.size hsz)).trans hs.1, (hb.cell (p := ⟨A, 1, none⟩) (Nat.lt_of_lt_of_le h.size hsz)).trans hs.2.1, (hb.cell (p := ⟨B, 0, none⟩) (Nat.lt_of_lt_of_le h'.size hsz)).trans hs.2.2.1, (hb.cell (p := ⟨B, 1, none⟩) (Nat.lt_of_lt_of_le h'.size hsz)).trans hs.2.2.2.1, hs.2.2.2.2.trans (hb.mono (Nat.le_trans hR hsz))⟩
theorem far2_store (g : Nat) (hA : A ≠ g) (hB : B ≠ g) (hR : R ≤ g) (x y : Value) (hs : v.cell? ⟨A, 0, none⟩ = some u0 ∧ v.cell? ⟨A, 1, none⟩ = some u1 ∧ v.cell? ⟨B, 0, none⟩ = some v0 ∧ v.cell? ⟨B, 1, none⟩ = some v1 ∧ Below R W v) : ((v.setCell ⟨g, 0, none⟩ x).setCell ⟨g, 1, none⟩ y).cell? ⟨A, 0, none⟩ = some u0 ∧ ((v.setCell ⟨g, 0, none⟩ x).setCell ⟨g, 1, none⟩ y).cell? ⟨A, 1, none⟩ = some u1 ∧ ((v.setCell ⟨g, 0, none⟩ x).setCell ⟨g, 1, none⟩ y).cell? ⟨B, 0, none⟩ = some v0 ∧ ((v.setCell ⟨g, 0, none⟩ x).setCell ⟨g, 1, none⟩ y).cell? ⟨B, 1, none⟩ = some v1 ∧ Below R W ((v.setCell ⟨g, 0, none⟩ x).setCell ⟨g, 1, none⟩ y) := by
  obtain ⟨c0, c1, c2, c3, hb⟩ := hs
  refine ⟨?_, ?_, ?_, ?_, (hb.setCell (p := ⟨g, 0, none⟩) hR x).setCell (p := ⟨g, 1, none⟩) hR y⟩
  all_goals simp [go_sem, c0, c1, c2, c3]
end
theorem Box.other {B G : Nat} {u v : Value} {w : World} (h : Box B u v w) (hne : B ≠ G) (x y : Value) : Box B u v ((w.setCell ⟨G, 0, none⟩ x).setCell ⟨G, 1, none⟩ y) := by
  obtain ⟨c0, c1, f0, f1, hs⟩ := h
  refine ⟨?_, ?_, ?_, ?_, ?_⟩
  all_goals simp [go_sem, c0, c1, f0, f1, hs]
theorem Apart.alloc {B0 B1 B2 : Nat} {zs : List Nat} {a : Option Addr} {cap : Nat} {w : World} (h : Apart B0 B1 B2 zs a cap w) (o : Obj) : Apart B0 B1 B2 zs a cap (w.alloc o) := h.below ((Below.refl _ _).alloc (Nat.le_refl _) o)

attribute [local go_sem ↓] Go.wp_at_zero Go.wp_at_succ

set_option maxRecDepth 100000 in
set_option maxHeartbeats 4000000 in
theorem rdivmod_pos (na nb : Bool) (a b : Option Addr) (n m cap cap' : Nat) (xs ys : List Nat) (w : World) (rdx : Rd w a cap xs) (rdy : Rd w b cap' ys) (hl : xs.length = n) (hl' : ys.length = m) (hn : n ≤ 1000000) (hm : m ≤ 1000000) (h0 : den nb ys ≠ 0) :
    Calls Tryz.prog 138 #[.agg #[.bool na, .slice a n cap], .agg #[.bool nb, .slice b m cap']] w (GivesDM w (den na xs) (den nb ys)) := by
  have hlx := rdx.lim
  have hly := rdy.lim
  obtain ⟨W, hW⟩ : ∃ W, W = (((w.alloc (.cells #[.bool na, .slice a n cap] 51)).alloc (.cells #[.bool nb, .slice b m cap'] 51)).alloc (.cells #[.bool false, .slice none 0 0] 51)).alloc (.cells #[.bool false, .slice none 0 0] 51) := ⟨_, rfl⟩
  have hb0 : Below w.heap.size w W := by rw [hW]; exact below4 _ _ _ _ _
  have hx : Box4 w.heap.size (.bool na) (.slice a n cap) (.bool nb) (.slice b m cap') (.bool false) (.slice none 0 0) (.bool false) (.slice none 0 0) W := by rw [hW]; exact Box4.made _ _ _ _ _ _ _ _ _ _
  have hWs : W.heap.size = w.heap.size + 4 := by rw [hW]; simp
  have hvx := val_trimL hlx
  have hvy := val_trimL hly
  have htx := trimL_trimL hlx
  have hty := trimL_trimL hly
  have hlenx : (trimL xs).length ≤ n := Nat.le_trans (length_trimL_le xs) (by omega)
  have hleny : (trimL ys).length ≤ m := Nat.le_trans (length_trimL_le ys) (by omega)
  have htz := trim_length_zero hly
  have HW := Lib.hid hW
  have HX := Lib.hid hx
  have HWS := Lib.hid hWs
  have HB0 := Lib.hid hb0
  have HL := Lib.hid hl
  have HL' := Lib.hid hl'
  have HRA := Lib.hid (rdx.below hb0)
  have HRB := Lib.hid (rdy.below hb0)
  have HVX := Lib.hid hvx
  have HVY := Lib.hid hvy
  have HTX := Lib.hid htx
  have HTY := Lib.hid hty
  obtain ⟨X, hX⟩ : ∃ X, X = trimL xs := ⟨_, rfl⟩
  obtain ⟨Y, hY⟩ : ∃ Y, Y = trimL ys := ⟨_, rfl⟩
  rw [← hX] at hlenx
  rw [← hY] at hleny htz
  have HX' := Lib.hid hX
  have HY' := Lib.hid hY
  clear hWs hW hb0 hx hl hl' rdx rdy hvx hvy htx hty hX hY
  have hy0 : Y.length ≠ 0 := fun h => h0 (den_zero.2 (htz.1 h))
  have hb : ((Y.length : Int) == 0) = false := beq_eq_false_iff_ne.2 (by omega)
  have hyp : 0 < val ys := by have := mt den_zero.2 h0; omega
  clear htz
  go_enter Tryz.func138, Tryz.ntmps138
  go_wp2_with fail
  rw [← HW.out]
  go_region_held3 (fun w' => w'.cell? ⟨w.heap.size, 0, none⟩ = some (.bool na) ∧ w'.cell? ⟨w.heap.size, 1, none⟩ = some (.slice a n cap) ∧ w'.cell? ⟨w.heap.size + 1, 0, none⟩ = some (.bool nb) ∧ w'.cell? ⟨w.heap.size + 1, 1, none⟩ = some (.slice b m cap') ∧ Below W.heap.size W w')
    (first | exact two_draw HX.out.a HX.out.b | exact two_step HX.out.a HX.out.b (by assumption) hN6.below | exact two_step HX.out.a HX.out.b (by assumption) hN7.below)
    ((first
      | (go_at_call 51; have hq := two_rd HRA.out (by assumption); have hq2 := rtrim_any a n cap xs _ hq HL.out (by omega); (with_reducible refine hq2.mono ?_); clear hq hq2; rintro e w6 ⟨a6, c6, rfl, hN6⟩; rw [← HX'.out] at hN6; rw [← HX'.out])
      | (go_at_call 51; have hq := two_rd HRB.out (by assumption); have hq2 := rtrim_any b m cap' ys _ hq HL'.out (by omega); (with_reducible refine hq2.mono ?_); clear hq hq2; rintro e w7 ⟨a7, c7, rfl, hN7⟩; rw [← HY'.out] at hN7; rw [← HY'.out])))
  have hb7 : Below W.heap.size W w7 := two_below (by assumption)
  have hx7 := HX.out.below hb7
  have HB7 := Lib.hid (HB0.out.trans (hb7.mono HB0.out.size))
  have HX7 := Lib.hid hx7
  have HRX7 : Hid (Rd w7 a6 c6 X) := Lib.hid (hN6.rd.below hN7.below)
  have HRY7 := Lib.hid hN7.rd
  have HRB7 := Lib.hid (HRB.out.below hb7)
  obtain ⟨⟨p0, p1, p2, p3, p4⟩, ⟨q0, q1, q2, q3, q4⟩, ⟨r0, r1, r2, r3, r4⟩, ⟨s0, s1, s2, s3, s4⟩⟩ := hx7
  clear hb7 hN6 hN7
  go_wp2_with fail
  obtain ⟨Qn, hQ⟩ : ∃ Qn, Qn = val xs / val ys := ⟨_, rfl⟩
  obtain ⟨Rn, hR⟩ : ∃ Rn, Rn = val xs % val ys := ⟨_, rfl⟩
  have HQ := Lib.hid hQ
  have HR := Lib.hid hR
  clear hQ hR
  refine (rdivide_any a6 a7 _ _ c6 c7 X Y _ HRX7.out HRY7.out rfl rfl (by omega) (by omega) (by rw [HY'.out, HVY.out]; exact hyp) (by rw [HY'.out]; exact HTY.out)).mono ?_
  rintro e w8 ⟨a8, c8, a9, c9, rfl, hN8, hN9⟩
  have hqx : val X = val xs := by rw [HX'.out, HVX.out]
  have hqy : val Y = val ys := by rw [HY'.out, HVY.out]
  rw [hqx, hqy, ← HQ.out] at hN8
  rw [hqx, hqy, ← HR.out] at hN9
  rw [hqx, hqy, ← HQ.out, ← HR.out]
  clear hqx hqy
  have hb8 := hN8.below
  have hx8 := HX7.out.below hb8
  have HB8 := Lib.hid (HB7.out.trans (hb8.mono HB7.out.size))
  have HX8 := Lib.hid hx8
  have HRB8 := Lib.hid (HRB7.out.below hb8)
  have HRY8 := Lib.hid (HRY7.out.below hb8)
  have HQ8 := Lib.hid hN8.rd
  have HR8 := Lib.hid hN9.rd
  clear p0 p1 p2 p3 p4 q0 q1 q2 q3 q4 r0 r1 r2 r3 r4 s0 s1 s2 s3 s4 hb8 hN8 hN9
  obtain ⟨⟨p0, p1, p2, p3, p4⟩, ⟨q0, q1, q2, q3, q4⟩, ⟨r0, r1, r2, r3, r4⟩, ⟨s0, s1, s2, s3, s4⟩⟩ := hx8
  go_wp2_with fail
  obtain ⟨sq, hsq⟩ : ∃ sq, (!na == nb) = sq := ⟨_, rfl⟩
  have hQl : (limbs Qn).length ≤ n := by
    rw [HQ.out]
    refine length_limbs_le (Nat.lt_of_le_of_lt (Nat.div_le_self _ _) ?_)
    rw [← HL.out]; exact val_lt hlx
  have hRl : (limbs Rn).length ≤ m := by
    rw [HR.out]
    refine length_limbs_le (Nat.lt_trans (Nat.mod_lt _ hyp) ?_)
    rw [← HL'.out]; exact val_lt hly
  have hw8 : w.heap.size + 4 ≤ w8.heap.size := by have := HX8.out.d.size; omega
  have hdz : Hid (w8.heap.size = w8.drew.heap.size) := Lib.hid rfl
  have hdz2 : Hid (w8.heap.size + 1 = (w8.alloc (Obj.cells #[Value.bool false, Value.slice none 0 0] 51)).heap.size) := Lib.hid (by simp)
  go_cut [11, 12] from 30 (fun q r wx => ∃ (gq gr : Nat) (qa : Option Addr) (qc : Nat) (ra : Option Addr) (rc : Nat), q = .pointer (some ⟨gq, 0, none⟩) ∧ r = .pointer (some ⟨gr, 0, none⟩) ∧ gq ≠ gr ∧ w8.heap.size ≤ gq ∧ w8.heap.size ≤ gr ∧ Box gq (.bool (sg (den sq (limbs Qn)))) (.slice qa (mg (den sq (limbs Qn))).length qc) wx ∧ Box gr (.bool (sg (den na (limbs Rn)))) (.slice ra (mg (den na (limbs Rn))).length rc) wx ∧ Apart w8.heap.size gq gr (mg (den sq (limbs Qn))) qa qc wx ∧ Apart w8.heap.size gq gr (mg (den na (limbs Rn))) ra rc wx ∧ Below w8.heap.size w8 wx)
  case first =>
    go_region_held3 (fun w' => w'.cell? ⟨w.heap.size, 0, none⟩ = some (.bool na) ∧ w'.cell? ⟨w.heap.size, 1, none⟩ = some (.slice a n cap) ∧ w'.cell? ⟨w.heap.size + 1, 0, none⟩ = some (.bool nb) ∧ w'.cell? ⟨w.heap.size + 1, 1, none⟩ = some (.slice b m cap') ∧ Below w8.heap.size w8 w')
      (first | with_reducible exact two_draw HX8.out.a HX8.out.b | with_reducible exact two_of HX8.out.a HX8.out.b hb11 | with_reducible exact two_of HX8.out.a HX8.out.b hb10 | with_reducible exact two_alloc HX8.out.a HX8.out.b _ (by assumption) | (refine two_of HX8.out.a HX8.out.b ?_; repeat (first | with_reducible exact hb11 | with_reducible exact hb10 | with_reducible exact Below.refl _ _ | with_reducible refine Below.drew ?_ | with_reducible refine Below.alloc ?_ ?_ _ | with_reducible refine Below.setCell ?_ ?_ _ | omega | (simp only [World.size_alloc]; omega) | (simp; omega))))
      ((first
        | (go_at_call 52; have hby := two_below (W := w8) (by assumption); have hq := two_rd HQ8.out (by assumption); have hq2 := make_any sq a8 _ c8 (limbs Qn) _ hq rfl (by omega); (with_reducible refine hq2.mono ?_); clear hq hq2; rintro e w10 ⟨a10, c10, rfl, hN10⟩; have hb10 : Below w8.heap.size w8 w10 := below_step hby hN10.below; have hs10 := hb10.size; have hz10 := hN10.below.size
           (first
            | (have e1 : Box (w8.heap.size) (.bool false) (.slice none 0 0) w10 := (by with_reducible exact (((Box.made w8 w8.heap.size rfl (.bool false) (.slice none 0 0) 51).alloc (Obj.cells #[Value.bool false, Value.slice none 0 0] 51)).below (Below.refl _ _).drew).below hN10.below); have s1 := e1.size; have e2 : Box (w8.heap.size + 1) (.bool false) (.slice none 0 0) w10 := (by with_reducible exact ((Box.made (w8.alloc (Obj.cells #[Value.bool false, Value.slice none 0 0] 51)) (w8.heap.size + 1) hdz2.out (.bool false) (.slice none 0 0) 51).below (Below.refl _ _).drew).below hN10.below); have s2 := e2.size)
            | (have e1 : Box (w8.heap.size) (.bool false) (.slice none 0 0) w10 := (by with_reducible exact ((Box.made w8 w8.heap.size rfl (.bool false) (.slice none 0 0) 51).below (Below.refl _ _).drew).below hN10.below); have s1 := e1.size)
            | skip))
        | (go_at_call 52; have hby := two_below (W := w8) (by assumption); have hq := two_rd HR8.out (by assumption); have hq2 := make_any na a9 _ c9 (limbs Rn) _ hq rfl (by omega); (with_reducible refine hq2.mono ?_); clear hq hq2; rintro e w11 ⟨a11, c11, rfl, hN11⟩; have hb11 : Below w8.heap.size w8 w11 := below_step hby hN11.below; have hs11 := hb11.size; have hz11 := hN11.below.size
           (first
            | (have f1 : Box (w10.heap.size) (.bool false) (.slice none 0 0) w11 := (by with_reducible exact ((Box.made w10 w10.heap.size rfl (.bool false) (.slice none 0 0) 51).alloc (Obj.cells #[Value.bool false, Value.slice none 0 0] 51)).below hN11.below); have f2 : Box (w10.heap.size + 1) (.bool false) (.slice none 0 0) w11 := (by with_reducible exact (Box.made (w10.alloc (Obj.cells #[Value.bool false, Value.slice none 0 0] 51)) (w10.heap.size + 1) (by simp) (.bool false) (.slice none 0 0) 51).below hN11.below); have n1 : w10.heap.size ≠ w10.heap.size + 1 := (by omega); have n2 := Ne.symm n1; have f1' := f1; have f2' := f2; obtain ⟨b0, b1, b2, b3, b4⟩ := f1'; obtain ⟨d0, d1, d2, d3, d4⟩ := f2')
            | (have f1 : Box (w8.heap.size) (.bool false) (.slice none 0 0) w11 := (by with_reducible exact (e1.alloc (Obj.cells #[Value.bool false, Value.slice none 0 0] 51)).below hN11.below); have f2 : Box (w10.heap.size) (.bool false) (.slice none 0 0) w11 := (by with_reducible exact (Box.made w10 w10.heap.size rfl (.bool false) (.slice none 0 0) 51).below hN11.below); have n0 := e1.size; have n1 : w8.heap.size ≠ w10.heap.size := (by omega); have n2 := Ne.symm n1; have f1' := f1; have f2' := f2; obtain ⟨b0, b1, b2, b3, b4⟩ := f1'; obtain ⟨d0, d1, d2, d3, d4⟩ := f2')
            | (have f1 : Box (w10.heap.size) (.bool false) (.slice none 0 0) w11 := (by with_reducible exact (Box.made w10 w10.heap.size rfl (.bool false) (.slice none 0 0) 51).below hN11.below); have f1' := f1; obtain ⟨b0, b1, b2, b3, b4⟩ := f1')
            | (have f1 : Box (w8.heap.size) (.bool false) (.slice none 0 0) w11 := (by with_reducible exact e1.below hN11.below); have f2 : Box (w8.heap.size + 1) (.bool false) (.slice none 0 0) w11 := (by with_reducible exact e2.below hN11.below); have n1 : w8.heap.size ≠ w8.heap.size + 1 := (by omega); have n2 := Ne.symm n1; have f1' := f1; have f2' := f2; obtain ⟨b0, b1, b2, b3, b4⟩ := f1'; obtain ⟨d0, d1, d2, d3, d4⟩ := f2')
            | (have f1 : Box (w8.heap.size) (.bool false) (.slice none 0 0) w11 := (by with_reducible exact e1.below hN11.below); have f1' := f1; obtain ⟨b0, b1, b2, b3, b4⟩ := f1')
            | skip))))
    all_goals go_wp2_with fail
    all_goals go_meet
    all_goals refine ⟨_, _, a10, c10, a11, c11, rfl, rfl, ?_, ?_, ?_, ?_, ?_, ?_, ?_, ?_⟩
    all_goals first
      | omega
      | ((repeat (first | with_reducible exact hb11 | with_reducible refine Below.alloc ?_ ?_ _ | with_reducible refine Below.setCell ?_ ?_ _ | omega | (simp only [World.size_alloc]; omega) | (simp; omega))); done)
      | ((repeat (first | with_reducible assumption | with_reducible exact Box.made _ _ (by first | rfl | simp) _ _ _ | with_reducible refine Box.alloc ?_ _ | with_reducible refine Box.stored (u := .bool false) (v := .slice none 0 0) ?_ _ _ | with_reducible refine Box.other ?_ (by first | omega | (simp <;> omega)) _ _)); done)
      | ((repeat (first | with_reducible exact Apart.of_new hN10 (by first | omega | (simp <;> omega)) (by first | omega | (simp <;> omega)) (by first | omega | (simp <;> omega)) | with_reducible refine Apart.below ?_ hN11.below | with_reducible refine Apart.alloc ?_ _ | with_reducible refine Apart.store1 ?_ _ _ | with_reducible refine Apart.store2 ?_ _ _)); done)
      | ((repeat (first | with_reducible exact Apart.of_new hN11 (by first | omega | (simp <;> omega)) (by first | omega | (simp <;> omega)) (by first | omega | (simp <;> omega)) | with_reducible refine Apart.alloc ?_ _ | with_reducible refine Apart.store1 ?_ _ _ | with_reducible refine Apart.store2 ?_ _ _)); done)
  case rest =>
    obtain ⟨gq, gr, qa, qc, ra, rc, rfl, rfl, hne, hgq, hgr, hBQ, hBR, hAQ, hAR, hBw⟩ := hcut
    obtain ⟨zq, hzq⟩ : ∃ z, z = den sq (limbs Qn) := ⟨_, rfl⟩
    obtain ⟨zr, hzr⟩ : ∃ z, z = den na (limbs Rn) := ⟨_, rfl⟩
    rw [← hzq] at hBQ hAQ
    rw [← hzr] at hBR hAR
    have hlq : (mg zq).length ≤ n := by rw [hzq, mg_den, val_limbs]; exact hQl
    have hlr : (mg zr).length ≤ m := by rw [hzr, mg_den, val_limbs]; exact hRl
    have HXC := Lib.hid (HX8.out.below hBw)
    have HBW8 := Lib.hid hBw
    have HBC := Lib.hid (HB8.out.trans (hBw.mono HB8.out.size))
    have HRYc := Lib.hid (HRY8.out.below hBw)
    have HBQ := Lib.hid hBQ
    have HBR := Lib.hid hBR
    have HAQ := Lib.hid hAQ
    have HAR := Lib.hid hAR
    have HSQ := Lib.hid hsq
    have HZQ := Lib.hid hzq
    have HZR := Lib.hid hzr
    clear hzq hzr hsq hBQ hAQ hAR hBw
    obtain ⟨m0, m1, m2, m3, m4⟩ := hBR
    by_cases hz : zr < 0
    · have hna : na = true := by
        have h1 := HZR.out
        cases na
        · exfalso; rw [h1] at hz; unfold den at hz; simp at hz; omega
        · rfl
      subst hna
      have d0 : decide (sign3 zr < 0) = true := by unfold sign3; rw [if_pos hz]; rfl
      obtain ⟨e2, htrue, hfalse⟩ := dm_neg HQ.out HR.out hyp HSQ.out (by rw [← HZR.out]; exact hz)
      rw [← HZR.out] at e2
      obtain ⟨zn, hzn⟩ : ∃ z, z = den true xs % den nb ys := ⟨_, rfl⟩
      have hval : den false Y = den false ys := by unfold den; rw [HY'.out, HVY.out]
      rw [← hzn, ← hval] at e2
      have E2 : Hid (den true xs % den nb ys = zn) := Lib.hid hzn.symm
      have EN := Lib.hid e2
      have hznl : (mg zn).length ≤ m := by
        refine length_limbs_le (k := m) ?_
        have h1 := natAbs_lt' (neg := false) hly
        have h2 := Int.emod_nonneg (den true xs) h0
        have h3 := Int.emod_lt (den true xs) h0
        rw [HL'.out] at h1
        have e : den false ys = ((den nb ys).natAbs : Int) := by rw [natAbs_den]; rfl
        rw [natAbs_den] at h3 h1
        rw [hzn]; omega
      have hdl : (mg (den false Y)).length ≤ m := by
        rw [hval]
        refine length_limbs_le (k := m) ?_
        have h1 := natAbs_lt' (neg := false) hly
        rwa [HL'.out] at h1
      have h1l : (mg 1).length ≤ 5 := by decide
      clear e2 hzn hz hval
      go_wp2_with fail
      refine (rsign_any (sg zr) ra _ rc (mg zr) _ HAR.out.rd rfl (by omega)).mono ?_
      rw [den_mg]
      rintro e w12 ⟨rfl, hb12⟩
      have HBR12 := Lib.hid (HBR.out.below hb12)
      have HBQ12 := Lib.hid (HBQ.out.below hb12)
      have HXC12 := Lib.hid (HXC.out.below hb12)
      have HRY12 := Lib.hid (HRYc.out.below hb12)
      have HAQ12 := Lib.hid (HAQ.out.below hb12)
      have HAR12 := Lib.hid (HAR.out.below hb12)
      have hw12 := HBW8.out.trans (hb12.mono HBW8.out.size)
      have HBW12 := Lib.hid hw12
      have hs12 := hw12.size
      clear m0 m1 m2 m3 m4 hb12 hw12
      have hbr12 := HBR12.out
      obtain ⟨m0, m1, m2, m3, m4⟩ := hbr12
      go_wp2_with fail
      have hgq12 := HBQ12.out.size
      have hgr12 := HBR12.out.size
      go_cut [] from 44 (fun wx => ∃ (a14 : Option Addr) (c14 : Nat), Box gr (.bool (sg zn)) (.slice a14 (mg zn).length c14) wx ∧ Box gq (.bool (sg zq)) (.slice qa (mg zq).length qc) wx ∧ Apart w8.heap.size gq gr (mg zq) qa qc wx ∧ Apart w8.heap.size gq gr (mg zn) a14 c14 wx ∧ Below w8.heap.size w8 wx)
      case first =>
        go_region_with (first
          | (go_at_call 52; refine (make_any false a7 _ c7 Y _ (HRY12.out.below (Below.refl _ _).drew) rfl (by omega)).mono ?_; rintro e w13 ⟨a13, c13, rfl, hN13⟩; have hb13 : Below w12.heap.size w12 w13 := (Below.refl _ _).drew.trans hN13.below; have hbr13 := HBR12.out.below hb13; obtain ⟨o0, o1, o2, o3, o4⟩ := hbr13)
          | (go_at_call 112; refine (radd_any (sg zr) (sg (den false Y)) ra a13 _ _ rc c13 (mg zr) (mg (den false Y)) _ (HAR12.out.rd.below hb13) hN13.rd rfl rfl (by omega) (by omega)).mono ?_; rw [den_mg, den_mg, ← EN.out]; rintro e w14 ⟨a14, c14, rfl, hN14⟩; have hb14 : Below w12.heap.size w12 w14 := hb13.trans (hN14.below.mono hb13.size); have hbr14 := HBR12.out.below hb14; obtain ⟨k0, k1, k2, k3, k4⟩ := hbr14))
        all_goals
          have hs13 := hb13.size
          have hb8 := HBW12.out.trans (hb14.mono HBW12.out.size)
          have h1 := (HBR12.out.below hb14).stored (.bool (sg zn)) (.slice a14 (mg zn).length c14)
          have h2 := (HBQ12.out.below hb14).other hne (.bool (sg zn)) (.slice a14 (mg zn).length c14)
          have h3 := ((HAQ12.out.below hb14).store2 0 (.bool (sg zn))).store2 1 (.slice a14 (mg zn).length c14)
          have h4 : Apart w8.heap.size gq gr (mg zn) a14 c14 _ := ((Apart.of_new hN14 (by omega) (.inl (by omega)) (.inl (by omega))).store2 0 (.bool (sg zn))).store2 1 (.slice a14 (mg zn).length c14)
          have h5 := bel_store hb8 gr hgr (.bool (sg zn)) (.slice a14 (mg zn).length c14)
          have H1 := Lib.hid h1
          have H2 := Lib.hid h2
          have H3 := Lib.hid h3
          have H4 := Lib.hid h4
          have H5 := Lib.hid h5
          clear h1 h2 h3 h4 h5 hb8 hb13 hb14 hN13 hN14
          go_wp2_with fail
          go_meet
        all_goals exact ⟨a14, c14, H1.out, H2.out, H3.out, H4.out, H5.out⟩
      case rest =>
      obtain ⟨a14, c14, hr15, hq15, hAq15, hAr15, hw15⟩ := hcut
      have HBR15 := Lib.hid hr15
      have HBQ15 := Lib.hid hq15
      have HAQ15 := Lib.hid hAq15
      have HAR15 := Lib.hid hAr15
      have HBW15 := Lib.hid hw15
      have HXC15 := Lib.hid (HX8.out.below HBW15.out)
      have HRB15 := Lib.hid (HRB8.out.below HBW15.out)
      clear hr15 hq15 hAq15 hAr15 hw15 m0 m1 m2 m3 m4
      have hxb := HXC15.out.b
      obtain ⟨t0, t1, t2, t3, t4⟩ := hxb
      by_cases hnb : nb = true
      · skip
        subst hnb
        have e1 := htrue rfl
        rw [← HZQ.out] at e1
        have E1 := Lib.hid e1
        have d3 : decide (sign3 (den true ys) < 0) = true := by
          have := hyp
          unfold sign3 den; simp; try omega
        clear e1 htrue hfalse
        go_wp2_with fail
        refine (rsign_any true b m cap' ys _ HRB15.out HL'.out (by omega)).mono ?_
        rintro e w16 ⟨rfl, hb16⟩

        have hB16 := HBW15.out.trans (hb16.mono HBW15.out.size)
        have HBQ16 := Lib.hid (HBQ15.out.below hb16)
        have HBR16 := Lib.hid (HBR15.out.below hb16)
        have HAQ16 := Lib.hid (HAQ15.out.below hb16)
        have HAR16 := Lib.hid (HAR15.out.below hb16)
        have HXC16 := Lib.hid (HXC15.out.below hb16)
        have HBW16 := Lib.hid hB16
        have hs16 : w.heap.size + 2 ≤ w16.heap.size := by have := hB16.size; omega
        have hbq16 := HBQ16.out
        have hbr16 := HBR16.out
        clear hb16 hB16 t0 t1 t2 t3 t4
        obtain ⟨t0, t1, t2, t3, t4⟩ := hbq16
        obtain ⟨v0, v1, v2, v3, v4⟩ := hbr16
        go_wp2_with fail
        go_region_held3 (fun w' => w'.cell? ⟨gq, 0, none⟩ = some (.bool (sg zq)) ∧ w'.cell? ⟨gq, 1, none⟩ = some (.slice qa (mg zq).length qc) ∧ w'.cell? ⟨gr, 0, none⟩ = some (.bool (sg zn)) ∧ w'.cell? ⟨gr, 1, none⟩ = some (.slice a14 (mg zn).length c14) ∧ Below (w.heap.size + 2) w16 w')
          (first | with_reducible exact far2_draw HBQ16.out HBR16.out hs16 | with_reducible exact far2_call HBQ16.out HBR16.out hs16 (by assumption) hN17.below | with_reducible exact far2_call HBQ16.out HBR16.out hs16 (by assumption) hN18.below | with_reducible exact far2_store (w.heap.size + 1 + 1) (by omega) (by omega) (by omega) _ _ (by assumption) | with_reducible exact far2_store (w.heap.size + 1 + 1 + 1) (by omega) (by omega) (by omega) _ _ (by assumption))
          ((first
            | (go_at_call 28; refine (rsmall_any 1 _ (by omega) (by omega)).mono ?_; rintro e w17 ⟨a17, c17, rfl, hN17⟩; have hb17 : Below w16.heap.size w16 w17 := (Below.refl _ _).drew.trans hN17.below; have hbq17 := HBQ16.out.below hb17; have hbr17 := HBR16.out.below hb17; obtain ⟨x0, x1, x2, x3, x4⟩ := hbq17; obtain ⟨z0, z1, z2, z3, z4⟩ := hbr17)
            | (go_at_call 112; refine (radd_any (sg zq) (sg 1) qa a17 _ _ qc c17 (mg zq) (mg 1) _ (HAQ16.out.rd.below hb17) hN17.rd rfl rfl (by omega) (by omega)).mono ?_; rw [den_mg, den_mg, ← E1.out]; rintro e w18 ⟨a18, c18, rfl, hN18⟩; have hb18 : Below w16.heap.size w16 w18 := hb17.trans (hN18.below.mono hb17.size); have hbr18 := HBR16.out.below hb18; have hx18 := HXC16.out.below hb18; obtain ⟨y0, y1, y2, y3, y4⟩ := hbr18; obtain ⟨_, _, ⟨r0, r1, r2, r3, r4⟩, ⟨s0, s1, s2, s3, s4⟩⟩ := hx18)))
        have hb8s : Below w8.heap.size w8 w18 := HBW16.out.trans (hb18.mono HBW16.out.size)
        have hb8t : Below w8.heap.size w8 w17 := HBW16.out.trans (hb17.mono HBW16.out.size)
        have n1 := new_result4 (w := w) HB8.out (New.before hb8t hN18) (by omega)
        have n2 := new_result4 (w := w) HB8.out ((HAR16.out.below hb18).to_new (Nat.le_refl _) hb8s) (by omega)
        have N1 := Lib.hid n1
        have N2 := Lib.hid n2
        clear hN17 hN18 n1 n2 hb18 hb17 hb8s hb8t
        go_wp2_with fail
        refine bodyPost_ret (v := .tuple #[.agg #[.bool (sg (den true xs / den true ys)), .slice a18 (mg (den true xs / den true ys)).length c18], .agg #[.bool (sg zn), .slice a14 (mg zn).length c14], .bool true]) ?_ rfl ?_
        · simp [results, Tryz.results138, go_sem, r0, r1, s0, s1]
        · unfold GivesDM
          rw [E2.out]
          exact ⟨a18, c18, a14, c14, rfl, N1.out _ _ _ _, N2.out _ _ _ _⟩
      · have hnb : nb = false := by simpa using hnb
        subst hnb
        have e1 := hfalse rfl
        rw [← HZQ.out] at e1
        have E1 := Lib.hid e1
        have d3 : decide (sign3 (den false ys) < 0) = false := by
          have := hyp
          unfold sign3 den; simp; try omega
        clear e1 htrue hfalse
        go_wp2_with fail
        refine (rsign_any false b m cap' ys _ HRB15.out HL'.out (by omega)).mono ?_
        rintro e w16 ⟨rfl, hb16⟩

        have hB16 := HBW15.out.trans (hb16.mono HBW15.out.size)
        have HBQ16 := Lib.hid (HBQ15.out.below hb16)
        have HBR16 := Lib.hid (HBR15.out.below hb16)
        have HAQ16 := Lib.hid (HAQ15.out.below hb16)
        have HAR16 := Lib.hid (HAR15.out.below hb16)
        have HXC16 := Lib.hid (HXC15.out.below hb16)
        have HBW16 := Lib.hid hB16
        have hs16 : w.heap.size + 2 ≤ w16.heap.size := by have := hB16.size; omega
        have hbq16 := HBQ16.out
        have hbr16 := HBR16.out
        clear hb16 hB16 t0 t1 t2 t3 t4
        obtain ⟨t0, t1, t2, t3, t4⟩ := hbq16
        obtain ⟨v0, v1, v2, v3, v4⟩ := hbr16
        go_wp2_with fail
        go_region_held3 (fun w' => w'.cell? ⟨gq, 0, none⟩ = some (.bool (sg zq)) ∧ w'.cell? ⟨gq, 1, none⟩ = some (.slice qa (mg zq).length qc) ∧ w'.cell? ⟨gr, 0, none⟩ = some (.bool (sg zn)) ∧ w'.cell? ⟨gr, 1, none⟩ = some (.slice a14 (mg zn).length c14) ∧ Below (w.heap.size + 2) w16 w')
          (first | with_reducible exact far2_draw HBQ16.out HBR16.out hs16 | with_reducible exact far2_call HBQ16.out HBR16.out hs16 (by assumption) hN17.below | with_reducible exact far2_call HBQ16.out HBR16.out hs16 (by assumption) hN18.below | with_reducible exact far2_store (w.heap.size + 1 + 1) (by omega) (by omega) (by omega) _ _ (by assumption) | with_reducible exact far2_store (w.heap.size + 1 + 1 + 1) (by omega) (by omega) (by omega) _ _ (by assumption))
          ((first
            | (go_at_call 28; refine (rsmall_any 1 _ (by omega) (by omega)).mono ?_; rintro e w17 ⟨a17, c17, rfl, hN17⟩; have hb17 : Below w16.heap.size w16 w17 := (Below.refl _ _).drew.trans hN17.below; have hbq17 := HBQ16.out.below hb17; have hbr17 := HBR16.out.below hb17; obtain ⟨x0, x1, x2, x3, x4⟩ := hbq17; obtain ⟨z0, z1, z2, z3, z4⟩ := hbr17)
            | (go_at_call 118; refine (rsub_any (sg zq) (sg 1) qa a17 _ _ qc c17 (mg zq) (mg 1) _ (HAQ16.out.rd.below hb17) hN17.rd rfl rfl (by omega) (by omega)).mono ?_; rw [den_mg, den_mg, ← E1.out]; rintro e w18 ⟨a18, c18, rfl, hN18⟩; have hb18 : Below w16.heap.size w16 w18 := hb17.trans (hN18.below.mono hb17.size); have hbr18 := HBR16.out.below hb18; have hx18 := HXC16.out.below hb18; obtain ⟨y0, y1, y2, y3, y4⟩ := hbr18; obtain ⟨_, _, ⟨r0, r1, r2, r3, r4⟩, ⟨s0, s1, s2, s3, s4⟩⟩ := hx18)))
        have hb8s : Below w8.heap.size w8 w18 := HBW16.out.trans (hb18.mono HBW16.out.size)
        have hb8t : Below w8.heap.size w8 w17 := HBW16.out.trans (hb17.mono HBW16.out.size)
        have n1 := new_result4 (w := w) HB8.out (New.before hb8t hN18) (by omega)
        have n2 := new_result4 (w := w) HB8.out ((HAR16.out.below hb18).to_new (Nat.le_refl _) hb8s) (by omega)
        have N1 := Lib.hid n1
        have N2 := Lib.hid n2
        clear hN17 hN18 n1 n2 hb18 hb17 hb8s hb8t
        go_wp2_with fail
        refine bodyPost_ret (v := .tuple #[.agg #[.bool (sg (den true xs / den false ys)), .slice a18 (mg (den true xs / den false ys)).length c18], .agg #[.bool (sg zn), .slice a14 (mg zn).length c14], .bool true]) ?_ rfl ?_
        · simp [results, Tryz.results138, go_sem, r0, r1, s0, s1]
        · unfold GivesDM
          rw [E2.out]
          exact ⟨a18, c18, a14, c14, rfl, N1.out _ _ _ _, N2.out _ _ _ _⟩
    · have d0 : decide (sign3 zr < 0) = false := by unfold sign3; rw [if_neg hz]; split <;> simp
      obtain ⟨e1, e2⟩ := dm_plain HQ.out HR.out hyp HSQ.out (by rw [← HZR.out]; omega)
      rw [← HZQ.out] at e1
      rw [← HZR.out] at e2
      have E1 := Lib.hid e1
      have E2 := Lib.hid e2
      clear e1 e2 hz
      go_wp2_with fail
      refine (rsign_any (sg zr) ra _ rc (mg zr) _ HAR.out.rd rfl (by omega)).mono ?_
      rw [den_mg]
      rintro e w12 ⟨rfl, hb12⟩
      have hbr := HBR.out.below hb12
      have hbq := HBQ.out.below hb12
      have hx12 := HXC.out.below hb12
      have hw12 := HBW8.out.trans (hb12.mono HBW8.out.size)
      have n1 := new_result4 (w := w) HB8.out ((HAQ.out.below hb12).to_new (Nat.le_refl _) hw12) (by omega)
      have n2 := new_result4 (w := w) HB8.out ((HAR.out.below hb12).to_new (Nat.le_refl _) hw12) (by omega)
      have N1 := Lib.hid n1
      have N2 := Lib.hid n2
      clear m0 m1 m2 m3 m4 n1 n2
      obtain ⟨m0, m1, m2, m3, m4⟩ := hbr
      obtain ⟨l0, l1, l2, l3, l4⟩ := hbq
      obtain ⟨_, _, ⟨r0, r1, r2, r3, r4⟩, ⟨s0, s1, s2, s3, s4⟩⟩ := hx12
      clear hb12 hw12
      go_wp2_with fail
      go_region
      all_goals go_wp2_with fail
      refine bodyPost_ret (v := .tuple #[.agg #[.bool (sg zq), .slice qa (mg zq).length qc], .agg #[.bool (sg zr), .slice ra (mg zr).length rc], .bool true]) ?_ rfl ?_
      · simp [results, Tryz.results138, go_sem, r0, r1, s0, s1]
      · unfold GivesDM
        rw [E1.out, E2.out]
        exact ⟨qa, qc, ra, rc, rfl, (N1.out _ _ _ _).after (Below.refl _ _).drew, (N2.out _ _ _ _).after (Below.refl _ _).drew⟩
end Go.Proofs.YtfpcfcegdjlggaaGreat
namespace Go.Proofs.YtfpcfcegdjlggaaGreat.Minor

def sg : Nat → Int
  | 0 => 1
  | n + 1 => -sg n
theorem sg_sq : ∀ n, sg n * sg n = 1
  | 0 => rfl
  | n + 1 => by show -sg n * -sg n = 1; rw [Int.neg_mul_neg]; exact sg_sq n

/-- v (a form on lists of k columns) and one row more: the expansion along that row. -/
def W (v : List Nat → Int) (r : Nat → Int) : List Nat → Int
  | [] => 0
  | c :: T => W (fun T' => v (c :: T')) r T + sg T.length * (r c * v T)

theorem W_congr {r : Nat → Int} : ∀ (S : List Nat) {v v' : List Nat → Int}, (∀ T, T.length + 1 = S.length → v T = v' T) → W v r S = W v' r S
  | [], _, _, _ => rfl
  | c :: T, v, v', h => by
    show W (fun T' => v (c :: T')) r T + sg T.length * (r c * v T) = W (fun T' => v' (c :: T')) r T + sg T.length * (r c * v' T)
    rw [W_congr T (v := fun T' => v (c :: T')) (v' := fun T' => v' (c :: T')) fun T' hT => h (c :: T') (by simp; omega), h T (by simp)]

theorem W_smul {r : Nat → Int} (α : Int) : ∀ (S : List Nat) (v : List Nat → Int), W (fun S => α * v S) r S = α * W v r S
  | [], _ => by simp [W]
  | c :: T, v => by
    show W (fun T' => α * v (c :: T')) r T + sg T.length * (r c * (α * v T)) = α * (W (fun T' => v (c :: T')) r T + sg T.length * (r c * v T))
    rw [W_smul α T fun T' => v (c :: T')]
    grind

theorem W_add {r : Nat → Int} : ∀ (S : List Nat) (v v' : List Nat → Int), W (fun S => v S + v' S) r S = W v r S + W v' r S
  | [], _, _ => by simp [W]
  | c :: T, v, v' => by
    show W (fun T' => v (c :: T') + v' (c :: T')) r T + sg T.length * (r c * (v T + v' T)) = (W (fun T' => v (c :: T')) r T + sg T.length * (r c * v T)) + (W (fun T' => v' (c :: T')) r T + sg T.length * (r c * v' T))
    rw [W_add T (fun T' => v (c :: T')) fun T' => v' (c :: T')]
    grind

theorem W_row {r s : Nat → Int} (α β : Int) : ∀ (S : List Nat) (v : List Nat → Int), W v (fun j => α * r j + β * s j) S = α * W v r S + β * W v s S
  | [], _ => by simp [W]
  | c :: T, v => by
    show W (fun T' => v (c :: T')) (fun j => α * r j + β * s j) T + sg T.length * ((α * r c + β * s c) * v T) = α * (W (fun T' => v (c :: T')) r T + sg T.length * (r c * v T)) + β * (W (fun T' => v (c :: T')) s T + sg T.length * (s c * v T))
    rw [W_row α β T fun T' => v (c :: T')]
    grind

theorem W_sign {r : Nat → Int} : ∀ (S : List Nat) (v : List Nat → Int), W (fun S => sg S.length * v S) r S = -(sg S.length * W v r S)
  | [], _ => by simp [W]
  | c :: T, v => by
    have h1 : W (fun T' => sg (c :: T').length * v (c :: T')) r T = sg T.length * W (fun T' => v (c :: T')) r T := by
      have h := W_sign (r := r) T fun T' => -1 * v (c :: T')
      rw [W_smul] at h
      rw [W_congr T (v' := fun T' => sg T'.length * (-1 * v (c :: T'))) fun T' _ => by show -sg T'.length * v (c :: T') = _; grind]
      rw [h]; grind
    show W (fun T' => sg (c :: T').length * v (c :: T')) r T + sg T.length * (r c * (sg T.length * v T)) = -(-sg T.length * (W (fun T' => v (c :: T')) r T + sg T.length * (r c * v T)))
    rw [h1]
    have := sg_sq T.length
    grind

theorem W_anti {r s : Nat → Int} : ∀ (S : List Nat) (v : List Nat → Int), W (W v r) s S = -W (W v s) r S
  | [], _ => by simp [W]
  | c :: T, v => by
    have key : ∀ p q : Nat → Int, W (W v p) q (c :: T) = W (W (fun T' => v (c :: T')) p) q T - sg T.length * (p c * W v q T) + sg T.length * (q c * W v p T) := fun p q => by
      show W (fun T' => W v p (c :: T')) q T + sg T.length * (q c * W v p T) = _
      have e : (fun T' => W v p (c :: T')) = fun T' => W (fun T'' => v (c :: T'')) p T' + (fun T'' => sg T''.length * (p c * v T'')) T' := rfl
      rw [e, W_add, W_sign, W_smul]
      grind
    rw [key r s, key s r, W_anti T fun T' => v (c :: T')]
    grind

theorem W_self {r : Nat → Int} (S : List Nat) (v : List Nat → Int) : W (W v r) r S = 0 := by
  have := W_anti (r := r) (s := r) S v
  omega

theorem W_last {r : Nat → Int} {j : Nat} : ∀ (T : List Nat) (v : List Nat → Int), (∀ c ∈ T, r c = 0) → W v r (T ++ [j]) = r j * v T
  | [], v, _ => by simp [W, sg]
  | c :: T, v, h => by
    show W (fun T' => v (c :: T')) r (T ++ [j]) + sg (T ++ [j]).length * (r c * v (T ++ [j])) = _
    rw [W_last T _ fun c' hc => h c' (List.mem_cons_of_mem _ hc), h c List.mem_cons_self]
    simp

/-- The form of the first k rows. -/
def om (a : Nat → Nat → Int) : Nat → List Nat → Int
  | 0 => fun S => if S = [] then 1 else 0
  | k + 1 => W (om a k) (a k)

/-- The minor of the rows 0 .. k-1, i and the columns 0 .. k-1, j. -/
def B (a : Nat → Nat → Int) (k i j : Nat) : Int := W (om a k) (a i) (List.range k ++ [j])
/-- The leading minor of k rows. -/
def D (a : Nat → Nat → Int) (k : Nat) : Int := om a k (List.range k)

theorem D_zero (a : Nat → Nat → Int) : D a 0 = 1 := rfl
theorem D_succ (a : Nat → Nat → Int) (k : Nat) : D a (k + 1) = B a k k k := by unfold D B; rw [List.range_succ]; rfl
theorem B_zero (a : Nat → Nat → Int) (i j : Nat) : B a 0 i j = a i j := by simp [B, W, om, sg]

theorem step (a : Nat → Nat → Int) (k : Nat) (h0 : D a k ≠ 0) (h1 : D a (k + 1) ≠ 0) (hP : ∀ i S, W (om a k) (B a k i) S = D a k * W (om a k) (a i) S) (hZ : ∀ i j, j < k → B a k i j = 0) :
    (∀ i j, B a k k k * B a k i j - B a k i k * B a k k j = D a k * B a (k + 1) i j) ∧ (∀ i S, W (om a (k + 1)) (B a (k + 1) i) S = D a (k + 1) * W (om a (k + 1)) (a i) S) ∧ (∀ i j, j < k + 1 → B a (k + 1) i j = 0) := by
  have hv : ∀ i S, W (om a (k + 1)) (fun j => D a (k + 1) * B a k i j + -B a k i k * B a k k j) S = D a (k + 1) * D a k * W (om a (k + 1)) (a i) S := fun i S => by
    have e1 : ∀ q : Nat → Int, ∀ S, D a k * W (om a (k + 1)) q S = W (W (om a k) (B a k k)) q S := fun q S => by
      rw [show W (om a k) (B a k k) = fun S => D a k * W (om a k) (a k) S from funext (hP k), W_smul]; rfl
    have e2 : W (W (om a k) (B a k k)) (B a k i) S = D a k * D a k * W (om a (k + 1)) (a i) S := by
      rw [← e1]
      have e3 : W (om a (k + 1)) (B a k i) S = D a k * W (om a (k + 1)) (a i) S := by
        show W (W (om a k) (a k)) (B a k i) S = _
        rw [W_anti, show W (om a k) (B a k i) = fun S => D a k * W (om a k) (a i) S from funext (hP i), W_smul]
        show -(D a k * W (W (om a k) (a i)) (a k) S) = D a k * W (W (om a k) (a k)) (a i) S
        rw [W_anti (r := a i) (s := a k)]
        grind
      rw [e3]; grind
    have e4 : D a k * W (om a (k + 1)) (fun j => D a (k + 1) * B a k i j + -B a k i k * B a k k j) S = D a k * (D a (k + 1) * D a k * W (om a (k + 1)) (a i) S) := by
      rw [e1, W_row, e2, W_self]
      grind
    exact Int.eq_of_mul_eq_mul_left h0 e4
  have hv0 : ∀ i j, j < k + 1 → D a (k + 1) * B a k i j + -B a k i k * B a k k j = 0 := fun i j hj => by
    by_cases e : j = k
    · subst e; rw [D_succ]; grind
    · rw [hZ i j (by omega), hZ k j (by omega)]; simp
  have hS : ∀ i j, D a (k + 1) * B a k i j + -B a k i k * B a k k j = D a k * B a (k + 1) i j := fun i j => by
    have h := hv i (List.range (k + 1) ++ [j])
    rw [W_last (List.range (k + 1)) _ fun c hc => hv0 i c (List.mem_range.1 hc)] at h
    have e : D a (k + 1) * (D a (k + 1) * B a k i j + -B a k i k * B a k k j) = D a (k + 1) * (D a k * B a (k + 1) i j) := by
      have h2 : om a (k + 1) (List.range (k + 1)) = D a (k + 1) := rfl
      have h3 : W (om a (k + 1)) (a i) (List.range (k + 1) ++ [j]) = B a (k + 1) i j := rfl
      rw [h2, h3] at h
      grind
    exact Int.eq_of_mul_eq_mul_left h1 e
  refine ⟨fun i j => ?_, fun i S => ?_, fun i j hj => ?_⟩
  · have := hS i j
    rw [D_succ] at this
    grind
  · have h := hv i S
    rw [show (fun j => D a (k + 1) * B a k i j + -B a k i k * B a k k j) = fun j => D a k * B a (k + 1) i j + 0 * B a (k + 1) i j from funext fun j => by rw [hS i j]; grind, W_row] at h
    have e : D a k * W (om a (k + 1)) (B a (k + 1) i) S = D a k * (D a (k + 1) * W (om a (k + 1)) (a i) S) := by grind
    exact Int.eq_of_mul_eq_mul_left h0 e
  · have h := hS i j
    rw [hv0 i j hj] at h
    exact (Int.mul_eq_zero.1 h.symm).resolve_left h0

theorem minors (a : Nat → Nat → Int) : ∀ k, (∀ m, m ≤ k → D a m ≠ 0) → (∀ i S, W (om a k) (B a k i) S = D a k * W (om a k) (a i) S) ∧ (∀ i j, j < k → B a k i j = 0)
  | 0, _ => ⟨fun i S => by
      rw [show B a 0 i = a i from funext fun j => B_zero a i j, D_zero]; simp, fun _ _ h => by omega⟩
  | k + 1, h => by
    obtain ⟨hP, hZ⟩ := minors a k fun m hm => h m (by omega)
    exact (step a k (h k (by omega)) (h (k + 1) (by omega)) hP hZ).2

/-- Sylvester: one step of the elimination, divided without a remainder. -/
theorem sylvester (a : Nat → Nat → Int) (k i j : Nat) (h : ∀ m, m ≤ k + 1 → D a m ≠ 0) : B a k k k * B a k i j - B a k i k * B a k k j = D a k * B a (k + 1) i j := by
  obtain ⟨hP, hZ⟩ := minors a k fun m hm => h m (by omega)
  exact (step a k (h k (by omega)) (h (k + 1) (by omega)) hP hZ).1 i j
end Go.Proofs.YtfpcfcegdjlggaaGreat.Minor
namespace Go.Proofs.YtfpcfcegdjlggaaGreat.Bound

theorem sq_le {a b c : Nat} (h : a ^ 2 ≤ c ^ 2 * b ^ 2) : a ≤ c * b := by
  rw [← Nat.mul_pow] at h
  exact (Nat.pow_le_pow_iff_left (by omega)).1 h

section
variable {d : Nat → Nat} {n : Nat} (h0 : d 0 = 1) (hp : ∀ k, k ≤ n → 1 ≤ d k) (hl : ∀ k, k + 2 ≤ n → d (k + 1) ^ 2 ≤ 2 * d k * d (k + 2))
include h0 hp hl

theorem near : ∀ k, k + 1 ≤ n → d k ^ (2 * (k + 1)) ≤ 2 ^ (k * (k + 1)) * d (k + 1) ^ (2 * k)
  | 0, _ => by simp [h0]
  | k + 1, h => by
    have ih := near k (by omega)
    have h1 := Nat.pow_le_pow_left (hl k h) (2 * (k + 1))
    have h2 : d (k + 1) ^ (2 * (k + 1 + 1)) * d (k + 1) ^ (2 * k) ≤ 2 ^ ((k + 1) * (k + 1 + 1)) * d (k + 1 + 1) ^ (2 * (k + 1)) * d (k + 1) ^ (2 * k) := by
      have e1 : d (k + 1) ^ (2 * (k + 1 + 1)) * d (k + 1) ^ (2 * k) = (d (k + 1) ^ 2) ^ (2 * (k + 1)) := by
        rw [← Nat.pow_add, ← Nat.pow_mul]; congr 1; omega
      have e2 : (2 * d k * d (k + 2)) ^ (2 * (k + 1)) = 2 ^ (2 * (k + 1)) * d (k + 2) ^ (2 * (k + 1)) * d k ^ (2 * (k + 1)) := by
        rw [Nat.mul_pow, Nat.mul_pow, Nat.mul_right_comm]
      have e3 : 2 ^ (2 * (k + 1)) * d (k + 2) ^ (2 * (k + 1)) * (2 ^ (k * (k + 1)) * d (k + 1) ^ (2 * k)) = 2 ^ ((k + 1) * (k + 1 + 1)) * d (k + 1 + 1) ^ (2 * (k + 1)) * d (k + 1) ^ (2 * k) := by
        have e : (k + 1) * (k + 1 + 1) = 2 * (k + 1) + k * (k + 1) := by
          rw [Nat.mul_comm (k + 1), ← Nat.add_mul]; congr 1; omega
        rw [e, Nat.pow_add]
        rw [show k + 2 = k + 1 + 1 from rfl]
        generalize 2 ^ (2 * (k + 1)) = A
        generalize 2 ^ (k * (k + 1)) = B
        generalize d (k + 1) ^ (2 * k) = C
        generalize d (k + 1 + 1) ^ (2 * (k + 1)) = E
        grind
      rw [e1, ← e3]
      refine Nat.le_trans h1 ?_
      rw [e2]
      exact Nat.mul_le_mul_left _ ih
    exact Nat.le_of_mul_le_mul_right h2 (Nat.pow_pos (by have := hp (k + 1) (by omega); omega))

theorem far (k : Nat) : ∀ m, k ≤ m → m ≤ n → d k ^ (2 * m) ≤ 2 ^ (k * (m - k) * m) * d m ^ (2 * k) := by
  intro m hkm hm
  induction m with
  | zero =>
    obtain rfl : k = 0 := by omega
    simp
  | succ m ih =>
    by_cases e : k = m + 1
    · subst e; simp
    · have hkm' : k ≤ m := by omega
      have h1 := Nat.pow_le_pow_left (ih hkm' (by omega)) (m + 1)
      have h2 := Nat.pow_le_pow_left (near h0 hp hl m hm) k
      by_cases hm0 : m = 0
      · subst hm0
        obtain rfl : k = 0 := by omega
        simp [h0]
      have h3 : (d k ^ (2 * (m + 1))) ^ m ≤ (2 ^ (k * (m + 1 - k) * (m + 1)) * d (m + 1) ^ (2 * k)) ^ m := by
        have a1 : (d k ^ (2 * (m + 1))) ^ m = (d k ^ (2 * m)) ^ (m + 1) := by
          rw [← Nat.pow_mul, ← Nat.pow_mul]; congr 1; simp only [Nat.mul_comm, Nat.mul_left_comm]
        have a2 : (2 ^ (k * (m - k) * m) * d m ^ (2 * k)) ^ (m + 1) = 2 ^ (k * (m - k) * m * (m + 1)) * (d m ^ (2 * (m + 1))) ^ k := by
          rw [Nat.mul_pow, ← Nat.pow_mul, ← Nat.pow_mul, ← Nat.pow_mul]
          congr 2
          simp only [Nat.mul_comm, Nat.mul_left_comm]
        have a3 : 2 ^ (k * (m - k) * m * (m + 1)) * (2 ^ (m * (m + 1)) * d (m + 1) ^ (2 * m)) ^ k = (2 ^ (k * (m + 1 - k) * (m + 1)) * d (m + 1) ^ (2 * k)) ^ m := by
          rw [Nat.mul_pow, Nat.mul_pow, ← Nat.pow_mul, ← Nat.pow_mul, ← Nat.pow_mul, ← Nat.pow_mul, ← Nat.mul_assoc, ← Nat.pow_add]
          have x1 : k * (m - k) * m * (m + 1) + m * (m + 1) * k = k * (m + 1 - k) * (m + 1) * m := by
            rw [show m + 1 - k = (m - k) + 1 from by omega]
            generalize m - k = t
            grind
          have x2 : 2 * m * k = 2 * k * m := by grind
          rw [x1, x2]
        rw [a1, ← a3]
        refine Nat.le_trans h1 ?_
        rw [a2]
        exact Nat.mul_le_mul_left _ h2
      exact (Nat.pow_le_pow_iff_left hm0).1 h3

/-- d_k <= 2^(k(m-k)/2) d_m. -/
theorem below (k m : Nat) (hk : k ≤ m) (hm : m ≤ n) : d k ^ 2 ≤ 2 ^ (k * (m - k)) * d m ^ 2 := by
  by_cases hm0 : m = 0
  · obtain rfl : k = 0 := by omega
    subst hm0; simp
  have h := far h0 hp hl k m hk hm
  have h1 : d m ^ (2 * k) ≤ d m ^ (2 * m) := Nat.pow_le_pow_right (hp m hm) (by omega)
  have h2 : (d k ^ 2) ^ m ≤ (2 ^ (k * (m - k)) * d m ^ 2) ^ m := by
    rw [Nat.mul_pow, ← Nat.pow_mul, ← Nat.pow_mul, ← Nat.pow_mul]
    exact Nat.le_trans h (Nat.mul_le_mul_left _ h1)
  exact (Nat.pow_le_pow_iff_left hm0).1 h2

/-- The products that the entries are made of: n at most 8, the last one at most 10000. -/
theorem product (hn : n ≤ 8) (hd : d n ≤ 10000) (k m : Nat) (hk : k ≤ m) (hm : m < n) : d k * d (m + 1) ≤ 163840000 * d m := by
  have h1 := below h0 hp hl k m hk (by omega)
  have h2 := below h0 hp hl (m + 1) n (by omega) (Nat.le_refl _)
  have e1 : k * (m - k) ≤ 12 := by
    have hm7 : m ≤ 7 := by omega
    clear h0 hp hl h1 h2 hd
    have : ∀ m, m ≤ 7 → ∀ k, k ≤ m → k * (m - k) ≤ 12 := by decide
    exact this m hm7 k hk
  have e2 : (m + 1) * (n - (m + 1)) ≤ 16 := by
    clear h0 hp hl h1 h2 hd
    have : ∀ n, n ≤ 8 → ∀ k, k ≤ n → k * (n - k) ≤ 16 := by decide
    exact this n hn (m + 1) (by omega)
  have b1 : d k ≤ 64 * d m := sq_le (Nat.le_trans h1 (Nat.mul_le_mul_right _ (Nat.le_trans (Nat.pow_le_pow_right (by omega) e1) (by decide))))
  have b2 : d (m + 1) ≤ 256 * d n := sq_le (Nat.le_trans h2 (Nat.mul_le_mul_right _ (Nat.le_trans (Nat.pow_le_pow_right (by omega) e2) (by decide))))
  have b3 := Nat.mul_le_mul b1 (Nat.le_trans b2 (Nat.mul_le_mul_left 256 hd))
  omega
end
end Go.Proofs.YtfpcfcegdjlggaaGreat.Bound
namespace Go.Proofs.YtfpcfcegdjlggaaGreat.Minor
open Bound

theorem B_symm {a : Nat → Nat → Int} {n : Nat} (hsym : ∀ i j, i < n → j < n → a i j = a j i) : ∀ k, (∀ m, m ≤ k → D a m ≠ 0) → k < n → ∀ i j, i < n → j < n → B a k i j = B a k j i
  | 0, _, _, i, j, hi, hj => by rw [B_zero, B_zero]; exact hsym i j hi hj
  | k + 1, hD, hk, i, j, hi, hj => by
    have ih := B_symm hsym k (fun m hm => hD m (by omega)) (by omega)
    have h1 := sylvester a k i j fun m hm => hD m (by omega)
    have h2 := sylvester a k j i fun m hm => hD m (by omega)
    have h3 : D a k * B a (k + 1) i j = D a k * B a (k + 1) j i := by
      rw [← h1, ← h2, ih i j hi hj, ih i k hi (by omega), ih k j (by omega) hj]
      grind
    exact Int.eq_of_mul_eq_mul_left (hD k (by omega)) h3

theorem sq_abs {x d : Int} (h : 2 * x.natAbs ≤ d.natAbs) : 4 * (x * x) ≤ d * d := by
  have h1 := Nat.mul_le_mul h h
  have h2 : ((2 * x.natAbs * (2 * x.natAbs) : Nat) : Int) ≤ ((d.natAbs * d.natAbs : Nat) : Int) := Int.ofNat_le.2 h1
  have e1 : ((2 * x.natAbs * (2 * x.natAbs) : Nat) : Int) = 4 * (x * x) := by
    rw [show 2 * x.natAbs * (2 * x.natAbs) = 4 * (x.natAbs * x.natAbs) from by grind]
    rw [Int.natCast_mul, Int.natAbs_mul_self]; rfl
  rw [e1, Int.natAbs_mul_self] at h2
  exact h2

structure Conds (a : Nat → Nat → Int) (n : Nat) : Prop where
  sym : ∀ i j, i < n → j < n → a i j = a j i
  pos : ∀ m, m ≤ n → 0 < D a m
  sized : ∀ k i, k < i → i < n → 2 * (B a k i k).natAbs ≤ (D a (k + 1)).natAbs
  lovasz : ∀ k, k + 1 < n → 3 * D a (k + 1) ≤ 4 * B a k (k + 1) (k + 1)

variable {a : Nat → Nat → Int} {n : Nat}

theorem Conds.log (h : Conds a n) (k : Nat) (hk : k + 2 ≤ n) : (D a (k + 1)).natAbs ^ 2 ≤ 2 * (D a k).natAbs * (D a (k + 2)).natAbs := by
  have hne : ∀ m, m ≤ n → D a m ≠ 0 := fun m hm => by have := h.pos m hm; omega
  have h1 := sylvester a k (k + 1) (k + 1) fun m hm => hne m (by omega)
  rw [← D_succ, ← D_succ, B_symm h.sym k (fun m hm => hne m (by omega)) (by omega) k (k + 1) (by omega) (by omega)] at h1
  have h2 := sq_abs (h.sized k (k + 1) (by omega) (by omega))
  have h3 := Int.mul_le_mul_of_nonneg_left (h.lovasz k (by omega)) (Int.le_of_lt (h.pos (k + 1) (by omega)))
  have p0 := h.pos k (by omega)
  have p1 := h.pos (k + 1) (by omega)
  have p2 := h.pos (k + 2) (by omega)
  have h4 : D a (k + 1) * D a (k + 1) ≤ 2 * D a k * D a (k + 2) := by
    rw [show k + 1 + 1 = k + 2 from rfl] at h1
    generalize D a (k + 1) = y at *
    generalize D a k = x at *
    generalize D a (k + 2) = z at *
    generalize B a k (k + 1) k = l at *
    generalize B a k (k + 1) (k + 1) = b at *
    have e1 : y * (4 * b) = 4 * (y * b) := by grind
    have e2 : y * (3 * y) = 3 * (y * y) := by grind
    have e3 : 2 * x * z = 2 * (x * z) := by grind
    rw [e1, e2] at h3
    rw [e3]
    generalize y * b = yb at *
    generalize y * y = yy at *
    generalize x * z = xz at *
    generalize l * l = ll at *
    omega
  have e : ∀ m, m ≤ n → ((D a m).natAbs : Int) = D a m := fun m hm => Int.natAbs_of_nonneg (Int.le_of_lt (h.pos m hm))
  apply Int.ofNat_le.1
  rw [Int.natCast_pow, Int.natCast_mul, Int.natCast_mul, e _ (by omega), e _ (by omega), e _ (by omega)]
  rw [show D a (k + 1) ^ 2 = D a (k + 1) * D a (k + 1) from by grind]
  exact h4

theorem Conds.prod (h : Conds a n) (hn : n ≤ 8) (hd : (D a n).natAbs ≤ 10000) (k m : Nat) (hk : k ≤ m) (hm : m < n) : (D a k).natAbs * (D a (m + 1)).natAbs ≤ 163840000 * (D a m).natAbs :=
  Bound.product (d := fun k => (D a k).natAbs) (n := n) rfl (fun k hk => by have := h.pos k hk; show 1 ≤ (D a k).natAbs; omega) (fun k hk => h.log k hk) hn hd k m hk hm

theorem Conds.entry (h : Conds a n) (hn : n ≤ 8) (hd : (D a n).natAbs ≤ 10000) (i j : Nat) (hji : j ≤ i) (hi : i < n) : ∀ t k, k + t = j → ∀ k', k' ≤ k → (D a k').natAbs * (4 * (B a k i j).natAbs) ≤ (D a k).natAbs * (163840000 * (4 + t)) := by
  have hne : ∀ m, m ≤ n → D a m ≠ 0 := fun m hm => by have := h.pos m hm; omega
  intro t
  induction t with
  | zero =>
    intro k hk k' hk'
    obtain rfl : k = j := by omega
    have hb : (B a k i k).natAbs ≤ (D a (k + 1)).natAbs := by
      by_cases e : i = k
      · subst e; rw [D_succ]; exact Nat.le_refl _
      · have := h.sized k i (by omega) hi
        omega
    have h1 := Nat.mul_le_mul_left (D a k').natAbs hb
    have h2 := h.prod hn hd k' k hk' (by omega)
    rw [show (D a k').natAbs * (4 * (B a k i k).natAbs) = 4 * ((D a k').natAbs * (B a k i k).natAbs) from by grind, show (D a k).natAbs * (163840000 * (4 + 0)) = 4 * (163840000 * (D a k).natAbs) from by grind]
    omega
  | succ t ih =>
    intro k hk k' hk'
    have h1 := ih (k + 1) (by omega) k' (by omega)
    have h2 := h.prod hn hd k' k hk' (by omega)
    have h3 := sylvester a k i j fun m hm => hne m (by omega)
    rw [← D_succ, B_symm h.sym k (fun m hm => hne m (by omega)) (by omega) k j (by omega) (by omega)] at h3
    have s1 := h.sized k i (by omega) hi
    have s2 := h.sized k j (by omega) (by omega)
    have h4 : (D a (k + 1)).natAbs * (B a k i j).natAbs ≤ (D a k).natAbs * (B a (k + 1) i j).natAbs + (B a k i k).natAbs * (B a k j k).natAbs := by
      rw [← Int.natAbs_mul, ← Int.natAbs_mul, ← Int.natAbs_mul, ← h3]
      omega
    have h5 := Nat.mul_le_mul s1 s2
    have hp : 0 < (D a (k + 1)).natAbs := by have := h.pos (k + 1) (by omega); omega
    refine Nat.le_of_mul_le_mul_left (c := (D a (k + 1)).natAbs) ?_ hp
    generalize (D a (k + 1)).natAbs = y at *
    generalize (D a k).natAbs = x at *
    generalize (D a k').natAbs = u at *
    generalize (B a k i j).natAbs = b at *
    generalize (B a (k + 1) i j).natAbs = c at *
    generalize (B a k i k).natAbs = p at *
    generalize (B a k j k).natAbs = q at *
    -- y * (u * (4 b)) = 4 u (y b) <= 4 u (x c + p q) = x (u * 4 c) + u * (4 p q) <= x * (y * M(4+t)) + u y y
    have g1 := Nat.mul_le_mul_left (4 * u) h4
    have g2 := Nat.mul_le_mul_left x h1
    have g3 := Nat.mul_le_mul_left u h5
    have g4 := Nat.mul_le_mul_left y h2
    have e1 : y * (u * (4 * b)) = 4 * u * (y * b) := by grind
    have e2 : 4 * u * (x * c + p * q) = x * (u * (4 * c)) + u * (2 * p * (2 * q)) := by grind
    have e3 : y * (x * (163840000 * (4 + (t + 1)))) = x * (y * (163840000 * (4 + t))) + y * (163840000 * x) := by grind
    have e4 : u * (y * y) = y * (u * y) := by grind
    rw [e1, e3]
    rw [e2] at g1
    rw [e4] at g3
    omega

/-- THE ENTRIES OF ALL STAGES OF A REDUCED FORM are below 2^30. -/
theorem Conds.small (h : Conds a n) (hn : n ≤ 8) (hd : (D a n).natAbs ≤ 10000) (k i j : Nat) (hkj : k ≤ j) (hji : j ≤ i) (hi : i < n) : (B a k i j).natAbs < 1073741824 := by
  have h1 := h.entry hn hd i j hji hi (j - k) k (by omega) k (Nat.le_refl _)
  have hp : 0 < (D a k).natAbs := by have := h.pos k (by omega); omega
  have h2 := Nat.le_of_mul_le_mul_left h1 hp
  omega
end Go.Proofs.YtfpcfcegdjlggaaGreat.Minor
