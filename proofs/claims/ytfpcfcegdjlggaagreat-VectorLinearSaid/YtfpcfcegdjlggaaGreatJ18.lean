/-
  Joined texts: GR HB HC HD.
-/
import Derived.Test.YtfpcfcegdjlggaaGreatJ08
import Derived.Deep.LoopGhost
import Derived.Test.YtfpcfcegdjlggaaGreatJ17
import Derived.Test.YtfpcfcegdjlggaaGreatJ13
namespace Go.Proofs.YtfpcfcegdjlggaaGreat
open Go.RowKit

attribute [local go_sem ↓] Go.wp_at_zero Go.wp_at_succ

set_option maxRecDepth 100000 in
set_option maxHeartbeats 8000000 in
theorem rrem_any (na nb : Bool) (a b : Option Addr) (n m cap cap' : Nat) (xs ys : List Nat) (w : World) (rdx : Rd w a cap xs) (rdy : Rd w b cap' ys) (hl : xs.length = n) (hl' : ys.length = m) (hn : n ≤ 1000000) (hm : m ≤ 1000000) (h0 : den nb ys ≠ 0) :
    Calls Tryz.prog 151 #[.agg #[.bool na, .slice a n cap], .agg #[.bool nb, .slice b m cap']] w (GivesInt w (den na xs % den nb ys)) := by
  have hlx := rdx.lim
  have hly := rdy.lim
  obtain ⟨V, hV⟩ : ∃ V, V = (w.alloc (.cells #[.bool na, .slice a n cap] 51)).alloc (.cells #[.bool nb, .slice b m cap'] 51) := ⟨_, rfl⟩
  obtain ⟨W, hW⟩ : ∃ W, W = V.alloc (.cells #[.bool false, .slice none 0 0] 51) := ⟨_, rfl⟩
  have hb0 : Below w.heap.size w V := by rw [hV]; exact ((Below.refl _ _).alloc (Nat.le_refl _) _).alloc (by simp) _
  have hVs : V.heap.size = w.heap.size + 2 := by rw [hV]; simp
  have hWs : W.heap.size = w.heap.size + 3 := by rw [hW, World.size_alloc, hVs]
  have hx0 : Box w.heap.size (.bool na) (.slice a n cap) V := by rw [hV]; exact (Box.made _ _ rfl _ _ _).alloc _
  have hx1 : Box (w.heap.size + 1) (.bool nb) (.slice b m cap') V := by rw [hV]; exact Box.made _ _ (by simp) _ _ _
  have hxa : Box w.heap.size (.bool na) (.slice a n cap) W := by rw [hW]; exact hx0.alloc _
  have hxb : Box (w.heap.size + 1) (.bool nb) (.slice b m cap') W := by rw [hW]; exact hx1.alloc _
  have hy : Box (w.heap.size + 2) (.bool false) (.slice none 0 0) W := by rw [hW]; exact Box.made _ _ hVs.symm _ _ _
  have hra : Rd W a cap xs := by rw [hW]; exact (rdx.below hb0).alloc _
  have hrb : Rd W b cap' ys := by rw [hW]; exact (rdy.below hb0).alloc _
  have hWW : ((w.alloc (.cells #[.bool na, .slice a n cap] 51)).alloc (.cells #[.bool nb, .slice b m cap'] 51)).alloc (.cells #[.bool false, .slice none 0 0] 51) = W := by rw [hW, hV]
  have HWW := Lib.hid hWW
  have HW := Lib.hid hW
  have HVS := Lib.hid hVs
  have HWS := Lib.hid hWs
  have HB0 := Lib.hid hb0
  have HXA := Lib.hid hxa
  have HXB := Lib.hid hxb
  have HY := Lib.hid hy
  have HL := Lib.hid hl
  have HL' := Lib.hid hl'
  have HRA := Lib.hid hra
  have HRB := Lib.hid hrb
  clear hWs hV hW hVs hb0 hx0 hx1 hWW hl hl' rdx rdy hy hra hrb hxa hxb
  obtain ⟨R, hR⟩ : ∃ R, R = den na xs % den nb ys := ⟨_, rfl⟩
  rw [← hR]
  have HR := Lib.hid hR
  have H0 := Lib.hid h0
  obtain ⟨p0, p1, p2, p3, p4⟩ := HXA.out
  obtain ⟨q0, q1, q2, q3, q4⟩ := HXB.out
  clear hR h0
  go_enter Tryz.func151, Tryz.ntmps151
  go_wp2_with fail
  rw [HWW.out]
  go_wp2_with fail
  refine (rdivmod_pos na nb a b n m cap cap' xs ys _ HRA.out HRB.out HL.out HL'.out hn hm H0.out).mono ?_
  rintro e w3 ⟨qa, qc, ra, rc, rfl, hNq, hNr⟩
  rw [← HR.out] at hNr
  rw [← HR.out]
  obtain ⟨Q, hQ⟩ : ∃ Q, Q = den na xs / den nb ys := ⟨_, rfl⟩
  rw [← hQ]
  clear hQ
  obtain ⟨y0, y1, y2, y3, y4⟩ := HY.out.below hNr.below
  have y5 : w.heap.size + 2 < w3.heap.size + 1 := by omega
  have y6 : ¬w.heap.size + 2 = w3.heap.size := by omega
  have y7 : ¬w.heap.size + 2 = w3.heap.size + 1 := by omega
  have hN := hNr
  rw [HW.out] at hN
  have hN3 := new_result hN
  rw [HVS.out] at hN3
  have hfin := (New.before HB0.out (hN3 (.bool (sg R)) (.slice ra (mg R).length rc))).after (((Below.refl _ _).alloc (Nat.le_refl _) (Obj.cells #[Value.bool (sg Q), Value.slice qa (mg Q).length qc] 51)).alloc (by simp) (Obj.cells #[Value.bool (sg R), Value.slice ra (mg R).length rc] 51))
  have HF := Lib.hid hfin
  clear hNq hNr hN hN3 hfin p0 p1 p2 p3 p4 q0 q1 q2 q3 q4
  go_wp2_with fail
  refine bodyPost_ret (v := .agg #[.bool (sg R), .slice ra (mg R).length rc]) ?_ rfl ⟨ra, rc, rfl, ?_⟩
  · simp [results, Tryz.results151, go_sem, y0, y1, y4, y5]
  · exact HF.out

set_option maxRecDepth 100000 in
set_option maxHeartbeats 8000000 in
theorem rgcd_any (na nb : Bool) (a b : Option Addr) (n m cap cap' : Nat) (xs ys : List Nat) (w : World) (rdx : Rd w a cap xs) (rdy : Rd w b cap' ys) (hl : xs.length = n) (hl' : ys.length = m) (hn : n ≤ 1000000) (hm : m ≤ 1000000) :
    Calls Tryz.prog 147 #[.agg #[.bool na, .slice a n cap], .agg #[.bool nb, .slice b m cap']] w (GivesInt w (((Nat.gcd (val xs) (val ys) : Nat) : Int))) := by
  have hlx := rdx.lim
  have hly := rdy.lim
  obtain ⟨V, hV⟩ : ∃ V, V = (w.alloc (.cells #[.bool na, .slice a n cap] 51)).alloc (.cells #[.bool nb, .slice b m cap'] 51) := ⟨_, rfl⟩
  obtain ⟨W, hW⟩ : ∃ W, W = V.alloc (.cells #[.bool false, .slice none 0 0] 51) := ⟨_, rfl⟩
  have hb0 : Below w.heap.size w V := by rw [hV]; exact ((Below.refl _ _).alloc (Nat.le_refl _) _).alloc (by simp) _
  have hVs : V.heap.size = w.heap.size + 2 := by rw [hV]; simp
  have hWs : W.heap.size = w.heap.size + 3 := by rw [hW, World.size_alloc, hVs]
  have hx0 : Box w.heap.size (.bool na) (.slice a n cap) V := by rw [hV]; exact (Box.made _ _ rfl _ _ _).alloc _
  have hx1 : Box (w.heap.size + 1) (.bool nb) (.slice b m cap') V := by rw [hV]; exact Box.made _ _ (by simp) _ _ _
  have hxa : Box w.heap.size (.bool na) (.slice a n cap) W := by rw [hW]; exact hx0.alloc _
  have hxb : Box (w.heap.size + 1) (.bool nb) (.slice b m cap') W := by rw [hW]; exact hx1.alloc _
  have hy : Box (w.heap.size + 2) (.bool false) (.slice none 0 0) W := by rw [hW]; exact Box.made _ _ hVs.symm _ _ _
  have hra : Rd W a cap xs := by rw [hW]; exact (rdx.below hb0).alloc _
  have hrb : Rd W b cap' ys := by rw [hW]; exact (rdy.below hb0).alloc _
  have hWW : ((w.alloc (.cells #[.bool na, .slice a n cap] 51)).alloc (.cells #[.bool nb, .slice b m cap'] 51)).alloc (.cells #[.bool false, .slice none 0 0] 51) = W := by rw [hW, hV]
  have HWW := Lib.hid hWW
  have HW := Lib.hid hW
  have HVS := Lib.hid hVs
  have HWS := Lib.hid hWs
  have HB0 := Lib.hid hb0
  have HXA := Lib.hid hxa
  have HXB := Lib.hid hxb
  have HY := Lib.hid hy
  have HL := Lib.hid hl
  have HL' := Lib.hid hl'
  have HRA := Lib.hid hra
  have HRB := Lib.hid hrb
  clear hWs hV hW hVs hb0 hx0 hx1 hWW hl hl' rdx rdy hy hra hrb hxa hxb
  obtain ⟨G, hG⟩ : ∃ G, G = Nat.gcd (val xs) (val ys) := ⟨_, rfl⟩
  rw [← hG]
  have HG := Lib.hid hG
  have hxl : (mg ((val xs : Nat) : Int)).length ≤ 1000000 := by
    refine Nat.le_trans (length_limbs_le (k := n) ?_) hn
    simp only [Int.natAbs_natCast]; rw [← HL.out]; exact val_lt hlx
  have hyl : (mg ((val ys : Nat) : Int)).length ≤ 1000000 := by
    refine Nat.le_trans (length_limbs_le (k := m) ?_) hm
    simp only [Int.natAbs_natCast]; rw [← HL'.out]; exact val_lt hly
  have hw8 : w.heap.size + 3 ≤ W.heap.size := by rw [HWS.out]; omega
  have HXL := Lib.hid hxl
  have HYL := Lib.hid hyl
  clear hG hxl hyl
  go_enter Tryz.func147, Tryz.ntmps147
  go_wp2_with fail
  rw [HWW.out]
  have hdz : Hid (W.heap.size = W.drew.heap.size) := Lib.hid rfl
  have hdz2 : Hid (W.heap.size + 1 = (W.alloc (Obj.cells #[Value.bool false, Value.slice none 0 0] 51)).heap.size) := Lib.hid (by simp)
  go_cut [5, 6] from 7 (fun q r wx => ∃ (gq gr : Nat) (qa : Option Addr) (qc : Nat) (ra : Option Addr) (rc : Nat), q = .pointer (some ⟨gq, 0, none⟩) ∧ r = .pointer (some ⟨gr, 0, none⟩) ∧ gq ≠ gr ∧ W.heap.size ≤ gq ∧ W.heap.size ≤ gr ∧ Box gq (.bool (sg (den false xs))) (.slice qa (mg (den false xs)).length qc) wx ∧ Box gr (.bool (sg (den false ys))) (.slice ra (mg (den false ys)).length rc) wx ∧ Apart W.heap.size gq gr (mg (den false xs)) qa qc wx ∧ Apart W.heap.size gq gr (mg (den false ys)) ra rc wx ∧ Below W.heap.size W wx)
  case first =>
    go_region_held3 (fun w' => w'.cell? ⟨w.heap.size, 0, none⟩ = some (.bool na) ∧ w'.cell? ⟨w.heap.size, 1, none⟩ = some (.slice a n cap) ∧ w'.cell? ⟨w.heap.size + 1, 0, none⟩ = some (.bool nb) ∧ w'.cell? ⟨w.heap.size + 1, 1, none⟩ = some (.slice b m cap') ∧ Below W.heap.size W w')
      (first | with_reducible exact two_draw HXA.out HXB.out | with_reducible exact two_of HXA.out HXB.out hb11 | with_reducible exact two_of HXA.out HXB.out hb10 | with_reducible exact two_alloc HXA.out HXB.out _ (by assumption) | (refine two_of HXA.out HXB.out ?_; repeat (first | with_reducible exact hb11 | with_reducible exact hb10 | with_reducible exact Below.refl _ _ | with_reducible refine Below.drew ?_ | with_reducible refine Below.alloc ?_ ?_ _ | with_reducible refine Below.setCell ?_ ?_ _ | omega | (simp only [World.size_alloc]; omega) | (simp; omega))))
      ((first
        | (go_at_call 121; have hby := two_below (W := W) (by assumption); have hq := two_rd HRA.out (by assumption); have hq2 := rabs_any na a n cap xs _ hq HL.out (by omega); (with_reducible refine hq2.mono ?_); clear hq hq2; rintro e w10 ⟨a10, c10, rfl, hN10⟩; have hb10 : Below W.heap.size W w10 := below_step hby hN10.below; have hs10 := hb10.size; have hz10 := hN10.below.size
           (first
            | (have e1 : Box (W.heap.size) (.bool false) (.slice none 0 0) w10 := (by with_reducible exact (((Box.made W W.heap.size rfl (.bool false) (.slice none 0 0) 51).alloc (Obj.cells #[Value.bool false, Value.slice none 0 0] 51)).below (Below.refl _ _).drew).below hN10.below); have s1 := e1.size; have e2 : Box (W.heap.size + 1) (.bool false) (.slice none 0 0) w10 := (by with_reducible exact ((Box.made (W.alloc (Obj.cells #[Value.bool false, Value.slice none 0 0] 51)) (W.heap.size + 1) hdz2.out (.bool false) (.slice none 0 0) 51).below (Below.refl _ _).drew).below hN10.below); have s2 := e2.size)
            | (have e1 : Box (W.heap.size) (.bool false) (.slice none 0 0) w10 := (by with_reducible exact ((Box.made W W.heap.size rfl (.bool false) (.slice none 0 0) 51).below (Below.refl _ _).drew).below hN10.below); have s1 := e1.size)
            | skip))
        | (go_at_call 121; have hby := two_below (W := W) (by assumption); have hq := two_rd HRB.out (by assumption); have hq2 := rabs_any nb b m cap' ys _ hq HL'.out (by omega); (with_reducible refine hq2.mono ?_); clear hq hq2; rintro e w11 ⟨a11, c11, rfl, hN11⟩; have hb11 : Below W.heap.size W w11 := below_step hby hN11.below; have hs11 := hb11.size; have hz11 := hN11.below.size
           (first
            | (have f1 : Box (w10.heap.size) (.bool false) (.slice none 0 0) w11 := (by with_reducible exact ((Box.made w10 w10.heap.size rfl (.bool false) (.slice none 0 0) 51).alloc (Obj.cells #[Value.bool false, Value.slice none 0 0] 51)).below hN11.below); have f2 : Box (w10.heap.size + 1) (.bool false) (.slice none 0 0) w11 := (by with_reducible exact (Box.made (w10.alloc (Obj.cells #[Value.bool false, Value.slice none 0 0] 51)) (w10.heap.size + 1) (by simp) (.bool false) (.slice none 0 0) 51).below hN11.below); have n1 : w10.heap.size ≠ w10.heap.size + 1 := (by omega); have n2 := Ne.symm n1; have f1' := f1; have f2' := f2; obtain ⟨b0, b1, b2, b3, b4⟩ := f1'; obtain ⟨d0, d1, d2, d3, d4⟩ := f2')
            | (have f1 : Box (W.heap.size) (.bool false) (.slice none 0 0) w11 := (by with_reducible exact (e1.alloc (Obj.cells #[Value.bool false, Value.slice none 0 0] 51)).below hN11.below); have f2 : Box (w10.heap.size) (.bool false) (.slice none 0 0) w11 := (by with_reducible exact (Box.made w10 w10.heap.size rfl (.bool false) (.slice none 0 0) 51).below hN11.below); have n0 := e1.size; have n1 : W.heap.size ≠ w10.heap.size := (by omega); have n2 := Ne.symm n1; have f1' := f1; have f2' := f2; obtain ⟨b0, b1, b2, b3, b4⟩ := f1'; obtain ⟨d0, d1, d2, d3, d4⟩ := f2')
            | (have f1 : Box (w10.heap.size) (.bool false) (.slice none 0 0) w11 := (by with_reducible exact (Box.made w10 w10.heap.size rfl (.bool false) (.slice none 0 0) 51).below hN11.below); have f1' := f1; obtain ⟨b0, b1, b2, b3, b4⟩ := f1')
            | (have f1 : Box (W.heap.size) (.bool false) (.slice none 0 0) w11 := (by with_reducible exact e1.below hN11.below); have f2 : Box (W.heap.size + 1) (.bool false) (.slice none 0 0) w11 := (by with_reducible exact e2.below hN11.below); have n1 : W.heap.size ≠ W.heap.size + 1 := (by omega); have n2 := Ne.symm n1; have f1' := f1; have f2' := f2; obtain ⟨b0, b1, b2, b3, b4⟩ := f1'; obtain ⟨d0, d1, d2, d3, d4⟩ := f2')
            | (have f1 : Box (W.heap.size) (.bool false) (.slice none 0 0) w11 := (by with_reducible exact e1.below hN11.below); have f1' := f1; obtain ⟨b0, b1, b2, b3, b4⟩ := f1')
            | skip))))
    all_goals go_wp2_with fail
    all_goals go_meet
    all_goals refine ⟨_, _, a10, c10, a11, c11, rfl, rfl, ?_, ?_, ?_, ?_, ?_, ?_, ?_, ?_⟩
    all_goals first
      | omega
      | ((repeat (first | with_reducible exact hb11 | with_reducible refine Below.alloc ?_ ?_ _ | with_reducible refine Below.setCell ?_ ?_ _ | omega | (simp only [World.size_alloc]; omega) | (simp; omega))); done)
      | ((repeat (first | with_reducible assumption | with_reducible exact Box.made _ _ (by first | rfl | simp) _ _ _ | with_reducible refine Box.alloc ?_ _ | with_reducible refine Box.stored (u := .bool false) (v := .slice none 0 0) ?_ _ _ | with_reducible refine Box.other ?_ (by first | omega | (simp <;> omega)) _ _)); done)
      | ((repeat (first | with_reducible exact Apart.of_new hN10 (by first | omega | (simp <;> omega)) (by first | omega | (simp <;> omega)) (by first | omega | (simp <;> omega)) | with_reducible refine Apart.below ?_ hN11.below | with_reducible refine Apart.alloc ?_ _ | with_reducible refine Apart.store1 ?_ _ _ | with_reducible refine Apart.store2 ?_ _ _)); done)
      | ((repeat (first | with_reducible exact Apart.of_new hN11 (by first | omega | (simp <;> omega)) (by first | omega | (simp <;> omega)) (by first | omega | (simp <;> omega)) | with_reducible refine Apart.alloc ?_ _ | with_reducible refine Apart.store1 ?_ _ _ | with_reducible refine Apart.store2 ?_ _ _)); done)
  case rest =>
  obtain ⟨gx, gy, xa, xc, ya, yc, rfl, rfl, hne, hgx, hgy, hBX, hBY, hAX, hAY, hBw⟩ := hcut
  have dx : den false xs = ((val xs : Nat) : Int) := rfl
  have dy : den false ys = ((val ys : Nat) : Int) := rfl
  rw [dx] at hBX hAX
  rw [dy] at hBY hAY
  clear dx dy
  go_wp2_with fail
  go_loopg [] (val ys) (fun gn wr => ∃ (u v : Nat) (xa : Option Addr) (xc : Nat) (ya : Option Addr) (yc : Nat), Box gx (.bool (sg (u : Int))) (.slice xa (mg (u : Int)).length xc) wr ∧ Box gy (.bool (sg (v : Int))) (.slice ya (mg (v : Int)).length yc) wr ∧ Apart W.heap.size gx gy (mg (u : Int)) xa xc wr ∧ Apart W.heap.size gx gy (mg (v : Int)) ya yc wr ∧ Hid (gn = v) ∧ Hid (Nat.gcd u v = G) ∧ (mg (u : Int)).length ≤ 1000000 ∧ (mg (v : Int)).length ≤ 1000000 ∧ Below W.heap.size W wr)
  case atStart => exact ⟨val xs, val ys, xa, xc, ya, yc, hBX, hBY, hAX, hAY, rfl, HG.out.symm, HXL.out, HYL.out, hBw⟩
  case round =>
    clear hBX hBY hAX hAY hBw
    obtain ⟨u, v, ua, uc, va, vc, hX, hYb, hAu, hAv, hg, hgc, hul, hvl, hB⟩ := hrel
    have HXb := Lib.hid hX
    have HYb := Lib.hid hYb
    have HAU := Lib.hid hAu
    have HAV := Lib.hid hAv
    have HB := Lib.hid hB
    clear hAu hAv hB hX
    obtain ⟨q0, q1, q2, q3, q4⟩ := hYb
    by_cases h0 : v = 0
    · have hs : (sign3 ((v : Nat) : Int) != 0) = false := by subst h0; rfl
      have he : Hid (u = G) := Lib.hid (by rw [← hgc.out, h0, Nat.gcd_zero_right])
      have HV0 := Lib.hid h0
      clear h0
      go_wp2_with fail
      refine (rsign_any (sg (v : Int)) va _ vc (mg (v : Int)) _ HAV.out.rd rfl (by omega)).mono ?_
      rw [den_mg]
      rintro e w2 ⟨rfl, hb2⟩
      obtain ⟨p0, p1, p2, p3, p4⟩ := HXb.out.below hb2
      have hBw2 := HB.out.trans (hb2.mono HB.out.size)
      obtain ⟨y0, y1, y2, y3, y4⟩ := HY.out.below hBw2
      have hN : New W (mg (u : Int)) ua uc w2 := (HAU.out.below hb2).to_new (Nat.le_refl _) hBw2
      rw [HW.out] at hN
      have hN3 := new_result hN
      rw [HVS.out] at hN3
      have hfin := New.before HB0.out (hN3 (.bool (sg (u : Int))) (.slice ua (mg (u : Int)).length uc))
      have HF := Lib.hid hfin
      clear hN hN3 hfin q0 q1 q2 q3 q4 hb2 hBw2
      go_wp2_with fail
      refine bodyPost_ret (v := .agg #[.bool (sg (u : Int)), .slice ua (mg (u : Int)).length uc]) ?_ rfl ⟨ua, uc, by rw [he.out], by rw [← he.out]; exact HF.out⟩
      simp [results, Tryz.results147, go_sem, y0, y1]
    · have hs : (sign3 ((v : Nat) : Int) != 0) = true := by unfold sign3; rw [if_neg (by omega), if_neg (by omega)]; rfl
      obtain ⟨r, hr⟩ : ∃ r, r = u % v := ⟨_, rfl⟩
      have hlt : r < v := by rw [hr]; exact Nat.mod_lt _ (by omega)
      have hgc2 : Nat.gcd v r = G := by rw [hr, ← hgc.out, Nat.gcd_comm u v, Nat.gcd_rec v u, Nat.gcd_comm]
      have hri : (u : Int) % (v : Int) = (r : Int) := by rw [hr]; simp
      have hrl : (mg (r : Int)).length ≤ 1000000 := Nat.le_trans (length_limbs_le (k := (mg (v : Int)).length) (by simp only [Int.natAbs_natCast]; exact Nat.lt_trans hlt (lt_of_length_limbs (by unfold mg; simp)))) hvl
      have HRI := Lib.hid hri
      have HGC := Lib.hid hgc2
      have HV0 : Hid ((v : Int) ≠ 0) := Lib.hid (by omega)
      clear hr hgc2 hri h0
      go_wp2_with fail
      refine (rsign_any (sg (v : Int)) va _ vc (mg (v : Int)) _ HAV.out.rd rfl (by omega)).mono ?_
      rw [den_mg]
      rintro e w2 ⟨rfl, hb2⟩
      have hx2 := HXb.out.below hb2
      have hy2 := HYb.out.below hb2
      have HX2 := Lib.hid hx2
      have HY2 := Lib.hid hy2
      have HAU2 := Lib.hid (HAU.out.below hb2)
      have HAV2 := Lib.hid (HAV.out.below hb2)
      have HB2 := Lib.hid (HB.out.trans (hb2.mono HB.out.size))
      clear q0 q1 q2 q3 q4 hb2
      obtain ⟨p0, p1, p2, p3, p4⟩ := hx2
      obtain ⟨q0, q1, q2, q3, q4⟩ := hy2
      have hne2 := Ne.symm hne
      go_wp2_with fail
      go_region_with ((go_at_call 151; refine (rrem_any (sg (u : Int)) (sg (v : Int)) ua va _ _ uc vc (mg (u : Int)) (mg (v : Int)) _ (HAU2.out.rd.below (Below.refl _ _).drew) (HAV2.out.rd.below (Below.refl _ _).drew) rfl rfl hul hvl (by rw [den_mg]; exact HV0.out)).mono ?_; rw [den_mg, den_mg, HRI.out]; rintro e w3 ⟨a3, c3, rfl, hN3⟩; have hb3 : Below w2.heap.size w2 w3 := (Below.refl _ _).drew.trans hN3.below; have hx3 := HX2.out.below hb3; have hy3 := HY2.out.below hb3; obtain ⟨m0, m1, m2, m3, m4⟩ := hx3; obtain ⟨o0, o1, o2, o3, o4⟩ := hy3))
      all_goals
        have hs2 := HB2.out.size
        have h1 := ((HX2.out.below hb3).stored (.bool (sg (v : Int))) (.slice va (mg (v : Int)).length vc)).other hne (.bool (sg (r : Int))) (.slice a3 (mg (r : Int)).length c3)
        have h2 := ((HY2.out.below hb3).other hne2 (.bool (sg (v : Int))) (.slice va (mg (v : Int)).length vc)).stored (.bool (sg (r : Int))) (.slice a3 (mg (r : Int)).length c3)
        have h3 := ((((HAV2.out.below hb3).store1 0 (.bool (sg (v : Int)))).store1 1 (.slice va (mg (v : Int)).length vc)).store2 0 (.bool (sg (r : Int)))).store2 1 (.slice a3 (mg (r : Int)).length c3)
        have h4 : Apart W.heap.size gx gy (mg (r : Int)) a3 c3 _ := ((((Apart.of_new hN3 (by simpa using hs2) (.inl (by simpa using p4)) (.inl (by simpa using q4))).store1 0 (.bool (sg (v : Int)))).store1 1 (.slice va (mg (v : Int)).length vc)).store2 0 (.bool (sg (r : Int)))).store2 1 (.slice a3 (mg (r : Int)).length c3)
        have h5 := bel_store (bel_store (HB2.out.trans (hb3.mono HB2.out.size)) gx hgx (.bool (sg (v : Int))) (.slice va (mg (v : Int)).length vc)) gy hgy (.bool (sg (r : Int))) (.slice a3 (mg (r : Int)).length c3)
        have H1 := Lib.hid h1
        have H2 := Lib.hid h2
        have H3 := Lib.hid h3
        have H4 := Lib.hid h4
        have H5 := Lib.hid h5
        clear h1 h2 h3 h4 h5 hb3 hN3
        go_wp2_with fail
        go_roundg r
      all_goals first
        | exact ⟨v, r, va, vc, a3, c3, H1.out, H2.out, H3.out, H4.out, rfl, HGC.out, hvl, hrl, H5.out⟩
        | (rw [hg.out]; exact hlt)
end Go.Proofs.YtfpcfcegdjlggaaGreat
namespace Go.Proofs.YtfpcfcegdjlggaaGreat
open Go.RowKit

/-- The same with true behind it. -/
def GivesRT (w : World) (x y : Int) (e : Ending) (w' : World) : Prop :=
  ∃ a c b d, e = .returned (.tuple #[.agg #[.bool (sg x), .slice a (mg x).length c, .bool (sg y), .slice b (mg y).length d], .bool true]) ∧ Lm w' a c (mg x) ∧ Lm w' b d (mg y) ∧ Below w.heap.size w w'

/-- The greatest common divisor of two Ints. -/
def gcdI (x y : Int) : Int := ((Nat.gcd x.natAbs y.natAbs : Nat) : Int)

theorem val_mg (z : Int) : val (mg z) = z.natAbs := by unfold mg; rw [val_limbs]

theorem gcdZ {x y : Int} {a b : Option Addr} {c d : Nat} {w : World} (hx : Lm w a c (mg x)) (hy : Lm w b d (mg y)) (lx : (mg x).length ≤ 1000000) (ly : (mg y).length ≤ 1000000) :
    Calls Tryz.prog 147 #[.agg #[.bool (sg x), .slice a (mg x).length c], .agg #[.bool (sg y), .slice b (mg y).length d]] w (GivesZ w (gcdI x y)) := by
  have h := rgcd_any (sg x) (sg y) a b _ _ c d (mg x) (mg y) w hx.rd hy.rd rfl rfl (by omega) (by omega)
  rw [val_mg, val_mg] at h
  exact h.mono fun e w' => GivesInt.z

theorem gcdI_pos {x y : Int} (h : 0 < y) : 0 < gcdI x y := by
  unfold gcdI
  have := Nat.gcd_pos_of_pos_right x.natAbs (show 0 < y.natAbs by omega)
  omega
theorem gcdI_left (x y : Int) : gcdI x y ∣ x := by
  unfold gcdI
  exact Int.ofNat_dvd_left.2 (Nat.gcd_dvd_left _ _)
theorem gcdI_right (x y : Int) : gcdI x y ∣ y := by
  unfold gcdI
  exact Int.ofNat_dvd_left.2 (Nat.gcd_dvd_right _ _)

/-- A divisor has no more limbs. -/
theorem mg_dvd_len {g y : Int} {n : Nat} (h : g ∣ y) (hy : y ≠ 0) (hl : (mg y).length ≤ n) : (mg g).length ≤ n := by
  refine Nat.le_trans (length_limbs_le (k := (mg y).length) ?_) hl
  have h1 : g.natAbs ≤ y.natAbs := Nat.le_of_dvd (by omega) (Int.natAbs_dvd_natAbs.2 h)
  have h2 := val_lt (Lim_limbs y.natAbs)
  rw [val_limbs] at h2
  exact Nat.lt_of_le_of_lt h1 h2

/-- Three boxes that are kept while the block R is written. -/
abbrev Kp3 (A B G R : Nat) (u0 u1 v0 v1 x0 x1 : Value) (V v : World) : Prop := v.cell? ⟨A, 0, none⟩ = some u0 ∧ v.cell? ⟨A, 1, none⟩ = some u1 ∧ v.cell? ⟨B, 0, none⟩ = some v0 ∧ v.cell? ⟨B, 1, none⟩ = some v1 ∧ v.cell? ⟨G, 0, none⟩ = some x0 ∧ v.cell? ⟨G, 1, none⟩ = some x1 ∧ Below R V v

section
variable {A B G R : Nat} {u0 u1 v0 v1 x0 x1 : Value} {V v v' : World}
theorem kp3_draw (hA : Box A u0 u1 V) (hB : Box B v0 v1 V) (hG : Box G x0 x1 V) (hR : R ≤ V.heap.size) : Kp3 A B G R u0 u1 v0 v1 x0 x1 V V.drew := ⟨hA.c0, hA.c1, hB.c0, hB.c1, hG.c0, hG.c1, (Below.refl _ _).drew.mono hR⟩
theorem kp3_call (hR : R ≤ V.heap.size) (hs : Kp3 A B G R u0 u1 v0 v1 x0 x1 V v) (hb : Below v.heap.size v v') : Kp3 A B G R u0 u1 v0 v1 x0 x1 V v' := by
  obtain ⟨h0, h1, h2, h3, h4, h5, h6⟩ := hs
  exact ⟨cell_keep hb h0, cell_keep hb h1, cell_keep hb h2, cell_keep hb h3, cell_keep hb h4, cell_keep hb h5, h6.trans (hb.mono (Nat.le_trans hR h6.size))⟩
theorem kp3_store (hA : A ≠ R) (hB : B ≠ R) (hG : G ≠ R) (hs : Kp3 A B G R u0 u1 v0 v1 x0 x1 V v) (y0 y1 y2 y3 : Value) : Kp3 A B G R u0 u1 v0 v1 x0 x1 V (setR v R y0 y1 y2 y3) := by
  obtain ⟨h0, h1, h2, h3, h4, h5, h6⟩ := hs
  have key : ∀ (C o : Nat) (u : Value), C ≠ R → v.cell? ⟨C, o, none⟩ = some u → (setR v R y0 y1 y2 y3).cell? ⟨C, o, none⟩ = some u := fun C o u hC h => by
    rw [World.cell?_setCell_other _ _ _ _ (by simp), World.cell?_setCell_other _ _ _ _ (by simp), World.cell?_setCell_other _ _ _ _ (by simp), World.cell?_setCell_other _ _ _ _ (by simp)]; exact h
  exact ⟨key _ _ _ hA h0, key _ _ _ hA h1, key _ _ _ hB h2, key _ _ _ hB h3, key _ _ _ hG h4, key _ _ _ hG h5, (((h6.setCell (p := ⟨R, 0, none⟩) (Nat.le_refl _) _).setCell (p := ⟨R, 1, none⟩) (Nat.le_refl _) _).setCell (p := ⟨R, 2, none⟩) (Nat.le_refl _) _).setCell (p := ⟨R, 3, none⟩) (Nat.le_refl _) _⟩
end

set_option maxRecDepth 100000 in
set_option maxHeartbeats 4000000 in
theorem rnew_pos {x y : Int} {a b : Option Addr} {c d : Nat} {w : World} (hx : Lm w a c (mg x)) (hy : Lm w b d (mg y)) (lx : (mg x).length ≤ 1000000) (ly : (mg y).length ≤ 1000000) (h0 : 0 < y) :
    Calls Tryz.prog 139 #[.agg #[.bool (sg x), .slice a (mg x).length c], .agg #[.bool (sg y), .slice b (mg y).length d]] w (GivesRT w (x / gcdI x y) (y / gcdI x y)) := by
  obtain ⟨W, hW⟩ : ∃ W, W = ((w.alloc (.cells #[.bool (sg x), .slice a (mg x).length c] 51)).alloc (.cells #[.bool (sg y), .slice b (mg y).length d] 51)).alloc (.cells #[.bool false, .slice none 0 0, .bool false, .slice none 0 0] 140) := ⟨_, rfl⟩
  have hbW : Below w.heap.size w W := by rw [hW]; exact (((Below.refl _ _).alloc (Nat.le_refl _) _).alloc (by simp) _).alloc (by simp; omega) _
  have hxa : Hid (Box w.heap.size (.bool (sg x)) (.slice a (mg x).length c) W) := by rw [hW]; exact ((Box.made _ _ rfl _ _ _).alloc _).alloc _
  have hxb : Hid (Box (w.heap.size + 1) (.bool (sg y)) (.slice b (mg y).length d) W) := by rw [hW]; exact (Box.made _ _ (by simp) _ _ _).alloc _
  have hres : Hid (BoxR (w.heap.size + 2) (.bool false) (.slice none 0 0) (.bool false) (.slice none 0 0) W) := by rw [hW]; exact BoxR.made _ _ (by simp) _ _ _ _ _
  have hWs : Hid (W.heap.size = w.heap.size + 3) := by rw [hW]; simp [Hid]
  have HWW : Hid (((w.alloc (.cells #[.bool (sg x), .slice a (mg x).length c] 51)).alloc (.cells #[.bool (sg y), .slice b (mg y).length d] 51)).alloc (.cells #[.bool false, .slice none 0 0, .bool false, .slice none 0 0] 140) = W) := hW.symm
  have HLX := Lib.hid (hx.below hbW)
  have HLY := Lib.hid (hy.below hbW)
  have HBW := Lib.hid hbW
  obtain ⟨g, hg⟩ : ∃ g, g = gcdI x y := ⟨_, rfl⟩
  have hg0 : 0 < g := by rw [hg]; exact gcdI_pos h0
  have k1 : Hid ((mg x).length ≤ 1000000) := lx
  have k2 : Hid ((mg y).length ≤ 1000000) := ly
  have k3 : Hid ((mg g).length ≤ 1000000) := mg_dvd_len (by rw [hg]; exact gcdI_right x y) (by omega) ly
  have HG := Lib.hid hg
  have HG0 : Hid (g ≠ 0) := by unfold Hid; omega
  have s0 : (sign3 y == 0) = false := by unfold sign3; rw [if_neg (by omega), if_neg (by omega)]; rfl
  have s1 : decide (sign3 y < 0) = false := by unfold sign3; rw [if_neg (by omega), if_neg (by omega)]; rfl
  rw [← hg]
  clear hW hbW hx hy lx ly h0 hg hg0
  obtain ⟨p0, p1, p2, p3, p4⟩ := hxb.out
  go_enter Tryz.func139, Tryz.ntmps139
  go_wp2_with fail
  rw [HWW.out]
  go_wp2_with fail
  refine (signZ HLY.out k2.out).mono ?_
  rintro e w1 ⟨rfl, hb1⟩
  have HB1 := Lib.hid hb1
  obtain ⟨q0, q1, q2, q3, q4⟩ := hxb.out.below hb1
  clear hb1
  go_wp2_with fail
  refine (signZ (HLY.out.below HB1.out) k2.out).mono ?_
  rintro e w2 ⟨rfl, hb2⟩
  have HB2 : Hid (Below W.heap.size W w2) := HB1.out.trans (hb2.mono HB1.out.size)
  obtain ⟨r0, r1, r2, r3, r4⟩ := hxb.out.below HB2.out
  obtain ⟨v0, v1, v2, v3, v4⟩ := hxa.out.below HB2.out
  clear hb2 p0 p1 p2 p3 p4 q0 q1 q2 q3 q4
  go_wp2_with fail
  refine (gcdZ (HLX.out.below HB2.out) (HLY.out.below HB2.out) k1.out k2.out).mono ?_
  rw [← HG.out]
  rintro e w3 ⟨a3, c3, rfl, hr3, hb3⟩
  have hB3 : Below W.heap.size W w3 := HB2.out.trans (hb3.mono HB2.out.size)
  obtain ⟨V, hV⟩ : ∃ V, V = w3.alloc (.cells #[.bool (sg g), .slice a3 (mg g).length c3] 51) := ⟨_, rfl⟩
  have hbV : Below w3.heap.size w3 V := by rw [hV]; exact (Below.refl _ _).alloc (Nat.le_refl _) _
  have hBx : Hid (Box w3.heap.size (.bool (sg g)) (.slice a3 (mg g).length c3) V) := by rw [hV]; exact Box.made _ _ rfl _ _ _
  have HBV : Hid (Below W.heap.size W V) := hB3.trans (hbV.mono hB3.size)
  have HLG := Lib.hid (hr3.below hbV)
  have hBA := Lib.hid (hxa.out.below HBV.out)
  have hBB := Lib.hid (hxb.out.below HBV.out)
  have HVV : Hid (w3.alloc (.cells #[.bool (sg g), .slice a3 (mg g).length c3] 51) = V) := hV.symm
  have hs3 : w.heap.size + 2 < w3.heap.size := by have := hB3.size; have := hWs.out; omega
  have HLXV := Lib.hid (HLX.out.below HBV.out)
  have HLYV := Lib.hid (HLY.out.below HBV.out)
  clear hr3 hb3 hB3 hV hbV HB1 HB2 r0 r1 r2 r3 r4 v0 v1 v2 v3 v4
  have hRV : w.heap.size + 2 ≤ V.heap.size := by have := HBV.out.size; have := hWs.out; omega
  have hbD : Hid (Below V.heap.size V V.drew) := (Below.refl _ _).drew
  go_wp2_with fail
  rw [HVV.out]
  go_region_held3 (fun w' => w'.cell? ⟨w.heap.size, 0, none⟩ = some (.bool (sg x)) ∧ w'.cell? ⟨w.heap.size, 1, none⟩ = some (.slice a (mg x).length c) ∧ w'.cell? ⟨w.heap.size + 1, 0, none⟩ = some (.bool (sg y)) ∧ w'.cell? ⟨w.heap.size + 1, 1, none⟩ = some (.slice b (mg y).length d) ∧ w'.cell? ⟨w3.heap.size, 0, none⟩ = some (.bool (sg g)) ∧ w'.cell? ⟨w3.heap.size, 1, none⟩ = some (.slice a3 (mg g).length c3) ∧ Below (w.heap.size + 2) V w')
    (first | with_reducible exact kp3_draw hBA.out hBB.out hBx.out hRV | with_reducible exact kp3_call hRV (by assumption) hb5 | with_reducible exact kp3_call hRV (by assumption) hb4 | with_reducible exact kp3_store (by omega) (by omega) (by omega) (by assumption) _ _ _ _)
    ((first
      | (go_at_call 117; have hq := quoZ (HLXV.out.below hbD.out) (HLG.out.below hbD.out) k1.out k3.out HG0.out; (with_reducible refine hq.mono ?_); clear hq; rintro e w4 ⟨a4, c4, rfl, hr4, hb4⟩; have hB4 : Below V.heap.size V w4 := hbD.out.trans (hb4.mono hbD.out.size))
      | (go_at_call 117; have hq := quoZ (HLYV.out.below hB4) (HLG.out.below hB4) k2.out k3.out HG0.out; (with_reducible refine hq.mono ?_); clear hq; rintro e w5 ⟨a5, c5, rfl, hr5, hb5⟩; have hB5 : Below V.heap.size V w5 := hB4.trans (hb5.mono hB4.size); obtain ⟨t0, t1, t2, t3, t4, t5⟩ := hres.out.below (HBV.out.trans (hB5.mono HBV.out.size)))))
  have hBr := hres.out.below (HBV.out.trans (hB5.mono HBV.out.size))
  have HL4 := Lib.hid (setR_lm (hr4.below hb5) hBr (.bool (sg (x / g))) (.slice a4 (mg (x / g)).length c4) (.bool (sg (y / g))) (.slice a5 (mg (y / g)).length c5))
  have HL5 := Lib.hid (setR_lm hr5 hBr (.bool (sg (x / g))) (.slice a4 (mg (x / g)).length c4) (.bool (sg (y / g))) (.slice a5 (mg (y / g)).length c5))
  have HBF := Lib.hid (setR_bel (G := w.heap.size + 2) (HBW.out.trans ((HBV.out.trans (hB5.mono HBV.out.size)).mono HBW.out.size)) (by omega) (.bool (sg (x / g))) (.slice a4 (mg (x / g)).length c4) (.bool (sg (y / g))) (.slice a5 (mg (y / g)).length c5))
  clear hr4 hr5 hb4 hb5 hB4 hB5 hBr
  go_wp2_with fail
  refine bodyPost_ret (v := .tuple #[.agg #[.bool (sg (x / g)), .slice a4 (mg (x / g)).length c4, .bool (sg (y / g)), .slice a5 (mg (y / g)).length c5], .bool true]) ?_ rfl ?_
  · simp [results, Tryz.results139, go_sem, t0, t1, t2, t3]
  · exact ⟨a4, c4, a5, c5, rfl, HL4.out, HL5.out, HBF.out⟩
end Go.Proofs.YtfpcfcegdjlggaaGreat
namespace Go.Proofs.YtfpcfcegdjlggaaGreat
open Go.RowKit

/-- X / Y is the quotient x / y, and its parts are no greater. -/
structure Reds (X Y x y : Int) : Prop where
  pos : 0 < Y
  eq : X * y = x * Y
  num : X.natAbs ≤ x.natAbs
  den : Y ≤ y

theorem reds_gcd {x y : Int} (h : 0 < y) : Reds (x / gcdI x y) (y / gcdI x y) x y := by
  have hg := gcdI_pos (x := x) h
  obtain ⟨u, hu⟩ := gcdI_left x y
  obtain ⟨v, hv⟩ := gcdI_right x y
  generalize gcdI x y = g at *
  have e1 : x / g = u := by rw [hu]; exact Int.mul_ediv_cancel_left u (by omega)
  have e2 : y / g = v := by rw [hv]; exact Int.mul_ediv_cancel_left v (by omega)
  rw [e1, e2]
  have hv0 : 0 < v := by
    rcases Int.lt_or_le 0 v with h1 | h1
    · exact h1
    · have := Int.mul_nonpos_of_nonneg_of_nonpos (Int.le_of_lt hg) h1
      omega
  refine ⟨hv0, ?_, ?_, ?_⟩
  · rw [hu, hv]; grind
  · rw [hu, Int.natAbs_mul]
    exact Nat.le_mul_of_pos_left _ (by omega)
  · rw [hv]
    have := Int.mul_le_mul_of_nonneg_right (show (1 : Int) ≤ g by omega) (Int.le_of_lt hv0)
    omega

theorem Reds.trans {X Y x y X' Y' : Int} (h : Reds X' Y' X Y) (h' : Reds X Y x y) : Reds X' Y' x y := by
  refine ⟨h.pos, ?_, Nat.le_trans h.num h'.num, Int.le_trans h.den h'.den⟩
  have e1 := h.eq
  have e2 := h'.eq
  have hp := h'.pos
  refine Int.eq_of_mul_eq_mul_right (a := Y) (by omega) ?_
  calc X' * y * Y = X' * Y * y := by grind
    _ = X * Y' * y := by rw [e1]
    _ = X * y * Y' := by grind
    _ = x * Y * Y' := by rw [e2]
    _ = x * Y' * Y := by grind

theorem Reds.floor {X Y x y : Int} (h : Reds X Y x y) (hy : 0 < y) : X / Y = x / y := by
  have e := h.eq
  have hp := h.pos
  have h1 := Int.mul_ediv_add_emod x y
  have h2 := Int.emod_nonneg x (show y ≠ 0 by omega)
  have h3 := Int.emod_lt_of_pos x hy
  generalize x / y = q at *
  generalize x % y = r at *
  have e2 : y * (X - q * Y) = r * Y := by
    have : y * (X - q * Y) = X * y - y * q * Y := by grind
    rw [this, e, ← h1]
    grind
  have b1 : 0 ≤ X - q * Y := by
    rcases Int.lt_or_le (X - q * Y) 0 with h4 | h4
    · have g1 := Int.mul_le_mul_of_nonneg_left (show X - q * Y ≤ -1 by omega) (Int.le_of_lt hy)
      have g2 := Int.mul_nonneg h2 (Int.le_of_lt hp)
      omega
    · exact h4
  have b2 : X - q * Y < Y := by
    rcases Int.lt_or_le (X - q * Y) Y with h4 | h4
    · exact h4
    · have g1 := Int.mul_le_mul_of_nonneg_left h4 (Int.le_of_lt hy)
      have g2 := Int.mul_lt_mul_of_pos_right h3 hp
      omega
  have e3 : X = (X - q * Y) + Y * q := by grind
  rw [e3, Int.add_mul_ediv_left _ _ (by omega), Int.ediv_eq_zero_of_lt b1 b2]
  omega

def GivesQ (w : World) (x y : Int) (e : Ending) (w' : World) : Prop := ∃ X Y, Reds X Y x y ∧ GivesR w X Y e w'

theorem reds_short {X Y x y : Int} {n : Nat} (h : Reds X Y x y) (hx : (mg x).length ≤ n) : (mg X).length ≤ n := by
  refine Nat.le_trans (length_limbs_le (k := (mg x).length) ?_) hx
  have h2 := val_lt (Lim_limbs x.natAbs)
  rw [val_limbs] at h2
  exact Nat.lt_of_le_of_lt h.num h2
theorem reds_short' {X Y x y : Int} {n : Nat} (h : Reds X Y x y) (hy : (mg y).length ≤ n) : (mg Y).length ≤ n := by
  refine Nat.le_trans (length_limbs_le (k := (mg y).length) ?_) hy
  have h2 := val_lt (Lim_limbs y.natAbs)
  rw [val_limbs] at h2
  have h3 := h.pos
  have h4 := h.den
  exact Nat.lt_of_le_of_lt (by omega) h2

set_option maxRecDepth 100000 in
set_option maxHeartbeats 4000000 in
theorem rnormR_pos {x y : Int} {a b : Option Addr} {c d : Nat} {w : World} (hx : Lm w a c (mg x)) (hy : Lm w b d (mg y)) (lx : (mg x).length ≤ 1000000) (ly : (mg y).length ≤ 1000000) (h0 : 0 < y) :
    Calls Tryz.prog 125 #[.agg #[.bool (sg x), .slice a (mg x).length c, .bool (sg y), .slice b (mg y).length d]] w (GivesQ w x y) := by
  obtain ⟨W, hW⟩ : ∃ W, W = (w.alloc (.cells #[.bool (sg x), .slice a (mg x).length c, .bool (sg y), .slice b (mg y).length d] 140)).alloc (.cells #[.bool false, .slice none 0 0, .bool false, .slice none 0 0] 140) := ⟨_, rfl⟩
  have hbW : Below w.heap.size w W := by rw [hW]; exact ((Below.refl _ _).alloc (Nat.le_refl _) _).alloc (by simp) _
  have hxa : Hid (BoxR w.heap.size (.bool (sg x)) (.slice a (mg x).length c) (.bool (sg y)) (.slice b (mg y).length d) W) := by rw [hW]; exact (BoxR.made _ _ rfl _ _ _ _ _).alloc _
  have hres : Hid (BoxR (w.heap.size + 1) (.bool false) (.slice none 0 0) (.bool false) (.slice none 0 0) W) := by rw [hW]; exact BoxR.made _ _ (by simp) _ _ _ _ _
  have HWW : Hid ((w.alloc (.cells #[.bool (sg x), .slice a (mg x).length c, .bool (sg y), .slice b (mg y).length d] 140)).alloc (.cells #[.bool false, .slice none 0 0, .bool false, .slice none 0 0] 140) = W) := hW.symm
  have HLX := Lib.hid (hx.below hbW)
  have HLY := Lib.hid (hy.below hbW)
  have HBW := Lib.hid hbW
  have k1 : Hid ((mg x).length ≤ 1000000) := lx
  have k2 : Hid ((mg y).length ≤ 1000000) := ly
  have HR : Hid (Reds (x / gcdI x y) (y / gcdI x y) x y) := reds_gcd h0
  have H0 := Lib.hid h0
  obtain ⟨X, hX⟩ : ∃ X, X = x / gcdI x y := ⟨_, rfl⟩
  obtain ⟨Y, hY⟩ : ∃ Y, Y = y / gcdI x y := ⟨_, rfl⟩
  rw [← hX, ← hY] at HR
  have HX := Lib.hid hX
  have HY := Lib.hid hY
  clear hW hbW hx hy lx ly h0 hX hY
  obtain ⟨p0, p1, p2, p3, p4, p5⟩ := hxa.out
  go_enter Tryz.func125, Tryz.ntmps125
  go_wp2_with fail
  rw [HWW.out]
  go_wp2_with fail
  refine (rnew_pos HLX.out HLY.out k1.out k2.out H0.out).mono ?_
  rw [← HX.out, ← HY.out]
  rintro e w1 ⟨a1, c1, b1, d1, rfl, hr1, hr2, hb1⟩
  have hBr := hres.out.below hb1
  have HL4 := Lib.hid ((setR_lm hr1 hBr (.bool (sg X)) (.slice a1 (mg X).length c1) (.bool (sg Y)) (.slice b1 (mg Y).length d1)).alloc (.cells #[.bool (sg X), .slice a1 (mg X).length c1, .bool (sg Y), .slice b1 (mg Y).length d1] 140))
  have HL5 := Lib.hid ((setR_lm hr2 hBr (.bool (sg X)) (.slice a1 (mg X).length c1) (.bool (sg Y)) (.slice b1 (mg Y).length d1)).alloc (.cells #[.bool (sg X), .slice a1 (mg X).length c1, .bool (sg Y), .slice b1 (mg Y).length d1] 140))
  have HB1 := setR_bel (G := w.heap.size + 1) (HBW.out.trans (hb1.mono HBW.out.size)) (by omega) (.bool (sg X)) (.slice a1 (mg X).length c1) (.bool (sg Y)) (.slice b1 (mg Y).length d1)
  have HBF := Lib.hid (HB1.alloc HB1.size (.cells #[.bool (sg X), .slice a1 (mg X).length c1, .bool (sg Y), .slice b1 (mg Y).length d1] 140))
  have hBq := (setR_made hBr (.bool (sg X)) (.slice a1 (mg X).length c1) (.bool (sg Y)) (.slice b1 (mg Y).length d1)).alloc (.cells #[.bool (sg X), .slice a1 (mg X).length c1, .bool (sg Y), .slice b1 (mg Y).length d1] 140)
  obtain ⟨q0, q1, q2, q3, q4, q5⟩ := hBq
  have Q0 := Lib.hid q0
  have Q1 := Lib.hid q1
  have Q2 := Lib.hid q2
  have Q3 := Lib.hid q3
  obtain ⟨z0, z1, z2, z3, z4, z5⟩ := hBr
  have z6 : ¬w.heap.size + 1 = w1.heap.size := by omega
  clear hr1 hr2 hb1 HB1 p0 p1 p2 p3 p4 p5 q0 q1 q2 q3 q4 q5
  go_wp2_with fail
  refine bodyPost_ret (v := .agg #[.bool (sg X), .slice a1 (mg X).length c1, .bool (sg Y), .slice b1 (mg Y).length d1]) ?_ rfl ?_
  · simp [results, Tryz.results125, go_sem, Q0.out, Q1.out, Q2.out, Q3.out]
  · exact ⟨X, Y, HR.out, a1, c1, b1, d1, rfl, HL4.out, HL5.out, HBF.out⟩
end Go.Proofs.YtfpcfcegdjlggaaGreat
namespace Go.Proofs.YtfpcfcegdjlggaaGreat
open Go.RowKit

set_option maxRecDepth 100000 in
set_option maxHeartbeats 4000000 in
theorem rquotient_pos {x y : Int} {a b : Option Addr} {c d : Nat} {w : World} (hx : Lm w a c (mg x)) (hy : Lm w b d (mg y)) (lx : (mg x).length ≤ 1000000) (ly : (mg y).length ≤ 1000000) (h0 : 0 < y) :
    Calls Tryz.prog 101 #[.agg #[.bool (sg x), .slice a (mg x).length c], .agg #[.bool (sg y), .slice b (mg y).length d]] w (GivesQ w x y) := by
  obtain ⟨W, hW⟩ : ∃ W, W = ((w.alloc (.cells #[.bool (sg x), .slice a (mg x).length c] 51)).alloc (.cells #[.bool (sg y), .slice b (mg y).length d] 51)).alloc (.cells #[.bool false, .slice none 0 0, .bool false, .slice none 0 0] 140) := ⟨_, rfl⟩
  have hbW : Below w.heap.size w W := by rw [hW]; exact (((Below.refl _ _).alloc (Nat.le_refl _) _).alloc (by simp) _).alloc (by simp; omega) _
  have hxa : Hid (Box w.heap.size (.bool (sg x)) (.slice a (mg x).length c) W) := by rw [hW]; exact ((Box.made _ _ rfl _ _ _).alloc _).alloc _
  have hxb : Hid (Box (w.heap.size + 1) (.bool (sg y)) (.slice b (mg y).length d) W) := by rw [hW]; exact (Box.made _ _ (by simp) _ _ _).alloc _
  have hres : Hid (BoxR (w.heap.size + 2) (.bool false) (.slice none 0 0) (.bool false) (.slice none 0 0) W) := by rw [hW]; exact BoxR.made _ _ (by simp) _ _ _ _ _
  have HWW : Hid (((w.alloc (.cells #[.bool (sg x), .slice a (mg x).length c] 51)).alloc (.cells #[.bool (sg y), .slice b (mg y).length d] 51)).alloc (.cells #[.bool false, .slice none 0 0, .bool false, .slice none 0 0] 140) = W) := hW.symm
  have HLX := Lib.hid (hx.below hbW)
  have HLY := Lib.hid (hy.below hbW)
  have HBW := Lib.hid hbW
  have k1 : Hid ((mg x).length ≤ 1000000) := lx
  have k2 : Hid ((mg y).length ≤ 1000000) := ly
  have H0 := Lib.hid h0
  clear hW hbW hx hy lx ly h0
  obtain ⟨p0, p1, p2, p3, p4⟩ := hxa.out
  obtain ⟨q0, q1, q2, q3, q4⟩ := hxb.out
  go_enter Tryz.func101, Tryz.ntmps101
  go_wp2_with fail
  rw [HWW.out]
  go_wp2_with fail
  refine (rnormR_pos HLX.out HLY.out k1.out k2.out H0.out).mono ?_
  rintro e w1 ⟨X, Y, hR, a1, c1, b1, d1, rfl, hr1, hr2, hb1⟩
  have HR := Lib.hid hR
  have hBr := hres.out.below hb1
  have HL4 := Lib.hid (setR_lm hr1 hBr (.bool (sg X)) (.slice a1 (mg X).length c1) (.bool (sg Y)) (.slice b1 (mg Y).length d1))
  have HL5 := Lib.hid (setR_lm hr2 hBr (.bool (sg X)) (.slice a1 (mg X).length c1) (.bool (sg Y)) (.slice b1 (mg Y).length d1))
  have HBF := Lib.hid (setR_bel (G := w.heap.size + 2) (HBW.out.trans (hb1.mono HBW.out.size)) (by omega) (.bool (sg X)) (.slice a1 (mg X).length c1) (.bool (sg Y)) (.slice b1 (mg Y).length d1))
  obtain ⟨z0, z1, z2, z3, z4, z5⟩ := hBr
  clear hr1 hr2 hb1 hR p0 p1 p2 p3 p4 q0 q1 q2 q3 q4
  go_wp2_with fail
  refine bodyPost_ret (v := .agg #[.bool (sg X), .slice a1 (mg X).length c1, .bool (sg Y), .slice b1 (mg Y).length d1]) ?_ rfl ?_
  · simp [results, Tryz.results101, go_sem, z0, z1, z2, z3]
  · exact ⟨X, Y, HR.out, a1, c1, b1, d1, rfl, HL4.out, HL5.out, HBF.out⟩

set_option maxRecDepth 100000 in
set_option maxHeartbeats 4000000 in
theorem rfloor_pos {x y : Int} {a b : Option Addr} {c d : Nat} {w : World} (hx : Lm w a c (mg x)) (hy : Lm w b d (mg y)) (lx : (mg x).length ≤ 1000000) (ly : (mg y).length ≤ 1000000) (h0 : 0 < y) :
    Calls Tryz.prog 122 #[.agg #[.bool (sg x), .slice a (mg x).length c, .bool (sg y), .slice b (mg y).length d]] w (GivesZ w (x / y)) := by
  obtain ⟨W, hW⟩ : ∃ W, W = (w.alloc (.cells #[.bool (sg x), .slice a (mg x).length c, .bool (sg y), .slice b (mg y).length d] 140)).alloc (.cells #[.bool false, .slice none 0 0] 51) := ⟨_, rfl⟩
  have hbW : Below w.heap.size w W := by rw [hW]; exact ((Below.refl _ _).alloc (Nat.le_refl _) _).alloc (by simp) _
  have hxa : Hid (BoxR w.heap.size (.bool (sg x)) (.slice a (mg x).length c) (.bool (sg y)) (.slice b (mg y).length d) W) := by rw [hW]; exact (BoxR.made _ _ rfl _ _ _ _ _).alloc _
  have hres : Hid (Box (w.heap.size + 1) (.bool false) (.slice none 0 0) W) := by rw [hW]; exact Box.made _ _ (by simp) _ _ _
  have HWW : Hid ((w.alloc (.cells #[.bool (sg x), .slice a (mg x).length c, .bool (sg y), .slice b (mg y).length d] 140)).alloc (.cells #[.bool false, .slice none 0 0] 51) = W) := hW.symm
  have HLX := Lib.hid (hx.below hbW)
  have HLY := Lib.hid (hy.below hbW)
  have HBW := Lib.hid hbW
  have k1 : Hid ((mg x).length ≤ 1000000) := lx
  have k2 : Hid ((mg y).length ≤ 1000000) := ly
  have H0 := Lib.hid h0
  clear hW hbW hx hy lx ly h0
  obtain ⟨p0, p1, p2, p3, p4, p5⟩ := hxa.out
  go_enter Tryz.func122, Tryz.ntmps122
  go_wp2_with fail
  rw [HWW.out]
  go_wp2_with fail
  refine (rnormR_pos HLX.out HLY.out k1.out k2.out H0.out).mono ?_
  rintro e w1 ⟨X, Y, hR, a1, c1, b1, d1, rfl, hr1, hr2, hb1⟩
  have hlX : Hid ((mg X).length ≤ 1000000) := reds_short hR k1.out
  have hlY : Hid ((mg Y).length ≤ 1000000) := reds_short' hR k2.out
  have hY0 : Hid (Y ≠ 0) := by have := hR.pos; unfold Hid; omega
  have hfl : Hid (X / Y = x / y) := hR.floor H0.out
  obtain ⟨V, hV⟩ : ∃ V, V = w1.alloc (.cells #[.bool (sg X), .slice a1 (mg X).length c1, .bool (sg Y), .slice b1 (mg Y).length d1] 140) := ⟨_, rfl⟩
  have hbV : Below w1.heap.size w1 V := by rw [hV]; exact (Below.refl _ _).alloc (Nat.le_refl _) _
  have HLX1 := Lib.hid (hr1.below hbV)
  have HLY1 := Lib.hid (hr2.below hbV)
  have HBV : Hid (Below W.heap.size W V) := hb1.trans (hbV.mono hb1.size)
  have HVV : Hid (w1.alloc (.cells #[.bool (sg X), .slice a1 (mg X).length c1, .bool (sg Y), .slice b1 (mg Y).length d1] 140) = V) := hV.symm
  clear hV hbV hr1 hr2 hb1 hR p0 p1 p2 p3 p4 p5
  go_wp2_with fail
  rw [HVV.out]
  refine (quoZ HLX1.out HLY1.out hlX.out hlY.out hY0.out).mono ?_
  rintro e w2 ⟨a2, c2, rfl, hr2, hb2⟩
  obtain ⟨q, hq⟩ : ∃ q, q = X / Y := ⟨_, rfl⟩
  rw [← hq] at hr2 ⊢
  have HQ : Hid (q = x / y) := hq.trans hfl.out
  have hB2 := HBV.out.trans (hb2.mono HBV.out.size)
  obtain ⟨t0, t1, t2, t3, t4⟩ := hres.out.below hB2
  have HL := Lib.hid (two_lm hr2 t0 t1 (.bool (sg q)) (.slice a2 (mg q).length c2))
  have HBF := Lib.hid (two_bel (G := w.heap.size + 1) (HBW.out.trans (hB2.mono HBW.out.size)) (by omega) (.bool (sg q)) (.slice a2 (mg q).length c2))
  clear hr2 hb2 hB2 hq
  go_wp2_with fail
  exact bodyPost_ret (v := .agg #[.bool (sg q), .slice a2 (mg q).length c2]) (by simp [results, Tryz.results122, go_sem, t0, t1]) rfl (by rw [← HQ.out]; exact ⟨a2, c2, rfl, HL.out, HBF.out⟩)
end Go.Proofs.YtfpcfcegdjlggaaGreat
