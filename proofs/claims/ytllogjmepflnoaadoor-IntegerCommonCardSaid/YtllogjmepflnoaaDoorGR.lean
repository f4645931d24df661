/-
  The reference's Rem and Gcd.
-/
import Derived.Test.YtllogjmepflnoaaDoorRX
import Derived.Deep.LoopGhost
namespace Go.Proofs.YtllogjmepflnoaaDoor
open Go.RowKit

attribute [local go_sem ↓] Go.wp_at_zero Go.wp_at_succ

set_option maxRecDepth 100000 in
set_option maxHeartbeats 8000000 in
theorem rrem_any (na nb : Bool) (a b : Option Addr) (n m cap cap' : Nat) (xs ys : List Nat) (w : World) (rdx : Rd w a cap xs) (rdy : Rd w b cap' ys) (hl : xs.length = n) (hl' : ys.length = m) (hn : n ≤ 1000000) (hm : m ≤ 1000000) (h0 : den nb ys ≠ 0) :
    Calls Tryd.prog 44 #[.agg #[.bool na, .slice a n cap], .agg #[.bool nb, .slice b m cap']] w (GivesInt w (den na xs % den nb ys)) := by
  have hlx := rdx.lim
  have hly := rdy.lim
  obtain ⟨V, hV⟩ : ∃ V, V = (w.alloc (.cells #[.bool na, .slice a n cap] 24)).alloc (.cells #[.bool nb, .slice b m cap'] 24) := ⟨_, rfl⟩
  obtain ⟨W, hW⟩ : ∃ W, W = V.alloc (.cells #[.bool false, .slice none 0 0] 24) := ⟨_, rfl⟩
  have hb0 : Below w.heap.size w V := by rw [hV]; exact ((Below.refl _ _).alloc (Nat.le_refl _) _).alloc (by simp) _
  have hVs : V.heap.size = w.heap.size + 2 := by rw [hV]; simp
  have hWs : W.heap.size = w.heap.size + 3 := by rw [hW, World.size_alloc, hVs]
  have hx0 : Box w.heap.size (.bool na) (.slice a n cap) V := by rw [hV]; exact (Box.made _ _ rfl _ _ _).alloc _
  have hx1 : Box (w.heap.size + 1) (.bool nb) (.slice b m cap') V := by rw [hV]; exact Box.made _ _ (by simp) _ _ _
  have hxa : Box w.heap.size (.bool na) (.slice a n cap) W := by rw [hW]; exact hx0.alloc _
  have hxb : Box (w.heap.size + 1) (.bool nb) (.slice b m cap') W := by rw [hW]; exact hx1.alloc _
  have hy : Box (w.heap.size + 2) (.bool false) (.slice none 0 0) W := by rw [hW]; exact Box.made _ _ hVs.symm _ _ _
  have hra : Rd W a cap xs := by rw [hW]; exact (rdx.below hb0).alloc _
  have hrb : Rd W b cap' ys := by rw [hW]; exact (rdy.below hb0).alloc _
  have hWW : ((w.alloc (.cells #[.bool na, .slice a n cap] 24)).alloc (.cells #[.bool nb, .slice b m cap'] 24)).alloc (.cells #[.bool false, .slice none 0 0] 24) = W := by rw [hW, hV]
  have HWW := Lib.hid hWW
  have HW := Lib.hid hW
  have HVS := Lib.hid hVs
  have HWS := Lib.hid hWs
  have HB0 := Lib.hid hb0
  have HXA := Lib.hid hxa
  have HXB := Lib.hid hxb
  have HY := Lib.hid hy
  have HL := Lib.hid hl
  have HL' := Lib.hid hl'
  have HRA := Lib.hid hra
  have HRB := Lib.hid hrb
  clear hWs hV hW hVs hb0 hx0 hx1 hWW hl hl' rdx rdy hy hra hrb hxa hxb
  obtain ⟨R, hR⟩ : ∃ R, R = den na xs % den nb ys := ⟨_, rfl⟩
  rw [← hR]
  have HR := Lib.hid hR
  have H0 := Lib.hid h0
  obtain ⟨p0, p1, p2, p3, p4⟩ := HXA.out
  obtain ⟨q0, q1, q2, q3, q4⟩ := HXB.out
  clear hR h0
  go_enter Tryd.func44, Tryd.ntmps44
  go_wp2_with fail
  rw [HWW.out]
  go_wp2_with fail
  refine (rdivmod_pos na nb a b n m cap cap' xs ys _ HRA.out HRB.out HL.out HL'.out hn hm H0.out).mono ?_
  rintro e w3 ⟨qa, qc, ra, rc, rfl, hNq, hNr⟩
  rw [← HR.out] at hNr
  rw [← HR.out]
  obtain ⟨Q, hQ⟩ : ∃ Q, Q = den na xs / den nb ys := ⟨_, rfl⟩
  rw [← hQ]
  clear hQ
  obtain ⟨y0, y1, y2, y3, y4⟩ := HY.out.below hNr.below
  have y5 : w.heap.size + 2 < w3.heap.size + 1 := by omega
  have y6 : ¬w.heap.size + 2 = w3.heap.size := by omega
  have y7 : ¬w.heap.size + 2 = w3.heap.size + 1 := by omega
  have hN := hNr
  rw [HW.out] at hN
  have hN3 := new_result hN
  rw [HVS.out] at hN3
  have hfin := (New.before HB0.out (hN3 (.bool (sg R)) (.slice ra (mg R).length rc))).after (((Below.refl _ _).alloc (Nat.le_refl _) (Obj.cells #[Value.bool (sg Q), Value.slice qa (mg Q).length qc] 24)).alloc (by simp) (Obj.cells #[Value.bool (sg R), Value.slice ra (mg R).length rc] 24))
  have HF := Lib.hid hfin
  clear hNq hNr hN hN3 hfin p0 p1 p2 p3 p4 q0 q1 q2 q3 q4
  go_wp2_with fail
  refine bodyPost_ret (v := .agg #[.bool (sg R), .slice ra (mg R).length rc]) ?_ rfl ⟨ra, rc, rfl, ?_⟩
  · simp [results, Tryd.results44, go_sem, y0, y1, y4, y5]
  · exact HF.out

set_option maxRecDepth 100000 in
set_option maxHeartbeats 8000000 in
theorem rgcd_any (na nb : Bool) (a b : Option Addr) (n m cap cap' : Nat) (xs ys : List Nat) (w : World) (rdx : Rd w a cap xs) (rdy : Rd w b cap' ys) (hl : xs.length = n) (hl' : ys.length = m) (hn : n ≤ 1000000) (hm : m ≤ 1000000) :
    Calls Tryd.prog 40 #[.agg #[.bool na, .slice a n cap], .agg #[.bool nb, .slice b m cap']] w (GivesInt w (((Nat.gcd (val xs) (val ys) : Nat) : Int))) := by
  have hlx := rdx.lim
  have hly := rdy.lim
  obtain ⟨V, hV⟩ : ∃ V, V = (w.alloc (.cells #[.bool na, .slice a n cap] 24)).alloc (.cells #[.bool nb, .slice b m cap'] 24) := ⟨_, rfl⟩
  obtain ⟨W, hW⟩ : ∃ W, W = V.alloc (.cells #[.bool false, .slice none 0 0] 24) := ⟨_, rfl⟩
  have hb0 : Below w.heap.size w V := by rw [hV]; exact ((Below.refl _ _).alloc (Nat.le_refl _) _).alloc (by simp) _
  have hVs : V.heap.size = w.heap.size + 2 := by rw [hV]; simp
  have hWs : W.heap.size = w.heap.size + 3 := by rw [hW, World.size_alloc, hVs]
  have hx0 : Box w.heap.size (.bool na) (.slice a n cap) V := by rw [hV]; exact (Box.made _ _ rfl _ _ _).alloc _
  have hx1 : Box (w.heap.size + 1) (.bool nb) (.slice b m cap') V := by rw [hV]; exact Box.made _ _ (by simp) _ _ _
  have hxa : Box w.heap.size (.bool na) (.slice a n cap) W := by rw [hW]; exact hx0.alloc _
  have hxb : Box (w.heap.size + 1) (.bool nb) (.slice b m cap') W := by rw [hW]; exact hx1.alloc _
  have hy : Box (w.heap.size + 2) (.bool false) (.slice none 0 0) W := by rw [hW]; exact Box.made _ _ hVs.symm _ _ _
  have hra : Rd W a cap xs := by rw [hW]; exact (rdx.below hb0).alloc _
  have hrb : Rd W b cap' ys := by rw [hW]; exact (rdy.below hb0).alloc _
  have hWW : ((w.alloc (.cells #[.bool na, .slice a n cap] 24)).alloc (.cells #[.bool nb, .slice b m cap'] 24)).alloc (.cells #[.bool false, .slice none 0 0] 24) = W := by rw [hW, hV]
  have HWW := Lib.hid hWW
  have HW := Lib.hid hW
  have HVS := Lib.hid hVs
  have HWS := Lib.hid hWs
  have HB0 := Lib.hid hb0
  have HXA := Lib.hid hxa
  have HXB := Lib.hid hxb
  have HY := Lib.hid hy
  have HL := Lib.hid hl
  have HL' := Lib.hid hl'
  have HRA := Lib.hid hra
  have HRB := Lib.hid hrb
  clear hWs hV hW hVs hb0 hx0 hx1 hWW hl hl' rdx rdy hy hra hrb hxa hxb
  obtain ⟨G, hG⟩ : ∃ G, G = Nat.gcd (val xs) (val ys) := ⟨_, rfl⟩
  rw [← hG]
  have HG := Lib.hid hG
  have hxl : (mg ((val xs : Nat) : Int)).length ≤ 1000000 := by
    refine Nat.le_trans (length_limbs_le (k := n) ?_) hn
    simp only [Int.natAbs_natCast]; rw [← HL.out]; exact val_lt hlx
  have hyl : (mg ((val ys : Nat) : Int)).length ≤ 1000000 := by
    refine Nat.le_trans (length_limbs_le (k := m) ?_) hm
    simp only [Int.natAbs_natCast]; rw [← HL'.out]; exact val_lt hly
  have hw8 : w.heap.size + 3 ≤ W.heap.size := by rw [HWS.out]; omega
  have HXL := Lib.hid hxl
  have HYL := Lib.hid hyl
  clear hG hxl hyl
  go_enter Tryd.func40, Tryd.ntmps40
  go_wp2_with fail
  rw [HWW.out]
  have hdz : Hid (W.heap.size = W.drew.heap.size) := Lib.hid rfl
  have hdz2 : Hid (W.heap.size + 1 = (W.alloc (Obj.cells #[Value.bool false, Value.slice none 0 0] 24)).heap.size) := Lib.hid (by simp)
  go_cut [5, 6] from 7 (fun q r wx => ∃ (gq gr : Nat) (qa : Option Addr) (qc : Nat) (ra : Option Addr) (rc : Nat), q = .pointer (some ⟨gq, 0, none⟩) ∧ r = .pointer (some ⟨gr, 0, none⟩) ∧ gq ≠ gr ∧ W.heap.size ≤ gq ∧ W.heap.size ≤ gr ∧ Box gq (.bool (sg (den false xs))) (.slice qa (mg (den false xs)).length qc) wx ∧ Box gr (.bool (sg (den false ys))) (.slice ra (mg (den false ys)).length rc) wx ∧ Apart W.heap.size gq gr (mg (den false xs)) qa qc wx ∧ Apart W.heap.size gq gr (mg (den false ys)) ra rc wx ∧ Below W.heap.size W wx)
  case first =>
    go_region_held3 (fun w' => w'.cell? ⟨w.heap.size, 0, none⟩ = some (.bool na) ∧ w'.cell? ⟨w.heap.size, 1, none⟩ = some (.slice a n cap) ∧ w'.cell? ⟨w.heap.size + 1, 0, none⟩ = some (.bool nb) ∧ w'.cell? ⟨w.heap.size + 1, 1, none⟩ = some (.slice b m cap') ∧ Below W.heap.size W w')
      (first | with_reducible exact two_draw HXA.out HXB.out | with_reducible exact two_of HXA.out HXB.out hb11 | with_reducible exact two_of HXA.out HXB.out hb10 | with_reducible exact two_alloc HXA.out HXB.out _ (by assumption) | (refine two_of HXA.out HXB.out ?_; repeat (first | with_reducible exact hb11 | with_reducible exact hb10 | with_reducible exact Below.refl _ _ | with_reducible refine Below.drew ?_ | with_reducible refine Below.alloc ?_ ?_ _ | with_reducible refine Below.setCell ?_ ?_ _ | omega | (simp only [World.size_alloc]; omega) | (simp; omega))))
      ((first
        | (go_at_call 37; have hby := two_below (W := W) (by assumption); have hq := two_rd HRA.out (by assumption); have hq2 := rabs_any na a n cap xs _ hq HL.out (by omega); (with_reducible refine hq2.mono ?_); clear hq hq2; rintro e w10 ⟨a10, c10, rfl, hN10⟩; have hb10 : Below W.heap.size W w10 := below_step hby hN10.below; have hs10 := hb10.size; have hz10 := hN10.below.size
           (first
            | (have e1 : Box (W.heap.size) (.bool false) (.slice none 0 0) w10 := (by with_reducible exact (((Box.made W W.heap.size rfl (.bool false) (.slice none 0 0) 24).alloc (Obj.cells #[Value.bool false, Value.slice none 0 0] 24)).below (Below.refl _ _).drew).below hN10.below); have s1 := e1.size; have e2 : Box (W.heap.size + 1) (.bool false) (.slice none 0 0) w10 := (by with_reducible exact ((Box.made (W.alloc (Obj.cells #[Value.bool false, Value.slice none 0 0] 24)) (W.heap.size + 1) hdz2.out (.bool false) (.slice none 0 0) 24).below (Below.refl _ _).drew).below hN10.below); have s2 := e2.size)
            | (have e1 : Box (W.heap.size) (.bool false) (.slice none 0 0) w10 := (by with_reducible exact ((Box.made W W.heap.size rfl (.bool false) (.slice none 0 0) 24).below (Below.refl _ _).drew).below hN10.below); have s1 := e1.size)
            | skip))
        | (go_at_call 37; have hby := two_below (W := W) (by assumption); have hq := two_rd HRB.out (by assumption); have hq2 := rabs_any nb b m cap' ys _ hq HL'.out (by omega); (with_reducible refine hq2.mono ?_); clear hq hq2; rintro e w11 ⟨a11, c11, rfl, hN11⟩; have hb11 : Below W.heap.size W w11 := below_step hby hN11.below; have hs11 := hb11.size; have hz11 := hN11.below.size
           (first
            | (have f1 : Box (w10.heap.size) (.bool false) (.slice none 0 0) w11 := (by with_reducible exact ((Box.made w10 w10.heap.size rfl (.bool false) (.slice none 0 0) 24).alloc (Obj.cells #[Value.bool false, Value.slice none 0 0] 24)).below hN11.below); have f2 : Box (w10.heap.size + 1) (.bool false) (.slice none 0 0) w11 := (by with_reducible exact (Box.made (w10.alloc (Obj.cells #[Value.bool false, Value.slice none 0 0] 24)) (w10.heap.size + 1) (by simp) (.bool false) (.slice none 0 0) 24).below hN11.below); have n1 : w10.heap.size ≠ w10.heap.size + 1 := (by omega); have n2 := Ne.symm n1; have f1' := f1; have f2' := f2; obtain ⟨b0, b1, b2, b3, b4⟩ := f1'; obtain ⟨d0, d1, d2, d3, d4⟩ := f2')
            | (have f1 : Box (W.heap.size) (.bool false) (.slice none 0 0) w11 := (by with_reducible exact (e1.alloc (Obj.cells #[Value.bool false, Value.slice none 0 0] 24)).below hN11.below); have f2 : Box (w10.heap.size) (.bool false) (.slice none 0 0) w11 := (by with_reducible exact (Box.made w10 w10.heap.size rfl (.bool false) (.slice none 0 0) 24).below hN11.below); have n0 := e1.size; have n1 : W.heap.size ≠ w10.heap.size := (by omega); have n2 := Ne.symm n1; have f1' := f1; have f2' := f2; obtain ⟨b0, b1, b2, b3, b4⟩ := f1'; obtain ⟨d0, d1, d2, d3, d4⟩ := f2')
            | (have f1 : Box (w10.heap.size) (.bool false) (.slice none 0 0) w11 := (by with_reducible exact (Box.made w10 w10.heap.size rfl (.bool false) (.slice none 0 0) 24).below hN11.below); have f1' := f1; obtain ⟨b0, b1, b2, b3, b4⟩ := f1')
            | (have f1 : Box (W.heap.size) (.bool false) (.slice none 0 0) w11 := (by with_reducible exact e1.below hN11.below); have f2 : Box (W.heap.size + 1) (.bool false) (.slice none 0 0) w11 := (by with_reducible exact e2.below hN11.below); have n1 : W.heap.size ≠ W.heap.size + 1 := (by omega); have n2 := Ne.symm n1; have f1' := f1; have f2' := f2; obtain ⟨b0, b1, b2, b3, b4⟩ := f1'; obtain ⟨d0, d1, d2, d3, d4⟩ := f2')
            | (have f1 : Box (W.heap.size) (.bool false) (.slice none 0 0) w11 := (by with_reducible exact e1.below hN11.below); have f1' := f1; obtain ⟨b0, b1, b2, b3, b4⟩ := f1')
            | skip))))
    all_goals go_wp2_with fail
    all_goals go_meet
    all_goals refine ⟨_, _, a10, c10, a11, c11, rfl, rfl, ?_, ?_, ?_, ?_, ?_, ?_, ?_, ?_⟩
    all_goals first
      | omega
      | ((repeat (first | with_reducible exact hb11 | with_reducible refine Below.alloc ?_ ?_ _ | with_reducible refine Below.setCell ?_ ?_ _ | omega | (simp only [World.size_alloc]; omega) | (simp; omega))); done)
      | ((repeat (first | with_reducible assumption | with_reducible exact Box.made _ _ (by first | rfl | simp) _ _ _ | with_reducible refine Box.alloc ?_ _ | with_reducible refine Box.stored (u := .bool false) (v := .slice none 0 0) ?_ _ _ | with_reducible refine Box.other ?_ (by first | omega | (simp <;> omega)) _ _)); done)
      | ((repeat (first | with_reducible exact Apart.of_new hN10 (by first | omega | (simp <;> omega)) (by first | omega | (simp <;> omega)) (by first | omega | (simp <;> omega)) | with_reducible refine Apart.below ?_ hN11.below | with_reducible refine Apart.alloc ?_ _ | with_reducible refine Apart.store1 ?_ _ _ | with_reducible refine Apart.store2 ?_ _ _)); done)
      | ((repeat (first | with_reducible exact Apart.of_new hN11 (by first | omega | (simp <;> omega)) (by first | omega | (simp <;> omega)) (by first | omega | (simp <;> omega)) | with_reducible refine Apart.alloc ?_ _ | with_reducible refine Apart.store1 ?_ _ _ | with_reducible refine Apart.store2 ?_ _ _)); done)
  case rest =>
  obtain ⟨gx, gy, xa, xc, ya, yc, rfl, rfl, hne, hgx, hgy, hBX, hBY, hAX, hAY, hBw⟩ := hcut
  have dx : den false xs = ((val xs : Nat) : Int) := rfl
  have dy : den false ys = ((val ys : Nat) : Int) := rfl
  rw [dx] at hBX hAX
  rw [dy] at hBY hAY
  clear dx dy
  go_wp2_with fail
  go_loopg [] (val ys) (fun gn wr => ∃ (u v : Nat) (xa : Option Addr) (xc : Nat) (ya : Option Addr) (yc : Nat), Box gx (.bool (sg (u : Int))) (.slice xa (mg (u : Int)).length xc) wr ∧ Box gy (.bool (sg (v : Int))) (.slice ya (mg (v : Int)).length yc) wr ∧ Apart W.heap.size gx gy (mg (u : Int)) xa xc wr ∧ Apart W.heap.size gx gy (mg (v : Int)) ya yc wr ∧ Hid (gn = v) ∧ Hid (Nat.gcd u v = G) ∧ (mg (u : Int)).length ≤ 1000000 ∧ (mg (v : Int)).length ≤ 1000000 ∧ Below W.heap.size W wr)
  case atStart => exact ⟨val xs, val ys, xa, xc, ya, yc, hBX, hBY, hAX, hAY, rfl, HG.out.symm, HXL.out, HYL.out, hBw⟩
  case round =>
    clear hBX hBY hAX hAY hBw
    obtain ⟨u, v, ua, uc, va, vc, hX, hYb, hAu, hAv, hg, hgc, hul, hvl, hB⟩ := hrel
    have HXb := Lib.hid hX
    have HYb := Lib.hid hYb
    have HAU := Lib.hid hAu
    have HAV := Lib.hid hAv
    have HB := Lib.hid hB
    clear hAu hAv hB hX
    obtain ⟨q0, q1, q2, q3, q4⟩ := hYb
    by_cases h0 : v = 0
    · have hs : (sign3 ((v : Nat) : Int) != 0) = false := by subst h0; rfl
      have he : Hid (u = G) := Lib.hid (by rw [← hgc.out, h0, Nat.gcd_zero_right])
      have HV0 := Lib.hid h0
      clear h0
      go_wp2_with fail
      refine (rsign_any (sg (v : Int)) va _ vc (mg (v : Int)) _ HAV.out.rd rfl (by omega)).mono ?_
      rw [den_mg]
      rintro e w2 ⟨rfl, hb2⟩
      obtain ⟨p0, p1, p2, p3, p4⟩ := HXb.out.below hb2
      have hBw2 := HB.out.trans (hb2.mono HB.out.size)
      obtain ⟨y0, y1, y2, y3, y4⟩ := HY.out.below hBw2
      have hN : New W (mg (u : Int)) ua uc w2 := (HAU.out.below hb2).to_new (Nat.le_refl _) hBw2
      rw [HW.out] at hN
      have hN3 := new_result hN
      rw [HVS.out] at hN3
      have hfin := New.before HB0.out (hN3 (.bool (sg (u : Int))) (.slice ua (mg (u : Int)).length uc))
      have HF := Lib.hid hfin
      clear hN hN3 hfin q0 q1 q2 q3 q4 hb2 hBw2
      go_wp2_with fail
      refine bodyPost_ret (v := .agg #[.bool (sg (u : Int)), .slice ua (mg (u : Int)).length uc]) ?_ rfl ⟨ua, uc, by rw [he.out], by rw [← he.out]; exact HF.out⟩
      simp [results, Tryd.results40, go_sem, y0, y1]
    · have hs : (sign3 ((v : Nat) : Int) != 0) = true := by unfold sign3; rw [if_neg (by omega), if_neg (by omega)]; rfl
      obtain ⟨r, hr⟩ : ∃ r, r = u % v := ⟨_, rfl⟩
      have hlt : r < v := by rw [hr]; exact Nat.mod_lt _ (by omega)
      have hgc2 : Nat.gcd v r = G := by rw [hr, ← hgc.out, Nat.gcd_comm u v, Nat.gcd_rec v u, Nat.gcd_comm]
      have hri : (u : Int) % (v : Int) = (r : Int) := by rw [hr]; simp
      have hrl : (mg (r : Int)).length ≤ 1000000 := Nat.le_trans (length_limbs_le (k := (mg (v : Int)).length) (by simp only [Int.natAbs_natCast]; exact Nat.lt_trans hlt (lt_of_length_limbs (by unfold mg; simp)))) hvl
      have HRI := Lib.hid hri
      have HGC := Lib.hid hgc2
      have HV0 : Hid ((v : Int) ≠ 0) := Lib.hid (by omega)
      clear hr hgc2 hri h0
      go_wp2_with fail
      refine (rsign_any (sg (v : Int)) va _ vc (mg (v : Int)) _ HAV.out.rd rfl (by omega)).mono ?_
      rw [den_mg]
      rintro e w2 ⟨rfl, hb2⟩
      have hx2 := HXb.out.below hb2
      have hy2 := HYb.out.below hb2
      have HX2 := Lib.hid hx2
      have HY2 := Lib.hid hy2
      have HAU2 := Lib.hid (HAU.out.below hb2)
      have HAV2 := Lib.hid (HAV.out.below hb2)
      have HB2 := Lib.hid (HB.out.trans (hb2.mono HB.out.size))
      clear q0 q1 q2 q3 q4 hb2
      obtain ⟨p0, p1, p2, p3, p4⟩ := hx2
      obtain ⟨q0, q1, q2, q3, q4⟩ := hy2
      have hne2 := Ne.symm hne
      go_wp2_with fail
      go_region_with ((go_at_call 44; refine (rrem_any (sg (u : Int)) (sg (v : Int)) ua va _ _ uc vc (mg (u : Int)) (mg (v : Int)) _ (HAU2.out.rd.below (Below.refl _ _).drew) (HAV2.out.rd.below (Below.refl _ _).drew) rfl rfl hul hvl (by rw [den_mg]; exact HV0.out)).mono ?_; rw [den_mg, den_mg, HRI.out]; rintro e w3 ⟨a3, c3, rfl, hN3⟩; have hb3 : Below w2.heap.size w2 w3 := (Below.refl _ _).drew.trans hN3.below; have hx3 := HX2.out.below hb3; have hy3 := HY2.out.below hb3; obtain ⟨m0, m1, m2, m3, m4⟩ := hx3; obtain ⟨o0, o1, o2, o3, o4⟩ := hy3))
      all_goals
        have hs2 := HB2.out.size
        have h1 := ((HX2.out.below hb3).stored (.bool (sg (v : Int))) (.slice va (mg (v : Int)).length vc)).other hne (.bool (sg (r : Int))) (.slice a3 (mg (r : Int)).length c3)
        have h2 := ((HY2.out.below hb3).other hne2 (.bool (sg (v : Int))) (.slice va (mg (v : Int)).length vc)).stored (.bool (sg (r : Int))) (.slice a3 (mg (r : Int)).length c3)
        have h3 := ((((HAV2.out.below hb3).store1 0 (.bool (sg (v : Int)))).store1 1 (.slice va (mg (v : Int)).length vc)).store2 0 (.bool (sg (r : Int)))).store2 1 (.slice a3 (mg (r : Int)).length c3)
        have h4 : Apart W.heap.size gx gy (mg (r : Int)) a3 c3 _ := ((((Apart.of_new hN3 (by simpa using hs2) (.inl (by simpa using p4)) (.inl (by simpa using q4))).store1 0 (.bool (sg (v : Int)))).store1 1 (.slice va (mg (v : Int)).length vc)).store2 0 (.bool (sg (r : Int)))).store2 1 (.slice a3 (mg (r : Int)).length c3)
        have h5 := bel_store (bel_store (HB2.out.trans (hb3.mono HB2.out.size)) gx hgx (.bool (sg (v : Int))) (.slice va (mg (v : Int)).length vc)) gy hgy (.bool (sg (r : Int))) (.slice a3 (mg (r : Int)).length c3)
        have H1 := Lib.hid h1
        have H2 := Lib.hid h2
        have H3 := Lib.hid h3
        have H4 := Lib.hid h4
        have H5 := Lib.hid h5
        clear h1 h2 h3 h4 h5 hb3 hN3
        go_wp2_with fail
        go_roundg r
      all_goals first
        | exact ⟨v, r, va, vc, a3, c3, H1.out, H2.out, H3.out, H4.out, rfl, HGC.out, hvl, hrl, H5.out⟩
        | (rw [hg.out]; exact hlt)
end Go.Proofs.YtllogjmepflnoaaDoor
