/-
  Joined texts: HG EC EB ED EE.
-/
import Derived.Test.YtfpcfcegdjlggaaGreatJ14
import Derived.Test.YtfpcfcegdjlggaaGreatJ08
namespace Go.Proofs.YtfpcfcegdjlggaaGreat
open Go.RowKit Minor

/-- A new matrix, with true behind it. -/
def GivesMatT (w : World) (n m : Nat) (M : Nat → Nat → Int) (e : Ending) (w' : World) : Prop :=
  ∃ g cap R, e = .returned (.tuple #[.slice (some ⟨g, 0, none⟩) n cap, .bool true]) ∧ MatZ w' g n m R M ∧ w.heap.size ≤ g ∧ (∀ i, i < n → w.heap.size ≤ R i) ∧ Below w.heap.size w w'

def unitZ (i j : Nat) : Int := if i = j then 1 else 0
def unitTo (p i j : Nat) : Int := if i = j ∧ i < p then 1 else 0

set_option maxRecDepth 100000 in
set_option maxHeartbeats 4000000 in
theorem ridentity_any (n : Nat) (w : World) (h1 : 1 ≤ n) (h16 : n ≤ 16) :
    Calls Tryz.prog 57 #[.int .i64 (n : Int)] w (GivesMatT w n n unitZ) := by
  have d1 : decide ((n : Int) < 1) = false := decide_eq_false (by omega)
  have d2 : decide ((16 : Int) < (n : Int)) = false := decide_eq_false (by omega)
  go_enter Tryz.func57, Tryz.ntmps57
  go_wp2_with fail
  refine (rzero_any n n _ (by omega) (by omega)).mono ?_
  rintro e w1 ⟨G, cap, R1, rfl, hmat, hG, hR, hb1⟩
  have hst : Hid (MatZ w1 G n n R1 (unitTo 0)) := hmat.congr fun p q _ _ => by unfold unitTo; rw [if_neg (by omega)]
  have HRb := Lib.hid hR
  have HG := Lib.hid hG
  have HB1 := Lib.hid hb1
  clear hmat hb1 hR hG
  go_wp2_with fail
  go_loopw [17] (fun ii wr => ∃ i : Nat, i ≤ n ∧ ii = .int .i64 (i : Int) ∧ Hid (MatZ wr G n n R1 (unitTo i)) ∧ Hid (Below w.heap.size w wr)) (fun ii _ => n - (intOf ii).toNat)
  case atStart => exact ⟨0, by omega, rfl, hst, HB1⟩
  case round =>
    obtain ⟨i, hin, rfl, hM, hB⟩ := hrel
    clear hst
    by_cases hi : i < n
    · obtain ⟨cG, aE, dE, o1, s0, s1, s2⟩ := hM.out.entry i i hi hi
      have f0 := (hM.out.row i hi).fr (i * 2)
      have f1 := (hM.out.row i hi).fr (i * 2 + 1)
      have hltR : R1 i < wr.heap.size := (hM.out.row i hi).lt
      have hRp := HRb.out i hi
      have hK : Hid (∀ w', Below wr.heap.size wr w' → w'.cell? ⟨G, i, none⟩ = some (.slice (some ⟨R1 i, 0, none⟩) n cG)) := fun w' h => cell_keep h o1
      have hbD : Below wr.heap.size wr wr.drew := (Below.refl _ _).drew
      have z2 : (0 : Int) ≤ (i : Int) := by omega
      have z3 : (i : Int) < (n : Int) := by omega
      have S0 := Lib.hid s0
      have S1 := Lib.hid s1
      clear s2 s0 s1 o1
      go_wp2_with fail
      refine begin_T 7 (fun w' => w'.cell? ⟨G, i, none⟩ = some (.slice (some ⟨R1 i, 0, none⟩) n cG)) (by kernel_rfl) (hK.out _ hbD) (fun hHeld => ?_)
      refine first_T (i := 0) (v := ?_) rfl (by kernel_rfl) (fun _ _ _ h => h) (by rfl) (fun w hSw => ?_) hHeld ?_
      rotate_left
      · ((try dsimp only at hSw); go_simp; (try with_reducible rfl))
      try simp only [Act.put, List.setIfInBounds_toArray, List.set_cons_zero, List.set_cons_succ]
      refine first_T (i := 1) (v := ?_) rfl (by kernel_rfl) (fun _ _ _ h => h) (by rfl) (fun w hSw => ?_) hHeld ?_
      rotate_left
      · ((try dsimp only at hSw); go_simp; (try with_reducible rfl))
      try simp only [Act.put, List.setIfInBounds_toArray, List.set_cons_zero, List.set_cons_succ]
      refine first_T (i := 2) (v := ?_) rfl (by kernel_rfl) (fun _ _ _ h => h) (by rfl) (fun w hSw => ?_) hHeld ?_
      rotate_left
      · ((try dsimp only at hSw); go_simp; (try with_reducible rfl))
      try simp only [Act.put, List.setIfInBounds_toArray, List.set_cons_zero, List.set_cons_succ]
      refine first_T (i := 3) (v := ?_) rfl (by kernel_rfl) (fun _ _ _ h => h) (by rfl) (fun w hSw => ?_) hHeld ?_
      rotate_left
      · ((try dsimp only at hSw); go_simp; (try with_reducible rfl))
      try simp only [Act.put, List.setIfInBounds_toArray, List.set_cons_zero, List.set_cons_succ]
      refine first_T (i := 4) (v := ?_) rfl (by kernel_rfl) (fun _ _ _ h => h) (by rfl) (fun w hSw => ?_) hHeld ?_
      rotate_left
      · ((try dsimp only at hSw); go_simp; (try with_reducible rfl))
      try simp only [Act.put, List.setIfInBounds_toArray, List.set_cons_zero, List.set_cons_succ]
      refine next_T (i := 5) rfl (by kernel_rfl) (fun K hKK => ?_)
      go_simp
      refine (smallZ 1 (by omega) (by omega)).mono ?_
      rintro e wn ⟨a7, c7, rfl, hr7, hbn⟩
      obtain ⟨one, hone⟩ : ∃ z : Int, z = 1 := ⟨_, rfl⟩
      rw [← hone] at hr7 ⊢
      have HONE := Lib.hid hone
      clear hone
      have hby := hbD.trans (hbn.mono hbD.size)
      have t0 := cell_keep hby S0.out
      have t1 := cell_keep hby S1.out
      have t2 := (hby.frozen (p := ⟨R1 i, i * 2, none⟩) hltR).trans f0
      have t3 := (hby.frozen (p := ⟨R1 i, i * 2 + 1, none⟩) hltR).trans f1
      go_wp2_with fail
      clear hHeld
      refine hKK.out _ _ (hK.out _ hby) (fun hHeld => ?_)
      clear hKK K hbn
      try simp only [Act.put, List.setIfInBounds_toArray, List.set_cons_zero, List.set_cons_succ]
      refine next_T (i := 6) rfl (by kernel_rfl) (fun K hKK => ?_)
      go_simp
      clear hHeld
      refine hKK.out _ _ (hK.out _ hby) (fun hHeld => ?_)
      clear hKK K
      try simp only [Act.put, List.setIfInBounds_toArray, List.set_cons_zero, List.set_cons_succ]
      refine last_T (t := 7) rfl (by kernel_rfl) (by kernel_rfl) (fun K hKK => ?_)
      go_simp
      refine hKK.out _ _ ?_
      have hB9 : Hid (Below w.heap.size w wn) := hB.out.trans (hby.mono hB.out.size)
      have hnx : Hid (MatZ ((wn.setCell ⟨R1 i, i * 2, none⟩ (.bool (sg one))).setCell ⟨R1 i, i * 2 + 1, none⟩ (.slice a7 (mg one).length c7)) G n n R1 (unitTo (i + 1))) := ((hM.out.below hby).store i i hi hi one hr7).congr fun a b ha hb => by
        unfold unitTo
        by_cases e : a = i ∧ b = i
        · obtain ⟨rfl, rfl⟩ := e
          rw [if_pos ⟨rfl, rfl⟩, if_pos ⟨rfl, by omega⟩]; exact HONE.out
        · rw [if_neg e]
          by_cases h : a = b ∧ a < i
          · rw [if_pos h, if_pos (by omega)]
          · rw [if_neg h, if_neg (by omega)]
      have hbx : Hid (Below w.heap.size w ((wn.setCell ⟨R1 i, i * 2, none⟩ (.bool (sg one))).setCell ⟨R1 i, i * 2 + 1, none⟩ (.slice a7 (mg one).length c7))) := (hB9.out.setCell (p := ⟨R1 i, i * 2, none⟩) hRp _).setCell (p := ⟨R1 i, i * 2 + 1, none⟩) hRp _
      clear hKK K hHeld hby hbD hr7 t0 t1 t2 t3
      go_wp2_with fail
      go_roundw
      case rel =>
        first
          | exact ⟨i + 1, by omega, by go_num, hnx, hbx⟩
          | ((repeat apply Exists.intro); exact ⟨⟨i + 1, by omega, by go_num, hnx, hbx⟩, rfl⟩)
      case measure => simp [intOf]; omega
    · obtain rfl : i = n := by omega
      have hfin : Hid (MatZ wr G i i R1 unitZ) := hM.out.congr fun a b ha hb => by
        unfold unitTo unitZ
        by_cases h : a = b
        · rw [if_pos ⟨h, ha⟩, if_pos h]
        · rw [if_neg (fun x => h x.1), if_neg h]
      go_wp2_with fail
      go_ret2
      exact ⟨G, _, R1, rfl, hfin.out, HG.out, HRb.out, hB.out⟩

/-- Columns ahead of p are filled, and the first q entries of column p. -/
def fillT (M : Nat → Nat → Int) (p q a b : Nat) : Int := if b < p ∨ (b = p ∧ a < q) then M b a else 0

set_option maxRecDepth 100000 in
set_option maxHeartbeats 4000000 in
theorem rtranspose_any (g n m cap : Nat) (R : Nat → Nat) (M : Nat → Nat → Int) (w : World) (hM : MatZ w g n m R M) (h1 : 1 ≤ n) (h2 : n ≤ 16) (h3 : 1 ≤ m) (h4 : m ≤ 16) (hs : ∀ i j, i < n → j < m → (mg (M i j)).length ≤ 1000000) :
    Calls Tryz.prog 106 #[.slice (some ⟨g, 0, none⟩) n cap] w (GivesMatT w m n (fun a b => M b a)) := by
  have HM := Lib.hid hM
  have HS := Lib.hid hs
  clear hM hs
  go_enter Tryz.func106, Tryz.ntmps106
  go_wp2_with fail
  refine (rshape_any g n m cap R M _ HM.out h1 h2 h3 h4).mono ?_
  rintro e w0 ⟨rfl, hb0⟩
  have HB0 := Lib.hid hb0
  clear hb0
  go_wp2_with fail
  refine (rzero_any m n _ (by omega) (by omega)).mono ?_
  rintro e w1 ⟨G, cap1, R1, rfl, hmat, hG, hR, hb1⟩
  have hst : Hid (MatZ w1 G m n R1 (fillT M 0 0)) := hmat.congr fun p q _ _ => by unfold fillT; rw [if_neg (by omega)]
  have HRb : Hid (∀ i, i < m → w.heap.size ≤ R1 i) := fun i hi => Nat.le_trans HB0.out.size (hR i hi)
  have HG : Hid (w.heap.size ≤ G) := Nat.le_trans HB0.out.size hG
  have HB1 : Hid (Below w.heap.size w w1) := HB0.out.trans (hb1.mono HB0.out.size)
  clear hmat hb1 hR hG
  go_wp2_with fail
  go_loopw [23] (fun ii wr => ∃ p : Nat, p ≤ n ∧ ii = .int .i64 (p : Int) ∧ Hid (MatZ wr G m n R1 (fillT M p 0)) ∧ Hid (Below w.heap.size w wr)) (fun ii _ => n - (intOf ii).toNat)
  case atStart => exact ⟨0, by omega, rfl, hst, HB1⟩
  case round =>
    obtain ⟨p, hpn, rfl, hMp, hBp⟩ := hrel
    clear hst
    by_cases hp : p < n
    · obtain ⟨cS, oS⟩ := (HM.out.below hBp.out).outer p hp
      go_wp2_with fail
      go_loopw [31] (fun qq wq => ∃ q : Nat, q ≤ m ∧ qq = .int .i64 (q : Int) ∧ Hid (MatZ wq G m n R1 (fillT M p q)) ∧ Hid (Below w.heap.size w wq)) (fun qq _ => m - (intOf qq).toNat)
      case atStart => exact ⟨0, by omega, rfl, hMp, hBp⟩
      case round =>
        obtain ⟨q, hqm, rfl, hMq, hBq⟩ := hrel
        clear hMp hBp oS
        by_cases hq : q < m
        · obtain ⟨cG, aE, dE, o1, s0, s1, s2⟩ := hMq.out.entry q p hq hp
          have f0 := (hMq.out.row q hq).fr (p * 2)
          have f1 := (hMq.out.row q hq).fr (p * 2 + 1)
          have hltR : R1 q < wr.heap.size := (hMq.out.row q hq).lt
          have hRp := HRb.out q hq
          obtain ⟨cS, aS, dS, u1, v0, v1, v2⟩ := (HM.out.below hBq.out).entry p q hp hq
          have hsx := HS.out p q hp hq
          obtain ⟨x, hx⟩ : ∃ x, x = M p q := ⟨_, rfl⟩
          rw [← hx] at v0 v1 v2 hsx
          have HX := Lib.hid hx
          have HSX := Lib.hid hsx
          have hK : Hid (∀ w', Below wr.heap.size wr w' → w'.cell? ⟨G, q, none⟩ = some (.slice (some ⟨R1 q, 0, none⟩) n cG) ∧ w'.cell? ⟨g, p, none⟩ = some (.slice (some ⟨R p, 0, none⟩) m cS) ∧ w'.cell? ⟨R p, q * 2, none⟩ = some (.bool (sg x)) ∧ w'.cell? ⟨R p, q * 2 + 1, none⟩ = some (.slice aS (mg x).length dS)) := fun w' h => ⟨cell_keep h o1, cell_keep h u1, cell_keep h v0, cell_keep h v1⟩
          have hbD : Below wr.heap.size wr wr.drew := (Below.refl _ _).drew
          have HLX := Lib.hid (v2.below hbD)
          have z2 : (0 : Int) ≤ (p : Int) := by omega
          have z3 : (p : Int) < (n : Int) := by omega
          have z4 : (0 : Int) ≤ (q : Int) := by omega
          have z5 : (q : Int) < (m : Int) := by omega
          have S0 := Lib.hid s0
          have S1 := Lib.hid s1
          clear s2 s0 s1 o1 u1 v0 v1 v2 hx hsx
          go_wp2_with fail
          refine begin_T 14 (fun w' => w'.cell? ⟨G, q, none⟩ = some (.slice (some ⟨R1 q, 0, none⟩) n cG) ∧ w'.cell? ⟨g, p, none⟩ = some (.slice (some ⟨R p, 0, none⟩) m cS) ∧ w'.cell? ⟨R p, q * 2, none⟩ = some (.bool (sg x)) ∧ w'.cell? ⟨R p, q * 2 + 1, none⟩ = some (.slice aS (mg x).length dS)) (by kernel_rfl) (hK.out _ hbD) (fun hHeld => ?_)
          refine first_T (i := 0) (v := ?_) rfl (by kernel_rfl) (fun _ _ _ h => h) (by rfl) (fun w hSw => ?_) hHeld ?_
          rotate_left
          · ((try dsimp only at hSw); go_simp; (try with_reducible rfl))
          try simp only [Act.put, List.setIfInBounds_toArray, List.set_cons_zero, List.set_cons_succ]
          refine first_T (i := 1) (v := ?_) rfl (by kernel_rfl) (fun _ _ _ h => h) (by rfl) (fun w hSw => ?_) hHeld ?_
          rotate_left
          · ((try dsimp only at hSw); go_simp; (try with_reducible rfl))
          try simp only [Act.put, List.setIfInBounds_toArray, List.set_cons_zero, List.set_cons_succ]
          refine first_T (i := 2) (v := ?_) rfl (by kernel_rfl) (fun _ _ _ h => h) (by rfl) (fun w hSw => ?_) hHeld ?_
          rotate_left
          · ((try dsimp only at hSw); go_simp; (try with_reducible rfl))
          try simp only [Act.put, List.setIfInBounds_toArray, List.set_cons_zero, List.set_cons_succ]
          refine first_T (i := 3) (v := ?_) rfl (by kernel_rfl) (fun _ _ _ h => h) (by rfl) (fun w hSw => ?_) hHeld ?_
          rotate_left
          · ((try dsimp only at hSw); go_simp; (try with_reducible rfl))
          try simp only [Act.put, List.setIfInBounds_toArray, List.set_cons_zero, List.set_cons_succ]
          refine first_T (i := 4) (v := ?_) rfl (by kernel_rfl) (fun _ _ _ h => h) (by rfl) (fun w hSw => ?_) hHeld ?_
          rotate_left
          · ((try dsimp only at hSw); go_simp; (try with_reducible rfl))
          try simp only [Act.put, List.setIfInBounds_toArray, List.set_cons_zero, List.set_cons_succ]
          refine first_T (i := 5) (v := ?_) rfl (by kernel_rfl) (fun _ _ _ h => h) (by rfl) (fun w hSw => ?_) hHeld ?_
          rotate_left
          · ((try dsimp only at hSw); go_simp; (try with_reducible rfl))
          try simp only [Act.put, List.setIfInBounds_toArray, List.set_cons_zero, List.set_cons_succ]
          refine first_T (i := 6) (v := ?_) rfl (by kernel_rfl) (fun _ _ _ h => h) (by rfl) (fun w hSw => ?_) hHeld ?_
          rotate_left
          · ((try dsimp only at hSw); go_simp; (try with_reducible rfl))
          try simp only [Act.put, List.setIfInBounds_toArray, List.set_cons_zero, List.set_cons_succ]
          refine first_T (i := 7) (v := ?_) rfl (by kernel_rfl) (fun _ _ _ h => h) (by rfl) (fun w hSw => ?_) hHeld ?_
          rotate_left
          · ((try dsimp only at hSw); go_simp; (try with_reducible rfl))
          try simp only [Act.put, List.setIfInBounds_toArray, List.set_cons_zero, List.set_cons_succ]
          refine first_T (i := 8) (v := ?_) rfl (by kernel_rfl) (fun _ _ _ h => h) (by rfl) (fun w hSw => ?_) hHeld ?_
          rotate_left
          · ((try dsimp only at hSw); go_simp; (try with_reducible rfl))
          try simp only [Act.put, List.setIfInBounds_toArray, List.set_cons_zero, List.set_cons_succ]
          refine first_T (i := 9) (v := ?_) rfl (by kernel_rfl) (fun _ _ _ h => h) (by rfl) (fun w hSw => ?_) hHeld ?_
          rotate_left
          · ((try dsimp only at hSw); go_simp; (try with_reducible rfl))
          try simp only [Act.put, List.setIfInBounds_toArray, List.set_cons_zero, List.set_cons_succ]
          refine first_T (i := 10) (v := ?_) rfl (by kernel_rfl) (fun _ _ _ h => h) (by rfl) (fun w hSw => ?_) hHeld ?_
          rotate_left
          · ((try dsimp only at hSw); go_simp; (try with_reducible rfl))
          try simp only [Act.put, List.setIfInBounds_toArray, List.set_cons_zero, List.set_cons_succ]
          refine first_T (i := 11) (v := ?_) rfl (by kernel_rfl) (fun _ _ _ h => h) (by rfl) (fun w hSw => ?_) hHeld ?_
          rotate_left
          · ((try dsimp only at hSw); go_simp; (try with_reducible rfl))
          try simp only [Act.put, List.setIfInBounds_toArray, List.set_cons_zero, List.set_cons_succ]
          refine next_T (i := 12) rfl (by kernel_rfl) (fun K hKK => ?_)
          go_simp
          refine (normalizeZ HLX.out HSX.out).mono ?_
          rintro e wn ⟨a7, c7, rfl, hr7, hbn⟩
          have hby := hbD.trans (hbn.mono hbD.size)
          have t0 := cell_keep hby S0.out
          have t1 := cell_keep hby S1.out
          have t2 := (hby.frozen (p := ⟨R1 q, p * 2, none⟩) hltR).trans f0
          have t3 := (hby.frozen (p := ⟨R1 q, p * 2 + 1, none⟩) hltR).trans f1
          go_wp2_with fail
          clear hHeld
          refine hKK.out _ _ (hK.out _ hby) (fun hHeld => ?_)
          clear hKK K hbn
          try simp only [Act.put, List.setIfInBounds_toArray, List.set_cons_zero, List.set_cons_succ]
          refine next_T (i := 13) rfl (by kernel_rfl) (fun K hKK => ?_)
          go_simp
          clear hHeld
          refine hKK.out _ _ (hK.out _ hby) (fun hHeld => ?_)
          clear hKK K
          try simp only [Act.put, List.setIfInBounds_toArray, List.set_cons_zero, List.set_cons_succ]
          refine last_T (t := 14) rfl (by kernel_rfl) (by kernel_rfl) (fun K hKK => ?_)
          go_simp
          refine hKK.out _ _ ?_
          have hB9 : Hid (Below w.heap.size w wn) := hBq.out.trans (hby.mono hBq.out.size)
          have hnx : Hid (MatZ ((wn.setCell ⟨R1 q, p * 2, none⟩ (.bool (sg x))).setCell ⟨R1 q, p * 2 + 1, none⟩ (.slice a7 (mg x).length c7)) G m n R1 (fillT M p (q + 1))) := ((hMq.out.below hby).store q p hq hp x hr7).congr fun a b ha hb => by
            unfold fillT
            by_cases e : a = q ∧ b = p
            · obtain ⟨rfl, rfl⟩ := e
              rw [if_pos ⟨rfl, rfl⟩, if_pos (by omega)]; exact HX.out
            · rw [if_neg e]
              by_cases h : b < p ∨ (b = p ∧ a < q)
              · rw [if_pos h, if_pos (by omega)]
              · rw [if_neg h, if_neg (by omega)]
          have hbx : Hid (Below w.heap.size w ((wn.setCell ⟨R1 q, p * 2, none⟩ (.bool (sg x))).setCell ⟨R1 q, p * 2 + 1, none⟩ (.slice a7 (mg x).length c7))) := (hB9.out.setCell (p := ⟨R1 q, p * 2, none⟩) hRp _).setCell (p := ⟨R1 q, p * 2 + 1, none⟩) hRp _
          clear hKK K hHeld hby hbD hr7 t0 t1 t2 t3
          go_wp2_with fail
          go_roundw
          case rel =>
            first
              | exact ⟨q + 1, by omega, by go_num, hnx, hbx⟩
              | ((repeat apply Exists.intro); exact ⟨⟨q + 1, by omega, by go_num, hnx, hbx⟩, rfl⟩)
          case measure => simp [intOf]; omega
        · obtain rfl : q = m := by omega
          have hnx : Hid (MatZ wr G q n R1 (fillT M (p + 1) 0)) := hMq.out.congr fun a b ha hb => by
            unfold fillT
            by_cases h : b < p ∨ (b = p ∧ a < q)
            · rw [if_pos h, if_pos (by omega)]
            · rw [if_neg h, if_neg (by omega)]
          go_wp2_with fail
          go_roundw
          case rel => exact ⟨p + 1, by omega, by go_num, hnx, hBq⟩
          case measure => simp [intOf]; omega
    · obtain rfl : p = n := by omega
      have hfin : Hid (MatZ wr G m p R1 (fun a b => M b a)) := hMp.out.congr fun a b ha hb => by unfold fillT; rw [if_pos (by omega)]
      go_wp2_with fail
      go_ret2
      exact ⟨G, _, R1, rfl, hfin.out, HG.out, HRb.out, hBp.out⟩

/-- The product of a matrix of k columns with one of k rows. -/
def mulM (k : Nat) (A B : Nat → Nat → Int) (i j : Nat) : Int := dotZ (A i) (fun r => B r j) k
def fillP (k : Nat) (A B : Nat → Nat → Int) (p q a b : Nat) : Int := if a < p ∨ (a = p ∧ b < q) then mulM k A B a b else 0

set_option maxRecDepth 100000 in
set_option maxHeartbeats 4000000 in
theorem rmul_mat (g g2 n k m cap cap2 t : Nat) (R R2 : Nat → Nat) (A B : Nat → Nat → Int) (w : World) (hA : MatZ w g n k R A) (hB : MatZ w g2 k m R2 B) (h1 : 1 ≤ n) (h2 : n ≤ 16) (h3 : 1 ≤ k) (h4 : k ≤ 16) (h5 : 1 ≤ m) (h6 : m ≤ 16) (ht : t ≤ 8) (hs : ∀ i j, i < n → j < k → (A i j).natAbs ≤ cB t) (hs2 : ∀ i j, i < k → j < m → (B i j).natAbs ≤ cB t) :
    Calls Tryz.prog 107 #[.slice (some ⟨g, 0, none⟩) n cap, .slice (some ⟨g2, 0, none⟩) k cap2] w (GivesMatT w n m (mulM k A B)) := by
  have HA := Lib.hid hA
  have HB := Lib.hid hB
  have HS := Lib.hid hs
  have HS2 := Lib.hid hs2
  clear hA hB hs hs2
  go_enter Tryz.func107, Tryz.ntmps107
  go_wp2_with fail
  refine (rshape_any g n k cap R A _ HA.out h1 h2 h3 h4).mono ?_
  rintro e w0 ⟨rfl, hb0⟩
  have HB0 := Lib.hid hb0
  clear hb0
  go_wp2_with fail
  refine (rtranspose_any g2 k m cap2 R2 B _ (HB.out.below HB0.out) h3 h4 h5 h6 (fun i j hi hj => cB_short (k := t) (by omega) (HS2.out i j hi hj))).mono ?_
  rintro e w1 ⟨GT, capT, RT, rfl, hT, hGT, hRT, hbT⟩
  have HBT : Hid (Below w.heap.size w w1) := HB0.out.trans (hbT.mono HB0.out.size)
  have HT := Lib.hid hT
  have e1 : ((k : Int) != (k : Int)) = false := by simp
  clear hT hGT hRT hbT
  go_wp2_with fail
  refine (rzero_any n m _ (by omega) (by omega)).mono ?_
  rintro e w2 ⟨G, cap1, R1, rfl, hmat, hG, hR, hb1⟩
  have hst : Hid (MatZ w2 G n m R1 (fillP k A B 0 0)) := hmat.congr fun p q _ _ => by unfold fillP; rw [if_neg (by omega)]
  have HRb : Hid (∀ i, i < n → w.heap.size ≤ R1 i) := fun i hi => Nat.le_trans HBT.out.size (hR i hi)
  have HG : Hid (w.heap.size ≤ G) := Nat.le_trans HBT.out.size hG
  have HB1 : Hid (Below w.heap.size w w2) := HBT.out.trans (hb1.mono HBT.out.size)
  have HF : Hid (Below w1.heap.size w1 w2 ∧ (∀ i, i < n → w1.heap.size ≤ R1 i)) := ⟨hb1, hR⟩
  have HBA : Hid (Below w1.heap.size w1 w2) := hb1
  have HR1 : Hid (∀ i, i < n → w1.heap.size ≤ R1 i) := hR
  clear hmat hb1 hR hG HF
  go_wp2_with fail
  go_loopw [44] (fun ii wr => ∃ p : Nat, p ≤ n ∧ ii = .int .i64 (p : Int) ∧ Hid (MatZ wr G n m R1 (fillP k A B p 0)) ∧ Hid (Below w.heap.size w wr) ∧ Hid (Below w1.heap.size w1 wr)) (fun ii _ => n - (intOf ii).toNat)
  case atStart => exact ⟨0, by omega, rfl, hst, HB1, HBA⟩
  case round =>
    obtain ⟨p, hpn, rfl, hMp, hBp, hDp⟩ := hrel
    clear hst
    by_cases hp : p < n
    · go_wp2_with fail
      go_loopw [49] (fun qq wq => ∃ q : Nat, q ≤ m ∧ qq = .int .i64 (q : Int) ∧ Hid (MatZ wq G n m R1 (fillP k A B p q)) ∧ Hid (Below w.heap.size w wq) ∧ Hid (Below w1.heap.size w1 wq)) (fun qq _ => m - (intOf qq).toNat)
      case atStart => exact ⟨0, by omega, rfl, hMp, hBp, hDp⟩
      case round =>
        obtain ⟨q, hqm, rfl, hMq, hBq, hDq⟩ := hrel
        clear hMp hBp hDp
        by_cases hq : q < m
        · obtain ⟨cG, aE, dE, o1, s0, s1, s2⟩ := hMq.out.entry p q hp hq
          have f0 := (hMq.out.row p hp).fr (q * 2)
          have f1 := (hMq.out.row p hp).fr (q * 2 + 1)
          have hltR : R1 p < wr.heap.size := (hMq.out.row p hp).lt
          have hRp := HRb.out p hp
          have hRp1 := HR1.out p hp
          obtain ⟨cS, u1⟩ := (HA.out.below hBq.out).outer p hp
          obtain ⟨cT, u2⟩ := (HT.out.below hDq.out).outer q hq
          have hK : Hid (∀ w', Below wr.heap.size wr w' → w'.cell? ⟨G, p, none⟩ = some (.slice (some ⟨R1 p, 0, none⟩) m cG) ∧ w'.cell? ⟨g, p, none⟩ = some (.slice (some ⟨R p, 0, none⟩) k cS) ∧ w'.cell? ⟨GT, q, none⟩ = some (.slice (some ⟨RT q, 0, none⟩) k cT)) := fun w' h => ⟨cell_keep h o1, cell_keep h u1, cell_keep h u2⟩
          have hbD : Below wr.heap.size wr wr.drew := (Below.refl _ _).drew
          have HR7 : Hid (RowZ wr.drew (R p) k (A p)) := ((HA.out.below hBq.out).row p hp).belowU hbD
          have HR8 : Hid (RowZ wr.drew (RT q) k (fun r => B r q)) := ((HT.out.below hDq.out).row q hq).belowU hbD
          have z2 : (0 : Int) ≤ (p : Int) := by omega
          have z3 : (p : Int) < (n : Int) := by omega
          have z4 : (0 : Int) ≤ (q : Int) := by omega
          have z5 : (q : Int) < (m : Int) := by omega
          have S0 := Lib.hid s0
          have S1 := Lib.hid s1
          obtain ⟨x, hx⟩ : ∃ x, x = dotZ (A p) (fun r => B r q) k := ⟨_, rfl⟩
          have HX : Hid (mulM k A B p q = x) := hx.symm
          have HXV := Lib.hid hx
          clear s2 s0 s1 o1 u1 u2 hx
          go_wp2_with fail
          refine begin_T 15 (fun w' => w'.cell? ⟨G, p, none⟩ = some (.slice (some ⟨R1 p, 0, none⟩) m cG) ∧ w'.cell? ⟨g, p, none⟩ = some (.slice (some ⟨R p, 0, none⟩) k cS) ∧ w'.cell? ⟨GT, q, none⟩ = some (.slice (some ⟨RT q, 0, none⟩) k cT)) (by kernel_rfl) (hK.out _ hbD) (fun hHeld => ?_)
          refine first_T (i := 0) (v := ?_) rfl (by kernel_rfl) (fun _ _ _ h => h) (by rfl) (fun w hSw => ?_) hHeld ?_
          rotate_left
          · ((try dsimp only at hSw); go_simp; (try with_reducible rfl))
          try simp only [Act.put, List.setIfInBounds_toArray, List.set_cons_zero, List.set_cons_succ]
          refine first_T (i := 1) (v := ?_) rfl (by kernel_rfl) (fun _ _ _ h => h) (by rfl) (fun w hSw => ?_) hHeld ?_
          rotate_left
          · ((try dsimp only at hSw); go_simp; (try with_reducible rfl))
          try simp only [Act.put, List.setIfInBounds_toArray, List.set_cons_zero, List.set_cons_succ]
          refine first_T (i := 2) (v := ?_) rfl (by kernel_rfl) (fun _ _ _ h => h) (by rfl) (fun w hSw => ?_) hHeld ?_
          rotate_left
          · ((try dsimp only at hSw); go_simp; (try with_reducible rfl))
          try simp only [Act.put, List.setIfInBounds_toArray, List.set_cons_zero, List.set_cons_succ]
          refine first_T (i := 3) (v := ?_) rfl (by kernel_rfl) (fun _ _ _ h => h) (by rfl) (fun w hSw => ?_) hHeld ?_
          rotate_left
          · ((try dsimp only at hSw); go_simp; (try with_reducible rfl))
          try simp only [Act.put, List.setIfInBounds_toArray, List.set_cons_zero, List.set_cons_succ]
          refine first_T (i := 4) (v := ?_) rfl (by kernel_rfl) (fun _ _ _ h => h) (by rfl) (fun w hSw => ?_) hHeld ?_
          rotate_left
          · ((try dsimp only at hSw); go_simp; (try with_reducible rfl))
          try simp only [Act.put, List.setIfInBounds_toArray, List.set_cons_zero, List.set_cons_succ]
          refine first_T (i := 5) (v := ?_) rfl (by kernel_rfl) (fun _ _ _ h => h) (by rfl) (fun w hSw => ?_) hHeld ?_
          rotate_left
          · ((try dsimp only at hSw); go_simp; (try with_reducible rfl))
          try simp only [Act.put, List.setIfInBounds_toArray, List.set_cons_zero, List.set_cons_succ]
          refine first_T (i := 6) (v := ?_) rfl (by kernel_rfl) (fun _ _ _ h => h) (by rfl) (fun w hSw => ?_) hHeld ?_
          rotate_left
          · ((try dsimp only at hSw); go_simp; (try with_reducible rfl))
          try simp only [Act.put, List.setIfInBounds_toArray, List.set_cons_zero, List.set_cons_succ]
          refine first_T (i := 7) (v := ?_) rfl (by kernel_rfl) (fun _ _ _ h => h) (by rfl) (fun w hSw => ?_) hHeld ?_
          rotate_left
          · ((try dsimp only at hSw); go_simp; (try with_reducible rfl))
          try simp only [Act.put, List.setIfInBounds_toArray, List.set_cons_zero, List.set_cons_succ]
          refine first_T (i := 8) (v := ?_) rfl (by kernel_rfl) (fun _ _ _ h => h) (by rfl) (fun w hSw => ?_) hHeld ?_
          rotate_left
          · ((try dsimp only at hSw); go_simp; (try with_reducible rfl))
          try simp only [Act.put, List.setIfInBounds_toArray, List.set_cons_zero, List.set_cons_succ]
          refine first_T (i := 9) (v := ?_) rfl (by kernel_rfl) (fun _ _ _ h => h) (by rfl) (fun w hSw => ?_) hHeld ?_
          rotate_left
          · ((try dsimp only at hSw); go_simp; (try with_reducible rfl))
          try simp only [Act.put, List.setIfInBounds_toArray, List.set_cons_zero, List.set_cons_succ]
          refine first_T (i := 10) (v := ?_) rfl (by kernel_rfl) (fun _ _ _ h => h) (by rfl) (fun w hSw => ?_) hHeld ?_
          rotate_left
          · ((try dsimp only at hSw); go_simp; (try with_reducible rfl))
          try simp only [Act.put, List.setIfInBounds_toArray, List.set_cons_zero, List.set_cons_succ]
          refine first_T (i := 11) (v := ?_) rfl (by kernel_rfl) (fun _ _ _ h => h) (by rfl) (fun w hSw => ?_) hHeld ?_
          rotate_left
          · ((try dsimp only at hSw); go_simp; (try with_reducible rfl))
          try simp only [Act.put, List.setIfInBounds_toArray, List.set_cons_zero, List.set_cons_succ]
          refine first_T (i := 12) (v := ?_) rfl (by kernel_rfl) (fun _ _ _ h => h) (by rfl) (fun w hSw => ?_) hHeld ?_
          rotate_left
          · ((try dsimp only at hSw); go_simp; (try with_reducible rfl))
          try simp only [Act.put, List.setIfInBounds_toArray, List.set_cons_zero, List.set_cons_succ]
          refine next_T (i := 13) rfl (by kernel_rfl) (fun K hKK => ?_)
          go_simp
          refine (rdot_any (R p) (RT q) k 0 cS cT t (A p) (fun r => B r q) _ HR7.out HR8.out (by omega) ht (fun i hi => ⟨HS.out p i hp hi, HS2.out i q hi hq⟩)).mono ?_
          rintro e wn ⟨a7, c7, rfl, hr7, hbn⟩
          rw [← HXV.out] at hr7 ⊢
          have hby := hbD.trans (hbn.mono hbD.size)
          have t0 := cell_keep hby S0.out
          have t1 := cell_keep hby S1.out
          have t2 := (hby.frozen (p := ⟨R1 p, q * 2, none⟩) hltR).trans f0
          have t3 := (hby.frozen (p := ⟨R1 p, q * 2 + 1, none⟩) hltR).trans f1
          go_wp2_with fail
          clear hHeld
          refine hKK.out _ _ (hK.out _ hby) (fun hHeld => ?_)
          clear hKK K hbn
          try simp only [Act.put, List.setIfInBounds_toArray, List.set_cons_zero, List.set_cons_succ]
          refine next_T (i := 14) rfl (by kernel_rfl) (fun K hKK => ?_)
          go_simp
          clear hHeld
          refine hKK.out _ _ (hK.out _ hby) (fun hHeld => ?_)
          clear hKK K
          try simp only [Act.put, List.setIfInBounds_toArray, List.set_cons_zero, List.set_cons_succ]
          refine last_T (t := 15) rfl (by kernel_rfl) (by kernel_rfl) (fun K hKK => ?_)
          go_simp
          refine hKK.out _ _ ?_
          have hB9 : Hid (Below w.heap.size w wn) := hBq.out.trans (hby.mono hBq.out.size)
          have hB8 : Hid (Below w1.heap.size w1 wn) := hDq.out.trans (hby.mono hDq.out.size)
          have hnx : Hid (MatZ ((wn.setCell ⟨R1 p, q * 2, none⟩ (.bool (sg x))).setCell ⟨R1 p, q * 2 + 1, none⟩ (.slice a7 (mg x).length c7)) G n m R1 (fillP k A B p (q + 1))) := ((hMq.out.below hby).store p q hp hq x hr7).congr fun a b ha hb => by
            unfold fillP
            by_cases e : a = p ∧ b = q
            · obtain ⟨rfl, rfl⟩ := e
              rw [if_pos ⟨rfl, rfl⟩, if_pos (by omega)]; exact HX.out.symm
            · rw [if_neg e]
              by_cases h : a < p ∨ (a = p ∧ b < q)
              · rw [if_pos h, if_pos (by omega)]
              · rw [if_neg h, if_neg (by omega)]
          have hbx : Hid (Below w.heap.size w ((wn.setCell ⟨R1 p, q * 2, none⟩ (.bool (sg x))).setCell ⟨R1 p, q * 2 + 1, none⟩ (.slice a7 (mg x).length c7))) := (hB9.out.setCell (p := ⟨R1 p, q * 2, none⟩) hRp _).setCell (p := ⟨R1 p, q * 2 + 1, none⟩) hRp _
          have hbv : Hid (Below w1.heap.size w1 ((wn.setCell ⟨R1 p, q * 2, none⟩ (.bool (sg x))).setCell ⟨R1 p, q * 2 + 1, none⟩ (.slice a7 (mg x).length c7))) := (hB8.out.setCell (p := ⟨R1 p, q * 2, none⟩) hRp1 _).setCell (p := ⟨R1 p, q * 2 + 1, none⟩) hRp1 _
          clear hKK K hHeld hby hbD hr7 t0 t1 t2 t3
          go_wp2_with fail
          go_roundw
          case rel =>
            first
              | exact ⟨q + 1, by omega, by go_num, hnx, hbx, hbv⟩
              | ((repeat apply Exists.intro); exact ⟨⟨q + 1, by omega, by go_num, hnx, hbx, hbv⟩, rfl⟩)
          case measure => simp [intOf]; omega
        · obtain rfl : q = m := by omega
          have hnx : Hid (MatZ wr G n q R1 (fillP k A B (p + 1) 0)) := hMq.out.congr fun a b ha hb => by
            unfold fillP
            by_cases h : a < p ∨ (a = p ∧ b < q)
            · rw [if_pos h, if_pos (by omega)]
            · rw [if_neg h, if_neg (by omega)]
          go_wp2_with fail
          go_roundw
          case rel => exact ⟨p + 1, by omega, by go_num, hnx, hBq, hDq⟩
          case measure => simp [intOf]; omega
    · obtain rfl : p = n := by omega
      have hfin : Hid (MatZ wr G p m R1 (mulM k A B)) := hMp.out.congr fun a b ha hb => by unfold fillP; rw [if_pos (by omega)]
      go_wp2_with fail
      go_ret2
      exact ⟨G, _, R1, rfl, hfin.out, HG.out, HRb.out, hBp.out⟩
end Go.Proofs.YtfpcfcegdjlggaaGreat
namespace Go.Proofs.YtfpcfcegdjlggaaGreat.Minor

/-- s and s + 1 exchanged. -/
def tr (s p : Nat) : Nat := if p = s then s + 1 else if p = s + 1 then s else p
theorem tr_s (s : Nat) : tr s s = s + 1 := by simp [tr]
theorem tr_s1 (s : Nat) : tr s (s + 1) = s := by simp [tr]
theorem tr_ne {s p : Nat} (h : p ≠ s) (h1 : p ≠ s + 1) : tr s p = p := by simp [tr, h, h1]
theorem id1 (y w l l' m p0 p1 c0 c1 : Int) : (y * w - l * l') * (y * m - p1 * c1) - (y * p0 - p1 * l') * (y * c0 - l * c1) = y * ((y * w - l * l') * m - y * p0 * c0 + p1 * l' * c0 + p0 * l * c1 - w * p1 * c1) := by grind
theorem id2 (y w l l' m p0 p1 c0 c1 : Int) : (w * y - l' * l) * (w * m - p0 * c0) - (w * p1 - p0 * l) * (w * c1 - l' * c0) = w * ((y * w - l * l') * m - y * p0 * c0 + p1 * l' * c0 + p0 * l * c1 - w * p1 * c1) := by grind
theorem id3 {x u1 u2 u3 u4 y U : Int} (h : u4 * u1 - u2 * u3 = y * U) : x * x * (y * U) = (x * u4) * (x * u1) - (x * u2) * (x * u3) := by rw [← h]; grind

variable {a b : Nat → Nat → Int} {n s : Nat}

theorem D_le0 (a b : Nat → Nat → Int) : ∀ m, m ≤ 0 → D b m = D a m := fun m hm => by
  obtain rfl : m = 0 := Nat.le_zero.1 hm
  rfl

theorem swap_low (h : ∀ p c, p < n → c < n → b p c = a (tr s p) (tr s c)) (hs : s + 1 < n) (hD : ∀ m, m ≤ n → D a m ≠ 0) : ∀ k, k ≤ s → (∀ p c, p < n → c < n → B b k p c = B a k (tr s p) (tr s c)) ∧ ∀ m, m ≤ k → D b m = D a m
  | 0, _ => ⟨fun p c hp hc => by rw [B_zero, B_zero]; exact h p c hp hc, D_le0 a b⟩
  | k + 1, hk => by
    obtain ⟨hB, hd⟩ := swap_low h hs hD k (by omega)
    have hA : ∀ m, m ≤ k + 1 → D a m ≠ 0 := fun m hm => hD m (by omega)
    have hkk : tr s k = k := tr_ne (by omega) (by omega)
    have hd' : ∀ m, m ≤ k + 1 → D b m = D a m := fun m hm => by
      by_cases e : m = k + 1
      · subst e
        rw [D_succ, D_succ, hB k k (by omega) (by omega), hkk]
      · exact hd m (by omega)
    have hBn : ∀ m, m ≤ k + 1 → D b m ≠ 0 := fun m hm => by rw [hd' m hm]; exact hA m hm
    refine ⟨fun p c hp hc => ?_, hd'⟩
    apply Int.eq_of_mul_eq_mul_left (hA k (by omega))
    have h1 := sylvester b k p c hBn
    have h2 := sylvester a k (tr s p) (tr s c) hA
    rw [hd k (Nat.le_refl _), hB k k (by omega) (by omega), hB p c hp hc, hB p k hp (by omega), hB k c (by omega) hc, hkk] at h1
    rw [← h1, ← h2]

/-- The new leading minor of s + 1 rows. -/
theorem swap_at (h : ∀ p c, p < n → c < n → b p c = a (tr s p) (tr s c)) (hs : s + 1 < n) (hD : ∀ m, m ≤ n → D a m ≠ 0) : D b (s + 1) = B a s (s + 1) (s + 1) := by
  rw [D_succ, (swap_low h hs hD s (Nat.le_refl _)).1 s s (by omega) (by omega), tr_s]

theorem swap_high (h : ∀ p c, p < n → c < n → b p c = a (tr s p) (tr s c)) (hs : s + 1 < n) (hD : ∀ m, m ≤ n → D a m ≠ 0) (hy : B a s (s + 1) (s + 1) ≠ 0) :
    ∀ k, s + 2 ≤ k → k ≤ n → (∀ p c, k ≤ p → k ≤ c → p < n → c < n → B b k p c = B a k p c) ∧ ∀ m, s + 2 ≤ m → m ≤ k → D b m = D a m
  | 0, hk, _ => by omega
  | k + 1, hk, hkn => by
    obtain ⟨hL, hdL⟩ := swap_low h hs hD s (Nat.le_refl _)
    have hnew := swap_at h hs hD
    have hx := hD s (by omega)
    by_cases e : k = s + 1
    · subst e
      have hA : ∀ m, m ≤ s + 2 → D a m ≠ 0 := fun m hm => hD m (by omega)
      have hb1 : ∀ m, m ≤ s + 1 → D b m ≠ 0 := fun m hm => by
        by_cases e : m = s + 1
        · subst e; rw [hnew]; exact hy
        · rw [hdL m (by omega)]; exact hA m (by omega)
      have keyB : ∀ p c, p < n → c < n → D a s * B b (s + 1) p c = B a s (s + 1) (s + 1) * B a s (tr s p) (tr s c) - B a s (tr s p) (s + 1) * B a s (s + 1) (tr s c) := fun p c hp hc => by
        have h1 := sylvester b s p c hb1
        rw [hdL s (Nat.le_refl _), hL s s (by omega) (by omega), hL p c hp hc, hL p s hp (by omega), hL s c (by omega) hc, tr_s] at h1
        exact h1.symm
      have keyA : ∀ p c, D a s * B a (s + 1) p c = B a s s s * B a s p c - B a s p s * B a s s c := fun p c => (sylvester a s p c fun m hm => hA m (by omega)).symm
      have hd2 : D b (s + 2) = D a (s + 2) := by
        apply Int.eq_of_mul_eq_mul_left hx
        have h1 := keyB (s + 1) (s + 1) hs hs
        have h2 := keyA (s + 1) (s + 1)
        rw [tr_s1] at h1
        rw [D_succ b, D_succ a, h1, h2]
        grind
      have hb2 : ∀ m, m ≤ s + 2 → D b m ≠ 0 := fun m hm => by
        by_cases e : m = s + 2
        · subst e; rw [hd2]; exact hA _ (Nat.le_refl _)
        · exact hb1 m (by omega)
      refine ⟨fun p c hp1 hc1 hp hc => ?_, fun m hm1 hm2 => by
        obtain rfl : m = s + 2 := by omega
        exact hd2⟩
      have t1 : tr s p = p := tr_ne (by omega) (by omega)
      have t2 : tr s c = c := tr_ne (by omega) (by omega)
      have b0 := sylvester b (s + 1) p c fun m hm => hb2 m hm
      have a0 := sylvester a (s + 1) p c fun m hm => hA m hm
      have b1 := keyB p c hp hc
      have b2 := keyB p (s + 1) hp hs
      have b3 := keyB (s + 1) c hs hc
      have b4 := keyB (s + 1) (s + 1) hs hs
      have a1 := keyA p c
      have a2 := keyA p (s + 1)
      have a3 := keyA (s + 1) c
      have a4 := keyA (s + 1) (s + 1)
      rw [t1, t2] at b1
      rw [t1, tr_s1] at b2
      rw [t2, tr_s1] at b3
      rw [tr_s1] at b4
      rw [hnew] at b0
      rw [D_succ a s] at a0
      have hw : B a s s s ≠ 0 := by rw [← D_succ]; exact hA (s + 1) (by omega)
      generalize D a s = x at *
      generalize hgw : B a s s s = w at *
      generalize B a s (s + 1) (s + 1) = y at *
      generalize B a s s (s + 1) = l at *
      generalize B a s (s + 1) s = l' at *
      generalize B a s p c = m at *
      generalize B a s p s = p0 at *
      generalize B a s p (s + 1) = p1 at *
      generalize B a s s c = c0 at *
      generalize B a s (s + 1) c = c1 at *
      generalize B b (s + 1) p c = u1 at *
      generalize B b (s + 1) p (s + 1) = u2 at *
      generalize B b (s + 1) (s + 1) c = u3 at *
      generalize B b (s + 1) (s + 1) (s + 1) = u4 at *
      generalize B a (s + 1) p c = v1 at *
      generalize B a (s + 1) p (s + 1) = v2 at *
      generalize B a (s + 1) (s + 1) c = v3 at *
      generalize B a (s + 1) (s + 1) (s + 1) = v4 at *
      rw [show s + 1 + 1 = s + 2 from rfl] at *
      generalize B b (s + 2) p c = U at *
      generalize B a (s + 2) p c = V at *
      have f1 : y * (x * x * U) = y * ((y * w - l * l') * m - y * p0 * c0 + p1 * l' * c0 + p0 * l * c1 - w * p1 * c1) := by
        have g := id3 (x := x) b0
        rw [b1, b2, b3, b4, id1] at g
        rw [← g]
        exact Int.mul_left_comm y (x * x) U
      have f2 : w * (x * x * V) = w * ((y * w - l * l') * m - y * p0 * c0 + p1 * l' * c0 + p0 * l * c1 - w * p1 * c1) := by
        have g := id3 (x := x) a0
        rw [a1, a2, a3, a4, id2] at g
        rw [← g]
        exact Int.mul_left_comm w (x * x) V
      have g1 := Int.eq_of_mul_eq_mul_left hy f1
      have g2 := Int.eq_of_mul_eq_mul_left hw f2
      have hxx : x * x ≠ 0 := Int.mul_ne_zero hx hx
      exact Int.eq_of_mul_eq_mul_left hxx (g1.trans g2.symm)
    · obtain ⟨hB, hd⟩ := swap_high h hs hD hy k (by omega) (by omega)
      have hA : ∀ m, m ≤ k + 1 → D a m ≠ 0 := fun m hm => hD m (by omega)
      have hd' : ∀ m, s + 2 ≤ m → m ≤ k + 1 → D b m = D a m := fun m h1 h2 => by
        by_cases e : m = k + 1
        · subst e
          rw [D_succ, D_succ]
          exact hB k k (Nat.le_refl _) (Nat.le_refl _) (by omega) (by omega)
        · exact hd m h1 (by omega)
      have hb : ∀ m, m ≤ k + 1 → D b m ≠ 0 := fun m hm => by
        rcases Nat.lt_or_ge m (s + 1) with e1 | e1
        · rw [hdL m (by omega)]; exact hA m hm
        · by_cases e2 : m = s + 1
          · subst e2; rw [hnew]; exact hy
          · rw [hd' m (by omega) hm]; exact hA m hm
      refine ⟨fun p c hp1 hc1 hp hc => ?_, hd'⟩
      apply Int.eq_of_mul_eq_mul_left (hA k (by omega))
      have h1 := sylvester b k p c hb
      have h2 := sylvester a k p c hA
      rw [hd' k (by omega) (by omega), hB k k (Nat.le_refl _) (Nat.le_refl _) (by omega) (by omega), hB p c (by omega) (by omega) hp hc, hB p k (by omega) (Nat.le_refl _) hp (by omega), hB k c (Nat.le_refl _) (by omega) (by omega) hc] at h1
      rw [← h1, ← h2]

/-- Where condition 4 fails, the exchange makes one leading minor less, keeps it positive, and keeps all others. -/
theorem swap_D (h : ∀ p c, p < n → c < n → b p c = a (tr s p) (tr s c)) (hs : s + 1 < n) (hsym : ∀ i j, i < n → j < n → a i j = a j i) (hD : ∀ m, m ≤ n → 0 < D a m) (hl : 4 * B a s (s + 1) (s + 1) < 3 * D a (s + 1)) :
    0 < D b (s + 1) ∧ D b (s + 1) < D a (s + 1) ∧ ∀ m, m ≤ n → m ≠ s + 1 → D b m = D a m := by
  have hne : ∀ m, m ≤ n → D a m ≠ 0 := fun m hm => by have := hD m hm; omega
  have hnew := swap_at h hs hne
  have h1 := sylvester a s (s + 1) (s + 1) fun m hm => hne m (by omega)
  rw [← D_succ, ← D_succ, B_symm hsym s (fun m hm => hne m (by omega)) (by omega) s (s + 1) (by omega) hs] at h1
  have hpos : 0 < B a s (s + 1) (s + 1) := by
    have p0 := hD s (by omega)
    have p1 := hD (s + 1) (by omega)
    have p2 := hD (s + 1 + 1) (by omega)
    have h2 : 0 < D a (s + 1) * B a s (s + 1) (s + 1) := by
      have q1 : 0 < D a s * D a (s + 1 + 1) := Int.mul_pos p0 p2
      have q2 : 0 ≤ B a s (s + 1) s * B a s (s + 1) s := by
        rw [← Int.natAbs_mul_self]; omega
      omega
    rcases (by omega : 0 < B a s (s + 1) (s + 1) ∨ B a s (s + 1) (s + 1) ≤ 0) with hB | hB
    · exact hB
    · have h3 := Int.mul_le_mul_of_nonneg_left hB (Int.le_of_lt p1)
      rw [Int.mul_zero] at h3
      omega
  have p1 := hD (s + 1) (by omega)
  refine ⟨by rw [hnew]; exact hpos, by rw [hnew]; omega, fun m hm hms => ?_⟩
  rcases Nat.lt_or_ge m (s + 1) with e | e
  · exact (swap_low h hs hne s (Nat.le_refl _)).2 m (by omega)
  · exact (swap_high h hs hne (by omega) m (by omega) hm).2 m (by omega) (Nat.le_refl _)
end Go.Proofs.YtfpcfcegdjlggaaGreat.Minor
namespace Go.Proofs.YtfpcfcegdjlggaaGreat.Minor

/-- x' is x, where q times row j is subtracted from row i, and q times column j from column i. -/
structure Shear (x x' : Nat → Nat → Int) (n i j : Nat) (q : Int) : Prop where
  same : ∀ p c, p < n → c < n → p ≠ i → c ≠ i → x' p c = x p c
  row : ∀ c, c < n → c ≠ i → x' i c = x i c - q * x j c
  col : ∀ p, p < n → p ≠ i → x' p i = x p i - q * x p j
  both : x' i i = x i i - q * x j i - q * x i j + q * q * x j j

variable {a b : Nat → Nat → Int} {n i j : Nat} {q : Int}

/-- Up to stage j the stages are sheared in the same way, and the leading minors are the same. -/
theorem shear_low (h : Shear a b n i j q) (hji : j < i) (hi : i < n) (hD : ∀ m, m ≤ n → D a m ≠ 0) : ∀ k, k ≤ j → Shear (B a k) (B b k) n i j q ∧ ∀ m, m ≤ k + 1 → D b m = D a m
  | 0, _ => by
    have hs : Shear (B a 0) (B b 0) n i j q := by
      rw [show B a 0 = a from funext fun p => funext fun c => B_zero a p c, show B b 0 = b from funext fun p => funext fun c => B_zero b p c]
      exact h
    refine ⟨hs, fun m hm => ?_⟩
    rcases (by omega : m = 0 ∨ m = 1) with rfl | rfl
    · rfl
    · rw [D_succ, D_succ]; exact hs.same 0 0 (by omega) (by omega) (by omega) (by omega)
  | k + 1, hk => by
    obtain ⟨hs, hd⟩ := shear_low h hji hi hD k (by omega)
    have hA : ∀ m, m ≤ k + 1 → D a m ≠ 0 := fun m hm => hD m (by omega)
    have hB : ∀ m, m ≤ k + 1 → D b m ≠ 0 := fun m hm => by rw [hd m hm]; exact hA m hm
    have e0 := hd k (by omega)
    have hne := hA k (by omega)
    have key : ∀ p c, D a k * B b (k + 1) p c = B a k k k * B b k p c - B b k p k * B b k k c := fun p c => by
      have h1 := sylvester b k p c hB
      rw [e0, hs.same k k (by omega) (by omega) (by omega) (by omega)] at h1
      exact h1.symm
    have keyA : ∀ p c, D a k * B a (k + 1) p c = B a k k k * B a k p c - B a k p k * B a k k c := fun p c => (sylvester a k p c hA).symm
    have hs' : Shear (B a (k + 1)) (B b (k + 1)) n i j q := by
      refine ⟨fun p c hp hc hpi hci => ?_, fun c hc hci => ?_, fun p hp hpi => ?_, ?_⟩
      · apply Int.eq_of_mul_eq_mul_left hne
        rw [key, keyA, hs.same p c hp hc hpi hci, hs.same p k hp (by omega) hpi (by omega), hs.same k c (by omega) hc (by omega) hci]
      · apply Int.eq_of_mul_eq_mul_left hne
        have h1 := keyA i c
        have h2 := keyA j c
        rw [key, hs.row c hc hci, hs.row k (by omega) (by omega), hs.same k c (by omega) hc (by omega) hci]
        grind
      · apply Int.eq_of_mul_eq_mul_left hne
        have h1 := keyA p i
        have h2 := keyA p j
        rw [key, hs.col p hp hpi, hs.same p k hp (by omega) hpi (by omega), hs.col k (by omega) (by omega)]
        grind
      · apply Int.eq_of_mul_eq_mul_left hne
        have h1 := keyA i i
        have h2 := keyA i j
        have h3 := keyA j i
        have h4 := keyA j j
        rw [key, hs.both, hs.row k (by omega) (by omega), hs.col k (by omega) (by omega)]
        grind
    refine ⟨hs', fun m hm => ?_⟩
    by_cases e : m = k + 2
    · subst e
      rw [D_succ, D_succ]
      exact hs'.same (k + 1) (k + 1) (by omega) (by omega) (by omega) (by omega)
    · exact hd m (by omega)

/-- Behind stage j the stages are the same. -/
theorem shear_high (h : Shear a b n i j q) (hji : j < i) (hi : i < n) (hD : ∀ m, m ≤ n → D a m ≠ 0) : ∀ k, j < k → k < n → (∀ p c, p < n → c < n → B b k p c = B a k p c) ∧ ∀ m, m ≤ k + 1 → D b m = D a m
  | 0, hk, _ => by omega
  | k + 1, hk, hkn => by
    have hA : ∀ m, m ≤ k + 1 → D a m ≠ 0 := fun m hm => hD m (by omega)
    have hne := hA k (by omega)
    have done : (∀ p c, p < n → c < n → B b (k + 1) p c = B a (k + 1) p c) → (∀ m, m ≤ k + 1 → D b m = D a m) → (∀ p c, p < n → c < n → B b (k + 1) p c = B a (k + 1) p c) ∧ ∀ m, m ≤ k + 1 + 1 → D b m = D a m := fun h1 h2 => ⟨h1, fun m hm => by
      by_cases e : m = k + 1 + 1
      · subst e
        rw [D_succ, D_succ]
        exact h1 (k + 1) (k + 1) (by omega) (by omega)
      · exact h2 m (by omega)⟩
    by_cases e : k = j
    · subst e
      obtain ⟨hs, hd⟩ := shear_low h hji hi hD k (Nat.le_refl _)
      have hB : ∀ m, m ≤ k + 1 → D b m ≠ 0 := fun m hm => by rw [hd m hm]; exact hA m hm
      refine done (fun p c hp hc => ?_) hd
      apply Int.eq_of_mul_eq_mul_left hne
      have h1 := sylvester b k p c hB
      have h2 := sylvester a k p c hA
      rw [hd k (by omega), hs.same k k (by omega) (by omega) (by omega) (by omega)] at h1
      rw [← h1, ← h2]
      by_cases ep : p = i
      · subst ep
        by_cases ec : c = p
        · subst ec
          rw [hs.both, hs.row k (by omega) (by omega), hs.col k (by omega) (by omega)]
          grind
        · rw [hs.row c hc ec, hs.row k (by omega) (by omega), hs.same k c (by omega) hc (by omega) ec]
          grind
      · by_cases ec : c = i
        · subst ec
          rw [hs.col p hp ep, hs.same p k hp (by omega) ep (by omega), hs.col k (by omega) (by omega)]
          grind
        · rw [hs.same p c hp hc ep ec, hs.same p k hp (by omega) ep (by omega), hs.same k c (by omega) hc (by omega) ec]
    · obtain ⟨hs, hd⟩ := shear_high h hji hi hD k (by omega) (by omega)
      have hB : ∀ m, m ≤ k + 1 → D b m ≠ 0 := fun m hm => by rw [hd m hm]; exact hA m hm
      refine done (fun p c hp hc => ?_) hd
      apply Int.eq_of_mul_eq_mul_left hne
      have h1 := sylvester b k p c hB
      have h2 := sylvester a k p c hA
      rw [hd k (by omega), hs k k (by omega) (by omega), hs p c hp hc, hs p k hp (by omega), hs k c (by omega) hc] at h1
      rw [← h1, ← h2]

/-- All leading minors stay. -/
theorem shear_D (h : Shear a b n i j q) (hji : j < i) (hi : i < n) (hD : ∀ m, m ≤ n → D a m ≠ 0) (m : Nat) (hm : m ≤ n) : D b m = D a m :=
  (shear_high h hji hi hD (n - 1) (by omega) (by omega)).2 m (by omega)

/-- Of the numbers below the diagonal those of row i change, up to column j. -/
theorem shear_lambda (h : Shear a b n i j q) (hji : j < i) (hi : i < n) (hD : ∀ m, m ≤ n → D a m ≠ 0) (p c : Nat) (hc : c < p) (hp : p < n) :
    B b c p c = if p = i ∧ c ≤ j then B a c i c - q * B a c j c else B a c p c := by
  by_cases hcj : c ≤ j
  · obtain ⟨hs, _⟩ := shear_low h hji hi hD c hcj
    by_cases e : p = i
    · rw [if_pos ⟨e, hcj⟩, e]
      exact hs.row c (by omega) (by omega)
    · rw [if_neg (fun h => e h.1)]
      exact hs.same p c hp (by omega) e (by omega)
  · rw [if_neg (fun h => hcj h.2)]
    exact (shear_high h hji hi hD c (by omega) (by omega)).1 p c hp (by omega)
end Go.Proofs.YtfpcfcegdjlggaaGreat.Minor
namespace Go.Proofs.YtfpcfcegdjlggaaGreat.Minor

/-- 2 |lambda(i, j)| <= d_(j+1). -/
def SizedAt (a : Nat → Nat → Int) (i j : Nat) : Prop := 2 * (B a j i j).natAbs ≤ (D a (j + 1)).natAbs

theorem nearest {l d q : Int} (hd : 0 < d) (hq : q = (2 * l + d) / (2 * d)) : 2 * (l - q * d).natAbs ≤ d.natAbs := by
  have h1 := Int.mul_ediv_add_emod (2 * l + d) (2 * d)
  have h2 := Int.emod_nonneg (2 * l + d) (show 2 * d ≠ 0 by omega)
  have h3 := Int.emod_lt_of_pos (2 * l + d) (show 0 < 2 * d by omega)
  rw [← hq] at h1
  have e : 2 * d * q = 2 * (q * d) := by grind
  rw [e] at h1
  generalize q * d = t at *
  omega

variable {a b : Nat → Nat → Int} {n i j : Nat} {q : Int}

theorem shear_sized (h : Shear a b n i j q) (hji : j < i) (hi : i < n) (hD : ∀ m, m ≤ n → 0 < D a m) (hq : q = (2 * B a j i j + D a (j + 1)) / (2 * D a (j + 1))) : SizedAt b i j := by
  have hne : ∀ m, m ≤ n → D a m ≠ 0 := fun m hm => by have := hD m hm; omega
  unfold SizedAt
  rw [shear_lambda h hji hi hne i j hji hi, if_pos ⟨rfl, Nat.le_refl _⟩, shear_D h hji hi hne (j + 1) (by omega), ← D_succ]
  exact nearest (hD (j + 1) (by omega)) hq

theorem shear_sized_old (h : Shear a b n i j q) (hji : j < i) (hi : i < n) (hD : ∀ m, m ≤ n → D a m ≠ 0) (p c : Nat) (hcp : c < p) (hp : p < n) (hold : p ≠ i ∨ j < c) : SizedAt b p c ↔ SizedAt a p c := by
  unfold SizedAt
  rw [shear_lambda h hji hi hD p c hcp hp, if_neg (by omega), shear_D h hji hi hD (c + 1) (by omega)]

/-- The result of a congruence is symmetric. -/
theorem shear_symm (h : Shear a b n i j q) (hsym : ∀ p c, p < n → c < n → a p c = a c p) (hji : j < i) (hi : i < n) (p c : Nat) (hp : p < n) (hc : c < n) : b p c = b c p := by
  by_cases ep : p = i
  · by_cases ec : c = i
    · rw [ep, ec]
    · rw [ep, h.row c hc ec, h.col c hc ec, hsym i c hi hc, hsym j c (by omega) hc]
  · by_cases ec : c = i
    · rw [ec, h.row p hp ep, h.col p hp ep, hsym i p hi hp, hsym j p (by omega) hp]
    · rw [h.same p c hp hc ep ec, h.same c p hc hp ec ep, hsym p c hp hc]
end Go.Proofs.YtfpcfcegdjlggaaGreat.Minor
namespace Go.Proofs.YtfpcfcegdjlggaaGreat.Minor

/-- The pairs in the order in which they are looked at: rows ascending, columns descending. -/
def pairs (n : Nat) : List (Nat × Nat) := (List.range n).flatMap fun i => (List.range i).reverse.map fun j => (i, j)

theorem range_split {n i : Nat} (h : i < n) : List.range n = List.range i ++ i :: (List.range (n - i - 1)).map (fun x => i + 1 + x) := by
  have e : n = i + (1 + (n - i - 1)) := by omega
  rw [show List.range n = List.range (i + (1 + (n - i - 1))) from by rw [← e], List.range_add, List.range_add, List.map_append]
  simp [List.range_one, Nat.add_assoc]

theorem pairs_split {n i j : Nat} (hji : j < i) (hi : i < n) : ∃ pre post, pairs n = pre ++ (i, j) :: post ∧ ∀ x ∈ pre, (x.1 < i ∨ (x.1 = i ∧ j < x.2)) ∧ x.2 < x.1 ∧ x.1 < n := by
  refine ⟨((List.range i).flatMap fun i => (List.range i).reverse.map fun j => (i, j)) ++ (((List.range (i - j - 1)).map (fun x => j + 1 + x)).reverse.map fun j => (i, j)), ((List.range j).reverse.map fun j => (i, j)) ++ ((List.range (n - i - 1)).map (fun x => i + 1 + x)).flatMap (fun i => (List.range i).reverse.map fun j => (i, j)), ?_, ?_⟩
  · unfold pairs
    rw [range_split hi, List.flatMap_append, List.flatMap_cons]
    rw [range_split hji]
    simp [List.append_assoc]
  · intro x hx
    rcases List.mem_append.1 hx with hx | hx
    · obtain ⟨i', hi', hx⟩ := List.mem_flatMap.1 hx
      obtain ⟨j', hj', rfl⟩ := List.mem_map.1 hx
      have h1 := List.mem_range.1 hi'
      have h2 := List.mem_range.1 (List.mem_reverse.1 hj')
      exact ⟨.inl h1, h2, by show i' < n; omega⟩
    · obtain ⟨j', hj', rfl⟩ := List.mem_map.1 hx
      obtain ⟨y, hy, rfl⟩ := List.mem_map.1 (List.mem_reverse.1 hj')
      have h1 := List.mem_range.1 hy
      exact ⟨.inr ⟨rfl, by show j < j + 1 + y; omega⟩, by show j + 1 + y < i; omega, hi⟩

instance (a : Nat → Nat → Int) (i j : Nat) : Decidable (SizedAt a i j) := by unfold SizedAt; infer_instance
def sizedB (a : Nat → Nat → Int) (x : Nat × Nat) : Bool := decide (SizedAt a x.1 x.2)
/-- How many pairs are sized ahead of the first one that is not. -/
def firsts (a : Nat → Nat → Int) (n : Nat) : Nat := ((pairs n).takeWhile (sizedB a)).length
theorem firsts_le (a : Nat → Nat → Int) (n : Nat) : firsts a n ≤ (pairs n).length := (List.takeWhile_sublist _).length_le

theorem takeWhile_all {α : Type} {p : α → Bool} : ∀ {l r : List α}, (∀ x ∈ l, p x = true) → ((l ++ r).takeWhile p).length = l.length + (r.takeWhile p).length
  | [], r, _ => by simp
  | x :: l, r, h => by
    rw [List.cons_append, List.takeWhile_cons, if_pos (h x List.mem_cons_self), List.length_cons, takeWhile_all fun y hy => h y (List.mem_cons_of_mem _ hy), List.length_cons]
    omega

/-- The product of the leading minors. -/
def prodD (a : Nat → Nat → Int) : Nat → Nat
  | 0 => 1
  | m + 1 => prodD a m * (D a (m + 1)).natAbs

theorem prodD_congr {a b : Nat → Nat → Int} : ∀ m, (∀ k, k ≤ m → D b k = D a k) → prodD b m = prodD a m
  | 0, _ => rfl
  | m + 1, h => by
    unfold prodD
    rw [prodD_congr m fun k hk => h k (by omega), h (m + 1) (Nat.le_refl _)]

theorem prodD_pos {a : Nat → Nat → Int} : ∀ m, (∀ k, k ≤ m → 0 < D a k) → 0 < prodD a m
  | 0, _ => by unfold prodD; omega
  | m + 1, h => by
    unfold prodD
    exact Nat.mul_pos (prodD_pos m fun k hk => h k (by omega)) (by have := h (m + 1) (Nat.le_refl _); omega)

theorem prodD_less {a b : Nat → Nat → Int} {s : Nat} : ∀ m, s + 1 ≤ m → (∀ k, k ≤ m → 0 < D a k) → 0 < D b (s + 1) → D b (s + 1) < D a (s + 1) → (∀ k, k ≤ m → k ≠ s + 1 → D b k = D a k) → prodD b m < prodD a m
  | 0, h, _, _, _, _ => by omega
  | m + 1, h, hp, h0, h1, h2 => by
    unfold prodD
    by_cases e : m = s
    · subst e
      rw [prodD_congr m fun k hk => h2 k (by omega) (by omega)]
      exact Nat.mul_lt_mul_of_pos_left (by omega) (prodD_pos m fun k hk => hp k (by omega))
    · rw [h2 (m + 1) (Nat.le_refl _) (by omega)]
      have hd := hp (m + 1) (Nat.le_refl _)
      exact Nat.mul_lt_mul_of_pos_right (prodD_less m (by omega) (fun k hk => hp k (by omega)) h0 h1 fun k hk hn => h2 k (by omega) hn) (by omega)

/-- THE NUMBER THAT FALLS. -/
def height (a : Nat → Nat → Int) (n : Nat) : Nat := prodD a n * ((pairs n).length + 1) + ((pairs n).length - firsts a n)

/-- .. at a size reduction of the first pair that is not sized. -/
theorem height_shear {a b : Nat → Nat → Int} {n i j : Nat} {q : Int} (h : Shear a b n i j q) (hji : j < i) (hi : i < n) (hD : ∀ m, m ≤ n → 0 < D a m) (hq : q = (2 * B a j i j + D a (j + 1)) / (2 * D a (j + 1)))
    (hbad : ¬SizedAt a i j) (hold : ∀ p c, c < p → p < n → (p < i ∨ (p = i ∧ j < c)) → SizedAt a p c) : height b n < height a n := by
  have hne : ∀ m, m ≤ n → D a m ≠ 0 := fun m hm => by have := hD m hm; omega
  obtain ⟨pre, post, he, hpre⟩ := pairs_split hji hi
  have h1 : firsts a n = pre.length := by
    unfold firsts
    rw [he, takeWhile_all (p := sizedB a) fun x hx => decide_eq_true (hold x.1 x.2 (hpre x hx).2.1 (hpre x hx).2.2 (hpre x hx).1), List.takeWhile_cons, if_neg (by unfold sizedB; simpa using hbad)]
    rfl
  have h2 : pre.length + 1 ≤ firsts b n := by
    unfold firsts
    rw [he, takeWhile_all (p := sizedB b) fun x hx => decide_eq_true ((shear_sized_old h hji hi hne x.1 x.2 (hpre x hx).2.1 (hpre x hx).2.2 (by have := (hpre x hx).1; omega)).2 (hold x.1 x.2 (hpre x hx).2.1 (hpre x hx).2.2 (hpre x hx).1)), List.takeWhile_cons,
      if_pos (show sizedB b (i, j) = true from decide_eq_true (shear_sized h hji hi hD hq)), List.length_cons]
    omega
  have h3 := firsts_le b n
  unfold height
  rw [prodD_congr n fun k hk => shear_D h hji hi hne k hk]
  omega

/-- .. and at an exchange where condition 4 fails. -/
theorem height_swap {a b : Nat → Nat → Int} {n s : Nat} (h : ∀ p c, p < n → c < n → b p c = a (tr s p) (tr s c)) (hs : s + 1 < n) (hsym : ∀ i j, i < n → j < n → a i j = a j i) (hD : ∀ m, m ≤ n → 0 < D a m) (hl : 4 * B a s (s + 1) (s + 1) < 3 * D a (s + 1)) : height b n < height a n := by
  obtain ⟨h0, h1, h2⟩ := swap_D h hs hsym hD hl
  have h3 := prodD_less (a := a) (b := b) n (by omega) hD h0 h1 h2
  unfold height
  have h4 : (prodD b n + 1) * ((pairs n).length + 1) ≤ prodD a n * ((pairs n).length + 1) := Nat.mul_le_mul_right _ h3
  rw [Nat.add_mul] at h4
  omega
end Go.Proofs.YtfpcfcegdjlggaaGreat.Minor
