/-
  Joined texts: UU UV DX DZ UW UX.
-/
import Derived.Test.YtfpcfcegdjlggaaGreatJ13
import Derived.Test.YtfpcfcegdjlggaaGreatJ01
import Derived.Test.YtfpcfcegdjlggaaGreatJ08
import Derived.Test.YtfpcfcegdjlggaaGreatJ09
namespace Go.Proofs.YtfpcfcegdjlggaaGreat
open Go.RowKit Minor

theorem sg_zero : sg 0 = false := rfl
theorem mg_zero : mg 0 = [] := rfl

/-- A new row of zeros. -/
theorem RowZ.zeros (w : World) (m : Nat) (t : TypeId) : RowZ (w.alloc (.cells (madeCells #[.bool false, .slice none 0 0] (m * 2)) t)) w.heap.size m (fun _ => 0) := by
  have hg := heap_alloc_new w (.cells (madeCells #[.bool false, .slice none 0 0] (m * 2)) t)
  refine ⟨fun j hj => ⟨none, 0, ?_, ?_, ?_⟩, fun k => frozen_of_row _ _ _ _ _ hg, by simp⟩
  · rw [cell_of_row _ _ _ _ _ (0, 0) hg]
    have h : j * 2 < m * 2 := by omega
    simp [madeCells, h, sg_zero]
  · rw [cell_of_row _ _ _ _ _ (0, 0) hg]
    have h : j * 2 + 1 < m * 2 := by omega
    have h2 : (j * 2 + 1) % 2 = 1 := by omega
    simp [madeCells, h, h2, mg_zero]
  · rw [mg_zero]; exact Lm.nil _ _

theorem Cp.made {w0 w : World} {G n m i : Nat} {R C : Nat → Nat} (h : Cp w0 w G n m (fun _ _ => 0) i 0 (.slice none 0 0) R C) (hi : i < n) :
    ∃ R' C', Cp w0 ((w.alloc (.cells (madeCells #[.bool false, .slice none 0 0] (m * 2)) 51)).setCell ⟨G, i, none⟩ (.slice (some ⟨w.heap.size, 0, none⟩) m m)) G n m (fun _ _ => 0) (i + 1) 0 (.slice none 0 0) R' C' := by
  have hb : Below w.heap.size w (w.alloc (.cells (madeCells #[.bool false, .slice none 0 0] (m * 2)) 51)) := (Below.refl _ _).alloc (Nat.le_refl _) _
  have h' := h.moved hb
  have hz := RowZ.zeros w m 51
  have hzt := heap_alloc_new w (.cells (madeCells #[.bool false, .slice none 0 0] (m * 2)) 51)
  obtain ⟨curG, hG⟩ := rowIs_type h'.outer
  have hcell := h'.outer.cell hi
  rw [if_neg (Nat.lt_irrefl i), if_pos rfl] at hcell
  have hRG : ∀ p, p < i → G ≠ R p := fun p hp => by
    obtain ⟨_, cur, hc⟩ := h'.types p hp
    exact ne_of_types hG hc (by decide)
  have hGz : G ≠ w.heap.size := ne_of_types hG hzt (by decide)
  refine ⟨fun p => if p = i then w.heap.size else R p, fun p => if p = i then m else C p, (h'.outer.set i _).congr fun p hp => ?_, fun p hp => ?_, fun p hp => ?_, RowB.nil _ _ _, fun p q hp hq e => ?_, fun p hp => by simp [Value.ownBlock], h.low, h'.below.setCell (p := ⟨G, i, none⟩) h.low _⟩
  · by_cases e : p = i
    · subst e
      rw [if_pos rfl, if_pos (by omega), if_pos rfl, if_pos rfl]
    · by_cases e2 : p < i
      · rw [if_neg e, if_pos e2, if_pos (by omega), if_neg e, if_neg e]
      · rw [if_neg e, if_neg e2, if_neg e, if_neg (by omega)]
        split <;> rfl
  · show RowZ _ (if p = i then w.heap.size else R p) m (fun _ => 0)
    by_cases e : p = i
    · rw [if_pos e]; exact hz.setO1 hGz hcell (by simp) _
    · rw [if_neg e]; exact (h'.rows p (by omega)).setO1 (hRG p (by omega)) hcell (by simp) _
  · by_cases e : p = i
    · simp only [if_pos e]; exact ⟨h.below.size, _, (Below.heap_setCell _ ⟨G, i, none⟩ _ _ hGz.symm).trans hzt⟩
    · simp only [if_neg e]
      obtain ⟨h1, cur, h2⟩ := h'.types p (by omega)
      exact ⟨h1, cur, (Below.heap_setCell _ ⟨G, i, none⟩ _ _ (hRG p (by omega)).symm).trans h2⟩
  · have hlt : ∀ p, p < i → R p ≠ w.heap.size := fun p hp => by have := (h.rows p hp).lt; omega
    try simp only at e
    by_cases e1 : p = i
    · by_cases e2 : q = i
      · omega
      · rw [if_pos e1, if_neg e2] at e
        exact absurd e.symm (hlt q (by omega))
    · by_cases e2 : q = i
      · rw [if_neg e1, if_pos e2] at e
        exact absurd e (hlt p (by omega))
      · rw [if_neg e1, if_neg e2] at e
        exact h.inj p q (by omega) (by omega) e

set_option maxRecDepth 100000 in
set_option maxHeartbeats 4000000 in
theorem rzero_any (n m : Nat) (w : World) (hn : n ≤ 100) (hm : m ≤ 100) :
    Calls Tryz.prog 96 #[.int .i64 (n : Int), .int .i64 (m : Int)] w (GivesMat w n m (fun _ _ => 0)) := by
  obtain ⟨i0, hi, hz0, hz1, hz2⟩ := info_parts infoZ
  have hmk := run_make_row' (P := Tryz.prog) 55 119 (.slice none 0 0) 24 Tryz.underlying55 infoRZ rfl .i64 .i64 n (by omega) (by omega) w
  have hmk2 : ∀ W : World, (Instr.makeSlice 119 (.int .i64 (m : Int)) (.int .i64 (m : Int))).run Tryz.prog W = .ok (.slice (some ⟨W.heap.size, 0, none⟩) m m) (W.alloc (.cells (madeCells #[.bool false, .slice none 0 0] (m * 2)) 51)) := fun W => by
    have hr := run_make (P := Tryz.prog) W 119 51 i0 (.agg #[.bool false, .slice none 0 0]) Tryz.underlying119 hi hz0 .i64 .i64 m m (by omega) (Int.le_refl _) (by rw [hz2]; omega) (by omega)
    simp only [Int.toNat_natCast, hz1] at hr
    exact hr
  obtain ⟨W, hW⟩ : ∃ W, W = w.alloc (.cells (madeCells #[.slice none 0 0] n) 119) := ⟨_, rfl⟩
  have hbW : Below w.heap.size w W := by rw [hW]; exact (Below.refl _ _).alloc (Nat.le_refl _) _
  have hst : Hid (∃ R' C', Cp w W w.heap.size n m (fun _ _ => 0) 0 0 (.slice none 0 0) R' C') := by
    refine ⟨fun _ => 0, fun _ => 0, ?_, fun p hp => by omega, fun p hp => by omega, RowB.nil _ _ _, fun p q hp => by omega, fun p hp => by omega, Nat.le_refl _, hbW⟩
    rw [hW]
    exact (World.rowIs_made w (.slice none 0 0) n 119).congr fun p _ => by
      rw [if_neg (Nat.not_lt_zero p)]
      split <;> rfl
  have HWW : Hid (w.alloc (.cells (madeCells #[.slice none 0 0] n) 119) = W) := hW.symm
  have HMK2 := Lib.hid hmk2
  clear hW hbW hmk2
  go_enter Tryz.func96, Tryz.ntmps96
  go_wp2_with fail
  rw [HWW.out]
  clear hmk
  go_loopw [11] (fun ii wr => ∃ (i : Nat), i ≤ n ∧ ii = .int .i64 (i : Int) ∧ Hid (∃ R' C', Cp w wr w.heap.size n m (fun _ _ => 0) i 0 (.slice none 0 0) R' C')) (fun ii _ => n - (intOf ii).toNat)
  case atStart => exact ⟨0, by omega, rfl, hst⟩
  case round =>
    obtain ⟨i, hin, rfl, hC⟩ := hrel
    clear hst
    by_cases hlt : i < n
    · obtain ⟨R1, C1, hC1⟩ := hC.out
      have hmk := HMK2.out wr
      have hA : Below wr.heap.size wr (wr.alloc (.cells (madeCells #[.bool false, .slice none 0 0] (m * 2)) 51)) := (Below.refl _ _).alloc (Nat.le_refl _) _
      have ho := (hC1.moved hA).outer.cell hlt
      rw [if_neg (Nat.lt_irrefl i), if_pos rfl] at ho
      have hf := (hC1.moved hA).outer.frozen i
      have hnx := Lib.hid (hC1.made hlt)
      clear hC1 hA hC
      go_wp2_with fail
      go_roundw
      case rel => exact ⟨i + 1, by omega, by go_num, hnx⟩
      case measure => simp [intOf]; omega
    · obtain rfl : i = n := by omega
      have hfin : Hid (∃ R', MatZ wr w.heap.size i m R' (fun _ _ => 0) ∧ (∀ p, p < i → w.heap.size ≤ R' p) ∧ Below w.heap.size w wr) := by
        obtain ⟨R1, C1, hC1⟩ := hC.out
        exact ⟨R1, hC1.mat, fun p hp => (hC1.types p hp).1, hC1.below⟩
      clear hC
      go_wp2_with fail
      go_ret
      obtain ⟨R1, h1, h2, h3⟩ := hfin.out
      exact ⟨w.heap.size, i, R1, rfl, h1, Nat.le_refl _, h2, h3⟩
end Go.Proofs.YtfpcfcegdjlggaaGreat
namespace Go.Proofs.YtfpcfcegdjlggaaGreat
open Go.RowKit Minor

/-- The rows are a matrix of 1 to 16 rows and columns. -/
def Shaped (hs : List (List Int)) : Prop := (1 ≤ hs.length ∧ hs.length ≤ 16) ∧ ∀ i, i < hs.length → 1 ≤ (hs.getD i []).length ∧ (hs.getD i []).length ≤ 16 ∧ (hs.getD i []).length = (hs.getD 0 []).length

/-- The entries ahead of (i, j) are those of hs, the others 0. -/
def fillZ (hs : List (List Int)) (i j p q : Nat) : Int := if p < i ∨ (p = i ∧ q < j) then ent hs p q else 0

/-- What FromInts gives. -/
def GivesM (w : World) (hs : List (List Int)) (e : Ending) (w' : World) : Prop :=
  ((¬Shaped hs ∧ e = .returned (.tuple #[.slice none 0 0, .bool false])) ∨
   (Shaped hs ∧ ∃ g cap R, e = .returned (.tuple #[.slice (some ⟨g, 0, none⟩) hs.length cap, .bool true]) ∧ MatZ w' g hs.length (hs.getD 0 []).length R (ent hs))) ∧ Below w.heap.size w w'

theorem givesM_yes {w w' : World} {hs : List (List Int)} {g cap n : Nat} {R : Nat → Nat} (h : Shaped hs) (hn : hs.length = n) (hM : MatZ w' g hs.length (hs.getD 0 []).length R (ent hs)) (hb : Below w.heap.size w w') :
    GivesM w hs (.returned (.tuple #[.slice (some ⟨g, 0, none⟩) n cap, .bool true])) w' := by
  subst hn
  exact ⟨.inr ⟨h, g, cap, R, rfl, hM⟩, hb⟩

set_option maxRecDepth 100000 in
set_option maxHeartbeats 8000000 in
theorem rfromints_any (ah : Option Addr) (nh caph : Nat) (hs : List (List Int)) (w : World) (hrm : RdM w ah caph hs) (hlm : hs.length = nh) (hnh : nh ≤ 100000000000000) :
    Calls Tryz.prog 62 #[.slice ah nh caph] w (GivesM w hs) := by
  have HLM := Lib.hid hlm
  by_cases hbad : nh < 1 ∨ 16 < nh
  · have hno : Hid (¬Shaped hs) := fun h => by have := h.1; omega
    rcases hbad with hb | hb
    · have d1 : decide ((nh : Int) < 1) = true := decide_eq_true (by omega)
      clear hrm hlm
      go_enter Tryz.func62, Tryz.ntmps62
      go_wp2_with fail
      go_ret2
      exact ⟨.inl ⟨hno.out, rfl⟩, Below.refl _ _⟩
    · have d1 : decide ((nh : Int) < 1) = false := decide_eq_false (by omega)
      have d2 : decide ((16 : Int) < (nh : Int)) = true := decide_eq_true (by omega)
      clear hrm hlm
      go_enter Tryz.func62, Tryz.ntmps62
      go_wp2_with fail
      go_ret2
      exact ⟨.inl ⟨hno.out, rfl⟩, Below.refl _ _⟩
  · have d1 : decide ((nh : Int) < 1) = false := decide_eq_false (by omega)
    have d2 : decide ((16 : Int) < (nh : Int)) = false := decide_eq_false (by omega)
    obtain ⟨bl, ol, A, C, rfl, hfix⟩ := hrm.fix (by omega)
    have HF := Lib.hid hfix
    obtain ⟨m, hm⟩ : ∃ m, m = (hs.getD 0 []).length := ⟨_, rfl⟩
    have HMM := Lib.hid hm
    obtain ⟨z1, _, _⟩ := hfix w (Below.refl _ _) 0 (by omega)
    rw [← hm] at z1
    have z1' : w.cell? ⟨bl, ol, none⟩ = some (.slice (A 0) m (C 0)) := z1
    have hnh1 : 1 ≤ nh := by omega
    have hnh2 : nh ≤ 16 := by omega
    clear hfix hrm hm hlm hbad
    go_enter Tryz.func62, Tryz.ntmps62
    go_wp2_with fail
    go_loopw [19] (fun ii wr => ∃ i : Nat, i ≤ nh ∧ ii = .int .i64 (i : Int) ∧ w = wr ∧ Hid (∀ p, p < i → 1 ≤ (hs.getD p []).length ∧ (hs.getD p []).length ≤ 16 ∧ (hs.getD p []).length = m)) (fun ii _ => nh - (intOf ii).toNat)
    case atStart => exact ⟨0, by omega, rfl, rfl, fun p hp => by omega⟩
    case round =>
      obtain ⟨i, hin, rfl, rfl, hY⟩ := hrel
      by_cases hi : i < nh
      · obtain ⟨y1, _, hly⟩ := HF.out w (Below.refl _ _) i (by rw [HLM.out]; exact hi)
        obtain ⟨L, hL⟩ : ∃ L, L = (hs.getD i []).length := ⟨_, rfl⟩
        rw [← hL] at y1 hly
        have HL := Lib.hid hL
        clear hL
        by_cases hb1 : L < 1
        · have e1 : decide ((L : Int) < 1) = true := decide_eq_true (by omega)
          have hno : Hid (¬Shaped hs) := fun h => by have := (h.2 i (by rw [HLM.out]; exact hi)).1; rw [← HL.out] at this; omega
          go_wp2_with fail
          go_ret2
          exact ⟨.inl ⟨hno.out, rfl⟩, Below.refl _ _⟩
        · have e1 : decide ((L : Int) < 1) = false := decide_eq_false (by omega)
          by_cases hb2 : 16 < L
          · have e2 : decide ((16 : Int) < (L : Int)) = true := decide_eq_true (by omega)
            have hno : Hid (¬Shaped hs) := fun h => by have := (h.2 i (by rw [HLM.out]; exact hi)).2.1; rw [← HL.out] at this; omega
            go_wp2_with fail
            go_ret2
            exact ⟨.inl ⟨hno.out, rfl⟩, Below.refl _ _⟩
          · have e2 : decide ((16 : Int) < (L : Int)) = false := decide_eq_false (by omega)
            by_cases hb3 : L = m
            · have hnx : Hid (∀ p, p < i + 1 → 1 ≤ (hs.getD p []).length ∧ (hs.getD p []).length ≤ 16 ∧ (hs.getD p []).length = m) := fun p hp => by
                by_cases e : p = i
                · rw [e, ← HL.out]; omega
                · exact hY.out p (by omega)
              subst hb3
              go_wp2_with fail
              go_roundw
              case rel => exact ⟨i + 1, by omega, by go_num, by trivial, hnx⟩
              case measure => simp [intOf]; omega
            · have e3 : ((L : Int) != (m : Int)) = true := by simp; omega
              have e4 : ((L : Int) == (m : Int)) = false := by simp; omega
              have hno : Hid (¬Shaped hs) := fun h => by have := (h.2 i (by rw [HLM.out]; exact hi)).2.2; rw [← HL.out, ← HMM.out] at this; omega
              have E3 := Lib.hid e3
              clear hb3
              go_wp2_with fail
              go_ret2
              exact ⟨.inl ⟨hno.out, rfl⟩, Below.refl _ _⟩
      · obtain rfl : i = nh := by omega
        have hyes : Hid (Shaped hs) := ⟨by rw [HLM.out]; omega, fun p hp => by
          have := hY.out p (by rw [← HLM.out]; exact hp)
          rw [← HMM.out]; exact this⟩
        have hm12 := hY.out 0 (by omega)
        rw [← HMM.out] at hm12
        obtain ⟨hm1, hm2, _⟩ := hm12
        go_wp2_with fail
        refine (rzero_any i m _ (by omega) (by omega)).mono ?_
        rintro e w1 ⟨G, cap, R, rfl, hmat, hG, hR, hb1⟩
        have hst : Hid (MatZ w1 G i m R (fillZ hs 0 0)) := hmat.congr fun p q _ _ => by unfold fillZ; rw [if_neg (by omega)]
        have HRb := Lib.hid hR
        have HB1 := Lib.hid hb1
        clear hmat hb1 hR hY
        go_wp2_with fail
        go_loopw [50] (fun pp wr => ∃ p : Nat, p ≤ i ∧ pp = .int .i64 (p : Int) ∧ Hid (MatZ wr G i m R (fillZ hs p 0)) ∧ Hid (Below w.heap.size w wr)) (fun pp _ => i - (intOf pp).toNat)
        case atStart => exact ⟨0, by omega, rfl, hst, HB1⟩
        case round =>
          obtain ⟨p, hpi, rfl, hMp, hBp⟩ := hrel
          clear hst
          by_cases hp : p < i
          · obtain ⟨y1, _, _⟩ := HF.out _ hBp.out p (by rw [HLM.out]; exact hp)
            have hLp : (hs.getD p []).length = m := by
              have := hyes.out.2 p (by rw [HLM.out]; exact hp)
              rw [HMM.out]; exact this.2.2
            rw [hLp] at y1
            have HLP := Lib.hid hLp
            clear hLp
            go_wp2_with fail
            go_loopw [58] (fun qq wq => ∃ q : Nat, q ≤ m ∧ qq = .int .i64 (q : Int) ∧ Hid (MatZ wq G i m R (fillZ hs p q)) ∧ Hid (Below w.heap.size w wq)) (fun qq _ => m - (intOf qq).toNat)
            case atStart => exact ⟨0, by omega, rfl, hMp, hBp⟩
            case round =>
              obtain ⟨q, hqm, rfl, hMq, hBq⟩ := hrel
              clear hMp hBp y1
              by_cases hq : q < m
              · obtain ⟨y1, yr, _⟩ := HF.out _ hBq.out p (by rw [HLM.out]; exact hp)
                rw [HLP.out] at y1
                obtain ⟨bx, ox, hax, xc⟩ := yr.cells q (by rw [HLP.out]; exact hq)
                have hx64 := yr.get q
                obtain ⟨x, hx⟩ : ∃ x, x = (hs.getD p []).getD q 0 := ⟨_, rfl⟩
                rw [← hx] at xc hx64
                rw [hax] at y1
                obtain ⟨cG, aE, dE, o1, s0, s1, s2⟩ := hMq.out.entry p q hp hq
                have f0 := (hMq.out.row p hp).fr (q * 2)
                have f1 := (hMq.out.row p hp).fr (q * 2 + 1)
                have hltR : R p < wr.heap.size := (hMq.out.row p hp).lt
                have hRp := HRb.out p hp
                have HXE : Hid (ent hs p q = x) := hx.symm
                have hK : Hid (∀ w', Below wr.heap.size wr w' → w'.cell? ⟨G, p, none⟩ = some (.slice (some ⟨R p, 0, none⟩) m cG) ∧ w'.cell? ⟨bl, ol + p, none⟩ = some (.slice (some ⟨bx, ox, none⟩) m (C p)) ∧ w'.cell? ⟨bx, ox + q, none⟩ = some (.int .i64 x)) :=
                  fun w' h => ⟨cell_keep h o1, cell_keep h y1, cell_keep h xc⟩
                have hbD : Below wr.heap.size wr wr.drew := (Below.refl _ _).drew
                have z2 : (0 : Int) ≤ (p : Int) := by omega
                have z3 : (p : Int) < (i : Int) := by omega
                have z4 : (0 : Int) ≤ (q : Int) := by omega
                have z5 : (q : Int) < (m : Int) := by omega
                have hx1 := hx64.1
                have hx2 := hx64.2
                have S0 := Lib.hid s0
                have S1 := Lib.hid s1
                clear hx yr s2 hx64 s0 s1 o1 y1 xc hax
                go_wp2_with fail
                refine begin_T 14 (fun w' => w'.cell? ⟨G, p, none⟩ = some (.slice (some ⟨R p, 0, none⟩) m cG) ∧ w'.cell? ⟨bl, ol + p, none⟩ = some (.slice (some ⟨bx, ox, none⟩) m (C p)) ∧ w'.cell? ⟨bx, ox + q, none⟩ = some (.int .i64 x)) (by kernel_rfl) (hK.out _ hbD) (fun hHeld => ?_)
                refine first_T (i := 0) (v := ?_) rfl (by kernel_rfl) (fun _ _ _ h => h) (by rfl) (fun w hSw => ?_) hHeld ?_
                rotate_left
                · ((try dsimp only at hSw); go_simp; (try with_reducible rfl))
                try simp only [Act.put, List.setIfInBounds_toArray, List.set_cons_zero, List.set_cons_succ]
                refine first_T (i := 1) (v := ?_) rfl (by kernel_rfl) (fun _ _ _ h => h) (by rfl) (fun w hSw => ?_) hHeld ?_
                rotate_left
                · ((try dsimp only at hSw); go_simp; (try with_reducible rfl))
                try simp only [Act.put, List.setIfInBounds_toArray, List.set_cons_zero, List.set_cons_succ]
                refine first_T (i := 2) (v := ?_) rfl (by kernel_rfl) (fun _ _ _ h => h) (by rfl) (fun w hSw => ?_) hHeld ?_
                rotate_left
                · ((try dsimp only at hSw); go_simp; (try with_reducible rfl))
                try simp only [Act.put, List.setIfInBounds_toArray, List.set_cons_zero, List.set_cons_succ]
                refine first_T (i := 3) (v := ?_) rfl (by kernel_rfl) (fun _ _ _ h => h) (by rfl) (fun w hSw => ?_) hHeld ?_
                rotate_left
                · ((try dsimp only at hSw); go_simp; (try with_reducible rfl))
                try simp only [Act.put, List.setIfInBounds_toArray, List.set_cons_zero, List.set_cons_succ]
                refine first_T (i := 4) (v := ?_) rfl (by kernel_rfl) (fun _ _ _ h => h) (by rfl) (fun w hSw => ?_) hHeld ?_
                rotate_left
                · ((try dsimp only at hSw); go_simp; (try with_reducible rfl))
                try simp only [Act.put, List.setIfInBounds_toArray, List.set_cons_zero, List.set_cons_succ]
                refine first_T (i := 5) (v := ?_) rfl (by kernel_rfl) (fun _ _ _ h => h) (by rfl) (fun w hSw => ?_) hHeld ?_
                rotate_left
                · ((try dsimp only at hSw); go_simp; (try with_reducible rfl))
                try simp only [Act.put, List.setIfInBounds_toArray, List.set_cons_zero, List.set_cons_succ]
                refine first_T (i := 6) (v := ?_) rfl (by kernel_rfl) (fun _ _ _ h => h) (by rfl) (fun w hSw => ?_) hHeld ?_
                rotate_left
                · ((try dsimp only at hSw); go_simp; (try with_reducible rfl))
                try simp only [Act.put, List.setIfInBounds_toArray, List.set_cons_zero, List.set_cons_succ]
                refine first_T (i := 7) (v := ?_) rfl (by kernel_rfl) (fun _ _ _ h => h) (by rfl) (fun w hSw => ?_) hHeld ?_
                rotate_left
                · ((try dsimp only at hSw); go_simp; (try with_reducible rfl))
                try simp only [Act.put, List.setIfInBounds_toArray, List.set_cons_zero, List.set_cons_succ]
                refine first_T (i := 8) (v := ?_) rfl (by kernel_rfl) (fun _ _ _ h => h) (by rfl) (fun w hSw => ?_) hHeld ?_
                rotate_left
                · ((try dsimp only at hSw); go_simp; (try with_reducible rfl))
                try simp only [Act.put, List.setIfInBounds_toArray, List.set_cons_zero, List.set_cons_succ]
                refine first_T (i := 9) (v := ?_) rfl (by kernel_rfl) (fun _ _ _ h => h) (by rfl) (fun w hSw => ?_) hHeld ?_
                rotate_left
                · ((try dsimp only at hSw); go_simp; (try with_reducible rfl))
                try simp only [Act.put, List.setIfInBounds_toArray, List.set_cons_zero, List.set_cons_succ]
                refine first_T (i := 10) (v := ?_) rfl (by kernel_rfl) (fun _ _ _ h => h) (by rfl) (fun w hSw => ?_) hHeld ?_
                rotate_left
                · ((try dsimp only at hSw); go_simp; (try with_reducible rfl))
                try simp only [Act.put, List.setIfInBounds_toArray, List.set_cons_zero, List.set_cons_succ]
                refine first_T (i := 11) (v := ?_) rfl (by kernel_rfl) (fun _ _ _ h => h) (by rfl) (fun w hSw => ?_) hHeld ?_
                rotate_left
                · ((try dsimp only at hSw); go_simp; (try with_reducible rfl))
                try simp only [Act.put, List.setIfInBounds_toArray, List.set_cons_zero, List.set_cons_succ]
                refine next_T (i := 12) rfl (by kernel_rfl) (fun K hKK => ?_)
                go_simp
                refine (smallZ x hx1 hx2).mono ?_
                rintro e wn ⟨a7, c7, rfl, hr7, hbn⟩
                have hby := hbD.trans (hbn.mono hbD.size)
                have t0 := cell_keep hby S0.out
                have t1 := cell_keep hby S1.out
                have t2 := (hby.frozen (p := ⟨R p, q * 2, none⟩) hltR).trans f0
                have t3 := (hby.frozen (p := ⟨R p, q * 2 + 1, none⟩) hltR).trans f1
                go_wp2_with fail
                clear hHeld
                refine hKK.out _ _ (hK.out _ hby) (fun hHeld => ?_)
                clear hKK K hbn
                try simp only [Act.put, List.setIfInBounds_toArray, List.set_cons_zero, List.set_cons_succ]
                refine next_T (i := 13) rfl (by kernel_rfl) (fun K hKK => ?_)
                go_simp
                clear hHeld
                refine hKK.out _ _ (hK.out _ hby) (fun hHeld => ?_)
                clear hKK K
                try simp only [Act.put, List.setIfInBounds_toArray, List.set_cons_zero, List.set_cons_succ]
                refine last_T (t := 14) rfl (by kernel_rfl) (by kernel_rfl) (fun K hKK => ?_)
                go_simp
                refine hKK.out _ _ ?_
                have hB9 : Hid (Below w.heap.size w wn) := hBq.out.trans (hby.mono hBq.out.size)
                have hnx : Hid (MatZ ((wn.setCell ⟨R p, q * 2, none⟩ (.bool (sg x))).setCell ⟨R p, q * 2 + 1, none⟩ (.slice a7 (mg x).length c7)) G i m R (fillZ hs p (q + 1))) := ((hMq.out.below hby).store p q hp hq x hr7).congr fun a b ha hb => by
                  by_cases e : a = p ∧ b = q
                  · obtain ⟨rfl, rfl⟩ := e
                    rw [if_pos ⟨rfl, rfl⟩]
                    unfold fillZ
                    rw [if_pos (by omega)]; exact HXE.out.symm
                  · rw [if_neg e]
                    unfold fillZ
                    by_cases h : a < p ∨ (a = p ∧ b < q)
                    · rw [if_pos h, if_pos (by omega)]
                    · rw [if_neg h, if_neg (by omega)]
                have hbx : Hid (Below w.heap.size w ((wn.setCell ⟨R p, q * 2, none⟩ (.bool (sg x))).setCell ⟨R p, q * 2 + 1, none⟩ (.slice a7 (mg x).length c7))) := (hB9.out.setCell (p := ⟨R p, q * 2, none⟩) hRp _).setCell (p := ⟨R p, q * 2 + 1, none⟩) hRp _
                clear hKK K hHeld hby hbD hr7 t0 t1 t2 t3
                go_wp2_with fail
                go_roundw
                case rel =>
                  first
                    | exact ⟨q + 1, by omega, by go_num, hnx, hbx⟩
                    | ((repeat apply Exists.intro); exact ⟨⟨q + 1, by omega, by go_num, hnx, hbx⟩, rfl⟩)
                case measure => simp [intOf]; omega
              · obtain rfl : q = m := by omega
                have hnx : Hid (MatZ wr G i q R (fillZ hs (p + 1) 0)) := hMq.out.congr fun a b ha hb => by
                  unfold fillZ
                  by_cases h : a < p ∨ (a = p ∧ b < q)
                  · rw [if_pos h, if_pos (by omega)]
                  · rw [if_neg h, if_neg (by omega)]
                go_wp2_with fail
                go_roundw
                case rel => exact ⟨p + 1, by omega, by go_num, hnx, hBq⟩
                case measure => simp [intOf]; omega
          · obtain rfl : p = i := by omega
            have hfin : Hid (MatZ wr G hs.length (hs.getD 0 []).length R (ent hs)) := by
              rw [HLM.out, ← HMM.out]
              exact hMp.out.congr fun a b ha hb => by unfold fillZ; rw [if_pos (by omega)]
            go_wp2_with fail
            go_ret2
            exact givesM_yes hyes.out HLM.out hfin.out hBp.out
end Go.Proofs.YtfpcfcegdjlggaaGreat
namespace Go.Proofs.YtfpcfcegdjlggaaGreat
open Minor

/-- The conditions from step k on. -/
structure From (a : Nat → Nat → Int) (n k : Nat) : Prop where
  pos : ∀ m, k < m → m ≤ n → 0 < D a m
  sized : ∀ m i, k ≤ m → m < i → i < n → 2 * (B a m i m).natAbs ≤ (D a (m + 1)).natAbs
  lovasz : ∀ m, k ≤ m → m + 1 < n → 3 * D a (m + 1) ≤ 4 * B a m (m + 1) (m + 1)
  last : D a n ≤ 10000

theorem red_iff {a : Nat → Nat → Int} {n : Nat} (hn : n ≤ 8) (hsym : ∀ i j, i < n → j < n → a i j = a j i) : ∀ (r k : Nat) (F : Nat → Int) (d : Int), r + k = n → (∀ i j, k ≤ j → j ≤ i → i < n → F (1 + i * 8 + j) = B a k i j) → d = D a k → (∀ m, m ≤ k → 0 < D a m) →
    (Red n r k F d ↔ From a n k ∧ ∀ m i j, k < m → m ≤ j → j ≤ i → i < n → Small (B a m i j))
  | 0, k, F, d, hk, hF, hd, hp => by
    obtain rfl : k = n := by omega
    subst hd
    unfold Red
    constructor
    · intro h
      exact ⟨⟨fun m h1 h2 => by omega, fun m i h1 h2 h3 => by omega, fun m h1 h2 => by omega, h⟩, fun m i j h1 h2 h3 h4 => by omega⟩
    · exact fun h => h.1.last
  | r + 1, k, F, d, hk, hF, hd, hp => by
    have hkn : k < n := by omega
    have hne : ∀ m, m ≤ k → D a m ≠ 0 := fun m hm => by have := hp m hm; omega
    have hkk : F (1 + k * 8 + k) = D a (k + 1) := by rw [hF k k (Nat.le_refl _) (Nat.le_refl _) hkn, D_succ]
    have hred : RedAt n F k ↔ 0 < D a (k + 1) ∧ (∀ i, k < i → i < n → 2 * (B a k i k).natAbs ≤ (D a (k + 1)).natAbs) ∧ (k + 1 < n → 3 * D a (k + 1) ≤ 4 * B a k (k + 1) (k + 1)) := by
      unfold RedAt
      rw [hkk]
      constructor
      · rintro ⟨h1, h2, h3⟩
        refine ⟨h1, fun i hi hin => ?_, fun h => ?_⟩
        · have := h2 i hi hin
          rw [hF i k (Nat.le_refl _) (by omega) hin] at this
          omega
        · rcases h3 with h3 | h3
          · omega
          · rw [hF (k + 1) (k + 1) (by omega) (Nat.le_refl _) h] at h3
            exact h3
      · rintro ⟨h1, h2, h3⟩
        refine ⟨h1, fun i hi hin => ?_, ?_⟩
        · have := h2 i hi hin
          rw [hF i k (Nat.le_refl _) (by omega) hin]
          omega
        · by_cases h : k + 1 < n
          · right
            rw [hF (k + 1) (k + 1) (by omega) (Nat.le_refl _) h]
            exact h3 h
          · left; omega
    have hstep : 0 < D a (k + 1) → ∀ i j, k < j → j ≤ i → i < n → stepE F k d i j = B a (k + 1) i j := fun h1 i j h2 h3 h4 => by
      have hne1 : ∀ m, m ≤ k + 1 → D a m ≠ 0 := fun m hm => by
        by_cases e : m = k + 1
        · subst e; omega
        · exact hne m (by omega)
      unfold stepE
      rw [hkk, hF i j (by omega) h3 h4, hF i k (Nat.le_refl _) (by omega) h4, hF j k (Nat.le_refl _) (by omega) (by omega), hd, B_symm hsym k hne hkn j k (by omega) hkn, D_succ, sylvester a k i j hne1]
      exact Int.mul_tdiv_cancel_left _ (hne k (Nat.le_refl _))
    have hgo : 0 < D a (k + 1) → (Red n r (k + 1) (next n F k d) (F (1 + k * 8 + k)) ↔ From a n (k + 1) ∧ ∀ m i j, k + 1 < m → m ≤ j → j ≤ i → i < n → Small (B a m i j)) := fun h1 =>
      red_iff hn hsym r (k + 1) (next n F k d) (F (1 + k * 8 + k)) (by omega) (fun i j h2 h3 h4 => by rw [next_at ⟨by omega, h3, h4⟩ (by omega)]; exact hstep h1 i j (by omega) h3 h4) hkk (fun m hm => by
        by_cases e : m = k + 1
        · subst e; exact h1
        · exact hp m (by omega))
    show (RedAt n F k ∧ Lims n F k d ∧ Red n r (k + 1) (next n F k d) (F (1 + k * 8 + k))) ↔ _
    rw [hred]
    constructor
    · rintro ⟨⟨h1, h2, h3⟩, h4, h5⟩
      obtain ⟨hf, hs⟩ := (hgo h1).1 h5
      refine ⟨⟨fun m a1 a2 => ?_, fun m i a1 a2 a3 => ?_, fun m a1 a2 => ?_, hf.last⟩, fun m i j a1 a2 a3 a4 => ?_⟩
      · by_cases e : m = k + 1
        · subst e; exact h1
        · exact hf.pos m (by omega) a2
      · by_cases e : m = k
        · subst e; exact h2 i a2 a3
        · exact hf.sized m i (by omega) a2 a3
      · by_cases e : m = k
        · subst e; exact h3 a2
        · exact hf.lovasz m (by omega) a2
      · by_cases e : m = k + 1
        · subst e
          rw [← hstep h1 i j (by omega) a3 a4]
          exact h4 i j (by omega) a3 a4
        · exact hs m i j (by omega) a2 a3 a4
    · rintro ⟨hf, hs⟩
      have h1 := hf.pos (k + 1) (by omega) (by omega)
      refine ⟨⟨h1, fun i a1 a2 => hf.sized k i (Nat.le_refl _) a1 a2, fun a1 => hf.lovasz k (Nat.le_refl _) a1⟩, fun i j a1 a2 a3 => ?_, (hgo h1).2 ⟨⟨fun m a1 a2 => hf.pos m (by omega) a2, fun m i a1 a2 a3 => hf.sized m i (by omega) a2 a3, fun m a1 a2 => hf.lovasz m (by omega) a2, hf.last⟩, fun m i j a1 a2 a3 a4 => hs m i j (by omega) a2 a3 a4⟩⟩
      rw [hstep h1 i j a1 a2 a3]
      exact hs (k + 1) i j (by omega) (by omega) a2 a3

theorem D_pos0 (a : Nat → Nat → Int) : ∀ m, m ≤ 0 → 0 < D a m := fun m hm => by
  obtain rfl : m = 0 := by omega
  rw [D_zero]; decide

/-- WHAT A REDUCED FORM IS, by minors: shape, symmetry, positive leading minors, the last one at most 10000, and the conditions 3 and 4. -/
def IsReducedForm (hs : List (List Int)) : Prop :=
  (1 ≤ hs.length ∧ hs.length ≤ 8) ∧ (∀ i, i < hs.length → (hs.getD i []).length = hs.length) ∧ Conds (ent hs) hs.length ∧ D (ent hs) hs.length ≤ 10000

theorem isRed_iff (hs : List (List Int)) : IsRed hs ↔ IsReducedForm hs := by
  constructor
  · rintro ⟨⟨h1, h2, h3⟩, h4⟩
    have hsym : ∀ i j, i < hs.length → j < hs.length → ent hs i j = ent hs j i := fun i j hi hj => by
      by_cases e : j ≤ i
      · exact (h3 i j e hi).1
      · exact ((h3 j i (by omega) hj).1).symm
    obtain ⟨hf, _⟩ := (red_iff h1.2 hsym hs.length 0 (cellsOf hs) 1 rfl (fun i j _ hj hi => by rw [cellsOf_at hs i j (by omega), B_zero]) rfl (D_pos0 _)).1 h4
    exact ⟨h1, h2, ⟨hsym, fun m hm => by
      by_cases e : m = 0
      · subst e; rw [D_zero]; decide
      · exact hf.pos m (by omega) hm, fun k i a b => hf.sized k i (Nat.zero_le _) a b, fun k a => hf.lovasz k (Nat.zero_le _) a⟩, hf.last⟩
  · rintro ⟨h1, h2, hc, hl⟩
    have hd : (D (ent hs) hs.length).natAbs ≤ 10000 := by have := hc.pos hs.length (Nat.le_refl _); omega
    have hsm : ∀ m i j, m ≤ j → j ≤ i → i < hs.length → Small (B (ent hs) m i j) := fun m i j a b c => by
      have := hc.small h1.2 hd m i j a b c
      unfold Small
      omega
    refine ⟨⟨h1, h2, fun i j hj hi => ⟨hc.sym i j hi (by omega), by rw [← B_zero (ent hs) i j]; exact hsm 0 i j (Nat.zero_le _) hj hi⟩⟩, ?_⟩
    refine (red_iff h1.2 hc.sym hs.length 0 (cellsOf hs) 1 rfl (fun i j _ hj hi => by rw [cellsOf_at hs i j (by omega), B_zero]) rfl (D_pos0 _)).2 ⟨⟨fun m _ a => hc.pos m a, fun m i _ a b => hc.sized m i a b, fun m _ a => hc.lovasz m a, hl⟩, fun m i j _ a b c => hsm m i j a b c⟩
end Go.Proofs.YtfpcfcegdjlggaaGreat
namespace Go.Proofs.YtfpcfcegdjlggaaGreat
open Minor

/-- The determinant of the first n rows and columns, as the reference reckons it. -/
def detL (a : Nat → Nat → Int) (n : Nat) : Int := detP n n 0 a 1 false
theorem detL_eq {a : Nat → Nat → Int} {n : Nat} (hD : ∀ m, m < n → D a m ≠ 0) : detL a n = D a n := det_minor hD

/-- The rows 0 .. j-1, i. -/
def rowsL (a : Nat → Nat → Int) (i j : Nat) (p q : Nat) : Int := if p < j then a p q else a i q
def lamL (a : Nat → Nat → Int) (i j : Nat) : Int := detL (rowsL a i j) (j + 1)

theorem lamL_eq {a : Nat → Nat → Int} {i j : Nat} (hD : ∀ m, m ≤ j → D a m ≠ 0) : lamL a i j = B a j i j := by
  have h1 : ∀ m, m ≤ j → D (rowsL a i j) m = D a m := fun m hm => D_local m fun p c hp _ => by unfold rowsL; rw [if_pos (by omega)]
  unfold lamL
  rw [detL_eq fun m hm => by rw [h1 m (by omega)]; exact hD m (by omega)]
  exact D_lambda i j (fun p c hp _ => by unfold rowsL; rw [if_pos hp]) fun c _ => by unfold rowsL; rw [if_neg (by omega)]

/-- All leading minors, as the reference reckons them, are positive exactly if they are. -/
theorem leading_pos (a : Nat → Nat → Int) (n : Nat) : (∀ k, k < n → 0 < detL a (k + 1)) ↔ ∀ m, m ≤ n → 0 < D a m := by
  constructor
  · intro h m
    induction m using Nat.strongRecOn with
    | ind m ih =>
      intro hm
      cases m with
      | zero => rw [D_zero]; decide
      | succ k =>
        have := h k (by omega)
        rwa [detL_eq fun m' hm' => by have := ih m' hm' (by omega); omega] at this
  · intro h k hk
    rw [detL_eq fun m hm => by have := h m (by omega); omega]
    exact h (k + 1) hk

/-- The reference's conditions. -/
def RefRed (hs : List (List Int)) : Prop :=
  (1 ≤ hs.length ∧ hs.length ≤ 8) ∧ (∀ i, i < hs.length → (hs.getD i []).length = hs.length) ∧ (∀ i j, i < hs.length → j < i → ent hs i j = ent hs j i) ∧ (∀ k, k < hs.length → 0 < detL (ent hs) (k + 1)) ∧ detL (ent hs) hs.length ≤ 10000 ∧
  (∀ i j, i < hs.length → j < i → 2 * (lamL (ent hs) i j).natAbs ≤ (detL (ent hs) (j + 1)).natAbs) ∧
  (∀ i, i + 1 < hs.length → 3 * (detL (ent hs) (i + 1) * detL (ent hs) (i + 1)) ≤ 4 * (detL (ent hs) i * detL (ent hs) (i + 2) + lamL (ent hs) (i + 1) i * lamL (ent hs) (i + 1) i))

theorem lovasz_iff {a : Nat → Nat → Int} {n : Nat} (hsym : ∀ i j, i < n → j < n → a i j = a j i) (hD : ∀ m, m ≤ n → 0 < D a m) (k : Nat) (hk : k + 1 < n) :
    3 * (D a (k + 1) * D a (k + 1)) ≤ 4 * (D a k * D a (k + 2) + B a k (k + 1) k * B a k (k + 1) k) ↔ 3 * D a (k + 1) ≤ 4 * B a k (k + 1) (k + 1) := by
  have hne : ∀ m, m ≤ k + 1 → D a m ≠ 0 := fun m hm => by have := hD m (by omega); omega
  have h1 := sylvester a k (k + 1) (k + 1) hne
  rw [← D_succ, ← D_succ, B_symm hsym k (fun m hm => hne m (by omega)) (by omega) k (k + 1) (by omega) hk] at h1
  have e : D a k * D a (k + 2) + B a k (k + 1) k * B a k (k + 1) k = D a (k + 1) * B a k (k + 1) (k + 1) := by
    have h2 : D a k * D a (k + 1 + 1) = D a k * D a (k + 2) := rfl
    rw [h2] at h1
    omega
  rw [e]
  have hp := hD (k + 1) (by omega)
  have e1 : 3 * (D a (k + 1) * D a (k + 1)) = D a (k + 1) * (3 * D a (k + 1)) := by grind
  have e2 : 4 * (D a (k + 1) * B a k (k + 1) (k + 1)) = D a (k + 1) * (4 * B a k (k + 1) (k + 1)) := by grind
  rw [e1, e2]
  exact ⟨fun h => Int.le_of_mul_le_mul_left h hp, fun h => Int.mul_le_mul_of_nonneg_left h (Int.le_of_lt hp)⟩

theorem refRed_iff (hs : List (List Int)) : RefRed hs ↔ IsReducedForm hs := by
  constructor
  · rintro ⟨h1, h2, h3, h4, h5, h6, h7⟩
    have hp := (leading_pos (ent hs) hs.length).1 h4
    have hne : ∀ m, m ≤ hs.length → D (ent hs) m ≠ 0 := fun m hm => by have := hp m hm; omega
    have hd : ∀ m, m ≤ hs.length → detL (ent hs) m = D (ent hs) m := fun m hm => detL_eq fun m' hm' => hne m' (by omega)
    have hl : ∀ i j, j < hs.length → lamL (ent hs) i j = B (ent hs) j i j := fun i j hj => lamL_eq fun m hm => hne m (by omega)
    have hsym : ∀ i j, i < hs.length → j < hs.length → ent hs i j = ent hs j i := fun i j hi hj => by
      rcases Nat.lt_trichotomy i j with e | e | e
      · exact (h3 j i hj e).symm
      · rw [e]
      · exact h3 i j hi e
    refine ⟨h1, h2, ⟨hsym, hp, fun k i a b => ?_, fun k a => ?_⟩, by rw [← hd _ (Nat.le_refl _)]; exact h5⟩
    · have := h6 i k b a
      rwa [hl i k (by omega), hd _ (by omega)] at this
    · have := h7 k a
      rw [hd _ (by omega), hd _ (by omega), hd _ (by omega), hl _ _ (by omega)] at this
      exact (lovasz_iff hsym hp k a).1 this
  · rintro ⟨h1, h2, hc, h5⟩
    have hne : ∀ m, m ≤ hs.length → D (ent hs) m ≠ 0 := fun m hm => by have := hc.pos m hm; omega
    have hd : ∀ m, m ≤ hs.length → detL (ent hs) m = D (ent hs) m := fun m hm => detL_eq fun m' hm' => hne m' (by omega)
    have hl : ∀ i j, j < hs.length → lamL (ent hs) i j = B (ent hs) j i j := fun i j hj => lamL_eq fun m hm => hne m (by omega)
    refine ⟨h1, h2, fun i j a b => hc.sym i j a (by omega), (leading_pos _ _).2 hc.pos, by rw [hd _ (Nat.le_refl _)]; exact h5, fun i j a b => ?_, fun i a => ?_⟩
    · rw [hl i j (by omega), hd _ (by omega)]
      exact hc.sized j i b a
    · rw [hd _ (by omega), hd _ (by omega), hd _ (by omega), hl _ _ (by omega)]
      exact (lovasz_iff hc.sym hc.pos i a).2 (hc.lovasz i a)

/-- THE PROGRAM's IsReduced AND THE REFERENCE's conditions are the same. -/
theorem isRed_ref (hs : List (List Int)) : IsRed hs ↔ RefRed hs := (isRed_iff hs).trans (refRed_iff hs).symm
end Go.Proofs.YtfpcfcegdjlggaaGreat
namespace Go.Proofs.YtfpcfcegdjlggaaGreat
open Go.RowKit Minor

theorem cB_zero : 9223372036854775808 ≤ cB 0 := Nat.le_trans (by decide : 9223372036854775808 ≤ 2 ^ 63) (cB_ge 0 63 (by decide))

theorem rdM_bound {w : World} {a : Option Addr} {c : Nat} {hs : List (List Int)} (h : RdM w a c hs) (i j : Nat) (hi : i < hs.length) : (ent hs i j).natAbs ≤ cB 0 := by
  obtain ⟨_, _, _, _, _, _, hr, _⟩ := h.rows i hi
  have := hr.get j
  have h0 := cB_zero
  unfold ent
  unfold I64 at this
  omega

theorem redZ_iff (hs : List (List Int)) : (Shaped hs ∧ (hs.length = (hs.getD 0 []).length ∧ hs.length ≤ 8 ∧ SymN (ent hs) hs.length ∧ ∀ k, k < hs.length → 0 < detZ (ent hs) (k + 1)) ∧ detZ (ent hs) hs.length ≤ 10000 ∧ RedZ (ent hs) hs.length) ↔ RefRed hs := by
  constructor
  · rintro ⟨⟨h1, h2⟩, ⟨h3, h4, h5, h6⟩, h7, h8⟩
    refine ⟨⟨h1.1, h4⟩, fun i hi => by have := (h2 i hi).2.2; omega, fun i j hi hj => h5 i j hi hj, h6, h7, fun i j hi hj => ?_, fun i hi => ?_⟩
    · have := (h8 i hi).1 j hj
      have hp := h6 j (by omega)
      unfold SizedZ at this
      show 2 * (lamZ (ent hs) i j).natAbs ≤ (detZ (ent hs) (j + 1)).natAbs
      omega
    · exact (h8 (i + 1) hi).2 (by omega)
  · rintro ⟨h1, h2, h3, h4, h5, h6, h7⟩
    refine ⟨⟨⟨h1.1, by omega⟩, fun i hi => ?_⟩, ⟨?_, h1.2, fun i j hi hj => h3 i j hi hj, h4⟩, h5, fun i hi => ⟨fun j hj => ?_, fun h0 => ?_⟩⟩
    · have a := h2 i hi
      have b := h2 0 (by omega)
      omega
    · exact (h2 0 (by omega)).symm
    · have := h6 i j hi hj
      have hp : 0 < detZ (ent hs) (j + 1) := h4 j (by omega)
      have this' : 2 * (lamZ (ent hs) i j).natAbs ≤ (detZ (ent hs) (j + 1)).natAbs := this
      unfold SizedZ
      omega
    · obtain ⟨q, rfl⟩ : ∃ q, i = q + 1 := ⟨i - 1, by omega⟩
      exact h7 q hi

set_option maxRecDepth 100000 in
set_option maxHeartbeats 4000000 in
theorem risreduced_any (ah : Option Addr) (nh caph : Nat) (hs : List (List Int)) (w : World) (hrm : RdM w ah caph hs) (hlm : hs.length = nh) (hnh : nh ≤ 100000000000000) :
    Calls Tryz.prog 35 #[.slice ah nh caph] w fun e w' => ∃ r : Bool, e = .returned (.bool r) ∧ (r = true ↔ RefRed hs) ∧ Below w.heap.size w w' := by
  have HRM := Lib.hid hrm
  have HLM := Lib.hid hlm
  have HBD : Hid (∀ i j, i < hs.length → (ent hs i j).natAbs ≤ cB 0) := fun i j hi => rdM_bound hrm i j hi
  clear hrm hlm
  go_enter Tryz.func35, Tryz.ntmps35
  go_wp2_with fail
  refine (rfromints_any ah nh caph hs _ HRM.out HLM.out hnh).mono ?_
  rintro e w1 ⟨(⟨hno, rfl⟩ | ⟨hsh, g, cap, R, rfl, hM⟩), hb1⟩
  · have hnr : Hid (¬RefRed hs) := fun h => hno ((redZ_iff hs).2 h).1
    have HB1 := Lib.hid hb1
    clear hno hb1
    go_wp2_with fail
    go_ret
    exact ⟨false, rfl, ⟨fun h => by simp at h, fun h => absurd h hnr.out⟩, HB1.out⟩
  · obtain ⟨n, hn⟩ : ∃ n, n = hs.length := ⟨_, rfl⟩
    obtain ⟨m, hm⟩ : ∃ m, m = (hs.getD 0 []).length := ⟨_, rfl⟩
    have hsh2 := hsh
    obtain ⟨hn12, hrows⟩ := hsh2
    have hm12 := hrows 0 (by omega)
    rw [← hm] at hm12
    rw [← hn] at hM hn12 ⊢
    rw [← hm] at hM
    have HSH := Lib.hid hsh
    have HM := Lib.hid hM
    have HB1 := Lib.hid hb1
    have HN := Lib.hid hn
    have HMM := Lib.hid hm
    have hnn1 := hn12.1
    have hnn2 := hn12.2
    have hmm1 := hm12.1
    have hmm2 := hm12.2.1
    clear hsh hM hb1 hm12 hrows hn12 hn hm
    go_wp2_with fail
    refine (rvalidate_any g n m cap R (ent hs) _ HM.out hnn1 hnn2 hmm1 hmm2 (fun i j hi _ => HBD.out i j (by rw [← HN.out]; exact hi))).mono ?_
    rintro e w2 ⟨r, rfl, hr, hb2⟩
    have HM2 := Lib.hid (HM.out.below hb2)
    have HB2 : Hid (Below w.heap.size w w2) := HB1.out.trans (hb2.mono HB1.out.size)
    clear hb2 HM HB1
    by_cases h0 : r = 0
    · subst h0
      obtain ⟨hnm, hn8, hsy, hpos⟩ := hr.1 rfl
      have HV : Hid (hs.length = (hs.getD 0 []).length ∧ hs.length ≤ 8 ∧ SymN (ent hs) hs.length ∧ ∀ k, k < hs.length → 0 < detZ (ent hs) (k + 1)) := by
        unfold Hid
        rw [← HN.out, ← HMM.out]; exact ⟨hnm, hn8, hsy, hpos⟩
      subst hnm
      clear hr hsy hpos
      go_wp2_with fail
      refine (rsmall_form g n cap R (ent hs) _ HM2.out hnn1 hn8 (fun i j hi _ => HBD.out i j (by rw [← HN.out]; exact hi))).mono ?_
      rintro e w3 ⟨r, rfl, hr, hb3⟩
      have HM3 := Lib.hid (HM2.out.below hb3)
      have HB3 : Hid (Below w.heap.size w w3) := HB2.out.trans (hb3.mono HB2.out.size)
      clear hb3 HM2 HB2
      cases r with
      | false =>
        have hnr : Hid (¬RefRed hs) := fun h => by
          have h1 := ((redZ_iff hs).2 h).2.2.1
          rw [← HN.out] at h1
          have := hr.2 h1
          simp at this
        clear hr
        go_wp2_with fail
        go_ret
        exact ⟨false, rfl, ⟨fun h => by simp at h, fun h => absurd h hnr.out⟩, HB3.out⟩
      | true =>
        have HS3 : Hid (detZ (ent hs) hs.length ≤ 10000) := by unfold Hid; rw [← HN.out]; exact hr.1 rfl
        clear hr
        go_wp2_with fail
        refine (rreduced_any g n cap R (ent hs) _ HM3.out hnn1 hn8 (fun i j hi _ => HBD.out i j (by rw [← HN.out]; exact hi))).mono ?_
        rintro e w4 ⟨r, rfl, hr, hb4⟩
        have HB4 : Hid (Below w.heap.size w w4) := HB3.out.trans (hb4.mono HB3.out.size)
        have hfin : Hid (r = true ↔ RefRed hs) := by
          unfold Hid
          rw [hr, ← redZ_iff hs, HN.out]
          exact ⟨fun h => ⟨HSH.out, HV.out, HS3.out, h⟩, fun h => h.2.2.2⟩
        clear hb4 hr HM3 HB3
        go_wp2_with fail
        go_ret
        exact ⟨r, rfl, hfin.out, HB4.out⟩
    · have hnr : Hid (¬RefRed hs) := fun h => by
        have h1 := ((redZ_iff hs).2 h).2.1
        rw [← HN.out, ← HMM.out] at h1
        exact h0 (hr.2 h1)
      have hb0 : (r == 0) = false := by simpa using h0
      clear hr h0
      go_wp2_with fail
      go_ret
      exact ⟨false, rfl, ⟨fun h => by simp at h, fun h => absurd h hnr.out⟩, HB2.out⟩
end Go.Proofs.YtfpcfcegdjlggaaGreat
namespace Go.Proofs.YtfpcfcegdjlggaaGreat
open Go.RowKit Minor

set_option maxRecDepth 100000 in
set_option maxHeartbeats 4000000 in
theorem rcolumn_any (a : Option Addr) (n cap : Nat) (xs : List Int) (w : World) (hr : RdI w a cap xs) (hl : xs.length = n) (h1 : 1 ≤ n) (h2 : n ≤ 100) :
    Calls Tryz.prog 82 #[.slice a n cap] w fun e w' => ∃ b c, e = .returned (.slice (some ⟨b, 0, none⟩) n c) ∧ RowZ w' b n (fun i => xs.getD i 0) ∧ Below w.heap.size w w' := by
  have HR := Lib.hid hr
  have HL := Lib.hid hl
  clear hr hl
  go_enter Tryz.func82, Tryz.ntmps82
  go_wp2_with fail
  go_loopw [3, 8] (fun vv ii wr => ∃ i : Nat, i ≤ n ∧ ii = .int .i64 (i : Int) ∧ Hid (RowB wr w.heap.size vv i (fun i => xs.getD i 0)) ∧ Hid (Below w.heap.size w wr)) (fun _ ii _ => n - (intOf ii).toNat)
  case atStart => exact ⟨0, by omega, rfl, RowB.nil _ _ _, Below.refl _ _⟩
  case round =>
    obtain ⟨i, hin, rfl, hR, hB⟩ := hrel
    by_cases hi : i < n
    · have hrr := HR.out.below hB.out
      obtain ⟨bx, ox, hax, xc⟩ := hrr.cells i (by rw [HL.out]; exact hi)
      have hx64 := hrr.get i
      obtain ⟨x, hx⟩ : ∃ x, x = xs.getD i 0 := ⟨_, rfl⟩
      rw [← hx] at xc hx64
      have hx1 := hx64.1
      have hx2 := hx64.2
      have HX := Lib.hid hx
      subst hax
      clear hrr hx64 hx
      go_wp2_with fail
      refine (smallZ x hx1 hx2).mono ?_
      rintro e w5 ⟨a5, c5, rfl, hr5, hb5⟩
      obtain ⟨W, hW⟩ : ∃ W, W = w5.alloc (.cells #[.bool (sg x), .slice a5 (mg x).length c5] 51) := ⟨_, rfl⟩
      have hbW : Below w5.heap.size w5 W := by rw [hW]; exact (Below.refl _ _).alloc (Nat.le_refl _) _
      have hBx : Box w5.heap.size (.bool (sg x)) (.slice a5 (mg x).length c5) W := by rw [hW]; exact Box.made _ _ rfl _ _ _
      have HBW : Below wr.heap.size wr W := hb5.trans (hbW.mono hb5.size)
      have hRW : Hid (RowB W w.heap.size u3 i (fun i => xs.getD i 0)) := hR.out.moved HBW
      have hBW : Hid (Below w.heap.size w W) := hB.out.trans (HBW.mono hB.out.size)
      have hc0 := Lib.hid hBx.c0
      have hc1 := Lib.hid hBx.c1
      have hL := Lib.hid (hr5.below hbW)
      have hWW : Hid (w5.alloc (.cells #[.bool (sg x), .slice a5 (mg x).length c5] 51) = W) := hW.symm
      clear hW hbW hBx HBW hr5 hb5 xc hx1 hx2
      go_wp2_with (at_builtin; rw [hWW.out]; refine app_Z rfl _ _ rfl w.heap.size _ i (fun i => xs.getD i 0) rfl hRW.out w5.heap.size _ rfl x a5 c5 hc0.out hc1.out hL.out (by omega) hBW.out.size ?_)
      intro g9 cap9 w9 q1 q2 q3 q4
      have hnx : Hid (RowB w9 w.heap.size (.slice (some ⟨g9, 0, none⟩) (i + 1) cap9) (i + 1) (fun i => xs.getD i 0)) := q1.congr fun t ht => by
        by_cases e : t = i
        · rw [if_pos e, e, HX.out]
        · rw [if_neg e]; simp
      have hbx : Hid (Below w.heap.size w w9) := by
        obtain ⟨A, C, ho, _⟩ := hRW.out
        exact below_app hBW.out ho q2
      clear q1 q2 q3 q4 hRW hc0 hc1 hL
      go_wp2_with fail
      go_roundw
      case rel => exact ⟨i + 1, by omega, by go_num, hnx, hbx⟩
      case measure => simp [intOf]; omega
    · obtain rfl : i = n := by omega
      obtain ⟨g5, cap5, hv5, _, hr5, _⟩ := hR.out.done h1
      subst hv5
      have HR5 := Lib.hid hr5
      clear hr5 hR
      go_wp2_with fail
      go_ret
      exact ⟨g5, cap5, rfl, HR5.out, hB.out⟩

/-- The sum of the products of the first n entries. -/
def dotZ (f h : Nat → Int) : Nat → Int
  | 0 => 0
  | n + 1 => dotZ f h n + f n * h n

theorem dotZ_bound {f h : Nat → Int} {t : Nat} : ∀ n, n ≤ 100 → (∀ i, i < n → (f i).natAbs ≤ cB t ∧ (h i).natAbs ≤ cB t) → (dotZ f h n).natAbs ≤ n * (cB t * cB t)
  | 0, _, _ => by simp [dotZ]
  | n + 1, hn, hb => by
    have h1 := dotZ_bound n (by omega) fun i hi => hb i (by omega)
    obtain ⟨h2, h3⟩ := hb n (by omega)
    have h4 := prod_bound h2 h3
    unfold dotZ
    have h5 : (n + 1) * (cB t * cB t) = n * (cB t * cB t) + cB t * cB t := by rw [Nat.add_mul, Nat.one_mul]
    omega

theorem cB_hundred (t : Nat) : 100 ≤ cB (t + 1) := by
  have h1 : cB 1 ≤ cB (t + 1) := cB_mono (by omega)
  have h2 : 100 ≤ cB 1 := Nat.le_trans (by decide : 100 ≤ 2 ^ 7) (cB_ge 1 7 (by decide))
  omega

theorem dot_fits {t n : Nat} (hn : n ≤ 100) : n * (cB t * cB t) ≤ cB (t + 2) := by
  have h1 := cB_step t
  have h2 := cB_step (t + 1)
  have h3 := cB_hundred t
  have h4 : n * (cB t * cB t) ≤ 100 * (cB t * cB t) := Nat.mul_le_mul_right _ hn
  have h5 : 100 * cB (t + 1) ≤ cB (t + 1) * cB (t + 1) := Nat.mul_le_mul_right _ h3
  have h6 : cB (t + 1 + 1) = cB (t + 2) := rfl
  omega

theorem dotZ_fits {f h : Nat → Int} {t n : Nat} (hn : n ≤ 100) (hb : ∀ i, i < n → (f i).natAbs ≤ cB t ∧ (h i).natAbs ≤ cB t) : (dotZ f h n).natAbs ≤ cB (t + 2) := Nat.le_trans (dotZ_bound n hn hb) (dot_fits hn)

theorem zero_row (w : World) (t : TypeId) : RowZ (w.alloc (.cells #[.bool false, .slice none 0 0] t)) w.heap.size 1 (fun _ => 0) := RowZ.made w 0 (a := none) (c := 0) (Lm.nil _ _) t

/-- What Dot has summed. -/
structure Sm (w0 w : World) (z : Int) : Prop where
  res : Box w0.heap.size (.bool false) (.slice none 0 0) w
  sum : RowZ w (w0.heap.size + 1) 1 (fun _ => z)
  below : Below w0.heap.size w0 w

theorem Sm.moved {w0 w w' : World} {z : Int} (h : Sm w0 w z) (hb : Below w.heap.size w w') : Sm w0 w' z := ⟨h.res.below hb, h.sum.belowU hb, h.below.trans (hb.mono h.below.size)⟩

theorem Sm.store {w0 w : World} {z x : Int} (h : Sm w0 w z) {a : Option Addr} {c : Nat} (hr : Lm w a c (mg x)) : Sm w0 ((w.setCell ⟨w0.heap.size + 1, 0, none⟩ (.bool (sg x))).setCell ⟨w0.heap.size + 1, 1, none⟩ (.slice a (mg x).length c)) x := by
  have hl : RowZ ((w.setCell ⟨w0.heap.size + 1, 0, none⟩ (.bool (sg x))).setCell ⟨w0.heap.size + 1, 1, none⟩ (.slice a (mg x).length c)) (w0.heap.size + 1) 1 (fun _ => x) := by
    have := h.sum.store 0 (by omega) x hr
    exact this.congr fun j hj => by rw [if_pos (by omega)]
  exact ⟨h.res.off (o := 0) (by omega) _ _, hl, (h.below.setCell (p := ⟨w0.heap.size + 1, 0, none⟩) (by show _ ≤ _ + 1; omega) _).setCell (p := ⟨w0.heap.size + 1, 1, none⟩) (by show _ ≤ _ + 1; omega) _⟩

set_option maxRecDepth 100000 in
set_option maxHeartbeats 4000000 in
theorem rdot_any (b1 b2 n _m c1 c2 t : Nat) (f h : Nat → Int) (w : World) (hf : RowZ w b1 n f) (hh : RowZ w b2 n h) (hn : n ≤ 100) (ht : t ≤ 8) (hb : ∀ i, i < n → (f i).natAbs ≤ cB t ∧ (h i).natAbs ≤ cB t) :
    Calls Tryz.prog 83 #[.slice (some ⟨b1, 0, none⟩) n c1, .slice (some ⟨b2, 0, none⟩) n c2] w (GivesZ w (dotZ f h n)) := by
  obtain ⟨W, hW⟩ : ∃ W, W = (w.alloc (.cells #[.bool false, .slice none 0 0] 51)).alloc (.cells #[.bool false, .slice none 0 0] 51) := ⟨_, rfl⟩
  have hst : Hid (Sm w W (dotZ f h 0)) := by
    rw [hW]
    refine ⟨(Box.made _ _ rfl _ _ _).alloc _, ?_, ((Below.refl _ _).alloc (Nat.le_refl _) _).alloc (by simp) _⟩
    have := zero_row (w.alloc (.cells #[.bool false, .slice none 0 0] 51)) 51
    rw [World.size_alloc] at this
    exact this
  have HF := Lib.hid hf
  have HH := Lib.hid hh
  have HB := Lib.hid hb
  have HWW : Hid ((w.alloc (.cells #[.bool false, .slice none 0 0] 51)).alloc (.cells #[.bool false, .slice none 0 0] 51) = W) := hW.symm
  clear hf hh hb hW
  go_enter Tryz.func83, Tryz.ntmps83
  go_wp2_with fail
  rw [HWW.out]
  go_loopw [10] (fun ii wr => ∃ i : Nat, i ≤ n ∧ ii = .int .i64 (i : Int) ∧ Hid (Sm w wr (dotZ f h i))) (fun ii _ => n - (intOf ii).toNat)
  case atStart => exact ⟨0, by omega, rfl, hst⟩
  case round =>
    obtain ⟨i, hin, rfl, hS⟩ := hrel
    clear hst
    by_cases hi : i < n
    · obtain ⟨a1, d1, x1, y1, r1⟩ := (HF.out.belowU hS.out.below).c i hi
      obtain ⟨a2, d2, x2, y2, r2⟩ := (HH.out.belowU hS.out.below).c i hi
      obtain ⟨a5, d5, x5, y5, r5⟩ := hS.out.sum.c 0 (by omega)
      have x5' : wr.cell? ⟨w.heap.size + 1, 0, none⟩ = some (.bool (sg (dotZ f h i))) := x5
      have y5' : wr.cell? ⟨w.heap.size + 1, 1, none⟩ = some (.slice a5 (mg (dotZ f h i)).length d5) := y5
      have hlt := hS.out.sum.lt
      have f0 := hS.out.sum.fr 0
      have f1 := hS.out.sum.fr 1
      obtain ⟨hbf, hbh⟩ := HB.out i hi
      have hbs : (dotZ f h i).natAbs ≤ cB (t + 2) := dotZ_fits (by omega) fun j hj => HB.out j (by omega)
      have hcs := cB_step t
      have hps := prod_bound hbf hbh
      have hle := cB_le (t + 1)
      obtain ⟨v1, hv1⟩ : ∃ v, v = f i := ⟨_, rfl⟩
      obtain ⟨v2, hv2⟩ : ∃ v, v = h i := ⟨_, rfl⟩
      obtain ⟨s, hs⟩ : ∃ s, s = dotZ f h i := ⟨_, rfl⟩
      rw [← hv1] at x1 y1 r1 hbf hps
      rw [← hv2] at x2 y2 r2 hbh hps
      rw [← hs] at x5' y5' r5 hbs
      have k1 : Hid ((mg v1).length ≤ 1000000) := cB_short (by omega) hbf
      have k2 : Hid ((mg v2).length ≤ 1000000) := cB_short (by omega) hbh
      have k3 : Hid ((mg (v1 * v2)).length ≤ 1000000) := cB_short (k := t + 1) (by omega) (by omega)
      have k4 : Hid ((mg s).length ≤ 1000000) := cB_short (k := t + 2) (by omega) hbs
      have HE : Hid (dotZ f h (i + 1) = s + v1 * v2) := by unfold Hid; rw [hs, hv1, hv2]; rfl
      have hK : Hid (∀ w', Below wr.heap.size wr w' → w'.cell? ⟨w.heap.size + 1, 0, none⟩ = some (.bool (sg s)) ∧ w'.cell? ⟨w.heap.size + 1, 1, none⟩ = some (.slice a5 (mg s).length d5) ∧ w'.cell? ⟨b1, i * 2, none⟩ = some (.bool (sg v1)) ∧ w'.cell? ⟨b1, i * 2 + 1, none⟩ = some (.slice a1 (mg v1).length d1) ∧ w'.cell? ⟨b2, i * 2, none⟩ = some (.bool (sg v2)) ∧ w'.cell? ⟨b2, i * 2 + 1, none⟩ = some (.slice a2 (mg v2).length d2)) :=
        fun w' h => ⟨cell_keep h x5', cell_keep h y5', cell_keep h x1, cell_keep h y1, cell_keep h x2, cell_keep h y2⟩
      have hR1 : Hid (∀ w', Below wr.heap.size wr w' → Lm w' a1 d1 (mg v1)) := fun w' h => r1.below h
      have hR2 : Hid (∀ w', Below wr.heap.size wr w' → Lm w' a2 d2 (mg v2)) := fun w' h => r2.below h
      have hR5 : Hid (∀ w', Below wr.heap.size wr w' → Lm w' a5 d5 (mg s)) := fun w' h => r5.below h
      have hbD : Below wr.heap.size wr wr.drew := (Below.refl _ _).drew
      have z1 : (0 : Int) ≤ (i : Int) := by omega
      have z2 : (i : Int) < (n : Int) := by omega
      have X5 := Lib.hid x5'
      have Y5 := Lib.hid y5'
      have HSV := Lib.hid hs
      clear x5 y5 r1 r2 r5 hv1 hv2 hs hbf hbh hbs hcs hps hle x1 y1 x2 y2 x5' y5'
      go_wp2_with fail
      refine begin_T 11 (fun w' => w'.cell? ⟨w.heap.size + 1, 0, none⟩ = some (.bool (sg s)) ∧ w'.cell? ⟨w.heap.size + 1, 1, none⟩ = some (.slice a5 (mg s).length d5) ∧ w'.cell? ⟨b1, i * 2, none⟩ = some (.bool (sg v1)) ∧ w'.cell? ⟨b1, i * 2 + 1, none⟩ = some (.slice a1 (mg v1).length d1) ∧ w'.cell? ⟨b2, i * 2, none⟩ = some (.bool (sg v2)) ∧ w'.cell? ⟨b2, i * 2 + 1, none⟩ = some (.slice a2 (mg v2).length d2)) (by kernel_rfl) (hK.out _ hbD) (fun hHeld => ?_)
      refine first_T (i := 0) (v := ?_) rfl (by kernel_rfl) (fun _ _ _ h => h) (by rfl) (fun w hSw => ?_) hHeld ?_
      rotate_left
      · ((try dsimp only at hSw); go_simp; (try with_reducible rfl))
      try simp only [Act.put, List.setIfInBounds_toArray, List.set_cons_zero, List.set_cons_succ]
      refine first_T (i := 1) (v := ?_) rfl (by kernel_rfl) (fun _ _ _ h => h) (by rfl) (fun w hSw => ?_) hHeld ?_
      rotate_left
      · ((try dsimp only at hSw); go_simp; (try with_reducible rfl))
      try simp only [Act.put, List.setIfInBounds_toArray, List.set_cons_zero, List.set_cons_succ]
      refine first_T (i := 2) (v := ?_) rfl (by kernel_rfl) (fun _ _ _ h => h) (by rfl) (fun w hSw => ?_) hHeld ?_
      rotate_left
      · ((try dsimp only at hSw); go_simp; (try with_reducible rfl))
      try simp only [Act.put, List.setIfInBounds_toArray, List.set_cons_zero, List.set_cons_succ]
      refine first_T (i := 3) (v := ?_) rfl (by kernel_rfl) (fun _ _ _ h => h) (by rfl) (fun w hSw => ?_) hHeld ?_
      rotate_left
      · ((try dsimp only at hSw); go_simp; (try with_reducible rfl))
      try simp only [Act.put, List.setIfInBounds_toArray, List.set_cons_zero, List.set_cons_succ]
      refine first_T (i := 4) (v := ?_) rfl (by kernel_rfl) (fun _ _ _ h => h) (by rfl) (fun w hSw => ?_) hHeld ?_
      rotate_left
      · ((try dsimp only at hSw); go_simp; (try with_reducible rfl))
      try simp only [Act.put, List.setIfInBounds_toArray, List.set_cons_zero, List.set_cons_succ]
      refine first_T (i := 5) (v := ?_) rfl (by kernel_rfl) (fun _ _ _ h => h) (by rfl) (fun w hSw => ?_) hHeld ?_
      rotate_left
      · ((try dsimp only at hSw); go_simp; (try with_reducible rfl))
      try simp only [Act.put, List.setIfInBounds_toArray, List.set_cons_zero, List.set_cons_succ]
      refine first_T (i := 6) (v := ?_) rfl (by kernel_rfl) (fun _ _ _ h => h) (by rfl) (fun w hSw => ?_) hHeld ?_
      rotate_left
      · ((try dsimp only at hSw); go_simp; (try with_reducible rfl))
      try simp only [Act.put, List.setIfInBounds_toArray, List.set_cons_zero, List.set_cons_succ]
      refine first_T (i := 7) (v := ?_) rfl (by kernel_rfl) (fun _ _ _ h => h) (by rfl) (fun w hSw => ?_) hHeld ?_
      rotate_left
      · ((try dsimp only at hSw); go_simp; (try with_reducible rfl))
      try simp only [Act.put, List.setIfInBounds_toArray, List.set_cons_zero, List.set_cons_succ]
      refine first_T (i := 8) (v := ?_) rfl (by kernel_rfl) (fun _ _ _ h => h) (by rfl) (fun w hSw => ?_) hHeld ?_
      rotate_left
      · ((try dsimp only at hSw); go_simp; (try with_reducible rfl))
      try simp only [Act.put, List.setIfInBounds_toArray, List.set_cons_zero, List.set_cons_succ]
      refine next_T (i := 9) rfl (by kernel_rfl) (fun K hKK => ?_)
      go_simp
      refine (mulZ (hR1.out _ hbD) (hR2.out _ hbD) k1.out k2.out).mono ?_
      rintro e w7 ⟨a7, c7, rfl, hr7, hb7⟩
      have hby : Below wr.heap.size wr w7 := hbD.trans (hb7.mono hbD.size)
      go_wp2_with fail
      clear hHeld
      refine hKK.out _ _ (hK.out _ hby) (fun hHeld => ?_)
      clear hKK K
      try simp only [Act.put, List.setIfInBounds_toArray, List.set_cons_zero, List.set_cons_succ]
      refine next_T (i := 10) rfl (by kernel_rfl) (fun K hKK => ?_)
      go_simp
      refine (addZ (hR5.out _ hby) hr7 k4.out k3.out).mono ?_
      rintro e w8 ⟨a8, c8, rfl, hr8, hb8⟩
      have hbz : Below wr.heap.size wr w8 := hby.trans (hb8.mono hby.size)
      have q0 := cell_keep hbz X5.out
      have q1 := cell_keep hbz Y5.out
      have q2 := (hbz.frozen (p := ⟨w.heap.size + 1, 0, none⟩) hlt).trans f0
      have q3 := (hbz.frozen (p := ⟨w.heap.size + 1, 1, none⟩) hlt).trans f1
      go_wp2_with fail
      clear hHeld
      refine hKK.out _ _ (hK.out _ hbz) (fun hHeld => ?_)
      clear hKK K
      try simp only [Act.put, List.setIfInBounds_toArray, List.set_cons_zero, List.set_cons_succ]
      refine last_T (t := 11) rfl (by kernel_rfl) (by kernel_rfl) (fun K hKK => ?_)
      go_simp
      refine hKK.out _ _ ?_
      have hnx : Hid (Sm w ((w8.setCell ⟨w.heap.size + 1, 0, none⟩ (.bool (sg (s + v1 * v2)))).setCell ⟨w.heap.size + 1, 1, none⟩ (.slice a8 (mg (s + v1 * v2)).length c8)) (dotZ f h (i + 1))) := by
        unfold Hid
        rw [HE.out]
        exact (hS.out.moved hbz).store hr8
      clear hKK K hHeld q0 q1 q2 q3 hbz hby hbD hr7 hr8 hb7 hb8 hlt f0 f1
      go_wp2_with fail
      go_roundw
      case rel =>
        first
          | exact ⟨i + 1, by omega, by go_num, hnx⟩
          | ((repeat apply Exists.intro); exact ⟨⟨i + 1, by omega, by go_num, hnx⟩, rfl⟩)
      case measure => simp [intOf]; omega
    · obtain rfl : i = n := by omega
      obtain ⟨a5, d5, x5, y5, r5⟩ := hS.out.sum.c 0 (by omega)
      have x5' : wr.cell? ⟨w.heap.size + 1, 0, none⟩ = some (.bool (sg (dotZ f h i))) := x5
      have y5' : wr.cell? ⟨w.heap.size + 1, 1, none⟩ = some (.slice a5 (mg (dotZ f h i)).length d5) := y5
      obtain ⟨s, hs⟩ : ∃ s, s = dotZ f h i := ⟨_, rfl⟩
      rw [← hs] at x5' y5' r5 ⊢
      obtain ⟨t0, t1, t2, t3, t4⟩ := hS.out.res
      have HL : Hid (Lm ((wr.setCell ⟨w.heap.size, 0, none⟩ (.bool (sg s))).setCell ⟨w.heap.size, 1, none⟩ (.slice a5 (mg s).length d5)) a5 d5 (mg s)) := two_lm r5 t0 t1 _ _
      have HBF : Hid (Below w.heap.size w ((wr.setCell ⟨w.heap.size, 0, none⟩ (.bool (sg s))).setCell ⟨w.heap.size, 1, none⟩ (.slice a5 (mg s).length d5))) := two_bel hS.out.below (Nat.le_refl _) _ _
      have HSV := Lib.hid hs
      clear x5 y5 r5 hs hS
      go_wp2_with fail
      exact bodyPost_ret (v := .agg #[.bool (sg s), .slice a5 (mg s).length d5]) (by simp [results, Tryz.results83, go_sem, t0, t1]) rfl (by rw [← HSV.out]; exact ⟨a5, d5, rfl, HL.out, HBF.out⟩)
end Go.Proofs.YtfpcfcegdjlggaaGreat
