/-
  The contract of IsReduced: it says whether the rows are those of a reduced form, by the elimination in machine words.
-/
import Derived.Test.YtdpgkegfkobdoaaYD
import Derived.Deep.WholeRow
namespace Go.Proofs.Ytdpgkegfkobdoaa
open Go.RowKit

/-- The cells behind the step from stage k. -/
def next (n : Nat) (F : Nat → Int) (k : Nat) (d : Int) (c : Nat) : Int :=
  if 1 ≤ c ∧ k < (c - 1) % 8 ∧ (c - 1) % 8 ≤ (c - 1) / 8 ∧ (c - 1) / 8 < n then stepE F k d ((c - 1) / 8) ((c - 1) % 8) else F c

theorem next_eq {n : Nat} {F G : Nat → Int} {k : Nat} {d : Int} (h : Upto n F k d n 0 G) : G = next n F k d := by
  funext c
  by_cases h0 : c = 0
  · subst h0
    rw [h.size]; unfold next; rw [if_neg (by omega)]
  · have hc : c = 1 + (c - 1) / 8 * 8 + (c - 1) % 8 := by omega
    unfold next
    split
    · rename_i hx
      have := (h.done ((c - 1) / 8) ((c - 1) % 8) hx.2.1 hx.2.2.1 hx.2.2.2 (.inl hx.2.2.2)).1
      rw [← hc] at this
      exact this
    · rename_i hx
      have := h.kept ((c - 1) / 8) ((c - 1) % 8) (by omega) (by omega)
      rw [← hc] at this
      exact this

theorem next_at {n : Nat} {F : Nat → Int} {k : Nat} {d : Int} {i j : Nat} (h : k < j ∧ j ≤ i ∧ i < n) (hj : j < 8) : next n F k d (1 + i * 8 + j) = stepE F k d i j := by
  have e1 : (1 + i * 8 + j - 1) / 8 = i := by omega
  have e2 : (1 + i * 8 + j - 1) % 8 = j := by omega
  unfold next
  rw [e1, e2, if_pos ⟨by omega, h⟩]
theorem next_old {n : Nat} {F : Nat → Int} {k : Nat} {d : Int} {i j : Nat} (h : ¬(k < j ∧ j ≤ i ∧ i < n)) (hj : j < 8) : next n F k d (1 + i * 8 + j) = F (1 + i * 8 + j) := by
  have e1 : (1 + i * 8 + j - 1) / 8 = i := by omega
  have e2 : (1 + i * 8 + j - 1) % 8 = j := by omega
  unfold next
  rw [e1, e2, if_neg (fun h' => h h'.2)]

/-- The steps from stage k on say yes. -/
def Red (n : Nat) : Nat → Nat → (Nat → Int) → Int → Prop
  | 0, _, _, d => d ≤ 10000
  | r + 1, k, F, d => RedAt n F k ∧ Lims n F k d ∧ Red n r (k + 1) (next n F k d) (F (1 + k * 8 + k))

/-- The cells that the rows make. -/
def cellsOf (hs : List (List Int)) (c : Nat) : Int := ent hs ((c - 1) / 8) ((c - 1) % 8)

theorem cellsOf_at (hs : List (List Int)) (i j : Nat) (hj : j < 8) : cellsOf hs (1 + i * 8 + j) = ent hs i j := by
  have e1 : (1 + i * 8 + j - 1) / 8 = i := by omega
  have e2 : (1 + i * 8 + j - 1) % 8 = j := by omega
  unfold cellsOf
  rw [e1, e2]

/-- The rows are those of a reduced form. -/
def IsRed (hs : List (List Int)) : Prop := ReadOk hs ∧ Red hs.length hs.length 0 (cellsOf hs) 1

theorem redAt_congr {n : Nat} {F G : Nat → Int} (h : ∀ i j, j ≤ i → i < n → F (1 + i * 8 + j) = G (1 + i * 8 + j)) (k : Nat) (hk : k < n) : RedAt n F k ↔ RedAt n G k := by
  unfold RedAt
  rw [h k k (Nat.le_refl _) hk]
  have e2 : (k + 1 = n ∨ 3 * G (1 + k * 8 + k) ≤ 4 * F (1 + (k + 1) * 8 + (k + 1))) ↔ (k + 1 = n ∨ 3 * G (1 + k * 8 + k) ≤ 4 * G (1 + (k + 1) * 8 + (k + 1))) := by
    by_cases hk1 : k + 1 = n
    · simp [hk1]
    · rw [h (k + 1) (k + 1) (Nat.le_refl _) (by omega)]
  rw [e2]
  constructor
  · rintro ⟨h1, h2, h3⟩
    exact ⟨h1, fun i a b => by rw [← h i k (by omega) b]; exact h2 i a b, h3⟩
  · rintro ⟨h1, h2, h3⟩
    exact ⟨h1, fun i a b => by rw [h i k (by omega) b]; exact h2 i a b, h3⟩

theorem stepE_congr {n : Nat} {F G : Nat → Int} (h : ∀ i j, j ≤ i → i < n → F (1 + i * 8 + j) = G (1 + i * 8 + j)) {k : Nat} {d : Int} {i j : Nat} (h1 : k < j) (h2 : j ≤ i) (h3 : i < n) : stepE F k d i j = stepE G k d i j := by
  unfold stepE
  rw [h k k (Nat.le_refl _) (by omega), h i j h2 h3, h i k (by omega) h3, h j k (by omega) (by omega)]

theorem red_congr {n : Nat} (hn : n ≤ 8) : ∀ (r k : Nat) {F G : Nat → Int} (d : Int), r + k = n → (∀ i j, j ≤ i → i < n → F (1 + i * 8 + j) = G (1 + i * 8 + j)) → (Red n r k F d ↔ Red n r k G d)
  | 0, k, F, G, d, _, h => Iff.rfl
  | r + 1, k, F, G, d, hk, h => by
    have hk' : k < n := by omega
    have e1 := redAt_congr h k hk'
    have e2 : Lims n F k d ↔ Lims n G k d := by
      constructor
      · intro hx i j a b c; rw [← stepE_congr h a b c]; exact hx i j a b c
      · intro hx i j a b c; rw [stepE_congr h a b c]; exact hx i j a b c
    have e3 := red_congr hn r (k + 1) (F := next n F k d) (G := next n G k d) (F (1 + k * 8 + k)) (by omega) (fun i j a b => by
      by_cases hx : k < j ∧ j ≤ i ∧ i < n
      · rw [next_at hx (by omega), next_at hx (by omega)]; exact stepE_congr h hx.1 a b
      · rw [next_old hx (by omega), next_old hx (by omega)]; exact h i j a b)
    unfold Red
    rw [e1, e2, e3, h k k (Nat.le_refl _) hk']

def GivesB (w : World) (p : Prop) (e : Ending) (w' : World) : Prop := ∃ r, e = .returned (.bool r) ∧ (r = true ↔ p) ∧ Below w.heap.size w w'
theorem givesB_no {w w' : World} {p : Prop} (h : ¬p) (hw : Below w.heap.size w w') : GivesB w p (.returned (.bool false)) w' := ⟨false, rfl, by simp [h], hw⟩
theorem givesB_mk {w w' : World} {p : Prop} {r : Bool} (h : r = true ↔ p) (hw : Below w.heap.size w w') : GivesB w p (.returned (.bool r)) w' := ⟨r, rfl, h, hw⟩

set_option maxRecDepth 100000 in
theorem zeroStage : Try.zeroCells66 = Array.replicate 65 (.int .i64 0) := by kernel_rfl
theorem stageSize : (Try.prog.info? 66).map (·.size) = some 65 := by kernel_rfl

theorem stage_store (n : Nat) (w : World) : (storeCells ⟨w.heap.size, 0, none⟩ (Try.zeroCells66.toList.set 0 (.int .i64 (n : Int))) 0).run Try.prog (w.alloc (.cells Try.zeroCells66 66)) =
    .ok () (w.alloc (.cells (Try.zeroCells66.setIfInBounds 0 (.int .i64 (n : Int))) 66)) := by
  have h := run_storeCells_new (P := Try.prog) w 66 Try.zeroCells66 (Try.zeroCells66.setIfInBounds 0 (.int .i64 (n : Int))) (by rw [stageSize, zeroStage]; simp) (by simp) (by
    rw [zeroStage]
    simp only [Array.all_eq_true_iff_forall_mem]
    intro x hx
    obtain ⟨i, hi⟩ := Array.mem_iff_getElem?.1 hx
    rw [Array.getElem?_setIfInBounds] at hi
    split at hi
    · split at hi
      · simp only [Option.some.injEq] at hi; rw [← hi]; rfl
      · cases hi
    · rw [Array.getElem?_replicate] at hi
      split at hi
      · simp only [Option.some.injEq] at hi; rw [← hi]; rfl
      · cases hi)
  rwa [Array.toList_setIfInBounds] at h

theorem stage_made (n : Nat) (w : World) : Stg (w.alloc (.cells (Try.zeroCells66.setIfInBounds 0 (.int .i64 (n : Int))) 66)) w.heap.size (fun c => if c = 0 then (n : Int) else 0) := by
  have hsz : (Try.zeroCells66.setIfInBounds 0 (.int .i64 (n : Int))).size = 65 := by rw [zeroStage]; simp
  have h := World.rowIs_alloc w (Try.zeroCells66.setIfInBounds 0 (.int .i64 (n : Int))) 66 (fun c => .int .i64 (if c = 0 then (n : Int) else 0)) (fun i hi => by
    rw [hsz] at hi
    rw [zeroStage, Array.getElem?_setIfInBounds]
    by_cases e : i = 0
    · simp [e]
    · simp [e, Ne.symm e, hi])
  rw [hsz] at h
  exact h

set_option maxRecDepth 100000 in
set_option maxHeartbeats 2000000 in
theorem isReduced_any (a : Option Addr) (n cap : Nat) (hs : List (List Int)) (w : World) (hr : RdM w a cap hs) (hl : hs.length = n) (hn : n ≤ 100000000000000) :
    Calls Try.prog 27 #[.slice a n cap] w (GivesB w (IsRed hs)) := by
  have hB : ∀ o wr, (w.alloc o).grownBy wr (some w.heap.size) → Below w.heap.size w wr := fun o wr hg => below_of_grownBy ((Below.refl _ w).alloc (Nat.le_refl _) o) hg (by simp) (Nat.le_refl _)
  have hstore := stage_store n w
  have hmade := stage_made n w
  obtain ⟨O, hO⟩ : ∃ O, O = Obj.cells (Try.zeroCells66.setIfInBounds 0 (.int .i64 (n : Int))) 66 := ⟨_, rfl⟩
  rw [← hO] at hstore hmade
  have HR := Lib.hid hr
  have HL := Lib.hid hl
  have HB := Lib.hid (hB O)
  have HM := Lib.hid hmade
  clear hr hl hB hmade hO
  go_enter Try.func27, Try.ntmps27
  go_wp2_with fail
  refine (read_any w.heap.size _ a n cap hs _ w HM.out rfl HL.out hn HR.out HB.out).mono ?_
  rintro e w1 (⟨hok, rfl, G, hU, hG, hgr⟩ | ⟨hno, rfl, hgr⟩)
  · have hn8 : n ≤ 8 := by have := hok.1.2; rw [HL.out] at this; exact this
    have hn1 : 1 ≤ n := by have := hok.1.1; rw [HL.out] at this; exact this
    have hiff : Hid (IsRed hs ↔ Red n n 0 G 1) := by
      unfold IsRed
      rw [HL.out]
      have e : Red n n 0 (cellsOf hs) 1 ↔ Red n n 0 G 1 := red_congr hn8 n 0 1 rfl (fun i j h1 h2 => by
        rw [cellsOf_at hs i j (by omega), (hU.done i j h1 (by rw [HL.out]; exact h2) (.inl (by rw [HL.out]; exact h2))).2])
      rw [← e]
      exact ⟨fun h => h.2, fun h => ⟨hok, h⟩⟩
    have hsm : Hid (∀ i j, i < n → j ≤ i → Small (G (1 + i * 8 + j))) := fun i j h1 h2 => by
      have h := hU.done i j h2 (by rw [HL.out]; exact h1) (.inl (by rw [HL.out]; exact h1))
      rw [h.2]; exact h.1.2
    have hG0 : G 0 = (n : Int) := by rw [hU.size, HL.out]
    have HG := Lib.hid hG
    have HG0 := Lib.hid hG0
    have hcs := hG.size
    rw [hG0] at hcs
    clear hok hU hG hG0
    go_wp2_with fail
    have hnn : Hid (n - 0 + 0 = n) := by unfold Hid; omega
    go_loopw [4, 14] (fun dd kk wr => ∃ (k : Nat) (F : Nat → Int) (d : Int), k ≤ n ∧ kk = .int .i64 (k : Int) ∧ dd = .int .i64 d ∧ 0 < d ∧ d < 1073741824 ∧ Hid (IsRed hs ↔ Red n (n - k) k F d) ∧ Hid (∀ i j, i < n → j ≤ i → Small (F (1 + i * 8 + j))) ∧ Hid (Stg wr w.heap.size F) ∧ Hid (F 0 = (n : Int)) ∧ (w.alloc O).grownBy wr (some w.heap.size)) (fun _ kk _ => n - (intOf kk).toNat)
    case atStart => exact ⟨0, G, 1, by omega, rfl, rfl, by omega, by omega, hiff, hsm, HG, HG0, hgr⟩
    case round =>
      obtain ⟨k, F, d, hkn, rfl, rfl, hd, hd2, hI, hS, hG2, hF0, hgr2⟩ := hrel
      clear hiff hsm HG HG0 hgr hcs
      by_cases hk : k < n
      · have hun : Red n (n - k) k F d ↔ (RedAt n F k ∧ Lims n F k d ∧ Red n (n - (k + 1)) (k + 1) (next n F k d) (F (1 + k * 8 + k))) := by
          rw [show n - k = (n - (k + 1)) + 1 from by omega]
          exact Iff.rfl
        have HUN := Lib.hid hun
        clear hun
        go_wp2_with fail
        refine (reducedAt_any w.heap.size n k F _ hG2.out hF0.out hk hn8 hS.out).mono ?_
        rintro e w2 ⟨r, rfl, hrr, q, rfl⟩
        cases r with
        | false =>
          have hno : Hid (¬IsRed hs) := fun h => by
            have := (HUN.out.1 (hI.out.1 h)).1
            exact absurd (hrr.2 this) (by simp)
          clear hrr
          go_wp2_with fail
          go_ret
          exact givesB_no hno.out (HB.out _ (grownBy_drewN hgr2 q))
        | true =>
          have hra := hrr.1 rfl
          clear hrr
          have HRA := Lib.hid hra
          clear hra
          go_wp2_with fail
          refine (eliminate_any w.heap.size n k F d _ (hG2.out.drew q) hF0.out hk hn8 hS.out hd hd2).mono ?_
          rintro e w3 (⟨hlim, rfl, G3, hU3, hG3, hgr3⟩ | ⟨hno3, rfl, hgr3⟩)
          · have hG3' : Hid (Stg w3 w.heap.size G3) := hG3
            have hck := hG3.cell k k (by omega) (by omega)
            rw [hU3.kept k k (by omega) (by omega)] at hck
            have hpos : 0 < F (1 + k * 8 + k) := HRA.out.1
            have hsk : F (1 + k * 8 + k) < 1073741824 := (hS.out k k hk (Nat.le_refl _)).2
            obtain ⟨x, hx⟩ : ∃ x, x = F (1 + k * 8 + k) := ⟨_, rfl⟩
            rw [← hx] at hck hpos hsk
            have hnx : Hid (IsRed hs ↔ Red n (n - (k + 1)) (k + 1) G3 x) := by
              rw [hx, next_eq hU3]
              exact hI.out.trans (HUN.out.trans ⟨fun h => h.2.2, fun h => ⟨HRA.out, hlim, h⟩⟩)
            have hsm3 : Hid (∀ i j, i < n → j ≤ i → Small (G3 (1 + i * 8 + j))) := fun i j h1 h2 => by
              by_cases hkj : k < j
              · have h := hU3.done i j hkj h2 h1 (.inl h1)
                rw [h.1]; exact h.2
              · rw [hU3.kept i j (by omega) (by omega)]
                exact hS.out i j h1 h2
            have hF3 : Hid (G3 0 = (n : Int)) := hU3.size.trans hF0.out
            have hgr3' := grownBy_trans (grownBy_drewN hgr2 q) hgr3
            clear hU3 hG3 hlim hx hgr3
            go_wp2_with fail
            go_roundw
            case rel => exact ⟨k + 1, G3, x, by omega, by go_num, rfl, hpos, hsk, hnx, hsm3, hG3', hF3, hgr3'⟩
            case measure => simp [intOf]; omega
          · have hno : Hid (¬IsRed hs) := fun h => hno3 (HUN.out.1 (hI.out.1 h)).2.1
            clear hno3
            go_wp2_with fail
            go_ret
            exact givesB_no hno.out (HB.out _ (grownBy_trans (grownBy_drewN hgr2 q) hgr3))
      · obtain rfl : k = n := by omega
        have hfin : Hid (decide (d ≤ 10000) = true ↔ IsRed hs) := by
          have h := hI.out
          rw [Nat.sub_self] at h
          unfold Hid
          rw [decide_eq_true_iff]
          exact h.symm
        go_wp2_with fail
        go_ret
        exact givesB_mk hfin.out (HB.out _ hgr2)
  · have hno2 : Hid (¬IsRed hs) := fun h => hno h.1
    clear hno
    go_wp2_with fail
    go_ret
    exact givesB_no hno2.out (HB.out _ hgr)
end Go.Proofs.Ytdpgkegfkobdoaa
