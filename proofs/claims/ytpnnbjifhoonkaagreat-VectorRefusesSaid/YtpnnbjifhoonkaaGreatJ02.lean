/-
  Joined texts: YE YF YG YH.
-/
import Derived.Test.YtpnnbjifhoonkaaGreatJ01
import Derived.Deep.WholeRow
import Derived.Sort.Grow
import Derived.Laws.StructEq
import Derived.Shelf.SlSortCmp.QuietGrown
namespace Go.Proofs.YtpnnbjifhoonkaaGreat
open Go.RowKit

/-- The cells behind the step from stage k. -/
def next (n : Nat) (F : Nat → Int) (k : Nat) (d : Int) (c : Nat) : Int :=
  if 1 ≤ c ∧ k < (c - 1) % 8 ∧ (c - 1) % 8 ≤ (c - 1) / 8 ∧ (c - 1) / 8 < n then stepE F k d ((c - 1) / 8) ((c - 1) % 8) else F c

theorem next_eq {n : Nat} {F G : Nat → Int} {k : Nat} {d : Int} (h : Upto n F k d n 0 G) : G = next n F k d := by
  funext c
  by_cases h0 : c = 0
  · subst h0
    rw [h.size]; unfold next; rw [if_neg (by omega)]
  · have hc : c = 1 + (c - 1) / 8 * 8 + (c - 1) % 8 := by omega
    unfold next
    split
    · rename_i hx
      have := (h.done ((c - 1) / 8) ((c - 1) % 8) hx.2.1 hx.2.2.1 hx.2.2.2 (.inl hx.2.2.2)).1
      rw [← hc] at this
      exact this
    · rename_i hx
      have := h.kept ((c - 1) / 8) ((c - 1) % 8) (by omega) (by omega)
      rw [← hc] at this
      exact this

theorem next_at {n : Nat} {F : Nat → Int} {k : Nat} {d : Int} {i j : Nat} (h : k < j ∧ j ≤ i ∧ i < n) (hj : j < 8) : next n F k d (1 + i * 8 + j) = stepE F k d i j := by
  have e1 : (1 + i * 8 + j - 1) / 8 = i := by omega
  have e2 : (1 + i * 8 + j - 1) % 8 = j := by omega
  unfold next
  rw [e1, e2, if_pos ⟨by omega, h⟩]
theorem next_old {n : Nat} {F : Nat → Int} {k : Nat} {d : Int} {i j : Nat} (h : ¬(k < j ∧ j ≤ i ∧ i < n)) (hj : j < 8) : next n F k d (1 + i * 8 + j) = F (1 + i * 8 + j) := by
  have e1 : (1 + i * 8 + j - 1) / 8 = i := by omega
  have e2 : (1 + i * 8 + j - 1) % 8 = j := by omega
  unfold next
  rw [e1, e2, if_neg (fun h' => h h'.2)]

/-- The steps from stage k on say yes. -/
def Red (n : Nat) : Nat → Nat → (Nat → Int) → Int → Prop
  | 0, _, _, d => d ≤ 10000
  | r + 1, k, F, d => RedAt n F k ∧ Lims n F k d ∧ Red n r (k + 1) (next n F k d) (F (1 + k * 8 + k))

/-- The cells that the rows make. -/
def cellsOf (hs : List (List Int)) (c : Nat) : Int := ent hs ((c - 1) / 8) ((c - 1) % 8)

theorem cellsOf_at (hs : List (List Int)) (i j : Nat) (hj : j < 8) : cellsOf hs (1 + i * 8 + j) = ent hs i j := by
  have e1 : (1 + i * 8 + j - 1) / 8 = i := by omega
  have e2 : (1 + i * 8 + j - 1) % 8 = j := by omega
  unfold cellsOf
  rw [e1, e2]

/-- The rows are those of a reduced form. -/
def IsRed (hs : List (List Int)) : Prop := ReadOk hs ∧ Red hs.length hs.length 0 (cellsOf hs) 1

theorem redAt_congr {n : Nat} {F G : Nat → Int} (h : ∀ i j, j ≤ i → i < n → F (1 + i * 8 + j) = G (1 + i * 8 + j)) (k : Nat) (hk : k < n) : RedAt n F k ↔ RedAt n G k := by
  unfold RedAt
  rw [h k k (Nat.le_refl _) hk]
  have e2 : (k + 1 = n ∨ 3 * G (1 + k * 8 + k) ≤ 4 * F (1 + (k + 1) * 8 + (k + 1))) ↔ (k + 1 = n ∨ 3 * G (1 + k * 8 + k) ≤ 4 * G (1 + (k + 1) * 8 + (k + 1))) := by
    by_cases hk1 : k + 1 = n
    · simp [hk1]
    · rw [h (k + 1) (k + 1) (Nat.le_refl _) (by omega)]
  rw [e2]
  constructor
  · rintro ⟨h1, h2, h3⟩
    exact ⟨h1, fun i a b => by rw [← h i k (by omega) b]; exact h2 i a b, h3⟩
  · rintro ⟨h1, h2, h3⟩
    exact ⟨h1, fun i a b => by rw [h i k (by omega) b]; exact h2 i a b, h3⟩

theorem stepE_congr {n : Nat} {F G : Nat → Int} (h : ∀ i j, j ≤ i → i < n → F (1 + i * 8 + j) = G (1 + i * 8 + j)) {k : Nat} {d : Int} {i j : Nat} (h1 : k < j) (h2 : j ≤ i) (h3 : i < n) : stepE F k d i j = stepE G k d i j := by
  unfold stepE
  rw [h k k (Nat.le_refl _) (by omega), h i j h2 h3, h i k (by omega) h3, h j k (by omega) (by omega)]

theorem red_congr {n : Nat} (hn : n ≤ 8) : ∀ (r k : Nat) {F G : Nat → Int} (d : Int), r + k = n → (∀ i j, j ≤ i → i < n → F (1 + i * 8 + j) = G (1 + i * 8 + j)) → (Red n r k F d ↔ Red n r k G d)
  | 0, k, F, G, d, _, h => Iff.rfl
  | r + 1, k, F, G, d, hk, h => by
    have hk' : k < n := by omega
    have e1 := redAt_congr h k hk'
    have e2 : Lims n F k d ↔ Lims n G k d := by
      constructor
      · intro hx i j a b c; rw [← stepE_congr h a b c]; exact hx i j a b c
      · intro hx i j a b c; rw [stepE_congr h a b c]; exact hx i j a b c
    have e3 := red_congr hn r (k + 1) (F := next n F k d) (G := next n G k d) (F (1 + k * 8 + k)) (by omega) (fun i j a b => by
      by_cases hx : k < j ∧ j ≤ i ∧ i < n
      · rw [next_at hx (by omega), next_at hx (by omega)]; exact stepE_congr h hx.1 a b
      · rw [next_old hx (by omega), next_old hx (by omega)]; exact h i j a b)
    unfold Red
    rw [e1, e2, e3, h k k (Nat.le_refl _) hk']

def GivesBY (w : World) (p : Prop) (e : Ending) (w' : World) : Prop := ∃ r, e = .returned (.bool r) ∧ (r = true ↔ p) ∧ Below w.heap.size w w'
theorem givesB_no {w w' : World} {p : Prop} (h : ¬p) (hw : Below w.heap.size w w') : GivesBY w p (.returned (.bool false)) w' := ⟨false, rfl, by simp [h], hw⟩
theorem givesB_mk {w w' : World} {p : Prop} {r : Bool} (h : r = true ↔ p) (hw : Below w.heap.size w w') : GivesBY w p (.returned (.bool r)) w' := ⟨r, rfl, h, hw⟩

set_option maxRecDepth 100000 in
theorem zeroStage : Tryz.zeroCells71 = Array.replicate 65 (.int .i64 0) := by kernel_rfl
theorem stageSize : (Tryz.prog.info? 71).map (·.size) = some 65 := by kernel_rfl

theorem stage_store (n : Nat) (w : World) : (storeCells ⟨w.heap.size, 0, none⟩ (Tryz.zeroCells71.toList.set 0 (.int .i64 (n : Int))) 0).run Tryz.prog (w.alloc (.cells Tryz.zeroCells71 71)) =
    .ok () (w.alloc (.cells (Tryz.zeroCells71.setIfInBounds 0 (.int .i64 (n : Int))) 71)) := by
  have h := run_storeCells_new (P := Tryz.prog) w 71 Tryz.zeroCells71 (Tryz.zeroCells71.setIfInBounds 0 (.int .i64 (n : Int))) (by rw [stageSize, zeroStage]; simp) (by simp) (by
    rw [zeroStage]
    simp only [Array.all_eq_true_iff_forall_mem]
    intro x hx
    obtain ⟨i, hi⟩ := Array.mem_iff_getElem?.1 hx
    rw [Array.getElem?_setIfInBounds] at hi
    split at hi
    · split at hi
      · simp only [Option.some.injEq] at hi; rw [← hi]; rfl
      · cases hi
    · rw [Array.getElem?_replicate] at hi
      split at hi
      · simp only [Option.some.injEq] at hi; rw [← hi]; rfl
      · cases hi)
  rwa [Array.toList_setIfInBounds] at h

theorem stage_made (n : Nat) (w : World) : Stg (w.alloc (.cells (Tryz.zeroCells71.setIfInBounds 0 (.int .i64 (n : Int))) 71)) w.heap.size (fun c => if c = 0 then (n : Int) else 0) := by
  have hsz : (Tryz.zeroCells71.setIfInBounds 0 (.int .i64 (n : Int))).size = 65 := by rw [zeroStage]; simp
  have h := World.rowIs_alloc w (Tryz.zeroCells71.setIfInBounds 0 (.int .i64 (n : Int))) 71 (fun c => .int .i64 (if c = 0 then (n : Int) else 0)) (fun i hi => by
    rw [hsz] at hi
    rw [zeroStage, Array.getElem?_setIfInBounds]
    by_cases e : i = 0
    · simp [e]
    · simp [e, Ne.symm e, hi])
  rw [hsz] at h
  exact h

set_option maxRecDepth 100000 in
set_option maxHeartbeats 2000000 in
theorem isReduced_any (a : Option Addr) (n cap : Nat) (hs : List (List Int)) (w : World) (hr : RdM w a cap hs) (hl : hs.length = n) (hn : n ≤ 100000000000000) :
    Calls Tryz.prog 19 #[.slice a n cap] w (GivesBY w (IsRed hs)) := by
  have hB : ∀ o wr, (w.alloc o).grownBy wr (some w.heap.size) → Below w.heap.size w wr := fun o wr hg => below_of_grownBy ((Below.refl _ w).alloc (Nat.le_refl _) o) hg (by simp) (Nat.le_refl _)
  have hstore := stage_store n w
  have hmade := stage_made n w
  obtain ⟨O, hO⟩ : ∃ O, O = Obj.cells (Tryz.zeroCells71.setIfInBounds 0 (.int .i64 (n : Int))) 71 := ⟨_, rfl⟩
  rw [← hO] at hstore hmade
  have HR := Lib.hid hr
  have HL := Lib.hid hl
  have HB := Lib.hid (hB O)
  have HM := Lib.hid hmade
  clear hr hl hB hmade hO
  go_enter Tryz.func19, Tryz.ntmps19
  go_wp2_with fail
  refine (read_any w.heap.size _ a n cap hs _ w HM.out rfl HL.out hn HR.out HB.out).mono ?_
  rintro e w1 (⟨hok, rfl, G, hU, hG, hgr⟩ | ⟨hno, rfl, hgr⟩)
  · have hn8 : n ≤ 8 := by have := hok.1.2; rw [HL.out] at this; exact this
    have hn1 : 1 ≤ n := by have := hok.1.1; rw [HL.out] at this; exact this
    have hiff : Hid (IsRed hs ↔ Red n n 0 G 1) := by
      unfold IsRed
      rw [HL.out]
      have e : Red n n 0 (cellsOf hs) 1 ↔ Red n n 0 G 1 := red_congr hn8 n 0 1 rfl (fun i j h1 h2 => by
        rw [cellsOf_at hs i j (by omega), (hU.done i j h1 (by rw [HL.out]; exact h2) (.inl (by rw [HL.out]; exact h2))).2])
      rw [← e]
      exact ⟨fun h => h.2, fun h => ⟨hok, h⟩⟩
    have hsm : Hid (∀ i j, i < n → j ≤ i → Small (G (1 + i * 8 + j))) := fun i j h1 h2 => by
      have h := hU.done i j h2 (by rw [HL.out]; exact h1) (.inl (by rw [HL.out]; exact h1))
      rw [h.2]; exact h.1.2
    have hG0 : G 0 = (n : Int) := by rw [hU.size, HL.out]
    have HG := Lib.hid hG
    have HG0 := Lib.hid hG0
    have hcs := hG.size
    rw [hG0] at hcs
    clear hok hU hG hG0
    go_wp2_with fail
    have hnn : Hid (n - 0 + 0 = n) := by unfold Hid; omega
    go_loopw [4, 14] (fun dd kk wr => ∃ (k : Nat) (F : Nat → Int) (d : Int), k ≤ n ∧ kk = .int .i64 (k : Int) ∧ dd = .int .i64 d ∧ 0 < d ∧ d < 1073741824 ∧ Hid (IsRed hs ↔ Red n (n - k) k F d) ∧ Hid (∀ i j, i < n → j ≤ i → Small (F (1 + i * 8 + j))) ∧ Hid (Stg wr w.heap.size F) ∧ Hid (F 0 = (n : Int)) ∧ (w.alloc O).grownBy wr (some w.heap.size)) (fun _ kk _ => n - (intOf kk).toNat)
    case atStart => exact ⟨0, G, 1, by omega, rfl, rfl, by omega, by omega, hiff, hsm, HG, HG0, hgr⟩
    case round =>
      obtain ⟨k, F, d, hkn, rfl, rfl, hd, hd2, hI, hS, hG2, hF0, hgr2⟩ := hrel
      clear hiff hsm HG HG0 hgr hcs
      by_cases hk : k < n
      · have hun : Red n (n - k) k F d ↔ (RedAt n F k ∧ Lims n F k d ∧ Red n (n - (k + 1)) (k + 1) (next n F k d) (F (1 + k * 8 + k))) := by
          rw [show n - k = (n - (k + 1)) + 1 from by omega]
          exact Iff.rfl
        have HUN := Lib.hid hun
        clear hun
        go_wp2_with fail
        refine (reducedAt_any w.heap.size n k F _ hG2.out hF0.out hk hn8 hS.out).mono ?_
        rintro e w2 ⟨r, rfl, hrr, q, rfl⟩
        cases r with
        | false =>
          have hno : Hid (¬IsRed hs) := fun h => by
            have := (HUN.out.1 (hI.out.1 h)).1
            exact absurd (hrr.2 this) (by simp)
          clear hrr
          go_wp2_with fail
          go_ret
          exact givesB_no hno.out (HB.out _ (grownBy_drewNY hgr2 q))
        | true =>
          have hra := hrr.1 rfl
          clear hrr
          have HRA := Lib.hid hra
          clear hra
          go_wp2_with fail
          refine (eliminate_any w.heap.size n k F d _ (hG2.out.drew q) hF0.out hk hn8 hS.out hd hd2).mono ?_
          rintro e w3 (⟨hlim, rfl, G3, hU3, hG3, hgr3⟩ | ⟨hno3, rfl, hgr3⟩)
          · have hG3' : Hid (Stg w3 w.heap.size G3) := hG3
            have hck := hG3.cell k k (by omega) (by omega)
            rw [hU3.kept k k (by omega) (by omega)] at hck
            have hpos : 0 < F (1 + k * 8 + k) := HRA.out.1
            have hsk : F (1 + k * 8 + k) < 1073741824 := (hS.out k k hk (Nat.le_refl _)).2
            obtain ⟨x, hx⟩ : ∃ x, x = F (1 + k * 8 + k) := ⟨_, rfl⟩
            rw [← hx] at hck hpos hsk
            have hnx : Hid (IsRed hs ↔ Red n (n - (k + 1)) (k + 1) G3 x) := by
              rw [hx, next_eq hU3]
              exact hI.out.trans (HUN.out.trans ⟨fun h => h.2.2, fun h => ⟨HRA.out, hlim, h⟩⟩)
            have hsm3 : Hid (∀ i j, i < n → j ≤ i → Small (G3 (1 + i * 8 + j))) := fun i j h1 h2 => by
              by_cases hkj : k < j
              · have h := hU3.done i j hkj h2 h1 (.inl h1)
                rw [h.1]; exact h.2
              · rw [hU3.kept i j (by omega) (by omega)]
                exact hS.out i j h1 h2
            have hF3 : Hid (G3 0 = (n : Int)) := hU3.size.trans hF0.out
            have hgr3' := grownBy_transY (grownBy_drewNY hgr2 q) hgr3
            clear hU3 hG3 hlim hx hgr3
            go_wp2_with fail
            go_roundw
            case rel => exact ⟨k + 1, G3, x, by omega, by go_num, rfl, hpos, hsk, hnx, hsm3, hG3', hF3, hgr3'⟩
            case measure => simp [intOf]; omega
          · have hno : Hid (¬IsRed hs) := fun h => hno3 (HUN.out.1 (hI.out.1 h)).2.1
            clear hno3
            go_wp2_with fail
            go_ret
            exact givesB_no hno.out (HB.out _ (grownBy_transY (grownBy_drewNY hgr2 q) hgr3))
      · obtain rfl : k = n := by omega
        have hfin : Hid (decide (d ≤ 10000) = true ↔ IsRed hs) := by
          have h := hI.out
          rw [Nat.sub_self] at h
          unfold Hid
          rw [decide_eq_true_iff]
          exact h.symm
        go_wp2_with fail
        go_ret
        exact givesB_mk hfin.out (HB.out _ hgr2)
  · have hno2 : Hid (¬IsRed hs) := fun h => hno h.1
    clear hno
    go_wp2_with fail
    go_ret
    exact givesB_no hno2.out (HB.out _ hgr)
end Go.Proofs.YtpnnbjifhoonkaaGreat
namespace Go.Proofs.YtpnnbjifhoonkaaGreat
open Go.RowKit

/-- The two words of an integer modulo 2^128. -/
def hiW (S : Int) : Int := S / 18446744073709551616 % 18446744073709551616
def loW (S : Int) : Int := S % 18446744073709551616
def wval (S : Int) : Value := .agg #[.int .u64 (hiW S), .int .u64 (loW S)]

theorem hiW_ge (S : Int) : 0 ≤ hiW S := Int.emod_nonneg _ (by omega)
theorem hiW_lt (S : Int) : hiW S ≤ 18446744073709551615 := by have := Int.emod_lt_of_pos (S / 18446744073709551616) (b := 18446744073709551616) (by omega); unfold hiW; omega
theorem loW_ge (S : Int) : 0 ≤ loW S := Int.emod_nonneg _ (by omega)
theorem loW_lt (S : Int) : loW S ≤ 18446744073709551615 := by have := Int.emod_lt_of_pos S (b := 18446744073709551616) (by omega); unfold loW; omega

/-- A number is its words, but for a multiple of 2^128. -/
theorem words (S : Int) : ∃ K, S = 340282366920938463463374607431768211456 * K + 18446744073709551616 * hiW S + loW S := by
  refine ⟨S / 18446744073709551616 / 18446744073709551616, ?_⟩
  unfold hiW loW
  omega

theorem words_of (K H L : Int) : hiW (340282366920938463463374607431768211456 * K + 18446744073709551616 * H + L) = (H + L / 18446744073709551616) % 18446744073709551616 ∧ loW (340282366920938463463374607431768211456 * K + 18446744073709551616 * H + L) = L % 18446744073709551616 := by
  unfold hiW loW
  omega

/-- The sum with a product, in words. -/
theorem plus_words (S A n : Int) (h l : Int) (hl : loW A * loW n = 18446744073709551616 * h + l) (h0 : 0 ≤ l) (h1 : l ≤ 18446744073709551615) :
    hiW (S + A * n) = (hiW S + ((h + (hiW A * loW n + loW A * hiW n)) % 18446744073709551616) + (loW S + l) / 18446744073709551616) % 18446744073709551616 ∧ loW (S + A * n) = (loW S + l) % 18446744073709551616 := by
  obtain ⟨K1, e1⟩ := words S
  obtain ⟨K2, e2⟩ := words A
  obtain ⟨K3, e3⟩ := words n
  have e : S + A * n = 340282366920938463463374607431768211456 * (K1 + K2 * n + (hiW A * 18446744073709551616 + loW A) * K3 + hiW A * hiW n) + 18446744073709551616 * (hiW S + h + (hiW A * loW n + loW A * hiW n)) + (loW S + l) := by
    have ea : A * n = 340282366920938463463374607431768211456 * (K2 * n) + (18446744073709551616 * hiW A + loW A) * n := by
      conv => lhs; rw [e2]
      generalize hiW A = x
      generalize loW A = y
      grind
    have eb : (18446744073709551616 * hiW A + loW A) * n = 340282366920938463463374607431768211456 * ((hiW A * 18446744073709551616 + loW A) * K3 + hiW A * hiW n) + 18446744073709551616 * (hiW A * loW n + loW A * hiW n) + loW A * loW n := by
      conv => lhs; rw [e3]
      generalize hiW A = x
      generalize loW A = y
      generalize hiW n = z
      generalize loW n = u
      grind
    rw [ea, eb, hl]
    omega
  rw [e]
  have h2 := words_of (K1 + K2 * n + (hiW A * 18446744073709551616 + loW A) * K3 + hiW A * hiW n) (hiW S + h + (hiW A * loW n + loW A * hiW n)) (loW S + l)
  rw [h2.1, h2.2]
  refine ⟨?_, rfl⟩
  generalize hiW A * loW n + loW A * hiW n = p
  omega

theorem widen_words (n : Int) (h : I64 n) : hiW n = (if n < 0 then 18446744073709551615 else 0) := by
  unfold hiW
  have := h.1
  have := h.2
  split <;> omega

theorem widen_high (n : Int) (h : I64 n) : IntKind.u64.wrap (n / 9223372036854775808) = hiW n := by
  rw [widen_words n h, IntKind.wrap_u64]
  have := h.1
  have := h.2
  split <;> omega
theorem widen_low (n : Int) : IntKind.u64.wrap n = loW n := by rw [IntKind.wrap_u64]; rfl

theorem widen_any (n : Int) (h : I64 n) (w : World) : Calls Tryz.prog 22 #[.int .i64 n] w fun e w' => e = .returned (wval n) ∧ Below w.heap.size w w' := by
  have h1 := h.1
  have h2 := h.2
  have eh := widen_high n h
  have el := widen_low n
  unfold wval
  go_enter Tryz.func22, Tryz.ntmps22
  go_wp2_with fail
  exact bodyPost_ret (v := .agg #[.int .u64 (hiW n), .int .u64 (loW n)]) (by simp [results, Tryz.results22, go_sem]) rfl ⟨rfl, (Below.refl _ _).alloc (Nat.le_refl _) _⟩

theorem alloc_grow (w : World) (o : Obj) : w.alloc o = Go.Sort.grow w #[o] := by
  unfold World.alloc Go.Sort.grow
  simp

theorem widen_grown (n : Int) (h : I64 n) (w : World) : Calls Tryz.prog 22 #[.int .i64 n] w fun e w' => e = .returned (wval n) ∧ ∃ q os, w' = Go.Sort.grow (w.drewN q) os := by
  have h1 := h.1
  have h2 := h.2
  have eh := widen_high n h
  have el := widen_low n
  unfold wval
  go_enter Tryz.func22, Tryz.ntmps22
  go_wp2_with fail
  exact bodyPost_ret (v := .agg #[.int .u64 (hiW n), .int .u64 (loW n)]) (by simp [results, Tryz.results22, go_sem]) rfl ⟨rfl, 0, _, alloc_grow _ _⟩

/-- A block of two cells. -/
structure Pr (b : Nat) (v0 v1 : Value) (w : World) : Prop where
  c0 : w.cell? ⟨b, 0, none⟩ = some v0
  c1 : w.cell? ⟨b, 1, none⟩ = some v1
  f0 : w.frozen? ⟨b, 0, none⟩ = false
  f1 : w.frozen? ⟨b, 1, none⟩ = false
  lt : b < w.heap.size

theorem Pr.made (w : World) (v0 v1 : Value) (t : TypeId) {b : Nat} (hB : b = w.heap.size) : Pr b v0 v1 (w.alloc (.cells #[v0, v1] t)) := by
  subst hB
  have hg := heap_alloc_last w (.cells #[v0, v1] t)
  refine ⟨?_, ?_, frozen_of_row _ _ _ _ _ hg, frozen_of_row _ _ _ _ _ hg, by simp⟩
  · rw [cell_of_row _ _ 0 _ _ (0, 0) hg]; rfl
  · rw [cell_of_row _ _ 1 _ _ (0, 0) hg]; rfl

theorem Pr.below {b B : Nat} {v0 v1 : Value} {w w' : World} (h : Pr b v0 v1 w) (hb : Below B w w') (hB : b < B) : Pr b v0 v1 w' :=
  ⟨by rw [hb.cell (p := ⟨b, 0, none⟩) hB]; exact h.c0, by rw [hb.cell (p := ⟨b, 1, none⟩) hB]; exact h.c1, by rw [hb.frozen (p := ⟨b, 0, none⟩) hB]; exact h.f0, by rw [hb.frozen (p := ⟨b, 1, none⟩) hB]; exact h.f1, Nat.lt_of_lt_of_le h.lt hb.size⟩

theorem Pr.alloc {b : Nat} {v0 v1 : Value} {w : World} (h : Pr b v0 v1 w) (o : Obj) : Pr b v0 v1 (w.alloc o) :=
  h.below ((Below.refl (b + 1) w).alloc h.lt o) (Nat.lt_succ_self b)

theorem Pr.moved {b : Nat} {v0 v1 : Value} {w w' : World} (h : Pr b v0 v1 w) (hb : Below w.heap.size w w') : Pr b v0 v1 w' := h.below hb h.lt

theorem Pr.set {b : Nat} {v0 v1 : Value} {w : World} (h : Pr b v0 v1 w) (x y : Value) : Pr b x y ((w.setCell ⟨b, 0, none⟩ x).setCell ⟨b, 1, none⟩ y) := by
  have h1 : (w.setCell ⟨b, 0, none⟩ x).cell? ⟨b, 1, none⟩ = some v1 := by rw [World.cell?_setCell_other _ _ _ _ (by simp)]; exact h.c1
  refine ⟨?_, World.cell?_setCell_same _ _ _ h1, by simp [h.f0], by simp [h.f1], by simp [World.setCell]; exact h.lt⟩
  rw [World.cell?_setCell_other _ _ _ _ (by simp)]
  exact World.cell?_setCell_same _ _ _ h.c0

/-- A product of words, by math/bits. -/
def MulOk : Prop := ∀ (x y : Nat) (_ : x < 18446744073709551616) (_ : y < 18446744073709551616) (w : World),
    Calls Tryz.prog 40 #[.int .u64 x, .int .u64 y] w fun e w' => e = .returned (.tuple #[.int .u64 ((x * y / 18446744073709551616 : Nat) : Int), .int .u64 ((x * y % 18446744073709551616 : Nat) : Int)]) ∧ w' = w
/-- A sum of words with a carry, by math/bits. -/
def AddOk : Prop := ∀ (x y c : Nat) (_ : c ≤ 1) (w : World), (callFunc 41 #[.int .u64 x, .int .u64 y, .int .u64 c]).run Tryz.prog w =
      .ok (.value (.tuple #[.int .u64 (((x + y + c) % 18446744073709551616 : Nat) : Int), .int .u64 (((x + y + c) / 18446744073709551616 : Nat) : Int)])) w

set_option maxRecDepth 100000 in
set_option maxHeartbeats 2000000 in
theorem plus_any (hM : MulOk) (hA : AddOk) (S A n : Int) (h : I64 n) (w : World) : Calls Tryz.prog 21 #[wval S, wval A, .int .i64 n] w fun e w' => e = .returned (wval (S + A * n)) ∧ Below w.heap.size w w' := by
  obtain ⟨s1, hs1⟩ : ∃ x : Nat, hiW S = (x : Int) := ⟨(hiW S).toNat, by have := hiW_ge S; omega⟩
  obtain ⟨s0, hs0⟩ : ∃ x : Nat, loW S = (x : Int) := ⟨(loW S).toNat, by have := loW_ge S; omega⟩
  obtain ⟨a1, ha1⟩ : ∃ x : Nat, hiW A = (x : Int) := ⟨(hiW A).toNat, by have := hiW_ge A; omega⟩
  obtain ⟨a0, ha0⟩ : ∃ x : Nat, loW A = (x : Int) := ⟨(loW A).toNat, by have := loW_ge A; omega⟩
  obtain ⟨f1, hf1⟩ : ∃ x : Nat, hiW n = (x : Int) := ⟨(hiW n).toNat, by have := hiW_ge n; omega⟩
  obtain ⟨f0, hf0⟩ : ∃ x : Nat, loW n = (x : Int) := ⟨(loW n).toNat, by have := loW_ge n; omega⟩
  have b1 := hiW_lt S
  have b2 := loW_lt S
  have b3 := hiW_lt A
  have b4 := loW_lt A
  have b5 := hiW_lt n
  have b6 := loW_lt n
  rw [hs1] at b1
  rw [hs0] at b2
  rw [ha1] at b3
  rw [ha0] at b4
  rw [hf1] at b5
  rw [hf0] at b6
  obtain ⟨hh, hhe⟩ : ∃ x, x = a0 * f0 / 18446744073709551616 := ⟨_, rfl⟩
  obtain ⟨ll, hle⟩ : ∃ x, x = a0 * f0 % 18446744073709551616 := ⟨_, rfl⟩
  have hll : ll < 18446744073709551616 := by rw [hle]; exact Nat.mod_lt _ (by omega)
  have hP := plus_words S A n (hh : Int) (ll : Int) (by rw [ha0, hf0, hhe, hle, ← Int.natCast_mul]; omega) (by omega) (by omega)
  rw [hs1, hs0, ha1, ha0, hf1, hf0] at hP
  have hm := hM a0 f0 (by omega) (by omega)
  rw [← hhe, ← hle] at hm
  obtain ⟨p1, hp1⟩ : ∃ x : Nat, (a1 : Int) * (f0 : Int) = (x : Int) := ⟨a1 * f0, by simp⟩
  obtain ⟨p2, hp2⟩ : ∃ x : Nat, (a0 : Int) * (f1 : Int) = (x : Int) := ⟨a0 * f1, by simp⟩
  rw [hp1, hp2] at hP
  have hw := widen_any n h
  unfold wval at hw ⊢
  rw [hf1, hf0] at hw
  rw [hs1, hs0, ha1, ha0, hP.1, hP.2]
  have hadd1 := hA s0 ll 0 (by omega)
  obtain ⟨l2, hl2⟩ : ∃ x, x = (s0 + ll + 0) % 18446744073709551616 := ⟨_, rfl⟩
  obtain ⟨cc, hcc⟩ : ∃ x, x = (s0 + ll + 0) / 18446744073709551616 := ⟨_, rfl⟩
  rw [← hl2, ← hcc] at hadd1
  have hcc1 : cc ≤ 1 := by omega
  rw [show ((0 : Nat) : Int) = 0 from rfl] at hadd1
  obtain ⟨m2, hm2⟩ : ∃ x : Nat, x = (hh + (p1 + p2)) % 18446744073709551616 := ⟨_, rfl⟩
  have hmid : IntKind.u64.wrap ((hh : Int) + IntKind.u64.wrap (IntKind.u64.wrap (p1 : Int) + IntKind.u64.wrap (p2 : Int))) = (m2 : Int) := by simp only [IntKind.wrap_u64]; omega
  have hadd2 := hA s1 m2 cc hcc1
  obtain ⟨m3, hm3⟩ : ∃ x, x = (s1 + m2 + cc) % 18446744073709551616 := ⟨_, rfl⟩
  obtain ⟨c3, hc3⟩ : ∃ x, x = (s1 + m2 + cc) / 18446744073709551616 := ⟨_, rfl⟩
  rw [← hm3, ← hc3] at hadd2
  have er1 : ((s1 : Int) + ((hh : Int) + ((p1 : Int) + (p2 : Int))) % 18446744073709551616 + ((s0 : Int) + (ll : Int)) / 18446744073709551616) % 18446744073709551616 = (m3 : Int) := by omega
  have er2 : ((s0 : Int) + (ll : Int)) % 18446744073709551616 = (l2 : Int) := by omega
  rw [er1, er2]
  have HM := Lib.hid hm
  have HW := Lib.hid hw
  clear hm hw hs1 hs0 ha1 ha0 hf1 hf0 hP hhe hle hl2 hcc hm2 hm3 hc3 er1 er2 hM hA
  go_enter Tryz.func21, Tryz.ntmps21
  go_wp2_with fail
  refine (HW.out _).mono ?_
  rintro e w1 ⟨rfl, hb1⟩
  obtain ⟨W, hW⟩ : ∃ W, W = ((w.alloc (.cells #[.int .u64 s1, .int .u64 s0] 45)).alloc (.cells #[.int .u64 a1, .int .u64 a0] 45)).alloc (.cells #[.int .u64 0, .int .u64 0] 45) := ⟨_, rfl⟩
  rw [← hW] at hb1
  have hx1 : Pr w.heap.size (.int .u64 s1) (.int .u64 s0) W := by rw [hW]; exact ((Pr.made _ _ _ _ rfl).alloc _).alloc _
  have hx2 : Pr (w.heap.size + 1) (.int .u64 a1) (.int .u64 a0) W := by rw [hW]; exact (Pr.made _ _ _ _ (by simp)).alloc _
  have hx3 : Pr (w.heap.size + 1 + 1) (.int .u64 0) (.int .u64 0) W := by rw [hW]; exact Pr.made _ _ _ _ (by simp)
  have hB : Below w.heap.size w W := by rw [hW]; exact (((Below.refl _ _).alloc (Nat.le_refl _) _).alloc (by simp) _).alloc (by simp; omega) _
  have hB1 := hB.trans (hb1.mono hB.size)
  obtain ⟨p1', p2', p3', p4', p5'⟩ := hx1.moved hb1
  obtain ⟨q1, q2, q3, q4, q5⟩ := hx2.moved hb1
  obtain ⟨r1, r2, r3, r4, r5⟩ := hx3.moved hb1
  clear hx1 hx2 hx3 hb1 hW hB
  go_wp2_with fail
  refine (HM.out _).mono ?_
  rintro e w2 ⟨rfl, rfl⟩
  go_wp2_with fail
  obtain ⟨WF, hWF⟩ : ∃ W, W = (((w1.setCell ⟨w.heap.size + 1 + 1, 0, none⟩ (.int .u64 m3)).setCell ⟨w.heap.size + 1 + 1, 1, none⟩ (.int .u64 l2)).alloc (.cells #[.int .u64 f1, .int .u64 f0] 45)) := ⟨_, rfl⟩
  rw [← hWF]
  have hPF : Pr (w.heap.size + 1 + 1) (.int .u64 m3) (.int .u64 l2) WF := by rw [hWF]; exact ((Pr.mk r1 r2 r3 r4 r5).set _ _).alloc _
  have hBF : Below w.heap.size w WF := by rw [hWF]; exact ((hB1.setCell (by show w.heap.size ≤ w.heap.size + 1 + 1; omega) _).setCell (by show w.heap.size ≤ w.heap.size + 1 + 1; omega) _).alloc (by simp [World.setCell]; omega) _
  obtain ⟨t1, t2, t3, t4, t5⟩ := hPF
  exact bodyPost_ret (v := .agg #[.int .u64 m3, .int .u64 l2]) (by simp [results, Tryz.results21, go_sem, t1, t2]) rfl ⟨rfl, hBF⟩
end Go.Proofs.YtpnnbjifhoonkaaGreat
namespace Go.Proofs.YtpnnbjifhoonkaaGreat
open Go.RowKit

theorem neq_wide (x1 x0 y1 y0 : Int) (w : World) : (binOp .neq 45 (.agg #[.int .u64 x1, .int .u64 x0]) (.agg #[.int .u64 y1, .int .u64 y0])).run Tryz.prog w = .ok (.bool (!(x1 == y1 && x0 == y0))) w := by
  have u3 := Tryz.underlying43
  have a3 := Tryz.isAgg43
  have z3 := Tryz.sizeOf43
  have hS : Tryz.prog.underlying 45 = some (.struct (Tryz.prog.fieldsOf 45)) := by kernel_rfl
  have hp : Tryz.prog.stoodInHeld 45 = false := by kernel_rfl
  rw [run_neq_struct, show (10000 : Nat) = 9999 + 1 from rfl, run_equalIn_agg w 9999 45 _ _ hS hp]
  simp only [Program.fieldsOf, Tryz.underlying45]
  go_simp
  by_cases h1 : x1 = y1 <;> by_cases h2 : x0 = y0 <;> simp [h1, h2]

/-- m is S modulo 2^128, and within the limits. -/
def IsLim (S m : Int) : Prop := -4611686018427387904 ≤ m ∧ m ≤ 4611686018427387904 ∧ (S - m) % 340282366920938463463374607431768211456 = 0

def GivesLim (w : World) (S : Int) (e : Ending) (w' : World) : Prop :=
  ((∃ m, IsLim S m ∧ e = .returned (.tuple #[.int .i64 m, .bool true])) ∨ ((∀ m, ¬IsLim S m) ∧ e = .returned (.tuple #[.int .i64 0, .bool false]))) ∧ Below w.heap.size w w'

theorem lim_words {S n : Int} (h : I64 n) (hn : n % 18446744073709551616 = S % 18446744073709551616) : (hiW n = hiW S ∧ loW n = loW S) ↔ (S - n) % 340282366920938463463374607431768211456 = 0 := by
  obtain ⟨K1, e1⟩ := words S
  obtain ⟨K2, e2⟩ := words n
  have g1 := hiW_ge S
  have g2 := hiW_lt S
  have g3 := hiW_ge n
  have g4 := hiW_lt n
  have hl : loW n = loW S := hn
  constructor
  · rintro ⟨h1, h2⟩
    omega
  · intro h1
    refine ⟨?_, hl⟩
    omega

theorem mixed : Tryz.prog.follows .mixedOrders = true := by kernel_rfl

theorem below_grow (w : World) (n : Nat) (os : Array Obj) : Below w.heap.size w (Go.Sort.grow (w.drewN n) os) :=
  ⟨rfl, rfl, rfl, by unfold Go.Sort.grow; simp, fun k hk => by
    show (w.heap ++ os)[k]? = _
    rw [Array.getElem?_append_left hk]⟩

theorem givesLim_yes {w w' : World} {S m : Int} (h : IsLim S m) (hb : Below w.heap.size w w') : GivesLim w S (.returned (.tuple #[.int .i64 m, .bool true])) w' := ⟨.inl ⟨m, h, rfl⟩, hb⟩
theorem givesLim_no {w w' : World} {S : Int} (h : ∀ m, ¬IsLim S m) (hb : Below w.heap.size w w') : GivesLim w S (.returned (.tuple #[.int .i64 0, .bool false])) w' := ⟨.inr ⟨h, rfl⟩, hb⟩

set_option maxRecDepth 100000 in
set_option maxHeartbeats 2000000 in
theorem limited_any (S : Int) (w : World) : Calls Tryz.prog 23 #[wval S] w (GivesLim w S) := by
  obtain ⟨n, hn⟩ : ∃ n, n = IntKind.i64.wrap (loW S) := ⟨_, rfl⟩
  have hnI : I64 n := by rw [hn, IntKind.wrap_i64]; unfold I64; omega
  have hnm : n % 18446744073709551616 = S % 18446744073709551616 := by rw [hn, IntKind.wrap_i64]; unfold loW; omega
  have hiff := lim_words hnI hnm
  obtain ⟨s1, hs1⟩ : ∃ x, x = hiW S := ⟨_, rfl⟩
  obtain ⟨s0, hs0⟩ : ∃ x, x = loW S := ⟨_, rfl⟩
  have hw := widen_grown n hnI
  unfold wval at hw ⊢
  obtain ⟨n1, hn1⟩ : ∃ x, x = hiW n := ⟨_, rfl⟩
  obtain ⟨n0, hn0⟩ : ∃ x, x = loW n := ⟨_, rfl⟩
  rw [← hs1, ← hs0, ← hn1, ← hn0] at hiff
  rw [← hs0] at hn
  rw [← hs1, ← hs0]
  rw [← hn1, ← hn0] at hw
  have hneq := fun w => neq_wide n1 n0 s1 s0 w
  obtain ⟨W, hW⟩ : ∃ W, W = w.alloc (.cells #[.int .u64 s1, .int .u64 s0] 45) := ⟨_, rfl⟩
  have hx : Pr w.heap.size (.int .u64 s1) (.int .u64 s0) W := by rw [hW]; exact Pr.made _ _ _ _ rfl
  have hB : Below w.heap.size w W := by rw [hW]; exact (Below.refl _ _).alloc (Nat.le_refl _) _
  have HN : Hid (wrap64 s0 = n) := by unfold Hid; rw [hn, IntKind.wrap_i64]; unfold wrap64; omega
  have hI1 := hnI.1
  have hI2 := hnI.2
  have HW := Lib.hid hw
  have HWW : Hid (w.alloc (.cells #[.int .u64 s1, .int .u64 s0] 45) = W) := hW.symm
  have HB := Lib.hid hB
  have HX := Lib.hid hx
  have HIFF := Lib.hid hiff
  have hmix := mixed
  have hx1 := fun n os => cell_grown (n := n) (os := os) hx.lt hx.c0
  have hx2 := fun n os => cell_grown (n := n) (os := os) hx.lt hx.c1
  clear hs1 hs0 hn1 hn0 hw hn hW hB hiff hnI hx
  by_cases heq : n1 = s1 ∧ n0 = s0
  · have hb : (!(n1 == s1 && n0 == s0)) = false := by simp [heq.1, heq.2]
    have hcong := HIFF.out.1 heq
    rw [hb] at hneq
    have HC := Lib.hid hcong
    clear heq hb hcong
    by_cases h1 : n < -4611686018427387904
    · have d1 : decide (n < -4611686018427387904) = true := decide_eq_true h1
      have hno : Hid (∀ m, ¬IsLim S m) := fun m h => by
        have := h.1; have := h.2.1; have := h.2.2; have := HC.out; omega
      go_enter Tryz.func23, Tryz.ntmps23
      go_wp2_with fail
      rw [HWW.out, HN.out]
      go_quiet_grown (first | (go_at_call 22; exact Calls.grown_of (HW.out _)))
      have hB5 := HB.out.trans ((below_grow W nq osq).mono HB.out.size)
      go_wp2_with fail
      go_ret2
      exact givesLim_no hno.out hB5
    · by_cases h2 : 4611686018427387904 < n
      · have d1 : decide (n < -4611686018427387904) = false := decide_eq_false h1
        have d2 : decide (4611686018427387904 < n) = true := decide_eq_true h2
        have hno : Hid (∀ m, ¬IsLim S m) := fun m h => by
          have := h.1; have := h.2.1; have := h.2.2; have := HC.out; omega
        go_enter Tryz.func23, Tryz.ntmps23
        go_wp2_with fail
        rw [HWW.out, HN.out]
        go_quiet_grown (first | (go_at_call 22; exact Calls.grown_of (HW.out _)))
        have hB5 := HB.out.trans ((below_grow W nq osq).mono HB.out.size)
        go_wp2_with fail
        go_ret2
        exact givesLim_no hno.out hB5
      · have d1 : decide (n < -4611686018427387904) = false := decide_eq_false h1
        have d2 : decide (4611686018427387904 < n) = false := decide_eq_false h2
        go_enter Tryz.func23, Tryz.ntmps23
        go_wp2_with fail
        rw [HWW.out, HN.out]
        go_quiet_grown (first | (go_at_call 22; exact Calls.grown_of (HW.out _)))
        have hB5 := HB.out.trans ((below_grow W nq osq).mono HB.out.size)
        go_wp2_with fail
        go_ret2
        exact givesLim_yes ⟨by omega, by omega, HC.out⟩ hB5
  · have hb : (!(n1 == s1 && n0 == s0)) = true := by
      by_cases h1 : n1 = s1 <;> by_cases h2 : n0 = s0 <;> simp [h1, h2]
      exact absurd ⟨h1, h2⟩ heq
    have hno : Hid (∀ m, ¬IsLim S m) := fun m h => by
      have h1 := h.1
      have h2 := h.2.1
      have h3 := h.2.2
      have hmn : m = n := by omega
      subst hmn
      exact heq (HIFF.out.2 h3)
    rw [hb] at hneq
    clear heq hb
    go_enter Tryz.func23, Tryz.ntmps23
    go_wp2_with fail
    rw [HWW.out, HN.out]
    go_quiet_grown (first | (go_at_call 22; exact Calls.grown_of (HW.out _)))
    have hB5 := HB.out.trans ((below_grow W nq osq).mono HB.out.size)
    go_wp2_with fail
    go_ret2
    exact givesLim_no hno.out hB5
end Go.Proofs.YtpnnbjifhoonkaaGreat
namespace Go.Proofs.YtpnnbjifhoonkaaGreat
open Go.RowKit

/-- All coordinates are within the limit. -/
def InR (xs : List Int) : Prop := ∀ i, i < xs.length → -1099511627776 ≤ xs.getD i 0 ∧ xs.getD i 0 ≤ 1099511627776
instance (xs : List Int) : Decidable (InR xs) := by unfold InR; infer_instance

set_option maxRecDepth 100000 in
set_option maxHeartbeats 1000000 in
theorem inRange_any (a : Option Addr) (n cap : Nat) (xs : List Int) (w : World) (hr : RdI w a cap xs) (hl : xs.length = n) (hn : n ≤ 100000000000000) :
    Calls Tryz.prog 20 #[.slice a n cap] w fun e w' => e = .returned (.bool (decide (InR xs))) ∧ w = w' := by
  have hc := hr.cells
  have hg := hr.get
  have HL := Lib.hid hl
  have HC := Lib.hid hc
  have HG := Lib.hid hg
  clear hr hl hc hg
  go_enter Tryz.func20, Tryz.ntmps20
  go_wp2
  go_loop [7] (fun ii => ∃ i : Nat, i ≤ n ∧ ii = .int .i64 (i : Int) ∧ Hid (∀ c, c < i → -1099511627776 ≤ xs.getD c 0 ∧ xs.getD c 0 ≤ 1099511627776)) (fun ii => n - (intOf ii).toNat)
  case atStart => exact ⟨0, by omega, rfl, fun c hc => by omega⟩
  case round =>
    obtain ⟨i, hin, rfl, hall⟩ := hrel
    by_cases hi : i < n
    · obtain ⟨b, o, rfl, hcell⟩ := HC.out i (by rw [HL.out]; exact hi)
      obtain ⟨x, hx⟩ : ∃ x, x = xs.getD i 0 := ⟨_, rfl⟩
      rw [← hx] at hcell
      have hno : ¬(-1099511627776 ≤ x ∧ x ≤ 1099511627776) → decide (InR xs) = false := fun h => decide_eq_false fun h2 => h (by rw [hx]; exact h2 i (by rw [HL.out]; exact hi))
      have HNO := Lib.hid hno
      have HX := Lib.hid hx
      clear hno hx
      by_cases h1 : x < -1099511627776
      · have d1 : decide (x < -1099511627776) = true := decide_eq_true h1
        have HE : Hid (decide (InR xs) = false) := HNO.out (by omega)
        clear h1
        go_wp2
        go_ret
        exact ⟨by rw [HE.out]; rfl, rfl⟩
      · have d1 : decide (x < -1099511627776) = false := decide_eq_false h1
        by_cases h2 : 1099511627776 < x
        · have d2 : decide (1099511627776 < x) = true := decide_eq_true h2
          have HE : Hid (decide (InR xs) = false) := HNO.out (by omega)
          clear h1 h2
          go_wp2
          go_ret
          exact ⟨by rw [HE.out]; rfl, rfl⟩
        · have d2 : decide (1099511627776 < x) = false := decide_eq_false h2
          have hnx : Hid (∀ c, c < i + 1 → -1099511627776 ≤ xs.getD c 0 ∧ xs.getD c 0 ≤ 1099511627776) := fun c hc => by
            by_cases e : c = i
            · rw [e, ← HX.out]; omega
            · exact hall.out c (by omega)
          clear h1 h2
          go_wp2
          go_round
          case rel => exact ⟨i + 1, by omega, by go_num, hnx⟩
          case measure => simp [intOf]; omega
    · obtain rfl : i = n := by omega
      have HE : Hid (decide (InR xs) = true) := decide_eq_true fun c hc => hall.out c (by rw [← HL.out]; exact hc)
      go_wp2
      go_ret
      exact ⟨by rw [HE.out]; rfl, rfl⟩

/-- xs is a vector of a form with n rows. -/
def IsVec (n : Nat) (xs : List Int) : Prop := xs.length = n ∧ InR xs
instance (n : Nat) (xs : List Int) : Decidable (IsVec n xs) := by unfold IsVec; infer_instance

set_option maxRecDepth 100000 in
set_option maxHeartbeats 1000000 in
theorem isVector_any (ah a : Option Addr) (nh caph n cap : Nat) (xs : List Int) (w : World) (hr : RdI w a cap xs) (hl : xs.length = n) (hn : n ≤ 100000000000000) (hnh : nh ≤ 100000000000000) :
    Calls Tryz.prog 10 #[.slice ah nh caph, .slice a n cap] w fun e w' => e = .returned (.bool (decide (IsVec nh xs))) ∧ w = w' := by
  by_cases h : n = nh
  · subst h
    have hE : decide (InR xs) = decide (IsVec n xs) := by simp [IsVec, hl]
    have HE := Lib.hid hE
    have HR := Lib.hid hr
    clear hE hr
    go_enter Tryz.func10, Tryz.ntmps10
    go_wp2_with fail
    refine (inRange_any a n cap xs _ HR.out hl hn).mono ?_
    rintro e w' ⟨rfl, rfl⟩
    rw [HE.out]
    go_wp2_with fail
    go_ret
    exact ⟨rfl, rfl⟩
  · have hE : decide (IsVec nh xs) = false := decide_eq_false fun h2 => h (by rw [← hl]; exact h2.1)
    have hne : (((n : Nat) : Int) == (nh : Int)) = false := by simp; omega
    rw [hE]
    clear hE h hr
    go_enter Tryz.func10, Tryz.ntmps10
    go_wp2_with fail
    go_ret
    exact ⟨rfl, rfl⟩

set_option maxRecDepth 100000 in
set_option maxHeartbeats 1000000 in
theorem valid_any (ah a : Option Addr) (nh caph n cap : Nat) (hs : List (List Int)) (xs : List Int) (w : World) (hrm : RdM w ah caph hs) (hlm : hs.length = nh) (hr : RdI w a cap xs) (hl : xs.length = n) (hn : n ≤ 100000000000000) (hnh : nh ≤ 100000000000000) :
    Calls Tryz.prog 9 #[.slice ah nh caph, .slice a n cap] w (GivesBY w (IsRed hs ∧ IsVec nh xs)) := by
  have HRM := Lib.hid hrm
  have HR := Lib.hid hr
  clear hrm hr
  go_enter Tryz.func9, Tryz.ntmps9
  go_wp2_with fail
  refine (isReduced_any ah nh caph hs _ HRM.out hlm hnh).mono ?_
  rintro e w1 ⟨r, rfl, hrr, hb⟩
  cases r with
  | false =>
    have hno : Hid (¬(IsRed hs ∧ IsVec nh xs)) := fun h => by have := hrr.2 h.1; simp at this
    clear hrr
    go_wp2_with fail
    go_ret
    exact givesB_no hno.out hb
  | true =>
    have hyes : Hid (IsRed hs) := hrr.1 rfl
    clear hrr
    have HR1 : Hid (RdI w1 a cap xs) := HR.out.below hb
    go_wp2_with fail
    refine (isVector_any ah a nh caph n cap xs _ HR1.out hl hn hnh).mono ?_
    rintro e w' ⟨rfl, rfl⟩
    obtain ⟨c, hc⟩ : ∃ c, c = decide (IsVec nh xs) := ⟨_, rfl⟩
    rw [← hc]
    have HC : Hid (c = true ↔ IsRed hs ∧ IsVec nh xs) := by
      unfold Hid
      rw [hc, decide_eq_true_iff]
      exact ⟨fun h => ⟨hyes.out, h⟩, fun h => h.2⟩
    clear hc
    go_wp2_with fail
    go_ret
    exact givesB_mk HC.out hb
end Go.Proofs.YtpnnbjifhoonkaaGreat
