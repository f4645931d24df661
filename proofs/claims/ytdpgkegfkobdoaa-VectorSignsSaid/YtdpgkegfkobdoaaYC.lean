/-
  The contract of eliminate.
-/
import Derived.Test.YtdpgkegfkobdoaaYB
namespace Go.Proofs.Ytdpgkegfkobdoaa
open Go.RowKit

/-- The new entry. -/
def stepE (F : Nat → Int) (k : Nat) (d : Int) (i j : Nat) : Int := Int.tdiv (F (1 + k * 8 + k) * F (1 + i * 8 + j) - F (1 + i * 8 + k) * F (1 + j * 8 + k)) d

/-- G is F but for the entries with k < j ≤ i that lie ahead of (i0, j0): these are the new ones, and below the limit. -/
structure Upto (n : Nat) (F : Nat → Int) (k : Nat) (d : Int) (i0 j0 : Nat) (G : Nat → Int) : Prop where
  done : ∀ i j, k < j → j ≤ i → i < n → (i < i0 ∨ (i = i0 ∧ j < j0)) → G (1 + i * 8 + j) = stepE F k d i j ∧ Small (stepE F k d i j)
  kept : ∀ i j, j < 8 → ¬(k < j ∧ j ≤ i ∧ i < n ∧ (i < i0 ∨ (i = i0 ∧ j < j0))) → G (1 + i * 8 + j) = F (1 + i * 8 + j)
  size : G 0 = F 0

/-- All new entries are below the limit. -/
def Lims (n : Nat) (F : Nat → Int) (k : Nat) (d : Int) : Prop := ∀ i j, k < j → j ≤ i → i < n → Small (stepE F k d i j)

/-- What eliminate gives. -/
def GivesStep (w : World) (b n : Nat) (F : Nat → Int) (k : Nat) (d : Int) (e : Ending) (w' : World) : Prop :=
  (Lims n F k d ∧ e = .returned (.bool true) ∧ ∃ G, Upto n F k d n 0 G ∧ Stg w' b G ∧ w.grownBy w' (some b)) ∨ (¬Lims n F k d ∧ e = .returned (.bool false) ∧ w.grownBy w' (some b))

theorem grownBy_drewN {a w : World} {row : Option Nat} (h : a.grownBy w row) (n : Nat) : a.grownBy (w.drewN n) row := ⟨h.os, h.tape, h.output, h.size, h.block⟩
theorem grownBy_setCell {a w : World} {g : Nat} (h : a.grownBy w (some g)) (i : Nat) (u : Value) : a.grownBy (w.setCell ⟨g, i, none⟩ u) (some g) :=
  ⟨h.os, h.tape, h.output, by simpa [World.setCell] using h.size, fun j hj hne => (Below.heap_setCell w ⟨g, i, none⟩ u j (fun e => hne (by rw [e]))).trans (h.block j hj hne)⟩
theorem grownBy_refl (w : World) (row : Option Nat) : w.grownBy w row := ⟨rfl, rfl, rfl, Nat.le_refl _, fun _ _ _ => rfl⟩
theorem grownBy_trans {a b c : World} {g : Nat} (h : a.grownBy b (some g)) (h2 : b.grownBy c (some g)) : a.grownBy c (some g) :=
  ⟨h2.os.trans h.os, h2.tape.trans h.tape, h2.output.trans h.output, Nat.le_trans h.size h2.size, fun j hj hne => (h2.block j (Nat.lt_of_lt_of_le hj h.size) hne).trans (h.block j hj hne)⟩
theorem below_of_grownBy {a w w' : World} {B g : Nat} (h : Below B a w) (hg : w.grownBy w' (some g)) (hB : B ≤ w.heap.size) (hgB : B ≤ g) : Below B a w' :=
  h.grown hg hB (fun k hk => by simp only [Option.some.injEq] at hk; omega)

theorem Stg.set {w : World} {b : Nat} {F : Nat → Int} (h : Stg w b F) (i : Nat) (v : Int) : Stg (w.setCell ⟨b, i, none⟩ (.int .i64 v)) b (fun j => if j = i then v else F j) :=
  World.rowIs.congr (World.rowIs.set h i _) fun j _ => by by_cases e : j = i <;> simp [e]

theorem Upto.start (n : Nat) (F : Nat → Int) (k : Nat) (d : Int) : Upto n F k d (k + 1) (k + 1) F := by
  refine ⟨fun i j h1 h2 h3 h4 => ?_, fun i j _ _ => rfl, rfl⟩
  omega

theorem Upto.row {n : Nat} {F G : Nat → Int} {k : Nat} {d : Int} {i0 : Nat} (h : Upto n F k d i0 (i0 + 1) G) : Upto n F k d (i0 + 1) (k + 1) G :=
  ⟨fun i j h1 h2 h3 h4 => h.done i j h1 h2 h3 (by omega), fun i j h1 h2 => h.kept i j h1 (by omega), h.size⟩

theorem Upto.last {n : Nat} {F G : Nat → Int} {k : Nat} {d : Int} (h : Upto n F k d n (k + 1) G) : Upto n F k d n 0 G :=
  ⟨fun i j h1 h2 h3 h4 => h.done i j h1 h2 h3 (by omega), fun i j h1 h2 => h.kept i j h1 (by omega), h.size⟩

theorem Upto.one {n : Nat} {F G : Nat → Int} {k : Nat} {d : Int} {i0 j0 : Nat} (h : Upto n F k d i0 j0 G) (hk : k < j0) (hj : j0 ≤ i0) (hi : i0 < n) (hn : n ≤ 8) (hs : Small (stepE F k d i0 j0)) :
    Upto n F k d i0 (j0 + 1) (fun c => if c = 1 + i0 * 8 + j0 then stepE F k d i0 j0 else G c) := by
  refine ⟨fun i j h1 h2 h3 h4 => ?_, fun i j h1 h2 => ?_, ?_⟩
  · by_cases e : i = i0 ∧ j = j0
    · obtain ⟨rfl, rfl⟩ := e
      exact ⟨if_pos rfl, hs⟩
    · have hne : 1 + i * 8 + j ≠ 1 + i0 * 8 + j0 := by omega
      show (if _ then _ else _) = _ ∧ _
      rw [if_neg hne]
      exact h.done i j h1 h2 h3 (by omega)
  · have hne : 1 + i * 8 + j ≠ 1 + i0 * 8 + j0 := by omega
    show (if _ then _ else _) = _
    rw [if_neg hne]
    exact h.kept i j h1 (by omega)
  · show (if _ then _ else _) = _
    rw [if_neg (by omega)]
    exact h.size

/-- The product of two entries. -/
theorem prod_small {x y : Int} (hx : Small x) (hy : Small y) : ∃ P : Int, x * y = P ∧ -1152921504606846976 ≤ P ∧ P ≤ 1152921504606846976 := by
  have h : (x * y).natAbs ≤ 1073741824 * 1073741824 := by
    rw [Int.natAbs_mul]
    exact Nat.mul_le_mul (by have := hx.1; have := hx.2; omega) (by have := hy.1; have := hy.2; omega)
  exact ⟨_, rfl, by omega, by omega⟩

theorem tdiv_bound {x d : Int} (hd : 0 < d) (h1 : -2305843009213693952 ≤ x) (h2 : x ≤ 2305843009213693952) : -2305843009213693952 ≤ Int.tdiv x d ∧ Int.tdiv x d ≤ 2305843009213693952 := by
  have h : (Int.tdiv x d).natAbs = x.natAbs / d.natAbs := Int.natAbs_tdiv x d
  have h3 : x.natAbs / d.natAbs ≤ x.natAbs := Nat.div_le_self _ _
  have h4 : (Int.tdiv x d).natAbs ≤ x.natAbs := by rw [h]; exact h3
  clear h h3
  omega

set_option maxRecDepth 100000 in
set_option maxHeartbeats 2000000 in
theorem eliminate_any (b n k : Nat) (F : Nat → Int) (d : Int) (w : World) (hS : Stg w b F) (h0 : F 0 = (n : Int)) (hk : k < n) (hn : n ≤ 8) (hF : ∀ i j, i < n → j ≤ i → Small (F (1 + i * 8 + j))) (hd : 0 < d) (hd2 : d < 1073741824) :
    Calls Try.prog 35 #[.pointer (some ⟨b, 0, none⟩), .int .i64 k, .int .i64 d] w (GivesStep w b n F k d) := by
  have H0 := Lib.hid h0
  have HS := Lib.hid hS
  clear h0 hS
  go_enter Try.func35, Try.ntmps35
  go_wp2_with fail
  go_loopw [7] (fun ii wr => ∃ (i : Nat) (G : Nat → Int), k < i ∧ i ≤ n ∧ ii = .int .i64 (i : Int) ∧ Hid (Upto n F k d i (k + 1) G) ∧ Hid (Stg wr b G) ∧ w.grownBy wr (some b)) (fun ii _ => n - (intOf ii).toNat)
  case atStart => exact ⟨k + 1, F, by omega, by omega, by go_num, Upto.start n F k d, HS, grownBy_refl _ _⟩
  case round =>
    obtain ⟨i, G, hki, hin, rfl, hU, hG, hgr⟩ := hrel
    have hsz := hG.out.size
    rw [hU.out.size, H0.out] at hsz
    by_cases hi : i < n
    · go_wp2_with fail
      go_loopw [8] (fun jj wq => ∃ (j : Nat) (G2 : Nat → Int), k < j ∧ j ≤ i + 1 ∧ jj = .int .i64 (j : Int) ∧ Hid (Upto n F k d i j G2) ∧ Hid (Stg wq b G2) ∧ w.grownBy wq (some b)) (fun jj _ => i + 1 - (intOf jj).toNat)
      case atStart => exact ⟨k + 1, G, by omega, by omega, by go_num, hU, hG, hgr⟩
      case round =>
        obtain ⟨j, G2, hkj, hji, rfl, hU2, hG2, hgr2⟩ := hrel
        clear hU hG hgr hsz
        by_cases hj : j ≤ i
        · have c1 := hG2.out.cell k k (by omega) (by omega)
          have c2 := hG2.out.cell i j (by omega) (by omega)
          have c3 := hG2.out.cell i k (by omega) (by omega)
          have c4 := hG2.out.cell j k (by omega) (by omega)
          have hfree := hG2.out.free (1 + i * 8 + j)
          rw [hU2.out.kept k k (by omega) (by omega)] at c1
          rw [hU2.out.kept i j (by omega) (by omega)] at c2
          rw [hU2.out.kept i k (by omega) (by omega)] at c3
          rw [hU2.out.kept j k (by omega) (by omega)] at c4
          obtain ⟨P1, hP1, p1, p2⟩ := prod_small (hF k k hk (Nat.le_refl _)) (hF i j hi hj)
          obtain ⟨P2, hP2, p3, p4⟩ := prod_small (hF i k hi (by omega)) (hF j k (by omega) (by omega))
          obtain ⟨z, hz⟩ : ∃ z, Int.tdiv (P1 - P2) d = z := ⟨_, rfl⟩
          obtain ⟨z1, z2⟩ := tdiv_bound (x := P1 - P2) hd (by omega) (by omega)
          rw [hz] at z1 z2
          have hst : stepE F k d i j = z := by unfold stepE; rw [hP1, hP2, hz]
          obtain ⟨x1, hx1⟩ : ∃ x, x = F (1 + k * 8 + k) := ⟨_, rfl⟩
          obtain ⟨x2, hx2⟩ : ∃ x, x = F (1 + i * 8 + j) := ⟨_, rfl⟩
          obtain ⟨x3, hx3⟩ : ∃ x, x = F (1 + i * 8 + k) := ⟨_, rfl⟩
          obtain ⟨x4, hx4⟩ : ∃ x, x = F (1 + j * 8 + k) := ⟨_, rfl⟩
          rw [← hx1] at c1 hP1
          rw [← hx2] at c2 hP1
          rw [← hx3] at c3 hP2
          rw [← hx4] at c4 hP2
          clear hx1 hx2 hx3 hx4
          have HST := Lib.hid hst
          clear hst
          go_wp2_with fail
          go_quiet (fail)
          go_wp2_with fail
          refine (belowLimit_any z _).mono ?_
          rintro e w1 ⟨rfl, rfl⟩
          by_cases hsm : Small z
          · have hdc : decide (Small z) = true := decide_eq_true hsm
            rw [hdc]
            have hnx : Hid (Upto n F k d i (j + 1) (fun c => if c = 1 + i * 8 + j then z else G2 c)) := by
              have h := hU2.out.one hkj hj hi hn (by rw [HST.out]; exact hsm)
              rw [HST.out] at h
              exact h
            clear hdc hsm
            go_wp2_with fail
            go_roundw
            case rel => exact ⟨j + 1, _, by omega, by omega, by go_num, hnx, (hG2.out.drew nq).set (1 + i * 8 + j) z, grownBy_setCell (grownBy_drewN hgr2 nq) _ _⟩
            case measure => simp [intOf]; omega
          · have hdc : decide (Small z) = false := decide_eq_false hsm
            rw [hdc]
            have hno : Hid (¬Lims n F k d) := fun h => hsm (by rw [← HST.out]; exact h i j hkj hj hi)
            clear hdc hsm
            go_wp2_with fail
            go_ret
            exact .inr ⟨hno.out, rfl, grownBy_drewN hgr2 nq⟩
        · obtain rfl : j = i + 1 := by omega
          go_wp2_with fail
          go_roundw
          case rel => exact ⟨i + 1, G2, by omega, by omega, by go_num, hU2.out.row, hG2, hgr2⟩
          case measure => simp [intOf]; omega
    · obtain rfl : i = n := by omega
      go_wp2_with fail
      go_ret
      exact .inl ⟨fun a c h1 h2 h3 => (hU.out.done a c h1 h2 h3 (.inl h3)).2, rfl, G, hU.out.last, hG.out, hgr⟩
end Go.Proofs.Ytdpgkegfkobdoaa
