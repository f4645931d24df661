/-
  The contract of inner: the inner product modulo 2^128, within the limits.
-/
import Derived.Test.YtdpgkegfkobdoaaYH
import Derived.Deep.RegionHeld3
namespace Go.Proofs.Ytdpgkegfkobdoaa
open Go.RowKit

/-- The sum of f 0 .. f (n - 1). -/
def sumTo (f : Nat → Int) : Nat → Int
  | 0 => 0
  | n + 1 => sumTo f n + f n

/-- The inner product of two columns with the matrix between them. -/
def innerS (hs : List (List Int)) (xs ys : List Int) (n : Nat) : Int := sumTo (fun i => sumTo (fun j => ent hs i j * xs.getD j 0) n * ys.getD i 0) n

theorem widen_cells (n : Int) (h : I64 n) (w : World) : Calls Try.prog 47 #[.int .i64 n] w fun e w' => e = .returned (.agg #[.int .u64 (hiW n), .int .u64 (loW n)]) ∧ Below w.heap.size w w' := widen_any n h w
theorem plus_cells (hM : MulOk) (hA : AddOk) (S A n : Int) (h : I64 n) (w : World) : Calls Try.prog 46 #[.agg #[.int .u64 (hiW S), .int .u64 (loW S)], .agg #[.int .u64 (hiW A), .int .u64 (loW A)], .int .i64 n] w fun e w' =>
    e = .returned (.agg #[.int .u64 (hiW (S + A * n)), .int .u64 (loW (S + A * n))]) ∧ Below w.heap.size w w' := plus_any hM hA S A n h w
theorem limited_cells (S : Int) (w : World) : Calls Try.prog 48 #[.agg #[.int .u64 (hiW S), .int .u64 (loW S)]] w (GivesLim w S) := limited_any S w

section
variable {b : Nat} {v0 v1 : Value} {p : Addr} {u : Value} {W v v' : World}
/-- A block of two cells and one cell more are held. -/
def Held (b : Nat) (v0 v1 : Value) (p : Addr) (u : Value) (W w' : World) : Prop :=
  w'.cell? ⟨b, 0, none⟩ = some v0 ∧ w'.cell? ⟨b, 1, none⟩ = some v1 ∧ w'.frozen? ⟨b, 0, none⟩ = false ∧ w'.frozen? ⟨b, 1, none⟩ = false ∧ w'.cell? p = some u ∧ Below W.heap.size W w'
theorem held_of (h : Pr b v0 v1 W) (hp : W.cell? p = some u) (hb : Below W.heap.size W v) : Held b v0 v1 p u W v :=
  ⟨(h.moved hb).c0, (h.moved hb).c1, (h.moved hb).f0, (h.moved hb).f1, by rw [hb.cell (World.block_lt_of_cell? W _ hp)]; exact hp, hb⟩
theorem after_drew (hb : Below W.drew.heap.size W.drew v) : Below W.heap.size W v := (Below.refl _ W).drew.trans hb
theorem after_B {B : Nat} {w : World} (hB : Below B w W) (hb : Below W.heap.size W v) (hBW : B ≤ W.heap.size := by omega) : Below B w v := hB.trans (hb.mono hBW)
theorem after_step (hb : Below W.heap.size W v) (h : Below v.heap.size v v') : Below W.heap.size W v' := hb.trans (h.mono hb.size)
theorem Pr.far (h : Pr b v0 v1 W) {a : Addr} (hne : b ≠ a.block) (x : Value) : Pr b v0 v1 (W.setCell a x) :=
  ⟨by rw [World.cell?_setCell_far _ _ _ _ (by simpa using Ne.symm hne)]; exact h.c0, by rw [World.cell?_setCell_far _ _ _ _ (by simpa using Ne.symm hne)]; exact h.c1, by simp [h.f0], by simp [h.f1], by simp [World.setCell]; exact h.lt⟩
theorem pair_next {q B : Nat} {u0 u1 : Value} {w : World} (hQ : Pr q u0 u1 W) (hP : Pr b v0 v1 W) (hB : Below B w W) (hb : Below W.heap.size W v) (hne : b ≠ q) (hq : B ≤ q) (x y : Value) :
    Pr q x y ((v.setCell ⟨q, 0, none⟩ x).setCell ⟨q, 1, none⟩ y) ∧ Pr b v0 v1 ((v.setCell ⟨q, 0, none⟩ x).setCell ⟨q, 1, none⟩ y) ∧ Below B w ((v.setCell ⟨q, 0, none⟩ x).setCell ⟨q, 1, none⟩ y) :=
  ⟨(hQ.moved hb).set x y, ((hP.moved hb).far hne x).far hne y, ((after_B hB hb (Nat.le_trans hq (Nat.le_of_lt hQ.lt))).setCell hq _).setCell hq _⟩
end

set_option maxRecDepth 100000 in
set_option maxHeartbeats 4000000 in
theorem inner_any (hM : MulOk) (hA : AddOk) (ah ax ay : Option Addr) (n caph capx capy : Nat) (hs : List (List Int)) (xs ys : List Int) (w : World) (hrm : RdM w ah caph hs) (hlm : hs.length = n) (hsq : ∀ i, i < n → (hs.getD i []).length = n)
    (hrx : RdI w ax capx xs) (hlx : xs.length = n) (hry : RdI w ay capy ys) (hly : ys.length = n) (hn : n ≤ 100000000000000) (hn0 : 0 < n) :
    Calls Try.prog 42 #[.slice ah n caph, .slice ax n capx, .slice ay n capy] w (GivesLim w (innerS hs xs ys n)) := by
  obtain ⟨bh, oh, A, C, rfl, hfix⟩ := hrm.fix (by rw [hlm]; exact hn0)
  obtain ⟨bx, ox, rfl, _⟩ := hrx.cells 0 (by rw [hlx]; exact hn0)
  obtain ⟨by', oy, rfl, _⟩ := hry.cells 0 (by rw [hly]; exact hn0)
  have HF := Lib.hid hfix
  have HSQ := Lib.hid hsq
  have HRX := Lib.hid hrx
  have HRY := Lib.hid hry
  have HLX := Lib.hid hlx
  have HLY := Lib.hid hly
  have HLM := Lib.hid hlm
  have HM := Lib.hid hM
  have HA := Lib.hid hA
  clear hfix hsq hrm hrx hry hlx hly hlm hM hA
  obtain ⟨W0, hW0⟩ : ∃ W, W = w.alloc (.cells #[.int .u64 0, .int .u64 0] 79) := ⟨_, rfl⟩
  have hx0 : Pr w.heap.size (.int .u64 (hiW 0)) (.int .u64 (loW 0)) W0 := by rw [hW0]; exact Pr.made _ _ _ _ rfl
  have hB0 : Below w.heap.size w W0 := by rw [hW0]; exact (Below.refl _ _).alloc (Nat.le_refl _) _
  have HW0 : Hid (w.alloc (.cells #[.int .u64 0, .int .u64 0] 79) = W0) := hW0.symm
  clear hW0
  go_enter Try.func42, Try.ntmps42
  go_wp2_with fail
  rw [HW0.out]
  go_loopw [16] (fun ii wr => ∃ (i : Nat) (S : Int), i ≤ n ∧ ii = .int .i64 (i : Int) ∧ Hid (S = sumTo (fun i => sumTo (fun j => ent hs i j * xs.getD j 0) n * ys.getD i 0) i) ∧ Hid (Pr w.heap.size (.int .u64 (hiW S)) (.int .u64 (loW S)) wr) ∧ Hid (Below w.heap.size w wr)) (fun ii _ => n - (intOf ii).toNat)
  case atStart => exact ⟨0, 0, by omega, rfl, rfl, hx0, hB0⟩
  case round =>
    obtain ⟨i, S, hin, rfl, hS, hP, hB⟩ := hrel
    obtain ⟨V, hV⟩ : ∃ V, V = wr := ⟨_, rfl⟩
    subst hV
    clear hx0 hB0
    by_cases hi : i < n
    · obtain ⟨hc, hri, hli⟩ := HF.out _ hB.out i (by rw [HLM.out]; exact hi)
      have hlen := HSQ.out i hi
      obtain ⟨br, orr, hAr, _⟩ := hri.cells 0 (by rw [hlen]; exact hn0)
      rw [hlen, hAr] at hc
      have HAR := Lib.hid hAr
      obtain ⟨W1, hW1⟩ : ∃ W, W = V.alloc (.cells #[.int .u64 0, .int .u64 0] 79) := ⟨_, rfl⟩
      have hx1 : Hid (Pr V.heap.size (.int .u64 (hiW 0)) (.int .u64 (loW 0)) W1) := by rw [hW1]; exact Pr.made _ _ _ _ rfl
      have hb1 : Hid (Below V.heap.size V W1) := by rw [hW1]; exact (Below.refl _ _).alloc (Nat.le_refl _) _
      have hP1 : Hid (Pr w.heap.size (.int .u64 (hiW S)) (.int .u64 (loW S)) W1) := hP.out.moved hb1.out
      have hB1 : Hid (Below w.heap.size w W1) := hB.out.trans (hb1.out.mono hB.out.size)
      have hlt : w.heap.size < V.heap.size := hP.out.lt
      have HW1 : Hid (V.alloc (.cells #[.int .u64 0, .int .u64 0] 79) = W1) := hW1.symm
      clear hri hli hlen hAr hW1
      go_wp2_with fail
      rw [HW1.out]
      go_loopw [23] (fun jj wq => ∃ (j : Nat) (T : Int), j ≤ n ∧ jj = .int .i64 (j : Int) ∧ Hid (T = sumTo (fun j => ent hs i j * xs.getD j 0) j) ∧ Hid (Pr V.heap.size (.int .u64 (hiW T)) (.int .u64 (loW T)) wq) ∧ Hid (Pr w.heap.size (.int .u64 (hiW S)) (.int .u64 (loW S)) wq) ∧ Hid (Below w.heap.size w wq)) (fun jj _ => n - (intOf jj).toNat)
      case atStart => exact ⟨0, 0, by omega, rfl, rfl, hx1, hP1, hB1⟩
      case round =>
        obtain ⟨j, T, hjn, rfl, hT, hQ, hP2, hB2⟩ := hrel
        clear hx1 hb1 hP1 hB1 hc hP
        by_cases hj : j < n
        · obtain ⟨hc, hri, hli⟩ := HF.out _ hB2.out i (by rw [HLM.out]; exact hi)
          have hlen := HSQ.out i hi
          obtain ⟨br', or', e1, hcr⟩ := hri.cells j (by rw [hlen]; exact hj)
          rw [HAR.out] at e1
          simp only [Option.some.injEq, Addr.mk.injEq, and_true] at e1
          obtain ⟨rfl, rfl⟩ := e1
          obtain ⟨bx', ox', e2, hcx⟩ := (HRX.out.below hB2.out).cells j (by rw [HLX.out]; exact hj)
          simp only [Option.some.injEq, Addr.mk.injEq, and_true] at e2
          obtain ⟨rfl, rfl⟩ := e2
          have hIx := HRX.out.get j
          have hIe := hri.get j
          obtain ⟨x, hx⟩ : ∃ x, x = xs.getD j 0 := ⟨_, rfl⟩
          obtain ⟨y, hy⟩ : ∃ y, y = (hs.getD i []).getD j 0 := ⟨_, rfl⟩
          rw [← hx] at hcx hIx
          rw [← hy] at hcr hIe
          have hnx : Hid (T + y * x = sumTo (fun j => ent hs i j * xs.getD j 0) (j + 1)) := by
            show T + y * x = sumTo _ j + ent hs i j * xs.getD j 0
            rw [← hT.out, hx, hy]; rfl
          have HIX := Lib.hid hIx
          have HIE := Lib.hid hIe
          have HCX := Lib.hid hcx
          clear hri hli hlen hx hy hc hIx hIe
          go_wp2_with fail
          obtain ⟨z1, z2, z3, z4, z5, _⟩ := held_of hQ.out HCX.out (Below.refl _ _)
          go_region_with ((first
            | (go_at_call 47; refine (widen_cells y HIE.out _).mono ?_; rintro e w3 ⟨rfl, hb3⟩; have hb5 : Below wr.heap.size wr w3 := after_drew hb3; obtain ⟨y1, y2, y3, y4, y5, _⟩ := held_of hQ.out HCX.out hb5)
            | (go_at_call 46; refine (plus_cells HM.out HA.out T y x HIX.out _).mono ?_; rintro e w4 ⟨rfl, hb4⟩; have hb6 : Below wr.heap.size wr w4 := after_step hb5 hb4; obtain ⟨x1, x2, x3, x4, x5, _⟩ := held_of hQ.out HCX.out hb6)))
          all_goals
            obtain ⟨k1, k2, k3⟩ := pair_next hQ.out hP2.out hB2.out hb6 (by omega) (by omega) (.int .u64 (hiW (T + y * x))) (.int .u64 (loW (T + y * x)))
            have K1 := Lib.hid k1
            have K2 := Lib.hid k2
            have K3 := Lib.hid k3
            clear k1 k2 k3 y1 y2 y3 y4 y5 x1 x2 x3 x4 x5 z1 z2 z3 z4 z5 hb3 hb4 hb5 hb6
            go_wp2_with fail
            go_roundw
            case rel => exact ⟨j + 1, T + y * x, by omega, by go_num, hnx, K1, K2, K3⟩
            case measure => simp [intOf]; omega
        · obtain rfl : j = n := by omega
          obtain ⟨by1, oy1, e2, hcy⟩ := (HRY.out.below hB2.out).cells i (by rw [HLY.out]; exact hi)
          simp only [Option.some.injEq, Addr.mk.injEq, and_true] at e2
          obtain ⟨rfl, rfl⟩ := e2
          have hIy := HRY.out.get i
          obtain ⟨y, hy⟩ : ∃ y, y = ys.getD i 0 := ⟨_, rfl⟩
          rw [← hy] at hcy hIy
          have hnx : Hid (S + T * y = sumTo (fun i => sumTo (fun j' => ent hs i j' * xs.getD j' 0) j * ys.getD i 0) (i + 1)) := by
            show S + T * y = sumTo _ i + sumTo _ j * ys.getD i 0
            rw [← hS.out, ← hT.out, hy]
          have HIY := Lib.hid hIy
          have HCY := Lib.hid hcy
          obtain ⟨s1, s2, s3, s4, s5⟩ := hP2.out
          obtain ⟨t1, t2, t3, t4, t5⟩ := hQ.out
          clear hy hIy
          go_wp2_with fail
          go_region_with ((first
            | (go_at_call 46; refine (plus_cells HM.out HA.out S T y HIY.out _).mono ?_; rintro e w4 ⟨rfl, hb4⟩; have hb6 : Below wr.heap.size wr w4 := after_drew hb4; obtain ⟨x1, x2, x3, x4, x5, _⟩ := held_of hP2.out HCY.out hb6)))
          all_goals
            obtain ⟨k1, k2, k3⟩ := pair_next hP2.out hQ.out hB2.out hb6 (by omega) (by omega) (.int .u64 (hiW (S + T * y))) (.int .u64 (loW (S + T * y)))
            have K1 := Lib.hid k1
            have K3 := Lib.hid k3
            clear k1 k2 k3 x1 x2 x3 x4 x5 s1 s2 s3 s4 s5 t1 t2 t3 t4 t5 hb4 hb6
            go_wp2_with fail
            go_roundw
            case rel => exact ⟨i + 1, S + T * y, by omega, by go_num, hnx, K1, K3⟩
            case measure => simp [intOf]; omega
    · obtain rfl : i = n := by omega
      obtain ⟨s1, s2, s3, s4, s5⟩ := hP.out
      have HS : Hid (S = innerS hs xs ys i) := hS
      go_wp2_with fail
      refine (limited_cells S _).mono ?_
      rintro e w5 ⟨(⟨m, hm, rfl⟩ | ⟨hno, rfl⟩), hb⟩
      · have HMM := Lib.hid hm
        clear hm s1 s2 s3 s4 s5
        go_wp2_with fail
        go_ret2
        rw [← HS.out]
        exact givesLim_yes HMM.out (after_B hB.out hb hB.out.size)
      · have HNO := Lib.hid hno
        clear hno s1 s2 s3 s4 s5
        go_wp2_with fail
        go_ret2
        rw [← HS.out]
        exact givesLim_no HNO.out (after_B hB.out hb hB.out.size)
end Go.Proofs.Ytdpgkegfkobdoaa
