/-
  Joined texts: YI YJ YK YV YX.
-/
import Derived.Test.YtpnnbjifhoonkaaGreatJ02
import Derived.Deep.RegionHeld3
import Derived.Test.YtpnnbjifhoonkaaGreatShelf
import Derived.Shelf.Spec.BitsCarry
import Derived.OpenShut
import Derived.Lib.SmallJoins
import Derived.WideKeyArgs
import Derived.SizedLaws
import Derived.Carry
import Derived.Below
import Derived.ChangeSame
import Derived.ChangeSlices
import Derived.WalkKit
import Derived.ProofKit
import Derived.Handed
namespace Go.Proofs.YtpnnbjifhoonkaaGreat
open Go.RowKit

/-- The sum of f 0 .. f (n - 1). -/
def sumTo (f : Nat → Int) : Nat → Int
  | 0 => 0
  | n + 1 => sumTo f n + f n

/-- The inner product of two columns with the matrix between them. -/
def innerS (hs : List (List Int)) (xs ys : List Int) (n : Nat) : Int := sumTo (fun i => sumTo (fun j => ent hs i j * xs.getD j 0) n * ys.getD i 0) n

theorem widen_cells (n : Int) (h : I64 n) (w : World) : Calls Tryz.prog 22 #[.int .i64 n] w fun e w' => e = .returned (.agg #[.int .u64 (hiW n), .int .u64 (loW n)]) ∧ Below w.heap.size w w' := widen_any n h w
theorem plus_cells (hM : MulOk) (hA : AddOk) (S A n : Int) (h : I64 n) (w : World) : Calls Tryz.prog 21 #[.agg #[.int .u64 (hiW S), .int .u64 (loW S)], .agg #[.int .u64 (hiW A), .int .u64 (loW A)], .int .i64 n] w fun e w' =>
    e = .returned (.agg #[.int .u64 (hiW (S + A * n)), .int .u64 (loW (S + A * n))]) ∧ Below w.heap.size w w' := plus_any hM hA S A n h w
theorem limited_cells (S : Int) (w : World) : Calls Tryz.prog 23 #[.agg #[.int .u64 (hiW S), .int .u64 (loW S)]] w (GivesLim w S) := limited_any S w

section
variable {b : Nat} {v0 v1 : Value} {p : Addr} {u : Value} {W v v' : World}
/-- A block of two cells and one cell more are held. -/
def Held (b : Nat) (v0 v1 : Value) (p : Addr) (u : Value) (W w' : World) : Prop :=
  w'.cell? ⟨b, 0, none⟩ = some v0 ∧ w'.cell? ⟨b, 1, none⟩ = some v1 ∧ w'.frozen? ⟨b, 0, none⟩ = false ∧ w'.frozen? ⟨b, 1, none⟩ = false ∧ w'.cell? p = some u ∧ Below W.heap.size W w'
theorem held_of (h : Pr b v0 v1 W) (hp : W.cell? p = some u) (hb : Below W.heap.size W v) : Held b v0 v1 p u W v :=
  ⟨(h.moved hb).c0, (h.moved hb).c1, (h.moved hb).f0, (h.moved hb).f1, by rw [hb.cell (World.block_lt_of_cell? W _ hp)]; exact hp, hb⟩
theorem after_drew (hb : Below W.drew.heap.size W.drew v) : Below W.heap.size W v := (Below.refl _ W).drew.trans hb
theorem after_B {B : Nat} {w : World} (hB : Below B w W) (hb : Below W.heap.size W v) (hBW : B ≤ W.heap.size := by omega) : Below B w v := hB.trans (hb.mono hBW)
theorem after_step (hb : Below W.heap.size W v) (h : Below v.heap.size v v') : Below W.heap.size W v' := hb.trans (h.mono hb.size)
theorem Pr.far (h : Pr b v0 v1 W) {a : Addr} (hne : b ≠ a.block) (x : Value) : Pr b v0 v1 (W.setCell a x) :=
  ⟨by rw [World.cell?_setCell_far _ _ _ _ (by simpa using Ne.symm hne)]; exact h.c0, by rw [World.cell?_setCell_far _ _ _ _ (by simpa using Ne.symm hne)]; exact h.c1, by simp [h.f0], by simp [h.f1], by simp [World.setCell]; exact h.lt⟩
theorem pair_next {q B : Nat} {u0 u1 : Value} {w : World} (hQ : Pr q u0 u1 W) (hP : Pr b v0 v1 W) (hB : Below B w W) (hb : Below W.heap.size W v) (hne : b ≠ q) (hq : B ≤ q) (x y : Value) :
    Pr q x y ((v.setCell ⟨q, 0, none⟩ x).setCell ⟨q, 1, none⟩ y) ∧ Pr b v0 v1 ((v.setCell ⟨q, 0, none⟩ x).setCell ⟨q, 1, none⟩ y) ∧ Below B w ((v.setCell ⟨q, 0, none⟩ x).setCell ⟨q, 1, none⟩ y) :=
  ⟨(hQ.moved hb).set x y, ((hP.moved hb).far hne x).far hne y, ((after_B hB hb (Nat.le_trans hq (Nat.le_of_lt hQ.lt))).setCell hq _).setCell hq _⟩
end

set_option maxRecDepth 100000 in
set_option maxHeartbeats 4000000 in
theorem inner_any (hM : MulOk) (hA : AddOk) (ah ax ay : Option Addr) (n caph capx capy : Nat) (hs : List (List Int)) (xs ys : List Int) (w : World) (hrm : RdM w ah caph hs) (hlm : hs.length = n) (hsq : ∀ i, i < n → (hs.getD i []).length = n)
    (hrx : RdI w ax capx xs) (hlx : xs.length = n) (hry : RdI w ay capy ys) (hly : ys.length = n) (hn : n ≤ 100000000000000) (hn0 : 0 < n) :
    Calls Tryz.prog 11 #[.slice ah n caph, .slice ax n capx, .slice ay n capy] w (GivesLim w (innerS hs xs ys n)) := by
  obtain ⟨bh, oh, A, C, rfl, hfix⟩ := hrm.fix (by rw [hlm]; exact hn0)
  obtain ⟨bx, ox, rfl, _⟩ := hrx.cells 0 (by rw [hlx]; exact hn0)
  obtain ⟨by', oy, rfl, _⟩ := hry.cells 0 (by rw [hly]; exact hn0)
  have HF := Lib.hid hfix
  have HSQ := Lib.hid hsq
  have HRX := Lib.hid hrx
  have HRY := Lib.hid hry
  have HLX := Lib.hid hlx
  have HLY := Lib.hid hly
  have HLM := Lib.hid hlm
  have HM := Lib.hid hM
  have HA := Lib.hid hA
  clear hfix hsq hrm hrx hry hlx hly hlm hM hA
  obtain ⟨W0, hW0⟩ : ∃ W, W = w.alloc (.cells #[.int .u64 0, .int .u64 0] 45) := ⟨_, rfl⟩
  have hx0 : Pr w.heap.size (.int .u64 (hiW 0)) (.int .u64 (loW 0)) W0 := by rw [hW0]; exact Pr.made _ _ _ _ rfl
  have hB0 : Below w.heap.size w W0 := by rw [hW0]; exact (Below.refl _ _).alloc (Nat.le_refl _) _
  have HW0 : Hid (w.alloc (.cells #[.int .u64 0, .int .u64 0] 45) = W0) := hW0.symm
  clear hW0
  go_enter Tryz.func11, Tryz.ntmps11
  go_wp2_with fail
  rw [HW0.out]
  go_loopw [16] (fun ii wr => ∃ (i : Nat) (S : Int), i ≤ n ∧ ii = .int .i64 (i : Int) ∧ Hid (S = sumTo (fun i => sumTo (fun j => ent hs i j * xs.getD j 0) n * ys.getD i 0) i) ∧ Hid (Pr w.heap.size (.int .u64 (hiW S)) (.int .u64 (loW S)) wr) ∧ Hid (Below w.heap.size w wr)) (fun ii _ => n - (intOf ii).toNat)
  case atStart => exact ⟨0, 0, by omega, rfl, rfl, hx0, hB0⟩
  case round =>
    obtain ⟨i, S, hin, rfl, hS, hP, hB⟩ := hrel
    obtain ⟨V, hV⟩ : ∃ V, V = wr := ⟨_, rfl⟩
    subst hV
    clear hx0 hB0
    by_cases hi : i < n
    · obtain ⟨hc, hri, hli⟩ := HF.out _ hB.out i (by rw [HLM.out]; exact hi)
      have hlen := HSQ.out i hi
      obtain ⟨br, orr, hAr, _⟩ := hri.cells 0 (by rw [hlen]; exact hn0)
      rw [hlen, hAr] at hc
      have HAR := Lib.hid hAr
      obtain ⟨W1, hW1⟩ : ∃ W, W = V.alloc (.cells #[.int .u64 0, .int .u64 0] 45) := ⟨_, rfl⟩
      have hx1 : Hid (Pr V.heap.size (.int .u64 (hiW 0)) (.int .u64 (loW 0)) W1) := by rw [hW1]; exact Pr.made _ _ _ _ rfl
      have hb1 : Hid (Below V.heap.size V W1) := by rw [hW1]; exact (Below.refl _ _).alloc (Nat.le_refl _) _
      have hP1 : Hid (Pr w.heap.size (.int .u64 (hiW S)) (.int .u64 (loW S)) W1) := hP.out.moved hb1.out
      have hB1 : Hid (Below w.heap.size w W1) := hB.out.trans (hb1.out.mono hB.out.size)
      have hlt : w.heap.size < V.heap.size := hP.out.lt
      have HW1 : Hid (V.alloc (.cells #[.int .u64 0, .int .u64 0] 45) = W1) := hW1.symm
      clear hri hli hlen hAr hW1
      go_wp2_with fail
      rw [HW1.out]
      go_loopw [23] (fun jj wq => ∃ (j : Nat) (T : Int), j ≤ n ∧ jj = .int .i64 (j : Int) ∧ Hid (T = sumTo (fun j => ent hs i j * xs.getD j 0) j) ∧ Hid (Pr V.heap.size (.int .u64 (hiW T)) (.int .u64 (loW T)) wq) ∧ Hid (Pr w.heap.size (.int .u64 (hiW S)) (.int .u64 (loW S)) wq) ∧ Hid (Below w.heap.size w wq)) (fun jj _ => n - (intOf jj).toNat)
      case atStart => exact ⟨0, 0, by omega, rfl, rfl, hx1, hP1, hB1⟩
      case round =>
        obtain ⟨j, T, hjn, rfl, hT, hQ, hP2, hB2⟩ := hrel
        clear hx1 hb1 hP1 hB1 hc hP
        by_cases hj : j < n
        · obtain ⟨hc, hri, hli⟩ := HF.out _ hB2.out i (by rw [HLM.out]; exact hi)
          have hlen := HSQ.out i hi
          obtain ⟨br', or', e1, hcr⟩ := hri.cells j (by rw [hlen]; exact hj)
          rw [HAR.out] at e1
          simp only [Option.some.injEq, Addr.mk.injEq, and_true] at e1
          obtain ⟨rfl, rfl⟩ := e1
          obtain ⟨bx', ox', e2, hcx⟩ := (HRX.out.below hB2.out).cells j (by rw [HLX.out]; exact hj)
          simp only [Option.some.injEq, Addr.mk.injEq, and_true] at e2
          obtain ⟨rfl, rfl⟩ := e2
          have hIx := HRX.out.get j
          have hIe := hri.get j
          obtain ⟨x, hx⟩ : ∃ x, x = xs.getD j 0 := ⟨_, rfl⟩
          obtain ⟨y, hy⟩ : ∃ y, y = (hs.getD i []).getD j 0 := ⟨_, rfl⟩
          rw [← hx] at hcx hIx
          rw [← hy] at hcr hIe
          have hnx : Hid (T + y * x = sumTo (fun j => ent hs i j * xs.getD j 0) (j + 1)) := by
            show T + y * x = sumTo _ j + ent hs i j * xs.getD j 0
            rw [← hT.out, hx, hy]; rfl
          have HIX := Lib.hid hIx
          have HIE := Lib.hid hIe
          have HCX := Lib.hid hcx
          clear hri hli hlen hx hy hc hIx hIe
          go_wp2_with fail
          obtain ⟨z1, z2, z3, z4, z5, _⟩ := held_of hQ.out HCX.out (Below.refl _ _)
          go_region_with ((first
            | (go_at_call 22; refine (widen_cells y HIE.out _).mono ?_; rintro e w3 ⟨rfl, hb3⟩; have hb5 : Below wr.heap.size wr w3 := after_drew hb3; obtain ⟨y1, y2, y3, y4, y5, _⟩ := held_of hQ.out HCX.out hb5)
            | (go_at_call 21; refine (plus_cells HM.out HA.out T y x HIX.out _).mono ?_; rintro e w4 ⟨rfl, hb4⟩; have hb6 : Below wr.heap.size wr w4 := after_step hb5 hb4; obtain ⟨x1, x2, x3, x4, x5, _⟩ := held_of hQ.out HCX.out hb6)))
          all_goals
            obtain ⟨k1, k2, k3⟩ := pair_next hQ.out hP2.out hB2.out hb6 (by omega) (by omega) (.int .u64 (hiW (T + y * x))) (.int .u64 (loW (T + y * x)))
            have K1 := Lib.hid k1
            have K2 := Lib.hid k2
            have K3 := Lib.hid k3
            clear k1 k2 k3 y1 y2 y3 y4 y5 x1 x2 x3 x4 x5 z1 z2 z3 z4 z5 hb3 hb4 hb5 hb6
            go_wp2_with fail
            go_roundw
            case rel => exact ⟨j + 1, T + y * x, by omega, by go_num, hnx, K1, K2, K3⟩
            case measure => simp [intOf]; omega
        · obtain rfl : j = n := by omega
          obtain ⟨by1, oy1, e2, hcy⟩ := (HRY.out.below hB2.out).cells i (by rw [HLY.out]; exact hi)
          simp only [Option.some.injEq, Addr.mk.injEq, and_true] at e2
          obtain ⟨rfl, rfl⟩ := e2
          have hIy := HRY.out.get i
          obtain ⟨y, hy⟩ : ∃ y, y = ys.getD i 0 := ⟨_, rfl⟩
          rw [← hy] at hcy hIy
          have hnx : Hid (S + T * y = sumTo (fun i => sumTo (fun j' => ent hs i j' * xs.getD j' 0) j * ys.getD i 0) (i + 1)) := by
            show S + T * y = sumTo _ i + sumTo _ j * ys.getD i 0
            rw [← hS.out, ← hT.out, hy]
          have HIY := Lib.hid hIy
          have HCY := Lib.hid hcy
          obtain ⟨s1, s2, s3, s4, s5⟩ := hP2.out
          obtain ⟨t1, t2, t3, t4, t5⟩ := hQ.out
          clear hy hIy
          go_wp2_with fail
          go_region_with ((first
            | (go_at_call 21; refine (plus_cells HM.out HA.out S T y HIY.out _).mono ?_; rintro e w4 ⟨rfl, hb4⟩; have hb6 : Below wr.heap.size wr w4 := after_drew hb4; obtain ⟨x1, x2, x3, x4, x5, _⟩ := held_of hP2.out HCY.out hb6)))
          all_goals
            obtain ⟨k1, k2, k3⟩ := pair_next hP2.out hQ.out hB2.out hb6 (by omega) (by omega) (.int .u64 (hiW (S + T * y))) (.int .u64 (loW (S + T * y)))
            have K1 := Lib.hid k1
            have K3 := Lib.hid k3
            clear k1 k2 k3 x1 x2 x3 x4 x5 s1 s2 s3 s4 s5 t1 t2 t3 t4 t5 hb4 hb6
            go_wp2_with fail
            go_roundw
            case rel => exact ⟨i + 1, S + T * y, by omega, by go_num, hnx, K1, K3⟩
            case measure => simp [intOf]; omega
    · obtain rfl : i = n := by omega
      obtain ⟨s1, s2, s3, s4, s5⟩ := hP.out
      have HS : Hid (S = innerS hs xs ys i) := hS
      go_wp2_with fail
      refine (limited_cells S _).mono ?_
      rintro e w5 ⟨(⟨m, hm, rfl⟩ | ⟨hno, rfl⟩), hb⟩
      · have HMM := Lib.hid hm
        clear hm s1 s2 s3 s4 s5
        go_wp2_with fail
        go_ret2
        rw [← HS.out]
        exact givesLim_yes HMM.out (after_B hB.out hb hB.out.size)
      · have HNO := Lib.hid hno
        clear hno s1 s2 s3 s4 s5
        go_wp2_with fail
        go_ret2
        rw [← HS.out]
        exact givesLim_no HNO.out (after_B hB.out hb hB.out.size)
end Go.Proofs.YtpnnbjifhoonkaaGreat
namespace Go.Proofs.YtpnnbjifhoonkaaGreat
open Go.RowKit Go.Shelf

theorem mulOk : MulOk := fun x y hx hy w => Tryz.bits_Mul64 x y hx hy w

theorem addOk : AddOk := fun x y c hc w => by
  rw [run_callFunc_extern Tryz.func41 (by kernel_rfl) (by kernel_rfl) (by kernel_rfl) (e := add64Entry) (by kernel_rfl), run_add64 x y c (by omega) (by omega) (by omega) (by omega)]
  simp only [Result.andThen]
  congr 5 <;> omega

/-- What a function gives that answers an inner product, where p says that there is one. -/
def GivesIn (w : World) (p : Prop) (S : Int) (e : Ending) (w' : World) : Prop :=
  ((∃ m, p ∧ IsLim S m ∧ e = .returned (.tuple #[.int .i64 m, .bool true])) ∨ ((∀ m, ¬(p ∧ IsLim S m)) ∧ e = .returned (.tuple #[.int .i64 0, .bool false]))) ∧ Below w.heap.size w w'
theorem givesIn_yes {w w' : World} {p : Prop} {S m : Int} (hp : p) (h : IsLim S m) (hb : Below w.heap.size w w') : GivesIn w p S (.returned (.tuple #[.int .i64 m, .bool true])) w' := ⟨.inl ⟨m, hp, h, rfl⟩, hb⟩
theorem givesIn_no {w w' : World} {p : Prop} {S : Int} (h : ∀ m, ¬(p ∧ IsLim S m)) (hb : Below w.heap.size w w') : GivesIn w p S (.returned (.tuple #[.int .i64 0, .bool false])) w' := ⟨.inr ⟨h, rfl⟩, hb⟩

theorem isRed_square {hs : List (List Int)} (h : IsRed hs) : ∀ i, i < hs.length → (hs.getD i []).length = hs.length := h.1.2.1
theorem isRed_pos {hs : List (List Int)} (h : IsRed hs) : 0 < hs.length := h.1.1.1

set_option maxRecDepth 100000 in
set_option maxHeartbeats 1000000 in
theorem normOf_any (ah a : Option Addr) (nh caph n cap : Nat) (hs : List (List Int)) (xs : List Int) (w : World) (hred : IsRed hs) (hrm : RdM w ah caph hs) (hlm : hs.length = nh) (hr : RdI w a cap xs) (hl : xs.length = n) (hn : n ≤ 100000000000000) :
    Calls Tryz.prog 55 #[.slice ah nh caph, .slice a n cap] w (GivesIn w (IsVec nh xs) (innerS hs xs xs nh)) := by
  have hnh : nh ≤ 8 := by have := hred.1.1.2; omega
  by_cases hv : IsVec nh xs
  · have hD : Hid (decide (IsVec nh xs) = true) := decide_eq_true hv
    have HV := Lib.hid hv
    obtain rfl : n = nh := by rw [← hl]; exact hv.1
    have HRM := Lib.hid hrm
    have HR := Lib.hid hr
    have HRED := Lib.hid hred
    have HLM := Lib.hid hlm
    have HL := Lib.hid hl
    clear hv hrm hr hred hlm hl
    go_enter Tryz.func55, Tryz.ntmps55
    go_wp2_with fail
    refine (isVector_any ah a n caph n cap xs _ HR.out HL.out hn (by omega)).mono ?_
    rintro e w' ⟨rfl, rfl⟩
    rw [hD.out]
    go_wp2_with fail
    refine (inner_any mulOk addOk ah a a n caph cap cap hs xs xs _ HRM.out HLM.out (fun i hi => by rw [isRed_square HRED.out i (by rw [HLM.out]; exact hi), HLM.out]) HR.out HL.out HR.out HL.out hn (by have := isRed_pos HRED.out; rw [HLM.out] at this; exact this)).mono ?_
    rintro e w5 ⟨(⟨m, hm, rfl⟩ | ⟨hno, rfl⟩), hb⟩
    · have HMM := Lib.hid hm
      clear hm
      go_wp2_with fail
      go_ret2
      exact givesIn_yes HV.out HMM.out hb
    · have HNO := Lib.hid hno
      clear hno
      go_wp2_with fail
      go_ret2
      exact givesIn_no (fun m h => HNO.out m h.2) hb
  · have hD : Hid (decide (IsVec nh xs) = false) := decide_eq_false hv
    have HV := Lib.hid hv
    have HR := Lib.hid hr
    clear hv hr hred hrm
    go_enter Tryz.func55, Tryz.ntmps55
    go_wp2_with fail
    refine (isVector_any ah a nh caph n cap xs _ HR.out hl hn (by omega)).mono ?_
    rintro e w' ⟨rfl, rfl⟩
    rw [hD.out]
    go_wp2_with fail
    go_ret2
    exact givesIn_no (fun m h => HV.out h.1) (Below.refl _ _)

set_option maxRecDepth 100000 in
set_option maxHeartbeats 1000000 in
theorem inner2_any (ah a a2 : Option Addr) (nh caph n cap n2 cap2 : Nat) (hs : List (List Int)) (xs ys : List Int) (w : World) (hrm : RdM w ah caph hs) (hlm : hs.length = nh) (hnh : nh ≤ 100000000000000) (hr : RdI w a cap xs) (hl : xs.length = n) (hn : n ≤ 100000000000000) (hr2 : RdI w a2 cap2 ys) (hl2 : ys.length = n2) (hn2 : n2 ≤ 100000000000000) :
    Calls Tryz.prog 6 #[.slice ah nh caph, .slice a n cap, .slice a2 n2 cap2] w (GivesIn w (IsRed hs ∧ IsVec nh xs ∧ IsVec nh ys) (innerS hs xs ys nh)) := by
  have HRM := Lib.hid hrm
  have HR := Lib.hid hr
  have HR2 := Lib.hid hr2
  have HLM := Lib.hid hlm
  have HL := Lib.hid hl
  have HL2 := Lib.hid hl2
  clear hrm hr hr2 hlm hl hl2
  go_enter Tryz.func6, Tryz.ntmps6
  go_wp2_with fail
  refine (valid_any ah a nh caph n cap hs xs _ HRM.out HLM.out HR.out HL.out hn hnh).mono ?_
  rintro e w1 ⟨r, rfl, hrr, hb⟩
  cases r with
  | false =>
    have hno : Hid (∀ m, ¬((IsRed hs ∧ IsVec nh xs ∧ IsVec nh ys) ∧ IsLim (innerS hs xs ys nh) m)) := fun m h => by have := hrr.2 ⟨h.1.1, h.1.2.1⟩; simp at this
    clear hrr
    go_wp2_with fail
    go_ret2
    exact givesIn_no hno.out hb
  | true =>
    have hyes : Hid (IsRed hs ∧ IsVec nh xs) := hrr.1 rfl
    clear hrr
    have HRY : Hid (RdI w1 a2 cap2 ys) := HR2.out.below hb
    have HRX : Hid (RdI w1 a cap xs) := HR.out.below hb
    have HRM1 : Hid (RdM w1 ah caph hs) := HRM.out.below hb
    go_wp2_with fail
    refine (isVector_any ah a2 nh caph n2 cap2 ys _ HRY.out HL2.out hn2 hnh).mono ?_
    rintro e w' ⟨rfl, rfl⟩
    by_cases hv : IsVec nh ys
    · have hD : Hid (decide (IsVec nh ys) = true) := decide_eq_true hv
      have HV := Lib.hid hv
      rw [hD.out]
      obtain rfl : n2 = nh := by rw [← HL2.out]; exact hv.1
      obtain rfl : n = n2 := by rw [← HL.out]; exact hyes.out.2.1
      clear hv
      go_wp2_with fail
      refine (inner_any mulOk addOk ah a a2 n caph cap cap2 hs xs ys _ HRM1.out HLM.out (fun i hi => by rw [isRed_square hyes.out.1 i (by rw [HLM.out]; exact hi), HLM.out]) HRX.out HL.out HRY.out HL2.out hn (by have := isRed_pos hyes.out.1; rw [HLM.out] at this; exact this)).mono ?_
      rintro e w5 ⟨(⟨m, hm, rfl⟩ | ⟨hno, rfl⟩), hb5⟩
      · have HMM := Lib.hid hm
        clear hm
        go_wp2_with fail
        go_ret2
        exact givesIn_yes ⟨hyes.out.1, hyes.out.2, HV.out⟩ HMM.out (hb.trans (hb5.mono hb.size))
      · have HNO := Lib.hid hno
        clear hno
        go_wp2_with fail
        go_ret2
        exact givesIn_no (fun m h => HNO.out m h.2) (hb.trans (hb5.mono hb.size))
    · have hD : Hid (decide (IsVec nh ys) = false) := decide_eq_false hv
      have HV := Lib.hid hv
      rw [hD.out]
      clear hv
      go_wp2_with fail
      go_ret2
      exact givesIn_no (fun m h => HV.out h.1.2.2) hb

set_option maxRecDepth 100000 in
set_option maxHeartbeats 1000000 in
theorem norm_any (ah a : Option Addr) (nh caph n cap : Nat) (hs : List (List Int)) (xs : List Int) (w : World) (hrm : RdM w ah caph hs) (hlm : hs.length = nh) (hnh : nh ≤ 100000000000000) (hr : RdI w a cap xs) (hl : xs.length = n) (hn : n ≤ 100000000000000) :
    Calls Tryz.prog 4 #[.slice ah nh caph, .slice a n cap] w (GivesIn w (IsRed hs ∧ IsVec nh xs ∧ IsVec nh xs) (innerS hs xs xs nh)) := by
  have HRM := Lib.hid hrm
  have HR := Lib.hid hr
  clear hrm hr
  go_enter Tryz.func4, Tryz.ntmps4
  go_wp2_with fail
  refine (inner2_any ah a a nh caph n cap n cap hs xs xs _ HRM.out hlm hnh HR.out hl hn HR.out hl hn).mono ?_
  rintro e w5 ⟨(⟨m, hp, hm, rfl⟩ | ⟨hno, rfl⟩), hb⟩
  · have HMM := Lib.hid hm
    have HP := Lib.hid hp
    clear hm hp
    go_wp2_with fail
    go_ret2
    exact givesIn_yes HP.out HMM.out hb
  · have HNO := Lib.hid hno
    clear hno
    go_wp2_with fail
    go_ret2
    exact givesIn_no HNO.out hb
end Go.Proofs.YtpnnbjifhoonkaaGreat
namespace Go.Proofs.YtpnnbjifhoonkaaGreat
open Go.RowKit Go.Shelf

/-- The sign of the first number that is not 0. -/
def sgnL : List Int → Int
  | [] => 0
  | x :: r => if x = 0 then sgnL r else if x < 0 then -1 else 1

/-- The one of xs and -xs that begins above 0. -/
def canonL (xs : List Int) : List Int := if sgnL xs < 0 then xs.map (fun x => -x) else xs

theorem length_canonL (xs : List Int) : (canonL xs).length = xs.length := by unfold canonL; split <;> simp

theorem sgnL_zero {xs : List Int} (h : ∀ i, i < xs.length → xs.getD i 0 = 0) : sgnL xs = 0 := by
  induction xs with
  | nil => rfl
  | cons x r ih =>
    have h0 : x = 0 := h 0 (by simp)
    unfold sgnL
    rw [if_pos h0]
    exact ih fun i hi => h (i + 1) (by simpa using hi)

theorem sgnL_first {xs : List Int} : ∀ {k : Nat}, k < xs.length → xs.getD k 0 ≠ 0 → (∀ i, i < k → xs.getD i 0 = 0) → sgnL xs = if xs.getD k 0 < 0 then -1 else 1 := by
  induction xs with
  | nil => intro k hk; simp at hk
  | cons x r ih =>
    intro k hk hne hz
    cases k with
    | zero =>
      have hx : (x :: r).getD 0 0 = x := rfl
      rw [hx] at hne ⊢
      unfold sgnL
      rw [if_neg hne]
    | succ k =>
      have h0 : x = 0 := hz 0 (by omega)
      have hx : (x :: r).getD (k + 1) 0 = r.getD k 0 := rfl
      rw [hx] at hne ⊢
      unfold sgnL
      rw [if_pos h0]
      exact ih (by simpa using hk) hne fun i hi => hz (i + 1) (by omega)

theorem closure_any (x : Int) (w : World) : Calls Tryz.prog 35 #[.int .i64 x] w fun e w' => e = .returned (.bool (!(x == 0))) ∧ w = w' := by
  go_enter Tryz.func35, Tryz.ntmps35
  go_wp2
  go_ret
  exact ⟨by simp [bne], rfl⟩

/-- The first place of a number that is not 0, -1 if there is none. -/
def GivesFirst (w : World) (xs : List Int) (e : Ending) (w' : World) : Prop :=
  ((∃ k : Nat, k < xs.length ∧ xs.getD k 0 ≠ 0 ∧ (∀ i, i < k → xs.getD i 0 = 0) ∧ e = .returned (.int .i64 (k : Int))) ∨ ((∀ i, i < xs.length → xs.getD i 0 = 0) ∧ e = .returned (.int .i64 (-1)))) ∧ w = w'

set_option maxRecDepth 100000 in
set_option maxHeartbeats 1000000 in
theorem indexFunc_any (a : Option Addr) (n cap : Nat) (xs : List Int) (w : World) (hr : RdI w a cap xs) (hl : xs.length = n) (hn : n ≤ 100000000000000) :
    Calls Tryz.prog 34 #[.slice a n cap, .func (.func 35) #[] #[]] w (GivesFirst w xs) := by
  have hc := hr.cells
  have HL := Lib.hid hl
  have HC := Lib.hid hc
  clear hr hl hc
  go_enter Tryz.func34, Tryz.ntmps34
  go_wp2_with fail
  go_loop [8] (fun ii => ∃ i : Nat, i ≤ n ∧ ii = .int .i64 (i : Int) ∧ Hid (∀ c, c < i → xs.getD c 0 = 0)) (fun ii => n - (intOf ii).toNat)
  case atStart => exact ⟨0, by omega, rfl, fun c hc => by omega⟩
  case round =>
    obtain ⟨i, hin, rfl, hall⟩ := hrel
    by_cases hi : i < n
    · obtain ⟨b, o, rfl, hcell⟩ := HC.out i (by rw [HL.out]; exact hi)
      obtain ⟨x, hx⟩ : ∃ x, x = xs.getD i 0 := ⟨_, rfl⟩
      rw [← hx] at hcell
      by_cases h0 : x = 0
      · have hnx : Hid (∀ c, c < i + 1 → xs.getD c 0 = 0) := fun c hc => by
          by_cases e : c = i
          · rw [e, ← hx, h0]
          · exact hall.out c (by omega)
        clear hx
        subst h0
        go_wp2_with fail
        refine (closure_any 0 _).mono ?_
        rintro e w' ⟨rfl, rfl⟩
        go_wp2_with fail
        go_round
        case rel => exact ⟨i + 1, by omega, by go_num, hnx⟩
        case measure => simp [intOf]; omega
      · have hne : (!(x == 0)) = true := by simpa using h0
        have hend : Hid (∀ (e : Ending), e = .returned (.int .i64 (i : Int)) → GivesFirst w xs e w) := fun e he => ⟨.inl ⟨i, by rw [HL.out]; exact hi, by rw [← hx]; exact h0, hall.out, he⟩, rfl⟩
        have HNE := Lib.hid hne
        clear hx h0 hne
        go_wp2_with fail
        refine (closure_any x _).mono ?_
        rintro e w' ⟨rfl, rfl⟩
        rw [HNE.out]
        go_wp2_with fail
        go_ret
        exact hend.out _ rfl
    · obtain rfl : i = n := by omega
      have hend : Hid (∀ (e : Ending), e = .returned (.int .i64 (-1)) → GivesFirst w xs e w) := fun e he => ⟨.inr ⟨fun c hc => hall.out c (by rw [← HL.out]; exact hc), he⟩, rfl⟩
      go_wp2_with fail
      go_ret
      exact hend.out _ rfl

/-- The cells of a list of int64. -/
def i64s (zs : List Int) : List Value := zs.map (Value.int .i64)
theorem length_i64s (zs : List Int) : (i64s zs).length = zs.length := by simp [i64s]
theorem i64s_get (zs : List Int) (i : Nat) (h : i < zs.length) : (i64s zs)[i]? = some (.int .i64 (zs.getD i 0)) := by
  simp [i64s, List.getD_eq_getElem?_getD, List.getElem?_eq_getElem h]
theorem i64s_one (zs : List Int) : ∀ u ∈ i64s zs, u.oneCell' = true := by
  intro u hu
  obtain ⟨_, _, rfl⟩ := List.mem_map.1 hu
  rfl

/-- The first cells of block g are the numbers zs. -/
structure OwnI (w : World) (g : Nat) (zs : List Int) : Prop where
  row : ∃ cur : Array Value, w.heap[g]? = some (.cells cur 2 (0, 0)) ∧ cur.toList.take zs.length = i64s zs

theorem OwnI.lt {w : World} {g : Nat} {zs : List Int} (h : OwnI w g zs) : g < w.heap.size := by
  obtain ⟨cur, hg, _⟩ := h.row
  exact (Array.getElem?_eq_some_iff.1 hg).1

theorem OwnI.cell {w : World} {g : Nat} {zs : List Int} (h : OwnI w g zs) (i : Nat) (hi : i < zs.length) : w.cell? ⟨g, i, none⟩ = some (.int .i64 (zs.getD i 0)) := by
  obtain ⟨cur, hg, ht⟩ := h.row
  rw [cell_of_row w g i cur _ (0, 0) hg]
  have e := i64s_get zs i hi
  rw [← ht, List.getElem?_take, if_pos hi] at e
  simpa using e

theorem OwnI.free {w : World} {g : Nat} {zs : List Int} (h : OwnI w g zs) (i : Nat) : w.frozen? ⟨g, i, none⟩ = false := by
  obtain ⟨cur, hg, _⟩ := h.row
  exact frozen_of_row w g i cur _ hg

theorem OwnI.store {w : World} {g : Nat} {zs : List Int} (h : OwnI w g zs) (i : Nat) (v : Int) : OwnI (w.setCell ⟨g, i, none⟩ (.int .i64 v)) g (zs.set i v) := by
  obtain ⟨cur, hg, ht⟩ := h.row
  refine ⟨cur.setIfInBounds i (.int .i64 v), heap_setCell_same w g i cur _ _ hg, ?_⟩
  rw [Array.toList_setIfInBounds, List.length_set, List.take_set, ht, i64s, i64s, List.map_set]

theorem OwnI.of_heap {w w' : World} {g : Nat} {zs : List Int} (h : OwnI w g zs) (he : w'.heap[g]? = w.heap[g]?) : OwnI w' g zs := by
  obtain ⟨cur, hg, ht⟩ := h.row
  exact ⟨cur, by rw [he]; exact hg, ht⟩
theorem OwnI.below {w w' : World} {g B : Nat} {zs : List Int} (h : OwnI w g zs) (hb : Below B w w') (hg : g < B) : OwnI w' g zs := h.of_heap (hb.block g hg)
theorem OwnI.rd {w : World} {g cap : Nat} {zs : List Int} (h : OwnI w g zs) (hc : zs.length ≤ cap) (hl : ∀ x ∈ zs, I64 x) : RdI w (some ⟨g, 0, none⟩) cap zs :=
  ⟨hc, hl, fun i hi => ⟨g, 0, rfl, by rw [Nat.zero_add]; exact h.cell i hi⟩⟩

theorem infoI64 : (Tryz.prog.info? 2).map (fun i => (i.zero, i.size, i.bytes)) = some (some (.int .i64 0), 1, 8) := by kernel_rfl

theorem ownI_of_row {w : World} {B n : Nat} {v : Value} {zs : List Int} (h : w.ownsRow B 2 1 v n (i64s zs)) (hl : zs.length = n) (hne : v ≠ .slice none 0 0) :
    ∃ g cap, v = .slice (some ⟨g, 0, none⟩) n cap ∧ n ≤ cap ∧ B ≤ g ∧ OwnI w g zs := by
  rcases h.2 with ⟨h0, _⟩ | ⟨g, cap, cur, hv, hbase, hg, hncap, _, _, htake⟩
  · exact absurd h0 hne
  · exact ⟨g, cap, hv, hncap, hbase, cur, hg, by rw [hl]; rw [Nat.mul_one] at htake; exact htake⟩

theorem clone_any (b o n cap : Nat) (xs : List Int) (w : World) (hr : RdI w (some ⟨b, o, none⟩) cap xs) (hl : xs.length = n) (hn : n ≤ 17592186044416) :
    Calls Tryz.prog 36 #[.slice (some ⟨b, o, none⟩) n cap] w fun e w' => ∃ g c, e = .returned (.slice (some ⟨g, 0, none⟩) n c) ∧ n ≤ c ∧ w.heap.size ≤ g ∧ OwnI w' g xs ∧ Below w.heap.size w w' := by
  obtain ⟨i, hi, hz0, hz1, hz2⟩ := info_parts infoI64
  have hc : ∀ j u, (i64s xs)[j]? = some u → w.cell? ⟨b, o + j, none⟩ = some u := fun j u hj => by
    have hj' : j < xs.length := by
      have := (List.getElem?_eq_some_iff.1 hj).1
      rwa [length_i64s] at this
    rw [i64s_get xs j hj'] at hj
    obtain ⟨b', o', e, hx⟩ := hr.cells j hj'
    simp only [Option.some.injEq, Addr.mk.injEq, and_true] at e
    obtain ⟨rfl, rfl⟩ := e
    rw [hx]; exact hj
  refine (Tryz.slices_Clone i (.int .i64 0) 1 8 hi hz0 hz1 hz2 rfl (by decide) Tryz.sizeOf2 b o n cap (i64s xs) w (by rw [length_i64s, hl, Nat.mul_one]) (by unfold maxLen; omega) (by omega) hc (i64s_one xs)).mono ?_
  rintro e w' ⟨v, rfl, hown, hne, hb⟩
  obtain ⟨g, c, rfl, hcap, hg, ho⟩ := ownI_of_row hown hl hne
  exact ⟨g, c, rfl, hcap, hg, ho, hb⟩

/-- The first i numbers negated. -/
def negTo (xs : List Int) (i : Nat) : List Int := (xs.take i).map (fun x => -x) ++ xs.drop i

theorem negTo_zero (xs : List Int) : negTo xs 0 = xs := by simp [negTo]
theorem negTo_all (xs : List Int) : negTo xs xs.length = xs.map (fun x => -x) := by simp [negTo]
theorem length_negTo (xs : List Int) (i : Nat) : (negTo xs i).length = xs.length := by simp [negTo]; omega
theorem negTo_next (xs : List Int) (i : Nat) (h : i < xs.length) : (negTo xs i).set i (-(xs.getD i 0)) = negTo xs (i + 1) := by
  have hl : ((xs.take i).map (fun x => -x)).length = i := by simp; omega
  have hg : xs.getD i 0 = xs[i] := by simp [List.getD_eq_getElem?_getD, List.getElem?_eq_getElem h]
  unfold negTo
  rw [List.set_append_right _ _ (by omega), hl, Nat.sub_self, List.drop_eq_getElem_cons h, List.set_cons_zero, hg, List.take_succ_eq_append_getElem h, List.map_append, List.append_assoc]
  rfl

/-- What CanonicalSign gives. -/
def GivesSign (w : World) (xs : List Int) (e : Ending) (w' : World) : Prop :=
  ((sgnL xs ≠ 0 ∧ InR xs ∧ ∃ g c, e = .returned (.tuple #[.slice (some ⟨g, 0, none⟩) xs.length c, .bool true]) ∧ xs.length ≤ c ∧ w.heap.size ≤ g ∧ OwnI w' g (canonL xs)) ∨ (¬(sgnL xs ≠ 0 ∧ InR xs) ∧ e = .returned (.tuple #[.slice none 0 0, .bool false]))) ∧ Below w.heap.size w w'
theorem givesSign_yes {w w' : World} {xs : List Int} {g c : Nat} (h1 : sgnL xs ≠ 0) (h2 : InR xs) (hc : xs.length ≤ c) (hg : w.heap.size ≤ g) (ho : OwnI w' g (canonL xs)) (hb : Below w.heap.size w w') {n : Nat} (hn : xs.length = n) :
    GivesSign w xs (.returned (.tuple #[.slice (some ⟨g, 0, none⟩) n c, .bool true])) w' := by subst hn; exact ⟨.inl ⟨h1, h2, g, c, rfl, hc, hg, ho⟩, hb⟩
theorem givesSign_no {w w' : World} {xs : List Int} (h : ¬(sgnL xs ≠ 0 ∧ InR xs)) (hb : Below w.heap.size w w') : GivesSign w xs (.returned (.tuple #[.slice none 0 0, .bool false])) w' := ⟨.inr ⟨h, rfl⟩, hb⟩

set_option maxRecDepth 100000 in
set_option maxHeartbeats 2000000 in
theorem csign_any (a : Option Addr) (n cap : Nat) (xs : List Int) (w : World) (hr : RdI w a cap xs) (hl : xs.length = n) (hn : n ≤ 17592186044416) :
    Calls Tryz.prog 16 #[.slice a n cap] w (GivesSign w xs) := by
  have HR := Lib.hid hr
  have HL := Lib.hid hl
  clear hr hl
  go_enter Tryz.func16, Tryz.ntmps16
  go_wp2_with fail
  refine (indexFunc_any a n cap xs _ HR.out HL.out (by omega)).mono ?_
  rintro e w1 ⟨(⟨k, hk, hne, hz, rfl⟩ | ⟨hall, rfl⟩), rfl⟩
  · have hsg := sgnL_first hk hne hz
    have HSG := Lib.hid hsg
    have hs0 : Hid (sgnL xs ≠ 0) := by unfold Hid; rw [hsg]; split <;> omega
    rw [HL.out] at hk
    obtain ⟨b, o, rfl, hcell⟩ := HR.out.cells k (by rw [HL.out]; exact hk)
    obtain ⟨x, hx⟩ : ∃ x, x = xs.getD k 0 := ⟨_, rfl⟩
    rw [← hx] at hcell
    have HX := Lib.hid hx
    clear hsg hne hz hx
    go_wp2_with fail
    refine (inRange_any _ n cap xs _ HR.out HL.out (by omega)).mono ?_
    rintro e w1 ⟨rfl, rfl⟩
    by_cases hin : InR xs
    · have hD : Hid (decide (InR xs) = true) := decide_eq_true hin
      rw [hD.out]
      have HIN := Lib.hid hin
      clear hin
      go_wp2_with fail
      refine (clone_any b o n cap xs _ HR.out HL.out hn).mono ?_
      rintro e w2 ⟨g, c, rfl, hgc, hg, hown, hb⟩
      have HOWN := Lib.hid hown
      have HB := Lib.hid hb
      have hcell2 : w2.cell? ⟨b, o + k, none⟩ = some (.int .i64 x) := by rw [hb.cell (World.block_lt_of_cell? w _ hcell)]; exact hcell
      clear hown hb hcell
      by_cases hneg : x < 0
      · have d1 : decide (x < 0) = true := decide_eq_true hneg
        have hcan : Hid (canonL xs = xs.map (fun x => -x)) := by
          unfold Hid canonL
          rw [HSG.out, ← HX.out, if_pos hneg]; rfl
        have hst : Hid (OwnI w2 g (negTo xs 0)) := by rw [negTo_zero]; exact HOWN
        clear hneg
        go_wp2_with fail
        go_loopw [26] (fun ii wr => ∃ i : Nat, i ≤ n ∧ ii = .int .i64 (i : Int) ∧ Hid (OwnI wr g (negTo xs i)) ∧ Hid (Below w.heap.size w wr)) (fun ii _ => n - (intOf ii).toNat)
        case atStart => exact ⟨0, by omega, rfl, hst, HB⟩
        case round =>
          obtain ⟨i, hin', rfl, ho, hB⟩ := hrel
          clear hst
          by_cases hi : i < n
          · obtain ⟨b', o', e1, hci⟩ := (HR.out.below hB.out).cells i (by rw [HL.out]; exact hi)
            simp only [Option.some.injEq, Addr.mk.injEq, and_true] at e1
            obtain ⟨rfl, rfl⟩ := e1
            have hy12 := HIN.out i (by rw [HL.out]; exact hi)
            have hnx := negTo_next xs i (by rw [HL.out]; exact hi)
            obtain ⟨y, hy⟩ : ∃ y, y = xs.getD i 0 := ⟨_, rfl⟩
            rw [← hy] at hci hy12 hnx
            have hy1 := hy12.1
            have hy2 := hy12.2
            have hcg := ho.out.cell i (by rw [length_negTo, HL.out]; exact hi)
            have hfg := ho.out.free i
            have HNX := Lib.hid hnx
            clear hy12 hy hnx
            go_wp2_with fail
            go_roundw
            case rel => exact ⟨i + 1, by omega, by go_num, by unfold Hid; rw [← HNX.out]; exact ho.out.store i (-y), hB.out.setCell (p := ⟨g, i, none⟩) hg _⟩
            case measure => simp [intOf]; omega
          · obtain rfl : i = n := by omega
            have hend : Hid (OwnI wr g (canonL xs)) := by
              have h := ho.out
              rw [← HL.out, negTo_all, ← hcan.out] at h
              exact h
            go_wp2_with fail
            go_ret2
            exact givesSign_yes hs0.out HIN.out (by rw [HL.out]; exact hgc) hg hend.out hB.out HL.out
      · have d1 : decide (x < 0) = false := decide_eq_false hneg
        have hcan : Hid (OwnI w2 g (canonL xs)) := by
          have e : canonL xs = xs := by
            unfold canonL
            rw [HSG.out, ← HX.out, if_neg hneg]; rfl
          unfold Hid
          rw [e]; exact HOWN.out
        clear hneg
        go_wp2_with fail
        go_ret2
        exact givesSign_yes hs0.out HIN.out (by rw [HL.out]; exact hgc) hg hcan.out HB.out HL.out
    · have hD : Hid (decide (InR xs) = false) := decide_eq_false hin
      rw [hD.out]
      have HIN := Lib.hid hin
      clear hin
      go_wp2_with fail
      go_ret2
      exact givesSign_no (fun h => HIN.out h.2) (Below.refl _ _)
  · have hno : Hid (¬(sgnL xs ≠ 0 ∧ InR xs)) := fun h => h.1 (sgnL_zero hall)
    clear hall
    go_wp2_with fail
    go_ret2
    exact givesSign_no hno.out (Below.refl _ _)
end Go.Proofs.YtpnnbjifhoonkaaGreat
namespace Go.Proofs.YtpnnbjifhoonkaaGreat
open Go.RowKit Go.Shelf

/-- The slice at address a reads as the list ks of int8. -/
structure Rd8 (w : World) (a : Option Addr) (ks : List Int) : Prop where
  lim : ∀ x ∈ ks, -128 ≤ x ∧ x ≤ 127
  cells : ∀ i, i < ks.length → ∃ b o, a = some ⟨b, o, none⟩ ∧ w.cell? ⟨b, o + i, none⟩ = some (.int .i8 (ks.getD i 0))
theorem Rd8.get {w : World} {a : Option Addr} {ks : List Int} (h : Rd8 w a ks) (i : Nat) : -128 ≤ ks.getD i 0 ∧ ks.getD i 0 ≤ 127 := by
  by_cases hi : i < ks.length
  · have e : ks.getD i 0 = ks[i] := by simp [List.getD_eq_getElem?_getD, List.getElem?_eq_getElem hi]
    rw [e]; exact h.lim _ (List.getElem_mem hi)
  · have e : ks.getD i 0 = 0 := by simp [List.getD_eq_getElem?_getD, List.getElem?_eq_none (Nat.le_of_not_lt hi)]
    rw [e]; omega
theorem Rd8.below {w w' : World} {a : Option Addr} {ks : List Int} (h : Rd8 w a ks) (hb : Below w.heap.size w w') : Rd8 w' a ks := by
  refine ⟨h.lim, fun i hi => ?_⟩
  obtain ⟨b, o, rfl, hc⟩ := h.cells i hi
  refine ⟨b, o, rfl, ?_⟩
  rw [hb.cell (World.block_lt_of_cell? w _ hc)]
  exact hc

end Go.Proofs.YtpnnbjifhoonkaaGreat
namespace Go.Proofs.YtpnnbjifhoonkaaGreat
open Go.ChangeShapes Go.WideShapes Go.ChangeAt Go.RowKit

theorem getD_take0 (zs : List Int) (n i : Nat) (h : i < n) : (zs.take n).getD i 0 = zs.getD i 0 := by
  simp [List.getD_eq_getElem?_getD, List.getElem?_take, h]

set_option maxRecDepth 100000 in
/-- WHAT A []int64 IS THAT COMES IN. -/
theorem open_i64s {H : Type} {enc : TypeId × Value → H} {W : World} {r : Reach} {base : Nat} {v : Value} {d : DataW H} {p : List MemPlace}
    (hv : Value.okWide Tryz.prog W r base 23 v) (h : DataW.Trod enc Tryz.prog W 0 (fun _ => true) true 23 v d p) (hz : ∀ e s, d = .slice e s → (e.length + s.length) * Tryz.prog.bytesOf 2 ≤ reachBytes) :
    ∃ (a : Option Addr) (n cap : Nat) (xs : List Int), v = .slice a n cap ∧ RdI W a cap xs ∧ xs.length = n ∧ n ≤ 17592186043904 ∧ (a = none → cap = 0) := by
  have c1 : Tryz.prog.cellsOf 2 = 1 := by kernel_rfl
  have b1 : Tryz.prog.bytesOf 2 = 8 := by kernel_rfl
  obtain ⟨ad, len, cap, rfl⟩ := okWide_slice Tryz.underlying23 hv
  obtain ⟨k, hk⟩ := h
  rcases open_ints Tryz.underlying23 Tryz.underlying2 c1 hk with ⟨e1, _⟩ | ⟨ad0, len0, cap0, zs, e1, _, hl, hm, hlen, hd, hcell, hwf⟩
  · have e1' : ad = none ∧ len = 0 ∧ cap = 0 := by simpa [Value.cells] using e1
    obtain ⟨rfl, rfl, rfl⟩ := e1'
    exact ⟨none, 0, 0, [], rfl, RdI.nil _ _ _, rfl, by omega, fun _ => rfl⟩
  · have e1' : ad = some ad0 ∧ len = len0 ∧ cap = cap0 := by simpa [Value.cells] using e1
    obtain ⟨rfl, rfl, rfl⟩ := e1'
    simp only [if_true] at hlen
    have hd' : d = .slice (lits .i64 (zs.take len)) (lits .i64 (zs.drop len)) := by simpa using congrArg Prod.fst hd
    have hb := hz _ _ hd'
    rw [b1] at hb
    have hll : (zs.take len).length = len := by rw [List.length_take]; omega
    have hn : len ≤ 17592186043904 := by
      simp only [lits, List.length_map, List.length_take, List.length_drop] at hb
      unfold reachBytes at hb
      omega
    refine ⟨some ad0, len, cap, zs.take len, rfl, ⟨by omega, ?_, fun i hi => ?_⟩, hll, hn, fun h => by cases h⟩
    · intro x hx
      have := bounds_i64 (hwf x (List.mem_of_mem_take hx))
      unfold I64
      omega
    · rw [hll] at hi
      obtain ⟨g, o, rfl, hc⟩ := ints_at hcell (by omega)
      exact ⟨g, o, rfl, by rw [hc i (by omega), getD_take0 zs len i hi]⟩

theorem laidOutV : laidOutB Tryz.prog = true := by kernel_rfl
theorem readI64 : Tryz.prog.readableRec 23 = true := by kernel_rfl
theorem rowI64 : 23 < Tryz.prog.types.size := of_decide_eq_true (by kernel_rfl)
/-- AND IT READS AS IT DID. -/
theorem i64s_stays {H : Type} {enc : TypeId × Value → H} {W W' : World} {v : Value} {d : DataW H} {ps : List MemPlace} {sp : Nat → Bool}
    (h : DataW.Trod enc Tryz.prog W 0 (fun _ => true) true 23 v d ps) (hb : Below W.heap.size W W') (hlow : ∀ x ∈ ps, x.block < W.heap.size) (hsp : ∀ x ∈ ps, sp x.block = true) :
    DataW.Trod enc Tryz.prog W' 0 sp true 23 v d ps :=
  WideElems.Trod_stays laidOutV readI64 rowI64 h (fun x hx => hb.same (hlow x hx)) hsp
section
variable {H : Type} {enc : TypeId × Value → H} {P : Program}
/-- The row's last step where of the world behind the call 'Below' alone is known. -/
theorem post_belowV {f : Func} {s : ChangeSpec} {apart fresh handsOn again : Bool} {W W' : World} {args : Array Value} {v : Value} {ds gs : List (DataW H)} {before pa pv : List MemPlace}
    (hW : DataW.Whole enc P f.params.toList s.vars apart W args.toList ds gs before)
    (hres : ∀ (b : Nat) (sp : Nat → Bool) (hd : Bool), DataW.TrodAll enc P W' b sp hd f.resultTypes.toList (v.resultList f.resultTypes.size) (s.fn H (ds ++ gs)).results [])
    (hargs : ∀ sp : Nat → Bool, (∀ p ∈ before, sp p.block = true) → DataW.TrodAll enc P W' 0 sp true f.params.toList args.toList (s.fn H (ds ++ gs)).args pa)
    (hvars : ∀ sp : Nat → Bool, (∀ p ∈ before, sp p.block = true) → DataW.TrodVars enc P W' sp s.vars (s.fn H (ds ++ gs)).vars pv)
    (hps : before = pa ++ pv) (hb : Below W.heap.size W W')
    (hok : ∀ (j : Nat) (t : TypeId) (r : Value), f.resultTypes[j]? = some t → (v.resultList f.resultTypes.size)[j]? = some r → Value.okWide P W' .any 0 t r) :
    s.post enc P f apart fresh handsOn again W args v W' := by
  have hlow : ∀ p ∈ before, p.block < W.heap.size := fun p hp => hW.lt p hp
  have hin : ∀ p ∈ before, (fun b => decide (b < W.heap.size)) p.block = true := fun p hp => decide_eq_true (hlow p hp)
  refine ⟨ds, gs, before, [], pa, pv, hW, hres _ _ _, hargs _ hin, hvars _ hin, World.keptBut_mono (fun p hp => ⟨hp, ?_⟩) (hb.frame (· ∈ before)), fun _ => ?_⟩
  · rw [hps] at hp
    exact .inr (by simpa using hp)
  · obtain ⟨_, _, _, _, _, hz, hn⟩ := hW
    refine ⟨hok, _, _, ([] ++ pa) ++ pv, ⟨[] ++ pa, pv, trodAll_append (hargs _ (fun _ _ => rfl)) (hres _ _ _), hvars _ (fun _ _ => rfl), rfl, fun b off hp => ?_, fun ha => ?_⟩, fun p hp _ => ?_⟩
    · have hm : MemPlace.cell b off ∈ before := by rw [hps]; simpa using hp
      rw [hb.frozen (hlow _ hm)]
      exact hz b off hm
    · have := hn ha
      rw [hps] at this
      simpa using this
    · rw [hps]
      simpa using hp
end


theorem ownV : ownKnob Tryz.prog.godebug = none := by kernel_rfl
end Go.Proofs.YtpnnbjifhoonkaaGreat
