/-
  Joined texts: YG YH YI YJ YK YV.
-/
import Derived.Test.YtfpcfcegdjlggaaGreatJ01
import Derived.Laws.StructEq
import Derived.Shelf.SlSortCmp.QuietGrown
import Derived.Deep.RegionHeld3
import Derived.Test.YtfpcfcegdjlggaaGreatShelf
import Derived.Shelf.Spec.BitsCarry
namespace Go.Proofs.YtfpcfcegdjlggaaGreat
open Go.RowKit

theorem neq_wide (x1 x0 y1 y0 : Int) (w : World) : (binOp .neq 115 (.agg #[.int .u64 x1, .int .u64 x0]) (.agg #[.int .u64 y1, .int .u64 y0])).run Tryz.prog w = .ok (.bool (!(x1 == y1 && x0 == y0))) w := by
  have u3 := Tryz.underlying43
  have a3 := Tryz.isAgg43
  have z3 := Tryz.sizeOf43
  have hS : Tryz.prog.underlying 115 = some (.struct (Tryz.prog.fieldsOf 115)) := by kernel_rfl
  have hp : Tryz.prog.stoodInHeld 115 = false := by kernel_rfl
  rw [run_neq_struct, show (10000 : Nat) = 9999 + 1 from rfl, run_equalIn_agg w 9999 115 _ _ hS hp]
  simp only [Program.fieldsOf, Tryz.underlying115]
  go_simp
  by_cases h1 : x1 = y1 <;> by_cases h2 : x0 = y0 <;> simp [h1, h2]

/-- m is S modulo 2^128, and within the limits. -/
def IsLim (S m : Int) : Prop := -4611686018427387904 ≤ m ∧ m ≤ 4611686018427387904 ∧ (S - m) % 340282366920938463463374607431768211456 = 0

def GivesLim (w : World) (S : Int) (e : Ending) (w' : World) : Prop :=
  ((∃ m, IsLim S m ∧ e = .returned (.tuple #[.int .i64 m, .bool true])) ∨ ((∀ m, ¬IsLim S m) ∧ e = .returned (.tuple #[.int .i64 0, .bool false]))) ∧ Below w.heap.size w w'

theorem lim_words {S n : Int} (_h : I64 n) (hn : n % 18446744073709551616 = S % 18446744073709551616) : (hiW n = hiW S ∧ loW n = loW S) ↔ (S - n) % 340282366920938463463374607431768211456 = 0 := by
  obtain ⟨K1, e1⟩ := words S
  obtain ⟨K2, e2⟩ := words n
  have g1 := hiW_ge S
  have g2 := hiW_lt S
  have g3 := hiW_ge n
  have g4 := hiW_lt n
  have hl : loW n = loW S := hn
  constructor
  · rintro ⟨h1, h2⟩
    omega
  · intro h1
    refine ⟨?_, hl⟩
    omega

theorem mixed : Tryz.prog.follows .mixedOrders = true := by kernel_rfl

theorem below_grow (w : World) (n : Nat) (os : Array Obj) : Below w.heap.size w (Go.Sort.grow (w.drewN n) os) :=
  ⟨rfl, rfl, rfl, by unfold Go.Sort.grow; simp, fun k hk => by
    show (w.heap ++ os)[k]? = _
    rw [Array.getElem?_append_left hk]⟩

theorem givesLim_yes {w w' : World} {S m : Int} (h : IsLim S m) (hb : Below w.heap.size w w') : GivesLim w S (.returned (.tuple #[.int .i64 m, .bool true])) w' := ⟨.inl ⟨m, h, rfl⟩, hb⟩
theorem givesLim_no {w w' : World} {S : Int} (h : ∀ m, ¬IsLim S m) (hb : Below w.heap.size w w') : GivesLim w S (.returned (.tuple #[.int .i64 0, .bool false])) w' := ⟨.inr ⟨h, rfl⟩, hb⟩

set_option maxRecDepth 100000 in
set_option maxHeartbeats 2000000 in
theorem limited_any (S : Int) (w : World) : Calls Tryz.prog 79 #[wval S] w (GivesLim w S) := by
  obtain ⟨n, hn⟩ : ∃ n, n = IntKind.i64.wrap (loW S) := ⟨_, rfl⟩
  have hnI : I64 n := by rw [hn, IntKind.wrap_i64]; unfold I64; omega
  have hnm : n % 18446744073709551616 = S % 18446744073709551616 := by rw [hn, IntKind.wrap_i64]; unfold loW; omega
  have hiff := lim_words hnI hnm
  obtain ⟨s1, hs1⟩ : ∃ x, x = hiW S := ⟨_, rfl⟩
  obtain ⟨s0, hs0⟩ : ∃ x, x = loW S := ⟨_, rfl⟩
  have hw := widen_grown n hnI
  unfold wval at hw ⊢
  obtain ⟨n1, hn1⟩ : ∃ x, x = hiW n := ⟨_, rfl⟩
  obtain ⟨n0, hn0⟩ : ∃ x, x = loW n := ⟨_, rfl⟩
  rw [← hs1, ← hs0, ← hn1, ← hn0] at hiff
  rw [← hs0] at hn
  rw [← hs1, ← hs0]
  rw [← hn1, ← hn0] at hw
  have hneq := fun w => neq_wide n1 n0 s1 s0 w
  obtain ⟨W, hW⟩ : ∃ W, W = w.alloc (.cells #[.int .u64 s1, .int .u64 s0] 115) := ⟨_, rfl⟩
  have hx : Pr w.heap.size (.int .u64 s1) (.int .u64 s0) W := by rw [hW]; exact Pr.made _ _ _ _ rfl
  have hB : Below w.heap.size w W := by rw [hW]; exact (Below.refl _ _).alloc (Nat.le_refl _) _
  have HN : Hid (wrap64 s0 = n) := by unfold Hid; rw [hn, IntKind.wrap_i64]; unfold wrap64; omega
  have hI1 := hnI.1
  have hI2 := hnI.2
  have HW := Lib.hid hw
  have HWW : Hid (w.alloc (.cells #[.int .u64 s1, .int .u64 s0] 115) = W) := hW.symm
  have HB := Lib.hid hB
  have HX := Lib.hid hx
  have HIFF := Lib.hid hiff
  have hmix := mixed
  have hx1 := fun n os => cell_grown (n := n) (os := os) hx.lt hx.c0
  have hx2 := fun n os => cell_grown (n := n) (os := os) hx.lt hx.c1
  clear hs1 hs0 hn1 hn0 hw hn hW hB hiff hnI hx
  by_cases heq : n1 = s1 ∧ n0 = s0
  · have hb : (!(n1 == s1 && n0 == s0)) = false := by simp [heq.1, heq.2]
    have hcong := HIFF.out.1 heq
    rw [hb] at hneq
    have HC := Lib.hid hcong
    clear heq hb hcong
    by_cases h1 : n < -4611686018427387904
    · have d1 : decide (n < -4611686018427387904) = true := decide_eq_true h1
      have hno : Hid (∀ m, ¬IsLim S m) := fun m h => by
        have := h.1; have := h.2.1; have := h.2.2; have := HC.out; omega
      go_enter Tryz.func79, Tryz.ntmps79
      go_wp2_with fail
      rw [HWW.out, HN.out]
      go_quiet_grown (first | (go_at_call 78; exact Calls.grown_of (HW.out _)))
      have hB5 := HB.out.trans ((below_grow W nq osq).mono HB.out.size)
      go_wp2_with fail
      go_ret2
      exact givesLim_no hno.out hB5
    · by_cases h2 : 4611686018427387904 < n
      · have d1 : decide (n < -4611686018427387904) = false := decide_eq_false h1
        have d2 : decide (4611686018427387904 < n) = true := decide_eq_true h2
        have hno : Hid (∀ m, ¬IsLim S m) := fun m h => by
          have := h.1; have := h.2.1; have := h.2.2; have := HC.out; omega
        go_enter Tryz.func79, Tryz.ntmps79
        go_wp2_with fail
        rw [HWW.out, HN.out]
        go_quiet_grown (first | (go_at_call 78; exact Calls.grown_of (HW.out _)))
        have hB5 := HB.out.trans ((below_grow W nq osq).mono HB.out.size)
        go_wp2_with fail
        go_ret2
        exact givesLim_no hno.out hB5
      · have d1 : decide (n < -4611686018427387904) = false := decide_eq_false h1
        have d2 : decide (4611686018427387904 < n) = false := decide_eq_false h2
        go_enter Tryz.func79, Tryz.ntmps79
        go_wp2_with fail
        rw [HWW.out, HN.out]
        go_quiet_grown (first | (go_at_call 78; exact Calls.grown_of (HW.out _)))
        have hB5 := HB.out.trans ((below_grow W nq osq).mono HB.out.size)
        go_wp2_with fail
        go_ret2
        exact givesLim_yes ⟨by omega, by omega, HC.out⟩ hB5
  · have hb : (!(n1 == s1 && n0 == s0)) = true := by
      by_cases h1 : n1 = s1 <;> by_cases h2 : n0 = s0 <;> simp [h1, h2]
      exact absurd ⟨h1, h2⟩ heq
    have hno : Hid (∀ m, ¬IsLim S m) := fun m h => by
      have h1 := h.1
      have h2 := h.2.1
      have h3 := h.2.2
      have hmn : m = n := by omega
      subst hmn
      exact heq (HIFF.out.2 h3)
    rw [hb] at hneq
    clear heq hb
    go_enter Tryz.func79, Tryz.ntmps79
    go_wp2_with fail
    rw [HWW.out, HN.out]
    go_quiet_grown (first | (go_at_call 78; exact Calls.grown_of (HW.out _)))
    have hB5 := HB.out.trans ((below_grow W nq osq).mono HB.out.size)
    go_wp2_with fail
    go_ret2
    exact givesLim_no hno.out hB5
end Go.Proofs.YtfpcfcegdjlggaaGreat
namespace Go.Proofs.YtfpcfcegdjlggaaGreat
open Go.RowKit

/-- All coordinates are within the limit. -/
def InR (xs : List Int) : Prop := ∀ i, i < xs.length → -1099511627776 ≤ xs.getD i 0 ∧ xs.getD i 0 ≤ 1099511627776
instance (xs : List Int) : Decidable (InR xs) := by unfold InR; infer_instance

set_option maxRecDepth 100000 in
set_option maxHeartbeats 1000000 in
theorem inRange_any (a : Option Addr) (n cap : Nat) (xs : List Int) (w : World) (hr : RdI w a cap xs) (hl : xs.length = n) (hn : n ≤ 100000000000000) :
    Calls Tryz.prog 71 #[.slice a n cap] w fun e w' => e = .returned (.bool (decide (InR xs))) ∧ w = w' := by
  have hc := hr.cells
  have hg := hr.get
  have HL := Lib.hid hl
  have HC := Lib.hid hc
  have HG := Lib.hid hg
  clear hr hl hc hg
  go_enter Tryz.func71, Tryz.ntmps71
  go_wp2
  go_loop [7] (fun ii => ∃ i : Nat, i ≤ n ∧ ii = .int .i64 (i : Int) ∧ Hid (∀ c, c < i → -1099511627776 ≤ xs.getD c 0 ∧ xs.getD c 0 ≤ 1099511627776)) (fun ii => n - (intOf ii).toNat)
  case atStart => exact ⟨0, by omega, rfl, fun c hc => by omega⟩
  case round =>
    obtain ⟨i, hin, rfl, hall⟩ := hrel
    by_cases hi : i < n
    · obtain ⟨b, o, rfl, hcell⟩ := HC.out i (by rw [HL.out]; exact hi)
      obtain ⟨x, hx⟩ : ∃ x, x = xs.getD i 0 := ⟨_, rfl⟩
      rw [← hx] at hcell
      have hno : ¬(-1099511627776 ≤ x ∧ x ≤ 1099511627776) → decide (InR xs) = false := fun h => decide_eq_false fun h2 => h (by rw [hx]; exact h2 i (by rw [HL.out]; exact hi))
      have HNO := Lib.hid hno
      have HX := Lib.hid hx
      clear hno hx
      by_cases h1 : x < -1099511627776
      · have d1 : decide (x < -1099511627776) = true := decide_eq_true h1
        have HE : Hid (decide (InR xs) = false) := HNO.out (by omega)
        clear h1
        go_wp2
        go_ret
        exact ⟨by rw [HE.out]; rfl, rfl⟩
      · have d1 : decide (x < -1099511627776) = false := decide_eq_false h1
        by_cases h2 : 1099511627776 < x
        · have d2 : decide (1099511627776 < x) = true := decide_eq_true h2
          have HE : Hid (decide (InR xs) = false) := HNO.out (by omega)
          clear h1 h2
          go_wp2
          go_ret
          exact ⟨by rw [HE.out]; rfl, rfl⟩
        · have d2 : decide (1099511627776 < x) = false := decide_eq_false h2
          have hnx : Hid (∀ c, c < i + 1 → -1099511627776 ≤ xs.getD c 0 ∧ xs.getD c 0 ≤ 1099511627776) := fun c hc => by
            by_cases e : c = i
            · rw [e, ← HX.out]; omega
            · exact hall.out c (by omega)
          clear h1 h2
          go_wp2
          go_round
          case rel => exact ⟨i + 1, by omega, by go_num, hnx⟩
          case measure => simp [intOf]; omega
    · obtain rfl : i = n := by omega
      have HE : Hid (decide (InR xs) = true) := decide_eq_true fun c hc => hall.out c (by rw [← HL.out]; exact hc)
      go_wp2
      go_ret
      exact ⟨by rw [HE.out]; rfl, rfl⟩

/-- xs is a vector of a form with n rows. -/
def IsVec (n : Nat) (xs : List Int) : Prop := xs.length = n ∧ InR xs
instance (n : Nat) (xs : List Int) : Decidable (IsVec n xs) := by unfold IsVec; infer_instance

set_option maxRecDepth 100000 in
set_option maxHeartbeats 1000000 in
theorem isVector_any (ah a : Option Addr) (nh caph n cap : Nat) (xs : List Int) (w : World) (hr : RdI w a cap xs) (hl : xs.length = n) (hn : n ≤ 100000000000000) (hnh : nh ≤ 100000000000000) :
    Calls Tryz.prog 34 #[.slice ah nh caph, .slice a n cap] w fun e w' => e = .returned (.bool (decide (IsVec nh xs))) ∧ w = w' := by
  by_cases h : n = nh
  · subst h
    have hE : decide (InR xs) = decide (IsVec n xs) := by simp [IsVec, hl]
    have HE := Lib.hid hE
    have HR := Lib.hid hr
    clear hE hr
    go_enter Tryz.func34, Tryz.ntmps34
    go_wp2_with fail
    refine (inRange_any a n cap xs _ HR.out hl hn).mono ?_
    rintro e w' ⟨rfl, rfl⟩
    rw [HE.out]
    go_wp2_with fail
    go_ret
    exact ⟨rfl, rfl⟩
  · have hE : decide (IsVec nh xs) = false := decide_eq_false fun h2 => h (by rw [← hl]; exact h2.1)
    have hne : (((n : Nat) : Int) == (nh : Int)) = false := by simp; omega
    rw [hE]
    clear hE h hr
    go_enter Tryz.func34, Tryz.ntmps34
    go_wp2_with fail
    go_ret
    exact ⟨rfl, rfl⟩

set_option maxRecDepth 100000 in
set_option maxHeartbeats 1000000 in
theorem valid_any (ah a : Option Addr) (nh caph n cap : Nat) (hs : List (List Int)) (xs : List Int) (w : World) (hrm : RdM w ah caph hs) (hlm : hs.length = nh) (hr : RdI w a cap xs) (hl : xs.length = n) (hn : n ≤ 100000000000000) (hnh : nh ≤ 100000000000000) :
    Calls Tryz.prog 12 #[.slice ah nh caph, .slice a n cap] w (GivesBY w (IsRed hs ∧ IsVec nh xs)) := by
  have HRM := Lib.hid hrm
  have HR := Lib.hid hr
  clear hrm hr
  go_enter Tryz.func12, Tryz.ntmps12
  go_wp2_with fail
  refine (isReduced_any ah nh caph hs _ HRM.out hlm hnh).mono ?_
  rintro e w1 ⟨r, rfl, hrr, hb⟩
  cases r with
  | false =>
    have hno : Hid (¬(IsRed hs ∧ IsVec nh xs)) := fun h => by have := hrr.2 h.1; simp at this
    clear hrr
    go_wp2_with fail
    go_ret
    exact givesB_no hno.out hb
  | true =>
    have hyes : Hid (IsRed hs) := hrr.1 rfl
    clear hrr
    have HR1 : Hid (RdI w1 a cap xs) := HR.out.below hb
    go_wp2_with fail
    refine (isVector_any ah a nh caph n cap xs _ HR1.out hl hn hnh).mono ?_
    rintro e w' ⟨rfl, rfl⟩
    obtain ⟨c, hc⟩ : ∃ c, c = decide (IsVec nh xs) := ⟨_, rfl⟩
    rw [← hc]
    have HC : Hid (c = true ↔ IsRed hs ∧ IsVec nh xs) := by
      unfold Hid
      rw [hc, decide_eq_true_iff]
      exact ⟨fun h => ⟨hyes.out, h⟩, fun h => h.2⟩
    clear hc
    go_wp2_with fail
    go_ret
    exact givesB_mk HC.out hb
end Go.Proofs.YtfpcfcegdjlggaaGreat
namespace Go.Proofs.YtfpcfcegdjlggaaGreat
open Go.RowKit

/-- The sum of f 0 .. f (n - 1). -/
def sumTo (f : Nat → Int) : Nat → Int
  | 0 => 0
  | n + 1 => sumTo f n + f n

/-- The inner product of two columns with the matrix between them. -/
def innerS (hs : List (List Int)) (xs ys : List Int) (n : Nat) : Int := sumTo (fun i => sumTo (fun j => ent hs i j * xs.getD j 0) n * ys.getD i 0) n

theorem widen_cells (n : Int) (h : I64 n) (w : World) : Calls Tryz.prog 78 #[.int .i64 n] w fun e w' => e = .returned (.agg #[.int .u64 (hiW n), .int .u64 (loW n)]) ∧ Below w.heap.size w w' := widen_any n h w
theorem plus_cells (hM : MulOk) (hA : AddOk) (S A n : Int) (h : I64 n) (w : World) : Calls Tryz.prog 77 #[.agg #[.int .u64 (hiW S), .int .u64 (loW S)], .agg #[.int .u64 (hiW A), .int .u64 (loW A)], .int .i64 n] w fun e w' =>
    e = .returned (.agg #[.int .u64 (hiW (S + A * n)), .int .u64 (loW (S + A * n))]) ∧ Below w.heap.size w w' := plus_any hM hA S A n h w
theorem limited_cells (S : Int) (w : World) : Calls Tryz.prog 79 #[.agg #[.int .u64 (hiW S), .int .u64 (loW S)]] w (GivesLim w S) := limited_any S w

section
variable {b : Nat} {v0 v1 : Value} {p : Addr} {u : Value} {W v v' : World}
/-- A block of two cells and one cell more are held. -/
def Held (b : Nat) (v0 v1 : Value) (p : Addr) (u : Value) (W w' : World) : Prop :=
  w'.cell? ⟨b, 0, none⟩ = some v0 ∧ w'.cell? ⟨b, 1, none⟩ = some v1 ∧ w'.frozen? ⟨b, 0, none⟩ = false ∧ w'.frozen? ⟨b, 1, none⟩ = false ∧ w'.cell? p = some u ∧ Below W.heap.size W w'
theorem held_of (h : Pr b v0 v1 W) (hp : W.cell? p = some u) (hb : Below W.heap.size W v) : Held b v0 v1 p u W v :=
  ⟨(h.moved hb).c0, (h.moved hb).c1, (h.moved hb).f0, (h.moved hb).f1, by rw [hb.cell (World.block_lt_of_cell? W _ hp)]; exact hp, hb⟩
theorem after_drew (hb : Below W.drew.heap.size W.drew v) : Below W.heap.size W v := (Below.refl _ W).drew.trans hb
theorem after_B {B : Nat} {w : World} (hB : Below B w W) (hb : Below W.heap.size W v) (hBW : B ≤ W.heap.size := by omega) : Below B w v := hB.trans (hb.mono hBW)
theorem after_step (hb : Below W.heap.size W v) (h : Below v.heap.size v v') : Below W.heap.size W v' := hb.trans (h.mono hb.size)
theorem Pr.far (h : Pr b v0 v1 W) {a : Addr} (hne : b ≠ a.block) (x : Value) : Pr b v0 v1 (W.setCell a x) :=
  ⟨by rw [World.cell?_setCell_far _ _ _ _ (by simpa using Ne.symm hne)]; exact h.c0, by rw [World.cell?_setCell_far _ _ _ _ (by simpa using Ne.symm hne)]; exact h.c1, by simp [h.f0], by simp [h.f1], by simp [World.setCell]; exact h.lt⟩
theorem pair_next {q B : Nat} {u0 u1 : Value} {w : World} (hQ : Pr q u0 u1 W) (hP : Pr b v0 v1 W) (hB : Below B w W) (hb : Below W.heap.size W v) (hne : b ≠ q) (hq : B ≤ q) (x y : Value) :
    Pr q x y ((v.setCell ⟨q, 0, none⟩ x).setCell ⟨q, 1, none⟩ y) ∧ Pr b v0 v1 ((v.setCell ⟨q, 0, none⟩ x).setCell ⟨q, 1, none⟩ y) ∧ Below B w ((v.setCell ⟨q, 0, none⟩ x).setCell ⟨q, 1, none⟩ y) :=
  ⟨(hQ.moved hb).set x y, ((hP.moved hb).far hne x).far hne y, ((after_B hB hb (Nat.le_trans hq (Nat.le_of_lt hQ.lt))).setCell hq _).setCell hq _⟩
end

set_option maxRecDepth 100000 in
set_option maxHeartbeats 4000000 in
theorem inner_any (hM : MulOk) (hA : AddOk) (ah ax ay : Option Addr) (n caph capx capy : Nat) (hs : List (List Int)) (xs ys : List Int) (w : World) (hrm : RdM w ah caph hs) (hlm : hs.length = n) (hsq : ∀ i, i < n → (hs.getD i []).length = n)
    (hrx : RdI w ax capx xs) (hlx : xs.length = n) (hry : RdI w ay capy ys) (hly : ys.length = n) (hn : n ≤ 100000000000000) (hn0 : 0 < n) :
    Calls Tryz.prog 38 #[.slice ah n caph, .slice ax n capx, .slice ay n capy] w (GivesLim w (innerS hs xs ys n)) := by
  obtain ⟨bh, oh, A, C, rfl, hfix⟩ := hrm.fix (by rw [hlm]; exact hn0)
  obtain ⟨bx, ox, rfl, _⟩ := hrx.cells 0 (by rw [hlx]; exact hn0)
  obtain ⟨by', oy, rfl, _⟩ := hry.cells 0 (by rw [hly]; exact hn0)
  have HF := Lib.hid hfix
  have HSQ := Lib.hid hsq
  have HRX := Lib.hid hrx
  have HRY := Lib.hid hry
  have HLX := Lib.hid hlx
  have HLY := Lib.hid hly
  have HLM := Lib.hid hlm
  have HM := Lib.hid hM
  have HA := Lib.hid hA
  clear hfix hsq hrm hrx hry hlx hly hlm hM hA
  obtain ⟨W0, hW0⟩ : ∃ W, W = w.alloc (.cells #[.int .u64 0, .int .u64 0] 115) := ⟨_, rfl⟩
  have hx0 : Pr w.heap.size (.int .u64 (hiW 0)) (.int .u64 (loW 0)) W0 := by rw [hW0]; exact Pr.made _ _ _ _ rfl
  have hB0 : Below w.heap.size w W0 := by rw [hW0]; exact (Below.refl _ _).alloc (Nat.le_refl _) _
  have HW0 : Hid (w.alloc (.cells #[.int .u64 0, .int .u64 0] 115) = W0) := hW0.symm
  clear hW0
  go_enter Tryz.func38, Tryz.ntmps38
  go_wp2_with fail
  rw [HW0.out]
  go_loopw [16] (fun ii wr => ∃ (i : Nat) (S : Int), i ≤ n ∧ ii = .int .i64 (i : Int) ∧ Hid (S = sumTo (fun i => sumTo (fun j => ent hs i j * xs.getD j 0) n * ys.getD i 0) i) ∧ Hid (Pr w.heap.size (.int .u64 (hiW S)) (.int .u64 (loW S)) wr) ∧ Hid (Below w.heap.size w wr)) (fun ii _ => n - (intOf ii).toNat)
  case atStart => exact ⟨0, 0, by omega, rfl, rfl, hx0, hB0⟩
  case round =>
    obtain ⟨i, S, hin, rfl, hS, hP, hB⟩ := hrel
    obtain ⟨V, hV⟩ : ∃ V, V = wr := ⟨_, rfl⟩
    subst hV
    clear hx0 hB0
    by_cases hi : i < n
    · obtain ⟨hc, hri, hli⟩ := HF.out _ hB.out i (by rw [HLM.out]; exact hi)
      have hlen := HSQ.out i hi
      obtain ⟨br, orr, hAr, _⟩ := hri.cells 0 (by rw [hlen]; exact hn0)
      rw [hlen, hAr] at hc
      have HAR := Lib.hid hAr
      obtain ⟨W1, hW1⟩ : ∃ W, W = V.alloc (.cells #[.int .u64 0, .int .u64 0] 115) := ⟨_, rfl⟩
      have hx1 : Hid (Pr V.heap.size (.int .u64 (hiW 0)) (.int .u64 (loW 0)) W1) := by rw [hW1]; exact Pr.made _ _ _ _ rfl
      have hb1 : Hid (Below V.heap.size V W1) := by rw [hW1]; exact (Below.refl _ _).alloc (Nat.le_refl _) _
      have hP1 : Hid (Pr w.heap.size (.int .u64 (hiW S)) (.int .u64 (loW S)) W1) := hP.out.moved hb1.out
      have hB1 : Hid (Below w.heap.size w W1) := hB.out.trans (hb1.out.mono hB.out.size)
      have hlt : w.heap.size < V.heap.size := hP.out.lt
      have HW1 : Hid (V.alloc (.cells #[.int .u64 0, .int .u64 0] 115) = W1) := hW1.symm
      clear hri hli hlen hAr hW1
      go_wp2_with fail
      rw [HW1.out]
      go_loopw [23] (fun jj wq => ∃ (j : Nat) (T : Int), j ≤ n ∧ jj = .int .i64 (j : Int) ∧ Hid (T = sumTo (fun j => ent hs i j * xs.getD j 0) j) ∧ Hid (Pr V.heap.size (.int .u64 (hiW T)) (.int .u64 (loW T)) wq) ∧ Hid (Pr w.heap.size (.int .u64 (hiW S)) (.int .u64 (loW S)) wq) ∧ Hid (Below w.heap.size w wq)) (fun jj _ => n - (intOf jj).toNat)
      case atStart => exact ⟨0, 0, by omega, rfl, rfl, hx1, hP1, hB1⟩
      case round =>
        obtain ⟨j, T, hjn, rfl, hT, hQ, hP2, hB2⟩ := hrel
        clear hx1 hb1 hP1 hB1 hc hP
        by_cases hj : j < n
        · obtain ⟨hc, hri, hli⟩ := HF.out _ hB2.out i (by rw [HLM.out]; exact hi)
          have hlen := HSQ.out i hi
          obtain ⟨br', or', e1, hcr⟩ := hri.cells j (by rw [hlen]; exact hj)
          rw [HAR.out] at e1
          simp only [Option.some.injEq, Addr.mk.injEq, and_true] at e1
          obtain ⟨rfl, rfl⟩ := e1
          obtain ⟨bx', ox', e2, hcx⟩ := (HRX.out.below hB2.out).cells j (by rw [HLX.out]; exact hj)
          simp only [Option.some.injEq, Addr.mk.injEq, and_true] at e2
          obtain ⟨rfl, rfl⟩ := e2
          have hIx := HRX.out.get j
          have hIe := hri.get j
          obtain ⟨x, hx⟩ : ∃ x, x = xs.getD j 0 := ⟨_, rfl⟩
          obtain ⟨y, hy⟩ : ∃ y, y = (hs.getD i []).getD j 0 := ⟨_, rfl⟩
          rw [← hx] at hcx hIx
          rw [← hy] at hcr hIe
          have hnx : Hid (T + y * x = sumTo (fun j => ent hs i j * xs.getD j 0) (j + 1)) := by
            show T + y * x = sumTo _ j + ent hs i j * xs.getD j 0
            rw [← hT.out, hx, hy]; rfl
          have HIX := Lib.hid hIx
          have HIE := Lib.hid hIe
          have HCX := Lib.hid hcx
          clear hri hli hlen hx hy hc hIx hIe
          go_wp2_with fail
          obtain ⟨z1, z2, z3, z4, z5, _⟩ := held_of hQ.out HCX.out (Below.refl _ _)
          go_region_with ((first
            | (go_at_call 78; refine (widen_cells y HIE.out _).mono ?_; rintro e w3 ⟨rfl, hb3⟩; have hb5 : Below wr.heap.size wr w3 := after_drew hb3; obtain ⟨y1, y2, y3, y4, y5, _⟩ := held_of hQ.out HCX.out hb5)
            | (go_at_call 77; refine (plus_cells HM.out HA.out T y x HIX.out _).mono ?_; rintro e w4 ⟨rfl, hb4⟩; have hb6 : Below wr.heap.size wr w4 := after_step hb5 hb4; obtain ⟨x1, x2, x3, x4, x5, _⟩ := held_of hQ.out HCX.out hb6)))
          all_goals
            obtain ⟨k1, k2, k3⟩ := pair_next hQ.out hP2.out hB2.out hb6 (by omega) (by omega) (.int .u64 (hiW (T + y * x))) (.int .u64 (loW (T + y * x)))
            have K1 := Lib.hid k1
            have K2 := Lib.hid k2
            have K3 := Lib.hid k3
            clear k1 k2 k3 y1 y2 y3 y4 y5 x1 x2 x3 x4 x5 z1 z2 z3 z4 z5 hb3 hb4 hb5 hb6
            go_wp2_with fail
            go_roundw
            case rel => exact ⟨j + 1, T + y * x, by omega, by go_num, hnx, K1, K2, K3⟩
            case measure => simp [intOf]; omega
        · obtain rfl : j = n := by omega
          obtain ⟨by1, oy1, e2, hcy⟩ := (HRY.out.below hB2.out).cells i (by rw [HLY.out]; exact hi)
          simp only [Option.some.injEq, Addr.mk.injEq, and_true] at e2
          obtain ⟨rfl, rfl⟩ := e2
          have hIy := HRY.out.get i
          obtain ⟨y, hy⟩ : ∃ y, y = ys.getD i 0 := ⟨_, rfl⟩
          rw [← hy] at hcy hIy
          have hnx : Hid (S + T * y = sumTo (fun i => sumTo (fun j' => ent hs i j' * xs.getD j' 0) j * ys.getD i 0) (i + 1)) := by
            show S + T * y = sumTo _ i + sumTo _ j * ys.getD i 0
            rw [← hS.out, ← hT.out, hy]
          have HIY := Lib.hid hIy
          have HCY := Lib.hid hcy
          obtain ⟨s1, s2, s3, s4, s5⟩ := hP2.out
          obtain ⟨t1, t2, t3, t4, t5⟩ := hQ.out
          clear hy hIy
          go_wp2_with fail
          go_region_with ((first
            | (go_at_call 77; refine (plus_cells HM.out HA.out S T y HIY.out _).mono ?_; rintro e w4 ⟨rfl, hb4⟩; have hb6 : Below wr.heap.size wr w4 := after_drew hb4; obtain ⟨x1, x2, x3, x4, x5, _⟩ := held_of hP2.out HCY.out hb6)))
          all_goals
            obtain ⟨k1, k2, k3⟩ := pair_next hP2.out hQ.out hB2.out hb6 (by omega) (by omega) (.int .u64 (hiW (S + T * y))) (.int .u64 (loW (S + T * y)))
            have K1 := Lib.hid k1
            have K3 := Lib.hid k3
            clear k1 k2 k3 x1 x2 x3 x4 x5 s1 s2 s3 s4 s5 t1 t2 t3 t4 t5 hb4 hb6
            go_wp2_with fail
            go_roundw
            case rel => exact ⟨i + 1, S + T * y, by omega, by go_num, hnx, K1, K3⟩
            case measure => simp [intOf]; omega
    · obtain rfl : i = n := by omega
      obtain ⟨s1, s2, s3, s4, s5⟩ := hP.out
      have HS : Hid (S = innerS hs xs ys i) := hS
      go_wp2_with fail
      refine (limited_cells S _).mono ?_
      rintro e w5 ⟨(⟨m, hm, rfl⟩ | ⟨hno, rfl⟩), hb⟩
      · have HMM := Lib.hid hm
        clear hm s1 s2 s3 s4 s5
        go_wp2_with fail
        go_ret2
        rw [← HS.out]
        exact givesLim_yes HMM.out (after_B hB.out hb hB.out.size)
      · have HNO := Lib.hid hno
        clear hno s1 s2 s3 s4 s5
        go_wp2_with fail
        go_ret2
        rw [← HS.out]
        exact givesLim_no HNO.out (after_B hB.out hb hB.out.size)
end Go.Proofs.YtfpcfcegdjlggaaGreat
namespace Go.Proofs.YtfpcfcegdjlggaaGreat
open Go.RowKit Go.Shelf

theorem mulOk : MulOk := fun x y hx hy w => Tryz.bits_Mul64 x y hx hy w

theorem addOk : AddOk := fun x y c hc w => by
  rw [run_callFunc_extern Tryz.func110 (by kernel_rfl) (by kernel_rfl) (by kernel_rfl) (e := add64Entry) (by kernel_rfl), run_add64 x y c (by omega) (by omega) (by omega) (by omega)]
  simp only [Result.andThen]
  congr 5 <;> omega

/-- What a function gives that answers an inner product, where p says that there is one. -/
def GivesIn (w : World) (p : Prop) (S : Int) (e : Ending) (w' : World) : Prop :=
  ((∃ m, p ∧ IsLim S m ∧ e = .returned (.tuple #[.int .i64 m, .bool true])) ∨ ((∀ m, ¬(p ∧ IsLim S m)) ∧ e = .returned (.tuple #[.int .i64 0, .bool false]))) ∧ Below w.heap.size w w'
theorem givesIn_yes {w w' : World} {p : Prop} {S m : Int} (hp : p) (h : IsLim S m) (hb : Below w.heap.size w w') : GivesIn w p S (.returned (.tuple #[.int .i64 m, .bool true])) w' := ⟨.inl ⟨m, hp, h, rfl⟩, hb⟩
theorem givesIn_no {w w' : World} {p : Prop} {S : Int} (h : ∀ m, ¬(p ∧ IsLim S m)) (hb : Below w.heap.size w w') : GivesIn w p S (.returned (.tuple #[.int .i64 0, .bool false])) w' := ⟨.inr ⟨h, rfl⟩, hb⟩

theorem isRed_square {hs : List (List Int)} (h : IsRed hs) : ∀ i, i < hs.length → (hs.getD i []).length = hs.length := h.1.2.1
theorem isRed_pos {hs : List (List Int)} (h : IsRed hs) : 0 < hs.length := h.1.1.1

set_option maxRecDepth 100000 in
set_option maxHeartbeats 1000000 in
theorem normOf_any (ah a : Option Addr) (nh caph n cap : Nat) (hs : List (List Int)) (xs : List Int) (w : World) (hred : IsRed hs) (hrm : RdM w ah caph hs) (hlm : hs.length = nh) (hr : RdI w a cap xs) (hl : xs.length = n) (hn : n ≤ 100000000000000) :
    Calls Tryz.prog 41 #[.slice ah nh caph, .slice a n cap] w (GivesIn w (IsVec nh xs) (innerS hs xs xs nh)) := by
  have hnh : nh ≤ 8 := by have := hred.1.1.2; omega
  by_cases hv : IsVec nh xs
  · have hD : Hid (decide (IsVec nh xs) = true) := decide_eq_true hv
    have HV := Lib.hid hv
    obtain rfl : n = nh := by rw [← hl]; exact hv.1
    have HRM := Lib.hid hrm
    have HR := Lib.hid hr
    have HRED := Lib.hid hred
    have HLM := Lib.hid hlm
    have HL := Lib.hid hl
    clear hv hrm hr hred hlm hl
    go_enter Tryz.func41, Tryz.ntmps41
    go_wp2_with fail
    refine (isVector_any ah a n caph n cap xs _ HR.out HL.out hn (by omega)).mono ?_
    rintro e w' ⟨rfl, rfl⟩
    rw [hD.out]
    go_wp2_with fail
    refine (inner_any mulOk addOk ah a a n caph cap cap hs xs xs _ HRM.out HLM.out (fun i hi => by rw [isRed_square HRED.out i (by rw [HLM.out]; exact hi), HLM.out]) HR.out HL.out HR.out HL.out hn (by have := isRed_pos HRED.out; rw [HLM.out] at this; exact this)).mono ?_
    rintro e w5 ⟨(⟨m, hm, rfl⟩ | ⟨hno, rfl⟩), hb⟩
    · have HMM := Lib.hid hm
      clear hm
      go_wp2_with fail
      go_ret2
      exact givesIn_yes HV.out HMM.out hb
    · have HNO := Lib.hid hno
      clear hno
      go_wp2_with fail
      go_ret2
      exact givesIn_no (fun m h => HNO.out m h.2) hb
  · have hD : Hid (decide (IsVec nh xs) = false) := decide_eq_false hv
    have HV := Lib.hid hv
    have HR := Lib.hid hr
    clear hv hr hred hrm
    go_enter Tryz.func41, Tryz.ntmps41
    go_wp2_with fail
    refine (isVector_any ah a nh caph n cap xs _ HR.out hl hn (by omega)).mono ?_
    rintro e w' ⟨rfl, rfl⟩
    rw [hD.out]
    go_wp2_with fail
    go_ret2
    exact givesIn_no (fun m h => HV.out h.1) (Below.refl _ _)

set_option maxRecDepth 100000 in
set_option maxHeartbeats 1000000 in
theorem inner2_any (ah a a2 : Option Addr) (nh caph n cap n2 cap2 : Nat) (hs : List (List Int)) (xs ys : List Int) (w : World) (hrm : RdM w ah caph hs) (hlm : hs.length = nh) (hnh : nh ≤ 100000000000000) (hr : RdI w a cap xs) (hl : xs.length = n) (hn : n ≤ 100000000000000) (hr2 : RdI w a2 cap2 ys) (hl2 : ys.length = n2) (hn2 : n2 ≤ 100000000000000) :
    Calls Tryz.prog 17 #[.slice ah nh caph, .slice a n cap, .slice a2 n2 cap2] w (GivesIn w (IsRed hs ∧ IsVec nh xs ∧ IsVec nh ys) (innerS hs xs ys nh)) := by
  have HRM := Lib.hid hrm
  have HR := Lib.hid hr
  have HR2 := Lib.hid hr2
  have HLM := Lib.hid hlm
  have HL := Lib.hid hl
  have HL2 := Lib.hid hl2
  clear hrm hr hr2 hlm hl hl2
  go_enter Tryz.func17, Tryz.ntmps17
  go_wp2_with fail
  refine (valid_any ah a nh caph n cap hs xs _ HRM.out HLM.out HR.out HL.out hn hnh).mono ?_
  rintro e w1 ⟨r, rfl, hrr, hb⟩
  cases r with
  | false =>
    have hno : Hid (∀ m, ¬((IsRed hs ∧ IsVec nh xs ∧ IsVec nh ys) ∧ IsLim (innerS hs xs ys nh) m)) := fun m h => by have := hrr.2 ⟨h.1.1, h.1.2.1⟩; simp at this
    clear hrr
    go_wp2_with fail
    go_ret2
    exact givesIn_no hno.out hb
  | true =>
    have hyes : Hid (IsRed hs ∧ IsVec nh xs) := hrr.1 rfl
    clear hrr
    have HRY : Hid (RdI w1 a2 cap2 ys) := HR2.out.below hb
    have HRX : Hid (RdI w1 a cap xs) := HR.out.below hb
    have HRM1 : Hid (RdM w1 ah caph hs) := HRM.out.below hb
    go_wp2_with fail
    refine (isVector_any ah a2 nh caph n2 cap2 ys _ HRY.out HL2.out hn2 hnh).mono ?_
    rintro e w' ⟨rfl, rfl⟩
    by_cases hv : IsVec nh ys
    · have hD : Hid (decide (IsVec nh ys) = true) := decide_eq_true hv
      have HV := Lib.hid hv
      rw [hD.out]
      obtain rfl : n2 = nh := by rw [← HL2.out]; exact hv.1
      obtain rfl : n = n2 := by rw [← HL.out]; exact hyes.out.2.1
      clear hv
      go_wp2_with fail
      refine (inner_any mulOk addOk ah a a2 n caph cap cap2 hs xs ys _ HRM1.out HLM.out (fun i hi => by rw [isRed_square hyes.out.1 i (by rw [HLM.out]; exact hi), HLM.out]) HRX.out HL.out HRY.out HL2.out hn (by have := isRed_pos hyes.out.1; rw [HLM.out] at this; exact this)).mono ?_
      rintro e w5 ⟨(⟨m, hm, rfl⟩ | ⟨hno, rfl⟩), hb5⟩
      · have HMM := Lib.hid hm
        clear hm
        go_wp2_with fail
        go_ret2
        exact givesIn_yes ⟨hyes.out.1, hyes.out.2, HV.out⟩ HMM.out (hb.trans (hb5.mono hb.size))
      · have HNO := Lib.hid hno
        clear hno
        go_wp2_with fail
        go_ret2
        exact givesIn_no (fun m h => HNO.out m h.2) (hb.trans (hb5.mono hb.size))
    · have hD : Hid (decide (IsVec nh ys) = false) := decide_eq_false hv
      have HV := Lib.hid hv
      rw [hD.out]
      clear hv
      go_wp2_with fail
      go_ret2
      exact givesIn_no (fun m h => HV.out h.1.2.2) hb

set_option maxRecDepth 100000 in
set_option maxHeartbeats 1000000 in
theorem norm_any (ah a : Option Addr) (nh caph n cap : Nat) (hs : List (List Int)) (xs : List Int) (w : World) (hrm : RdM w ah caph hs) (hlm : hs.length = nh) (hnh : nh ≤ 100000000000000) (hr : RdI w a cap xs) (hl : xs.length = n) (hn : n ≤ 100000000000000) :
    Calls Tryz.prog 15 #[.slice ah nh caph, .slice a n cap] w (GivesIn w (IsRed hs ∧ IsVec nh xs ∧ IsVec nh xs) (innerS hs xs xs nh)) := by
  have HRM := Lib.hid hrm
  have HR := Lib.hid hr
  clear hrm hr
  go_enter Tryz.func15, Tryz.ntmps15
  go_wp2_with fail
  refine (inner2_any ah a a nh caph n cap n cap hs xs xs _ HRM.out hlm hnh HR.out hl hn HR.out hl hn).mono ?_
  rintro e w5 ⟨(⟨m, hp, hm, rfl⟩ | ⟨hno, rfl⟩), hb⟩
  · have HMM := Lib.hid hm
    have HP := Lib.hid hp
    clear hm hp
    go_wp2_with fail
    go_ret2
    exact givesIn_yes HP.out HMM.out hb
  · have HNO := Lib.hid hno
    clear hno
    go_wp2_with fail
    go_ret2
    exact givesIn_no HNO.out hb
end Go.Proofs.YtfpcfcegdjlggaaGreat
namespace Go.Proofs.YtfpcfcegdjlggaaGreat
open Go.RowKit Go.Shelf

/-- The sign of the first number that is not 0. -/
def sgnL : List Int → Int
  | [] => 0
  | x :: r => if x = 0 then sgnL r else if x < 0 then -1 else 1

/-- The one of xs and -xs that begins above 0. -/
def canonL (xs : List Int) : List Int := if sgnL xs < 0 then xs.map (fun x => -x) else xs

theorem length_canonL (xs : List Int) : (canonL xs).length = xs.length := by unfold canonL; split <;> simp

theorem sgnL_zero {xs : List Int} (h : ∀ i, i < xs.length → xs.getD i 0 = 0) : sgnL xs = 0 := by
  induction xs with
  | nil => rfl
  | cons x r ih =>
    have h0 : x = 0 := h 0 (by simp)
    unfold sgnL
    rw [if_pos h0]
    exact ih fun i hi => h (i + 1) (by simpa using hi)

theorem sgnL_first {xs : List Int} : ∀ {k : Nat}, k < xs.length → xs.getD k 0 ≠ 0 → (∀ i, i < k → xs.getD i 0 = 0) → sgnL xs = if xs.getD k 0 < 0 then -1 else 1 := by
  induction xs with
  | nil => intro k hk; simp at hk
  | cons x r ih =>
    intro k hk hne hz
    cases k with
    | zero =>
      have hx : (x :: r).getD 0 0 = x := rfl
      rw [hx] at hne ⊢
      unfold sgnL
      rw [if_neg hne]
    | succ k =>
      have h0 : x = 0 := hz 0 (by omega)
      have hx : (x :: r).getD (k + 1) 0 = r.getD k 0 := rfl
      rw [hx] at hne ⊢
      unfold sgnL
      rw [if_pos h0]
      exact ih (by simpa using hk) hne fun i hi => hz (i + 1) (by omega)

theorem closure_any (x : Int) (w : World) : Calls Tryz.prog 75 #[.int .i64 x] w fun e w' => e = .returned (.bool (!(x == 0))) ∧ w = w' := by
  go_enter Tryz.func75, Tryz.ntmps75
  go_wp2
  go_ret
  exact ⟨by simp [bne], rfl⟩

/-- The first place of a number that is not 0, -1 if there is none. -/
def GivesFirst (w : World) (xs : List Int) (e : Ending) (w' : World) : Prop :=
  ((∃ k : Nat, k < xs.length ∧ xs.getD k 0 ≠ 0 ∧ (∀ i, i < k → xs.getD i 0 = 0) ∧ e = .returned (.int .i64 (k : Int))) ∨ ((∀ i, i < xs.length → xs.getD i 0 = 0) ∧ e = .returned (.int .i64 (-1)))) ∧ w = w'

set_option maxRecDepth 100000 in
set_option maxHeartbeats 1000000 in
theorem indexFunc_any (a : Option Addr) (n cap : Nat) (xs : List Int) (w : World) (hr : RdI w a cap xs) (hl : xs.length = n) (hn : n ≤ 100000000000000) :
    Calls Tryz.prog 74 #[.slice a n cap, .func (.func 75) #[] #[]] w (GivesFirst w xs) := by
  have hc := hr.cells
  have HL := Lib.hid hl
  have HC := Lib.hid hc
  clear hr hl hc
  go_enter Tryz.func74, Tryz.ntmps74
  go_wp2_with fail
  go_loop [8] (fun ii => ∃ i : Nat, i ≤ n ∧ ii = .int .i64 (i : Int) ∧ Hid (∀ c, c < i → xs.getD c 0 = 0)) (fun ii => n - (intOf ii).toNat)
  case atStart => exact ⟨0, by omega, rfl, fun c hc => by omega⟩
  case round =>
    obtain ⟨i, hin, rfl, hall⟩ := hrel
    by_cases hi : i < n
    · obtain ⟨b, o, rfl, hcell⟩ := HC.out i (by rw [HL.out]; exact hi)
      obtain ⟨x, hx⟩ : ∃ x, x = xs.getD i 0 := ⟨_, rfl⟩
      rw [← hx] at hcell
      by_cases h0 : x = 0
      · have hnx : Hid (∀ c, c < i + 1 → xs.getD c 0 = 0) := fun c hc => by
          by_cases e : c = i
          · rw [e, ← hx, h0]
          · exact hall.out c (by omega)
        clear hx
        subst h0
        go_wp2_with fail
        refine (closure_any 0 _).mono ?_
        rintro e w' ⟨rfl, rfl⟩
        go_wp2_with fail
        go_round
        case rel => exact ⟨i + 1, by omega, by go_num, hnx⟩
        case measure => simp [intOf]; omega
      · have hne : (!(x == 0)) = true := by simpa using h0
        have hend : Hid (∀ (e : Ending), e = .returned (.int .i64 (i : Int)) → GivesFirst w xs e w) := fun e he => ⟨.inl ⟨i, by rw [HL.out]; exact hi, by rw [← hx]; exact h0, hall.out, he⟩, rfl⟩
        have HNE := Lib.hid hne
        clear hx h0 hne
        go_wp2_with fail
        refine (closure_any x _).mono ?_
        rintro e w' ⟨rfl, rfl⟩
        rw [HNE.out]
        go_wp2_with fail
        go_ret
        exact hend.out _ rfl
    · obtain rfl : i = n := by omega
      have hend : Hid (∀ (e : Ending), e = .returned (.int .i64 (-1)) → GivesFirst w xs e w) := fun e he => ⟨.inr ⟨fun c hc => hall.out c (by rw [← HL.out]; exact hc), he⟩, rfl⟩
      go_wp2_with fail
      go_ret
      exact hend.out _ rfl

/-- The cells of a list of int64. -/
def i64s (zs : List Int) : List Value := zs.map (Value.int .i64)
theorem length_i64s (zs : List Int) : (i64s zs).length = zs.length := by simp [i64s]
theorem i64s_get (zs : List Int) (i : Nat) (h : i < zs.length) : (i64s zs)[i]? = some (.int .i64 (zs.getD i 0)) := by
  simp [i64s, List.getD_eq_getElem?_getD, List.getElem?_eq_getElem h]
theorem i64s_one (zs : List Int) : ∀ u ∈ i64s zs, u.oneCell' = true := by
  intro u hu
  obtain ⟨_, _, rfl⟩ := List.mem_map.1 hu
  rfl

/-- The first cells of block g are the numbers zs. -/
structure OwnI (w : World) (g : Nat) (zs : List Int) : Prop where
  row : ∃ cur : Array Value, w.heap[g]? = some (.cells cur 2 (0, 0)) ∧ cur.toList.take zs.length = i64s zs

theorem OwnI.lt {w : World} {g : Nat} {zs : List Int} (h : OwnI w g zs) : g < w.heap.size := by
  obtain ⟨cur, hg, _⟩ := h.row
  exact (Array.getElem?_eq_some_iff.1 hg).1

theorem OwnI.cell {w : World} {g : Nat} {zs : List Int} (h : OwnI w g zs) (i : Nat) (hi : i < zs.length) : w.cell? ⟨g, i, none⟩ = some (.int .i64 (zs.getD i 0)) := by
  obtain ⟨cur, hg, ht⟩ := h.row
  rw [cell_of_row w g i cur _ (0, 0) hg]
  have e := i64s_get zs i hi
  rw [← ht, List.getElem?_take, if_pos hi] at e
  simpa using e

theorem OwnI.free {w : World} {g : Nat} {zs : List Int} (h : OwnI w g zs) (i : Nat) : w.frozen? ⟨g, i, none⟩ = false := by
  obtain ⟨cur, hg, _⟩ := h.row
  exact frozen_of_row w g i cur _ hg

theorem OwnI.store {w : World} {g : Nat} {zs : List Int} (h : OwnI w g zs) (i : Nat) (v : Int) : OwnI (w.setCell ⟨g, i, none⟩ (.int .i64 v)) g (zs.set i v) := by
  obtain ⟨cur, hg, ht⟩ := h.row
  refine ⟨cur.setIfInBounds i (.int .i64 v), heap_setCell_same w g i cur _ _ hg, ?_⟩
  rw [Array.toList_setIfInBounds, List.length_set, List.take_set, ht, i64s, i64s, List.map_set]

theorem OwnI.of_heap {w w' : World} {g : Nat} {zs : List Int} (h : OwnI w g zs) (he : w'.heap[g]? = w.heap[g]?) : OwnI w' g zs := by
  obtain ⟨cur, hg, ht⟩ := h.row
  exact ⟨cur, by rw [he]; exact hg, ht⟩
theorem OwnI.below {w w' : World} {g B : Nat} {zs : List Int} (h : OwnI w g zs) (hb : Below B w w') (hg : g < B) : OwnI w' g zs := h.of_heap (hb.block g hg)
theorem OwnI.rd {w : World} {g cap : Nat} {zs : List Int} (h : OwnI w g zs) (hc : zs.length ≤ cap) (hl : ∀ x ∈ zs, I64 x) : RdI w (some ⟨g, 0, none⟩) cap zs :=
  ⟨hc, hl, fun i hi => ⟨g, 0, rfl, by rw [Nat.zero_add]; exact h.cell i hi⟩⟩

theorem infoI64 : (Tryz.prog.info? 2).map (fun i => (i.zero, i.size, i.bytes)) = some (some (.int .i64 0), 1, 8) := by kernel_rfl

theorem ownI_of_row {w : World} {B n : Nat} {v : Value} {zs : List Int} (h : w.ownsRow B 2 1 v n (i64s zs)) (hl : zs.length = n) (hne : v ≠ .slice none 0 0) :
    ∃ g cap, v = .slice (some ⟨g, 0, none⟩) n cap ∧ n ≤ cap ∧ B ≤ g ∧ OwnI w g zs := by
  rcases h.2 with ⟨h0, _⟩ | ⟨g, cap, cur, hv, hbase, hg, hncap, _, _, htake⟩
  · exact absurd h0 hne
  · exact ⟨g, cap, hv, hncap, hbase, cur, hg, by rw [hl]; rw [Nat.mul_one] at htake; exact htake⟩

theorem clone_any (b o n cap : Nat) (xs : List Int) (w : World) (hr : RdI w (some ⟨b, o, none⟩) cap xs) (hl : xs.length = n) (hn : n ≤ 17592186044416) :
    Calls Tryz.prog 76 #[.slice (some ⟨b, o, none⟩) n cap] w fun e w' => ∃ g c, e = .returned (.slice (some ⟨g, 0, none⟩) n c) ∧ n ≤ c ∧ w.heap.size ≤ g ∧ OwnI w' g xs ∧ Below w.heap.size w w' := by
  obtain ⟨i, hi, hz0, hz1, hz2⟩ := info_parts infoI64
  have hc : ∀ j u, (i64s xs)[j]? = some u → w.cell? ⟨b, o + j, none⟩ = some u := fun j u hj => by
    have hj' : j < xs.length := by
      have := (List.getElem?_eq_some_iff.1 hj).1
      rwa [length_i64s] at this
    rw [i64s_get xs j hj'] at hj
    obtain ⟨b', o', e, hx⟩ := hr.cells j hj'
    simp only [Option.some.injEq, Addr.mk.injEq, and_true] at e
    obtain ⟨rfl, rfl⟩ := e
    rw [hx]; exact hj
  refine (Tryz.slices_Clone i (.int .i64 0) 1 8 hi hz0 hz1 hz2 rfl (by decide) Tryz.sizeOf2 b o n cap (i64s xs) w (by rw [length_i64s, hl, Nat.mul_one]) (by unfold maxLen; omega) (by omega) hc (i64s_one xs)).mono ?_
  rintro e w' ⟨v, rfl, hown, hne, hb⟩
  obtain ⟨g, c, rfl, hcap, hg, ho⟩ := ownI_of_row hown hl hne
  exact ⟨g, c, rfl, hcap, hg, ho, hb⟩

/-- The first i numbers negated. -/
def negTo (xs : List Int) (i : Nat) : List Int := (xs.take i).map (fun x => -x) ++ xs.drop i

theorem negTo_zero (xs : List Int) : negTo xs 0 = xs := by simp [negTo]
theorem negTo_all (xs : List Int) : negTo xs xs.length = xs.map (fun x => -x) := by simp [negTo]
theorem length_negTo (xs : List Int) (i : Nat) : (negTo xs i).length = xs.length := by simp [negTo]; omega
theorem negTo_next (xs : List Int) (i : Nat) (h : i < xs.length) : (negTo xs i).set i (-(xs.getD i 0)) = negTo xs (i + 1) := by
  have hl : ((xs.take i).map (fun x => -x)).length = i := by simp; omega
  have hg : xs.getD i 0 = xs[i] := by simp [List.getD_eq_getElem?_getD, List.getElem?_eq_getElem h]
  unfold negTo
  rw [List.set_append_right _ _ (by omega), hl, Nat.sub_self, List.drop_eq_getElem_cons h, List.set_cons_zero, hg, List.take_succ_eq_append_getElem h, List.map_append, List.append_assoc]
  rfl

/-- What CanonicalSign gives. -/
def GivesSign (w : World) (xs : List Int) (e : Ending) (w' : World) : Prop :=
  ((sgnL xs ≠ 0 ∧ InR xs ∧ ∃ g c, e = .returned (.tuple #[.slice (some ⟨g, 0, none⟩) xs.length c, .bool true]) ∧ xs.length ≤ c ∧ w.heap.size ≤ g ∧ OwnI w' g (canonL xs)) ∨ (¬(sgnL xs ≠ 0 ∧ InR xs) ∧ e = .returned (.tuple #[.slice none 0 0, .bool false]))) ∧ Below w.heap.size w w'
theorem givesSign_yes {w w' : World} {xs : List Int} {g c : Nat} (h1 : sgnL xs ≠ 0) (h2 : InR xs) (hc : xs.length ≤ c) (hg : w.heap.size ≤ g) (ho : OwnI w' g (canonL xs)) (hb : Below w.heap.size w w') {n : Nat} (hn : xs.length = n) :
    GivesSign w xs (.returned (.tuple #[.slice (some ⟨g, 0, none⟩) n c, .bool true])) w' := by subst hn; exact ⟨.inl ⟨h1, h2, g, c, rfl, hc, hg, ho⟩, hb⟩
theorem givesSign_no {w w' : World} {xs : List Int} (h : ¬(sgnL xs ≠ 0 ∧ InR xs)) (hb : Below w.heap.size w w') : GivesSign w xs (.returned (.tuple #[.slice none 0 0, .bool false])) w' := ⟨.inr ⟨h, rfl⟩, hb⟩

set_option maxRecDepth 100000 in
set_option maxHeartbeats 2000000 in
theorem csign_any (a : Option Addr) (n cap : Nat) (xs : List Int) (w : World) (hr : RdI w a cap xs) (hl : xs.length = n) (hn : n ≤ 17592186044416) :
    Calls Tryz.prog 37 #[.slice a n cap] w (GivesSign w xs) := by
  have HR := Lib.hid hr
  have HL := Lib.hid hl
  clear hr hl
  go_enter Tryz.func37, Tryz.ntmps37
  go_wp2_with fail
  refine (indexFunc_any a n cap xs _ HR.out HL.out (by omega)).mono ?_
  rintro e w1 ⟨(⟨k, hk, hne, hz, rfl⟩ | ⟨hall, rfl⟩), rfl⟩
  · have hsg := sgnL_first hk hne hz
    have HSG := Lib.hid hsg
    have hs0 : Hid (sgnL xs ≠ 0) := by unfold Hid; rw [hsg]; split <;> omega
    rw [HL.out] at hk
    obtain ⟨b, o, rfl, hcell⟩ := HR.out.cells k (by rw [HL.out]; exact hk)
    obtain ⟨x, hx⟩ : ∃ x, x = xs.getD k 0 := ⟨_, rfl⟩
    rw [← hx] at hcell
    have HX := Lib.hid hx
    clear hsg hne hz hx
    go_wp2_with fail
    refine (inRange_any _ n cap xs _ HR.out HL.out (by omega)).mono ?_
    rintro e w1 ⟨rfl, rfl⟩
    by_cases hin : InR xs
    · have hD : Hid (decide (InR xs) = true) := decide_eq_true hin
      rw [hD.out]
      have HIN := Lib.hid hin
      clear hin
      go_wp2_with fail
      refine (clone_any b o n cap xs _ HR.out HL.out hn).mono ?_
      rintro e w2 ⟨g, c, rfl, hgc, hg, hown, hb⟩
      have HOWN := Lib.hid hown
      have HB := Lib.hid hb
      have hcell2 : w2.cell? ⟨b, o + k, none⟩ = some (.int .i64 x) := by rw [hb.cell (World.block_lt_of_cell? w _ hcell)]; exact hcell
      clear hown hb hcell
      by_cases hneg : x < 0
      · have d1 : decide (x < 0) = true := decide_eq_true hneg
        have hcan : Hid (canonL xs = xs.map (fun x => -x)) := by
          unfold Hid canonL
          rw [HSG.out, ← HX.out, if_pos hneg]; rfl
        have hst : Hid (OwnI w2 g (negTo xs 0)) := by rw [negTo_zero]; exact HOWN
        clear hneg
        go_wp2_with fail
        go_loopw [26] (fun ii wr => ∃ i : Nat, i ≤ n ∧ ii = .int .i64 (i : Int) ∧ Hid (OwnI wr g (negTo xs i)) ∧ Hid (Below w.heap.size w wr)) (fun ii _ => n - (intOf ii).toNat)
        case atStart => exact ⟨0, by omega, rfl, hst, HB⟩
        case round =>
          obtain ⟨i, hin', rfl, ho, hB⟩ := hrel
          clear hst
          by_cases hi : i < n
          · obtain ⟨b', o', e1, hci⟩ := (HR.out.below hB.out).cells i (by rw [HL.out]; exact hi)
            simp only [Option.some.injEq, Addr.mk.injEq, and_true] at e1
            obtain ⟨rfl, rfl⟩ := e1
            have hy12 := HIN.out i (by rw [HL.out]; exact hi)
            have hnx := negTo_next xs i (by rw [HL.out]; exact hi)
            obtain ⟨y, hy⟩ : ∃ y, y = xs.getD i 0 := ⟨_, rfl⟩
            rw [← hy] at hci hy12 hnx
            have hy1 := hy12.1
            have hy2 := hy12.2
            have hcg := ho.out.cell i (by rw [length_negTo, HL.out]; exact hi)
            have hfg := ho.out.free i
            have HNX := Lib.hid hnx
            clear hy12 hy hnx
            go_wp2_with fail
            go_roundw
            case rel => exact ⟨i + 1, by omega, by go_num, by unfold Hid; rw [← HNX.out]; exact ho.out.store i (-y), hB.out.setCell (p := ⟨g, i, none⟩) hg _⟩
            case measure => simp [intOf]; omega
          · obtain rfl : i = n := by omega
            have hend : Hid (OwnI wr g (canonL xs)) := by
              have h := ho.out
              rw [← HL.out, negTo_all, ← hcan.out] at h
              exact h
            go_wp2_with fail
            go_ret2
            exact givesSign_yes hs0.out HIN.out (by rw [HL.out]; exact hgc) hg hend.out hB.out HL.out
      · have d1 : decide (x < 0) = false := decide_eq_false hneg
        have hcan : Hid (OwnI w2 g (canonL xs)) := by
          have e : canonL xs = xs := by
            unfold canonL
            rw [HSG.out, ← HX.out, if_neg hneg]; rfl
          unfold Hid
          rw [e]; exact HOWN.out
        clear hneg
        go_wp2_with fail
        go_ret2
        exact givesSign_yes hs0.out HIN.out (by rw [HL.out]; exact hgc) hg hcan.out HB.out HL.out
    · have hD : Hid (decide (InR xs) = false) := decide_eq_false hin
      rw [hD.out]
      have HIN := Lib.hid hin
      clear hin
      go_wp2_with fail
      go_ret2
      exact givesSign_no (fun h => HIN.out h.2) (Below.refl _ _)
  · have hno : Hid (¬(sgnL xs ≠ 0 ∧ InR xs)) := fun h => h.1 (sgnL_zero hall)
    clear hall
    go_wp2_with fail
    go_ret2
    exact givesSign_no hno.out (Below.refl _ _)
end Go.Proofs.YtfpcfcegdjlggaaGreat
namespace Go.Proofs.YtfpcfcegdjlggaaGreat
open Go.RowKit Go.Shelf

/-- The slice at address a reads as the list ks of int8. -/
structure Rd8 (w : World) (a : Option Addr) (ks : List Int) : Prop where
  lim : ∀ x ∈ ks, -128 ≤ x ∧ x ≤ 127
  cells : ∀ i, i < ks.length → ∃ b o, a = some ⟨b, o, none⟩ ∧ w.cell? ⟨b, o + i, none⟩ = some (.int .i8 (ks.getD i 0))
theorem Rd8.get {w : World} {a : Option Addr} {ks : List Int} (h : Rd8 w a ks) (i : Nat) : -128 ≤ ks.getD i 0 ∧ ks.getD i 0 ≤ 127 := by
  by_cases hi : i < ks.length
  · have e : ks.getD i 0 = ks[i] := by simp [List.getD_eq_getElem?_getD, List.getElem?_eq_getElem hi]
    rw [e]; exact h.lim _ (List.getElem_mem hi)
  · have e : ks.getD i 0 = 0 := by simp [List.getD_eq_getElem?_getD, List.getElem?_eq_none (Nat.le_of_not_lt hi)]
    rw [e]; omega
theorem Rd8.below {w w' : World} {a : Option Addr} {ks : List Int} (h : Rd8 w a ks) (hb : Below w.heap.size w w') : Rd8 w' a ks := by
  refine ⟨h.lim, fun i hi => ?_⟩
  obtain ⟨b, o, rfl, hc⟩ := h.cells i hi
  refine ⟨b, o, rfl, ?_⟩
  rw [hb.cell (World.block_lt_of_cell? w _ hc)]
  exact hc

/-- What Next gives at place k of the tape, whose block is t. -/
def GivesNext (w : World) (t : Nat) (ks : List Int) (k : Nat) (e : Ending) (w' : World) : Prop :=
  e = .returned (.int .i64 (ks.getD k 0)) ∧ ∃ q, w' = (if k < ks.length then w.setCell ⟨t, 1, none⟩ (.int .i64 ((k + 1 : Nat) : Int)) else w).drewN q

set_option maxRecDepth 100000 in
set_option maxHeartbeats 2000000 in
theorem next_any (t : Nat) (al : Option Addr) (nl capl k : Nat) (ks : List Int) (w : World) (hp : Pr t (.slice al nl capl) (.int .i64 (k : Int)) w) (hr : Rd8 w al ks) (hl : ks.length = nl) (hn : nl ≤ 200000000000000) (hk : k ≤ nl) (hu : ks ≠ [] → ∀ b o, al = some ⟨b, o, none⟩ → b ≠ t) :
    Calls Tryz.prog 32 #[.pointer (some ⟨t, 0, none⟩)] w (GivesNext w t ks k) := by
  have hmix := mixed
  have HL := Lib.hid hl
  obtain ⟨p0, p1, p2, p3, p4⟩ := hp
  by_cases hlt : k < nl
  · have d1 : decide ((nl : Int) ≤ (k : Int)) = false := decide_eq_false (by omega)
    obtain ⟨b, o, rfl, hcell⟩ := hr.cells k (by rw [hl]; exact hlt)
    have hne : b ≠ t := hu (fun e => by rw [e] at hl; simp at hl; omega) b o rfl
    have hg := hr.get k
    obtain ⟨x, hx⟩ : ∃ x, x = ks.getD k 0 := ⟨_, rfl⟩
    rw [← hx] at hcell hg
    have HX := Lib.hid hx
    have hset : ∀ W : World, W.cell? ⟨t, 0, none⟩ = some (.slice (some ⟨b, o, none⟩) nl capl) → W.cell? ⟨t, 1, none⟩ = some (.int .i64 (k : Int)) → W.cell? ⟨b, o + k, none⟩ = some (.int .i8 x) →
        (W.setCell ⟨t, 1, none⟩ (.int .i64 ((k : Int) + 1))).cell? ⟨t, 0, none⟩ = some (.slice (some ⟨b, o, none⟩) nl capl) ∧ (W.setCell ⟨t, 1, none⟩ (.int .i64 ((k : Int) + 1))).cell? ⟨t, 1, none⟩ = some (.int .i64 ((k : Int) + 1)) ∧
          (W.setCell ⟨t, 1, none⟩ (.int .i64 ((k : Int) + 1))).cell? ⟨b, o + k, none⟩ = some (.int .i8 x) := fun W w0 w1 w2 =>
      ⟨by rw [World.cell?_setCell_other _ _ _ _ (by simp)]; exact w0, World.cell?_setCell_same _ _ _ w1, by rw [World.cell?_setCell_far _ _ _ _ (fun e => hne e.symm)]; exact w2⟩
    have HSET := Lib.hid hset
    have hb1 : (k : Int) < (nl : Int) := by omega
    have hb2 : IntKind.i64.wrap (k : Int) = (k : Int) := by rw [IntKind.wrap_i64]; omega
    have hg1 := hg.1
    have hg2 := hg.2
    clear hr hl hu hx hset hg
    go_enter Tryz.func32, Tryz.ntmps32
    go_wp2_with fail
    go_quiet (fail)
    go_wp2_with fail
    obtain ⟨V, hV⟩ : ∃ V, V = (w.drewN nq).setCell ⟨t, 1, none⟩ (.int .i64 ((k : Int) + 1)) := ⟨_, rfl⟩
    obtain ⟨v0, v1, v2⟩ := HSET.out (w.drewN nq) p0 p1 hcell
    rw [← hV] at v0 v1 v2
    rw [← hV]
    have HV : Hid (∃ n1, V = (w.setCell ⟨t, 1, none⟩ (.int .i64 ((k + 1 : Nat) : Int))).drewN n1) := ⟨nq, by rw [hV]; rfl⟩
    clear hV p0 p1 hcell
    go_quiet (fail)
    go_wp2_with fail
    go_ret
    obtain ⟨n1, hn1⟩ := HV.out
    refine ⟨by rw [← HX.out]; rfl, n1 + nq, ?_⟩
    rw [HL.out, if_pos hlt, hn1, World.drewN_drewN]
  · have d1 : decide ((nl : Int) ≤ (k : Int)) = true := decide_eq_true (by omega)
    have hx : ks.getD k 0 = 0 := by rw [List.getD_eq_getElem?_getD, List.getElem?_eq_none (by omega)]; rfl
    have HX := Lib.hid hx
    clear hr hl hu hx
    go_enter Tryz.func32, Tryz.ntmps32
    go_wp2_with fail
    go_quiet (fail)
    go_wp2_with fail
    go_ret
    refine ⟨by rw [HX.out]; rfl, nq, ?_⟩
    rw [HL.out, if_neg hlt]

/-- The numbers of a tape, and zeros at its end. -/
def tapeL (ks : List Int) (n : Nat) : List Int := (List.range n).map fun i => ks.getD i 0
theorem length_tapeL (ks : List Int) (n : Nat) : (tapeL ks n).length = n := by simp [tapeL]
theorem get_tapeL (ks : List Int) (n i : Nat) (h : i < n) : (tapeL ks n).getD i 0 = ks.getD i 0 := by simp [tapeL, List.getD_eq_getElem?_getD, h]

def GivesVec (w : World) (zs : List Int) (e : Ending) (w' : World) : Prop :=
  ∃ g, e = .returned (.slice (some ⟨g, 0, none⟩) zs.length zs.length) ∧ w.heap.size ≤ g ∧ OwnI w' g zs ∧ Below w.heap.size w w'

/-- Behind k rounds the first k numbers stand. -/
def fillL (ks : List Int) (n k : Nat) : List Int := (List.range n).map fun i => if i < k then ks.getD i 0 else 0
theorem length_fillL (ks : List Int) (n k : Nat) : (fillL ks n k).length = n := by simp [fillL]
theorem fillL_all (ks : List Int) (n : Nat) : fillL ks n n = tapeL ks n := by
  unfold fillL tapeL
  refine List.map_congr_left fun i hi => ?_
  rw [if_pos (List.mem_range.1 hi)]
theorem fillL_set (ks : List Int) (n k : Nat) (_h : k < n) : (fillL ks n k).set k (ks.getD k 0) = fillL ks n (k + 1) := by
  apply List.ext_getElem
  · simp [fillL]
  · intro i h1 h2
    have hi : i < n := by simpa [fillL] using h2
    rw [List.getElem_set]
    simp only [fillL, List.getElem_map, List.getElem_range]
    by_cases e : k = i
    · rw [if_pos e, if_pos (by omega), e]
    · rw [if_neg e]
      by_cases h3 : i < k
      · rw [if_pos h3, if_pos (by omega)]
      · rw [if_neg h3, if_neg (by omega)]

theorem fillL_zero (ks : List Int) (n : Nat) : i64s (fillL ks n 0) = List.replicate n (.int .i64 0) := by
  apply List.ext_getElem
  · simp [i64s, fillL]
  · intro i h1 h2
    simp [i64s, fillL]

theorem madeI64 (n : Nat) : (madeCells #[Value.int .i64 0] n).toList = List.replicate n (.int .i64 0) := by
  apply List.ext_getElem
  · simp [madeCells]
  · intro i h1 h2
    simp [madeCells, Nat.mod_one]

/-- The world behind Next: the tape's place, the row, and what lay below. -/
theorem next_world {w wr w' : World} {t nl capl k i : Nat} {al : Option Addr} {ks : List Int} {g : Nat} {zs : List Int} (hP : Pr t (.slice al nl capl) (.int .i64 (k : Int)) wr) (hO : OwnI wr g zs) (hB : Below w.heap.size w wr) (hgt : g ≠ t) (ht : w.heap.size ≤ t) (hl : ks.length = nl) (hk : k = min i nl)
    (hw : ∃ q, w' = (if k < ks.length then wr.setCell ⟨t, 1, none⟩ (.int .i64 ((k + 1 : Nat) : Int)) else wr).drewN q) :
    Pr t (.slice al nl capl) (.int .i64 ((min (i + 1) nl : Nat) : Int)) w' ∧ OwnI w' g zs ∧ Below w.heap.size w w' := by
  obtain ⟨q, rfl⟩ := hw
  rw [hl]
  by_cases h : k < nl
  · rw [if_pos h]
    have e : min (i + 1) nl = k + 1 := by omega
    rw [e]
    refine ⟨⟨?_, ?_, ?_, ?_, ?_⟩, ?_, ?_⟩
    · show (wr.setCell _ _).cell? _ = _
      rw [World.cell?_setCell_other _ _ _ _ (by simp)]; exact hP.c0
    · exact World.cell?_setCell_same _ _ _ hP.c1
    · show (wr.setCell _ _).frozen? _ = _
      simp [hP.f0]
    · show (wr.setCell _ _).frozen? _ = _
      simp [hP.f1]
    · show t < (wr.setCell _ _).heap.size
      simp [World.setCell]; exact hP.lt
    · exact (hO.of_heap (Below.heap_setCell wr ⟨t, 1, none⟩ _ g hgt) : OwnI (wr.setCell ⟨t, 1, none⟩ _) g zs).of_heap rfl
    · exact below_drewN' (hB.setCell (p := ⟨t, 1, none⟩) ht _) q
  · rw [if_neg h]
    have e : min (i + 1) nl = k := by omega
    rw [e]
    exact ⟨⟨hP.c0, hP.c1, hP.f0, hP.f1, hP.lt⟩, hO.of_heap rfl, below_drewN' hB q⟩

set_option maxRecDepth 100000 in
set_option maxHeartbeats 2000000 in
theorem vector_any (al : Option Addr) (nl capl n : Nat) (ks : List Int) (w : World) (hr : Rd8 w al ks) (hl : ks.length = nl) (hn : nl ≤ 200000000000000) (hn2 : n ≤ 1000000) :
    Calls Tryz.prog 11 #[.slice al nl capl, .int .i64 (n : Int)] w (GivesVec w (tapeL ks n)) := by
  have hmk := fun W => run_make_row' (P := Tryz.prog) 23 2 (.int .i64 0) 8 Tryz.underlying23 infoI64 rfl .i64 .i64 n (by omega) (by omega) W
  have HR := Lib.hid hr
  have HL := Lib.hid hl
  obtain ⟨W, hW⟩ : ∃ W, W = (w.alloc (.cells #[.slice al nl capl, .int .i64 0] 62)).alloc (.cells (madeCells #[.int .i64 0] n) 2) := ⟨_, rfl⟩
  have hP : Hid (Pr w.heap.size (.slice al nl capl) (.int .i64 0) W) := by rw [hW]; exact (Pr.made _ _ _ _ rfl).alloc _
  have hO : Hid (OwnI W (w.heap.size + 1) (fillL ks n 0)) := by
    rw [hW]
    have hg := heap_alloc_new (w.alloc (.cells #[.slice al nl capl, .int .i64 0] 62)) (.cells (madeCells #[.int .i64 0] n) 2)
    rw [show (w.alloc (.cells #[.slice al nl capl, .int .i64 0] 62)).heap.size = w.heap.size + 1 from by simp] at hg
    refine ⟨_, hg, ?_⟩
    rw [length_fillL, fillL_zero, madeI64, List.take_of_length_le (by simp)]
  have hB : Hid (Below w.heap.size w W) := by rw [hW]; exact ((Below.refl _ _).alloc (Nat.le_refl _) _).alloc (by simp) _
  have HW : Hid ((w.alloc (.cells #[.slice al nl capl, .int .i64 0] 62)).alloc (.cells (madeCells #[.int .i64 0] n) 2) = W) := hW.symm
  clear hr hl hW
  go_enter Tryz.func11, Tryz.ntmps11
  go_wp2_with fail
  rw [HW.out]
  go_loopw [15] (fun ii wr => ∃ i : Nat, i ≤ n ∧ ii = .int .i64 (i : Int) ∧ Hid (Pr w.heap.size (.slice al nl capl) (.int .i64 ((min i nl : Nat) : Int)) wr) ∧ Hid (OwnI wr (w.heap.size + 1) (fillL ks n i)) ∧ Hid (Below w.heap.size w wr)) (fun ii _ => n - (intOf ii).toNat)
  case atStart => exact ⟨0, by omega, rfl, by rw [Nat.zero_min]; exact hP, hO, hB⟩
  case round =>
    obtain ⟨i, hin, rfl, hP1, hO1, hB1⟩ := hrel
    clear hP hO hB hmk
    by_cases hi : i < n
    · obtain ⟨k, hk⟩ : ∃ k, k = min i nl := ⟨_, rfl⟩
      rw [← hk] at hP1
      have hv : ks.getD k 0 = ks.getD i 0 := by
        by_cases h : i < nl
        · rw [hk, Nat.min_eq_left (by omega)]
        · have hl := HL.out
          rw [List.getD_eq_getElem?_getD, List.getD_eq_getElem?_getD, List.getElem?_eq_none (by omega), List.getElem?_eq_none (by omega)]
      have hset := fillL_set ks n i hi
      rw [← hv] at hset
      have hnext := next_any w.heap.size al nl capl k ks wr hP1.out (HR.out.below hB1.out) HL.out hn (by omega) (fun hne b o e => by
        obtain ⟨b', o', e', hc⟩ := HR.out.cells 0 (List.length_pos_iff.2 hne)
        rw [e] at e'
        simp only [Option.some.injEq, Addr.mk.injEq, and_true] at e'
        have := World.block_lt_of_cell? w _ hc
        have h2 : b' < w.heap.size := this
        omega)
      have HNEXT := Lib.hid hnext
      have HSET := Lib.hid hset
      have HK := Lib.hid hk
      have hin64 : (i : Int) < (n : Int) := by omega
      clear hnext hset hk hv
      go_wp2_with fail
      refine HNEXT.out.mono ?_
      rintro e w2 ⟨rfl, hw⟩
      obtain ⟨h1, h2, h3⟩ := next_world hP1.out hO1.out hB1.out (by omega) (Nat.le_refl _) HL.out HK.out hw
      have H1 := Lib.hid h1
      have H3 := Lib.hid h3
      have hcell := h2.cell i (by rw [length_fillL]; exact hi)
      have hfree := h2.free i
      have h4 : Hid (OwnI (w2.setCell ⟨w.heap.size + 1, i, none⟩ (.int .i64 (ks.getD k 0))) (w.heap.size + 1) (fillL ks n (i + 1))) := by
        have h := h2.store i (ks.getD k 0)
        rw [HSET.out] at h
        exact h
      clear h1 h2 h3 hw
      go_wp2_with fail
      go_roundw
      case rel => exact ⟨i + 1, by omega, by go_num, (H1.out.far (a := ⟨w.heap.size + 1, i, none⟩) (by show w.heap.size ≠ w.heap.size + 1; omega) _), h4, H3.out.setCell (p := ⟨w.heap.size + 1, i, none⟩) (by show w.heap.size ≤ w.heap.size + 1; omega) _⟩
      case measure => simp [intOf]; omega
    · obtain rfl : i = n := by omega
      have hend : Hid (GivesVec w (tapeL ks i) (.returned (.slice (some ⟨w.heap.size + 1, 0, none⟩) i i)) wr) := by
        have h := hO1.out
        rw [fillL_all] at h
        exact ⟨w.heap.size + 1, by rw [length_tapeL], by omega, h, hB1.out⟩
      go_wp2_with fail
      go_ret
      exact hend.out
end Go.Proofs.YtfpcfcegdjlggaaGreat
