/-
  The contract of limited: a number modulo 2^128 that is a norm or an inner product within the limits.
-/
import Derived.Test.YtdpgkegfkobdoaaYF
import Derived.Laws.StructEq
import Derived.Shelf.SlSortCmp.QuietGrown
namespace Go.Proofs.Ytdpgkegfkobdoaa
open Go.RowKit

theorem neq_wide (x1 x0 y1 y0 : Int) (w : World) : (binOp .neq 79 (.agg #[.int .u64 x1, .int .u64 x0]) (.agg #[.int .u64 y1, .int .u64 y0])).run Try.prog w = .ok (.bool (!(x1 == y1 && x0 == y0))) w := by
  have u3 := Try.underlying32
  have a3 := Try.isAgg32
  have z3 := Try.sizeOf32
  have hS : Try.prog.underlying 79 = some (.struct (Try.prog.fieldsOf 79)) := by kernel_rfl
  have hp : Try.prog.stoodInHeld 79 = false := by kernel_rfl
  rw [run_neq_struct, show (10000 : Nat) = 9999 + 1 from rfl, run_equalIn_agg w 9999 79 _ _ hS hp]
  simp only [Program.fieldsOf, Try.underlying79]
  go_simp
  by_cases h1 : x1 = y1 <;> by_cases h2 : x0 = y0 <;> simp [h1, h2]

/-- m is S modulo 2^128, and within the limits. -/
def IsLim (S m : Int) : Prop := -4611686018427387904 ≤ m ∧ m ≤ 4611686018427387904 ∧ (S - m) % 340282366920938463463374607431768211456 = 0

def GivesLim (w : World) (S : Int) (e : Ending) (w' : World) : Prop :=
  ((∃ m, IsLim S m ∧ e = .returned (.tuple #[.int .i64 m, .bool true])) ∨ ((∀ m, ¬IsLim S m) ∧ e = .returned (.tuple #[.int .i64 0, .bool false]))) ∧ Below w.heap.size w w'

theorem lim_words {S n : Int} (h : I64 n) (hn : n % 18446744073709551616 = S % 18446744073709551616) : (hiW n = hiW S ∧ loW n = loW S) ↔ (S - n) % 340282366920938463463374607431768211456 = 0 := by
  obtain ⟨K1, e1⟩ := words S
  obtain ⟨K2, e2⟩ := words n
  have g1 := hiW_ge S
  have g2 := hiW_lt S
  have g3 := hiW_ge n
  have g4 := hiW_lt n
  have hl : loW n = loW S := hn
  constructor
  · rintro ⟨h1, h2⟩
    omega
  · intro h1
    refine ⟨?_, hl⟩
    omega

theorem mixed : Try.prog.follows .mixedOrders = true := by kernel_rfl

theorem below_grow (w : World) (n : Nat) (os : Array Obj) : Below w.heap.size w (Go.Sort.grow (w.drewN n) os) :=
  ⟨rfl, rfl, rfl, by unfold Go.Sort.grow; simp, fun k hk => by
    show (w.heap ++ os)[k]? = _
    rw [Array.getElem?_append_left hk]⟩

theorem givesLim_yes {w w' : World} {S m : Int} (h : IsLim S m) (hb : Below w.heap.size w w') : GivesLim w S (.returned (.tuple #[.int .i64 m, .bool true])) w' := ⟨.inl ⟨m, h, rfl⟩, hb⟩
theorem givesLim_no {w w' : World} {S : Int} (h : ∀ m, ¬IsLim S m) (hb : Below w.heap.size w w') : GivesLim w S (.returned (.tuple #[.int .i64 0, .bool false])) w' := ⟨.inr ⟨h, rfl⟩, hb⟩

set_option maxRecDepth 100000 in
set_option maxHeartbeats 2000000 in
theorem limited_any (S : Int) (w : World) : Calls Try.prog 48 #[wval S] w (GivesLim w S) := by
  obtain ⟨n, hn⟩ : ∃ n, n = IntKind.i64.wrap (loW S) := ⟨_, rfl⟩
  have hnI : I64 n := by rw [hn, IntKind.wrap_i64]; unfold I64; omega
  have hnm : n % 18446744073709551616 = S % 18446744073709551616 := by rw [hn, IntKind.wrap_i64]; unfold loW; omega
  have hiff := lim_words hnI hnm
  obtain ⟨s1, hs1⟩ : ∃ x, x = hiW S := ⟨_, rfl⟩
  obtain ⟨s0, hs0⟩ : ∃ x, x = loW S := ⟨_, rfl⟩
  have hw := widen_grown n hnI
  unfold wval at hw ⊢
  obtain ⟨n1, hn1⟩ : ∃ x, x = hiW n := ⟨_, rfl⟩
  obtain ⟨n0, hn0⟩ : ∃ x, x = loW n := ⟨_, rfl⟩
  rw [← hs1, ← hs0, ← hn1, ← hn0] at hiff
  rw [← hs0] at hn
  rw [← hs1, ← hs0]
  rw [← hn1, ← hn0] at hw
  have hneq := fun w => neq_wide n1 n0 s1 s0 w
  obtain ⟨W, hW⟩ : ∃ W, W = w.alloc (.cells #[.int .u64 s1, .int .u64 s0] 79) := ⟨_, rfl⟩
  have hx : Pr w.heap.size (.int .u64 s1) (.int .u64 s0) W := by rw [hW]; exact Pr.made _ _ _ _ rfl
  have hB : Below w.heap.size w W := by rw [hW]; exact (Below.refl _ _).alloc (Nat.le_refl _) _
  have HN : Hid (wrap64 s0 = n) := by unfold Hid; rw [hn, IntKind.wrap_i64]; unfold wrap64; omega
  have hI1 := hnI.1
  have hI2 := hnI.2
  have HW := Lib.hid hw
  have HWW : Hid (w.alloc (.cells #[.int .u64 s1, .int .u64 s0] 79) = W) := hW.symm
  have HB := Lib.hid hB
  have HX := Lib.hid hx
  have HIFF := Lib.hid hiff
  have hmix := mixed
  have hx1 := fun n os => cell_grown (n := n) (os := os) hx.lt hx.c0
  have hx2 := fun n os => cell_grown (n := n) (os := os) hx.lt hx.c1
  clear hs1 hs0 hn1 hn0 hw hn hW hB hiff hnI hx
  by_cases heq : n1 = s1 ∧ n0 = s0
  · have hb : (!(n1 == s1 && n0 == s0)) = false := by simp [heq.1, heq.2]
    have hcong := HIFF.out.1 heq
    rw [hb] at hneq
    have HC := Lib.hid hcong
    clear heq hb hcong
    by_cases h1 : n < -4611686018427387904
    · have d1 : decide (n < -4611686018427387904) = true := decide_eq_true h1
      have hno : Hid (∀ m, ¬IsLim S m) := fun m h => by
        have := h.1; have := h.2.1; have := h.2.2; have := HC.out; omega
      go_enter Try.func48, Try.ntmps48
      go_wp2_with fail
      rw [HWW.out, HN.out]
      go_quiet_grown (first | (go_at_call 47; exact Calls.grown_of (HW.out _)))
      have hB5 := HB.out.trans ((below_grow W nq osq).mono HB.out.size)
      go_wp2_with fail
      go_ret2
      exact givesLim_no hno.out hB5
    · by_cases h2 : 4611686018427387904 < n
      · have d1 : decide (n < -4611686018427387904) = false := decide_eq_false h1
        have d2 : decide (4611686018427387904 < n) = true := decide_eq_true h2
        have hno : Hid (∀ m, ¬IsLim S m) := fun m h => by
          have := h.1; have := h.2.1; have := h.2.2; have := HC.out; omega
        go_enter Try.func48, Try.ntmps48
        go_wp2_with fail
        rw [HWW.out, HN.out]
        go_quiet_grown (first | (go_at_call 47; exact Calls.grown_of (HW.out _)))
        have hB5 := HB.out.trans ((below_grow W nq osq).mono HB.out.size)
        go_wp2_with fail
        go_ret2
        exact givesLim_no hno.out hB5
      · have d1 : decide (n < -4611686018427387904) = false := decide_eq_false h1
        have d2 : decide (4611686018427387904 < n) = false := decide_eq_false h2
        go_enter Try.func48, Try.ntmps48
        go_wp2_with fail
        rw [HWW.out, HN.out]
        go_quiet_grown (first | (go_at_call 47; exact Calls.grown_of (HW.out _)))
        have hB5 := HB.out.trans ((below_grow W nq osq).mono HB.out.size)
        go_wp2_with fail
        go_ret2
        exact givesLim_yes ⟨by omega, by omega, HC.out⟩ hB5
  · have hb : (!(n1 == s1 && n0 == s0)) = true := by
      by_cases h1 : n1 = s1 <;> by_cases h2 : n0 = s0 <;> simp [h1, h2]
      exact absurd ⟨h1, h2⟩ heq
    have hno : Hid (∀ m, ¬IsLim S m) := fun m h => by
      have h1 := h.1
      have h2 := h.2.1
      have h3 := h.2.2
      have hmn : m = n := by omega
      subst hmn
      exact heq (HIFF.out.2 h3)
    rw [hb] at hneq
    clear heq hb
    go_enter Try.func48, Try.ntmps48
    go_wp2_with fail
    rw [HWW.out, HN.out]
    go_quiet_grown (first | (go_at_call 47; exact Calls.grown_of (HW.out _)))
    have hB5 := HB.out.trans ((below_grow W nq osq).mono HB.out.size)
    go_wp2_with fail
    go_ret2
    exact givesLim_no hno.out hB5
end Go.Proofs.Ytdpgkegfkobdoaa
