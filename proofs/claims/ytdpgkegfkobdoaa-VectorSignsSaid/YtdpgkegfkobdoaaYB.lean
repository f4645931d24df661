/-
  The contract of reducedAt.
-/
import Derived.Test.YtdpgkegfkobdoaaYA
namespace Go.Proofs.Ytdpgkegfkobdoaa
open Go.RowKit

/-- The conditions of a reduced form at step k. -/
def RedAt (n : Nat) (F : Nat → Int) (k : Nat) : Prop :=
  0 < F (1 + k * 8 + k) ∧ (∀ i, k < i → i < n → 2 * F (1 + i * 8 + k) ≤ F (1 + k * 8 + k) ∧ -(2 * F (1 + i * 8 + k)) ≤ F (1 + k * 8 + k)) ∧
  (k + 1 = n ∨ 3 * F (1 + k * 8 + k) ≤ 4 * F (1 + (k + 1) * 8 + (k + 1)))

/-- A bool that says whether p; nothing but draws has happened. -/
def GivesIf (w : World) (p : Prop) (e : Ending) (w' : World) : Prop := ∃ r, e = .returned (.bool r) ∧ (r = true ↔ p) ∧ ∃ q, w.drewN q = w'
theorem givesIf_no {w w' : World} {p : Prop} {q : Nat} (h : ¬p) (hw : w.drewN q = w') : GivesIf w p (.returned (.bool false)) w' := ⟨false, rfl, by simp [h], q, hw⟩
theorem givesIf_mk {w w' : World} {p : Prop} {q : Nat} {r : Bool} (h : r = true ↔ p) (hw : w.drewN q = w') : GivesIf w p (.returned (.bool r)) w' := ⟨r, rfl, h, q, hw⟩
theorem givesIf_yes {w w' : World} {p : Prop} {q : Nat} (h : p) (hw : w.drewN q = w') : GivesIf w p (.returned (.bool true)) w' := ⟨true, rfl, by simp [h], q, hw⟩

set_option maxRecDepth 100000 in
set_option maxHeartbeats 1000000 in
theorem reducedAt_any (b n k : Nat) (F : Nat → Int) (w : World) (hS : Stg w b F) (h0 : F 0 = (n : Int)) (hk : k < n) (hn : n ≤ 8) (hF : ∀ i j, i < n → j ≤ i → Small (F (1 + i * 8 + j))) :
    Calls Try.prog 34 #[.pointer (some ⟨b, 0, none⟩), .int .i64 k] w (GivesIf w (RedAt n F k)) := by
  have hs := hS.size
  rw [h0] at hs
  have hc := hS.cell k k (by omega) (by omega)
  have hm := hF k k hk (Nat.le_refl _)
  obtain ⟨m, hmm⟩ : ∃ m, m = F (1 + k * 8 + k) := ⟨_, rfl⟩
  rw [← hmm] at hm hc
  have hm1 := hm.1
  have hm2 := hm.2
  by_cases hp : m ≤ 0
  · have hno : ¬RedAt n F k := fun h => by have := h.1; omega
    go_enter Try.func34, Try.ntmps34
    have HNO := Lib.hid hno
    clear hno
    go_wp2
    go_ret
    exact givesIf_no (q := 0) HNO.out rfl
  · have hp' : decide (m ≤ 0) = false := decide_eq_false hp
    have HM := Lib.hid hmm
    have HS := Lib.hid hS
    clear hmm hm hS
    go_enter Try.func34, Try.ntmps34
    go_wp2
    go_loopw [6] (fun i wr => ∃ j : Nat, k < j ∧ j ≤ n ∧ i = .int .i64 (j : Int) ∧ Hid (∀ i, k < i → i < j → 2 * F (1 + i * 8 + k) ≤ m ∧ -(2 * F (1 + i * 8 + k)) ≤ m) ∧ ∃ q, wr = w.drewN q) (fun i _ => n - (intOf i).toNat)
    case atStart => exact ⟨k + 1, by omega, by omega, by go_num, fun i h1 h2 => by omega, 0, rfl⟩
    case round =>
      obtain ⟨j, hkj, hjn, rfl, hall, q, rfl⟩ := hrel
      by_cases hj : j < n
      · have hcj := HS.out.cell j k (by omega) (by omega)
        have hFj := hF j k hj (by omega)
        obtain ⟨x, hx⟩ : ∃ x, x = F (1 + j * 8 + k) := ⟨_, rfl⟩
        rw [← hx] at hcj hFj
        have hf1 := hFj.1
        have hf2 := hFj.2
        have HX := Lib.hid hx
        clear hx hFj
        by_cases hb : 2 * x ≤ m ∧ -(2 * x) ≤ m
        · have hmx : decide (m < 2 * if x < -x then -x else x) = false := decide_eq_false (by split <;> omega)
          have hall' : Hid (∀ i, k < i → i < j + 1 → 2 * F (1 + i * 8 + k) ≤ m ∧ -(2 * F (1 + i * 8 + k)) ≤ m) := fun i h1 h2 => by
            by_cases e : i = j
            · rw [e, ← HX.out]; exact hb
            · exact hall.out i h1 (by omega)
          clear hb
          go_wp2
          go_quiet (fail)
          go_wp2
          go_roundw
          case rel => exact ⟨j + 1, by omega, by omega, by go_num, hall', _, rfl⟩
          case measure => simp [intOf]; omega
        · have hmx : decide (m < 2 * if x < -x then -x else x) = true := decide_eq_true (by split <;> omega)
          have hno : ¬RedAt n F k := fun h => hb (by have := h.2.1 j hkj hj; rw [HM.out, HX.out]; exact this)
          have HNO := Lib.hid hno
          clear hb hno
          go_wp2
          go_quiet (fail)
          go_wp2
          all_goals
            go_ret
            exact givesIf_no HNO.out rfl
      · obtain rfl : j = n := by omega
        by_cases hl : k + 1 = j
        · have he : ((k : Int) + 1 == (j : Int)) = true := by simp; omega
          have hyes : RedAt j F k := ⟨by rw [← HM.out]; omega, fun i h1 h2 => by rw [← HM.out]; exact hall.out i h1 h2, .inl hl⟩
          have HY := Lib.hid hyes
          clear hl hall hyes
          go_wp2
          go_ret
          exact givesIf_yes HY.out rfl
        · have he : ((k : Int) + 1 == (j : Int)) = false := by simp; omega
          have hcj := HS.out.cell (k + 1) (k + 1) (by omega) (by omega)
          have hFj := hF (k + 1) (k + 1) (by omega) (by omega)
          obtain ⟨x, hx⟩ : ∃ x, x = F (1 + (k + 1) * 8 + (k + 1)) := ⟨_, rfl⟩
          rw [← hx] at hcj hFj
          have hf1 := hFj.1
          have hf2 := hFj.2
          have HX := Lib.hid hx
          have hiff : (decide (3 * m ≤ 4 * x) = true ↔ RedAt j F k) := by
            rw [decide_eq_true_iff]
            refine ⟨fun h => ⟨by rw [← HM.out]; omega, fun i h1 h2 => by rw [← HM.out]; exact hall.out i h1 h2, .inr (by rw [← HM.out, ← HX.out]; exact h)⟩, fun h => ?_⟩
            rcases h.2.2 with h3 | h3
            · exact absurd h3 hl
            · rw [← HM.out, ← HX.out] at h3; exact h3
          have HI := Lib.hid hiff
          have hk8 : (k : Int) + 1 < 8 := by omega
          clear hx hFj hl hall hiff
          go_wp2
          go_ret
          exact givesIf_mk HI.out rfl
end Go.Proofs.Ytdpgkegfkobdoaa
