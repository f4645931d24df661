/-
  The contracts of Content, of the program and of the reference.
-/
import Derived.Test.YtdpgkegfkobdoaaYK
import Derived.Deep.LoopGhost
namespace Go.Proofs.Ytdpgkegfkobdoaa
open Go.RowKit Go.Shelf

def GivesU (w : World) (v : Nat) (e : Ending) (w' : World) : Prop := e = .returned (.int .u64 (v : Int)) ∧ Below w.heap.size w w'

set_option maxRecDepth 100000 in
set_option maxHeartbeats 2000000 in
theorem vgcd_any (x y : Nat) (w : World) (hx : x ≤ 18446744073709551615) (hy : y ≤ 18446744073709551615) :
    Calls Try.prog 24 #[.int .u64 x, .int .u64 y] w (GivesU w (Nat.gcd x y)) := by
  obtain ⟨G, hG⟩ : ∃ G, G = Nat.gcd x y := ⟨_, rfl⟩
  rw [← hG]
  have HG := Lib.hid hG
  clear hG
  go_enter Try.func24, Try.ntmps24
  go_wp2_with fail
  go_loopg [0, 1] y (fun gn a b wr => ∃ (u v : Nat), a = .int .u64 u ∧ b = .int .u64 v ∧ Hid (gn = v) ∧ Hid (Nat.gcd u v = G) ∧ u ≤ 18446744073709551615 ∧ v ≤ 18446744073709551615 ∧ Below w.heap.size w wr)
  case atStart => exact ⟨x, y, rfl, rfl, rfl, HG.out.symm, hx, hy, Below.refl _ _⟩
  case round =>
    obtain ⟨u, v, rfl, rfl, hg, hgc, hu, hv, hB⟩ := hrel
    by_cases h0 : 0 < v
    · obtain ⟨r, hr⟩ : ∃ r, r = u % v := ⟨_, rfl⟩
      have hlt : r < v := by rw [hr]; exact Nat.mod_lt _ h0
      have hgc2 : Nat.gcd v r = G := by rw [hr, ← hgc.out, Nat.gcd_comm u v, Nat.gcd_rec v u, Nat.gcd_comm]
      have h1 : (u : Int) % (v : Int) = (r : Int) := by rw [hr]; simp
      have ht : (u : Int).tmod (v : Int) = (r : Int) := by rw [Int.tmod_eq_emod_of_nonneg (by omega)]; exact h1
      have hw : IntKind.u64.wrap (r : Int) = (r : Int) := by rw [IntKind.wrap_u64]; omega
      have hv0 : ¬v = 0 := by omega
      have HGC := Lib.hid hgc2
      clear hr hgc2
      go_wp2_with fail
      go_region
      all_goals go_wp2_with fail
      go_roundg r
      case measure => rw [hg.out]; exact hlt
      case rel => exact ⟨v, r, rfl, rfl, rfl, HGC.out, hv, by omega, hB.drew⟩
    · obtain rfl : v = 0 := by omega
      have he : u = G := by rw [← hgc.out, Nat.gcd_zero_right]
      have HE := Lib.hid he
      clear he
      go_wp2_with fail
      go_ret
      exact ⟨by rw [← HE.out]; rfl, hB⟩

theorem magnitude_any (x : Int) (h : I64 x) (w : World) : Calls Try.prog 25 #[.int .i64 x] w fun e w' => e = .returned (.int .u64 (x.natAbs : Int)) ∧ w = w' := by
  have h1 := h.1
  have h2 := h.2
  by_cases hn : x < 0
  · have e : IntKind.u64.wrap (-IntKind.u64.wrap x) = (x.natAbs : Int) := by simp only [IntKind.wrap_u64]; omega
    have E := Lib.hid e
    clear e
    go_enter Try.func25, Try.ntmps25
    go_wp2
    go_ret
    exact ⟨by rw [← E.out]; rfl, rfl⟩
  · have e : x = (x.natAbs : Int) := by omega
    have E := Lib.hid e
    clear e
    go_enter Try.func25, Try.ntmps25
    go_wp2
    go_ret
    exact ⟨by rw [← E.out]; rfl, rfl⟩

/-- The greatest common divisor of the first k numbers. -/
def contL (xs : List Int) : Nat → Nat
  | 0 => 0
  | k + 1 => Nat.gcd (contL xs k) (xs.getD k 0).natAbs

theorem contL_le (xs : List Int) (h : ∀ i, I64 (xs.getD i 0)) : ∀ k, contL xs k ≤ 9223372036854775808
  | 0 => by unfold contL; omega
  | k + 1 => by
    have ih := contL_le xs h k
    have hb := h k
    unfold I64 at hb
    show Nat.gcd (contL xs k) (xs.getD k 0).natAbs ≤ _
    by_cases h0 : contL xs k = 0
    · rw [h0, Nat.gcd_zero_left]; omega
    · exact Nat.le_trans (Nat.gcd_le_left _ (by omega)) ih

set_option maxRecDepth 100000 in
set_option maxHeartbeats 2000000 in
theorem content_any (a : Option Addr) (n cap : Nat) (xs : List Int) (w : World) (hr : RdI w a cap xs) (hl : xs.length = n) (hn : n ≤ 100000000000000) :
    Calls Try.prog 12 #[.slice a n cap] w (GivesU w (contL xs n)) := by
  have HR := Lib.hid hr
  have HL := Lib.hid hl
  clear hr hl
  go_enter Try.func12, Try.ntmps12
  go_wp2_with fail
  go_loopw [3, 8] (fun dd ii wr => ∃ (i d : Nat), i ≤ n ∧ ii = .int .i64 (i : Int) ∧ dd = .int .u64 (d : Int) ∧ Hid (d = contL xs i) ∧ Hid (Below w.heap.size w wr)) (fun _ ii _ => n - (intOf ii).toNat)
  case atStart => exact ⟨0, 0, by omega, rfl, rfl, rfl, Below.refl _ _⟩
  case round =>
    obtain ⟨i, d, hin, rfl, rfl, hd, hB⟩ := hrel
    by_cases hi : i < n
    · obtain ⟨b, o, e1, hcell⟩ := (HR.out.below hB.out).cells i (by rw [HL.out]; exact hi)
      have hI := HR.out.get i
      obtain ⟨x, hx⟩ : ∃ x, x = xs.getD i 0 := ⟨_, rfl⟩
      rw [← hx] at hcell hI
      have hnx : Hid (Nat.gcd d x.natAbs = contL xs (i + 1)) := by unfold Hid; rw [hd.out, hx]; rfl
      have hdl : d ≤ 18446744073709551615 := by rw [hd.out]; exact Nat.le_trans (contL_le xs HR.out.get i) (by omega)
      have hxl : x.natAbs ≤ 18446744073709551615 := by unfold I64 at hI; omega
      have HX := Lib.hid hI
      subst e1
      clear hx hI
      go_wp2_with fail
      refine (magnitude_any x HX.out _).mono ?_
      rintro e w1 ⟨rfl, rfl⟩
      go_wp2_with fail
      refine (vgcd_any d x.natAbs _ hdl hxl).mono ?_
      rintro e w1 ⟨rfl, hb⟩
      have hB1 : Hid (Below w.heap.size w w1) := hB.out.trans (hb.mono hB.out.size)
      rw [hnx.out]
      clear hb
      go_wp2_with fail
      go_roundw
      case rel => exact ⟨i + 1, _, by omega, by go_num, rfl, rfl, hB1⟩
      case measure => simp [intOf]; omega
    · obtain rfl : i = n := by omega
      go_wp2_with fail
      go_ret
      exact ⟨by rw [hd.out]; rfl, hB.out⟩

set_option maxRecDepth 100000 in
set_option maxHeartbeats 4000000 in
theorem rcontent_any (a : Option Addr) (n cap : Nat) (xs : List Int) (w : World) (hr : RdI w a cap xs) (hl : xs.length = n) (hn : n ≤ 100000000000000) :
    Calls Try.prog 13 #[.slice a n cap] w (GivesU w (contL xs n)) := by
  have HR := Lib.hid hr
  have HL := Lib.hid hl
  clear hr hl
  go_enter Try.func13, Try.ntmps13
  go_wp2_with fail
  go_loopw [3, 9] (fun dd ii wr => ∃ (i d : Nat), i ≤ n ∧ ii = .int .i64 (i : Int) ∧ dd = .int .u64 (d : Int) ∧ Hid (d = contL xs i) ∧ Hid (Below w.heap.size w wr)) (fun _ ii _ => n - (intOf ii).toNat)
  case atStart => exact ⟨0, 0, by omega, rfl, rfl, rfl, Below.refl _ _⟩
  case round =>
    obtain ⟨i, d, hin, rfl, rfl, hd, hB⟩ := hrel
    by_cases hi : i < n
    · obtain ⟨b, o, e1, hcell⟩ := (HR.out.below hB.out).cells i (by rw [HL.out]; exact hi)
      have hI := HR.out.get i
      obtain ⟨x, hx⟩ : ∃ x, x = xs.getD i 0 := ⟨_, rfl⟩
      rw [← hx] at hcell hI
      have hnx : Hid (Nat.gcd d x.natAbs = contL xs (i + 1)) := by unfold Hid; rw [hd.out, hx]; rfl
      have hdl : d ≤ 18446744073709551615 := by rw [hd.out]; exact Nat.le_trans (contL_le xs HR.out.get i) (by omega)
      have hxl : x.natAbs ≤ 18446744073709551615 := by unfold I64 at hI; omega
      have x1 := hI.1
      have x2 := hI.2
      subst e1
      clear hx hI
      by_cases hneg : x < 0
      · have e : IntKind.u64.wrap (-IntKind.u64.wrap x) = (x.natAbs : Int) := by simp only [IntKind.wrap_u64]; omega
        obtain ⟨m, hm⟩ : ∃ m, m = x.natAbs := ⟨_, rfl⟩
        rw [← hm] at e hnx hxl
        clear hm
        go_wp2_with fail
        go_loopg [3, 6] m (fun gn dd aa wq => ∃ (u v : Nat), dd = .int .u64 (u : Int) ∧ aa = .int .u64 (v : Int) ∧ Hid (gn = v) ∧ Hid (Nat.gcd u v = contL xs (i + 1)) ∧ u ≤ 18446744073709551615 ∧ v ≤ 18446744073709551615 ∧ Hid (Below w.heap.size w wq))
        case atStart => exact ⟨d, m, rfl, rfl, rfl, hnx, hdl, hxl, hB⟩
        case round =>
          obtain ⟨u, v, rfl, rfl, hg, hgc, hu, hv, hB2⟩ := hrel
          clear hcell
          by_cases h0 : 0 < v
          · obtain ⟨r, hr⟩ : ∃ r, r = u % v := ⟨_, rfl⟩
            have hlt : r < v := by rw [hr]; exact Nat.mod_lt _ h0
            have hgc2 : Nat.gcd v r = contL xs (i + 1) := by rw [hr, ← hgc.out, Nat.gcd_comm u v, Nat.gcd_rec v u, Nat.gcd_comm]
            have h1 : (u : Int) % (v : Int) = (r : Int) := by rw [hr]; simp
            have ht : (u : Int).tmod (v : Int) = (r : Int) := by rw [Int.tmod_eq_emod_of_nonneg (by omega)]; exact h1
            have hw : IntKind.u64.wrap (r : Int) = (r : Int) := by rw [IntKind.wrap_u64]; omega
            have hv0 : ¬v = 0 := by omega
            have HGC := Lib.hid hgc2
            clear hr hgc2
            go_wp2_with fail
            go_region
            all_goals go_wp2_with fail
            go_roundg r
            case measure => rw [hg.out]; exact hlt
            case rel => exact ⟨v, r, rfl, rfl, rfl, HGC.out, hv, by omega, hB2.out.drew⟩
          · obtain rfl : v = 0 := by omega
            have he : Hid (u = contL xs (i + 1)) := by unfold Hid; rw [← hgc.out, Nat.gcd_zero_right]
            go_wp2_with fail
            go_roundw
            case rel => exact ⟨i + 1, u, by omega, by go_num, rfl, he, hB2⟩
            case measure => simp [intOf]; omega
      · obtain ⟨m, rfl⟩ : ∃ m : Nat, x = (m : Int) := ⟨x.natAbs, by omega⟩
        have hma : (m : Int).natAbs = m := by omega
        rw [hma] at hnx hxl
        clear hma
        go_wp2_with fail
        go_loopg [3, 6] m (fun gn dd aa wq => ∃ (u v : Nat), dd = .int .u64 (u : Int) ∧ aa = .int .u64 (v : Int) ∧ Hid (gn = v) ∧ Hid (Nat.gcd u v = contL xs (i + 1)) ∧ u ≤ 18446744073709551615 ∧ v ≤ 18446744073709551615 ∧ Hid (Below w.heap.size w wq))
        case atStart => exact ⟨d, m, rfl, rfl, rfl, hnx, hdl, hxl, hB⟩
        case round =>
          obtain ⟨u, v, rfl, rfl, hg, hgc, hu, hv, hB2⟩ := hrel
          clear hcell
          by_cases h0 : 0 < v
          · obtain ⟨r, hr⟩ : ∃ r, r = u % v := ⟨_, rfl⟩
            have hlt : r < v := by rw [hr]; exact Nat.mod_lt _ h0
            have hgc2 : Nat.gcd v r = contL xs (i + 1) := by rw [hr, ← hgc.out, Nat.gcd_comm u v, Nat.gcd_rec v u, Nat.gcd_comm]
            have h1 : (u : Int) % (v : Int) = (r : Int) := by rw [hr]; simp
            have ht : (u : Int).tmod (v : Int) = (r : Int) := by rw [Int.tmod_eq_emod_of_nonneg (by omega)]; exact h1
            have hw : IntKind.u64.wrap (r : Int) = (r : Int) := by rw [IntKind.wrap_u64]; omega
            have hv0 : ¬v = 0 := by omega
            have HGC := Lib.hid hgc2
            clear hr hgc2
            go_wp2_with fail
            go_region
            all_goals go_wp2_with fail
            go_roundg r
            case measure => rw [hg.out]; exact hlt
            case rel => exact ⟨v, r, rfl, rfl, rfl, HGC.out, hv, by omega, hB2.out.drew⟩
          · obtain rfl : v = 0 := by omega
            have he : Hid (u = contL xs (i + 1)) := by unfold Hid; rw [← hgc.out, Nat.gcd_zero_right]
            go_wp2_with fail
            go_roundw
            case rel => exact ⟨i + 1, u, by omega, by go_num, rfl, he, hB2⟩
            case measure => simp [intOf]; omega
    · obtain rfl : i = n := by omega
      go_wp2_with fail
      go_ret
      exact ⟨by rw [hd.out]; rfl, hB.out⟩
end Go.Proofs.Ytdpgkegfkobdoaa
