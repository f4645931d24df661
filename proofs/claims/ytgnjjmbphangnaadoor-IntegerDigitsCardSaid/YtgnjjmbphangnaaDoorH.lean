/-
  The contracts of shiftLeft and shiftRight.
-/
import Derived.Test.YtgnjjmbphangnaaDoorG
namespace Go.Proofs.YtgnjjmbphangnaaDoor
open Go.RowKit

/-- The high limb over the low one. -/
theorem or_high (x y : Int) (hx0 : 0 ≤ x) (hx : x ≤ 4294967295) (hy0 : 0 ≤ y) (hy : y ≤ 4294967295) : bits .or .u64 (x * 4294967296) y = x * 4294967296 + y := by
  rw [u64_or _ _ (by omega) (by omega) hy0 (by omega)]
  have e1 : (x * 4294967296).toNat = 2 ^ 32 * x.toNat := by omega
  rw [e1, ← Nat.two_pow_add_eq_or_of_lt (by omega)]
  omega

theorem shr_digit {xs : List Nat} (h : Lim xs) (s k : Nat) (hk : k < xs.length) :
    bits .or .u64 (nth xs (k + 1) * 4294967296) (nth xs k) / 2 ^ s % 4294967296 = (((shrL s xs).getD k 0 : Nat) : Int) := by
  rw [or_high _ _ (nth_ge _ _) (nth_le h _) (nth_ge _ _) (nth_le h _), getD_shrL s xs k hk]
  unfold nth
  have e : ((xs.getD (k + 1) 0 : Nat) : Int) * 4294967296 + (xs.getD k 0 : Nat) = ((xs.getD k 0 + 4294967296 * xs.getD (k + 1) 0 : Nat) : Int) := by omega
  rw [e, show (2 : Int) ^ s = ((2 ^ s : Nat) : Int) by simp, ← Int.natCast_ediv]
  omega

theorem take_getD {xs : List Nat} {k : Nat} (h : k < xs.length) : xs.take k ++ [xs.getD k 0] = xs.take (k + 1) := by
  rw [List.take_succ_eq_append_getElem h, List.getD_eq_getElem?_getD, List.getElem?_eq_getElem h]; rfl

set_option maxRecDepth 100000 in
set_option maxHeartbeats 1000000 in
theorem shiftRight_any (a : Option Addr) (n cap : Nat) (xs : List Nat) (s : Nat) (w : World) (rdx : Rd w a cap xs) (hl : xs.length = n) (hn : n ≤ 1000000000) (hs : s ≤ 31) :
    Calls Tryd.prog 49 #[.slice a n cap, .int .i64 s] w (GivesNew w (shrL s xs)) := by
  obtain ⟨i, hi, hz0, hz1, hz2⟩ := info_parts Tryd.infoU32
  have hlx := rdx.lim
  have hux := rdx.under
  have HL := Lib.hid hl
  clear hl
  go_enter Tryd.func49, Tryd.ntmps49
  go_wp2_with (at_make; refine wpList_make_full _ rfl _ _ 23 rfl w.heap.size 52 i (.int .u32 0) 1 Tryd.underlying23 hi hz0 hz1 _ _ _ _ n rfl rfl ?_ ?_ ?_ ?_ (Nat.le_refl _) ?_)
  · rfl
  · rfl
  · rw [hz2]; omega
  · unfold maxLen; omega
  intro w1 hown hgrow
  have ho1 := own_made hown
  have hb1 : Below w.heap.size w w1 := (Below.refl _ _).grown hgrow (Nat.le_refl _) (by intro k hk; cases hk)
  clear hown hgrow
  go_wp2_with fail
  go_loopw [13] (fun i wr => ∃ (k : Nat), k ≤ n ∧ i = .int .i64 k ∧ Own wr w.heap.size ((shrL s xs).take k ++ List.replicate (n - k) 0) ∧ Below w.heap.size w wr) (fun i _ => n - (intOf i).toNat)
  case atStart => exact ⟨0, by omega, rfl, ho1, hb1⟩
  case round =>
    obtain ⟨k, hk, rfl, hO, hB⟩ := hrel
    have hrx := rdx.belowU hux hB
    by_cases hlt : k < n
    · obtain ⟨bx, ox, rfl, hcx⟩ := hrx.cells k (by rw [HL.out]; exact hlt)
      have g1 := nth_ge xs k
      have g2 := nth_ge xs (k + 1)
      have g3 := nth_le hlx k
      have g4 := nth_le hlx (k + 1)
      have hfree := hO.free k
      have hcell := hO.cell k (by simp [length_shrL, HL.out]; omega)
      go_wp2_with fail
      go_quiet ((go_at_call 47; exact quiet_eq (limbAt_any _ _ _ xs _ (hrx.drewN _) HL.out (by omega) _ (k + 1) (by omega))))
      go_wp2_with fail
      go_roundw
      case rel =>
        have hl2 : k < (shrL s xs).length := by rw [length_shrL, HL.out]; exact hlt
        have hst := ((hO.drewN nq).store k ((shrL s xs).getD k 0) ((Lim_shrL s xs).getD k) _ (shr_digit hlx s k (by rw [HL.out]; exact hlt))).1
        rw [set_next (by rw [List.length_take]; omega) hlt, take_getD hl2] at hst
        exact ⟨k + 1, by omega, by go_num, hst, (below_drewN hB nq).setCell (p := ⟨w.heap.size, k, none⟩) (Nat.le_refl _) _⟩
      case measure => simp [intOf]; omega
    · obtain rfl : k = n := by omega
      have hlen : (shrL s xs).length = k := by rw [length_shrL, HL.out]
      rw [Nat.sub_self, List.replicate_zero, List.append_nil, List.take_of_length_le (by omega)] at hO
      have HLen := Lib.hid hlen
      clear hlen hrx
      go_wp2_with fail
      go_ret
      exact ⟨some ⟨w.heap.size, 0, none⟩, k, by rw [HLen.out]; rfl, hB, by rw [HLen.out]; exact Nat.le_refl _, .inr ⟨_, rfl, Nat.le_refl _, hO⟩⟩

/-- One digit of a shift to the left. -/
theorem shl_digit {xs zs : List Nat} {s k c : Nat} (hx : Lim xs) (hs : s ≤ 31) (h : TimesInv xs (2 ^ s) 0 k zs c) (hc : c < 2 ^ s) :
    ∃ W : Int, nth xs k * 2 ^ s = W ∧ 0 ≤ W ∧ W ≤ 9223372036854775807 ∧
      ∃ z c' : Nat, z < 4294967296 ∧ bits .or .u64 W (c : Int) % 4294967296 = (z : Int) ∧ W / 4294967296 = (c' : Int) ∧ c' < 2 ^ s ∧ TimesInv xs (2 ^ s) 0 (k + 1) (zs ++ [z]) c' := by
  have hp : 2 ^ s ≤ 2147483648 := Nat.le_trans (Nat.pow_le_pow_right (by omega) hs) (by decide)
  obtain ⟨h1, h2⟩ := h.step hx (by omega)
  have hk := hx.getD k
  have hm : xs.getD k 0 * 2 ^ s ≤ 4294967295 * 2147483648 := Nat.mul_le_mul (by omega) hp
  have e : nth xs k * 2 ^ s = ((xs.getD k 0 * 2 ^ s : Nat) : Int) := by unfold nth; simp
  have eo : bits .or .u64 ((xs.getD k 0 * 2 ^ s : Nat) : Int) (c : Int) = ((xs.getD k 0 * 2 ^ s + c : Nat) : Int) := by
    rw [u64_or _ _ (by omega) (by omega) (by omega) (by omega), Int.toNat_natCast, Int.toNat_natCast, Nat.mul_comm, ← Nat.two_pow_add_eq_or_of_lt hc]
  have hcar := shl_carry (xs.getD k 0) s c (by omega) hc
  refine ⟨_, e, by omega, by omega, _, _, ?_, ?_, ?_, ?_, h2⟩
  · omega
  · rw [eo]; omega
  · rw [hcar]; omega
  · rw [hcar, Nat.div_lt_iff_lt_mul (by omega), Nat.mul_comm]
    exact Nat.mul_lt_mul_of_pos_left hk (Nat.pow_pos (by omega))

theorem shl_h4 {xs : List Nat} {n s : Nat} (hlx : Lim xs) (hl : xs.length = n) (h3 : 2 ^ s ≤ 2147483648) : 2 ^ s * val xs < 4294967296 ^ (n + 1) := by
  have h2 := val_lt hlx
  rw [hl] at h2
  rw [Nat.pow_succ]
  generalize 4294967296 ^ n = M at *
  have a1 : 2 ^ s * val xs ≤ 2147483648 * val xs := Nat.mul_le_mul_right _ h3
  generalize 2 ^ s * val xs = A at *
  omega
theorem shl_q {A B M q : Nat} (e : A + M * q = B + 0) (h : B < M) : q = 0 := by
  rcases Nat.eq_zero_or_pos q with h0 | h0
  · exact h0
  · have := Nat.le_mul_of_pos_right M h0
    omega
theorem shl_done {xs zs : List Nat} {n s q : Nat} (hlx : Lim xs) (hl : xs.length = n) (h3 : 2 ^ s ≤ 2147483648) (hI : TimesInv xs (2 ^ s) 0 (n + 1) zs q) : val zs = val xs * 2 ^ s := by
  have e := hI.eq
  rw [List.take_of_length_le (by rw [hl]; exact Nat.le_succ n)] at e
  have h4 := shl_h4 hlx hl h3
  have hq0 := shl_q e h4
  rw [hq0, Nat.mul_zero, Nat.add_zero, Nat.add_zero] at e
  rw [e, Nat.mul_comm]

/-- A new list with this length and value. -/
def GivesVal (w : World) (n v : Nat) (e : Ending) (w' : World) : Prop := ∃ zs, zs.length = n ∧ val zs = v ∧ GivesNew w zs e w'

set_option maxRecDepth 100000 in
set_option maxHeartbeats 1000000 in
/-- The shifted list has one limb more, which may be 0. -/
theorem shiftLeft_any (a : Option Addr) (n cap : Nat) (xs : List Nat) (s : Nat) (w : World) (rdx : Rd w a cap xs) (hl : xs.length = n) (hn : n ≤ 1000000000) (hs : s ≤ 31) :
    Calls Tryd.prog 61 #[.slice a n cap, .int .i64 s] w (GivesVal w (n + 1) (val xs * 2 ^ s)) := by
  obtain ⟨i, hi, hz0, hz1, hz2⟩ := info_parts Tryd.infoU32
  have hlx := rdx.lim
  have hux := rdx.under
  have HL := Lib.hid hl
  clear hl
  go_enter Tryd.func61, Tryd.ntmps61
  go_wp2_with (at_make; refine wpList_make_full _ rfl _ _ 23 rfl w.heap.size 52 i (.int .u32 0) 1 Tryd.underlying23 hi hz0 hz1 _ _ _ _ (n + 1) rfl rfl ?_ ?_ ?_ ?_ (Nat.le_refl _) ?_)
  · rfl
  · rfl
  · rw [hz2]; omega
  · unfold maxLen; omega
  intro w1 hown hgrow
  have ho1 := own_made hown
  have hb1 : Below w.heap.size w w1 := (Below.refl _ _).grown hgrow (Nat.le_refl _) (by intro k hk; cases hk)
  clear hown hgrow
  go_wp2_with fail
  go_loopw [6, 15] (fun c i wr => ∃ (k : Nat) (zs : List Nat) (q : Nat), k ≤ n + 1 ∧ i = .int .i64 k ∧ c = .int .u64 q ∧ Hid (q < 2 ^ s) ∧ TimesInv xs (2 ^ s) 0 k zs q ∧ Own wr w.heap.size (zs ++ List.replicate (n + 1 - k) 0) ∧ Below w.heap.size w wr) (fun _ i _ => n + 1 - (intOf i).toNat)
  case atStart => exact ⟨0, [], 0, by omega, rfl, rfl, Nat.pow_pos (by omega), TimesInv.start xs _ 0 (by omega), ho1, hb1⟩
  case round =>
    obtain ⟨k, zs, q, hk, rfl, rfl, hq, hI, hO, hB⟩ := hrel
    have hrx := rdx.belowU hux hB
    by_cases hlt : k < n + 1
    · obtain ⟨W, hW, w0, w1', z, c', hz, hzv, hcv, hc', hI2⟩ := shl_digit hlx hs hI hq.out
      have g1 := nth_ge xs k
      have g3 := nth_le hlx k
      have hfree := hO.free k
      have hcell := hO.cell k (by simp [hI.len]; omega)
      have HZ := Lib.hid hzv
      have HC := Lib.hid hcv
      have HI2 := Lib.hid hI2
      have HC2 := Lib.hid hc'
      clear hzv hcv hI2 hc'
      go_wp2_with fail
      refine (limbAt_any _ _ _ xs _ hrx HL.out (by omega) _ k rfl).mono ?_
      rintro e w' ⟨rfl, rfl⟩
      go_wp2_with fail
      go_roundw
      case rel =>
        have hst := (hO.store k z hz _ HZ.out).1
        rw [set_next hI.len hlt] at hst
        exact ⟨k + 1, zs ++ [z], c', by omega, by go_num, by rw [HC.out], HC2.out, HI2.out, hst, hB.setCell (p := ⟨w.heap.size, k, none⟩) (Nat.le_refl _) _⟩
      case measure => simp [intOf]; omega
    · obtain rfl : k = n + 1 := by omega
      have hlen := hI.len
      have hv := shl_done hlx HL.out (Nat.le_trans (Nat.pow_le_pow_right (by omega) hs) (by decide)) hI
      rw [Nat.sub_self, List.replicate_zero, List.append_nil] at hO
      have HLen := Lib.hid hlen
      have HV := Lib.hid hv
      clear hlen hv hrx hI
      go_wp2_with fail
      go_ret
      exact ⟨zs, HLen.out, HV.out, some ⟨w.heap.size, 0, none⟩, n + 1, by rw [HLen.out]; rfl, hB, by rw [HLen.out]; exact Nat.le_refl _, .inr ⟨_, rfl, Nat.le_refl _, hO⟩⟩

end Go.Proofs.YtgnjjmbphangnaaDoor
