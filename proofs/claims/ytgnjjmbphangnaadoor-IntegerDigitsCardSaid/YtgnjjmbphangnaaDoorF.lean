/-
  The contract of subLimbs.
-/
import Derived.Test.YtgnjjmbphangnaaDoorE
namespace Go.Proofs.YtgnjjmbphangnaaDoor
open Go.RowKit

theorem wrap_u64' (n : Int) : IntKind.u64.wrap n = n % 18446744073709551616 := by simp [IntKind.wrap, IntKind.bits, IntKind.signed]

/-- One digit of a difference, as the machine computes it. -/
theorem sub_digit {xs ys zs : List Nat} {k q : Nat} (hx : Lim xs) (hy : Lim ys) (h : SubInv xs ys k zs q) (D : Int) (hD : D = IntKind.u64.wrap (IntKind.u64.wrap (nth xs k - nth ys k) - (q : Int))) :
    ∃ z b' : Nat, z < 4294967296 ∧ D % 4294967296 = (z : Int) ∧ D / 9223372036854775808 = (b' : Int) ∧ SubInv xs ys (k + 1) (zs ++ [z]) b' ∧ 0 ≤ D ∧ D ≤ 18446744073709551615 := by
  have h1 := hx.getD k
  have h2 := hy.getD k
  have h3 := h.one
  rw [wrap_u64', wrap_u64'] at hD
  unfold nth at hD
  by_cases hle : ys.getD k 0 + q ≤ xs.getD k 0
  · exact ⟨_, 0, by omega, by omega, by omega, h.step_no hx hle, by omega, by omega⟩
  · exact ⟨_, 1, by omega, by omega, by omega, h.step_yes hx hy (by omega), by omega, by omega⟩

set_option maxRecDepth 100000 in
set_option maxHeartbeats 1000000 in
theorem subLimbs_any (a b : Option Addr) (n m cap cap' : Nat) (xs ys : List Nat) (w : World) (rdx : Rd w a cap xs) (rdy : Rd w b cap' ys) (hl : xs.length = n) (hl' : ys.length = m) (hn : n ≤ 1000000000) (hm : m ≤ 1000000000) (hle : val ys ≤ val xs) :
    Calls Tryd.prog 32 #[.slice a n cap, .slice b m cap'] w (GivesNew w (limbs (val xs - val ys))) := by
  obtain ⟨i, hi, hz0, hz1, hz2⟩ := info_parts Tryd.infoU32
  have hlx := rdx.lim
  have hly := rdy.lim
  have hux := rdx.under
  have huy := rdy.under
  have HL := Lib.hid hl
  have HL' := Lib.hid hl'
  have HLE := Lib.hid hle
  clear hl hl' hle
  go_enter Tryd.func32, Tryd.ntmps32
  go_wp2_with (at_make; refine wpList_make_full _ rfl _ _ 23 rfl w.heap.size 52 i (.int .u32 0) 1 Tryd.underlying23 hi hz0 hz1 _ _ _ _ n rfl rfl ?_ ?_ ?_ ?_ (Nat.le_refl _) ?_)
  · rfl
  · rfl
  · rw [hz2]; omega
  · unfold maxLen; omega
  intro w1 hown hgrow
  have ho1 := own_made hown
  have hb1 : Below w.heap.size w w1 := (Below.refl _ _).grown hgrow (Nat.le_refl _) (by intro k hk; cases hk)
  clear hown hgrow
  go_wp2_with fail
  go_loopw [6, 14] (fun c i wr => ∃ (k : Nat) (zs : List Nat) (q : Nat), k ≤ n ∧ i = .int .i64 k ∧ c = .int .u64 q ∧ SubInv xs ys k zs q ∧ Own wr w.heap.size (zs ++ List.replicate (n - k) 0) ∧ Below w.heap.size w wr) (fun _ i _ => n - (intOf i).toNat)
  case atStart => exact ⟨0, [], 0, by omega, rfl, rfl, SubInv.start xs ys, ho1, hb1⟩
  case round =>
    obtain ⟨k, zs, q, hk, rfl, rfl, hI, hO, hB⟩ := hrel
    have hrx := rdx.belowU hux hB
    have hry := rdy.belowU huy hB
    by_cases hlt : k < n
    · obtain ⟨bx, ox, rfl, hcx⟩ := hrx.cells k (by rw [HL.out]; exact hlt)
      have g1 := nth_ge xs k
      have g2 := nth_ge ys k
      have g3 := nth_le hlx k
      have g4 := nth_le hly k
      have g5 := hI.one
      have hfree := hO.free k
      have hcell := hO.cell k (by simp [hI.len]; omega)
      obtain ⟨D, hD⟩ : ∃ D, IntKind.u64.wrap (IntKind.u64.wrap (nth xs k - nth ys k) - (q : Int)) = D := ⟨_, rfl⟩
      have hv := sub_digit hlx hly hI D hD.symm
      obtain ⟨z, b', hz, hzv, hbv, hI2, d0, d1⟩ := hv
      have HI2 := Lib.hid hI2
      have HZ := Lib.hid hzv
      have HBV := Lib.hid hbv
      clear hzv hbv hI2
      go_wp2_with fail
      go_quiet ((go_at_call 47; exact quiet_eq (limbAt_any _ _ _ ys _ (hry.drewN _) HL'.out (by omega) _ k rfl)))
      go_wp2_with fail
      go_roundw
      case rel =>
        have hst := ((hO.drewN nq).store k z hz (D % 4294967296) HZ.out).1
        rw [set_next hI.len (by omega)] at hst
        exact ⟨k + 1, zs ++ [z], b', by omega, by go_num, by rw [HBV.out], HI2.out, hst, (below_drewN hB nq).setCell (p := ⟨w.heap.size, k, none⟩) (Nat.le_refl _) _⟩
      case measure => simp [intOf]; omega
    · obtain rfl : k = n := by omega
      have hdn := hI.done hlx HL.out HLE.out
      have hlen := hI.len
      rw [Nat.sub_self, List.replicate_zero, List.append_nil] at hO
      have hnew : New w zs (some ⟨w.heap.size, 0, none⟩) k wr := ⟨hB, by omega, .inr ⟨_, rfl, Nat.le_refl _, hO⟩⟩
      have hv : trimL zs = limbs (val xs - val ys) := by rw [← limbs_val hI.lim, hdn.2]
      have HN := Lib.hid hnew
      have HV := Lib.hid hv
      have HLen := Lib.hid hlen
      clear hnew hv hlen hdn hI hO hB hrx hry
      go_wp2_with fail
      refine (trim_any _ k _ zs _ HN.out.rd HLen.out (by omega)).mono ?_
      rintro e w' ⟨rfl, rfl⟩
      go_wp2_with fail
      go_ret
      refine ⟨some ⟨w.heap.size, 0, none⟩, k, by rw [← HV.out]; rfl, ?_⟩
      have := HN.out.trim
      rw [HV.out] at this
      exact this
end Go.Proofs.YtgnjjmbphangnaaDoor
