/-
  The contracts of addLimbs and subLimbs.
-/
import Derived.Test.YtgnjjmbphangnaaDoorD
namespace Go.Proofs.YtgnjjmbphangnaaDoor
open Go.RowKit

/-- What 'make([]uint32, n)' leaves. -/
theorem own_made {w w1 : World} {n : Nat} (h : w1.ownsRow w.heap.size 52 1 (.slice (some ⟨w.heap.size, 0, none⟩) n n) n (madeCells #[Value.int .u32 0] n).toList) : Own w1 w.heap.size (List.replicate n 0) := by
  rw [madeU32] at h
  exact Own.of_ownsRow (Lim.replicate _ _ (by omega)) (by simp) h

theorem replicate_tail (n : Nat) (h : 0 < n) : List.replicate n 0 = 0 :: List.replicate (n - 1) 0 := by
  obtain ⟨k, rfl⟩ : ∃ k, n = k + 1 := ⟨n - 1, by omega⟩
  rfl

/-- The next element of a row that is filled from its head. -/
theorem set_next {zs : List Nat} {k n v : Nat} (hl : zs.length = k) (h : k < n) : (zs ++ List.replicate (n - k) 0).set k v = (zs ++ [v]) ++ List.replicate (n - (k + 1)) 0 := by
  rw [replicate_tail (n - k) (by omega), List.set_append_right _ _ (by omega), hl, Nat.sub_self, List.set_cons_zero, List.append_assoc]
  simp only [List.singleton_append, Nat.sub_sub]

set_option maxRecDepth 100000 in
set_option maxHeartbeats 1000000 in
theorem addLimbs_any (a b : Option Addr) (n m cap cap' : Nat) (xs ys : List Nat) (w : World) (rdx : Rd w a cap xs) (rdy : Rd w b cap' ys) (hl : xs.length = n) (hl' : ys.length = m) (hn : n ≤ 1000000000) (hm : m ≤ 1000000000) :
    Calls Tryd.prog 30 #[.slice a n cap, .slice b m cap'] w (GivesNew w (limbs (val xs + val ys))) := by
  obtain ⟨i, hi, hz0, hz1, hz2⟩ := info_parts Tryd.infoU32
  have hlx := rdx.lim
  have hly := rdy.lim
  have hux := rdx.under
  have huy := rdy.under
  have HL := Lib.hid hl
  have HL' := Lib.hid hl'
  clear hl hl'
  go_enter Tryd.func30, Tryd.ntmps30
  go_wp2_with (at_make; refine wpList_make_full _ rfl _ _ 23 rfl w.heap.size 52 i (.int .u32 0) 1 Tryd.underlying23 hi hz0 hz1 _ _ _ _ (max n m + 1) rfl rfl ?_ ?_ ?_ ?_ (Nat.le_refl _) ?_)
  all_goals try (omega)
  all_goals try (rw [hz2]; omega)
  all_goals try (unfold maxLen; omega)
  all_goals
    intro w1 hown hgrow
    have ho1 := own_made hown
    have hb1 : Below w.heap.size w w1 := (Below.refl _ _).grown hgrow (Nat.le_refl _) (by intro k hk; cases hk)
    clear hown hgrow
    go_wp2_with fail
    have hsn : n ≤ max n m := by omega
    have hsm : m ≤ max n m := by omega
    first | have hs3 : max n m ≤ m := by omega | have hs3 : max n m ≤ n := by omega
    generalize max n m = s at *
    go_loopw [7, 19] (fun c i wr => ∃ (k : Nat) (zs : List Nat) (q : Nat), k ≤ s ∧ i = .int .i64 k ∧ c = .int .u64 q ∧ AddInv xs ys k zs q ∧ Own wr w.heap.size (zs ++ List.replicate (s + 1 - k) 0) ∧ Below w.heap.size w wr) (fun _ i _ => s - (intOf i).toNat)
    case atStart => exact ⟨0, [], 0, by omega, rfl, rfl, AddInv.start xs ys, ho1, hb1⟩
    case round =>
      obtain ⟨k, zs, q, hk, rfl, rfl, hI, hO, hB⟩ := hrel
      have hrx := rdx.belowU hux hB
      have hry := rdy.belowU huy hB
      by_cases hlt : k < s
      · have g1 := nth_ge xs k
        have g2 := nth_ge ys k
        have g3 := nth_le hlx k
        have g4 := nth_le hly k
        have g5 := hI.one
        have hst := hI.step hlx hly
        have hfree := hO.free k
        have hcell := hO.cell k (by simp [hI.len]; omega)
        have hstore := hO.store k ((xs.getD k 0 + ys.getD k 0 + q) % 4294967296) (by omega) ((nth xs k + nth ys k + (q : Int)) % 4294967296) (by unfold nth; omega)
        rw [set_next hI.len (by omega)] at hstore
        obtain ⟨hO2, hG2⟩ := hstore
        have hq2 : (nth xs k + nth ys k + (q : Int)) / 4294967296 = (((xs.getD k 0 + ys.getD k 0 + q) / 4294967296 : Nat) : Int) := by unfold nth; omega
        have HQ := Lib.hid hq2
        clear hq2
        have hB2 := hB.setCell (p := ⟨w.heap.size, k, none⟩) (Nat.le_refl _) (.int .u32 ((nth xs k + nth ys k + (q : Int)) % 4294967296))
        have HB2 := Lib.hid hB2
        have HO2 := Lib.hid hO2
        have HST := Lib.hid hst
        clear hB2 hO2 hst hG2 hI hO hB
        go_wp2_with fail
        refine (limbAt_any _ _ _ xs _ hrx HL.out (by omega) _ k rfl).mono ?_
        rintro e w' ⟨rfl, rfl⟩
        go_wp2_with fail
        refine (limbAt_any _ _ _ ys _ hry HL'.out (by omega) _ k rfl).mono ?_
        rintro e w' ⟨rfl, rfl⟩
        go_wp2_with fail
        go_roundw
        case rel => exact ⟨k + 1, _, _, by omega, by go_num, by rw [HQ.out], HST.out, HO2.out, HB2.out⟩
        case measure => simp [intOf]; omega
      · obtain rfl : k = s := by omega
        first | (have e : k = m := (by omega); subst e) | (have e : k = n := (by omega); subst e)
        have hdn := hI.done (by rw [HL.out]; omega) (by rw [HL'.out]; omega)
        have g5 := hI.one
        have hlen := hI.len
        have hfree := hO.free k
        have hcell := hO.cell k (by simp [hI.len])
        have hstore := hO.store k q (by omega) (q : Int) rfl
        rw [set_next hI.len (by omega), show k + 1 - (k + 1) = 0 by omega] at hstore
        simp only [List.replicate_zero, List.append_nil] at hstore
        have hnew : New w (zs ++ [q]) (some ⟨w.heap.size, 0, none⟩) (k + 1) (wr.setCell ⟨w.heap.size, k, none⟩ (.int .u32 q)) :=
          ⟨hB.setCell (p := ⟨w.heap.size, k, none⟩) (Nat.le_refl _) _, by simp [hlen], .inr ⟨_, rfl, Nat.le_refl _, hstore.1⟩⟩
        have hv : trimL (zs ++ [q]) = limbs (val xs + val ys) := by rw [← limbs_val hdn.1, hdn.2]
        have HN := Lib.hid hnew
        have HV := Lib.hid hv
        have HLen := Lib.hid hlen
        clear hnew hv hlen hstore hdn hI hO hB hrx hry
        go_wp2_with fail
        refine (trim_any _ (k + 1) _ (zs ++ [q]) _ HN.out.rd (by simp [HLen.out]) (by omega)).mono ?_
        rintro e w' ⟨rfl, rfl⟩
        go_wp2_with fail
        go_ret
        refine ⟨some ⟨w.heap.size, 0, none⟩, k + 1, by rw [← HV.out]; rfl, ?_⟩
        have := HN.out.trim
        rw [HV.out] at this
        exact this
end Go.Proofs.YtgnjjmbphangnaaDoor
