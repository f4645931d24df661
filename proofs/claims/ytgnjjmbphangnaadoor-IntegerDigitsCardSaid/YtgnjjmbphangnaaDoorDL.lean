/-
  The contract of divLong.
-/
import Derived.Test.YtgnjjmbphangnaaDoorV
import Derived.Test.YtgnjjmbphangnaaDoorJ
import Derived.Deep.RegionHeld3
import Derived.Deep.DrawnRows
namespace Go.Proofs.YtgnjjmbphangnaaDoor
open Go.RowKit

theorem shift_size {ys : List Nat} {p L s : Nat} (hy : Lim ys) (hl : ys.length = p + 2) (ht : trimL ys = ys) (hL : L = Lib.bitLen (ys.getD (p + 1) 0)) (hs : s = 32 - L) :
    1 ≤ L ∧ L ≤ 32 ∧ 4294967296 ^ (p + 1) ≤ val ys ∧ val ys * 2 ^ s < 4294967296 ^ (p + 2) ∧ (limbs (val ys * 2 ^ s)).length = p + 2 := by
  have hj := hy.getD (p + 1)
  have h0 := top_pos (by omega) ht
  rw [hl, show p + 2 - 1 = p + 1 from rfl] at h0
  have hb := Lib.bitLenAux_bounds 64 (ys.getD (p + 1) 0) (by omega) h0
  have hle := Lib.bitLen_le (ys.getD (p + 1) 0) 32 (by omega) (by omega)
  unfold Lib.bitLen at hL hle
  rw [← hL] at hb hle
  have e := val_split ys (p + 1) (by omega)
  have h1 := val_take_lt hy (p + 1)
  have h2 : val (ys.drop (p + 1)) = ys.getD (p + 1) 0 := by rw [val_drop_step ys (p + 1) (by omega), List.drop_of_length_le (by omega), val_nil]; omega
  rw [h2] at e
  have hlo : 4294967296 ^ (p + 1) ≤ val ys := by
    have : 4294967296 ^ (p + 1) * 1 ≤ 4294967296 ^ (p + 1) * ys.getD (p + 1) 0 := Nat.mul_le_mul_left _ (by omega)
    rw [Nat.mul_one] at this
    omega
  have hp : 0 < 2 ^ s := Nat.pow_pos (by omega)
  have hup : val ys * 2 ^ s < 4294967296 ^ (p + 2) := by
    have a1 : 4294967296 ^ (p + 1) * (ys.getD (p + 1) 0 + 1) ≤ 4294967296 ^ (p + 1) * 2 ^ L := Nat.mul_le_mul_left _ hb.2.2
    have a2 : val ys < 4294967296 ^ (p + 1) * 2 ^ L := by rw [Nat.mul_add, Nat.mul_one] at a1; omega
    have a3 : val ys * 2 ^ s < 4294967296 ^ (p + 1) * 2 ^ L * 2 ^ s := Nat.mul_lt_mul_of_pos_right a2 hp
    rw [Nat.mul_assoc, ← Nat.pow_add, hs, show L + (32 - L) = 32 by omega] at a3
    rw [hs, Nat.pow_succ 4294967296 (p + 1)]
    exact a3
  refine ⟨hb.1, hle, hlo, hup, ?_⟩
  have u1 := length_limbs_le hup
  by_cases h : (limbs (val ys * 2 ^ s)).length ≤ p + 1
  · have u2 := lt_of_length_limbs h
    have u3 : val ys * 1 ≤ val ys * 2 ^ s := Nat.mul_le_mul_left _ hp
    rw [Nat.mul_one] at u3
    exact absurd (Nat.lt_of_le_of_lt (Nat.le_trans hlo u3) u2) (Nat.lt_irrefl _)
  · omega

theorem win_part {us zs : List Nat} {j n : Nat} (hz : zs.length = n + 1) (h : j + n + 1 ≤ us.length) : ((win us j zs).drop j).take (n + 1) = zs := by
  unfold win
  have hl : (us.take j).length = j := by rw [List.length_take]; omega
  rw [List.append_assoc, List.drop_append_of_le_length (by omega), List.drop_of_length_le (by omega), List.nil_append, List.take_append_of_le_length (by omega), List.take_of_length_le (by omega)]
theorem win_win {us zs ys : List Nat} {j n : Nat} (hz : zs.length = n + 1) (hy : ys.length = n + 1) (h : j + n + 1 ≤ us.length) : win (win us j zs) j ys = win us j ys := by
  have hl : (us.take j).length = j := by rw [List.length_take]; omega
  have h1 : (win us j zs).take j = us.take j := by
    unfold win
    rw [List.append_assoc, List.take_append_of_le_length (by omega), List.take_of_length_le (by omega)]
  have h2 : (win us j zs).drop (j + ys.length) = us.drop (j + ys.length) := by
    unfold win
    have hl2 : (us.take j ++ zs).length = j + ys.length := by rw [List.length_append]; omega
    rw [List.drop_append_of_le_length (by omega), List.drop_of_length_le (by omega), List.nil_append, hz, hy]
  show (win us j zs).take j ++ ys ++ (win us j zs).drop (j + ys.length) = us.take j ++ ys ++ us.drop (j + ys.length)
  rw [h1, h2]

/-- The digit fits. -/
theorem LongInv.fits {U V n m j dg : Nat} {us qs zs vs : List Nat} (h : LongInv U V n m (j + 1) us qs) (hVp : 0 < V) (hV : V < 4294967296 ^ n) (hj : j + 1 ≤ m - n + 1) (hnm : n ≤ m) (hv : val vs = V)
    (hd : val ((us.drop j).take (n + 1)) / V ≤ dg ∧ dg ≤ val ((us.drop j).take (n + 1)) / V + 1) (hs : SubOut ((us.drop j).take (n + 1)) vs dg n zs false) : LongInv U V n m j (win us j zs) (dg :: qs) := by
  obtain ⟨p1, p2, p3, p4⟩ := h.part hV hj hnm
  rw [p1] at hd
  have he := hs.eq
  rw [p1, hv] at he
  have hq := Nat.div_mul_le_self (val (us.drop j)) V
  have hq' : val (us.drop j) < (val (us.drop j) / V + 1) * V := by rw [Nat.mul_comm]; exact Nat.lt_mul_div_succ _ hVp
  obtain ⟨rfl, hz⟩ := digit_fits hq hq' hd.1 hd.2 he
  have := (h.step hVp hV hj hnm hs.len hs.lim hz).2
  unfold win
  rw [hs.len]
  exact this

/-- The digit was one too great. -/
theorem LongInv.back {U V n m j dg c : Nat} {us qs zs ys vs : List Nat} (h : LongInv U V n m (j + 1) us qs) (hVp : 0 < V) (hV : V < 4294967296 ^ n) (hj : j + 1 ≤ m - n + 1) (hnm : n ≤ m) (hv : val vs = V)
    (hd : val ((us.drop j).take (n + 1)) / V ≤ dg ∧ dg ≤ val ((us.drop j).take (n + 1)) / V + 1) (hs : SubOut ((us.drop j).take (n + 1)) vs dg n zs true) (ha : AddOut zs vs n ys c) :
    1 ≤ dg ∧ LongInv U V n m j (win us j ys) ((dg - 1) :: qs) := by
  obtain ⟨p1, p2, p3, p4⟩ := h.part hV hj hnm
  rw [p1] at hd
  have he := hs.eq
  rw [p1, hv] at he
  have he2 := ha.eq
  rw [hv] at he2
  have hq := Nat.div_mul_le_self (val (us.drop j)) V
  have hq' : val (us.drop j) < (val (us.drop j) / V + 1) * V := by rw [Nat.mul_comm]; exact Nat.lt_mul_div_succ _ hVp
  obtain ⟨rfl, hz⟩ := digit_back hq hq' hd.1 hd.2 hs.small he ha.small ha.one he2
  refine ⟨Nat.succ_pos _, ?_⟩
  have := (h.step hVp hV hj hnm ha.len ha.lim hz).2
  unfold win
  rw [ha.len]
  exact this

theorem SubOut.pos {ps vs zs : List Nat} {d n : Nat} (h : SubOut ps vs d n zs true) : 1 ≤ d := by
  rcases Nat.eq_zero_or_pos d with h0 | h0
  · have e := h.eq
    have s := h.small
    rw [h0, Nat.zero_mul, if_pos rfl] at e
    omega
  · exact h0

/-- The part is below the divisor times the base. -/
theorem LongInv.below {U V n m j : Nat} {us qs : List Nat} (h : LongInv U V n m (j + 1) us qs) (hV : V < 4294967296 ^ n) (hj : j + 1 ≤ m - n + 1) (hnm : n ≤ m) : val ((us.drop j).take (n + 1)) < 4294967296 * V := by
  obtain ⟨p1, p2, p3, p4⟩ := h.part hV hj hnm
  rw [p1]; exact p3

set_option maxRecDepth 100000 in
set_option maxHeartbeats 2000000 in
theorem divLong_any : DivLong := by
  intro a b n m cap cap' xs ys w rdx rdy hl hl' hn hm hmn ht
  obtain ⟨p, rfl⟩ : ∃ p, m = p + 2 := ⟨m - 2, by omega⟩
  have hlx := rdx.lim
  have hly := rdy.lim
  have hux := rdx.under
  have huy := rdy.under
  obtain ⟨bb, bo, rfl, hcy⟩ := rdy.cells (p + 1) (by omega)
  obtain ⟨i, hi, hz0, hz1, hz2⟩ := info_parts Tryd.infoU32
  obtain ⟨L, hL⟩ : ∃ L, L = Lib.bitLen (ys.getD (p + 1) 0) := ⟨_, rfl⟩
  obtain ⟨s, hs⟩ : ∃ s, s = 32 - L := ⟨_, rfl⟩
  obtain ⟨L1, L2, hY, hV, hVl⟩ := shift_size hly hl' ht hL hs
  have hs31 : s ≤ 31 := by omega
  have hS : 32 - (L : Int) = (s : Int) := by omega
  have g1 := nth_ge ys (p + 1)
  have g2 := nth_le hly (p + 1)
  have HY := Lib.hid hY
  have HV := Lib.hid hV
  have HVL := Lib.hid hVl
  have HLL := Lib.hid hL
  have HL := Lib.hid hl
  have HL' := Lib.hid hl'
  clear hY hV hVl hL hl hl' ht hs
  go_enter Tryd.func46, Tryd.ntmps46
  go_wp2_with fail
  refine (Tryd.bits_LeadingZeros32 _ _ g1 (by omega)).mono ?_
  rintro e w' ⟨rfl, rfl⟩
  have e2 : Lib.bitLen (nth ys (p + 1)).toNat = L := HLL.out.symm
  rw [e2, hS]
  clear e2
  go_wp2_with fail
  refine (shiftLeft_any a n cap xs s _ rdx HL.out (by omega) hs31).mono ?_
  rintro e w1 ⟨us, hul, huv, ua, uc, rfl, hNu⟩
  go_wp2_with fail
  refine (shiftLeft_any _ (p + 2) cap' ys s _ (rdy.belowU huy hNu.below) HL'.out (by omega) hs31).mono ?_
  rintro e w2 ⟨vz, hvl, hvv, va, vc, rfl, hNv⟩
  have hNt := hNv.trim
  have hvs : trimL vz = limbs (val ys * 2 ^ s) := by rw [← hvv, limbs_val hNv.lim]
  have hvn : (trimL vz).length = p + 2 := by rw [hvs, HVL.out]
  have hvv2 : val (trimL vz) = val ys * 2 ^ s := by rw [val_trimL hNv.lim, hvv]
  have hvt : trimL (trimL vz) = trimL vz := by rw [hvs, trimL_limbs]
  have hrv := hNv.rd
  have hpb : p + 2 + 1 ≤ 4000000000 := by omega
  have hvz := hvl
  obtain ⟨vs, hvs2⟩ : ∃ vs, vs = trimL vz := ⟨_, rfl⟩
  rw [← hvs2] at hNt hvn hvv2 hvt
  have HVS2 := Lib.hid hvs2
  have HVZ := Lib.hid hvz
  have HVN := Lib.hid hvn
  have HVV := Lib.hid hvv2
  have HVT := Lib.hid hvt
  have HUL := Lib.hid hul
  have HUV := Lib.hid huv
  clear hNv hvl hvv hvs hvs2 hvn hvv2 hvt hvz hul huv
  go_wp2_with fail
  rw [HVZ.out]
  refine (trim_any va (p + 2 + 1) vc vz _ hrv HVZ.out hpb).mono ?_
  rintro e w3 ⟨rfl, rfl⟩
  rw [← HVS2.out, HVN.out]
  clear hrv
  obtain ⟨K, hK⟩ : ∃ K, n = K + p + 1 := ⟨n - p - 1, by omega⟩
  have hK1 : 1 ≤ K := by omega
  subst hK
  rcases hNu.own with ⟨rfl, rfl⟩ | ⟨gu, rfl, hgu, hOu⟩
  · exact absurd HUL.out (by simp)
  rcases hNt.own with ⟨rfl, rfl⟩ | ⟨gv, rfl, hgv, hOv⟩
  · exact absurd HVN.out (by simp)
  have hOu2 := hOu.below hNt.below hOu.lt
  have hbu := hNu.below
  have hbv := hNt.below
  have hB2 := hbu.trans (hbv.mono hbu.size)
  have hcu := hNu.fits
  have hcv := hNt.fits
  rw [HUL.out] at hcu
  rw [HVN.out] at hcv
  have hgu2 := hOu.lt
  clear hNu hNt hOu
  go_wp2_with (at_make; refine wpList_make_full _ rfl _ _ 23 rfl w2.heap.size 52 i (.int .u32 0) 1 Tryd.underlying23 hi hz0 hz1 _ _ _ _ K rfl rfl ?_ ?_ ?_ ?_ (Nat.le_refl _) ?_)
  · omega
  · omega
  · rw [hz2]; omega
  · unfold maxLen; omega
  intro w4 hown hgrow
  have ho1 := own_made hown
  have hb1 : Below w2.heap.size w2 w4 := (Below.refl _ _).grown hgrow (Nat.le_refl _) (by intro k hk; cases hk)
  clear hown hgrow
  go_wp2_with fail
  have hOv3 := hOv.below hb1 hOv.lt
  have hOu3 := hOu2.below hb1 hOu2.lt
  have hB3 := hB2.trans (hb1.mono hB2.size)
  have hgv2 := hOv.lt
  have hg0 := hB2.size
  clear hOv hOu2 hb1 hB2 hbv hbu
  obtain ⟨g, hg⟩ : ∃ g, g = w2.heap.size := ⟨_, rfl⟩
  rw [← hg] at ho1 hgv2 hg0 ⊢
  have hV0 : 0 < val ys * 2 ^ s := by
    have h1 := HY.out
    have h2 := pow_pos (p + 1)
    exact Nat.mul_pos (by omega) (Nat.pow_pos (by omega))
  have HV0 := Lib.hid hV0
  have hstart : LongInv (val xs * 2 ^ s) (val ys * 2 ^ s) (p + 2) (K + p + 1) K us [] := by
    have h := LongInv.start (X := val xs) (Y := val ys) (s := s) (n := p + 2) (m := K + p + 1) HUL.out hOu3.lim HUV.out (by omega) (by omega) (by have := val_lt hlx; rw [HL.out] at this; exact this) HY.out
    rw [show K + p + 1 - (p + 2) + 1 = K by omega] at h
    exact h
  have HST := Lib.hid hstart
  clear hg hV0 hstart hcy huy hux rdx rdy
  go_loopw [11] (fun i wr => ∃ (k : Nat) (zs qs : List Nat), k ≤ K ∧ i = .int .i64 ((k : Int) - 1) ∧ Hid (LongInv (val xs * 2 ^ s) (val ys * 2 ^ s) (p + 2) (K + p + 1) k zs qs) ∧ Own wr gu zs ∧ Own wr gv vs ∧ Own wr g ((List.replicate K 0).take k ++ qs) ∧ Below w'.heap.size w' wr) (fun i _ => (intOf i + 1).toNat)
  case atStart => exact ⟨K, us, [], by omega, rfl, HST, hOu3, hOv3, by rw [List.take_of_length_le (by simp), List.append_nil]; exact ho1, hB3⟩
  case round =>
    obtain ⟨k, zs, qs, hk, rfl, hI, hOz, hOv, hOq, hB⟩ := hrel
    clear hOu3 hOv3 ho1 hB3 HST HUL HUV
    by_cases h0 : 0 < k
    · obtain ⟨j, rfl⟩ : ∃ j, k = j + 1 := ⟨k - 1, by omega⟩
      have ej : ((j + 1 : Nat) : Int) - 1 = (j : Int) := by omega
      rw [ej]
      clear ej
      go_wp2_with fail
      rw [show j + (p + 2) + 1 - j = p + 3 by omega]
      have hzl : j + (p + 2) + 1 ≤ zs.length := by have := hI.out.ulen; omega
      have hne : gv ≠ gu := by omega
      have hlt := hI.out.below HV.out (by omega) (by omega)
      have hlead : 0 < vs.getD (p + 1) 0 := by
        have h := top_pos (by rw [HVN.out]; omega) HVT.out
        rw [HVN.out] at h
        exact Nat.pos_of_ne_zero h
      rw [← HVV.out] at hlt
      have HZL := Lib.hid hzl
      have HLT := Lib.hid hlt
      have HLD := Lib.hid hlead
      clear hzl hlt hlead
      refine (estimate_any gu j p _ gv _ zs vs _ hOz hOv HVN.out (by omega) (by omega) HZL.out HLD.out HLT.out).mono ?_
      rintro e w5 ⟨dg, rfl, hD, hd1, N, rfl⟩
      go_wp2_with fail
      refine (subtractTimes_any gu j (p + 2) _ gv _ dg zs vs _ (hOz.drewN N) (hOv.drewN N) hne HVN.out (by omega) HZL.out hd1 hcv).mono ?_
      rintro e w6 ⟨z1, b, rfl, hS1, hO1, hG1, hsz1⟩
      have hOv1 := (hOv.drewN N).kept hG1 (by intro e; cases e; exact hne rfl)
      have hOq1 := (hOq.drewN N).kept hG1 (by intro e; cases e; omega)
      have hB1 : Below w'.heap.size w' w6 := (below_drewN hB N).grown hG1 (below_drewN hB N).size (by intro k hk; cases hk; omega)
      have HS1 := Lib.hid hS1
      have HN := Lib.hid hne
      have HD : Hid (val ((zs.drop j).take (p + 2 + 1)) / (val ys * 2 ^ s) ≤ dg ∧ dg ≤ val ((zs.drop j).take (p + 2 + 1)) / (val ys * 2 ^ s) + 1) := by rw [← HVV.out]; exact hD
      clear hOz hOv hOq hG1 hB hS1 hne hD
      have hjr : j < (List.replicate K 0).length := by simp; omega
      have hcell := hOq1.cell j (by rw [List.length_append, List.length_take, List.length_replicate]; omega)
      have hfree := hOq1.free j
      have HJR := Lib.hid hjr
      clear hjr
      cases b
      · have hnx := hI.out.fits HV0.out HV.out (by omega) (by omega) HVV.out HD.out HS1.out
        have HNX := Lib.hid hnx
        clear hnx
        go_wp2_with fail
        go_roundw
        case rel =>
          obtain ⟨hst, hg2⟩ := hOq1.store j dg (by omega) _ rfl
          rw [take_set_prev HJR.out] at hst
          exact ⟨j, _, _, by omega, rfl, HNX, hO1.kept hg2 (by intro e; cases e; omega), hOv1.kept hg2 (by intro e; cases e; omega), hst, hB1.grown hg2 hB1.size (by intro k hk; cases hk; omega)⟩
        case measure => simp [intOf]
      · have hd2 := HS1.out.pos
        go_wp2_with fail
        refine (addBack_any gu j (p + 2) _ gv _ _ vs _ hO1 hOv1 HN.out HVN.out (by omega) (by rw [win_len (by rw [HS1.out.len]; exact HZL.out)]; exact HZL.out) hcv).mono ?_
        rintro e w7 ⟨z2, c, rfl, hA, hO2, hG2, hsz2⟩
        rw [win_part HS1.out.len HZL.out] at hA
        rw [win_win HS1.out.len hA.len HZL.out] at hO2
        obtain ⟨_, hnx⟩ := hI.out.back HV0.out HV.out (by omega) (by omega) HVV.out HD.out HS1.out hA
        have hOv2 := hOv1.kept hG2 (by intro e; cases e; exact HN.out rfl)
        have hOq2 := hOq1.kept hG2 (by intro e; cases e; omega)
        have hB2 : Below w'.heap.size w' w7 := hB1.grown hG2 hB1.size (by intro k hk; cases hk; omega)
        have HNX := Lib.hid hnx
        have hcell2 := hOq2.cell j (by have := HJR.out; rw [List.length_append, List.length_take]; omega)
        have hfree2 := hOq2.free j
        clear hnx hcell hfree hA hG2 hO1 hOv1 hOq1 hB1
        go_wp2_with fail
        go_roundw
        case rel =>
          obtain ⟨hst, hg2⟩ := hOq2.store j (dg - 1) (by omega) ((dg : Int) - 1) (by omega)
          rw [take_set_prev HJR.out] at hst
          exact ⟨j, _, _, by omega, rfl, HNX, hO2.kept hg2 (by intro e; cases e; omega), hOv2.kept hg2 (by intro e; cases e; omega), hst, hB2.grown hg2 hB2.size (by intro k hk; cases hk; omega)⟩
        case measure => simp [intOf]
    · obtain rfl : k = 0 := by omega
      obtain ⟨hd1, hd2⟩ := hI.out.done HV.out (by omega)
      have hql := hI.out.qlen
      have hzl := hI.out.ulen
      rw [Nat.add_zero, show K + p + 1 - (p + 2) + 1 = K by omega] at hql
      rw [List.take_zero, List.nil_append] at hOq
      have hrq : Rd wr (some ⟨g, 0, none⟩) K qs := hOq.rd (by omega)
      have hul : (zs.take (p + 2)).length = p + 2 := by rw [List.length_take]; omega
      have hru : Rd wr (some ⟨gu, 0, none⟩) uc (zs.take (p + 2)) := (hOz.take (p + 2)).rd (by omega)
      have e1 : trimL qs = limbs (val xs / val ys) := by rw [← limbs_val hOq.lim, hd1]
      have e2 : trimL (shrL s (zs.take (p + 2))) = limbs (val xs % val ys) := by
        rw [← limbs_val (Lim_shrL _ _), val_shrL (hOz.lim.take _) s (by omega), hd2, Nat.mul_div_cancel _ (Nat.pow_pos (by omega))]
      have hsl : (0 : Int) ≤ (p : Int) + 2 ∧ (p : Int) + 2 ≤ (uc : Int) := by omega
      have hNq : New w' qs (some ⟨g, 0, none⟩) K wr := ⟨hB, by omega, .inr ⟨g, rfl, hg0, hOq⟩⟩
      have E1 := Lib.hid e1
      have E2 := Lib.hid e2
      have HQL := Lib.hid hql
      have HUL2 := Lib.hid hul
      clear e1 e2 hql hul hd1 hd2 hzl hI hOz hOv hOq
      go_wp2_with fail
      go_region_held3 (fun w'' => Below wr.heap.size wr w'')
        (first | exact (Below.refl _ _).drew | assumption | exact Below.trans (by assumption) (hN8.below.mono (Below.size (by assumption))))
        ((first
          | (go_at_call 49; refine (shiftRight_any (some ⟨gu, 0, none⟩) (p + 2) uc (zs.take (p + 2)) s _ (hru.below (by assumption)) HUL2.out (by omega) hs31).mono ?_; rintro e w8 ⟨a8, c8, rfl, hN8⟩)
          | (go_at_call 19; with_reducible refine (trim_any (some ⟨g, 0, none⟩) K K qs _ (hrq.below (by assumption)) HQL.out (by omega)).mono ?_; rintro e w7 ⟨rfl, rfl⟩)
          | (go_at_call 19; refine (trim_any a8 _ c8 (shrL s (zs.take (p + 2))) _ hN8.rd rfl (by rw [length_shrL, HUL2.out]; omega)).mono ?_; rintro e w9 ⟨rfl, rfl⟩)))
      all_goals
        have hb8 : Below wr.heap.size wr w8 := by assumption
        have n1 := (hNq.after hb8).trim
        have n2 := (hN8.before hB.drew).trim
        rw [E1.out] at n1
        rw [E2.out] at n2
        have N1 := Lib.hid n1
        have N2 := Lib.hid n2
        clear n1 n2 hN8 hNq
        go_wp2_with fail
        go_ret2
        exact ⟨some ⟨g, 0, none⟩, K, a8, c8, by rw [← E1.out, ← E2.out]; rfl, N1.out, N2.out⟩
end Go.Proofs.YtgnjjmbphangnaaDoor
