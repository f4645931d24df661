/-
  The contract of estimate.
-/
import Derived.Test.YtgnjjmbphangnaaDoorU
namespace Go.Proofs.YtgnjjmbphangnaaDoor
open Go.RowKit

/-- The highest limbs of the part and of the divisor. -/
structure EstIn (P V W top lead next third : Nat) : Prop where
  v0 : (lead * 4294967296 + next) * W ≤ V
  v1 : V < (lead * 4294967296 + next + 1) * W
  p0 : (top * 4294967296 + third) * W ≤ P
  p1 : P < (top * 4294967296 + third + 1) * W
  lt : P < 4294967296 * V
  lead : 0 < lead
  next : next < 4294967296
  third : third < 4294967296

theorem est_split {L M W A : Nat} (h : A < W) (e : L = A + W * M) : M * W ≤ L ∧ L < (M + 1) * W := by
  rw [Nat.add_mul, Nat.mul_comm M W]; omega

theorem val_two (xs : List Nat) (m : Nat) (hl : xs.length = m + 2) : val (xs.drop m) = xs.getD (m + 1) 0 * 4294967296 + xs.getD m 0 := by
  rw [val_drop_step xs m (by omega), val_drop_step xs (m + 1) (by omega), List.drop_of_length_le (by omega), val_nil]; omega
theorem val_three (xs : List Nat) (m : Nat) (hl : xs.length = m + 3) : val (xs.drop m) = (xs.getD (m + 2) 0 * 4294967296 + xs.getD (m + 1) 0) * 4294967296 + xs.getD m 0 := by
  rw [val_drop_step xs m (by omega), val_drop_step xs (m + 1) (by omega), val_drop_step xs (m + 2) (by omega), List.drop_of_length_le (by omega), val_nil]; omega

theorem est_in {ps vs : List Nat} {m : Nat} (hp : Lim ps) (hv : Lim vs) (hpl : ps.length = m + 3) (hvl : vs.length = m + 2) (h0 : 0 < vs.getD (m + 1) 0) (hlt : val ps < 4294967296 * val vs) :
    EstIn (val ps) (val vs) (4294967296 ^ m) (ps.getD (m + 2) 0 * 4294967296 + ps.getD (m + 1) 0) (vs.getD (m + 1) 0) (vs.getD m 0) (ps.getD m 0) := by
  have e1 := val_split vs m (by omega)
  have e2 := val_split ps m (by omega)
  have l1 := val_take_lt hv m
  have l2 := val_take_lt hp m
  rw [val_two vs m hvl] at e1
  rw [val_three ps m hpl] at e2
  obtain ⟨a1, a2⟩ := est_split l1 e1
  obtain ⟨b1, b2⟩ := est_split l2 e2
  exact ⟨a1, a2, b1, b2, hlt, h0, hv.getD _, hp.getD _⟩

theorem EstIn.top {P V W top lead next third : Nat} (h : EstIn P V W top lead next third) : top < (lead + 1) * 4294967296 := by
  have h1 := h.v1
  have h2 := h.p0
  have h3 := h.lt
  have h4 := h.next
  have h5 : (top * 4294967296 + third) * W < 4294967296 * (lead * 4294967296 + next + 1) * W := by
    have : 4294967296 * V ≤ 4294967296 * ((lead * 4294967296 + next + 1) * W) := Nat.mul_le_mul_left _ (Nat.le_of_lt h1)
    rw [← Nat.mul_assoc] at this
    omega
  have h6 := Nat.lt_of_mul_lt_mul_right h5
  omega
theorem EstIn.q {P V W top lead next third : Nat} (h : EstIn P V W top lead next third) : 0 < V ∧ P / V * V ≤ P ∧ P < (P / V + 1) * V ∧ P / V < 4294967296 := by
  have h3 := h.lt
  have hV : 0 < V := by omega
  refine ⟨hV, Nat.div_mul_le_self _ _, ?_, ?_⟩
  · rw [Nat.mul_comm]; exact Nat.lt_mul_div_succ P hV
  · rw [Nat.div_lt_iff_lt_mul hV]; exact h3

/-- The loop of the estimate: what is known of the digit and of the rest. -/
structure EstAt (P V W top lead next third dg r : Nat) : Prop where
  ins : EstIn P V W top lead next third
  inv : EstInv top lead (P / V) dg r

theorem EstIn.start {P V W top lead next third : Nat} (h : EstIn P V W top lead next third) : EstAt P V W top lead next third (top / lead) (top % lead) := by
  refine ⟨h, est_start top lead _ ?_ h.lead⟩
  obtain ⟨hV, h1, h2, h3⟩ := h.q
  have h4 : P / V * (lead * 4294967296 + next) * W < (top * 4294967296 + third + 1) * W := by
    have : P / V * ((lead * 4294967296 + next) * W) ≤ P / V * V := Nat.mul_le_mul_left _ h.v0
    rw [← Nat.mul_assoc] at this
    have := h.p1
    omega
  have h5 := Nat.lt_of_mul_lt_mul_right h4
  have h6 := h.third
  have h7 : P / V * lead * 4294967296 ≤ P / V * (lead * 4294967296 + next) := by rw [Nat.mul_assoc]; exact Nat.mul_le_mul_left _ (by omega)
  generalize P / V * lead = A at *
  omega

theorem EstAt.big {P V W top lead next third dg r : Nat} (h : EstAt P V W top lead next third dg r) (hb : 4294967296 ≤ dg) : EstAt P V W top lead next third (dg - 1) (r + lead) :=
  ⟨h.ins, est_next h.inv (Nat.lt_of_lt_of_le h.ins.q.2.2.2 hb)⟩
theorem EstAt.greater {P V W top lead next third dg r : Nat} (h : EstAt P V W top lead next third dg r) (ht : r * 4294967296 + third < dg * next) : EstAt P V W top lead next third (dg - 1) (r + lead) ∧ 1 ≤ dg := by
  have := est_greater h.inv h.ins.v0 h.ins.p1 h.ins.q.2.1 ht
  exact ⟨⟨h.ins, est_next h.inv this⟩, Nat.lt_of_le_of_lt (Nat.zero_le _) this⟩
theorem EstAt.done {P V W top lead next third dg r : Nat} (h : EstAt P V W top lead next third dg r) (hx : 4294967296 ≤ r ∨ dg < 4294967296 ∧ dg * next ≤ r * 4294967296 + third) :
    dg < 4294967296 ∧ P / V ≤ dg ∧ dg ≤ P / V + 1 := by
  obtain ⟨h1, h2⟩ := est_done h.inv h.ins.next h.ins.lead h.ins.top h.ins.v1 h.ins.p0 h.ins.q.2.2.1 hx
  exact ⟨h1, h.inv.ge, h2⟩

def GivesEst (w : World) (q : Nat) (e : Ending) (w' : World) : Prop := ∃ dg : Nat, e = .returned (.int .u32 (dg : Int)) ∧ Hid (q ≤ dg ∧ dg ≤ q + 1) ∧ dg ≤ 4294967295 ∧ ∃ k, w' = w.drewN k

theorem nth_nat (xs : List Nat) (k v : Nat) (h : xs.getD k 0 = v) : nth xs k = (v : Int) := by unfold nth; rw [h]

set_option maxRecDepth 100000 in
set_option maxHeartbeats 2000000 in
theorem estimate_any (g j m cap h cap' : Nat) (us vs : List Nat) (w : World) (hO0 : Own w g us) (hO1 : Own w h vs) (hl : vs.length = m + 2) (hm : m ≤ 1000000000) (_hjb : j ≤ 1000000000) (hj : j + (m + 2) + 1 ≤ us.length)
    (hlead : 0 < vs.getD (m + 1) 0) (hlt : val ((us.drop j).take (m + 3)) < 4294967296 * val vs) :
    Calls Tryd.prog 62 #[.slice (some ⟨g, j, none⟩) (m + 3) cap, .slice (some ⟨h, 0, none⟩) (m + 2) cap'] w (GivesEst w (val ((us.drop j).take (m + 3)) / val vs)) := by
  have hlv := hO1.lim
  have hlu := hO0.lim
  obtain ⟨ps, hps⟩ : ∃ ps, ps = (us.drop j).take (m + 3) := ⟨_, rfl⟩
  have hlp : Lim ps := by rw [hps]; exact (hlu.drop j).take _
  have hpn : ∀ k, k ≤ m + 2 → ps.getD k 0 = us.getD (j + k) 0 := fun k hk => by rw [hps, part_nth us j (m + 2) k hk]
  have hpl : ps.length = m + 3 := by rw [hps, List.length_take, List.length_drop]; omega
  rw [← hps] at hlt ⊢
  have hin := (est_in hlp hlv hpl hl hlead hlt).start
  have c1 := hO1.cell (m + 1) (by omega)
  have c2 := hO1.cell m (by omega)
  have c3 := hO0.cell (j + (m + 2)) (by omega)
  have c4 := hO0.cell (j + (m + 1)) (by omega)
  have c5 := hO0.cell (j + m) (by omega)
  have b1 := hlv.getD (m + 1)
  have b2 := hlv.getD m
  have b3 := hlp.getD (m + 2)
  have b4 := hlp.getD (m + 1)
  have b5 := hlp.getD m
  obtain ⟨lead, elead⟩ : ∃ v, vs.getD (m + 1) 0 = v := ⟨_, rfl⟩
  obtain ⟨next, enext⟩ : ∃ v, vs.getD m 0 = v := ⟨_, rfl⟩
  obtain ⟨p2, e2⟩ : ∃ v, ps.getD (m + 2) 0 = v := ⟨_, rfl⟩
  obtain ⟨p1, e1⟩ : ∃ v, ps.getD (m + 1) 0 = v := ⟨_, rfl⟩
  obtain ⟨third, e0⟩ : ∃ v, ps.getD m 0 = v := ⟨_, rfl⟩
  rw [nth_nat _ _ _ elead] at c1
  rw [nth_nat _ _ _ enext] at c2
  rw [nth_nat _ _ _ ((hpn (m + 2) (by omega)).symm.trans e2)] at c3
  rw [nth_nat _ _ _ ((hpn (m + 1) (by omega)).symm.trans e1)] at c4
  rw [nth_nat _ _ _ ((hpn m (by omega)).symm.trans e0)] at c5
  rw [elead] at hlead b1 hin
  rw [enext] at b2 hin
  rw [e2] at b3 hin
  rw [e1] at b4 hin
  rw [e0] at b5 hin
  have HT : bits .or .u64 ((p2 : Int) * 4294967296) (p1 : Int) = ((p2 * 4294967296 + p1 : Nat) : Int) := by
    rw [or_high _ _ (by omega) (by omega) (by omega) (by omega)]; omega
  have ht : p2 * 4294967296 + p1 ≤ 18446744073709551615 := by omega
  generalize p2 * 4294967296 + p1 = top at *
  obtain ⟨q0, hq0⟩ : ∃ q0, q0 = top / lead := ⟨_, rfl⟩
  obtain ⟨r0, hr0⟩ : ∃ r0, r0 = top % lead := ⟨_, rfl⟩
  have hQ : (top : Int) / (lead : Int) = (q0 : Int) := by rw [hq0]; exact (Int.natCast_ediv _ _).symm
  have hR : (top : Int) % (lead : Int) = (r0 : Int) := by rw [hr0]; exact (Int.natCast_emod _ _).symm
  have hq1 : q0 ≤ 18446744073709551615 := by rw [hq0]; exact Nat.le_trans (Nat.div_le_self _ _) ht
  have hr1 : r0 ≤ 4294967295 := by rw [hr0]; have := Nat.mod_lt top hlead; omega
  rw [← hq0, ← hr0] at hin
  have l1 : lead ≤ 4294967295 := by omega
  have l2 : 1 ≤ lead := by omega
  have l3 : next ≤ 4294967295 := by omega
  have l4 : third ≤ 4294967295 := by omega
  have l5 : p2 ≤ 4294967295 := by omega
  have l6 : p1 ≤ 4294967295 := by omega
  obtain ⟨P, hP⟩ : ∃ P, P = val ps := ⟨_, rfl⟩
  obtain ⟨V, hV⟩ : ∃ V, V = val vs := ⟨_, rfl⟩
  obtain ⟨B, hB⟩ : ∃ B, B = 4294967296 ^ m := ⟨_, rfl⟩
  rw [← hP, ← hV]
  rw [← hP, ← hV, ← hB] at hin
  clear hq0 hr0 hP hV hB b1 b2 b3 b4 b5 elead enext e0 e1 e2 hpn hps hlp hpl hlead hlt hlv hlu hO0 hO1 hl hj
  go_enter Tryd.func62, Tryd.ntmps62
  go_wp2_with fail
  go_quiet (fail)
  go_wp2_with fail
  go_quiet (fail)
  go_wp2_with fail
  go_quiet (fail)
  go_wp2_with fail
  rw [World.drewN_drewN, World.drewN_drewN]
  go_loopw [9, 10] (fun dd rr wr => ∃ (dg r : Nat), dd = .int .u64 dg ∧ rr = .int .u64 r ∧ Hid (EstAt P V B top lead next third dg r) ∧ dg ≤ 18446744073709551615 ∧ r ≤ 8589934591 ∧ ∃ N, wr = w.drewN N) (fun d _ _ => (intOf d).toNat)
  case atStart => exact ⟨q0, r0, rfl, by rw [hR], hin, hq1, by omega, _, rfl⟩
  case round =>
    obtain ⟨dg, r, rfl, rfl, hE, hd, hr, N, rfl⟩ := hrel
    by_cases h1 : 4294967296 ≤ r
    · have hb : ((r : Int) / 4294967296 == 0) = false := by simp; omega
      have hfin := hE.out.done (.inl h1)
      have HF := Lib.hid hfin
      have hd2 : dg ≤ 4294967295 := by omega
      clear hfin
      go_wp2_with fail
      go_ret
      exact ⟨dg, rfl, HF.out.2, hd2, _, rfl⟩
    · have hb : ((r : Int) / 4294967296 == 0) = true := by simp; omega
      by_cases h2 : 4294967296 ≤ dg
      · have hb2 : decide (0 < (dg : Int) / 4294967296) = true := by simp; omega
        have hn := hE.out.big h2
        have HN := Lib.hid hn
        clear hn
        go_wp2_with fail
        go_roundw
        case rel => exact ⟨dg - 1, r + lead, by go_num, by go_num, HN.out, by omega, by omega, N, rfl⟩
        case measure => simp [intOf]; omega
      · have hb2 : decide (0 < (dg : Int) / 4294967296) = false := by simp; omega
        obtain ⟨M, hM⟩ : ∃ M, M = dg * next := ⟨_, rfl⟩
        have hM1 : (dg : Int) * (next : Int) = (M : Int) := by rw [hM]; simp
        have hM2 : M ≤ 18446744065119617025 := by rw [hM]; exact Nat.mul_le_mul (show dg ≤ 4294967295 by omega) l3
        have hS : bits .or .u64 ((r : Int) * 4294967296) (third : Int) = ((r * 4294967296 + third : Nat) : Int) := by
          rw [or_high _ _ (by omega) (by omega) (by omega) (by omega)]; omega
        obtain ⟨S, hSS⟩ : ∃ S, S = r * 4294967296 + third := ⟨_, rfl⟩
        rw [← hSS] at hS
        have hS2 : S ≤ 18446744073709551615 := by omega
        by_cases h3 : S < M
        · have hb3 : decide ((S : Int) < (M : Int)) = true := by simp; omega
          obtain ⟨hn, hd1⟩ := hE.out.greater (by rw [← hM, ← hSS]; exact h3)
          have HN := Lib.hid hn
          clear hn hM hSS
          go_wp2_with fail
          go_roundw
          case rel => exact ⟨dg - 1, r + lead, by go_num, by go_num, HN.out, by omega, by omega, N, rfl⟩
          case measure => simp [intOf]; omega
        · have hb3 : decide ((S : Int) < (M : Int)) = false := by simp; omega
          have hfin := hE.out.done (.inr ⟨by omega, by rw [← hM, ← hSS]; omega⟩)
          have HF := Lib.hid hfin
          have hd2 : dg ≤ 4294967295 := by omega
          clear hfin hM hSS
          go_wp2_with fail
          go_ret
          exact ⟨dg, rfl, HF.out.2, hd2, _, rfl⟩
end Go.Proofs.YtgnjjmbphangnaaDoor
