/-
  The contracts of subtractTimes and addBack, which change a window of a row in place.
-/
import Derived.Test.YtgnjjmbphangnaaDoorI
namespace Go.Proofs.YtgnjjmbphangnaaDoor
open Go.RowKit

/-- A row whose window from j on begins with zs. -/
def win (us : List Nat) (j : Nat) (zs : List Nat) : List Nat := us.take j ++ zs ++ us.drop (j + zs.length)

theorem win_nil (us : List Nat) (j : Nat) : win us j [] = us := by simp [win]
theorem win_len {us zs : List Nat} {j : Nat} (h : j + zs.length ≤ us.length) : (win us j zs).length = us.length := by
  unfold win; rw [List.length_append, List.length_append, List.length_take, List.length_drop]; omega
theorem win_nth {us zs : List Nat} {j k : Nat} (hk : zs.length = k) (h : j + k < us.length) : nth (win us j zs) (j + k) = nth us (j + k) := by
  subst hk
  unfold nth win
  simp only [List.getD_eq_getElem?_getD]
  have hl : (us.take j ++ zs).length = j + zs.length := by rw [List.length_append, List.length_take]; omega
  rw [List.getElem?_append_right (by omega), hl, Nat.sub_self, List.getElem?_drop, Nat.add_zero]
theorem win_set {us zs : List Nat} {j k v : Nat} (hk : zs.length = k) (h : j + k < us.length) : (win us j zs).set (j + k) v = win us j (zs ++ [v]) := by
  subst hk
  unfold win
  have hl : (us.take j ++ zs).length = j + zs.length := by rw [List.length_append, List.length_take]; omega
  rw [List.set_append_right _ _ (by omega), hl, Nat.sub_self, List.drop_eq_getElem_cons h, List.set_cons_zero, List.length_append, List.length_singleton, ← Nat.add_assoc]
  simp
theorem part_nth (us : List Nat) (j n k : Nat) (hk : k ≤ n) : ((us.drop j).take (n + 1)).getD k 0 = us.getD (j + k) 0 := by
  simp only [List.getD_eq_getElem?_getD]
  rw [List.getElem?_take, if_pos (by omega), List.getElem?_drop]

/-- What subtractTimes has done. -/
structure SubOut (ps vs : List Nat) (d n : Nat) (zs : List Nat) (b : Bool) : Prop where
  len : zs.length = n + 1
  lim : Lim zs
  small : val zs < 4294967296 ^ (n + 1)
  eq : val zs + d * val vs = val ps + 4294967296 ^ (n + 1) * (if b then 1 else 0)

/-- One digit, as the machine computes it. -/
theorem subt_digit {ps vs zs : List Nat} {d k c b : Nat} (hp : Lim ps) (hv : Lim vs) (hd : d < 4294967296) (h : SubtInv ps vs d k zs c b) :
    ∃ P : Int, (d : Int) * nth vs k = P ∧ 0 ≤ P ∧ P ≤ 18446744065119617025 ∧ ∃ D : Int, IntKind.u64.wrap (IntKind.u64.wrap (nth ps k - (P + (c : Int)) % 4294967296) - (b : Int)) = D ∧ 0 ≤ D ∧ D ≤ 18446744073709551615 ∧
      ∃ z b' c' : Nat, z < 4294967296 ∧ D % 4294967296 = (z : Int) ∧ D / 9223372036854775808 = (b' : Int) ∧ (P + (c : Int)) / 4294967296 = (c' : Int) ∧ c' ≤ 4294967295 ∧ b' ≤ 1 ∧ SubtInv ps vs d (k + 1) (zs ++ [z]) c' b' := by
  have h1 := hp.getD k
  have h2 := hv.getD k
  have h3 := h.one
  have h4 := h.small
  have hm : d * vs.getD k 0 ≤ 4294967295 * 4294967295 := Nat.mul_le_mul (by omega) (by omega)
  have e : (d : Int) * nth vs k = ((d * vs.getD k 0 : Nat) : Int) := by unfold nth; simp
  refine ⟨_, e, by omega, by omega, _, rfl, ?_, ?_, ?_⟩
  · rw [wrap_u64']; omega
  · rw [wrap_u64']; omega
  have hst := fun z b' => h.step (z := z) (b' := b') hv hd
  rw [wrap_u64', wrap_u64']
  unfold nth
  generalize d * vs.getD k 0 = P at *
  have hl : (P + c) % 4294967296 < 4294967296 := Nat.mod_lt _ (by omega)
  have e2 : ((P : Int) + (c : Int)) % 4294967296 = (((P + c) % 4294967296 : Nat) : Int) := by omega
  rw [e2]
  have e3 : ((P : Int) + (c : Int)) / 4294967296 = (((P + c) / 4294967296 : Nat) : Int) := by omega
  rw [e3]
  by_cases hle : (P + c) % 4294967296 + b ≤ ps.getD k 0
  · have hz : ps.getD k 0 - ((P + c) % 4294967296 + b) < 4294967296 := by omega
    refine ⟨ps.getD k 0 - ((P + c) % 4294967296 + b), 0, (P + c) / 4294967296, hz, by omega, by omega, rfl, by omega, by omega, hst _ 0 hz (by omega) (by omega)⟩
  · have hz : ps.getD k 0 + 4294967296 - ((P + c) % 4294967296 + b) < 4294967296 := by omega
    refine ⟨ps.getD k 0 + 4294967296 - ((P + c) % 4294967296 + b), 1, (P + c) / 4294967296, hz, by omega, by omega, rfl, by omega, by omega, hst _ 1 hz (by omega) (by omega)⟩

theorem subt_done {ps vs zs : List Nat} {d n c b : Nat} (hp : ps.length = n + 1) (hv : vs.length = n) (h : SubtInv ps vs d (n + 1) zs c b) : SubOut ps vs d n zs (decide (0 < b)) := by
  obtain ⟨h1, h2⟩ := h.done hp hv
  refine ⟨h.len, h.lim, h1, ?_⟩
  rw [h2]
  have := h.one
  by_cases h0 : 0 < b
  · rw [decide_eq_true h0]; obtain rfl : b = 1 := by omega
    rfl
  · rw [decide_eq_false h0]; obtain rfl : b = 0 := by omega
    rfl

def GivesSub (w : World) (g : Nat) (us : List Nat) (j n d : Nat) (vs : List Nat) (e : Ending) (w' : World) : Prop :=
  ∃ (zs : List Nat) (b : Bool), e = .returned (.bool b) ∧ SubOut ((us.drop j).take (n + 1)) vs d n zs b ∧ Own w' g (win us j zs) ∧ w.grownBy w' (some g) ∧ Hid (w'.heap.size = w.heap.size)

set_option maxRecDepth 100000 in
set_option maxHeartbeats 1000000 in
theorem subtractTimes_any (g j n cap h cap' d : Nat) (us vs : List Nat) (w : World) (hO0 : Own w g us) (hO1 : Own w h vs) (hgh : h ≠ g) (hl : vs.length = n) (hn : n ≤ 1000000000) (hj : j + n + 1 ≤ us.length) (hd : d ≤ 4294967295) (hc : n ≤ cap') :
    Calls Tryd.prog 63 #[.slice (some ⟨g, j, none⟩) (n + 1) cap, .slice (some ⟨h, 0, none⟩) n cap', .int .u32 d] w (GivesSub w g us j n d vs) := by
  have hlv := hO1.lim
  have hlu := hO0.lim
  have HL := Lib.hid hl
  have HJ := Lib.hid hj
  have HG := Lib.hid hgh
  clear hl hj hgh
  obtain ⟨ps, hps⟩ : ∃ ps, ps = (us.drop j).take (n + 1) := ⟨_, rfl⟩
  have hlp : Lim ps := by rw [hps]; exact (hlu.drop j).take _
  have hpn : ∀ k, k ≤ n → nth ps k = nth us (j + k) := fun k hk => by unfold nth; rw [hps, part_nth us j n k hk]
  have hpl : ps.length = n + 1 := by rw [hps, List.length_take, List.length_drop]; have := HJ.out; omega
  have HPN := Lib.hid hpn
  have HPL := Lib.hid hpl
  have HPS := Lib.hid hps
  clear hps hpn hpl
  go_enter Tryd.func63, Tryd.ntmps63
  go_wp2_with fail
  go_loopw [7, 8, 14] (fun cc bb i wr => ∃ (k : Nat) (zs : List Nat) (c b : Nat), k ≤ n + 1 ∧ i = .int .i64 k ∧ cc = .int .u64 c ∧ bb = .int .u64 b ∧ SubtInv ps vs d k zs c b ∧ Own wr g (win us j zs) ∧ w.grownBy wr (some g) ∧ Hid (wr.heap.size = w.heap.size)) (fun _ _ i _ => n + 1 - (intOf i).toNat)
  case atStart => exact ⟨0, [], 0, 0, by omega, rfl, rfl, rfl, SubtInv.start ps vs d, by rw [win_nil]; exact hO0, World.grownBy.refl _ _, rfl⟩
  case round =>
    obtain ⟨k, zs, c, b, hk, rfl, rfl, rfl, hI, hO, hG, hS⟩ := hrel
    have hOv := hO1.kept hG (fun e => HG.out (Option.some.inj e).symm)
    have hrv : Rd wr (some ⟨h, 0, none⟩) cap' vs := hOv.rd (by rw [HL.out]; exact hc)
    have b1 := hI.one
    have b2 := hI.small
    have b3 : c ≤ 4294967295 := by omega
    by_cases hlt : k < n + 1
    · have hkk : j + k < us.length := by have := HJ.out; omega
      obtain ⟨P, hP, p0, p1, D, hD, d0, d1, z, b', c', hz, hzv, hbv, hcv, hc', hb', hI2⟩ := subt_digit hlp hlv (by omega) hI
      rw [HPN.out k (by omega)] at hD
      have hcell := hO.cell (j + k) (by rw [win_len (by rw [hI.len]; omega)]; exact hkk)
      rw [win_nth hI.len hkk] at hcell
      have hfree := hO.free (j + k)
      have g1 := nth_ge us (j + k)
      have g3 := nth_le hlu (j + k)
      have g4 := nth_ge vs k
      have g5 := nth_le hlv k
      have HZ := Lib.hid hzv
      have HB := Lib.hid hbv
      have HC := Lib.hid hcv
      have HI2 := Lib.hid hI2
      have HKK := Lib.hid hkk
      clear hzv hbv hcv hI2 hkk b2
      go_wp2_with fail
      refine (limbAt_any _ _ _ vs _ hrv HL.out (by omega) _ k rfl).mono ?_
      rintro e w' ⟨rfl, rfl⟩
      go_wp2_with fail
      go_roundw
      case rel =>
        obtain ⟨hst, hg2⟩ := hO.store (j + k) z hz _ HZ.out
        rw [win_set hI.len HKK.out] at hst
        exact ⟨k + 1, zs ++ [z], c', b', by omega, by go_num, by rw [HC.out], by rw [HB.out], HI2.out, hst, grownBy_trans hG hg2, by unfold Hid; rw [← hS.out]; simp [World.setCell]⟩
      case measure => simp [intOf]; omega
    · obtain rfl : k = n + 1 := by omega
      have hdn := subt_done HPL.out HL.out hI
      have hdb : decide ((0 : Int) < (b : Int)) = decide (0 < b) := by simp
      rw [HPS.out] at hdn
      have HDN := Lib.hid hdn
      clear hdn hI
      go_wp2_with fail
      go_ret
      exact ⟨zs, _, rfl, HDN.out, hO, hG, hS⟩

/-- What addBack has done. -/
structure AddOut (ps vs : List Nat) (n : Nat) (zs : List Nat) (c : Nat) : Prop where
  len : zs.length = n + 1
  lim : Lim zs
  one : c ≤ 1
  small : val zs < 4294967296 ^ (n + 1)
  eq : val zs + 4294967296 ^ (n + 1) * c = val ps + val vs

theorem add_done {ps vs zs : List Nat} {n c : Nat} (hp : ps.length = n + 1) (hv : vs.length = n) (h : AddInv ps vs (n + 1) zs c) : AddOut ps vs n zs c := by
  have e := h.eq
  have hz := val_lt h.lim
  rw [h.len] at hz
  rw [List.take_of_length_le (by omega), List.take_of_length_le (by omega)] at e
  exact ⟨h.len, h.lim, h.one, hz, e⟩

def GivesAdd (w : World) (g : Nat) (us : List Nat) (j n : Nat) (vs : List Nat) (e : Ending) (w' : World) : Prop :=
  ∃ (zs : List Nat) (c : Nat), e = .returned (.tuple #[]) ∧ AddOut ((us.drop j).take (n + 1)) vs n zs c ∧ Own w' g (win us j zs) ∧ w.grownBy w' (some g) ∧ Hid (w'.heap.size = w.heap.size)

theorem add_digit {ps vs zs : List Nat} {k q : Nat} (hp : Lim ps) (hv : Lim vs) (h : AddInv ps vs k zs q) (x : Int) (hx : nth ps k = x) :
    ∃ z q' : Nat, z < 4294967296 ∧ (x + nth vs k + (q : Int)) % 4294967296 = (z : Int) ∧ (x + nth vs k + (q : Int)) / 4294967296 = (q' : Int) ∧ AddInv ps vs (k + 1) (zs ++ [z]) q' := by
  subst hx
  have h1 := hp.getD k
  have h2 := hv.getD k
  have h3 := h.one
  refine ⟨_, _, ?_, ?_, ?_, h.step hp hv⟩
  · omega
  · unfold nth; omega
  · unfold nth; omega

set_option maxRecDepth 100000 in
set_option maxHeartbeats 1000000 in
theorem addBack_any (g j n cap h cap' : Nat) (us vs : List Nat) (w : World) (hO0 : Own w g us) (hO1 : Own w h vs) (hgh : h ≠ g) (hl : vs.length = n) (hn : n ≤ 1000000000) (hj : j + n + 1 ≤ us.length) (hc : n ≤ cap') :
    Calls Tryd.prog 64 #[.slice (some ⟨g, j, none⟩) (n + 1) cap, .slice (some ⟨h, 0, none⟩) n cap'] w (GivesAdd w g us j n vs) := by
  have hlv := hO1.lim
  have hlu := hO0.lim
  have HL := Lib.hid hl
  have HJ := Lib.hid hj
  have HG := Lib.hid hgh
  clear hl hj hgh
  obtain ⟨ps, hps⟩ : ∃ ps, ps = (us.drop j).take (n + 1) := ⟨_, rfl⟩
  have hlp : Lim ps := by rw [hps]; exact (hlu.drop j).take _
  have hpn : ∀ k, k ≤ n → nth ps k = nth us (j + k) := fun k hk => by unfold nth; rw [hps, part_nth us j n k hk]
  have hpl : ps.length = n + 1 := by rw [hps, List.length_take, List.length_drop]; have := HJ.out; omega
  have HPN := Lib.hid hpn
  have HPL := Lib.hid hpl
  have HPS := Lib.hid hps
  clear hps hpn hpl
  go_enter Tryd.func64, Tryd.ntmps64
  go_wp2_with fail
  go_loopw [4, 9] (fun cc i wr => ∃ (k : Nat) (zs : List Nat) (c : Nat), k ≤ n + 1 ∧ i = .int .i64 k ∧ cc = .int .u64 c ∧ AddInv ps vs k zs c ∧ Own wr g (win us j zs) ∧ w.grownBy wr (some g) ∧ Hid (wr.heap.size = w.heap.size)) (fun _ i _ => n + 1 - (intOf i).toNat)
  case atStart => exact ⟨0, [], 0, by omega, rfl, rfl, AddInv.start ps vs, by rw [win_nil]; exact hO0, World.grownBy.refl _ _, rfl⟩
  case round =>
    obtain ⟨k, zs, c, hk, rfl, rfl, hI, hO, hG, hS⟩ := hrel
    have hOv := hO1.kept hG (fun e => HG.out (Option.some.inj e).symm)
    have hrv : Rd wr (some ⟨h, 0, none⟩) cap' vs := hOv.rd (by rw [HL.out]; exact hc)
    have b1 := hI.one
    by_cases hlt : k < n + 1
    · have hkk : j + k < us.length := by have := HJ.out; omega
      obtain ⟨z, c', hz, hzv, hcv, hI2⟩ := add_digit hlp hlv hI _ (HPN.out k (by omega))
      have hcell := hO.cell (j + k) (by rw [win_len (by rw [hI.len]; omega)]; exact hkk)
      rw [win_nth hI.len hkk] at hcell
      have hfree := hO.free (j + k)
      have g1 := nth_ge us (j + k)
      have g3 := nth_le hlu (j + k)
      have g4 := nth_ge vs k
      have g5 := nth_le hlv k
      have HZ := Lib.hid hzv
      have HC := Lib.hid hcv
      have HI2 := Lib.hid hI2
      have HKK := Lib.hid hkk
      clear hzv hcv hI2 hkk
      go_wp2_with fail
      go_quiet ((go_at_call 47; exact quiet_eq (limbAt_any _ _ _ vs _ (hrv.drewN _) HL.out (by omega) _ k rfl)))
      go_wp2_with fail
      go_roundw
      case rel =>
        obtain ⟨hst, hg2⟩ := (hO.drewN nq).store (j + k) z hz _ HZ.out
        rw [win_set hI.len HKK.out] at hst
        exact ⟨k + 1, zs ++ [z], c', by omega, by go_num, by rw [HC.out], HI2.out, hst, grownBy_trans (grownBy_trans hG (grownBy_drewN _ nq _)) hg2, by unfold Hid; rw [← hS.out]; simp [World.setCell]⟩
      case measure => simp [intOf]; omega
    · obtain rfl : k = n + 1 := by omega
      have hdn := add_done HPL.out HL.out hI
      rw [HPS.out] at hdn
      have HDN := Lib.hid hdn
      clear hdn hI
      go_wp2_with fail

      exact bodyPost_end (results_none rfl _ _ _) rfl ⟨zs, c, rfl, HDN.out, hO, hG, hS⟩
end Go.Proofs.YtgnjjmbphangnaaDoor
