/-
  The contracts of divLimbs (over that of divLong) and of the square root.
-/
import Derived.Test.YtgnjjmbphangnaaDoorH
namespace Go.Proofs.YtgnjjmbphangnaaDoor
open Go.RowKit

def GivesTwo (w : World) (zs ys : List Nat) (e : Ending) (w' : World) : Prop :=
  ∃ a cap b cap', e = .returned (.tuple #[.slice a zs.length cap, .slice b ys.length cap']) ∧ New w zs a cap w' ∧ New w ys b cap' w'

/-- What divLong does. -/
def DivLong : Prop := ∀ (a b : Option Addr) (n m cap cap' : Nat) (xs ys : List Nat) (w : World), Rd w a cap xs → Rd w b cap' ys → xs.length = n → ys.length = m → n ≤ 500000000 → 2 ≤ m → m ≤ n → trimL ys = ys →
    Calls Tryd.prog 46 #[.slice a n cap, .slice b m cap'] w (GivesTwo w (limbs (val xs / val ys)) (limbs (val xs % val ys)))

/-- What is new for a later world is new for an earlier one. -/
theorem New.before {w w2 w3 : World} {zs : List Nat} {a : Option Addr} {cap : Nat} (hb : Below w.heap.size w w2) (h : New w2 zs a cap w3) : New w zs a cap w3 := by
  have hs := hb.size
  refine ⟨hb.trans (h.below.mono hs), h.fits, ?_⟩
  rcases h.own with h0 | ⟨g, rfl, hg, ho⟩
  · exact .inl h0
  · exact .inr ⟨g, rfl, by omega, ho⟩

/-- What is new stays while more is made. -/
theorem New.after {w w2 w3 : World} {zs : List Nat} {a : Option Addr} {cap : Nat} (h : New w zs a cap w2) (hb : Below w2.heap.size w2 w3) : New w zs a cap w3 := by
  have hs := h.below.size
  refine ⟨h.below.trans (hb.mono hs), h.fits, ?_⟩
  rcases h.own with h0 | ⟨g, rfl, hg, ho⟩
  · exact .inl h0
  · exact .inr ⟨g, rfl, hg, ho.below hb ho.lt⟩

theorem trim_one {ys : List Nat} (hl : ys.length = 1) (ht : trimL ys = ys) : 1 ≤ ys.getD 0 0 ∧ val ys = ys.getD 0 0 := by
  match ys, hl, ht with
  | [y], _, ht =>
    simp only [trimL] at ht
    have : y ≠ 0 := by intro h; simp [h] at ht
    simp [val]; omega

theorem val_lt_of_short {xs ys : List Nat} (hx : Lim xs) (hy : Lim ys) (ht : trimL xs = xs) (ht' : trimL ys = ys) (h : xs.length < ys.length) : val xs < val ys := by
  have e1 : limbs (val xs) = xs := by rw [limbs_val hx, ht]
  have e2 : limbs (val ys) = ys := by rw [limbs_val hy, ht']
  exact limbs_length_lt (by rw [e1, e2]; exact h)

set_option maxRecDepth 100000 in
set_option maxHeartbeats 1000000 in
theorem divLimbs_any (hlong : DivLong) (a b : Option Addr) (n m cap cap' : Nat) (xs ys : List Nat) (w : World) (rdx : Rd w a cap xs) (rdy : Rd w b cap' ys) (hl : xs.length = n) (hl' : ys.length = m) (hn : n ≤ 500000000) (hm : m ≤ 500000000) (hm1 : 1 ≤ m) (ht : trimL xs = xs) (ht' : trimL ys = ys) :
    Calls Tryd.prog 29 #[.slice a n cap, .slice b m cap'] w (GivesTwo w (limbs (val xs / val ys)) (limbs (val xs % val ys))) := by
  have hlx := rdx.lim
  have hly := rdy.lim
  have huy := rdy.under
  have HLO := Lib.hid hlong
  have HL := Lib.hid hl
  have HL' := Lib.hid hl'
  have HT := Lib.hid ht
  have HT' := Lib.hid ht'
  clear hlong hl hl' ht ht'
  by_cases hc : n < m
  · have hlt := val_lt_of_short hlx hly HT.out HT'.out (by rw [HL.out, HL'.out]; exact hc)
    have hq : limbs (val xs / val ys) = [] := by rw [Nat.div_eq_of_lt hlt]; rfl
    have hr : limbs (val xs % val ys) = xs := by rw [Nat.mod_eq_of_lt hlt, limbs_val hlx, HT.out]
    rw [hq, hr]
    clear hq hr hlt
    go_enter Tryd.func29, Tryd.ntmps29
    go_wp2_with fail
    refine (copyLimbs_any _ _ _ xs _ rdx HL.out (by omega)).mono ?_
    rintro e w' ⟨a1, c1, rfl, hN⟩
    go_wp2_with fail
    go_ret2
    exact ⟨none, 0, a1, c1, rfl, New.none hN.below 0, hN⟩
  · by_cases h1 : m = 1
    · have hb : ((m : Int) == 1) = true := by simp; omega
      obtain ⟨hd1, hdv⟩ := trim_one (HL'.out.trans h1) HT'.out
      have hd2 := hly.getD 0
      have HD := Lib.hid hdv
      clear hdv
      go_enter Tryd.func29, Tryd.ntmps29
      go_wp2_with fail
      refine (copyLimbs_any _ _ _ xs _ rdx HL.out (by omega)).mono ?_
      rintro e w1 ⟨a1, c1, rfl, hN⟩
      have hry := rdy.belowU huy hN.below
      obtain ⟨g, hag, hgw, hown⟩ : ∃ g, a1 = some ⟨g, 0, none⟩ ∧ w.heap.size ≤ g ∧ Own w1 g xs := by
        rcases hN.own with ⟨_, h0⟩ | h0
        · have := HL.out; rw [h0] at this; simp at this; omega
        · exact h0
      subst hag
      obtain ⟨b2, o2, hb2, hcy⟩ := hry.cells 0 (by rw [HL'.out]; omega)
      subst hb2
      rw [Nat.add_zero] at hcy
      rw [HL.out]
      go_wp2_with fail
      refine (divideBy_any g n c1 xs (ys.getD 0 0) _ hown HL.out (by omega) hd1 (by omega)).mono ?_
      rintro e w2 ⟨r, qs, rfl, HR, hr4, HQL, HQV, hqo, hqg, HQS⟩
      have hB2 : Below w.heap.size w w2 := hN.below.grown hqg hN.below.size (by intro k hk; cases hk; exact hgw)
      go_wp2_with fail
      refine (trim_any _ n c1 qs _ (hqo.rd (by rw [HQL.out]; have := hN.fits; rw [HL.out] at this; exact this)) HQL.out (by omega)).mono ?_
      rintro e w3 ⟨rfl, rfl⟩
      go_wp2_with fail
      refine (limbsOfWord_any r _ (by omega)).mono ?_
      rintro e w3 ⟨a3, c3, rfl, hN3⟩
      go_wp2_with fail
      go_ret2
      have hNq : New w qs (some ⟨g, 0, none⟩) c1 w2 := ⟨hB2, by rw [HQL.out]; have := hN.fits; rw [HL.out] at this; exact this, .inr ⟨g, rfl, hgw, hqo⟩⟩
      have hNt := (hNq.after hN3.below).trim
      have eq : trimL qs = limbs (val xs / val ys) := by rw [← limbs_val hqo.lim, HQV.out, HD.out]
      rw [eq] at hNt
      refine ⟨some ⟨g, 0, none⟩, c1, a3, c3, by rw [← eq, HD.out, ← HR.out]; rfl, hNt, ?_⟩
      rw [HD.out, ← HR.out]
      exact New.before hB2 hN3
    · have hb : ((m : Int) == 1) = false := by simp; omega
      go_enter Tryd.func29, Tryd.ntmps29
      go_wp2_with fail
      refine (HLO.out _ _ n m _ _ xs ys _ rdx rdy HL.out HL'.out (by omega) (by omega) (by omega) HT'.out).mono ?_
      rintro e w1 ⟨a1, c1, a2, c2, rfl, hN1, hN2⟩
      go_wp2_with fail
      go_ret2
      exact ⟨a1, c1, a2, c2, rfl, hN1, hN2⟩
end Go.Proofs.YtgnjjmbphangnaaDoor
