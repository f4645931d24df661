/-
  The contract of Sqrt.
-/
import Derived.Test.YtgnjjmbphangnaaDoorL
namespace Go.Proofs.YtgnjjmbphangnaaDoor
open Go.RowKit

/-- A block of two cells that holds a struct: an argument or a result. -/
structure Box (B : Nat) (v0 v1 : Value) (w : World) : Prop where
  c0 : w.cell? ⟨B, 0, none⟩ = some v0
  c1 : w.cell? ⟨B, 1, none⟩ = some v1
  f0 : w.frozen? ⟨B, 0, none⟩ = false
  f1 : w.frozen? ⟨B, 1, none⟩ = false
  size : B < w.heap.size

theorem Box.below {B : Nat} {v0 v1 : Value} {w w' : World} (h : Box B v0 v1 w) (hb : Below w.heap.size w w') : Box B v0 v1 w' :=
  ⟨(hb.cell h.size).trans h.c0, (hb.cell h.size).trans h.c1, (hb.frozen h.size).trans h.f0, (hb.frozen h.size).trans h.f1, Nat.lt_of_lt_of_le h.size hb.size⟩
theorem Box.alloc {B : Nat} {v0 v1 : Value} {w : World} (h : Box B v0 v1 w) (o : Obj) : Box B v0 v1 (w.alloc o) := h.below ((Below.refl _ _).alloc (Nat.le_refl _) _)
theorem Box.made (w : World) (B : Nat) (hB : B = w.heap.size) (v0 v1 : Value) (t : TypeId) : Box B v0 v1 (w.alloc (.cells #[v0, v1] t)) := by
  subst hB
  exact ⟨by simp [go_sem], by simp [go_sem], by simp [go_sem], by simp [go_sem], by simp⟩
theorem Box.drewN {B : Nat} {v0 v1 : Value} {w : World} (h : Box B v0 v1 w) (n : Nat) : Box B v0 v1 (w.drewN n) := ⟨h.c0, h.c1, h.f0, h.f1, h.size⟩

/-- A new list stays new while a struct's two cells below it are written. -/
theorem new_stored {w W w3 : World} {zs : List Nat} {a : Option Addr} {cap : Nat} {B : Nat} (hbw : Below w.heap.size w W) (h : New W zs a cap w3) (hB : w.heap.size ≤ B) (hB2 : B < W.heap.size) (u v : Value) :
    New w zs a cap ((w3.setCell ⟨B, 0, none⟩ u).setCell ⟨B, 1, none⟩ v) := by
  have hb : Below w.heap.size w w3 := hbw.trans (h.below.mono hbw.size)
  have hsz := hbw.size
  refine ⟨(hb.setCell (p := ⟨B, 0, none⟩) hB u).setCell (p := ⟨B, 1, none⟩) hB v, h.fits, ?_⟩
  rcases h.own with h0 | ⟨g, rfl, hg, ho⟩
  · exact .inl h0
  · refine .inr ⟨g, rfl, by omega, ho.of_heap ?_⟩
    rw [Below.heap_setCell _ _ _ _ (by simp; omega), Below.heap_setCell _ _ _ _ (by simp; omega)]

def GivesSq (w : World) (X : Nat) (e : Ending) (w' : World) : Prop :=
  ∃ (s : Nat) (a : Option Addr) (cap : Nat), Hid (s * s ≤ X) ∧ Hid (X < (s + 1) * (s + 1)) ∧ e = .returned (.tuple #[.agg #[.bool (sg (s : Int)), .slice a (mg (s : Int)).length cap], .bool true]) ∧ New w (mg (s : Int)) a cap w'

set_option maxRecDepth 100000 in
set_option maxHeartbeats 2000000 in
theorem sqrt_any (hlong : DivLong) (na : Bool) (a : Option Addr) (n cap : Nat) (xs : List Nat) (w : World) (rdx : Rd w a cap xs) (hl : xs.length = n) (hn : n ≤ 10000000) (hz : 0 ≤ den na xs) :
    Calls Tryd.prog 17 #[.agg #[.bool na, .slice a n cap]] w (GivesSq w (val xs)) := by
  have hlx := rdx.lim
  have hs3 : decide (sign3 (den na xs) < 0) = false := by unfold sign3; rw [if_neg (by omega)]; split <;> simp
  obtain ⟨S, hS⟩ : ∃ S, S = sign3 (den na xs) := ⟨_, rfl⟩
  rw [← hS] at hs3
  have HS := Lib.hid hS
  have HLO := Lib.hid hlong
  have HL := Lib.hid hl
  have HVT := Lib.hid (val_trimL hlx)
  have HTT : Hid (trimL (trimL xs) = trimL xs) := by unfold Hid; rw [← limbs_val hlx, trimL_limbs]
  have htl := length_trimL_le xs
  rw [hl] at htl
  obtain ⟨W, hW⟩ : ∃ W, W = (w.alloc (.cells #[.bool na, .slice a n cap] 25)).alloc (.cells #[.bool false, .slice none 0 0] 25) := ⟨_, rfl⟩
  have hb1 : Below w.heap.size w W := by rw [hW]; exact ((Below.refl _ _).alloc (Nat.le_refl _) _).alloc (by simp) _
  have hx1 : Box w.heap.size (.bool na) (.slice a n cap) W := by rw [hW]; exact (Box.made _ _ rfl _ _ _).alloc _
  have hx2 : Box (w.heap.size + 1) (.bool false) (.slice none 0 0) W := by rw [hW]; exact Box.made _ _ (by simp) _ _ _
  have hr1 := rdx.below hb1
  clear hS hlong hl hz
  go_enter Tryd.func17, Tryd.ntmps17
  go_wp2_with fail
  rw [← hW]
  have HW := Lib.hid hW
  clear hW
  refine (sign_any na a n cap xs _ hr1 HL.out (by omega)).mono ?_
  rintro e w1 ⟨rfl, hbs⟩
  rw [← HS.out]
  obtain ⟨c0, c1, f0, f1, sz⟩ := hx1.below hbs
  go_wp2_with fail
  refine (trim_any _ n _ xs _ (hr1.below hbs) HL.out (by omega)).mono ?_
  rintro e w2 ⟨rfl, rfl⟩
  go_wp2_with fail
  refine (sqrtLimbs_any HLO.out _ _ _ (trimL xs) _ (hr1.below hbs).trim rfl (by omega) HTT.out).mono ?_
  rintro e w2 ⟨s, hs1, hs2, a2, c2, rfl, hN2⟩
  have HS1 := Lib.hid hs1
  have HS2 := Lib.hid hs2
  clear hs1 hs2
  have hN2' := New.before hbs hN2
  go_wp2_with fail
  refine (canonical_int false s (s : Int) rfl _ _ _ W _ hN2' rfl).mono ?_
  rintro e w3 ⟨⟨a3, c3, rfl, hN3⟩, hb3⟩
  obtain ⟨d0, d1, k0, k1, sz2⟩ := hx2.below hN3.below
  have hfin := new_stored hb1 hN3 (Nat.le_succ _) hx2.size
  clear c0 c1 f0 f1 hN2 hN2' hN3
  go_wp2_with fail
  refine bodyPost_ret (v := .tuple #[.agg #[.bool (sg (s : Int)), .slice a3 (mg (s : Int)).length c3], .bool true]) (by simp [results, Tryd.results17, go_sem, d0, d1]) rfl ⟨s, a3, c3, ?_, ?_, rfl, hfin _ _⟩
  · rw [← HVT.out]; exact HS1
  · rw [← HVT.out]; exact HS2
end Go.Proofs.YtgnjjmbphangnaaDoor
