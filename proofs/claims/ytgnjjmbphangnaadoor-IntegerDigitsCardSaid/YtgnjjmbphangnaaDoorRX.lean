/-
  The reference's DivMod.
-/
import Derived.Test.YtgnjjmbphangnaaDoorRV
import Derived.Test.YtgnjjmbphangnaaDoorPW
import Derived.Deep.Cut
import Derived.Deep.RegionWith
namespace Go.Proofs.YtgnjjmbphangnaaDoor
open Go.RowKit

/-- Four structs behind each other: two arguments, two results. -/
structure Box4 (B : Nat) (u0 v0 u1 v1 u2 v2 u3 v3 : Value) (w : World) : Prop where
  a : Box B u0 v0 w
  b : Box (B + 1) u1 v1 w
  c : Box (B + 1 + 1) u2 v2 w
  d : Box (B + 1 + 1 + 1) u3 v3 w
theorem Box4.below {B : Nat} {u0 v0 u1 v1 u2 v2 u3 v3 : Value} {w w' : World} (h : Box4 B u0 v0 u1 v1 u2 v2 u3 v3 w) (hb : Below w.heap.size w w') : Box4 B u0 v0 u1 v1 u2 v2 u3 v3 w' :=
  ⟨h.a.below hb, h.b.below hb, h.c.below hb, h.d.below hb⟩
theorem Box4.made (w : World) (u0 v0 u1 v1 u2 v2 u3 v3 : Value) (t : TypeId) :
    Box4 w.heap.size u0 v0 u1 v1 u2 v2 u3 v3 ((((w.alloc (.cells #[u0, v0] t)).alloc (.cells #[u1, v1] t)).alloc (.cells #[u2, v2] t)).alloc (.cells #[u3, v3] t)) :=
  ⟨(((Box.made _ _ rfl _ _ _).alloc _).alloc _).alloc _, ((Box.made _ _ (by simp) _ _ _).alloc _).alloc _, (Box.made _ _ (by simp) _ _ _).alloc _, Box.made _ _ (by simp) _ _ _⟩
section
variable {A B : Nat} {u0 u1 v0 v1 : Value} {W v : World}
end

theorem bel_store {R : Nat} {W v : World} (hs : Below R W v) (g : Nat) (hg : R ≤ g) (x y : Value) : Below R W ((v.setCell ⟨g, 0, none⟩ x).setCell ⟨g, 1, none⟩ y) :=
  (hs.setCell (p := ⟨g, 0, none⟩) hg x).setCell (p := ⟨g, 1, none⟩) hg y

section
variable {A B R : Nat} {u0 u1 v0 v1 : Value} {W v v' : World}
end
theorem Box.other {B G : Nat} {u v : Value} {w : World} (h : Box B u v w) (hne : B ≠ G) (x y : Value) : Box B u v ((w.setCell ⟨G, 0, none⟩ x).setCell ⟨G, 1, none⟩ y) := by
  obtain ⟨c0, c1, f0, f1, hs⟩ := h
  refine ⟨?_, ?_, ?_, ?_, ?_⟩
  all_goals simp [go_sem, c0, c1, f0, f1, hs]
theorem Apart.alloc {B0 B1 B2 : Nat} {zs : List Nat} {a : Option Addr} {cap : Nat} {w : World} (h : Apart B0 B1 B2 zs a cap w) (o : Obj) : Apart B0 B1 B2 zs a cap (w.alloc o) := h.below ((Below.refl _ _).alloc (Nat.le_refl _) o)

attribute [local go_sem ↓] Go.wp_at_zero Go.wp_at_succ

end Go.Proofs.YtgnjjmbphangnaaDoor
