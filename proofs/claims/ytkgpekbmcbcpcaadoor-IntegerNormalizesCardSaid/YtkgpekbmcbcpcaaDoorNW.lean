/-
  The walk of IntegerNormalizes.
-/
import Derived.Test.YtkgpekbmcbcpcaaDoorNZ
import Derived.Test.YtkgpekbmcbcpcaaDoorDL
namespace Go.Proofs.YtkgpekbmcbcpcaaDoor
open Go.RowKit

theorem Box.grown {B g : Nat} {v0 v1 : Value} {w w' : World} (h : Box B v0 v1 w) (hg : w.grownBy w' (some g)) (hB : B ≠ g) : Box B v0 v1 w' := by
  have hb : w'.heap[B]? = w.heap[B]? := hg.block B h.size (fun e => hB (Option.some.inj e))
  exact ⟨(World.cell?_of_block (w := w) (a := ⟨B, 0, none⟩) hb).trans h.c0, (World.cell?_of_block (w := w) (a := ⟨B, 1, none⟩) hb).trans h.c1,
    (World.frozen?_of_block (w := w) (a := ⟨B, 0, none⟩) hb).trans h.f0, (World.frozen?_of_block (w := w) (a := ⟨B, 1, none⟩) hb).trans h.f1, Nat.lt_of_lt_of_le h.size hg.size⟩

attribute [local go_sem ↓] Go.wp_at_zero Go.wp_at_succ

set_option maxRecDepth 100000 in
set_option maxHeartbeats 4000000 in
theorem integerNormalizes_walk (neg : Bool) (a : Option Addr) (n cap : Nat) (xs : List Nat) (w : World) (rdx : Rd w a cap xs) (hl : xs.length = n) :
    Calls Tryd.prog 3 #[.agg #[.bool neg, .slice a n cap]] w fun e w' => e = .returned (.bool true) ∧ Below w.heap.size w w' := by
  obtain ⟨W, hW⟩ : ∃ W, W = w.alloc (.cells #[.bool neg, .slice a n cap] 24) := ⟨_, rfl⟩
  have hb0 : Below w.heap.size w W := by rw [hW]; exact (Below.refl _ _).alloc (Nat.le_refl _) _
  have hx : Box w.heap.size (.bool neg) (.slice a n cap) W := by rw [hW]; exact Box.made _ _ rfl _ _ _
  have hr : Rd W a cap xs := rdx.below hb0
  have hlx := rdx.lim
  have hu := rdx.under
  have HW := Lib.hid hW
  have HL := Lib.hid hl
  have HU := Lib.hid hu
  clear hW hl rdx hu
  by_cases h40 : 40 < n
  · have hd : decide ((40 : Int) < (n : Int)) = true := decide_eq_true (by omega)
    clear h40
    obtain ⟨c0, c1', f0, f1, sz⟩ := hx
    go_enter Tryd.func3, Tryd.ntmps3
    go_wp2_with fail
    rw [← HW.out]
    refine (long_any neg a n cap W true hd).mono ?_
    rintro e w1 ⟨rfl, hb1⟩
    have hB1 := hb0.trans (hb1.mono hb0.size)
    go_wp2_with fail
    refine (awake_any divLong_any _).mono ?_
    rintro e w2 ⟨rfl, hb2⟩
    have hB2 := hB1.trans (hb2.mono hB1.size)
    go_wp2_with fail
    go_ret
    exact ⟨rfl, hB2⟩
  · have hd : decide ((40 : Int) < (n : Int)) = false := decide_eq_false (by omega)
    have hn : n ≤ 1000000000 := by omega
    have hnx : xs.length ≤ 1000000000 := by rw [HL.out]; exact hn
    have HNX := Lib.hid hnx
    clear hnx
    have hx0 := hx
    obtain ⟨c0, c1', f0, f1, sz⟩ := hx
    go_enter Tryd.func3, Tryd.ntmps3
    go_wp2_with fail
    rw [← HW.out]
    refine (long_any neg a n cap W false hd).mono ?_
    rintro e w1 ⟨rfl, hb1⟩
    have hB1 := hb0.trans (hb1.mono hb0.size)
    have hx1 := hx0.below hb1
    have hr1 := hr.below hb1
    clear c0 c1' f0 f1 sz hx0 hr
    have hx1' := hx1
    obtain ⟨c0, c1', f0, f1, sz⟩ := hx1
    go_wp2_with fail
    refine (copied_any neg a n cap xs _ hr1 HL.out hn).mono ?_
    rintro e w2 ⟨a2, c2, rfl, hN2⟩
    rw [HL.out]
    obtain ⟨W2, hW2⟩ : ∃ W2, W2 = w2.alloc (.cells #[.bool neg, .slice a2 n c2] 24) := ⟨_, rfl⟩
    have hbW2 : Below w2.heap.size w2 W2 := by rw [hW2]; exact (Below.refl _ _).alloc (Nat.le_refl _) _
    have hxw : Box w2.heap.size (.bool neg) (.slice a2 n c2) W2 := by rw [hW2]; exact Box.made _ _ rfl _ _ _
    have hN2' := hN2.after hbW2
    have hB2 : Below w.heap.size w W2 := hB1.trans (hN2'.below.mono hB1.size)
    have hxa := hx1'.below hN2'.below
    have hra := hr1.below hN2'.below
    have hrw := hN2'.rd
    have HW2 := Lib.hid hW2
    have hraU := hra.under
    have hrwU := hrw.under
    have hA2 := hxa.size
    have hA3 := hxw.size
    have HAU := Lib.hid hraU
    have HWU := Lib.hid hrwU
    clear hraU hrwU
    clear hW2 hN2 hN2' c0 c1' f0 f1 sz hx1' hr1 hbW2
    have hxw' := hxw
    obtain ⟨c0, c1', f0, f1, sz⟩ := hxw
    go_wp2_with fail
    rw [← HW2.out]
    refine (normalize_any neg a2 n c2 xs _ hrw HL.out hn).mono ?_
    rintro e w3 ⟨a3, c3, rfl, hN3⟩
    obtain ⟨z, hz⟩ : ∃ z, z = den neg xs := ⟨_, rfl⟩
    rw [← hz] at hN3
    rw [← hz]
    have HZ := Lib.hid hz
    obtain ⟨W3, hW3⟩ : ∃ W3, W3 = w3.alloc (.cells #[.bool (sg z), .slice a3 (mg z).length c3] 24) := ⟨_, rfl⟩
    have hbW3 : Below w3.heap.size w3 W3 := by rw [hW3]; exact (Below.refl _ _).alloc (Nat.le_refl _) _
    have hxb : Box w3.heap.size (.bool (sg z)) (.slice a3 (mg z).length c3) W3 := by rw [hW3]; exact Box.made _ _ rfl _ _ _
    have hN3' := hN3.after hbW3
    have hB3 : Below w.heap.size w W3 := hB2.trans (hN3'.below.mono hB2.size)
    have hxa3 := hxa.below hN3'.below
    have hxw3 := hxw'.below hN3'.below
    have hra3 := hra.below hN3'.below
    have hrw3 := hrw.below hN3'.below
    have hrb3 := hN3'.rd
    have HW3 := Lib.hid hW3
    clear hW3 hz c0 c1' f0 f1 sz hxw' hra hrw hxa
    go_wp2_with fail
    rw [← HW3.out]
    have HXA := Lib.hid hxa3
    have HXW := Lib.hid hxw3
    have HXB := Lib.hid hxb
    have hgb := hN3.own
    have HS3 := hN3.below.size
    have hbW3' := hbW3
    clear hN3' hN3 hbW3 hxa3 hxw3 hxb
    go_region_held3 (fun w' => w'.cell? ⟨w3.heap.size, 0, none⟩ = some (.bool (sg z)) ∧ w'.cell? ⟨w3.heap.size, 1, none⟩ = some (.slice a3 (mg z).length c3) ∧ w'.cell? ⟨w.heap.size, 0, none⟩ = some (.bool neg) ∧ w'.cell? ⟨w.heap.size, 1, none⟩ = some (.slice a n cap) ∧ Below W3.heap.size W3 w')
      (first | exact two_draw HXB.out HXA.out | exact two_step HXB.out HXA.out (by assumption) hN5.below | exact two_step HXB.out HXA.out (by assumption) hb6)
      ((first
        | (go_at_call 24; have hq := two_rd hra3 (by assumption); refine (rnormalize_any neg a n cap xs _ hq HL.out hn).mono ?_; clear hq; rintro e w5 ⟨a5, c5, rfl, hN5⟩; rw [← HZ.out] at hN5; rw [← HZ.out])
        | (go_at_call 23; have hq := two_rd hrb3 (by assumption); refine (same_true (sg z) a3 a5 _ c3 c5 (mg z) _ hq hN5.rd rfl (by rw [HZ.out, mg_den]; exact Nat.le_trans (Nat.le_trans (by rw [limbs_val hlx]; exact length_trimL_le xs) HNX.out) (by omega))).mono ?_; clear hq; rintro e w6 ⟨rfl, hb6⟩)))
    have hb7 : Below W3.heap.size W3 w6 := two_below (by assumption)
    have hxa6 := HXA.out.below hb7
    have hxw6 := HXW.out.below hb7
    have hxb6 := HXB.out.below hb7
    have hra6 := hra3.below hb7
    have hrw6 := hrw3.below hb7
    have hB6 := hB3.trans (hb7.mono hB3.size)
    have HXB6 := Lib.hid hxb6
    obtain ⟨c0, c1', f0, f1, sz⟩ := hxb6
    clear hN5 hb6
    go_wp2_with fail
    have hs6 : W2.heap.size ≤ w6.heap.size := Nat.le_trans HS3 (by have := hb7.size; omega)
    rcases hgb with ⟨rfl, hnil⟩ | ⟨gb, rfl, hgb1, hOb⟩
    · rw [hnil] at c1' ⊢
      have HXA6 := Lib.hid hxa6
      have HXW6 := Lib.hid hxw6
      clear hxa6 hxw6
      go_loopw [21] (fun i wr => i = .int .i64 0 ∧ wr = w6) (fun _ _ => 0)
      case atStart => exact ⟨rfl, rfl⟩
      case round =>
        obtain ⟨rfl, rfl⟩ := hrel
        obtain ⟨p0, p1, p2, p3, p4⟩ := HXA6.out
        obtain ⟨q0, q1, q2, q3, q4⟩ := HXW6.out
        have hrar := hra6
        have hrwr := hrw6
        have hBr := hB6
        go_wp2_with fail
        refine (same_true neg a2 a n c2 cap xs _ hrwr hrar HL.out (by omega)).mono ?_
        rintro e w8 ⟨rfl, hb8⟩
        have hB8 := hBr.trans (hb8.mono hBr.size)
        clear p0 p1 p2 p3 p4 q0 q1 q2 q3 q4
        go_wp2_with fail
        refine (awake_any divLong_any _).mono ?_
        rintro e w9 ⟨rfl, hb9⟩
        have hB9 := hB8.trans (hb9.mono hB8.size)
        go_wp2_with fail
        go_ret
        exact ⟨rfl, hB9⟩
    · have hgl := hOb.lt
      have hO6 : Own w6 gb (mg z) := (hOb.below hbW3' hgl).below hb7 (Nat.lt_of_lt_of_le hgl hbW3'.size)
      have hlb := hO6.lim
      obtain ⟨L, hLL⟩ : ∃ L, (mg z).length = L := ⟨_, rfl⟩
      have hL9 : L ≤ 4000000000 := by
        rw [← hLL, HZ.out, mg_den, limbs_val hlx]
        exact Nat.le_trans (length_trimL_le xs) (by have := HNX.out; omega)
      rw [hLL] at c1' ⊢
      have hxb6' := HXB6.out
      rw [hLL] at hxb6'
      have HXB7 := Lib.hid hxb6'
      have HLL := Lib.hid hLL
      have HXA6 := Lib.hid hxa6
      have HXW6 := Lib.hid hxw6
      have ne1 : w3.heap.size ≠ gb := by omega
      have ne2 : w.heap.size ≠ gb := by omega
      have ne3 : w2.heap.size ≠ gb := by omega
      have HN1 := Lib.hid ne1
      have HN2 := Lib.hid ne2
      have HN3 := Lib.hid ne3
      have HO6 := Lib.hid hO6
      clear hxa6 hxw6 hxb6' hLL ne1 ne2 ne3 hO6 c0 c1' f0 f1 sz
      go_loopw [21] (fun i wr => ∃ (k : Nat) (zs : List Nat), k ≤ L ∧ i = .int .i64 k ∧ Hid (zs.length = L) ∧ Own wr gb zs ∧ w6.grownBy wr (some gb)) (fun i _ => L - (intOf i).toNat)
      case atStart => exact ⟨0, mg z, by omega, rfl, HLL, HO6.out, World.grownBy.refl _ _⟩
      case round =>
        obtain ⟨k, zs, hk, rfl, hzl, hO, hG⟩ := hrel
        by_cases hlt : k < L
        · obtain ⟨c0, c1', f0, f1, sz⟩ := HXB7.out.grown hG HN1.out
          have hcell := hO.cell k (by rw [hzl.out]; exact hlt)
          have hfree := hO.free k
          go_wp2_with fail
          go_roundw
          case rel =>
            obtain ⟨hst, hg2⟩ := hO.store k 7 (by omega) 7 rfl
            exact ⟨k + 1, zs.set k 7, by omega, by go_num, by unfold Hid; rw [List.length_set]; exact hzl.out, hst, grownBy_trans hG hg2⟩
          case measure => simp [intOf]; omega
        · obtain rfl : k = L := by omega
          obtain ⟨p0, p1, p2, p3, p4⟩ := HXA6.out.grown hG HN2.out
          obtain ⟨q0, q1, q2, q3, q4⟩ := HXW6.out.grown hG HN3.out
          have hbr : Below W2.heap.size w6 wr := (Below.refl _ _).grown hG hs6 (by intro j hj; cases hj; exact hgb1)
          have hrar := hra6.belowU HAU.out hbr
          have hrwr := hrw6.belowU HWU.out hbr
          have hBr : Below w.heap.size w wr := hB6.grown hG hB6.size (by intro j hj; cases hj; omega)
          go_wp2_with fail
          refine (same_true neg a2 a n c2 cap xs _ hrwr hrar HL.out (by omega)).mono ?_
          rintro e w8 ⟨rfl, hb8⟩
          have hB8 := hBr.trans (hb8.mono hBr.size)
          clear p0 p1 p2 p3 p4 q0 q1 q2 q3 q4
          go_wp2_with fail
          refine (awake_any divLong_any _).mono ?_
          rintro e w9 ⟨rfl, hb9⟩
          have hB9 := hB8.trans (hb9.mono hB8.size)
          go_wp2_with fail
          go_ret
          exact ⟨rfl, hB9⟩
end Go.Proofs.YtkgpekbmcbcpcaaDoor
