/-
  The contract of Format.
-/
import Derived.Test.YtgnjjmbphangnaaDoorO
namespace Go.Proofs.YtgnjjmbphangnaaDoor
open Go.RowKit

/-- A list of character codes as a string. -/
def str (l : List Nat) : ByteArray := strOfNums (l.map fun (n : Nat) => (n : Int))
theorem map_getD (l : List Nat) (i : Nat) : (l.map fun (n : Nat) => (n : Int)).getD i 0 = nth l i := by
  unfold nth
  simp only [List.getD_eq_getElem?_getD, List.getElem?_map]
  cases l[i]? <;> rfl

theorem text_pos (neg : Bool) (xs : List Nat) (h : val xs ≠ 0) : text (den neg xs) = (if neg then [45] else []) ++ (digs (val xs)).reverse := by
  unfold text
  rw [if_neg (fun e => h (den_zero.1 e)), natAbs_den]
  congr 1
  unfold den; cases neg
  · simp
  · simp; omega

def GivesStr (w : World) (l : List Nat) (e : Ending) (w' : World) : Prop := e = .returned (.string (str l)) ∧ Below w.heap.size w w'

theorem digs_bound {X n : Nat} (hX : X < 4294967296 ^ n) : (digs X).length ≤ 10 * n := by
  have h : X < 10 ^ (10 * n) := by
    refine Nat.lt_of_lt_of_le hX ?_
    rw [Nat.pow_mul]
    exact Nat.pow_le_pow_left (by decide) n
  rw [← trimZ_pd _ _ h]
  have := length_trimZ_le (pd (10 * n) X)
  rwa [length_pd] at this

theorem digs_ne {X : Nat} (h : X ≠ 0) : 1 ≤ (digs X).length := by rw [digs_step X h]; simp

set_option maxRecDepth 100000 in
set_option maxHeartbeats 2000000 in
theorem format_any (neg : Bool) (a : Option Addr) (n cap : Nat) (xs : List Nat) (w : World) (rdx : Rd w a cap xs) (hl : xs.length = n) (hn : n ≤ 10000000) :
    Calls Tryd.prog 7 #[.agg #[.bool neg, .slice a n cap]] w (GivesStr w (text (den neg xs))) := by
  have hlx := rdx.lim
  have HVT := Lib.hid (val_trimL hlx)
  have HTT : Hid (trimL (trimL xs) = trimL xs) := by unfold Hid; rw [← limbs_val hlx, trimL_limbs]
  have htl := length_trimL_le xs
  rw [hl] at htl
  have HL := Lib.hid hl
  obtain ⟨W, hW⟩ : ∃ W, W = w.alloc (.cells #[.bool neg, .slice a n cap] 25) := ⟨_, rfl⟩
  have hb1 : Below w.heap.size w W := by rw [hW]; exact (Below.refl _ _).alloc (Nat.le_refl _) _
  have hx1 : Box w.heap.size (.bool neg) (.slice a n cap) W := by rw [hW]; exact Box.made _ _ rfl _ _ _
  have hr1 := rdx.below hb1
  have hxn := val_lt hlx
  have htz := trim_length_zero hlx
  obtain ⟨i0, hi, hz0, hz1, hz2⟩ := info_parts Tryd.infoU8
  clear hl
  go_enter Tryd.func7, Tryd.ntmps7
  go_wp2_with fail
  rw [← hW]
  have HW := Lib.hid hW
  have HXN := Lib.hid hxn
  clear hW hxn
  refine (trim_any _ n _ xs _ hr1 HL.out (by omega)).mono ?_
  rintro e w1 ⟨rfl, rfl⟩
  obtain ⟨T, hT⟩ : ∃ T, T = trimL xs := ⟨_, rfl⟩
  have hrT := hr1.trim
  rw [← hT] at hrT htl htz
  rw [← hT]
  have HTE := Lib.hid hT
  clear hT
  go_wp2_with fail
  refine (copyLimbs_any _ _ _ T _ hrT rfl (by omega)).mono ?_
  rintro e w1 ⟨a1, c1, rfl, hN1⟩
  by_cases h0 : T.length = 0
  · have hv0 : val xs = 0 := htz.1 h0
    have ht : text (den neg xs) = [48] := by unfold text; rw [if_pos (den_zero.2 hv0)]
    have HT := Lib.hid ht
    have hb0 : ((T.length : Int) == 0) = true := by rw [beq_iff_eq]; omega
    clear ht htz h0 hv0
    go_wp2_with fail
    go_ret
    exact ⟨by rw [HT.out]; rfl, hb1.trans (hN1.below.mono hb1.size)⟩
  · have hv0 : val xs ≠ 0 := fun h => h0 (htz.2 h)
    have hb0 : ((T.length : Int) == 0) = false := by rw [beq_eq_false_iff_ne]; omega
    have ht := text_pos neg xs hv0
    have HT := Lib.hid ht
    obtain ⟨g, hag, hgw, hown⟩ : ∃ g, a1 = some ⟨g, 0, none⟩ ∧ W.heap.size ≤ g ∧ Own w1 g T := by
      rcases hN1.own with ⟨_, h1⟩ | h1
      · rw [h1] at h0; exact absurd rfl h0
      · exact h1
    subst hag
    have hTv : val T = val xs := by rw [HTE.out, HVT.out]
    have HTV := Lib.hid hTv
    have hTp : 0 < val T := by omega
    have HTP := Lib.hid hTp
    have hbox1 := hx1.below hN1.below
    have hdl : (digs (val xs)).length ≤ 10 * xs.length := digs_bound HXN.out
    have hdn := digs_ne hv0
    have HDL := Lib.hid hdl
    have HDN := Lib.hid hdn
    clear ht htz h0 hv0 hTv hTp hdl hdn
    go_wp2_with fail
    refine (digitsFromLast_any g _ c1 T _ hown rfl hN1.fits (by omega) (by rw [HTE.out]; exact HTT.out) HTP.out).mono ?_
    rintro e w2 ⟨gb, cb, rfl, hrow, hgr⟩
    rw [HTV.out] at hrow
    rw [HTV.out]
    have hB2 : Below W.heap.size W w2 := hN1.below.grown hgr hN1.below.size (by intro k hk; cases hk; exact hgw)
    obtain ⟨c0, d1, f0, f1, sz⟩ := hx1.below hB2
    have hgb := hrow.lt gb rfl
    obtain ⟨D, hD⟩ : ∃ D, D = digs (val xs) := ⟨_, rfl⟩
    rw [← hD] at hrow HT HDL HDN
    rw [← hD]
    have hDl : D.length ≤ 10 * n := by have := HDL.out; rw [HL.out] at this; exact this
    have hDn : 1 ≤ D.length := HDN.out
    clear hD
    cases neg
    · go_wp2_with fail
      refine (rev_any gb _ cb w1.heap.size D _ hrow (by omega)).mono ?_
      rintro e w3 ⟨rfl, hrow3, hgr3⟩
      have hcv := run_convert_bytes_arg (P := Tryd.prog) w3 22 5 Tryd.underlying22 Tryd.underlying5 gb 0 D.length cb (D.reverse.map fun (n : Nat) => (n : Int)) (by simp)
        (fun i hi => by rw [Nat.zero_add, hrow3.cellAt i (by omega), u8s_get _ i (by simp; omega), map_getD]) 9 Tryd.underlying9
      go_wp2_with fail
      go_ret
      refine ⟨by rw [HT.out]; show Ending.returned (.string (strOfNums (List.map (fun (n : Nat) => (n : Int)) D).reverse)) = _; simp [str], ?_⟩
      exact hb1.trans ((hB2.grown hgr3 hB2.size (by intro k hk; cases hk; have := hN1.below.size; omega)).mono hb1.size)
    · go_wp2_with (at_builtin; refine wpList_append_own _ rfl _ _ 22 rfl w1.heap.size 5 i0 (.int .u8 0) 1 1 Tryd.underlying22 hi hz0 hz1 hz2 rfl (by decide) _ _ _ rfl (hrow.alloc _) ⟨w2.heap.size, 0, none⟩ 1 1 [.int .u8 45] rfl rfl ?c1 ?c2 ?c3 ?c4 ?c5 ?_)
      case c1 => exact cell_one_new _ _ _
      case c2 => intro u hu; simp at hu; subst hu; rfl
      case c3 => unfold maxLen; omega
      case c4 => omega
      case c5 => simp; omega
      intro v' w3 hown3 hgrow3 _
      have hB3 : Below W.heap.size W w3 := ((hB2.alloc hB2.size _)).grown hgrow3 (Nat.le_trans hB2.size (by simp)) (fun q hq => by have := (hrow.lt q hq).1; have := hN1.below.size; omega)
      obtain ⟨c0', d1', f0', f1', sz'⟩ := hx1.below hB3
      obtain ⟨gc, cc, rfl⟩ : ∃ gc cc, v' = .slice (some ⟨gc, 0, none⟩) (D.length + 1) cc := by
        rcases hown3.2 with ⟨_, e⟩ | ⟨g', c', _, e, _⟩
        · omega
        · exact ⟨g', c', e⟩
      have hrow' : w3.ownsRow w1.heap.size 5 1 (.slice (some ⟨gc, 0, none⟩) (D.length + 1) cc) (D.length + 1) (u8s (D ++ [45])) := by
        rw [u8s_append]; exact hown3
      have hgc := hrow'.lt gc rfl
      clear hown3 hgrow3 hrow c0 d1 f0 f1
      go_wp2_with fail
      refine (rev_any gc _ cc w1.heap.size (D ++ [45]) _ hrow' (by omega)).mono ?_
      rintro e w4 ⟨rfl, hrow4, hgr4⟩
      have hcv := run_convert_bytes_arg (P := Tryd.prog) w4 22 5 Tryd.underlying22 Tryd.underlying5 gc 0 (D.length + 1) cc ((D ++ [45]).reverse.map fun (n : Nat) => (n : Int)) (by simp)
        (fun i hi => by rw [Nat.zero_add, hrow4.cellAt i (by omega), u8s_get _ i (by simp; omega), map_getD]) 9 Tryd.underlying9
      have hcv2 : ((D ++ [45]).reverse.map fun (n : Nat) => (n : Int)) = (45 :: D.reverse).map fun (n : Nat) => (n : Int) := by simp
      rw [hcv2] at hcv
      obtain ⟨XS, hXS⟩ : ∃ XS, XS = (45 :: D.reverse).map fun (n : Nat) => (n : Int) := ⟨_, rfl⟩
      rw [← hXS] at hcv
      have HXS := Lib.hid hXS
      clear hXS hcv2
      go_wp2_with fail
      go_ret
      refine ⟨by rw [HT.out]; show Ending.returned (.string (strOfNums XS)) = _; rw [HXS.out]; rfl, ?_⟩
      exact hb1.trans ((hB3.grown hgr4 hB3.size (by intro k hk; cases hk; have := hN1.below.size; omega)).mono hb1.size)
end Go.Proofs.YtgnjjmbphangnaaDoor
