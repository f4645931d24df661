/-
  Further texts: ID YU IE IF.
-/
import Derived.Deep.LoopGhost
import Derived.Test.YtfpcfcegdjlggaaGreatJ01
import Derived.Test.YtfpcfcegdjlggaaGreatJ02
import Derived.Test.YtfpcfcegdjlggaaGreatJ03
import Derived.Test.YtfpcfcegdjlggaaGreatJ04
import Derived.Test.YtfpcfcegdjlggaaGreatJ05
import Derived.Test.YtfpcfcegdjlggaaGreatJ06
import Derived.Test.YtfpcfcegdjlggaaGreatJ07
import Derived.Test.YtfpcfcegdjlggaaGreatJ08
import Derived.Test.YtfpcfcegdjlggaaGreatJ09
import Derived.Test.YtfpcfcegdjlggaaGreatJ10
import Derived.Test.YtfpcfcegdjlggaaGreatJ11
import Derived.Test.YtfpcfcegdjlggaaGreatJ12
import Derived.Test.YtfpcfcegdjlggaaGreatJ13
import Derived.Test.YtfpcfcegdjlggaaGreatJ14
import Derived.Test.YtfpcfcegdjlggaaGreatJ15
import Derived.Test.YtfpcfcegdjlggaaGreatJ16
import Derived.Test.YtfpcfcegdjlggaaGreatJ17
import Derived.Test.YtfpcfcegdjlggaaGreatJ18
import Derived.Test.YtfpcfcegdjlggaaGreatJ19
import Derived.Test.YtfpcfcegdjlggaaGreatJ20
import Derived.Test.YtfpcfcegdjlggaaGreatJ21
import Derived.Test.YtfpcfcegdjlggaaGreatJ22
import Derived.Test.YtfpcfcegdjlggaaGreatJ23
import Derived.Test.YtfpcfcegdjlggaaGreatJ24
import Derived.Test.YtfpcfcegdjlggaaGreatJ25
namespace Go.Proofs.YtfpcfcegdjlggaaGreat
open Go.RowKit Minor

/-- A reduced form, said of its entries. -/
structure RedForm (M : Nat → Nat → Int) (n : Nat) : Prop where
  sym : ∀ i j, i < n → j < n → M i j = M j i
  pos : ∀ k, k ≤ n → 0 < D M k
  det : D M n ≤ 10000
  red : RedZ M n

def GivesRd2 (w : World) (n : Nat) (e : Ending) (w' : World) : Prop :=
  ∃ G R M tv, e = .returned (.tuple #[.slice (some ⟨G, 0, none⟩) n n, tv, .int .i64 0]) ∧ MatP w w' G n n n R M ∧ (∀ i j, i < n → j < n → (M i j).natAbs < 1073741824) ∧ RedForm M n

set_option maxRecDepth 100000 in
set_option maxHeartbeats 8000000 in
theorem rreduce_red (g n cap : Nat) (R : Nat → Nat) (A : Nat → Nat → Int) (w : World) (hM : MatZ w g n n R A) (h1 : 1 ≤ n) (h2 : n ≤ 8) (hA : Form9 A n) :
    Calls Tryz.prog 29 #[.slice (some ⟨g, 0, none⟩) n cap] w (GivesRd2 w n) := by
  have ht0 : Tame A n c9 A9 E9 := Tame.start (M := 9) hA.sym hA.pos hA.diag (by decide) h2
  have HT0 := Lib.hid ht0
  have HS : Hid (∀ i j, i < n → j < n → (A i j).natAbs ≤ cB 0) := fun i j hi hj => tame_h9 h2 ht0 i j hi hj
  have HM := Lib.hid hM
  have HFA := Lib.hid hA
  have hdet : Hid (detZ A n ≤ 10000) := by unfold Hid; rw [detZ_D hA.pos n (Nat.le_refl _)]; exact hA.det
  have hval : Hid (n = n ∧ n ≤ 8 ∧ SymN A n ∧ ∀ k, k < n → 0 < detZ A (k + 1)) := ⟨rfl, h2, fun i j hi hj => hA.sym i j hi (by omega), fun k hk => by rw [detZ_D hA.pos (k + 1) (by omega)]; exact hA.pos (k + 1) (by omega)⟩
  clear hM hA ht0
  go_enter Tryz.func29, Tryz.ntmps29
  go_wp2_with fail
  refine (rvalidate_any g n n cap R A _ HM.out h1 (by omega) h1 (by omega) HS.out).mono ?_
  rintro e w1 ⟨r, rfl, hr, hb1⟩
  obtain rfl := hr.2 ⟨rfl, hval.out.2⟩
  have HB1 := Lib.hid hb1
  clear hr hb1
  go_wp2_with fail
  refine (rsmall_form g n cap R A _ (HM.out.below HB1.out) h1 h2 HS.out).mono ?_
  rintro e w2 ⟨r, rfl, hr, hb2⟩
  obtain rfl := hr.2 hdet.out
  have HB2 : Hid (Below w.heap.size w w2) := HB1.out.trans (hb2.mono HB1.out.size)
  clear hr hb2
  go_wp2_with fail
  refine (rcopy_any g n n cap R A _ (HM.out.below HB2.out) (by omega) h1 (by omega) (fun i j hi hj => cB_short (k := 0) (by omega) (HS.out i j hi hj))).mono ?_
  rintro e w3 ⟨gh, ch, Rh, rfl, hH, hgh, hRh, hb3⟩
  have HB3 : Hid (Below w.heap.size w w3) := HB2.out.trans (hb3.mono HB2.out.size)
  have HH := Lib.hid hH
  clear hH hgh hRh hb3
  go_wp2_with fail
  refine (ridentity_any n _ h1 (by omega)).mono ?_
  rintro e w4 ⟨gt, ct, Rt, rfl, hT, hgt, hRt, hb4⟩
  have HB4 : Hid (Below w.heap.size w w4) := HB3.out.trans (hb4.mono HB3.out.size)
  have HH4 : Hid (MatZ w4 gh n n Rh A) := HH.out.below hb4
  have HT4 := Lib.hid hT
  have HC4 : Hid (Cong A n unitZ A) := Cong.start A n
  have HD4 : Hid (D A n ≤ 10000) := HFA.out.det
  clear hT hgt hRt hb4
  go_wp2_with fail
  go_loopg [6, 7] (height A n) (fun gk hv tv wr => ∃ (gh ch gt ct : Nat) (Rh Rt : Nat → Nat) (H T : Nat → Nat → Int), hv = .slice (some ⟨gh, 0, none⟩) n ch ∧ tv = .slice (some ⟨gt, 0, none⟩) n ct ∧ Hid (MatZ wr gh n n Rh H) ∧ Hid (MatZ wr gt n n Rt T) ∧ Hid (Tame H n c9 A9 E9) ∧ Hid (Cong A n T H) ∧ Hid (D H n ≤ 10000) ∧ Hid (gk = height H n) ∧ Hid (Below w.heap.size w wr))
  case atStart => exact ⟨gh, ch, gt, ct, Rh, Rt, A, unitZ, rfl, rfl, HH4, HT4, HT0, HC4, HD4, rfl, HB4⟩
  case round =>
    obtain ⟨gh, ch, gt, ct, Rh, Rt, H, T, rfl, rfl, hH, hT, hTm, hC, hDd, hgk, hB⟩ := hrel
    clear HH4 HT4 HC4 HD4 HB4
    have hSH : Hid (∀ i j, i < n → j < n → (H i j).natAbs ≤ cB 0) := fun i j hi hj => tame_h9 h2 hTm.out i j hi hj
    have hST : Hid (∀ i j, i < n → j < n → (T i j).natAbs ≤ cB 2) := fun i j hi hj => cong_t9 h2 HT0.out hTm.out hC.out i j hi hj
    have hDZ : Hid (∀ k, k ≤ n → 0 < detZ H k) := fun k hk => by rw [detZ_D hTm.out.pos k hk]; exact hTm.out.pos k hk
    go_wp2_with fail
    refine (rstep_any gh n ch Rh H _ hH.out h1 h2 hSH.out hDZ.out).mono ?_
    intro e w5 hst
    obtain ⟨hb5, ⟨rfl, hred⟩ | ⟨gu, cu, Ru, U, rfl, hU, hu⟩⟩ := step_u hst
    · have HB5 : Hid (Below w.heap.size w w5) := hB.out.trans (hb5.mono hB.out.size)
      have HH5 := Lib.hid (hH.out.below hb5)
      have hsm : Hid (∀ i j, i < n → j < n → (H i j).natAbs < 1073741824) := fun i j hi hj => red_small hTm.out h2 hDd.out hred i j hi hj
      have hrd : Hid (RedForm H n) := ⟨hTm.out.sym, hTm.out.pos, hDd.out, hred⟩
      have hI : Hid (∀ i j, i < n → j < n → I64 (H i j)) := fun i j hi hj => by
        have := hsm.out i j hi hj
        unfold I64
        omega
      clear hst hb5 hred
      go_wp2_with fail
      refine (rtoints_any gh n n ch Rh H _ HH5.out h1 (by omega) h1 (by omega) hI.out).mono ?_
      rintro e w6 ⟨G, RG, rfl, hG⟩
      have hfin : Hid (GivesRd2 w n (.returned (.tuple #[.slice (some ⟨G, 0, none⟩) n n, .slice (some ⟨gt, 0, none⟩) n ct, .int .i64 0])) w6) := ⟨G, RG, H, _, rfl, hG.rebase HB5.out, hsm.out, hrd.out⟩
      clear hG
      go_wp2_with fail
      go_ret3
      exact hfin.out
    · have HB5 : Hid (Below w.heap.size w w5) := hB.out.trans (hb5.mono hB.out.size)
      have HH5 := Lib.hid (hH.out.below hb5)
      have HT5 := Lib.hid (hT.out.below hb5)
      have HU := Lib.hid hU
      obtain ⟨ht', hh', hd', hc', hub⟩ := stepU_tame (T := T) (A0 := A) (great9 h2) hTm.out hu
      have HTm' := Lib.hid ht'
      have HC' : Hid (Cong A n (mulM n T U) (congM n H U)) := hc' hC.out
      have HD' : Hid (D (congM n H U) n ≤ 10000) := by unfold Hid; rw [hd']; exact hDd.out
      have HHt : Hid (height (congM n H U) n < height H n) := hh'
      have HUB : Hid (∀ i j, i < n → j < n → (U i j).natAbs ≤ cB 0) := fun i j hi hj => Nat.le_trans (hub i j hi hj) (u9_fits h2)
      have HUB2 : Hid (∀ i j, i < n → j < n → (U i j).natAbs ≤ cB 2) := fun i j hi hj => Nat.le_trans (HUB.out i j hi hj) (cB_mono (by omega))
      clear hst hb5 hU hu ht' hh' hd' hc' hub
      go_wp2_with fail
      refine (rcongruent_any gh gu n ch cu 0 Rh Ru H U _ HH5.out HU.out h1 (by omega) (by omega) hSH.out HUB.out).mono ?_
      rintro e w6 ⟨g6, c6, R6, rfl, hM6, hg6, hR6, hb6⟩
      have HB6 : Hid (Below w.heap.size w w6) := HB5.out.trans (hb6.mono HB5.out.size)
      have HM6 := Lib.hid hM6
      have HT6 := Lib.hid (HT5.out.below hb6)
      have HU6 := Lib.hid (HU.out.below hb6)
      clear hM6 hg6 hR6 hb6
      go_wp2_with fail
      refine (rproduct_mat gt gu n n n ct cu 2 Rt Ru T U _ HT6.out HU6.out h1 (by omega) h1 (by omega) h1 (by omega) (by omega) hST.out HUB2.out).mono ?_
      rintro e w7 ⟨g7, c7, R7, rfl, hM7, hg7, hR7, hb7⟩
      have HB7 : Hid (Below w.heap.size w w7) := HB6.out.trans (hb7.mono HB6.out.size)
      have HM7 := Lib.hid hM7
      have HM67 := Lib.hid (HM6.out.below hb7)
      clear hM7 hg7 hR7 hb7
      go_wp2_with fail
      go_roundg (height (congM n H U) n)
      case measure => rw [hgk.out]; exact HHt.out
      case rel => exact ⟨g6, c6, g7, c7, R6, R7, congM n H U, mulM n T U, rfl, rfl, HM67, HM7, HTm', HC', HD', rfl, HB7⟩

theorem redZ_congr {a b : Nat → Nat → Int} {n : Nat} (h : ∀ i j, i < n → j < n → a i j = b i j) (hr : RedZ a n) : RedZ b n := by
  have hd : ∀ k, k ≤ n → detZ b k = detZ a k := fun k hk => (detZ_congr fun i j hi hj => h i j (by omega) (by omega)).symm
  have hl : ∀ i j, i < n → j < i → lamZ b i j = lamZ a i j := fun i j hi hj => (detZ_congr fun p q hp hq => by
    show (if p < j then a p q else a i q) = if p < j then b p q else b i q
    rw [h p q (by omega) (by omega), h i q hi (by omega)]).symm
  intro i hi
  obtain ⟨h1, h2⟩ := hr i hi
  refine ⟨fun j hj => ?_, fun h0 => ?_⟩
  · have := h1 j hj
    unfold SizedZ at this ⊢
    rw [hd (j + 1) (by omega), hl i j hi hj]; exact this
  · have := h2 h0
    unfold LovaszZ at this ⊢
    rw [hd i (by omega), hd (i - 1) (by omega), hd (i + 1) (by omega), hl i (i - 1) hi (by omega)]; exact this

theorem redForm_ref {M : Nat → Nat → Int} {n : Nat} (h : RedForm M n) (h1 : 1 ≤ n) (h8 : n ≤ 8) : RefRed (listM M n n) := by
  have e : ∀ i j, i < n → j < n → M i j = ent (listM M n n) i j := fun i j hi hj => (ent_listM M n n i j hi hj).symm
  have hd : ∀ k, k ≤ n → detZ (ent (listM M n n)) k = D M k := fun k hk => by
    rw [← detZ_D h.pos k hk]
    exact (detZ_congr fun i j hi hj => e i j (by omega) (by omega)).symm
  have hl := length_listM M n n
  have hr0 : ((listM M n n).getD 0 []).length = n := by rw [row_listM _ _ _ _ (by omega)]; simp
  refine (redZ_iff _).1 ⟨shaped_listM M n h1 h8, ?_, ?_, ?_⟩
  · rw [hl, hr0]
    exact ⟨rfl, h8, fun i j hi hj => by rw [← e i j hi (by omega), ← e j i (by omega) hi]; exact h.sym i j hi (by omega), fun k hk => by rw [hd (k + 1) (by omega)]; exact h.pos (k + 1) (by omega)⟩
  · rw [hl, hd n (Nat.le_refl _)]; exact h.det
  · rw [hl]; exact redZ_congr e h.red

def GivesFm2 (w : World) (n : Nat) (e : Ending) (w' : World) : Prop :=
  ∃ G hs, e = .returned (.slice (some ⟨G, 0, none⟩) n n) ∧ hs.length = n ∧ RefRed hs ∧ RdM w' (some ⟨G, 0, none⟩) n hs ∧ w.heap.size ≤ G ∧ Below w.heap.size w w'

theorem givesFm2_of {v w w' : World} {n G : Nat} {R : Nat → Nat} {M : Nat → Nat → Int} (hM : MatP v w' G n n n R M) (hb : Below w.heap.size w v) (hs : ∀ i j, i < n → j < n → (M i j).natAbs < 1073741824) (h1 : 1 ≤ n) (h8 : n ≤ 8) (hr : RedForm M n) : GivesFm2 w n (.returned (.slice (some ⟨G, 0, none⟩) n n)) w' := by
  have h := hM.rebase hb
  refine ⟨G, listM M n n, rfl, length_listM M n n, redForm_ref hr h1 h8, h.rd (fun p q hp hq => ?_) (by omega) (Nat.le_refl _), h.far, h.below⟩
  have := hs p q hp hq
  unfold I64
  omega

set_option maxRecDepth 100000 in
set_option maxHeartbeats 4000000 in
theorem rform_red (dim kind : Nat) (al ab : Option Addr) (nl capl nb capb most n : Nat) (ks : List Int) (w : World) (hr : Rd8 w al ks) (hl : ks.length = nl) (hbig : nl ≤ 200000000000000) (hdim : dim ≤ 255) (hkind : kind ≤ 255) (hm1 : 1 ≤ most) (hm8 : most ≤ 8) (hn : 1 + dim % most = n) :
    Calls Tryz.prog 10 #[.agg #[.int .u8 (dim : Int), .int .u8 (kind : Int), .slice al nl capl, .slice ab nb capb], .int .i64 (most : Int)] w (GivesFm2 w n) := by
  have h1 : 1 ≤ n := by omega
  have h8 : n ≤ 8 := by have := Nat.mod_lt dim hm1; omega
  obtain ⟨V, hV⟩ : ∃ V, V = w.alloc (.cells #[.int .u8 (dim : Int), .int .u8 (kind : Int), .slice al nl capl, .slice ab nb capb] 26) := ⟨_, rfl⟩
  have hbV : Hid (Below w.heap.size w V) := by rw [hV]; exact (Below.refl _ _).alloc (Nat.le_refl _) _
  have hbx : Hid (BoxR w.heap.size (.int .u8 (dim : Int)) (.int .u8 (kind : Int)) (.slice al nl capl) (.slice ab nb capb) V) := by rw [hV]; exact BoxR.made _ _ rfl _ _ _ _ _
  have HVV : Hid (w.alloc (.cells #[.int .u8 (dim : Int), .int .u8 (kind : Int), .slice al nl capl, .slice ab nb capb] 26) = V) := hV.symm
  have hcall : Hid (Calls Tryz.prog 31 #[.agg #[.int .u8 (dim : Int), .int .u8 (kind : Int), .slice al nl capl, .slice ab nb capb], .int .i64 (most : Int)] V (GivesGm V n)) := rgram_any dim kind al ab nl capl nb capb most n ks V (hr.below hbV.out) hl hbig hdim hkind hm1 hm8 hn
  obtain ⟨b0, b1, b2, b3, b4, b5⟩ := hbx.out
  clear hr hl hbig hn hV hdim hkind hm1 hm8
  go_enter Tryz.func10, Tryz.ntmps10
  go_wp2_with fail
  rw [HVV.out]
  go_wp2_with fail
  refine hcall.out.mono ?_
  rintro e w1 ⟨G, R, M, rfl, hM, hF, hI⟩
  have HRM := Lib.hid (hM.rd hI (by omega) (Nat.le_refl _))
  have HF9 := Lib.hid hF
  have HB1 : Hid (Below w.heap.size w w1) := hbV.out.trans (hM.below.mono hbV.out.size)
  have HE : Hid (∀ i j, i < n → j < n → ent (listM M n n) i j = M i j) := fun i j hi hj => ent_listM M n n i j hi hj
  have HW0 : Hid (((listM M n n).getD 0 []).length = n) := by unfold Hid; rw [row_listM _ _ _ _ (by omega)]; simp
  clear hM hF hI b0 b1 b2 b3 b4 b5
  go_wp2_with fail
  refine (rof_any _ n n (listM M n n) _ HRM.out (length_listM M n n) (by omega) (shaped_listM M n h1 h8)).mono ?_
  rintro e w2 ⟨g2, c2, R2, rfl, hM2, hb2⟩
  rw [HW0.out] at hM2
  have HM2 : Hid (MatZ w2 g2 n n R2 M) := hM2.congr HE.out
  have HB2 : Hid (Below w.heap.size w w2) := HB1.out.trans (hb2.mono HB1.out.size)
  clear hM2 hb2
  go_wp2_with fail
  refine (rreduce_red g2 n c2 R2 M _ HM2.out h1 h8 HF9.out).mono ?_
  rintro e w3 ⟨G3, R3, M3, tv, rfl, hM3, hs3, hrd⟩
  have hfin : Hid (GivesFm2 w n (.returned (.slice (some ⟨G3, 0, none⟩) n n)) w3) := givesFm2_of hM3 HB2.out hs3 h1 h8 hrd
  clear hM3 hs3
  go_wp2_with fail
  go_ret
  exact hfin.out
end Go.Proofs.YtfpcfcegdjlggaaGreat

namespace Go.Proofs.YtfpcfcegdjlggaaGreat
open Go.RowKit Go.Shelf

def GivesU (w : World) (v : Nat) (e : Ending) (w' : World) : Prop := e = .returned (.int .u64 (v : Int)) ∧ Below w.heap.size w w'

/-- The greatest common divisor of the first k numbers. -/
def contL (xs : List Int) : Nat → Nat
  | 0 => 0
  | k + 1 => Nat.gcd (contL xs k) (xs.getD k 0).natAbs

theorem contL_le (xs : List Int) (h : ∀ i, I64 (xs.getD i 0)) : ∀ k, contL xs k ≤ 9223372036854775808
  | 0 => by unfold contL; omega
  | k + 1 => by
    have ih := contL_le xs h k
    have hb := h k
    unfold I64 at hb
    show Nat.gcd (contL xs k) (xs.getD k 0).natAbs ≤ _
    by_cases h0 : contL xs k = 0
    · rw [h0, Nat.gcd_zero_left]; omega
    · exact Nat.le_trans (Nat.gcd_le_left _ (by omega)) ih

set_option maxRecDepth 100000 in
set_option maxHeartbeats 4000000 in
theorem rcontent_any (a : Option Addr) (n cap : Nat) (xs : List Int) (w : World) (hr : RdI w a cap xs) (hl : xs.length = n) (hn : n ≤ 100000000000000) :
    Calls Tryz.prog 24 #[.slice a n cap] w (GivesU w (contL xs n)) := by
  have HR := Lib.hid hr
  have HL := Lib.hid hl
  clear hr hl
  go_enter Tryz.func24, Tryz.ntmps24
  go_wp2_with fail
  go_loopw [3, 9] (fun dd ii wr => ∃ (i d : Nat), i ≤ n ∧ ii = .int .i64 (i : Int) ∧ dd = .int .u64 (d : Int) ∧ Hid (d = contL xs i) ∧ Hid (Below w.heap.size w wr)) (fun _ ii _ => n - (intOf ii).toNat)
  case atStart => exact ⟨0, 0, by omega, rfl, rfl, rfl, Below.refl _ _⟩
  case round =>
    obtain ⟨i, d, hin, rfl, rfl, hd, hB⟩ := hrel
    by_cases hi : i < n
    · obtain ⟨b, o, e1, hcell⟩ := (HR.out.below hB.out).cells i (by rw [HL.out]; exact hi)
      have hI := HR.out.get i
      obtain ⟨x, hx⟩ : ∃ x, x = xs.getD i 0 := ⟨_, rfl⟩
      rw [← hx] at hcell hI
      have hnx : Hid (Nat.gcd d x.natAbs = contL xs (i + 1)) := by unfold Hid; rw [hd.out, hx]; rfl
      have hdl : d ≤ 18446744073709551615 := by rw [hd.out]; exact Nat.le_trans (contL_le xs HR.out.get i) (by omega)
      have hxl : x.natAbs ≤ 18446744073709551615 := by unfold I64 at hI; omega
      have x1 := hI.1
      have x2 := hI.2
      subst e1
      clear hx hI
      by_cases hneg : x < 0
      · have e : IntKind.u64.wrap (-IntKind.u64.wrap x) = (x.natAbs : Int) := by simp only [IntKind.wrap_u64]; omega
        obtain ⟨m, hm⟩ : ∃ m, m = x.natAbs := ⟨_, rfl⟩
        rw [← hm] at e hnx hxl
        clear hm
        go_wp2_with fail
        go_loopg [3, 6] m (fun gn dd aa wq => ∃ (u v : Nat), dd = .int .u64 (u : Int) ∧ aa = .int .u64 (v : Int) ∧ Hid (gn = v) ∧ Hid (Nat.gcd u v = contL xs (i + 1)) ∧ u ≤ 18446744073709551615 ∧ v ≤ 18446744073709551615 ∧ Hid (Below w.heap.size w wq))
        case atStart => exact ⟨d, m, rfl, rfl, rfl, hnx, hdl, hxl, hB⟩
        case round =>
          obtain ⟨u, v, rfl, rfl, hg, hgc, hu, hv, hB2⟩ := hrel
          clear hcell
          by_cases h0 : 0 < v
          · obtain ⟨r, hr⟩ : ∃ r, r = u % v := ⟨_, rfl⟩
            have hlt : r < v := by rw [hr]; exact Nat.mod_lt _ h0
            have hgc2 : Nat.gcd v r = contL xs (i + 1) := by rw [hr, ← hgc.out, Nat.gcd_comm u v, Nat.gcd_rec v u, Nat.gcd_comm]
            have h1 : (u : Int) % (v : Int) = (r : Int) := by rw [hr]; simp
            have ht : (u : Int).tmod (v : Int) = (r : Int) := by rw [Int.tmod_eq_emod_of_nonneg (by omega)]; exact h1
            have hw : IntKind.u64.wrap (r : Int) = (r : Int) := by rw [IntKind.wrap_u64]; omega
            have hv0 : ¬v = 0 := by omega
            have HGC := Lib.hid hgc2
            clear hr hgc2
            go_wp2_with fail
            go_region
            all_goals go_wp2_with fail
            go_roundg r
            case measure => rw [hg.out]; exact hlt
            case rel => exact ⟨v, r, rfl, rfl, rfl, HGC.out, hv, by omega, hB2.out.drew⟩
          · obtain rfl : v = 0 := by omega
            have he : Hid (u = contL xs (i + 1)) := by unfold Hid; rw [← hgc.out, Nat.gcd_zero_right]
            go_wp2_with fail
            go_roundw
            case rel => exact ⟨i + 1, u, by omega, by go_num, rfl, he, hB2⟩
            case measure => simp [intOf]; omega
      · obtain ⟨m, rfl⟩ : ∃ m : Nat, x = (m : Int) := ⟨x.natAbs, by omega⟩
        have hma : (m : Int).natAbs = m := by omega
        rw [hma] at hnx hxl
        clear hma
        go_wp2_with fail
        go_loopg [3, 6] m (fun gn dd aa wq => ∃ (u v : Nat), dd = .int .u64 (u : Int) ∧ aa = .int .u64 (v : Int) ∧ Hid (gn = v) ∧ Hid (Nat.gcd u v = contL xs (i + 1)) ∧ u ≤ 18446744073709551615 ∧ v ≤ 18446744073709551615 ∧ Hid (Below w.heap.size w wq))
        case atStart => exact ⟨d, m, rfl, rfl, rfl, hnx, hdl, hxl, hB⟩
        case round =>
          obtain ⟨u, v, rfl, rfl, hg, hgc, hu, hv, hB2⟩ := hrel
          clear hcell
          by_cases h0 : 0 < v
          · obtain ⟨r, hr⟩ : ∃ r, r = u % v := ⟨_, rfl⟩
            have hlt : r < v := by rw [hr]; exact Nat.mod_lt _ h0
            have hgc2 : Nat.gcd v r = contL xs (i + 1) := by rw [hr, ← hgc.out, Nat.gcd_comm u v, Nat.gcd_rec v u, Nat.gcd_comm]
            have h1 : (u : Int) % (v : Int) = (r : Int) := by rw [hr]; simp
            have ht : (u : Int).tmod (v : Int) = (r : Int) := by rw [Int.tmod_eq_emod_of_nonneg (by omega)]; exact h1
            have hw : IntKind.u64.wrap (r : Int) = (r : Int) := by rw [IntKind.wrap_u64]; omega
            have hv0 : ¬v = 0 := by omega
            have HGC := Lib.hid hgc2
            clear hr hgc2
            go_wp2_with fail
            go_region
            all_goals go_wp2_with fail
            go_roundg r
            case measure => rw [hg.out]; exact hlt
            case rel => exact ⟨v, r, rfl, rfl, rfl, HGC.out, hv, by omega, hB2.out.drew⟩
          · obtain rfl : v = 0 := by omega
            have he : Hid (u = contL xs (i + 1)) := by unfold Hid; rw [← hgc.out, Nat.gcd_zero_right]
            go_wp2_with fail
            go_roundw
            case rel => exact ⟨i + 1, u, by omega, by go_num, rfl, he, hB2⟩
            case measure => simp [intOf]; omega
    · obtain rfl : i = n := by omega
      go_wp2_with fail
      go_ret
      exact ⟨by rw [hd.out]; rfl, hB.out⟩
end Go.Proofs.YtfpcfcegdjlggaaGreat

namespace Go.Proofs.YtfpcfcegdjlggaaGreat
open Go.RowKit Minor

section
variable {a : Nat → Nat → Int} {n : Nat}

theorem bl_symm (hsym : ∀ i j, i < n → j < n → a i j = a j i) (x y : Nat → Int) : bl a n x y = bl a n y x := by
  unfold bl
  rw [S_swap]
  exact S_congr n fun r hr => S_congr n fun s hs => by rw [hsym s r hs hr]; grind

theorem nm_bl (x : Nat → Int) : Nm a n 0 x = bl a n x x := by
  unfold Nm bl
  exact S_congr n fun i _ => S_congr n fun j _ => by rw [B_zero]

theorem bl_pos (hsym : ∀ i j, i < n → j < n → a i j = a j i) (hD : ∀ m, m ≤ n → 0 < D a m) (x : Nat → Int) : 0 ≤ bl a n x x := by
  rw [← nm_bl]; exact Nm_pos hsym hD x n 0 (by omega)

theorem sch_num {N O q : Int} (hN : 0 ≤ N) (hO : 0 ≤ O) (h1 : ∀ s t : Int, 0 ≤ s * s * N - 2 * (s * t) * q + t * t * O) : q * q ≤ N * O := by
  rcases Int.lt_or_le 0 O with h | h
  · have e := h1 O q
    have e2 : O * O * N - 2 * (O * q) * q + q * q * O = O * (N * O - q * q) := by grind
    rw [e2] at e
    rcases Int.lt_or_le (N * O - q * q) 0 with h2 | h2
    · have := Int.mul_le_mul_of_nonneg_left (show N * O - q * q ≤ -1 by omega) hO
      omega
    · omega
  · obtain rfl : O = 0 := by omega
    have e := h1 1 (q * (N + 1))
    have e2 : 1 * 1 * N - 2 * (1 * (q * (N + 1))) * q + q * (N + 1) * (q * (N + 1)) * 0 = N - 2 * ((N + 1) * (q * q)) := by grind
    rw [e2] at e
    rw [Int.mul_zero]
    rcases Int.lt_or_le 0 (q * q) with h2 | h2
    · have := Int.mul_le_mul_of_nonneg_left (show 1 ≤ q * q by omega) (show 0 ≤ N + 1 by omega)
      omega
    · exact h2

theorem bl_two (hsym : ∀ i j, i < n → j < n → a i j = a j i) (x y : Nat → Int) (s t : Int) : bl a n (fun r => s * x r - t * y r) (fun r => s * x r - t * y r) = s * s * bl a n x x - 2 * (s * t) * bl a n x y + t * t * bl a n y y := by
  have hs : ∀ (z u : Nat → Int), bl a n (fun r => s * z r) u = s * bl a n z u := fun z u => by
    unfold bl
    rw [← S_smul]
    refine S_congr n fun r _ => ?_
    rw [← S_smul]
    exact S_congr n fun v _ => by grind
  rw [bl_left (a := a) t (fun r => s * x r) y, hs, bl_symm hsym x, bl_left (a := a) t (fun r => s * x r) y x, hs, bl_symm hsym y (fun r => s * x r - t * y r), bl_left (a := a) t (fun r => s * x r) y y, hs, bl_symm hsym y x]
  grind

theorem schwarz (hsym : ∀ i j, i < n → j < n → a i j = a j i) (hD : ∀ m, m ≤ n → 0 < D a m) (x y : Nat → Int) : bl a n x y * bl a n x y ≤ bl a n x x * bl a n y y :=
  sch_num (bl_pos hsym hD x) (bl_pos hsym hD y) fun s t => by rw [← bl_two hsym x y s t]; exact bl_pos hsym hD _

theorem lk_zero (hsym : ∀ i j, i < n → j < n → a i j = a j i) (hD : ∀ m, m ≤ n → 0 < D a m) (x : Nat → Int) (h : Nm a n 0 x = 0) : ∀ k, k ≤ n → Nm a n k x = 0 ∧ ∀ q, q < k → Lk a n q x = 0
  | 0, _ => ⟨h, fun q hq => by omega⟩
  | k + 1, hk => by
    obtain ⟨h1, h2⟩ := lk_zero hsym hD x h k (by omega)
    have e := Nm_step hsym hD x k (by omega)
    rw [h1, Int.mul_zero] at e
    have p0 := hD k (by omega)
    have p1 := Nm_pos hsym hD x (n - (k + 1)) (k + 1) (by omega)
    have p2 := Int.mul_nonneg (Int.le_of_lt p0) p1
    have p3 : 0 ≤ Lk a n k x * Lk a n k x := by
      rcases Int.le_total 0 (Lk a n k x) with h | h
      · exact Int.mul_nonneg h h
      · exact Int.mul_nonneg_of_nonpos_of_nonpos h h
    have e1 : D a k * Nm a n (k + 1) x = 0 := by omega
    have e2 : Lk a n k x * Lk a n k x = 0 := by omega
    refine ⟨(Int.mul_eq_zero.1 e1).resolve_left (by omega), fun q hq => ?_⟩
    by_cases eq : q = k
    · rw [eq]; rcases Int.mul_eq_zero.1 e2 with h | h <;> exact h
    · exact h2 q (by omega)

theorem sup_ex (f : Nat → Nat → Nat) (m : Nat) : ∀ n, ∃ G, ∀ k i, k < n → i < m → f k i ≤ G
  | 0 => ⟨0, fun k i hk => by omega⟩
  | n + 1 => by
    obtain ⟨G, hG⟩ := sup_ex f m n
    have row : ∀ m, ∃ G, ∀ i, i < m → f n i ≤ G := fun m => by
      induction m with
      | zero => exact ⟨0, fun i hi => by omega⟩
      | succ m ih =>
        obtain ⟨G, hG⟩ := ih
        refine ⟨G + f n m, fun i hi => ?_⟩
        by_cases e : i = m
        · rw [e]; omega
        · have := hG i (by omega); omega
    obtain ⟨G2, hG2⟩ := row m
    refine ⟨G + G2, fun k i hk hi => ?_⟩
    by_cases e : k = n
    · rw [e]; have := hG2 i hi; omega
    · have := hG k i (by omega) hi; omega

theorem bl_zero (hsym : ∀ i j, i < n → j < n → a i j = a j i) (hD : ∀ m, m ≤ n → 0 < D a m) (x : Nat → Int) (h : bl a n x x = 0) (r : Nat) (hr : r < n) : x r = 0 := by
  rw [← nm_bl] at h
  obtain ⟨G, hG⟩ := sup_ex (fun k i => (B a k i k).natAbs) n n
  have h1 := coords hsym hD x (R := 0) (G := G) (fun k hk => by rw [(lk_zero hsym hD x h n (Nat.le_refl _)).2 k hk]; decide) (fun k i hk hi => hG k i (by omega) hi) n 0 (by omega) r (Nat.zero_le _) hr
  rw [Nat.zero_mul] at h1
  omega

theorem bl_bound {x y : Nat → Int} {X Y Z : Nat} (hx : ∀ r, r < n → (x r).natAbs ≤ X) (hy : ∀ r, r < n → (y r).natAbs ≤ Y) (ha : ∀ r s, r < n → s < n → (a r s).natAbs ≤ Z) : (bl a n x y).natAbs ≤ n * (n * (X * Y * Z)) := by
  unfold bl
  refine (S_except (k := n) n fun r hr _ => (S_except (k := n) n fun s hs _ => ?_).1 (Nat.le_refl _)).1 (Nat.le_refl _)
  rw [Int.natAbs_mul, Int.natAbs_mul]
  exact Nat.mul_le_mul (Nat.mul_le_mul (hx r hr) (hy s hs)) (ha r s hr hs)
end

theorem prodZ_bl (hs : List (List Int)) (xs ys : List Int) (n : Nat) : prodZ hs xs ys n = bl (ent hs) n (fun r => xs.getD r 0) (fun r => ys.getD r 0) := by
  unfold prodZ bl
  rw [dotZ_S]
  refine S_congr n fun r _ => ?_
  rw [dotZ_S, ← S_smul]
  exact S_congr n fun s _ => by grind

theorem contL_zero (xs : List Int) : ∀ n, contL xs n = 0 ↔ ∀ i, i < n → xs.getD i 0 = 0
  | 0 => by unfold contL; simp
  | n + 1 => by
    unfold contL
    rw [Nat.gcd_eq_zero_iff, contL_zero xs n, Int.natAbs_eq_zero]
    constructor
    · rintro ⟨h1, h2⟩ i hi
      by_cases e : i = n
      · rw [e]; exact h2
      · exact h1 i (by omega)
    · intro h
      exact ⟨fun i hi => h i (by omega), h n (by omega)⟩
end Go.Proofs.YtfpcfcegdjlggaaGreat

namespace Go.Proofs.YtfpcfcegdjlggaaGreat
open Go.RowKit Minor

theorem innIs_yes {hs : List (List Int)} {xs ys : List Int} {n : Nat} {z : Int} {r : Bool} (h : InnIs hs xs ys n z r) (hr : RefRed hs) (hx : IsVec n xs) (hy : IsVec n ys) (hb : (prodZ hs xs ys n).natAbs ≤ 4611686018427387904) : r = true ∧ z = prodZ hs xs ys n := by
  obtain ⟨h1, h2⟩ := h
  have hr' : r = true := h1.2 ⟨⟨hr, hx, hy⟩, decide_eq_true (by omega)⟩
  subst hr'
  exact ⟨rfl, h2⟩

theorem isVec_of {n : Nat} {xs : List Int} {X : Nat} (hl : xs.length = n) (hx : ∀ i, i < n → (xs.getD i 0).natAbs ≤ X) (hX : X ≤ 1099511627776) : IsVec n xs :=
  ⟨hl, fun i hi => by have := hx i (by omega); omega⟩

theorem prod_smallL {hs : List (List Int)} {xs ys : List Int} {n : Nat} (hn : n ≤ 5) (hl : hs.length = n) (hr : RefRed hs) (hx : ∀ i, i < n → (xs.getD i 0).natAbs ≤ 20000) (hy : ∀ i, i < n → (ys.getD i 0).natAbs ≤ 128) : (prodZ hs xs ys n).natAbs ≤ 25 * (20000 * 128 * 1073741824) := by
  rw [prodZ_bl]
  refine Nat.le_trans (bl_bound (X := 20000) (Y := 128) (Z := 1073741824) hx hy fun r s hr' hs' => red_bound ((isRed_ref hs).2 hr) r s (by omega) (by omega)) ?_
  have h1 : n * (n * (20000 * 128 * 1073741824)) ≤ 5 * (5 * (20000 * 128 * 1073741824)) := Nat.mul_le_mul hn (Nat.mul_le_mul_right _ hn)
  omega

/-- Behind i rounds. -/
def linL (us bs : List Int) (c : Int) (n i : Nat) : List Int := (List.range n).map fun j => if j < i then us.getD j 0 + c * bs.getD j 0 else 0
theorem length_linL (us bs : List Int) (c : Int) (n i : Nat) : (linL us bs c n i).length = n := by simp [linL]
theorem linL_get (us bs : List Int) (c : Int) (n j : Nat) (h : j < n) : (linL us bs c n n).getD j 0 = us.getD j 0 + c * bs.getD j 0 := by simp [linL, List.getD_eq_getElem?_getD, h]
theorem linL_set (us bs : List Int) (c : Int) (n i : Nat) (_h : i < n) : (linL us bs c n i).set i (us.getD i 0 + c * bs.getD i 0) = linL us bs c n (i + 1) := by
  apply List.ext_getElem
  · simp [linL]
  · intro j h1 h2
    have hj : j < n := by simpa [linL] using h2
    rw [List.getElem_set]
    simp only [linL, List.getElem_map, List.getElem_range]
    by_cases e : i = j
    · rw [if_pos e, if_pos (by omega), e]
    · rw [if_neg e]
      by_cases h3 : j < i
      · rw [if_pos h3, if_pos (by omega)]
      · rw [if_neg h3, if_neg (by omega)]
theorem linL_zero (us bs : List Int) (c : Int) (n : Nat) : i64s (linL us bs c n 0) = List.replicate n (.int .i64 0) := by
  apply List.ext_getElem
  · simp [i64s, linL]
  · intro j h1 h2
    simp [i64s, linL]
theorem ownI_linL (w : World) (us bs : List Int) (c : Int) (n : Nat) : OwnI (w.alloc (.cells (madeCells #[.int .i64 0] n) 2)) w.heap.size (linL us bs c n 0) := by
  have hg := heap_alloc_new w (.cells (madeCells #[.int .i64 0] n) 2)
  refine ⟨_, hg, ?_⟩
  rw [length_linL, linL_zero, madeI64, List.take_of_length_le (by simp)]

theorem tape_small {ks : List Int} (h : ∀ i, -128 ≤ ks.getD i 0 ∧ ks.getD i 0 ≤ 127) (n i : Nat) (hi : i < n) : ((tapeL ks n).getD i 0).natAbs ≤ 128 := by
  rw [get_tapeL ks n i hi]
  have := h i
  omega

/-- What the law says, of numbers. -/
theorem lin_num {hs : List (List Int)} {us bs ws zs : List Int} {c : Int} {n : Nat} (hl : hs.length = n) (hr : RefRed hs) (hz : ∀ j, j < n → zs.getD j 0 = us.getD j 0 + c * bs.getD j 0) :
    prodZ hs zs ws n = prodZ hs us ws n + c * prodZ hs ws bs n ∧ prodZ hs us ws n * prodZ hs us ws n ≤ prodZ hs us us n * prodZ hs ws ws n ∧ (1 ≤ prodZ hs us us n ↔ contL us n ≠ 0) := by
  have hred := (isRed_ref hs).2 hr
  have hsym : ∀ i j, i < n → j < n → ent hs i j = ent hs j i := by rw [← hl]; exact red_sym hred
  have hD : ∀ m, m ≤ n → 0 < D (ent hs) m := by rw [← hl]; exact ((isRed_iff hs).1 hred).2.2.1.pos
  rw [prodZ_bl, prodZ_bl, prodZ_bl, prodZ_bl, prodZ_bl]
  refine ⟨?_, schwarz hsym hD _ _, ?_⟩
  · rw [bl_congr (x' := fun r => us.getD r 0 - (-c) * bs.getD r 0) (fun r hr' => by rw [hz r hr']; grind) (fun r _ => rfl), bl_left, bl_symm hsym (fun r => ws.getD r 0) (fun r => bs.getD r 0)]
    grind
  · have hp := bl_pos hsym hD (fun r => us.getD r 0)
    rw [Ne, contL_zero]
    constructor
    · intro h1 h2
      have e : bl (ent hs) n (fun r => us.getD r 0) (fun r => us.getD r 0) = 0 := by
        unfold bl
        exact S_zero n fun r hr' => S_zero n fun s _ => by
          show us.getD r 0 * us.getD s 0 * ent hs r s = 0
          rw [h2 r hr', Int.zero_mul, Int.zero_mul]
      omega
    · intro h1
      rcases Int.lt_or_le 0 (bl (ent hs) n (fun r => us.getD r 0) (fun r => us.getD r 0)) with h | h
      · omega
      · have h0 : bl (ent hs) n (fun r => us.getD r 0) (fun r => us.getD r 0) = 0 := by omega
        exact absurd (fun i hi => bl_zero hsym hD (fun r => us.getD r 0) h0 i hi) h1

theorem lin_mul {c r : Int} {R : Nat} (hc : -128 ≤ c ∧ c ≤ 127) (hr : r.natAbs ≤ R) : (c * r).natAbs ≤ 128 * R := by
  rw [Int.natAbs_mul]
  exact Nat.mul_le_mul (by omega) hr

theorem mg_lin {z : Int} (h : z.natAbs ≤ 4611686018427387904) : (mg z).length ≤ 1000000 :=
  cB_short (k := 0) (by omega) (Nat.le_trans h (Nat.le_trans (show 4611686018427387904 ≤ 2 ^ 62 by decide) (cB_ge 0 62 (by decide))))
theorem mg_lin2 {x y : Int} (hx : x.natAbs ≤ 4611686018427387904) (hy : y.natAbs ≤ 4611686018427387904) : (mg (x * y)).length ≤ 1000000 :=
  cB_short (k := 0) (by omega) (Nat.le_trans (by rw [Int.natAbs_mul]; exact Nat.mul_le_mul hx hy) (Nat.le_trans (show 4611686018427387904 * 4611686018427387904 ≤ 2 ^ 124 by decide) (cB_ge 0 124 (by decide))))

set_option maxRecDepth 100000 in
set_option maxHeartbeats 4000000 in
theorem vectorLinear_walk (dim kind : Nat) (al ab : Option Addr) (nl capl nb capb : Nat) (ks : List Int) (a1 : Option Addr) (n1 cap1 : Nat) (x1 : List Int) (a2 : Option Addr) (n2 cap2 : Nat) (x2 : List Int) (a3 : Option Addr) (n3 cap3 : Nat) (x3 : List Int) (c : Int) (w : World) (hr : Rd8 w al ks) (hl : ks.length = nl) (hnl : nl ≤ 200000000000000) (hdim : dim ≤ 255) (hkind : kind ≤ 255)
    (hr1 : Rd8 w a1 x1) (hl1 : x1.length = n1) (hn1 : n1 ≤ 200000000000000) (hr2 : Rd8 w a2 x2) (hl2 : x2.length = n2) (hn2 : n2 ≤ 200000000000000) (hr3 : Rd8 w a3 x3) (hl3 : x3.length = n3) (hn3 : n3 ≤ 200000000000000) (hc : -128 ≤ c ∧ c ≤ 127) :
    Calls Tryz.prog 9 #[.agg #[.int .u8 (dim : Int), .int .u8 (kind : Int), .slice al nl capl, .slice ab nb capb], .slice a1 n1 cap1, .slice a2 n2 cap2, .slice a3 n3 cap3, .int .i8 c] w fun e w' => e = .returned (.bool true) ∧ Below w.heap.size w w' := by
  obtain ⟨n, hn⟩ : ∃ n, 1 + dim % 5 = n := ⟨_, rfl⟩
  have hn8 : n ≤ 5 := by omega
  obtain ⟨V, hV⟩ : ∃ V, V = w.alloc (.cells #[.int .u8 (dim : Int), .int .u8 (kind : Int), .slice al nl capl, .slice ab nb capb] 26) := ⟨_, rfl⟩
  have HB0 : Hid (Below w.heap.size w V) := by rw [hV]; exact (Below.refl _ _).alloc (Nat.le_refl _) _
  have hbx : Hid (BoxR w.heap.size (.int .u8 (dim : Int)) (.int .u8 (kind : Int)) (.slice al nl capl) (.slice ab nb capb) V) := by rw [hV]; exact BoxR.made _ _ rfl _ _ _ _ _
  have HVV : Hid (w.alloc (.cells #[.int .u8 (dim : Int), .int .u8 (kind : Int), .slice al nl capl, .slice ab nb capb] 26) = V) := hV.symm
  have hform : Hid (Calls Tryz.prog 10 #[.agg #[.int .u8 (dim : Int), .int .u8 (kind : Int), .slice al nl capl, .slice ab nb capb], .int .i64 5] V (GivesFm2 V n)) := rform_red dim kind al ab nl capl nb capb 5 n ks V (hr.below HB0.out) hl hnl hdim hkind (by omega) (by omega) hn
  have HR1 := Lib.hid hr1
  have HL1 := Lib.hid hl1
  have HR2 := Lib.hid hr2
  have HL2 := Lib.hid hl2
  have HR3 := Lib.hid hr3
  have HL3 := Lib.hid hl3
  have HC := Lib.hid hc
  have hmk2 : Hid (∀ W : World, _) := fun W => run_make_row' (P := Tryz.prog) 23 2 (.int .i64 0) 8 Tryz.underlying23 infoH rfl .i64 .i64 n (by omega) (by omega) W
  obtain ⟨b0, b1, b2, b3, b4, b5⟩ := hbx.out
  clear hr hl hnl hdim hkind hn hV hr1 hl1 hr2 hl2 hr3 hl3 hc
  go_enter Tryz.func9, Tryz.ntmps9
  go_wp2_with fail
  rw [HVV.out]
  go_wp2_with fail
  refine hform.out.mono ?_
  rintro e w1 ⟨G, hs, rfl, hlen, hred, hrm, hG, hb1⟩
  have HLM := Lib.hid hlen
  have HRM := Lib.hid hrm
  have HRED := Lib.hid hred
  have HB1 : Hid (Below w.heap.size w w1) := HB0.out.trans (hb1.mono HB0.out.size)
  clear hlen hred hrm hG hb1 b0 b1 b2 b3 b4 b5
  go_wp2_with fail
  refine (vector_rd a1 n1 cap1 n x1 _ (HR1.out.below HB1.out) HL1.out hn1 (by omega)).mono ?_
  rintro e w2 ⟨g1, rfl, ho, hx, hg1, hb⟩
  have HO1 := Lib.hid ho
  have HV1 := Lib.hid hx
  have HS1 : Hid (∀ j, j < n → ((tapeL x1 n).getD j 0).natAbs ≤ 128) := fun j hj => tape_small HR1.out.get n j hj
  have HN1 : Hid ((tapeL x1 n).length = n) := length_tapeL x1 n
  have HB2 : Hid (Below w.heap.size w w2) := HB1.out.trans (hb.mono HB1.out.size)
  replace HRM := Lib.hid (HRM.out.below hb)
  clear ho hx hb
  go_wp2_with fail
  refine (vector_rd a2 n2 cap2 n x2 _ (HR2.out.below HB2.out) HL2.out hn2 (by omega)).mono ?_
  rintro e w3 ⟨g2, rfl, ho, hx, hg2, hb⟩
  have HO2 := Lib.hid ho
  have HV2 := Lib.hid hx
  have HS2 : Hid (∀ j, j < n → ((tapeL x2 n).getD j 0).natAbs ≤ 128) := fun j hj => tape_small HR2.out.get n j hj
  have HN2 : Hid ((tapeL x2 n).length = n) := length_tapeL x2 n
  have HB3 : Hid (Below w.heap.size w w3) := HB2.out.trans (hb.mono HB2.out.size)
  replace HRM := Lib.hid (HRM.out.below hb)
  replace HV1 := Lib.hid (HV1.out.below hb)
  replace HO1 : Hid (OwnI w3 g1 (tapeL x1 n)) := HO1.out.below hb (by have := HO1.out.lt; omega)
  clear ho hx hb
  go_wp2_with fail
  refine (vector_rd a3 n3 cap3 n x3 _ (HR3.out.below HB3.out) HL3.out hn3 (by omega)).mono ?_
  rintro e w4 ⟨g3, rfl, ho, hx, hg3, hb⟩
  have HO3 := Lib.hid ho
  have HV3 := Lib.hid hx
  have HS3 : Hid (∀ j, j < n → ((tapeL x3 n).getD j 0).natAbs ≤ 128) := fun j hj => tape_small HR3.out.get n j hj
  have HN3 : Hid ((tapeL x3 n).length = n) := length_tapeL x3 n
  have HB4 : Hid (Below w.heap.size w w4) := HB3.out.trans (hb.mono HB3.out.size)
  replace HRM := Lib.hid (HRM.out.below hb)
  replace HV1 := Lib.hid (HV1.out.below hb)
  replace HO1 : Hid (OwnI w4 g1 (tapeL x1 n)) := HO1.out.below hb (by have := HO1.out.lt; omega)
  replace HV2 := Lib.hid (HV2.out.below hb)
  replace HO2 : Hid (OwnI w4 g2 (tapeL x2 n)) := HO2.out.below hb (by have := HO2.out.lt; omega)
  clear ho hx hb
  obtain ⟨us, hus⟩ : ∃ l, l = tapeL x1 n := ⟨_, rfl⟩
  obtain ⟨bs, hbs⟩ : ∃ l, l = tapeL x2 n := ⟨_, rfl⟩
  obtain ⟨ws, hws⟩ : ∃ l, l = tapeL x3 n := ⟨_, rfl⟩
  rw [← hus] at HO1 HV1 HS1 HN1
  rw [← hbs] at HO2 HV2 HS2 HN2
  rw [← hws] at HO3 HV3 HS3 HN3
  clear hus hbs hws
  have hmk1 := hmk2.out w4
  have HOZ : Hid (OwnI (w4.alloc (.cells (madeCells #[.int .i64 0] n) 2)) w4.heap.size (linL us bs c n 0)) := ownI_linL w4 us bs c n
  have HBZ : Hid (Below w4.heap.size w4 (w4.alloc (.cells (madeCells #[.int .i64 0] n) 2))) := (Below.refl _ _).alloc (Nat.le_refl _) _
  obtain ⟨g4, hg4⟩ : ∃ g, g = w4.heap.size := ⟨_, rfl⟩
  rw [← hg4] at HOZ hmk1
  have HG4 := Lib.hid hg4
  clear hg4
  go_wp2_with fail
  go_loopw [47] (fun ii wr => ∃ i : Nat, i ≤ n ∧ ii = .int .i64 (i : Int) ∧ Hid (OwnI wr g4 (linL us bs c n i)) ∧ Hid (Below w4.heap.size w4 wr)) (fun ii _ => n - (intOf ii).toNat)
  case atStart => exact ⟨0, by omega, rfl, HOZ, HBZ⟩
  case round =>
    obtain ⟨i, hin, rfl, hO, hB⟩ := hrel
    clear HOZ HBZ hmk1
    by_cases hi : i < n
    · have hi64 : (i : Int) < (n : Int) := by omega
      have hi0 : (0 : Int) ≤ (i : Int) := by omega
      have l1 := HO1.out.lt
      have l2 := HO2.out.lt
      have ho1 := HO1.out.below hB.out l1
      have ho2 := HO2.out.below hB.out l2
      have c1 := ho1.cell i (by rw [HN1.out]; exact hi)
      have c2 := ho2.cell i (by rw [HN2.out]; exact hi)
      have c4 := hO.out.cell i (by rw [length_linL]; exact hi)
      have f4 := hO.out.free i
      have s1 := HS1.out i hi
      have s2 := HS2.out i hi
      have hm := lin_mul (c := c) (r := bs.getD i 0) HC.out s2
      have e1 : IntKind.i64.wrap c = c := by have := HC.out; rw [IntKind.wrap_i64]; omega
      obtain ⟨u, hu⟩ : ∃ z, z = us.getD i 0 := ⟨_, rfl⟩
      obtain ⟨v, hv⟩ : ∃ z, z = bs.getD i 0 := ⟨_, rfl⟩
      obtain ⟨y, hy⟩ : ∃ z, z = (linL us bs c n i).getD i 0 := ⟨_, rfl⟩
      have hnx : Hid (∀ q5, Hid (OwnI ((wr.setCell ⟨g4, i, none⟩ (.int .i64 (u + c * v))).drewN q5) g4 (linL us bs c n (i + 1))) ∧ Hid (Below w4.heap.size w4 ((wr.setCell ⟨g4, i, none⟩ (.int .i64 (u + c * v))).drewN q5))) := fun q5 => by
        have st := hO.out.store i (us.getD i 0 + c * bs.getD i 0)
        rw [linL_set us bs c n i hi, ← hu, ← hv] at st
        have hb2 := hB.out.setCell (p := ⟨g4, i, none⟩) (by have := HG4.out; show w4.heap.size ≤ g4; omega) (.int .i64 (u + c * v))
        exact ⟨st.of_heap rfl, below_drewN' hb2 q5⟩
      rw [← hu] at c1 s1
      rw [← hv] at c2 s2 hm
      rw [← hy] at c4
      clear hu hv hy ho1 ho2
      have e2 : IntKind.i64.wrap (c * v) = c * v := by rw [IntKind.wrap_i64]; omega
      have e3 : IntKind.i64.wrap (u + c * v) = u + c * v := by rw [IntKind.wrap_i64]; omega
      have hne1 : ¬(g4 = g1) := by have := HG4.out; omega
      have hne2 : ¬(g4 = g2) := by have := HG4.out; omega
      clear hO hB hm l1 l2
      go_wp2_with fail
      go_region
      all_goals go_wp2_with fail
      all_goals go_roundw
      case rel =>
        first
          | exact ⟨i + 1, by omega, by go_num, hnx.out 1⟩
          | exact ⟨i + 1, by omega, by go_num, hnx.out _⟩
      case measure => simp [intOf]; omega
    · obtain rfl : i = n := by omega
      obtain ⟨zs, hzs⟩ : ∃ l, l = linL us bs c i i := ⟨_, rfl⟩
      have hz : ∀ j, j < i → zs.getD j 0 = us.getD j 0 + c * bs.getD j 0 := fun j hj => by rw [hzs]; exact linL_get us bs c i j hj
      have hzl : zs.length = i := by rw [hzs]; exact length_linL us bs c i i
      have hzS : ∀ j, j < i → (zs.getD j 0).natAbs ≤ 20000 := fun j hj => by
        rw [hz j hj]
        have h1 := HS1.out j hj
        have h2 := lin_mul (c := c) HC.out (HS2.out j hj)
        omega
      rw [← hzs] at hO
      have HZ : Hid (RdI wr (some ⟨g4, 0, none⟩) i zs) := hO.out.rd (by rw [hzl]; exact Nat.le_refl _) fun x hx => by
        obtain ⟨j, hj, rfl⟩ := List.getElem_of_mem hx
        have h := hzS j (by omega)
        rw [List.getD_eq_getElem?_getD, List.getElem?_eq_getElem hj, Option.getD_some] at h
        unfold I64
        omega
      have HZL := Lib.hid hzl
      have hl := HLM.out
      have hr := HRED.out
      have hu128 : ∀ j, j < i → (us.getD j 0).natAbs ≤ 20000 := fun j hj => Nat.le_trans (HS1.out j hj) (by decide)
      have hw128 : ∀ j, j < i → (ws.getD j 0).natAbs ≤ 20000 := fun j hj => Nat.le_trans (HS3.out j hj) (by decide)
      have iz := isVec_of hzl hzS (by decide)
      have iu := isVec_of HN1.out hu128 (by decide)
      have ib := isVec_of HN2.out HS2.out (by decide)
      have iw := isVec_of HN3.out hw128 (by decide)
      have b1 := prod_smallL (xs := zs) (ys := ws) hn8 hl hr hzS HS3.out
      have b2 := prod_smallL (xs := us) (ys := ws) hn8 hl hr hu128 HS3.out
      have b3 := prod_smallL (xs := ws) (ys := bs) hn8 hl hr hw128 HS2.out
      have b4 := prod_smallL (xs := us) (ys := us) hn8 hl hr hu128 HS1.out
      have b5 := prod_smallL (xs := ws) (ys := ws) hn8 hl hr hw128 HS3.out
      obtain ⟨k1, k2, k3⟩ := lin_num (ws := ws) hl hr hz
      obtain ⟨z1, r1, hi1⟩ := innIs_ex hs zs ws i
      obtain ⟨rfl, hq1⟩ := innIs_yes hi1 hr iz iw (by omega)
      have HI1 := Lib.hid hi1
      rw [← hq1] at b1
      obtain ⟨z2, r2, hi2⟩ := innIs_ex hs us ws i
      obtain ⟨rfl, hq2⟩ := innIs_yes hi2 hr iu iw (by omega)
      have HI2 := Lib.hid hi2
      rw [← hq2] at b2
      obtain ⟨z3, r3, hi3⟩ := innIs_ex hs ws bs i
      obtain ⟨rfl, hq3⟩ := innIs_yes hi3 hr iw ib (by omega)
      have HI3 := Lib.hid hi3
      rw [← hq3] at b3
      obtain ⟨z4, r4, hi4⟩ := innIs_ex hs us us i
      obtain ⟨rfl, hq4⟩ := innIs_yes hi4 hr iu iu (by omega)
      have HI4 := Lib.hid hi4
      rw [← hq4] at b4
      obtain ⟨z5, r5, hi5⟩ := innIs_ex hs ws ws i
      obtain ⟨rfl, hq5⟩ := innIs_yes hi5 hr iw iw (by omega)
      have HI5 := Lib.hid hi5
      rw [← hq5] at b5
      rw [← hq1, ← hq2, ← hq3] at k1
      rw [← hq2, ← hq4, ← hq5] at k2
      rw [← hq4] at k3
      have m3 := lin_mul HC.out b3
      have e1 : IntKind.i64.wrap c = c := by have := HC.out; rw [IntKind.wrap_i64]; omega
      have e2 : IntKind.i64.wrap (c * z3) = c * z3 := by rw [IntKind.wrap_i64]; omega
      have e3 : IntKind.i64.wrap (z2 + c * z3) = z1 := by rw [IntKind.wrap_i64]; omega
      have e4 : (z1 == z1) = true := by simp
      have B2 := Lib.hid b2
      have B4 := Lib.hid b4
      have B5 := Lib.hid b5
      have K2 := Lib.hid k2
      have K3 := Lib.hid k3
      have HRM1 := Lib.hid (HRM.out.below hB.out)
      have HU1 := Lib.hid (HV1.out.below hB.out)
      have HY1 := Lib.hid (HV2.out.below hB.out)
      have HW1 := Lib.hid (HV3.out.below hB.out)
      have HZ1 := HZ
      have HA1 : Hid (Below w.heap.size w wr) := HB4.out.trans (hB.out.mono HB4.out.size)
      clear hO hB hz hzs hzl hzS hl hr hu128 hw128 iz iu ib iw b1 b2 b3 b4 b5 k1 k2 k3 m3 hi1 hi2 hi3 hi4 hi5 hq1 hq2 hq3 hq4 hq5
      go_wp2_with fail
      refine (inner_eq HI1.out HRM1.out HLM.out (by omega) HZ1.out HZL.out (by omega) HW1.out HN3.out (by omega)).mono ?_
      rintro e v2 ⟨rfl, hb⟩
      have HRM2 := Lib.hid (HRM1.out.below hb)
      have HZ2 := Lib.hid (HZ1.out.below hb)
      have HU2 := Lib.hid (HU1.out.below hb)
      have HY2 := Lib.hid (HY1.out.below hb)
      have HW2 := Lib.hid (HW1.out.below hb)
      have HA2 : Hid (Below w.heap.size w v2) := HA1.out.trans (hb.mono HA1.out.size)
      clear hb
      go_wp2_with fail
      refine (inner_eq HI2.out HRM2.out HLM.out (by omega) HU2.out HN1.out (by omega) HW2.out HN3.out (by omega)).mono ?_
      rintro e v3 ⟨rfl, hb⟩
      have HRM3 := Lib.hid (HRM2.out.below hb)
      have HZ3 := Lib.hid (HZ2.out.below hb)
      have HU3 := Lib.hid (HU2.out.below hb)
      have HY3 := Lib.hid (HY2.out.below hb)
      have HW3 := Lib.hid (HW2.out.below hb)
      have HA3 : Hid (Below w.heap.size w v3) := HA2.out.trans (hb.mono HA2.out.size)
      clear hb
      go_wp2_with fail
      refine (inner_eq HI3.out HRM3.out HLM.out (by omega) HW3.out HN3.out (by omega) HY3.out HN2.out (by omega)).mono ?_
      rintro e v4 ⟨rfl, hb⟩
      have HRM4 := Lib.hid (HRM3.out.below hb)
      have HZ4 := Lib.hid (HZ3.out.below hb)
      have HU4 := Lib.hid (HU3.out.below hb)
      have HY4 := Lib.hid (HY3.out.below hb)
      have HW4 := Lib.hid (HW3.out.below hb)
      have HA4 : Hid (Below w.heap.size w v4) := HA3.out.trans (hb.mono HA3.out.size)
      clear hb
      go_wp2_with fail
      refine (norm_eq HI4.out HRM4.out HLM.out (by omega) HU4.out HN1.out (by omega)).mono ?_
      rintro e v5 ⟨rfl, hb⟩
      have HRM5 := Lib.hid (HRM4.out.below hb)
      have HZ5 := Lib.hid (HZ4.out.below hb)
      have HU5 := Lib.hid (HU4.out.below hb)
      have HY5 := Lib.hid (HY4.out.below hb)
      have HW5 := Lib.hid (HW4.out.below hb)
      have HA5 : Hid (Below w.heap.size w v5) := HA4.out.trans (hb.mono HA4.out.size)
      clear hb
      go_wp2_with fail
      refine (norm_eq HI5.out HRM5.out HLM.out (by omega) HW5.out HN3.out (by omega)).mono ?_
      rintro e v6 ⟨rfl, hb⟩
      have HRM6 := Lib.hid (HRM5.out.below hb)
      have HZ6 := Lib.hid (HZ5.out.below hb)
      have HU6 := Lib.hid (HU5.out.below hb)
      have HY6 := Lib.hid (HY5.out.below hb)
      have HW6 := Lib.hid (HW5.out.below hb)
      have HA6 : Hid (Below w.heap.size w v6) := HA5.out.trans (hb.mono HA5.out.size)
      clear hb
      go_wp2_with fail
      refine (rcontent_any _ _ _ us _ HU6.out HN1.out (by omega)).mono ?_
      rintro e v7 ⟨rfl, hb⟩
      have HA7 : Hid (Below w.heap.size w v7) := HA6.out.trans (hb.mono HA6.out.size)
      clear hb
      have hk3 := K3.out
      obtain ⟨K, hK⟩ : ∃ K, K = contL us i := ⟨_, rfl⟩
      rw [← hK] at hk3 ⊢
      clear hK
      have y1 : cmpZ (z2 * z2) (z4 * z5) ≤ 0 := by have := K2.out; unfold cmpZ; split <;> (try split) <;> omega
      have Y1 := Lib.hid y1
      clear y1
      by_cases hz0 : K = 0
      · subst hz0
        have h41 : ¬(1 ≤ z4) := fun h => hk3.1 h rfl
        have h42 : decide (1 ≤ z4) = false := decide_eq_false h41
        clear hk3
        go_wp2_with fail
        refine (smallZ z2 (by have := B2.out; omega) (by have := B2.out; omega)).mono ?_
        rintro e s8 ⟨p8, d8, rfl, hr, hb⟩
        have HL8 := Lib.hid hr
        have HA8 : Hid (Below w.heap.size w s8) := HA7.out.trans (hb.mono HA7.out.size)
        clear hr hb
        go_wp2_with fail
        refine (smallZ z2 (by have := B2.out; omega) (by have := B2.out; omega)).mono ?_
        rintro e s9 ⟨p9, d9, rfl, hr, hb⟩
        have HL9 := Lib.hid hr
        have HA9 : Hid (Below w.heap.size w s9) := HA8.out.trans (hb.mono HA8.out.size)
        replace HL8 := Lib.hid (HL8.out.below hb)
        clear hr hb
        go_wp2_with fail
        refine (mulZ HL8.out HL9.out (mg_lin (by have := B2.out; omega)) (mg_lin (by have := B2.out; omega))).mono ?_
        rintro e s10 ⟨p10, d10, rfl, hr, hb⟩
        have HL10 := Lib.hid hr
        have HA10 : Hid (Below w.heap.size w s10) := HA9.out.trans (hb.mono HA9.out.size)
        clear hr hb
        go_wp2_with fail
        refine (smallZ z4 (by have := B4.out; omega) (by have := B4.out; omega)).mono ?_
        rintro e s11 ⟨p11, d11, rfl, hr, hb⟩
        have HL11 := Lib.hid hr
        have HA11 : Hid (Below w.heap.size w s11) := HA10.out.trans (hb.mono HA10.out.size)
        replace HL10 := Lib.hid (HL10.out.below hb)
        clear hr hb
        go_wp2_with fail
        refine (smallZ z5 (by have := B5.out; omega) (by have := B5.out; omega)).mono ?_
        rintro e s12 ⟨p12, d12, rfl, hr, hb⟩
        have HL12 := Lib.hid hr
        have HA12 : Hid (Below w.heap.size w s12) := HA11.out.trans (hb.mono HA11.out.size)
        replace HL10 := Lib.hid (HL10.out.below hb)
        replace HL11 := Lib.hid (HL11.out.below hb)
        clear hr hb
        go_wp2_with fail
        refine (mulZ HL11.out HL12.out (mg_lin (by have := B4.out; omega)) (mg_lin (by have := B5.out; omega))).mono ?_
        rintro e s13 ⟨p13, d13, rfl, hr, hb⟩
        have HL13 := Lib.hid hr
        have HA13 : Hid (Below w.heap.size w s13) := HA12.out.trans (hb.mono HA12.out.size)
        replace HL10 := Lib.hid (HL10.out.below hb)
        clear hr hb
        go_wp2_with fail
        refine (cmpZZ HL10.out HL13.out (mg_lin2 (by have := B2.out; omega) (by have := B2.out; omega)) (mg_lin2 (by have := B4.out; omega) (by have := B5.out; omega))).mono ?_
        rintro e s14 ⟨rfl, hb⟩
        have HA14 : Hid (Below w.heap.size w s14) := HA13.out.trans (hb.mono HA13.out.size)
        clear hb
        obtain ⟨cz, hcz⟩ : ∃ z, z = cmpZ (z2 * z2) (z4 * z5) := ⟨_, rfl⟩
        have hle : cz ≤ 0 := by rw [hcz]; exact Y1.out
        have hle2 : decide (cz ≤ 0) = true := decide_eq_true hle
        rw [← hcz]
        clear hcz
        go_wp2_with fail
        refine (vawake_any _).mono ?_
        rintro e s15 ⟨rfl, hb⟩
        have HA15 : Hid (Below w.heap.size w s15) := HA14.out.trans (hb.mono HA14.out.size)
        clear hb
        go_wp2_with fail
        go_ret
        exact ⟨rfl, HA15.out⟩
      · have h41 : 1 ≤ z4 := hk3.2 hz0
        have h42 : decide (1 ≤ z4) = true := decide_eq_true h41
        have h43 : ((K : Int) == 0) = false := by simp [hz0]
        clear hk3
        go_wp2_with fail
        refine (smallZ z2 (by have := B2.out; omega) (by have := B2.out; omega)).mono ?_
        rintro e s8 ⟨p8, d8, rfl, hr, hb⟩
        have HL8 := Lib.hid hr
        have HA8 : Hid (Below w.heap.size w s8) := HA7.out.trans (hb.mono HA7.out.size)
        clear hr hb
        go_wp2_with fail
        refine (smallZ z2 (by have := B2.out; omega) (by have := B2.out; omega)).mono ?_
        rintro e s9 ⟨p9, d9, rfl, hr, hb⟩
        have HL9 := Lib.hid hr
        have HA9 : Hid (Below w.heap.size w s9) := HA8.out.trans (hb.mono HA8.out.size)
        replace HL8 := Lib.hid (HL8.out.below hb)
        clear hr hb
        go_wp2_with fail
        refine (mulZ HL8.out HL9.out (mg_lin (by have := B2.out; omega)) (mg_lin (by have := B2.out; omega))).mono ?_
        rintro e s10 ⟨p10, d10, rfl, hr, hb⟩
        have HL10 := Lib.hid hr
        have HA10 : Hid (Below w.heap.size w s10) := HA9.out.trans (hb.mono HA9.out.size)
        clear hr hb
        go_wp2_with fail
        refine (smallZ z4 (by have := B4.out; omega) (by have := B4.out; omega)).mono ?_
        rintro e s11 ⟨p11, d11, rfl, hr, hb⟩
        have HL11 := Lib.hid hr
        have HA11 : Hid (Below w.heap.size w s11) := HA10.out.trans (hb.mono HA10.out.size)
        replace HL10 := Lib.hid (HL10.out.below hb)
        clear hr hb
        go_wp2_with fail
        refine (smallZ z5 (by have := B5.out; omega) (by have := B5.out; omega)).mono ?_
        rintro e s12 ⟨p12, d12, rfl, hr, hb⟩
        have HL12 := Lib.hid hr
        have HA12 : Hid (Below w.heap.size w s12) := HA11.out.trans (hb.mono HA11.out.size)
        replace HL10 := Lib.hid (HL10.out.below hb)
        replace HL11 := Lib.hid (HL11.out.below hb)
        clear hr hb
        go_wp2_with fail
        refine (mulZ HL11.out HL12.out (mg_lin (by have := B4.out; omega)) (mg_lin (by have := B5.out; omega))).mono ?_
        rintro e s13 ⟨p13, d13, rfl, hr, hb⟩
        have HL13 := Lib.hid hr
        have HA13 : Hid (Below w.heap.size w s13) := HA12.out.trans (hb.mono HA12.out.size)
        replace HL10 := Lib.hid (HL10.out.below hb)
        clear hr hb
        go_wp2_with fail
        refine (cmpZZ HL10.out HL13.out (mg_lin2 (by have := B2.out; omega) (by have := B2.out; omega)) (mg_lin2 (by have := B4.out; omega) (by have := B5.out; omega))).mono ?_
        rintro e s14 ⟨rfl, hb⟩
        have HA14 : Hid (Below w.heap.size w s14) := HA13.out.trans (hb.mono HA13.out.size)
        clear hb
        obtain ⟨cz, hcz⟩ : ∃ z, z = cmpZ (z2 * z2) (z4 * z5) := ⟨_, rfl⟩
        have hle : cz ≤ 0 := by rw [hcz]; exact Y1.out
        have hle2 : decide (cz ≤ 0) = true := decide_eq_true hle
        rw [← hcz]
        clear hcz
        go_wp2_with fail
        refine (vawake_any _).mono ?_
        rintro e s15 ⟨rfl, hb⟩
        have HA15 : Hid (Below w.heap.size w s15) := HA14.out.trans (hb.mono HA14.out.size)
        clear hb
        go_wp2_with fail
        go_ret
        exact ⟨rfl, HA15.out⟩
end Go.Proofs.YtfpcfcegdjlggaaGreat

