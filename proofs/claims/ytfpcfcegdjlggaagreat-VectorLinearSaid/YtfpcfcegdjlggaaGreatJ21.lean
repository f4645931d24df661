/-
  Joined texts: UY HR HS HT HU YL.
-/
import Derived.Test.YtfpcfcegdjlggaaGreatJ14
import Derived.Test.YtfpcfcegdjlggaaGreatJ17
import Derived.Test.YtfpcfcegdjlggaaGreatJ20
import Derived.Deep.CutBlock
import Derived.Test.YtfpcfcegdjlggaaGreatJ03
import Derived.Lib.SmallJoins
import Derived.Test.YtfpcfcegdjlggaaGreatJ02
namespace Go.Proofs.YtfpcfcegdjlggaaGreat
open Go.RowKit Minor

set_option maxRecDepth 100000 in
set_option maxHeartbeats 4000000 in
theorem rapply_any (g n m cap bx cx t : Nat) (R : Nat → Nat) (M : Nat → Nat → Int) (f : Nat → Int) (w : World) (hM : MatZ w g n m R M) (hf : RowZ w bx m f) (h1 : 1 ≤ n) (h2 : n ≤ 16) (h3 : 1 ≤ m) (h4 : m ≤ 16) (ht : t ≤ 8) (hs : ∀ i j, i < n → j < m → (M i j).natAbs ≤ cB t ∧ (f j).natAbs ≤ cB t) :
    Calls Tryz.prog 81 #[.slice (some ⟨g, 0, none⟩) n cap, .slice (some ⟨bx, 0, none⟩) m cx] w fun e w' => ∃ b c, e = .returned (.tuple #[.slice (some ⟨b, 0, none⟩) n c, .bool true]) ∧ RowZ w' b n (fun i => dotZ (M i) f m) ∧ Below w.heap.size w w' := by
  have HM := Lib.hid hM
  have HF := Lib.hid hf
  have HS := Lib.hid hs
  have d5 : ((m : Int) == (m : Int)) = true := by simp
  clear hM hf hs
  go_enter Tryz.func81, Tryz.ntmps81
  go_wp2_with fail
  refine (rshape_any g n m cap R M _ HM.out h1 h2 h3 h4).mono ?_
  rintro e w1 ⟨rfl, hb1⟩
  have HB1 := Lib.hid hb1
  clear hb1
  go_wp2_with fail
  go_loopw [9, 28] (fun vv ii wr => ∃ i : Nat, i ≤ n ∧ ii = .int .i64 (i : Int) ∧ Hid (RowB wr w.heap.size vv i (fun i => dotZ (M i) f m)) ∧ Hid (Below w.heap.size w wr)) (fun _ ii _ => n - (intOf ii).toNat)
  case atStart => exact ⟨0, by omega, rfl, RowB.nil _ _ _, HB1⟩
  case round =>
    obtain ⟨i, hin, rfl, hR, hB⟩ := hrel
    by_cases hi : i < n
    · obtain ⟨co, oo⟩ := (HM.out.below hB.out).outer i hi
      have HRi : Hid (RowZ wr (R i) m (M i)) := (HM.out.below hB.out).row i hi
      have HFr : Hid (RowZ wr bx m f) := HF.out.belowU hB.out
      go_wp2_with fail
      refine (rdot_any (R i) bx m m co cx t (M i) f _ HRi.out HFr.out (by omega) ht (fun j hj => HS.out i j hi hj)).mono ?_
      rintro e w5 ⟨a5, c5, rfl, hr5, hb5⟩
      obtain ⟨x, hx⟩ : ∃ x, x = dotZ (M i) f m := ⟨_, rfl⟩
      rw [← hx] at hr5 ⊢
      have HX := Lib.hid hx
      obtain ⟨W, hW⟩ : ∃ W, W = w5.alloc (.cells #[.bool (sg x), .slice a5 (mg x).length c5] 51) := ⟨_, rfl⟩
      have hbW : Below w5.heap.size w5 W := by rw [hW]; exact (Below.refl _ _).alloc (Nat.le_refl _) _
      have hBx : Box w5.heap.size (.bool (sg x)) (.slice a5 (mg x).length c5) W := by rw [hW]; exact Box.made _ _ rfl _ _ _
      have HBW : Below wr.heap.size wr W := hb5.trans (hbW.mono hb5.size)
      have hRW : Hid (RowB W w.heap.size u9 i (fun i => dotZ (M i) f m)) := hR.out.moved HBW
      have hBW : Hid (Below w.heap.size w W) := hB.out.trans (HBW.mono hB.out.size)
      have hc0 := Lib.hid hBx.c0
      have hc1 := Lib.hid hBx.c1
      have hL := Lib.hid (hr5.below hbW)
      have hWW : Hid (w5.alloc (.cells #[.bool (sg x), .slice a5 (mg x).length c5] 51) = W) := hW.symm
      clear hW hbW hBx HBW hr5 hb5 hx oo
      go_wp2_with (at_builtin; rw [hWW.out]; refine app_Z rfl _ _ rfl w.heap.size _ i (fun i => dotZ (M i) f m) rfl hRW.out w5.heap.size _ rfl x a5 c5 hc0.out hc1.out hL.out (by omega) hBW.out.size ?_)
      intro g9 cap9 w9 q1 q2 q3 q4
      have hnx : Hid (RowB w9 w.heap.size (.slice (some ⟨g9, 0, none⟩) (i + 1) cap9) (i + 1) (fun i => dotZ (M i) f m)) := q1.congr fun t ht => by
        by_cases e : t = i
        · rw [if_pos e, e, HX.out]
        · rw [if_neg e]
      have hbx : Hid (Below w.heap.size w w9) := by
        obtain ⟨A, C, ho, _⟩ := hRW.out
        exact below_app hBW.out ho q2
      clear q1 q2 q3 q4 hRW hc0 hc1 hL
      go_wp2_with fail
      go_roundw
      case rel => exact ⟨i + 1, by omega, by go_num, hnx, hbx⟩
      case measure => simp [intOf]; omega
    · obtain rfl : i = n := by omega
      obtain ⟨g5, cap5, hv5, _, hr5, _⟩ := hR.out.done h1
      subst hv5
      have HR5 := Lib.hid hr5
      clear hr5 hR
      go_wp2_with fail
      go_ret2
      exact ⟨g5, cap5, rfl, HR5.out, hB.out⟩

set_option maxRecDepth 100000 in
set_option maxHeartbeats 2000000 in
theorem rof_any (ah : Option Addr) (nh caph : Nat) (hs : List (List Int)) (w : World) (hrm : RdM w ah caph hs) (hlm : hs.length = nh) (hnh : nh ≤ 100000000000000) (hsh : Shaped hs) :
    Calls Tryz.prog 30 #[.slice ah nh caph] w fun e w' => ∃ g cap R, e = .returned (.slice (some ⟨g, 0, none⟩) nh cap) ∧ MatZ w' g nh (hs.getD 0 []).length R (ent hs) ∧ Below w.heap.size w w' := by
  have HRM := Lib.hid hrm
  have HLM := Lib.hid hlm
  have HSH := Lib.hid hsh
  clear hrm hlm hsh
  go_enter Tryz.func30, Tryz.ntmps30
  go_wp2_with fail
  refine (rfromints_any ah nh caph hs _ HRM.out HLM.out hnh).mono ?_
  rintro e w1 ⟨(⟨hno, rfl⟩ | ⟨_, g, cap, R, rfl, hM⟩), hb1⟩
  · exact absurd HSH.out hno
  · rw [HLM.out] at hM ⊢
    have HM := Lib.hid hM
    have HB := Lib.hid hb1
    clear hM hb1
    go_wp2_with fail
    go_ret
    exact ⟨g, cap, R, rfl, HM.out, HB.out⟩

/-- What within answers. -/
def wiB (z : Int) : Bool := decide (-4611686018427387904 ≤ z ∧ z ≤ 4611686018427387904)
def wiN (z : Int) : Int := if wiB z then z else 0

set_option maxRecDepth 100000 in
set_option maxHeartbeats 2000000 in
theorem rwithin_any (z : Int) (a : Option Addr) (c : Nat) (w : World) (hr : Lm w a c (mg z)) (hl : (mg z).length ≤ 1000000) :
    Calls Tryz.prog 39 #[.agg #[.bool (sg z), .slice a (mg z).length c]] w fun e w' => e = .returned (.tuple #[.int .i64 (wiN z), .bool (wiB z)]) ∧ Below w.heap.size w w' := by
  obtain ⟨W, hW⟩ : ∃ W, W = w.alloc (.cells #[.bool (sg z), .slice a (mg z).length c] 51) := ⟨_, rfl⟩
  have hbW : Below w.heap.size w W := by rw [hW]; exact (Below.refl _ _).alloc (Nat.le_refl _) _
  have HR := Lib.hid (hr.below hbW)
  have HWW : Hid (w.alloc (.cells #[.bool (sg z), .slice a (mg z).length c] 51) = W) := hW.symm
  have HBW := Lib.hid hbW
  clear hr hW hbW
  by_cases h64 : in64 z = true
  · have e1 : to64 z = z := by unfold to64; rw [h64]; rfl
    have h64' : in64 z = true := h64
    unfold in64 at h64
    rw [decide_eq_true_eq] at h64
    by_cases h1 : z < -4611686018427387904
    · have d1 : decide (z < -4611686018427387904) = true := decide_eq_true h1
      have e2 : wiB z = false := decide_eq_false (by omega)
      have e3 : wiN z = 0 := by unfold wiN; rw [e2]; rfl
      rw [e2, e3]
      have E1 := Lib.hid e1
      have H64 := Lib.hid h64'
      clear e1 e2 e3 h64 h64' h1
      go_enter Tryz.func39, Tryz.ntmps39
      go_wp2_with fail
      rw [HWW.out]
      refine (int64Z HR.out hl).mono ?_
      rintro e w1 ⟨rfl, hb1⟩
      rw [E1.out, H64.out]
      have HB := Lib.hid (HBW.out.trans (hb1.mono HBW.out.size))
      clear hb1
      go_wp2_with fail
      go_ret2
      exact ⟨rfl, HB.out⟩
    · have d1 : decide (z < -4611686018427387904) = false := decide_eq_false h1
      by_cases h2 : 4611686018427387904 < z
      · have d2 : decide (4611686018427387904 < z) = true := decide_eq_true h2
        have e2 : wiB z = false := decide_eq_false (by omega)
        have e3 : wiN z = 0 := by unfold wiN; rw [e2]; rfl
        rw [e2, e3]
        have E1 := Lib.hid e1
        have H64 := Lib.hid h64'
        clear e1 e2 e3 h64 h64' h1 h2
        go_enter Tryz.func39, Tryz.ntmps39
        go_wp2_with fail
        rw [HWW.out]
        refine (int64Z HR.out hl).mono ?_
        rintro e w1 ⟨rfl, hb1⟩
        rw [E1.out, H64.out]
        have HB := Lib.hid (HBW.out.trans (hb1.mono HBW.out.size))
        clear hb1
        go_wp2_with fail
        go_ret2
        exact ⟨rfl, HB.out⟩
      · have d2 : decide (4611686018427387904 < z) = false := decide_eq_false h2
        have e2 : wiB z = true := decide_eq_true (by omega)
        have e3 : wiN z = z := by unfold wiN; rw [e2]; rfl
        rw [e2, e3]
        have E1 := Lib.hid e1
        have H64 := Lib.hid h64'
        clear e1 e2 e3 h64 h64' h1 h2
        go_enter Tryz.func39, Tryz.ntmps39
        go_wp2_with fail
        rw [HWW.out]
        refine (int64Z HR.out hl).mono ?_
        rintro e w1 ⟨rfl, hb1⟩
        rw [E1.out, H64.out]
        have HB := Lib.hid (HBW.out.trans (hb1.mono HBW.out.size))
        clear hb1
        go_wp2_with fail
        go_ret2
        exact ⟨rfl, HB.out⟩
  · have h64f : in64 z = false := by simpa using h64
    have e2 : wiB z = false := by
      unfold in64 at h64f
      rw [decide_eq_false_iff_not] at h64f
      exact decide_eq_false (by omega)
    have e3 : wiN z = 0 := by unfold wiN; rw [e2]; rfl
    rw [e2, e3]
    have H64 := Lib.hid h64f
    clear h64 h64f e2 e3
    go_enter Tryz.func39, Tryz.ntmps39
    go_wp2_with fail
    rw [HWW.out]
    refine (int64Z HR.out hl).mono ?_
    rintro e w1 ⟨rfl, hb1⟩
    rw [H64.out]
    have HB := Lib.hid (HBW.out.trans (hb1.mono HBW.out.size))
    clear hb1
    go_wp2_with fail
    go_ret2
    exact ⟨rfl, HB.out⟩
end Go.Proofs.YtfpcfcegdjlggaaGreat
namespace Go.Proofs.YtfpcfcegdjlggaaGreat
open Go.RowKit Minor

/-- The minors of a diagonal matrix. -/
theorem diag_D {M : Nat → Nat → Int} {n : Nat} (hz : ∀ i j, i < n → j < n → i ≠ j → M i j = 0) (hd : ∀ i, i < n → 1 ≤ M i i) : ∀ k, k ≤ n → (∀ m, m ≤ k → 0 < D M m) ∧ ∀ i j, k ≤ i → k ≤ j → i < n → j < n → B M k i j = D M k * M i j
  | 0, _ => ⟨fun m hm => by
      obtain rfl : m = 0 := by omega
      rw [D_zero]; decide, fun i j _ _ _ _ => by rw [B_zero, D_zero, Int.one_mul]⟩
  | k + 1, hk => by
    obtain ⟨h1, h2⟩ := diag_D hz hd k (by omega)
    have e1 : D M (k + 1) = D M k * M k k := by rw [D_succ]; exact h2 k k (Nat.le_refl _) (Nat.le_refl _) (by omega) (by omega)
    have p0 := h1 k (Nat.le_refl _)
    have p1 : 0 < D M (k + 1) := by rw [e1]; exact Int.mul_pos p0 (by have := hd k (by omega); omega)
    have hpos : ∀ m, m ≤ k + 1 → 0 < D M m := fun m hm => by
      by_cases e : m = k + 1
      · rw [e]; exact p1
      · exact h1 m (by omega)
    refine ⟨hpos, fun i j hi hj hin hjn => ?_⟩
    have hs := sylvester M k i j fun m hm => by have := hpos m hm; omega
    rw [← D_succ, h2 i j (by omega) (by omega) hin hjn, h2 i k (by omega) (Nat.le_refl _) hin (by omega), hz i k hin (by omega) (by omega), Int.mul_zero, Int.zero_mul, Int.sub_zero] at hs
    refine Int.eq_of_mul_eq_mul_left (a := D M k) (by omega) ?_
    rw [← hs]
    grind

theorem form9_diag {M : Nat → Nat → Int} {n : Nat} (hn : n ≤ 8) (hz : ∀ i j, i < n → j < n → i ≠ j → M i j = 0) (hd : ∀ i, i < n → 1 ≤ M i i ∧ M i i ≤ 2) : Form9 M n := by
  have hp := (diag_D hz (fun i hi => (hd i hi).1) n (Nat.le_refl _)).1
  have hsym : ∀ i j, i < n → j < n → M i j = M j i := fun i j hi hj => by
    by_cases e : i = j
    · rw [e]
    · rw [hz i j hi hj e, hz j i hj hi (Ne.symm e)]
  refine ⟨hsym, hp, ?_, fun p hpn => by have := hd p hpn; omega⟩
  have h := D_le_pow hsym hp (M := 2) (fun p hpn => (hd p hpn).2) (by decide) n (Nat.le_refl _)
  have h2 : (2 : Int) ^ n ≤ 2 ^ 8 := pow_le_pow (by decide) hn
  have h3 : (2 : Int) ^ 8 = 256 := by decide
  omega

theorem shaped_listM (M : Nat → Nat → Int) (n : Nat) (h1 : 1 ≤ n) (h8 : n ≤ 8) : Shaped (listM M n n) := by
  have e : ∀ i, i < n → ((listM M n n).getD i []).length = n := fun i hi => by rw [row_listM _ _ _ _ hi]; simp
  refine ⟨by rw [length_listM]; omega, fun i hi => ?_⟩
  rw [length_listM] at hi
  rw [e i hi, e 0 (by omega)]
  omega

theorem few_i64 {M : Nat → Nat → Int} {n : Nat} (h : Few M n) (i j : Nat) (hi : i < n) (hj : j < n) : I64 (M i j) := by
  have := h.2 i j hi hj
  unfold I64
  omega

theorem form9_good {M : Nat → Nat → Int} {n : Nat} (hs : SymN M n) (hp : ∀ k, k < n → 0 < detZ M (k + 1)) (hd : detZ M n ≤ 10000) (hf : Few M n) : Form9 M n := by
  have hpos : ∀ m, m ≤ n → 0 < D M m := (leading_pos M n).1 hp
  refine ⟨fun i j hi hj => ?_, hpos, by rw [← detZ_D hpos n (Nat.le_refl _)]; exact hd, fun p hpn => (hf.1 p hpn).2⟩
  rcases Nat.lt_trichotomy i j with e | e | e
  · exact (hs j i hj e).symm
  · rw [e]
  · exact hs i j hi e

set_option maxRecDepth 100000 in
set_option maxHeartbeats 4000000 in
theorem rgood_any (G n cap : Nat) (R : Nat → Nat) (M : Nat → Nat → Int) (v w : World) (hM : MatP v w G n n n R M) (hc : n ≤ cap) (h1 : 1 ≤ n) (h8 : n ≤ 8) (hf : Few M n) :
    Calls Tryz.prog 67 #[.slice (some ⟨G, 0, none⟩) n cap] w fun e w' => ∃ r : Bool, e = .returned (.bool r) ∧ (r = true → Form9 M n) ∧ Below w.heap.size w w' := by
  have HRM := Lib.hid (hM.rd (fun i j hi hj => few_i64 hf i j hi hj) (by omega) hc)
  have HF := Lib.hid hf
  have HE : Hid (∀ i j, i < n → j < n → ent (listM M n n) i j = M i j) := fun i j hi hj => ent_listM M n n i j hi hj
  have HS : Hid (∀ i j, i < n → j < n → (M i j).natAbs ≤ cB 0) := fun i j hi hj => by
    have h1 := hf.2 i j hi hj
    have h2 := cB_zero
    omega
  have HW0 : Hid (((listM M n n).getD 0 []).length = n) := by unfold Hid; rw [row_listM _ _ _ _ (by omega)]; simp
  clear hM hf
  go_enter Tryz.func67, Tryz.ntmps67
  go_wp2_with fail
  refine (rof_any _ n cap (listM M n n) _ HRM.out (length_listM M n n) (by omega) (shaped_listM M n h1 h8)).mono ?_
  rintro e w1 ⟨g1, c1, R1, rfl, hM1, hb1⟩
  rw [HW0.out] at hM1
  have HM1 : Hid (MatZ w1 g1 n n R1 M) := hM1.congr HE.out
  have HB1 := Lib.hid hb1
  clear hM1 hb1
  go_wp2_with fail
  refine (rvalidate_any g1 n n c1 R1 M _ HM1.out h1 (by omega) h1 (by omega) HS.out).mono ?_
  rintro e w2 ⟨r, rfl, hr, hb2⟩
  have HB2 : Hid (Below w.heap.size w w2) := HB1.out.trans (hb2.mono HB1.out.size)
  have HM2 := Lib.hid (HM1.out.below hb2)
  clear hb2
  by_cases h0 : r = 0
  · subst h0
    have hv : Hid (SymN M n ∧ ∀ k, k < n → 0 < detZ M (k + 1)) := (hr.1 rfl).2.2
    clear hr
    have hdb : (detZ M n).natAbs ≤ cB n := detZ_short h8 HS.out
    obtain ⟨d, hd⟩ : ∃ d, d = detZ M n := ⟨_, rfl⟩
    rw [← hd] at hdb
    have hl4 : Hid ((mg d).length ≤ 1000000) := cB_short (by omega) hdb
    have hl5 : Hid ((mg 10000).length ≤ 1000000) := by
      unfold Hid
      have : (mg 10000).length ≤ 5 := by decide
      omega
    have HD := Lib.hid hd
    clear hd hdb
    go_wp2_with fail
    refine (rdet_any g1 n c1 R1 M _ HM2.out h1 h8 HS.out).mono ?_
    rintro e w3 ⟨a3, c3, rfl, hr3, hb3⟩
    rw [← HD.out] at hr3 ⊢
    have HL3 := Lib.hid hr3
    have HB3 : Hid (Below w.heap.size w w3) := HB2.out.trans (hb3.mono HB2.out.size)
    clear hr3 hb3
    go_wp2_with fail
    refine (smallZ 10000 (by omega) (by omega)).mono ?_
    rintro e w4 ⟨a4, c4, rfl, hr4, hb4⟩
    have HL4 := Lib.hid hr4
    have HL3' := Lib.hid (HL3.out.below hb4)
    have HB4 : Hid (Below w.heap.size w w4) := HB3.out.trans (hb4.mono HB3.out.size)
    clear hr4 hb4
    go_wp2_with fail
    refine (cmpZZ HL3'.out HL4.out hl4.out hl5.out).mono ?_
    rintro e w5 ⟨rfl, hb5⟩
    have HB5 : Hid (Below w.heap.size w w5) := HB4.out.trans (hb5.mono HB4.out.size)
    have hcl := cmpZ_le d 10000
    clear hb5
    go_wp2_with fail
    go_ret
    refine ⟨_, rfl, fun h => ?_, HB5.out⟩
    rw [decide_eq_true_eq, HD.out] at h
    exact form9_good hv.out.1 hv.out.2 h HF.out
  · have d0 : (r == 0) = false := by simp [h0]
    clear hr
    have H0 := Lib.hid h0
    clear h0
    go_wp2_with fail
    go_ret
    exact ⟨false, rfl, fun h => by simp at h, HB2.out⟩
end Go.Proofs.YtfpcfcegdjlggaaGreat
namespace Go.Proofs.YtfpcfcegdjlggaaGreat
open Go.RowKit Minor

/-- A form that Reduce takes, in new memory. -/
def GivesGm (w : World) (n : Nat) (e : Ending) (w' : World) : Prop :=
  ∃ G R M, e = .returned (.slice (some ⟨G, 0, none⟩) n n) ∧ MatP w w' G n n n R M ∧ Form9 M n ∧ ∀ i j, i < n → j < n → I64 (M i j)

theorem chn_few {M : Nat → Nat → Int} {n : Nat} (h : Chn M n n) : Few M n := ⟨fun a ha => by have := h.two a ha; omega, fun a b ha hb => h.few a b ha hb⟩
theorem few_add {M : Nat → Nat → Int} {n p : Nat} {z : Int} (h : Few M n) (hz1 : 1 ≤ z) (hz9 : z ≤ 9) : Few (fun a b => if a = p ∧ b = p then z else M a b) n := by
  refine ⟨fun a ha => ?_, fun a b ha hb => ?_⟩
  · show 1 ≤ (if a = p ∧ a = p then z else M a a) ∧ (if a = p ∧ a = p then z else M a a) ≤ 9
    split
    · omega
    · exact h.1 a ha
  · show (if a = p ∧ b = p then z else M a b).natAbs ≤ 9
    split
    · omega
    · exact h.2 a b ha hb
theorem diag_few {M : Nat → Nat → Int} {n : Nat} {most : Int} (hm : most ≤ 9) (hz : ∀ i j, i < n → j < n → i ≠ j → M i j = 0) (hd : ∀ i, i < n → 1 ≤ M i i ∧ M i i ≤ most) : Few M n := by
  refine ⟨fun a ha => by have := hd a ha; omega, fun a b ha hb => ?_⟩
  by_cases e : a = b
  · rw [e]; have := hd b hb; omega
  · rw [hz a b ha hb e]; decide

/-- A tape, a new matrix with few numbers. -/
def Made (v w : World) (t : Nat) (al : Option Addr) (nl capl n : Nat) (ks : List Int) (G : Nat) : Prop :=
  ∃ R M, TM v w t al nl capl ks G n n R M ∧ Few M n

set_option maxRecDepth 100000 in
set_option maxHeartbeats 16000000 in
theorem rgram_any (dim kind : Nat) (al ab : Option Addr) (nl capl nb capb most n : Nat) (ks : List Int) (w : World) (hr : Rd8 w al ks) (hl : ks.length = nl) (hbig : nl ≤ 200000000000000) (hdim : dim ≤ 255) (hkind : kind ≤ 255) (hm1 : 1 ≤ most) (hm8 : most ≤ 8) (hn : 1 + dim % most = n) :
    Calls Tryz.prog 31 #[.agg #[.int .u8 (dim : Int), .int .u8 (kind : Int), .slice al nl capl, .slice ab nb capb], .int .i64 (most : Int)] w (GivesGm w n) := by
  have h1 : 1 ≤ n := by omega
  have h8 : n ≤ 8 := by have := Nat.mod_lt dim hm1; omega
  have hn' : 1 + (dim : Int) % (most : Int) = (n : Int) := by omega
  obtain ⟨c, hc⟩ : ∃ c, c = kind % 8 := ⟨_, rfl⟩
  have hc8 : c < 8 := by omega
  have hc' : (kind : Int) % 8 = (c : Int) := by omega
  obtain ⟨V, hV⟩ : ∃ V, V = (w.alloc (.cells #[.int .u8 (dim : Int), .int .u8 (kind : Int), .slice al nl capl, .slice ab nb capb] 26)).alloc (.cells #[.slice al nl capl, .int .i64 0] 62) := ⟨_, rfl⟩
  have hTV : Hid (Tp w V (w.heap.size + 1) al nl capl ks) := by
    refine ⟨⟨0, by omega, ?_⟩, hr, hl, hbig, by omega, ?_⟩
    · rw [hV]; exact Pr.made _ _ _ _ (by simp)
    · rw [hV]; exact ((Below.refl _ _).alloc (Nat.le_refl _) _).alloc (by simp) _
  have hbx : Hid (BoxR w.heap.size (.int .u8 (dim : Int)) (.int .u8 (kind : Int)) (.slice al nl capl) (.slice ab nb capb) V) := by rw [hV]; exact (BoxR.made _ _ rfl _ _ _ _ _).alloc _
  have HVV : Hid ((w.alloc (.cells #[.int .u8 (dim : Int), .int .u8 (kind : Int), .slice al nl capl, .slice ab nb capb] 26)).alloc (.cells #[.slice al nl capl, .int .i64 0] 62) = V) := hV.symm
  have hmne : ¬((most : Int) = 0) := by omega
  obtain ⟨b0, b1, b2, b3, b4, b5⟩ := hbx.out
  clear hr hl hbig hn hc hV
  go_enter Tryz.func31, Tryz.ntmps31
  go_upto_block 0 with fail
  rw [HVV.out]
  go_cut [7] from 8 (fun o wx => ∃ G, o = .slice (some ⟨G, 0, none⟩) n n ∧ Made w wx (w.heap.size + 1) al nl capl n ks G)
  case first =>
    rcases (show c = 0 ∨ c = 1 ∨ c = 2 ∨ c = 3 ∨ c = 4 ∨ c = 5 ∨ c = 6 ∨ c = 7 by omega) with rfl | rfl | rfl | rfl | rfl | rfl | rfl | rfl
    · clear hc8
      go_wp2_with fail
      refine (rgeneral_any hTV.out h1 h8).mono ?_
      rintro e w1 ⟨G, R, M, rfl, hTM, _, hF⟩
      have hfin : Hid (Made w w1 (w.heap.size + 1) al nl capl n ks G) := ⟨R, M, hTM, hF⟩
      clear hTM hF
      go_wp2_with fail
      go_meet
      exact ⟨G, rfl, hfin.out⟩
    · clear hc8
      go_wp2_with fail
      refine (rgeneral_any hTV.out h1 h8).mono ?_
      rintro e w1 ⟨G, R, M, rfl, hTM, _, hF⟩
      have hfin : Hid (Made w w1 (w.heap.size + 1) al nl capl n ks G) := ⟨R, M, hTM, hF⟩
      clear hTM hF
      go_wp2_with fail
      go_meet
      exact ⟨G, rfl, hfin.out⟩
    · clear hc8
      go_wp2_with fail
      refine (rgeneral_any hTV.out h1 h8).mono ?_
      rintro e w1 ⟨G, R, M, rfl, hTM, _, hF⟩
      have hfin : Hid (Made w w1 (w.heap.size + 1) al nl capl n ks G) := ⟨R, M, hTM, hF⟩
      clear hTM hF
      go_wp2_with fail
      go_meet
      exact ⟨G, rfl, hfin.out⟩
    · clear hc8
      go_wp2_with fail
      refine (rgeneral_any hTV.out h1 h8).mono ?_
      rintro e w1 ⟨G, R, M, rfl, hTM, _, hF⟩
      have hfin : Hid (Made w w1 (w.heap.size + 1) al nl capl n ks G) := ⟨R, M, hTM, hF⟩
      clear hTM hF
      go_wp2_with fail
      go_meet
      exact ⟨G, rfl, hfin.out⟩
    · clear hc8
      go_wp2_with fail
      refine (rchain_any n false _ h1 h8).mono ?_
      rintro e w1 ⟨G, R, M, rfl, hM, hch⟩
      have hn0 : (0 : Int) < (n : Int) := by omega
      have hnn : 0 < n := by omega
      have hMV : Hid (MatP w w1 G n n n R M) := hM.rebase hTV.out.below
      have hTW : Hid (Tp w w1 (w.heap.size + 1) al nl capl ks) := hTV.out.moved hM.below
      have htG : Hid (w.heap.size + 1 ≠ G) := by have := hTV.out.lt; have := hM.far; unfold Hid; omega
      have hRt : Hid (∀ p, p < n → w.heap.size + 1 ≠ R p) := fun p hp => by have := hTV.out.lt; have := hM.fars p hp; omega
      have hF := Lib.hid (chn_few hch)
      have h22 : Hid (M 0 0 = 2) := hch.two 0 (by omega)
      obtain ⟨cI, oI, _⟩ := hM.outer 0 (by omega)
      have oJ := (hM.row 0 (by omega)).c 0 (by omega)
      rw [h22.out] at oJ
      have hK : Hid (∀ w' : World, (∀ g o : Nat, g ≠ w.heap.size + 1 → w'.cell? ⟨g, o, none⟩ = w1.cell? ⟨g, o, none⟩) → w'.cell? ⟨G, 0, none⟩ = some (.slice (some ⟨R 0, 0, none⟩) n cI) ∧ w'.cell? ⟨R 0, 0, none⟩ = some (.int .i64 2)) := fun w' h => ⟨(h G 0 htG.out.symm).trans oI, (h (R 0) 0 (hRt.out 0 (by omega)).symm).trans oJ⟩
      clear hM hch oI oJ
      go_wp2_with fail
      refine begin_T 9 (fun w' => w'.cell? ⟨G, 0, none⟩ = some (.slice (some ⟨R 0, 0, none⟩) n cI) ∧ w'.cell? ⟨R 0, 0, none⟩ = some (.int .i64 2)) (by kernel_rfl) (hK.out _ (fun _ _ _ => rfl)) (fun hHeld => ?_)
      have hMd := hMV.out.moved ((Below.refl _ _).drew)
      have hTd := hTW.out.moved ((Below.refl _ _).drew)
      have hKd : Hid (∀ w' : World, (∀ g o : Nat, g ≠ w.heap.size + 1 → w'.cell? ⟨g, o, none⟩ = w1.drew.cell? ⟨g, o, none⟩) → w'.cell? ⟨G, 0, none⟩ = some (.slice (some ⟨R 0, 0, none⟩) n cI) ∧ w'.cell? ⟨R 0, 0, none⟩ = some (.int .i64 2)) := fun w' h => hK.out w' fun g o hg => (h g o hg).trans rfl
      generalize w1.drew = w0d at hMd hTd hKd hHeld ⊢
      refine first_T (i := 0) (v := ?_) rfl (by kernel_rfl) (fun _ _ _ h => h) (by rfl) (fun w hSw => ?_) hHeld ?_
      rotate_left
      · ((try dsimp only at hSw); go_simp; (try with_reducible rfl))
      try simp only [Act.put, List.setIfInBounds_toArray, List.set_cons_zero, List.set_cons_succ]
      refine first_T (i := 1) (v := ?_) rfl (by kernel_rfl) (fun _ _ _ h => h) (by rfl) (fun w hSw => ?_) hHeld ?_
      rotate_left
      · ((try dsimp only at hSw); go_simp; (try with_reducible rfl))
      try simp only [Act.put, List.setIfInBounds_toArray, List.set_cons_zero, List.set_cons_succ]
      refine first_T (i := 2) (v := ?_) rfl (by kernel_rfl) (fun _ _ _ h => h) (by rfl) (fun w hSw => ?_) hHeld ?_
      rotate_left
      · ((try dsimp only at hSw); go_simp; (try with_reducible rfl))
      try simp only [Act.put, List.setIfInBounds_toArray, List.set_cons_zero, List.set_cons_succ]
      refine first_T (i := 3) (v := ?_) rfl (by kernel_rfl) (fun _ _ _ h => h) (by rfl) (fun w hSw => ?_) hHeld ?_
      rotate_left
      · ((try dsimp only at hSw); go_simp; (try with_reducible rfl))
      try simp only [Act.put, List.setIfInBounds_toArray, List.set_cons_zero, List.set_cons_succ]
      refine first_T (i := 4) (v := ?_) rfl (by kernel_rfl) (fun _ _ _ h => h) (by rfl) (fun w hSw => ?_) hHeld ?_
      rotate_left
      · ((try dsimp only at hSw); go_simp; (try with_reducible rfl))
      try simp only [Act.put, List.setIfInBounds_toArray, List.set_cons_zero, List.set_cons_succ]
      refine first_T (i := 5) (v := ?_) rfl (by kernel_rfl) (fun _ _ _ h => h) (by rfl) (fun w hSw => ?_) hHeld ?_
      rotate_left
      · ((try dsimp only at hSw); go_simp; (try with_reducible rfl))
      try simp only [Act.put, List.setIfInBounds_toArray, List.set_cons_zero, List.set_cons_succ]
      refine next_T (i := 6) rfl (by kernel_rfl) (fun K hKK => ?_)
      go_simp
      refine (rbelow_tp (n := 3) hTd (by omega) (by omega)).mono ?_
      rintro e wn ⟨x, rfl, hx0, hx1, ha, htp⟩
      have hMn := hMd.aft htG.out hRt.out (Nat.le_succ _) ha
      have HC := hKd.out wn (fun g o hg => aft_cell ha hg)
      have hw1 : IntKind.i64.wrap (2 + x) = 2 + x := by rw [IntKind.wrap_i64]; omega
      have y0 := (hMn.row 0 (by omega)).c 0 (by omega)
      have y1 := (hMn.row 0 (by omega)).fr 0
      rw [h22.out] at y0
      go_wp2_with fail
      clear hHeld
      refine hKK.out _ _ HC (fun hHeld => ?_)
      clear hKK K hMd hTd
      try simp only [Act.put, List.setIfInBounds_toArray, List.set_cons_zero, List.set_cons_succ]
      refine first_T (i := 7) (v := ?_) rfl (by kernel_rfl) (fun _ _ _ h => h) (by rfl) (fun w hSw => ?_) hHeld ?_
      rotate_left
      · ((try dsimp only at hSw); go_simp; (try with_reducible rfl))
      try simp only [Act.put, List.setIfInBounds_toArray, List.set_cons_zero, List.set_cons_succ]
      refine next_T (i := 8) rfl (by kernel_rfl) (fun K hKK => ?_)
      go_simp
      clear hHeld
      refine hKK.out _ _ HC (fun hHeld => ?_)
      clear hKK K
      try simp only [Act.put, List.setIfInBounds_toArray, List.set_cons_zero, List.set_cons_succ]
      refine last_T (t := 9) rfl (by kernel_rfl) (by kernel_rfl) (fun K hKK => ?_)
      go_simp
      refine hKK.out _ _ ?_
      have hfin : Hid (Made w (wn.setCell ⟨R 0, 0, none⟩ (.int .i64 (2 + x))) (w.heap.size + 1) al nl capl n ks G) := ⟨R, _, ⟨hMn.store 0 0 (by omega) (by omega) (2 + x), htp.set (hRt.out 0 (by omega)).symm (hMn.fars 0 (by omega)) _, htG.out, hRt.out⟩, few_add hF.out (by omega) (by omega)⟩
      clear hKK K hHeld HC ha htp hMn y0 y1 hw1
      go_wp2_with fail
      go_meet
      exact ⟨G, rfl, hfin.out⟩
    · clear hc8
      go_wp2_with fail
      refine (rchain_any n true _ h1 h8).mono ?_
      rintro e w1 ⟨G, R, M, rfl, hM, hch⟩
      obtain ⟨m, hm⟩ : ∃ m, n = m + 1 := ⟨n - 1, by omega⟩
      have e1 : (n : Int) - 1 = (m : Int) := by omega
      have hwm : IntKind.i64.wrap (m : Int) = (m : Int) := by rw [IntKind.wrap_i64]; omega
      have z1 : (0 : Int) ≤ (m : Int) := by omega
      have z2 : (m : Int) < (n : Int) := by omega
      have HM1 := Lib.hid hm
      have hmn : m < n := by omega
      clear hm
      have hMV : Hid (MatP w w1 G n n n R M) := hM.rebase hTV.out.below
      have hTW : Hid (Tp w w1 (w.heap.size + 1) al nl capl ks) := hTV.out.moved hM.below
      have htG : Hid (w.heap.size + 1 ≠ G) := by have := hTV.out.lt; have := hM.far; unfold Hid; omega
      have hRt : Hid (∀ p, p < n → w.heap.size + 1 ≠ R p) := fun p hp => by have := hTV.out.lt; have := hM.fars p hp; omega
      have hF := Lib.hid (chn_few hch)
      have h22 : Hid (M m m = 2) := hch.two m (by omega)
      obtain ⟨cI, oI, _⟩ := hM.outer m (by omega)
      have oJ := (hM.row m (by omega)).c m (by omega)
      rw [h22.out] at oJ
      have hK : Hid (∀ w' : World, (∀ g o : Nat, g ≠ w.heap.size + 1 → w'.cell? ⟨g, o, none⟩ = w1.cell? ⟨g, o, none⟩) → w'.cell? ⟨G, m, none⟩ = some (.slice (some ⟨R m, 0, none⟩) n cI) ∧ w'.cell? ⟨R m, m, none⟩ = some (.int .i64 2)) := fun w' h => ⟨(h G m htG.out.symm).trans oI, (h (R m) m (hRt.out m (by omega)).symm).trans oJ⟩
      clear hM hch oI oJ
      go_wp2_with fail
      refine begin_T 13 (fun w' => w'.cell? ⟨G, m, none⟩ = some (.slice (some ⟨R m, 0, none⟩) n cI) ∧ w'.cell? ⟨R m, m, none⟩ = some (.int .i64 2)) (by kernel_rfl) (hK.out _ (fun _ _ _ => rfl)) (fun hHeld => ?_)
      have hMd := hMV.out.moved ((Below.refl _ _).drew)
      have hTd := hTW.out.moved ((Below.refl _ _).drew)
      have hKd : Hid (∀ w' : World, (∀ g o : Nat, g ≠ w.heap.size + 1 → w'.cell? ⟨g, o, none⟩ = w1.drew.cell? ⟨g, o, none⟩) → w'.cell? ⟨G, m, none⟩ = some (.slice (some ⟨R m, 0, none⟩) n cI) ∧ w'.cell? ⟨R m, m, none⟩ = some (.int .i64 2)) := fun w' h => hK.out w' fun g o hg => (h g o hg).trans rfl
      generalize w1.drew = w0d at hMd hTd hKd hHeld ⊢
      refine first_T (i := 0) (v := ?_) rfl (by kernel_rfl) (fun _ _ _ h => h) (by rfl) (fun w hSw => ?_) hHeld ?_
      rotate_left
      · ((try dsimp only at hSw); go_simp; (try with_reducible rfl))
      try simp only [Act.put, List.setIfInBounds_toArray, List.set_cons_zero, List.set_cons_succ]
      refine first_T (i := 1) (v := ?_) rfl (by kernel_rfl) (fun _ _ _ h => h) (by rfl) (fun w hSw => ?_) hHeld ?_
      rotate_left
      · ((try dsimp only at hSw); go_simp; (try with_reducible rfl))
      try simp only [Act.put, List.setIfInBounds_toArray, List.set_cons_zero, List.set_cons_succ]
      refine first_T (i := 2) (v := ?_) rfl (by kernel_rfl) (fun _ _ _ h => h) (by rfl) (fun w hSw => ?_) hHeld ?_
      rotate_left
      · ((try dsimp only at hSw); go_simp; (try with_reducible rfl))
      try simp only [Act.put, List.setIfInBounds_toArray, List.set_cons_zero, List.set_cons_succ]
      refine first_T (i := 3) (v := ?_) rfl (by kernel_rfl) (fun _ _ _ h => h) (by rfl) (fun w hSw => ?_) hHeld ?_
      rotate_left
      · ((try dsimp only at hSw); go_simp; (try with_reducible rfl))
      try simp only [Act.put, List.setIfInBounds_toArray, List.set_cons_zero, List.set_cons_succ]
      refine first_T (i := 4) (v := ?_) rfl (by kernel_rfl) (fun _ _ _ h => h) (by rfl) (fun w hSw => ?_) hHeld ?_
      rotate_left
      · ((try dsimp only at hSw); go_simp; (try with_reducible rfl))
      try simp only [Act.put, List.setIfInBounds_toArray, List.set_cons_zero, List.set_cons_succ]
      refine first_T (i := 5) (v := ?_) rfl (by kernel_rfl) (fun _ _ _ h => h) (by rfl) (fun w hSw => ?_) hHeld ?_
      rotate_left
      · ((try dsimp only at hSw); go_simp; (try with_reducible rfl))
      try simp only [Act.put, List.setIfInBounds_toArray, List.set_cons_zero, List.set_cons_succ]
      refine first_T (i := 6) (v := ?_) rfl (by kernel_rfl) (fun _ _ _ h => h) (by rfl) (fun w hSw => ?_) hHeld ?_
      rotate_left
      · ((try dsimp only at hSw); go_simp; (try with_reducible rfl))
      try simp only [Act.put, List.setIfInBounds_toArray, List.set_cons_zero, List.set_cons_succ]
      refine first_T (i := 7) (v := ?_) rfl (by kernel_rfl) (fun _ _ _ h => h) (by rfl) (fun w hSw => ?_) hHeld ?_
      rotate_left
      · ((try dsimp only at hSw); go_simp; (try with_reducible rfl))
      try simp only [Act.put, List.setIfInBounds_toArray, List.set_cons_zero, List.set_cons_succ]
      refine first_T (i := 8) (v := ?_) rfl (by kernel_rfl) (fun _ _ _ h => h) (by rfl) (fun w hSw => ?_) hHeld ?_
      rotate_left
      · ((try dsimp only at hSw); go_simp; (try with_reducible rfl))
      try simp only [Act.put, List.setIfInBounds_toArray, List.set_cons_zero, List.set_cons_succ]
      refine first_T (i := 9) (v := ?_) rfl (by kernel_rfl) (fun _ _ _ h => h) (by rfl) (fun w hSw => ?_) hHeld ?_
      rotate_left
      · ((try dsimp only at hSw); go_simp; (try with_reducible rfl))
      try simp only [Act.put, List.setIfInBounds_toArray, List.set_cons_zero, List.set_cons_succ]
      refine next_T (i := 10) rfl (by kernel_rfl) (fun K hKK => ?_)
      go_simp
      refine (rbelow_tp (n := 2) hTd (by omega) (by omega)).mono ?_
      rintro e wn ⟨x, rfl, hx0, hx1, ha, htp⟩
      have hMn := hMd.aft htG.out hRt.out (Nat.le_succ _) ha
      have HC := hKd.out wn (fun g o hg => aft_cell ha hg)
      have hw1 : IntKind.i64.wrap (2 + x) = 2 + x := by rw [IntKind.wrap_i64]; omega
      have y0 := (hMn.row m (by omega)).c m (by omega)
      have y1 := (hMn.row m (by omega)).fr m
      rw [h22.out] at y0
      go_wp2_with fail
      clear hHeld
      refine hKK.out _ _ HC (fun hHeld => ?_)
      clear hKK K hMd hTd
      try simp only [Act.put, List.setIfInBounds_toArray, List.set_cons_zero, List.set_cons_succ]
      refine first_T (i := 11) (v := ?_) rfl (by kernel_rfl) (fun _ _ _ h => h) (by rfl) (fun w hSw => ?_) hHeld ?_
      rotate_left
      · ((try dsimp only at hSw); go_simp; (try with_reducible rfl))
      try simp only [Act.put, List.setIfInBounds_toArray, List.set_cons_zero, List.set_cons_succ]
      refine next_T (i := 12) rfl (by kernel_rfl) (fun K hKK => ?_)
      go_simp
      clear hHeld
      refine hKK.out _ _ HC (fun hHeld => ?_)
      clear hKK K
      try simp only [Act.put, List.setIfInBounds_toArray, List.set_cons_zero, List.set_cons_succ]
      refine last_T (t := 13) rfl (by kernel_rfl) (by kernel_rfl) (fun K hKK => ?_)
      go_simp
      refine hKK.out _ _ ?_
      have hfin : Hid (Made w (wn.setCell ⟨R m, m, none⟩ (.int .i64 (2 + x))) (w.heap.size + 1) al nl capl n ks G) := ⟨R, _, ⟨hMn.store m m (by omega) (by omega) (2 + x), htp.set (hRt.out m (by omega)).symm (hMn.fars m (by omega)) _, htG.out, hRt.out⟩, few_add hF.out (by omega) (by omega)⟩
      clear hKK K hHeld HC ha htp hMn y0 y1 hw1
      go_wp2_with fail
      go_meet
      exact ⟨G, rfl, hfin.out⟩
    · clear hc8
      go_wp2_with fail
      refine (rdiagonal_any (most := 9) hTV.out h1 h8 (by omega) (by omega)).mono ?_
      rintro e w1 ⟨G, R, M, rfl, hTM, hz, hd⟩
      have hfin : Hid (Made w w1 (w.heap.size + 1) al nl capl n ks G) := ⟨R, M, hTM, diag_few (by omega) hz hd⟩
      clear hTM hz hd
      go_wp2_with fail
      go_meet
      exact ⟨G, rfl, hfin.out⟩
    · clear hc8
      go_wp2_with fail
      refine (rdiagonal_any (most := 1) hTV.out h1 h8 (by omega) (by omega)).mono ?_
      rintro e w1 ⟨G, R, M, rfl, hTM, hz, hd⟩
      have hfin : Hid (Made w w1 (w.heap.size + 1) al nl capl n ks G) := ⟨R, M, hTM, diag_few (by omega) hz hd⟩
      clear hTM hz hd
      go_wp2_with fail
      go_meet
      exact ⟨G, rfl, hfin.out⟩
  case rest =>
    obtain ⟨G, rfl, R, M, hTM, hF⟩ := hcut
    have HTM := Lib.hid hTM
    have HF := Lib.hid hF
    have hgd : Hid (Calls Tryz.prog 67 #[.slice (some ⟨G, 0, none⟩) n n] wc fun e w' => ∃ r : Bool, e = .returned (.bool r) ∧ (r = true → Form9 M n) ∧ Below wc.heap.size wc w') := rgood_any G n n R M w wc hTM.mat (Nat.le_refl _) h1 h8 hF
    clear hTM hF
    go_wp2_with fail
    refine hgd.out.mono ?_
    rintro e w2 ⟨r, rfl, hr, hb2⟩
    have HT2 : Hid (Tp w w2 (w.heap.size + 1) al nl capl ks) := HTM.out.tape.moved hb2
    have HM2 : Hid (MatP w w2 G n n n R M) := HTM.out.mat.moved hb2
    clear hb2
    cases r with
    | true =>
      have hfin : Hid (GivesGm w n (.returned (.slice (some ⟨G, 0, none⟩) n n)) w2) := ⟨G, R, M, rfl, HM2.out, hr rfl, fun i j hi hj => few_i64 HF.out i j hi hj⟩
      clear hr
      go_wp2_with fail
      go_ret
      exact hfin.out
    | false =>
      clear hr
      go_wp2_with fail
      refine (rdiagonal_any (most := 2) HT2.out h1 h8 (by omega) (by omega)).mono ?_
      rintro e w3 ⟨G3, R3, M3, rfl, hTM, hz, hd⟩
      have hfin : Hid (GivesGm w n (.returned (.slice (some ⟨G3, 0, none⟩) n n)) w3) := ⟨G3, R3, M3, rfl, hTM.mat, form9_diag h8 hz hd, fun i j hi hj => few_i64 (diag_few (by omega) hz hd) i j hi hj⟩
      clear hTM hz hd
      go_wp2_with fail
      go_ret
      exact hfin.out
end Go.Proofs.YtfpcfcegdjlggaaGreat
namespace Go.Proofs.YtfpcfcegdjlggaaGreat
open Go.RowKit Minor

/-- What Form gives: n rows of n numbers below 2^30, in new memory. -/
def GivesForm (w : World) (n : Nat) (e : Ending) (w' : World) : Prop :=
  ∃ G hs, e = .returned (.slice (some ⟨G, 0, none⟩) n n) ∧ hs.length = n ∧ (∀ i, i < n → (hs.getD i []).length = n) ∧ RdM w' (some ⟨G, 0, none⟩) n hs ∧ w.heap.size ≤ G ∧ Below w.heap.size w w'

theorem givesForm_of {v w w' : World} {n G : Nat} {R : Nat → Nat} {M : Nat → Nat → Int} (hM : MatP v w' G n n n R M) (hb : Below w.heap.size w v) (hs : ∀ i j, i < n → j < n → (M i j).natAbs < 1073741824) (h8 : n ≤ 8) : GivesForm w n (.returned (.slice (some ⟨G, 0, none⟩) n n)) w' := by
  have h := hM.rebase hb
  refine ⟨G, listM M n n, rfl, length_listM M n n, fun i hi => by rw [row_listM _ _ _ _ hi]; simp, h.rd (fun p q hp hq => ?_) (by omega) (Nat.le_refl _), h.far, h.below⟩
  have := hs p q hp hq
  unfold I64
  omega

set_option maxRecDepth 100000 in
set_option maxHeartbeats 4000000 in
theorem rform_any (dim kind : Nat) (al ab : Option Addr) (nl capl nb capb most n : Nat) (ks : List Int) (w : World) (hr : Rd8 w al ks) (hl : ks.length = nl) (hbig : nl ≤ 200000000000000) (hdim : dim ≤ 255) (hkind : kind ≤ 255) (hm1 : 1 ≤ most) (hm8 : most ≤ 8) (hn : 1 + dim % most = n) :
    Calls Tryz.prog 10 #[.agg #[.int .u8 (dim : Int), .int .u8 (kind : Int), .slice al nl capl, .slice ab nb capb], .int .i64 (most : Int)] w (GivesForm w n) := by
  have h1 : 1 ≤ n := by omega
  have h8 : n ≤ 8 := by have := Nat.mod_lt dim hm1; omega
  obtain ⟨V, hV⟩ : ∃ V, V = w.alloc (.cells #[.int .u8 (dim : Int), .int .u8 (kind : Int), .slice al nl capl, .slice ab nb capb] 26) := ⟨_, rfl⟩
  have hbV : Hid (Below w.heap.size w V) := by rw [hV]; exact (Below.refl _ _).alloc (Nat.le_refl _) _
  have hbx : Hid (BoxR w.heap.size (.int .u8 (dim : Int)) (.int .u8 (kind : Int)) (.slice al nl capl) (.slice ab nb capb) V) := by rw [hV]; exact BoxR.made _ _ rfl _ _ _ _ _
  have HVV : Hid (w.alloc (.cells #[.int .u8 (dim : Int), .int .u8 (kind : Int), .slice al nl capl, .slice ab nb capb] 26) = V) := hV.symm
  have hcall : Hid (Calls Tryz.prog 31 #[.agg #[.int .u8 (dim : Int), .int .u8 (kind : Int), .slice al nl capl, .slice ab nb capb], .int .i64 (most : Int)] V (GivesGm V n)) := rgram_any dim kind al ab nl capl nb capb most n ks V (hr.below hbV.out) hl hbig hdim hkind hm1 hm8 hn
  obtain ⟨b0, b1, b2, b3, b4, b5⟩ := hbx.out
  clear hr hl hbig hn hV hdim hkind hm1 hm8
  go_enter Tryz.func10, Tryz.ntmps10
  go_wp2_with fail
  rw [HVV.out]
  go_wp2_with fail
  refine hcall.out.mono ?_
  rintro e w1 ⟨G, R, M, rfl, hM, hF, hI⟩
  have HRM := Lib.hid (hM.rd hI (by omega) (Nat.le_refl _))
  have HF9 := Lib.hid hF
  have HB1 : Hid (Below w.heap.size w w1) := hbV.out.trans (hM.below.mono hbV.out.size)
  have HE : Hid (∀ i j, i < n → j < n → ent (listM M n n) i j = M i j) := fun i j hi hj => ent_listM M n n i j hi hj
  have HW0 : Hid (((listM M n n).getD 0 []).length = n) := by unfold Hid; rw [row_listM _ _ _ _ (by omega)]; simp
  clear hM hF hI b0 b1 b2 b3 b4 b5
  go_wp2_with fail
  refine (rof_any _ n n (listM M n n) _ HRM.out (length_listM M n n) (by omega) (shaped_listM M n h1 h8)).mono ?_
  rintro e w2 ⟨g2, c2, R2, rfl, hM2, hb2⟩
  rw [HW0.out] at hM2
  have HM2 : Hid (MatZ w2 g2 n n R2 M) := hM2.congr HE.out
  have HB2 : Hid (Below w.heap.size w w2) := HB1.out.trans (hb2.mono HB1.out.size)
  clear hM2 hb2
  go_wp2_with fail
  refine (rreduce_any g2 n c2 R2 M _ HM2.out h1 h8 HF9.out).mono ?_
  rintro e w3 ⟨G3, R3, M3, tv, rfl, hM3, hs3⟩
  have hfin : Hid (GivesForm w n (.returned (.slice (some ⟨G3, 0, none⟩) n n)) w3) := givesForm_of hM3 HB2.out hs3 h8
  clear hM3 hs3
  go_wp2_with fail
  go_ret
  exact hfin.out
end Go.Proofs.YtfpcfcegdjlggaaGreat
namespace Go.Proofs.YtfpcfcegdjlggaaGreat
open Go.ChangeShapes Go.WideShapes Go.ChangeAt Go.RowKit Go.Joins

theorem readL : Tryz.prog.readableRec 26 = true := by kernel_rfl
theorem rowL : 26 < Tryz.prog.types.size := of_decide_eq_true (by kernel_rfl)
theorem lat_stays {H : Type} {enc : TypeId × Value → H} {W W' : World} {v : Value} {d : DataW H} {ps : List MemPlace} {sp : Nat → Bool}
    (h : DataW.Trod enc Tryz.prog W 0 (fun _ => true) true 26 v d ps) (hb : Below W.heap.size W W') (hlow : ∀ x ∈ ps, x.block < W.heap.size) (hsp : ∀ x ∈ ps, sp x.block = true) :
    DataW.Trod enc Tryz.prog W' 0 sp true 26 v d ps :=
  WideElems.Trod_stays laidOutV readL rowL h (fun x hx => hb.same (hlow x hx)) hsp

/-- The cells of a []int8. -/
theorem trod_i8s {H : Type} {enc : TypeId × Value → H} {W : World} {k : Nat} {v : Value} {y : DataW H × List MemPlace}
    (hk : DataW.trod enc Tryz.prog W 0 (fun _ => true) true k 24 [v] = some y) (hz : ∀ e s, y.1 = .slice e s → (e.length + s.length) * Tryz.prog.bytesOf 47 ≤ reachBytes) :
    ∃ (a : Option Addr) (n cap : Nat) (xs : List Int), v = .slice a n cap ∧ Rd8 W a xs ∧ xs.length = n ∧ n ≤ 200000000000000 := by
  have c1 : Tryz.prog.cellsOf 47 = 1 := by kernel_rfl
  have b1 : Tryz.prog.bytesOf 47 = 1 := by kernel_rfl
  rcases open_ints Tryz.underlying24 Tryz.underlying47 c1 hk with ⟨e1, _⟩ | ⟨ad0, len, cap, zs, e1, _, hl, hm, hlen, hd, hcell, hwf⟩
  · have e1' : v = .slice none 0 0 := by simpa using e1
    subst e1'
    exact ⟨none, 0, 0, [], rfl, ⟨by simp, fun i hi => by simp at hi⟩, rfl, by omega⟩
  · have e1' : v = .slice (some ad0) len cap := by simpa using e1
    subst e1'
    simp only [if_true] at hlen
    have hd' : y.1 = .slice (lits .i8 (zs.take len)) (lits .i8 (zs.drop len)) := by simpa using congrArg Prod.fst hd
    have hb := hz _ _ hd'
    rw [b1] at hb
    have hll : (zs.take len).length = len := by rw [List.length_take]; omega
    have hn : len ≤ 200000000000000 := by
      simp only [lits, List.length_map, List.length_take, List.length_drop] at hb
      unfold reachBytes at hb
      omega
    refine ⟨some ad0, len, cap, zs.take len, rfl, ⟨?_, fun i hi => ?_⟩, hll, hn⟩
    · intro x hx
      have := bounds_i8 (hwf x (List.mem_of_mem_take hx))
      omega
    · rw [hll] at hi
      obtain ⟨g, o, rfl, hc⟩ := ints_at hcell (by omega)
      exact ⟨g, o, rfl, by rw [hc i (by omega), getD_take0 zs len i hi]⟩

set_option maxRecDepth 100000 in
/-- WHAT A Lattice IS THAT COMES IN. -/
theorem open_lat {H : Type} {enc : TypeId × Value → H} {W : World} {r : Reach} {base : Nat} {v : Value} {d : DataW H} {p : List MemPlace} {ts : List TypeId} {ds : List (DataW H)} {j : Nat}
    (hv : Value.okWide Tryz.prog W r base 26 v) (h : DataW.Trod enc Tryz.prog W 0 (fun _ => true) true 26 v d p) (hw : (DataW.weightsEach Tryz.prog ts ds).all (· ≤ reachBytes) = true) (ht : ts[j]? = some 26) (hd : ds[j]? = some d) :
    ∃ (dim kind : Nat) (al ab : Option Addr) (nl capl nb capb : Nat) (ks : List Int), v = .agg #[.int .u8 (dim : Int), .int .u8 (kind : Int), .slice al nl capl, .slice ab nb capb] ∧ Rd8 W al ks ∧ ks.length = nl ∧ nl ≤ 200000000000000 ∧ dim ≤ 255 ∧ kind ≤ 255 := by
  obtain ⟨v0, v1, v2, v3, y0, y1, y2, y3, k, rfl, rfl, rfl, h0, h1, h2, h3⟩ := open_agg4 Tryz.underlying26 (by kernel_rfl) (by kernel_rfl) hv h
  have hmem : ∀ n, n ∈ DataW.weightsEach Tryz.prog [5, 5, 24, 24] [y0.1, y1.1, y2.1, y3.1] → n ≤ reachBytes := fun n hn => of_decide_eq_true (List.all_eq_true.1 hw _ (DataW.weights_mem_each ht hd _ (by
    simp only [DataW.weights, Tryz.underlying26]
    exact hn)))
  obtain ⟨n0, e0, _, w0⟩ := DataW.trod_int Tryz.underlying5 h0
  obtain ⟨n1, e1, _, w1⟩ := DataW.trod_int Tryz.underlying5 h1
  have e0' : v0 = .int .u8 n0 := by simpa using e0
  have e1' : v1 = .int .u8 n1 := by simpa using e1
  have b0 := bounds_u8 w0
  have b1 := bounds_u8 w1
  obtain ⟨al, nl, capl, ks, rfl, hr, hl, hn⟩ := trod_i8s h2 (fun e s he => hmem _ (by simp [DataW.weightsEach, DataW.weights, he, Tryz.underlying24]))
  obtain ⟨ab, nb, capb, ks2, rfl, _, _, _⟩ := trod_i8s h3 (fun e s he => hmem _ (by simp [DataW.weightsEach, DataW.weights, he, Tryz.underlying24]))
  refine ⟨n0.toNat, n1.toNat, al, ab, nl, capl, nb, capb, ks, ?_, hr, hl, hn, by omega, by omega⟩
  rw [e0', e1', Int.toNat_of_nonneg b0.1, Int.toNat_of_nonneg b1.1]
end Go.Proofs.YtfpcfcegdjlggaaGreat
namespace Go.Proofs.YtfpcfcegdjlggaaGreat
open Go.RowKit Go.Shelf

/-- The lexicographic order of two lists. -/
def cmpL : List Int → List Int → Int
  | [], [] => 0
  | [], _ :: _ => -1
  | _ :: _, [] => 1
  | x :: xs, y :: ys => if Lib.compareInt x y = 0 then cmpL xs ys else Lib.compareInt x y

theorem compareInt_cases (x y : Int) : (x < y ∧ Lib.compareInt x y = -1) ∨ (x = y ∧ Lib.compareInt x y = 0) ∨ (y < x ∧ Lib.compareInt x y = 1) := by
  unfold Lib.compareInt
  by_cases h1 : x < y
  · simp [h1]
  · by_cases h2 : y < x
    · simp [h1, h2]
    · have : x = y := by omega
      simp [this]

theorem cmpL_drop {xs ys : List Int} {i : Nat} (h1 : i < xs.length) (h2 : i < ys.length) :
    cmpL (xs.drop i) (ys.drop i) = if Lib.compareInt (xs.getD i 0) (ys.getD i 0) = 0 then cmpL (xs.drop (i + 1)) (ys.drop (i + 1)) else Lib.compareInt (xs.getD i 0) (ys.getD i 0) := by
  have e1 : xs.getD i 0 = xs[i] := by simp [List.getD_eq_getElem?_getD, List.getElem?_eq_getElem h1]
  have e2 : ys.getD i 0 = ys[i] := by simp [List.getD_eq_getElem?_getD, List.getElem?_eq_getElem h2]
  rw [List.drop_eq_getElem_cons h1, List.drop_eq_getElem_cons h2, e1, e2]
  rfl

theorem cmpL_past {xs ys : List Int} {i : Nat} (h1 : i < xs.length) (h2 : ¬i < ys.length) : cmpL (xs.drop i) (ys.drop i) = 1 := by
  rw [List.drop_eq_getElem_cons h1, show ys.drop i = [] from List.drop_eq_nil_of_le (by omega)]; rfl
theorem cmpL_end {xs ys : List Int} : cmpL (xs.drop xs.length) (ys.drop xs.length) = if xs.length < ys.length then -1 else 0 := by
  rw [List.drop_eq_nil_of_le (Nat.le_refl _)]
  by_cases h : xs.length < ys.length
  · rw [List.drop_eq_getElem_cons h, if_pos h]; rfl
  · rw [List.drop_eq_nil_of_le (by omega), if_neg h]; rfl

set_option maxRecDepth 100000 in
set_option maxHeartbeats 1000000 in
theorem scompare_any (a a2 : Option Addr) (n cap m cap2 : Nat) (xs ys : List Int) (w : World) (hr : RdI w a cap xs) (hl : xs.length = n) (hr2 : RdI w a2 cap2 ys) (hl2 : ys.length = m) (hn : n ≤ 100000000000000) (_hm : m ≤ 100000000000000) :
    Calls Tryz.prog 114 #[.slice a n cap, .slice a2 m cap2] w fun e w' => e = .returned (.int .i64 (cmpL xs ys)) ∧ w' = w := by
  have hc := hr.cells
  have hc2 := hr2.cells
  have HC := Lib.hid hc
  have HC2 := Lib.hid hc2
  have HL := Lib.hid hl
  have HL2 := Lib.hid hl2
  have HCMP := Lib.hid Tryz.cmp_Compare_int
  clear hr hr2 hl hl2 hc hc2
  go_enter Tryz.func114, Tryz.ntmps114
  go_wp2_with fail
  go_loop [11] (fun ii => ∃ i : Nat, i ≤ n ∧ ii = .int .i64 (i : Int) ∧ Hid (cmpL xs ys = cmpL (xs.drop i) (ys.drop i))) (fun ii => n - (intOf ii).toNat)
  case atStart => exact ⟨0, by omega, rfl, rfl⟩
  case round =>
    obtain ⟨i, hin, rfl, hall⟩ := hrel
    by_cases hi : i < n
    · obtain ⟨b, o, rfl, hcell⟩ := HC.out i (by rw [HL.out]; exact hi)
      obtain ⟨x, hx⟩ : ∃ x, x = xs.getD i 0 := ⟨_, rfl⟩
      rw [← hx] at hcell
      by_cases him : i < m
      · obtain ⟨b2, o2, rfl, hcell2⟩ := HC2.out i (by rw [HL2.out]; exact him)
        obtain ⟨y, hy⟩ : ∃ y, y = ys.getD i 0 := ⟨_, rfl⟩
        rw [← hy] at hcell2
        have hd := cmpL_drop (xs := xs) (ys := ys) (i := i) (by rw [HL.out]; exact hi) (by rw [HL2.out]; exact him)
        rw [← hx, ← hy, ← hall.out] at hd
        obtain ⟨c, hc⟩ : ∃ c, c = Lib.compareInt x y := ⟨_, rfl⟩
        have hcall := HCMP.out x y
        rw [← hc] at hd hcall
        have HCALL := Lib.hid hcall
        have HD := Lib.hid hd
        clear hd hcall hx hy hc
        by_cases h0 : c = 0
        · subst h0
          have hnx : Hid (cmpL xs ys = cmpL (xs.drop (i + 1)) (ys.drop (i + 1))) := by unfold Hid; rw [HD.out, if_pos rfl]
          go_wp2_with fail
          refine (HCALL.out _).mono ?_
          rintro e w' ⟨rfl, rfl⟩
          go_wp2_with fail
          go_round
          case rel => exact ⟨i + 1, by omega, by go_num, hnx⟩
          case measure => simp [intOf]; omega
        · have hne : (!(c == 0)) = true := by simpa using h0
          have hE : Hid (cmpL xs ys = c) := by unfold Hid; rw [HD.out, if_neg h0]
          go_wp2_with fail
          refine (HCALL.out _).mono ?_
          rintro e w' ⟨rfl, rfl⟩
          go_wp2_with fail
          go_ret
          exact ⟨by rw [hE.out]; rfl, rfl⟩
      · have hE : Hid (cmpL xs ys = 1) := by unfold Hid; rw [hall.out]; exact cmpL_past (by rw [HL.out]; exact hi) (by rw [HL2.out]; exact him)
        have d1 : decide ((m : Int) ≤ (i : Int)) = true := decide_eq_true (by omega)
        clear hx
        go_wp2_with fail
        go_ret
        exact ⟨by rw [hE.out]; rfl, rfl⟩
    · obtain rfl : i = n := by omega
      have hend := cmpL_end (xs := xs) (ys := ys)
      rw [HL.out, HL2.out, ← hall.out] at hend
      by_cases hlt : i < m
      · have d1 : decide ((i : Int) < (m : Int)) = true := decide_eq_true (by omega)
        rw [if_pos hlt] at hend
        have HE := Lib.hid hend
        clear hend
        go_wp2_with fail
        go_ret
        exact ⟨by rw [HE.out]; rfl, rfl⟩
      · have d1 : decide ((i : Int) < (m : Int)) = false := decide_eq_false (by omega)
        rw [if_neg hlt] at hend
        have HE := Lib.hid hend
        clear hend
        go_wp2_with fail
        go_ret
        exact ⟨by rw [HE.out]; rfl, rfl⟩

set_option maxHeartbeats 400000 in
theorem compare_any (a a2 : Option Addr) (n cap m cap2 : Nat) (xs ys : List Int) (w : World) (hr : RdI w a cap xs) (hl : xs.length = n) (hr2 : RdI w a2 cap2 ys) (hl2 : ys.length = m) (hn : n ≤ 100000000000000) (hm : m ≤ 100000000000000) :
    Calls Tryz.prog 86 #[.slice a n cap, .slice a2 m cap2] w fun e w' => e = .returned (.int .i64 (cmpL xs ys)) ∧ w' = w := by
  have hc := scompare_any a a2 n cap m cap2 xs ys w hr hl hr2 hl2 hn hm
  have HC := Lib.hid hc
  clear hr hr2 hc hl hl2
  go_enter Tryz.func86, Tryz.ntmps86
  go_wp2_with fail
  refine HC.out.mono ?_
  rintro e w' ⟨rfl, rfl⟩
  go_wp2_with fail
  go_ret
  exact ⟨rfl, rfl⟩

/-- A pair of a norm and a vector, and where the vector lies. -/
structure Item where
  norm : Int
  vec : List Int
  a : Option Addr
  cap : Nat

/-- The two cells of an item. -/
def encN (x : Item) : List Value := [.int .i64 x.norm, .slice x.a x.vec.length x.cap]

/-- The order of two items. -/
def cfN (x y : Item) : Int := if Lib.compareInt x.norm y.norm = 0 then cmpL x.vec y.vec else Lib.compareInt x.norm y.norm

/-- An item whose vector is there. -/
def OkN (w : World) (x : Item) : Prop := RdI w x.a x.cap x.vec ∧ x.vec.length ≤ 100000000000000

set_option maxRecDepth 100000 in
set_option maxHeartbeats 1000000 in
theorem compareNormed_any (x y : Item) (w : World) (hx : OkN w x) (hy : OkN w y) :
    Calls Tryz.prog 43 #[.agg #[.int .i64 x.norm, .slice x.a x.vec.length x.cap], .agg #[.int .i64 y.norm, .slice y.a y.vec.length y.cap]] w fun e w' => e = .returned (.int .i64 (cfN x y)) ∧ ∃ q os, w' = Go.Sort.grow (w.drewN q) os := by
  obtain ⟨W, hW⟩ : ∃ W, W = (w.alloc (.cells #[.int .i64 x.norm, .slice x.a x.vec.length x.cap] 76)).alloc (.cells #[.int .i64 y.norm, .slice y.a y.vec.length y.cap] 76) := ⟨_, rfl⟩
  have hp1 : Pr w.heap.size (.int .i64 x.norm) (.slice x.a x.vec.length x.cap) W := by rw [hW]; exact (Pr.made _ _ _ _ rfl).alloc _
  have hp2 : Pr (w.heap.size + 1) (.int .i64 y.norm) (.slice y.a y.vec.length y.cap) W := by rw [hW]; exact Pr.made _ _ _ _ (by simp)
  have hb : Below w.heap.size w W := by rw [hW]; exact ((Below.refl _ _).alloc (Nat.le_refl _) _).alloc (by simp) _
  have hend : ∃ q os, W = Go.Sort.grow (w.drewN q) os := ⟨0, _, by rw [hW, alloc_grow, alloc_grow, Go.Sort.grow_grow]; rfl⟩
  have hcv := compare_any x.a y.a x.vec.length x.cap y.vec.length y.cap x.vec y.vec W (hx.1.below hb) rfl (hy.1.below hb) rfl hx.2 hy.2
  have HEND := Lib.hid hend
  have HCV := Lib.hid hcv
  have HCMP := Lib.hid (Tryz.cmp_Compare_int x.norm y.norm)
  have HWW : Hid ((w.alloc (.cells #[.int .i64 x.norm, .slice x.a x.vec.length x.cap] 76)).alloc (.cells #[.int .i64 y.norm, .slice y.a y.vec.length y.cap] 76) = W) := hW.symm
  obtain ⟨p1, p2, p3, p4, p5⟩ := hp1
  obtain ⟨q1, q2, q3, q4, q5⟩ := hp2
  obtain ⟨nx, hnx⟩ : ∃ n, n = x.norm := ⟨_, rfl⟩
  obtain ⟨ny, hny⟩ : ∃ n, n = y.norm := ⟨_, rfl⟩
  obtain ⟨c, hc⟩ : ∃ c, c = Lib.compareInt x.norm y.norm := ⟨_, rfl⟩
  obtain ⟨v, hv⟩ : ∃ v, v = cmpL x.vec y.vec := ⟨_, rfl⟩
  have hcf : cfN x y = if c = 0 then v else c := by unfold cfN; rw [hc, hv]
  rw [← hc] at HCMP
  rw [← hv] at HCV
  rw [hcf]
  clear hW hb hend hcv hx hy hcf
  by_cases h0 : c = 0
  · have d0 : (c != 0) = false := by simpa using h0
    rw [if_pos h0]
    clear h0 hc hv hnx hny
    go_enter Tryz.func43, Tryz.ntmps43
    go_wp2_with fail
    rw [HWW.out]
    refine (HCMP.out _).mono ?_
    rintro e w' ⟨rfl, rfl⟩
    go_wp2_with fail
    refine HCV.out.mono ?_
    rintro e w' ⟨rfl, rfl⟩
    go_wp2_with fail
    go_ret
    exact ⟨rfl, HEND.out⟩
  · have d0 : (c != 0) = true := by simpa using h0
    rw [if_neg h0]
    clear h0 hc hv hnx hny
    go_enter Tryz.func43, Tryz.ntmps43
    go_wp2_with fail
    rw [HWW.out]
    refine (HCMP.out _).mono ?_
    rintro e w' ⟨rfl, rfl⟩
    go_wp2_with fail
    go_ret
    exact ⟨rfl, HEND.out⟩

/-- The block of the list with its order, the box of its address, and the worlds behind it. -/
structure OrdBox (w : World) (bx bo : Nat) : Prop where
  box : w.cell? ⟨bx, 0, none⟩ = some (.pointer (some ⟨bo, 0, none⟩))
  fn : w.cell? ⟨bo, 1, none⟩ = some (.func (.func 43) #[] #[])

set_option maxRecDepth 100000 in
set_option maxHeartbeats 1000000 in
theorem equalNormed_any (bx bo : Nat) (x y : Item) (w : World) (hx : OkN w x) (hy : OkN w y) (ho : OrdBox w bx bo) :
    Calls Tryz.prog 89 #[.agg #[.int .i64 x.norm, .slice x.a x.vec.length x.cap], .agg #[.int .i64 y.norm, .slice y.a y.vec.length y.cap], .pointer (some ⟨bx, 0, none⟩)] w fun e w' => e = .returned (.bool (cfN x y == 0)) ∧ ∃ q os, w' = Go.Sort.grow (w.drewN q) os := by
  obtain ⟨W, hW⟩ : ∃ W, W = (w.alloc (.cells #[.int .i64 x.norm, .slice x.a x.vec.length x.cap] 76)).alloc (.cells #[.int .i64 y.norm, .slice y.a y.vec.length y.cap] 76) := ⟨_, rfl⟩
  have hp1 : Pr w.heap.size (.int .i64 x.norm) (.slice x.a x.vec.length x.cap) W := by rw [hW]; exact (Pr.made _ _ _ _ rfl).alloc _
  have hp2 : Pr (w.heap.size + 1) (.int .i64 y.norm) (.slice y.a y.vec.length y.cap) W := by rw [hW]; exact Pr.made _ _ _ _ (by simp)
  have hb : Below w.heap.size w W := by rw [hW]; exact ((Below.refl _ _).alloc (Nat.le_refl _) _).alloc (by simp) _
  have hend : ∃ q os, W = Go.Sort.grow (w.drewN q) os := ⟨0, _, by rw [hW, alloc_grow, alloc_grow, Go.Sort.grow_grow]; rfl⟩
  have hcv := fun n os => compareNormed_any x y (Go.Sort.grow (W.drewN n) os) ⟨(hx.1.below hb).below (below_grow W n os), hx.2⟩ ⟨(hy.1.below hb).below (below_grow W n os), hy.2⟩
  have f1 := fun n os => cell_grown (n := n) (os := os) hp1.lt hp1.c0
  have f2 := fun n os => cell_grown (n := n) (os := os) hp1.lt hp1.c1
  have f3 := fun n os => cell_grown (n := n) (os := os) hp2.lt hp2.c0
  have f4 := fun n os => cell_grown (n := n) (os := os) hp2.lt hp2.c1
  have g1 : W.cell? ⟨bx, 0, none⟩ = some (.pointer (some ⟨bo, 0, none⟩)) := by rw [hb.cell (World.block_lt_of_cell? w _ ho.box)]; exact ho.box
  have g2 : W.cell? ⟨bo, 1, none⟩ = some (.func (.func 43) #[] #[]) := by rw [hb.cell (World.block_lt_of_cell? w _ ho.fn)]; exact ho.fn
  have f5 := fun n os => cell_grown (n := n) (os := os) (World.block_lt_of_cell? W _ g1) g1
  have f6 := fun n os => cell_grown (n := n) (os := os) (World.block_lt_of_cell? W _ g2) g2
  have hmix := mixed
  have HEND := Lib.hid hend
  have HCV := Lib.hid hcv
  have HWW : Hid ((w.alloc (.cells #[.int .i64 x.norm, .slice x.a x.vec.length x.cap] 76)).alloc (.cells #[.int .i64 y.norm, .slice y.a y.vec.length y.cap] 76) = W) := hW.symm
  clear hW hb hend hcv hx hy hp1 hp2 g1 g2 ho
  obtain ⟨c, hc⟩ : ∃ c, c = cfN x y := ⟨_, rfl⟩
  rw [← hc] at HCV ⊢
  clear hc
  go_enter Tryz.func89, Tryz.ntmps89
  go_wp2_with fail
  rw [HWW.out]
  go_quiet_grown (first | (go_at_call 43; exact Calls.grown_of (HCV.out _ _)))
  have hfin : ∃ q os, Go.Sort.grow (W.drewN nq) osq = Go.Sort.grow (w.drewN q) os := by
    obtain ⟨q, os, e⟩ := HEND.out
    exact ⟨q + nq, os ++ osq, by rw [e]; show Go.Sort.grow (Go.Sort.grow ((w.drewN q).drewN nq) os) osq = _; rw [Go.Sort.grow_grow, World.drewN_drewN]⟩
  have HFIN := Lib.hid hfin
  clear hfin f1 f2 f3 f4 f5 f6
  go_wp2_with fail
  go_ret
  exact ⟨rfl, HFIN.out⟩
end Go.Proofs.YtfpcfcegdjlggaaGreat
