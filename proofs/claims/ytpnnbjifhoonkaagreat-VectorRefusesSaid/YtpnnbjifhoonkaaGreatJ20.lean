/-
  Joined texts: UW UX UY YL.
-/
import Derived.Test.YtpnnbjifhoonkaaGreatJ19
import Derived.Test.YtpnnbjifhoonkaaGreatJ03
namespace Go.Proofs.YtpnnbjifhoonkaaGreat
open Go.RowKit Minor

theorem cB_zero : cB 0 = 9223372036854775808 := by decide

theorem rdM_bound {w : World} {a : Option Addr} {c : Nat} {hs : List (List Int)} (h : RdM w a c hs) (i j : Nat) (hi : i < hs.length) : (ent hs i j).natAbs ≤ cB 0 := by
  obtain ⟨_, _, _, _, _, _, hr, _⟩ := h.rows i hi
  have := hr.get j
  rw [cB_zero]
  unfold ent
  unfold I64 at this
  omega

theorem redZ_iff (hs : List (List Int)) : (Shaped hs ∧ (hs.length = (hs.getD 0 []).length ∧ hs.length ≤ 8 ∧ SymN (ent hs) hs.length ∧ ∀ k, k < hs.length → 0 < detZ (ent hs) (k + 1)) ∧ detZ (ent hs) hs.length ≤ 10000 ∧ RedZ (ent hs) hs.length) ↔ RefRed hs := by
  constructor
  · rintro ⟨⟨h1, h2⟩, ⟨h3, h4, h5, h6⟩, h7, h8⟩
    refine ⟨⟨h1.1, h4⟩, fun i hi => by have := (h2 i hi).2.2; omega, fun i j hi hj => h5 i j hi hj, h6, h7, fun i j hi hj => ?_, fun i hi => ?_⟩
    · have := (h8 i hi).1 j hj
      have hp := h6 j (by omega)
      unfold SizedZ at this
      show 2 * (lamZ (ent hs) i j).natAbs ≤ (detZ (ent hs) (j + 1)).natAbs
      omega
    · exact (h8 (i + 1) hi).2 (by omega)
  · rintro ⟨h1, h2, h3, h4, h5, h6, h7⟩
    refine ⟨⟨⟨h1.1, by omega⟩, fun i hi => ?_⟩, ⟨?_, h1.2, fun i j hi hj => h3 i j hi hj, h4⟩, h5, fun i hi => ⟨fun j hj => ?_, fun h0 => ?_⟩⟩
    · have a := h2 i hi
      have b := h2 0 (by omega)
      omega
    · exact (h2 0 (by omega)).symm
    · have := h6 i j hi hj
      have hp : 0 < detZ (ent hs) (j + 1) := h4 j (by omega)
      have this' : 2 * (lamZ (ent hs) i j).natAbs ≤ (detZ (ent hs) (j + 1)).natAbs := this
      unfold SizedZ
      omega
    · obtain ⟨q, rfl⟩ : ∃ q, i = q + 1 := ⟨i - 1, by omega⟩
      exact h7 q hi

set_option maxRecDepth 100000 in
set_option maxHeartbeats 4000000 in
theorem risreduced_any (ah : Option Addr) (nh caph : Nat) (hs : List (List Int)) (w : World) (hrm : RdM w ah caph hs) (hlm : hs.length = nh) (hnh : nh ≤ 100000000000000) :
    Calls Tryz.prog 24 #[.slice ah nh caph] w fun e w' => ∃ r : Bool, e = .returned (.bool r) ∧ (r = true ↔ RefRed hs) ∧ Below w.heap.size w w' := by
  have HRM := Lib.hid hrm
  have HLM := Lib.hid hlm
  have HBD : Hid (∀ i j, i < hs.length → (ent hs i j).natAbs ≤ cB 0) := fun i j hi => rdM_bound hrm i j hi
  clear hrm hlm
  go_enter Tryz.func24, Tryz.ntmps24
  go_wp2_with fail
  refine (rfromints_any ah nh caph hs _ HRM.out HLM.out hnh).mono ?_
  rintro e w1 ⟨(⟨hno, rfl⟩ | ⟨hsh, g, cap, R, rfl, hM⟩), hb1⟩
  · have hnr : Hid (¬RefRed hs) := fun h => hno ((redZ_iff hs).2 h).1
    have HB1 := Lib.hid hb1
    clear hno hb1
    go_wp2_with fail
    go_ret
    exact ⟨false, rfl, ⟨fun h => by simp at h, fun h => absurd h hnr.out⟩, HB1.out⟩
  · obtain ⟨n, hn⟩ : ∃ n, n = hs.length := ⟨_, rfl⟩
    obtain ⟨m, hm⟩ : ∃ m, m = (hs.getD 0 []).length := ⟨_, rfl⟩
    have hsh2 := hsh
    obtain ⟨hn12, hrows⟩ := hsh2
    have hm12 := hrows 0 (by omega)
    rw [← hm] at hm12
    rw [← hn] at hM hn12 ⊢
    rw [← hm] at hM
    have HSH := Lib.hid hsh
    have HM := Lib.hid hM
    have HB1 := Lib.hid hb1
    have HN := Lib.hid hn
    have HMM := Lib.hid hm
    have hnn1 := hn12.1
    have hnn2 := hn12.2
    have hmm1 := hm12.1
    have hmm2 := hm12.2.1
    clear hsh hM hb1 hm12 hrows hn12 hn hm
    go_wp2_with fail
    refine (rvalidate_any g n m cap R (ent hs) _ HM.out hnn1 hnn2 hmm1 hmm2 (fun i j hi _ => HBD.out i j (by rw [← HN.out]; exact hi))).mono ?_
    rintro e w2 ⟨r, rfl, hr, hb2⟩
    have HM2 := Lib.hid (HM.out.below hb2)
    have HB2 : Hid (Below w.heap.size w w2) := HB1.out.trans (hb2.mono HB1.out.size)
    clear hb2 HM HB1
    by_cases h0 : r = 0
    · subst h0
      obtain ⟨hnm, hn8, hsy, hpos⟩ := hr.1 rfl
      have HV : Hid (hs.length = (hs.getD 0 []).length ∧ hs.length ≤ 8 ∧ SymN (ent hs) hs.length ∧ ∀ k, k < hs.length → 0 < detZ (ent hs) (k + 1)) := by
        unfold Hid
        rw [← HN.out, ← HMM.out]; exact ⟨hnm, hn8, hsy, hpos⟩
      subst hnm
      clear hr hsy hpos
      go_wp2_with fail
      refine (rsmall_form g n cap R (ent hs) _ HM2.out hnn1 hn8 (fun i j hi _ => HBD.out i j (by rw [← HN.out]; exact hi))).mono ?_
      rintro e w3 ⟨r, rfl, hr, hb3⟩
      have HM3 := Lib.hid (HM2.out.below hb3)
      have HB3 : Hid (Below w.heap.size w w3) := HB2.out.trans (hb3.mono HB2.out.size)
      clear hb3 HM2 HB2
      cases r with
      | false =>
        have hnr : Hid (¬RefRed hs) := fun h => by
          have h1 := ((redZ_iff hs).2 h).2.2.1
          rw [← HN.out] at h1
          have := hr.2 h1
          simp at this
        clear hr
        go_wp2_with fail
        go_ret
        exact ⟨false, rfl, ⟨fun h => by simp at h, fun h => absurd h hnr.out⟩, HB3.out⟩
      | true =>
        have HS3 : Hid (detZ (ent hs) hs.length ≤ 10000) := by unfold Hid; rw [← HN.out]; exact hr.1 rfl
        clear hr
        go_wp2_with fail
        refine (rreduced_any g n cap R (ent hs) _ HM3.out hnn1 hn8 (fun i j hi _ => HBD.out i j (by rw [← HN.out]; exact hi))).mono ?_
        rintro e w4 ⟨r, rfl, hr, hb4⟩
        have HB4 : Hid (Below w.heap.size w w4) := HB3.out.trans (hb4.mono HB3.out.size)
        have hfin : Hid (r = true ↔ RefRed hs) := by
          unfold Hid
          rw [hr, ← redZ_iff hs, HN.out]
          exact ⟨fun h => ⟨HSH.out, HV.out, HS3.out, h⟩, fun h => h.2.2.2⟩
        clear hb4 hr HM3 HB3
        go_wp2_with fail
        go_ret
        exact ⟨r, rfl, hfin.out, HB4.out⟩
    · have hnr : Hid (¬RefRed hs) := fun h => by
        have h1 := ((redZ_iff hs).2 h).2.1
        rw [← HN.out, ← HMM.out] at h1
        exact h0 (hr.2 h1)
      have hb0 : (r == 0) = false := by simpa using h0
      clear hr h0
      go_wp2_with fail
      go_ret
      exact ⟨false, rfl, ⟨fun h => by simp at h, fun h => absurd h hnr.out⟩, HB2.out⟩
end Go.Proofs.YtpnnbjifhoonkaaGreat
namespace Go.Proofs.YtpnnbjifhoonkaaGreat
open Go.RowKit Minor

set_option maxRecDepth 100000 in
set_option maxHeartbeats 4000000 in
theorem rcolumn_any (a : Option Addr) (n cap : Nat) (xs : List Int) (w : World) (hr : RdI w a cap xs) (hl : xs.length = n) (h1 : 1 ≤ n) (h2 : n ≤ 100) :
    Calls Tryz.prog 29 #[.slice a n cap] w fun e w' => ∃ b c, e = .returned (.slice (some ⟨b, 0, none⟩) n c) ∧ RowZ w' b n (fun i => xs.getD i 0) ∧ Below w.heap.size w w' := by
  have HR := Lib.hid hr
  have HL := Lib.hid hl
  clear hr hl
  go_enter Tryz.func29, Tryz.ntmps29
  go_wp2_with fail
  go_loopw [3, 8] (fun vv ii wr => ∃ i : Nat, i ≤ n ∧ ii = .int .i64 (i : Int) ∧ Hid (RowB wr w.heap.size vv i (fun i => xs.getD i 0)) ∧ Hid (Below w.heap.size w wr)) (fun _ ii _ => n - (intOf ii).toNat)
  case atStart => exact ⟨0, by omega, rfl, RowB.nil _ _ _, Below.refl _ _⟩
  case round =>
    obtain ⟨i, hin, rfl, hR, hB⟩ := hrel
    by_cases hi : i < n
    · have hrr := HR.out.below hB.out
      obtain ⟨bx, ox, hax, xc⟩ := hrr.cells i (by rw [HL.out]; exact hi)
      have hx64 := hrr.get i
      obtain ⟨x, hx⟩ : ∃ x, x = xs.getD i 0 := ⟨_, rfl⟩
      rw [← hx] at xc hx64
      have hx1 := hx64.1
      have hx2 := hx64.2
      have HX := Lib.hid hx
      subst hax
      clear hrr hx64 hx
      go_wp2_with fail
      refine (smallZ x hx1 hx2).mono ?_
      rintro e w5 ⟨a5, c5, rfl, hr5, hb5⟩
      obtain ⟨W, hW⟩ : ∃ W, W = w5.alloc (.cells #[.bool (sg x), .slice a5 (mg x).length c5] 33) := ⟨_, rfl⟩
      have hbW : Below w5.heap.size w5 W := by rw [hW]; exact (Below.refl _ _).alloc (Nat.le_refl _) _
      have hBx : Box w5.heap.size (.bool (sg x)) (.slice a5 (mg x).length c5) W := by rw [hW]; exact Box.made _ _ rfl _ _ _
      have HBW : Below wr.heap.size wr W := hb5.trans (hbW.mono hb5.size)
      have hRW : Hid (RowB W w.heap.size u3 i (fun i => xs.getD i 0)) := hR.out.moved HBW
      have hBW : Hid (Below w.heap.size w W) := hB.out.trans (HBW.mono hB.out.size)
      have hc0 := Lib.hid hBx.c0
      have hc1 := Lib.hid hBx.c1
      have hL := Lib.hid (hr5.below hbW)
      have hWW : Hid (w5.alloc (.cells #[.bool (sg x), .slice a5 (mg x).length c5] 33) = W) := hW.symm
      clear hW hbW hBx HBW hr5 hb5 xc hx1 hx2
      go_wp2_with (at_builtin; rw [hWW.out]; refine app_Z rfl _ _ rfl w.heap.size _ i (fun i => xs.getD i 0) rfl hRW.out w5.heap.size _ rfl x a5 c5 hc0.out hc1.out hL.out (by omega) hBW.out.size ?_)
      intro g9 cap9 w9 q1 q2 q3 q4
      have hnx : Hid (RowB w9 w.heap.size (.slice (some ⟨g9, 0, none⟩) (i + 1) cap9) (i + 1) (fun i => xs.getD i 0)) := q1.congr fun t ht => by
        by_cases e : t = i
        · rw [if_pos e, e, HX.out]
        · rw [if_neg e]; simp
      have hbx : Hid (Below w.heap.size w w9) := by
        obtain ⟨A, C, ho, _⟩ := hRW.out
        exact below_app hBW.out ho q2
      clear q1 q2 q3 q4 hRW hc0 hc1 hL
      go_wp2_with fail
      go_roundw
      case rel => exact ⟨i + 1, by omega, by go_num, hnx, hbx⟩
      case measure => simp [intOf]; omega
    · obtain rfl : i = n := by omega
      obtain ⟨g5, cap5, hv5, _, hr5, _⟩ := hR.out.done h1
      subst hv5
      have HR5 := Lib.hid hr5
      clear hr5 hR
      go_wp2_with fail
      go_ret
      exact ⟨g5, cap5, rfl, HR5.out, hB.out⟩

/-- The sum of the products of the first n entries. -/
def dotZ (f h : Nat → Int) : Nat → Int
  | 0 => 0
  | n + 1 => dotZ f h n + f n * h n

theorem dotZ_bound {f h : Nat → Int} {t : Nat} : ∀ n, n ≤ 100 → (∀ i, i < n → (f i).natAbs ≤ cB t ∧ (h i).natAbs ≤ cB t) → (dotZ f h n).natAbs ≤ n * (cB t * cB t)
  | 0, _, _ => by simp [dotZ]
  | n + 1, hn, hb => by
    have h1 := dotZ_bound n (by omega) fun i hi => hb i (by omega)
    obtain ⟨h2, h3⟩ := hb n (by omega)
    have h4 := prod_bound h2 h3
    unfold dotZ
    have h5 : (n + 1) * (cB t * cB t) = n * (cB t * cB t) + cB t * cB t := by rw [Nat.add_mul, Nat.one_mul]
    omega

theorem cB_hundred (t : Nat) : 100 ≤ cB (t + 1) := by
  have h1 : cB 1 ≤ cB (t + 1) := cB_mono (by omega)
  have h2 : 100 ≤ cB 1 := by decide
  omega

theorem dot_fits {t n : Nat} (hn : n ≤ 100) : n * (cB t * cB t) ≤ cB (t + 2) := by
  have h1 := cB_step t
  have h2 := cB_step (t + 1)
  have h3 := cB_hundred t
  have h4 : n * (cB t * cB t) ≤ 100 * (cB t * cB t) := Nat.mul_le_mul_right _ hn
  have h5 : 100 * cB (t + 1) ≤ cB (t + 1) * cB (t + 1) := Nat.mul_le_mul_right _ h3
  have h6 : cB (t + 1 + 1) = cB (t + 2) := rfl
  omega

theorem dotZ_fits {f h : Nat → Int} {t n : Nat} (hn : n ≤ 100) (hb : ∀ i, i < n → (f i).natAbs ≤ cB t ∧ (h i).natAbs ≤ cB t) : (dotZ f h n).natAbs ≤ cB (t + 2) := Nat.le_trans (dotZ_bound n hn hb) (dot_fits hn)

theorem zero_row (w : World) (t : TypeId) : RowZ (w.alloc (.cells #[.bool false, .slice none 0 0] t)) w.heap.size 1 (fun _ => 0) := RowZ.made w 0 (a := none) (c := 0) (Lm.nil _ _) t

/-- What Dot has summed. -/
structure Sm (w0 w : World) (z : Int) : Prop where
  res : Box w0.heap.size (.bool false) (.slice none 0 0) w
  sum : RowZ w (w0.heap.size + 1) 1 (fun _ => z)
  below : Below w0.heap.size w0 w

theorem Sm.moved {w0 w w' : World} {z : Int} (h : Sm w0 w z) (hb : Below w.heap.size w w') : Sm w0 w' z := ⟨h.res.below hb, h.sum.belowU hb, h.below.trans (hb.mono h.below.size)⟩

theorem Sm.store {w0 w : World} {z x : Int} (h : Sm w0 w z) {a : Option Addr} {c : Nat} (hr : Lm w a c (mg x)) : Sm w0 ((w.setCell ⟨w0.heap.size + 1, 0, none⟩ (.bool (sg x))).setCell ⟨w0.heap.size + 1, 1, none⟩ (.slice a (mg x).length c)) x := by
  have hl : RowZ ((w.setCell ⟨w0.heap.size + 1, 0, none⟩ (.bool (sg x))).setCell ⟨w0.heap.size + 1, 1, none⟩ (.slice a (mg x).length c)) (w0.heap.size + 1) 1 (fun _ => x) := by
    have := h.sum.store 0 (by omega) x hr
    exact this.congr fun j hj => by rw [if_pos (by omega)]
  exact ⟨h.res.off (o := 0) (by omega) _ _, hl, (h.below.setCell (p := ⟨w0.heap.size + 1, 0, none⟩) (by show _ ≤ _ + 1; omega) _).setCell (p := ⟨w0.heap.size + 1, 1, none⟩) (by show _ ≤ _ + 1; omega) _⟩

set_option maxRecDepth 100000 in
set_option maxHeartbeats 4000000 in
theorem rdot_any (b1 b2 n m c1 c2 t : Nat) (f h : Nat → Int) (w : World) (hf : RowZ w b1 n f) (hh : RowZ w b2 n h) (hn : n ≤ 100) (ht : t ≤ 8) (hb : ∀ i, i < n → (f i).natAbs ≤ cB t ∧ (h i).natAbs ≤ cB t) :
    Calls Tryz.prog 30 #[.slice (some ⟨b1, 0, none⟩) n c1, .slice (some ⟨b2, 0, none⟩) n c2] w (GivesZ w (dotZ f h n)) := by
  obtain ⟨W, hW⟩ : ∃ W, W = (w.alloc (.cells #[.bool false, .slice none 0 0] 33)).alloc (.cells #[.bool false, .slice none 0 0] 33) := ⟨_, rfl⟩
  have hst : Hid (Sm w W (dotZ f h 0)) := by
    rw [hW]
    refine ⟨(Box.made _ _ rfl _ _ _).alloc _, ?_, ((Below.refl _ _).alloc (Nat.le_refl _) _).alloc (by simp) _⟩
    have := zero_row (w.alloc (.cells #[.bool false, .slice none 0 0] 33)) 33
    rw [World.size_alloc] at this
    exact this
  have HF := Lib.hid hf
  have HH := Lib.hid hh
  have HB := Lib.hid hb
  have HWW : Hid ((w.alloc (.cells #[.bool false, .slice none 0 0] 33)).alloc (.cells #[.bool false, .slice none 0 0] 33) = W) := hW.symm
  clear hf hh hb hW
  go_enter Tryz.func30, Tryz.ntmps30
  go_wp2_with fail
  rw [HWW.out]
  go_loopw [10] (fun ii wr => ∃ i : Nat, i ≤ n ∧ ii = .int .i64 (i : Int) ∧ Hid (Sm w wr (dotZ f h i))) (fun ii _ => n - (intOf ii).toNat)
  case atStart => exact ⟨0, by omega, rfl, hst⟩
  case round =>
    obtain ⟨i, hin, rfl, hS⟩ := hrel
    clear hst
    by_cases hi : i < n
    · obtain ⟨a1, d1, x1, y1, r1⟩ := (HF.out.belowU hS.out.below).c i hi
      obtain ⟨a2, d2, x2, y2, r2⟩ := (HH.out.belowU hS.out.below).c i hi
      obtain ⟨a5, d5, x5, y5, r5⟩ := hS.out.sum.c 0 (by omega)
      have x5' : wr.cell? ⟨w.heap.size + 1, 0, none⟩ = some (.bool (sg (dotZ f h i))) := x5
      have y5' : wr.cell? ⟨w.heap.size + 1, 1, none⟩ = some (.slice a5 (mg (dotZ f h i)).length d5) := y5
      have hlt := hS.out.sum.lt
      have f0 := hS.out.sum.fr 0
      have f1 := hS.out.sum.fr 1
      obtain ⟨hbf, hbh⟩ := HB.out i hi
      have hbs : (dotZ f h i).natAbs ≤ cB (t + 2) := dotZ_fits (by omega) fun j hj => HB.out j (by omega)
      have hcs := cB_step t
      have hps := prod_bound hbf hbh
      have hle := cB_le (t + 1)
      obtain ⟨v1, hv1⟩ : ∃ v, v = f i := ⟨_, rfl⟩
      obtain ⟨v2, hv2⟩ : ∃ v, v = h i := ⟨_, rfl⟩
      obtain ⟨s, hs⟩ : ∃ s, s = dotZ f h i := ⟨_, rfl⟩
      rw [← hv1] at x1 y1 r1 hbf hps
      rw [← hv2] at x2 y2 r2 hbh hps
      rw [← hs] at x5' y5' r5 hbs
      have k1 : Hid ((mg v1).length ≤ 1000000) := cB_short (by omega) hbf
      have k2 : Hid ((mg v2).length ≤ 1000000) := cB_short (by omega) hbh
      have k3 : Hid ((mg (v1 * v2)).length ≤ 1000000) := cB_short (k := t + 1) (by omega) (by omega)
      have k4 : Hid ((mg s).length ≤ 1000000) := cB_short (k := t + 2) (by omega) hbs
      have HE : Hid (dotZ f h (i + 1) = s + v1 * v2) := by unfold Hid; rw [hs, hv1, hv2]; rfl
      have hK : Hid (∀ w', Below wr.heap.size wr w' → w'.cell? ⟨w.heap.size + 1, 0, none⟩ = some (.bool (sg s)) ∧ w'.cell? ⟨w.heap.size + 1, 1, none⟩ = some (.slice a5 (mg s).length d5) ∧ w'.cell? ⟨b1, i * 2, none⟩ = some (.bool (sg v1)) ∧ w'.cell? ⟨b1, i * 2 + 1, none⟩ = some (.slice a1 (mg v1).length d1) ∧ w'.cell? ⟨b2, i * 2, none⟩ = some (.bool (sg v2)) ∧ w'.cell? ⟨b2, i * 2 + 1, none⟩ = some (.slice a2 (mg v2).length d2)) :=
        fun w' h => ⟨cell_keep h x5', cell_keep h y5', cell_keep h x1, cell_keep h y1, cell_keep h x2, cell_keep h y2⟩
      have hR1 : Hid (∀ w', Below wr.heap.size wr w' → Lm w' a1 d1 (mg v1)) := fun w' h => r1.below h
      have hR2 : Hid (∀ w', Below wr.heap.size wr w' → Lm w' a2 d2 (mg v2)) := fun w' h => r2.below h
      have hR5 : Hid (∀ w', Below wr.heap.size wr w' → Lm w' a5 d5 (mg s)) := fun w' h => r5.below h
      have hbD : Below wr.heap.size wr wr.drew := (Below.refl _ _).drew
      have z1 : (0 : Int) ≤ (i : Int) := by omega
      have z2 : (i : Int) < (n : Int) := by omega
      have X5 := Lib.hid x5'
      have Y5 := Lib.hid y5'
      have HSV := Lib.hid hs
      clear x5 y5 r1 r2 r5 hv1 hv2 hs hbf hbh hbs hcs hps hle x1 y1 x2 y2 x5' y5'
      go_wp2_with fail
      refine begin_T 11 (fun w' => w'.cell? ⟨w.heap.size + 1, 0, none⟩ = some (.bool (sg s)) ∧ w'.cell? ⟨w.heap.size + 1, 1, none⟩ = some (.slice a5 (mg s).length d5) ∧ w'.cell? ⟨b1, i * 2, none⟩ = some (.bool (sg v1)) ∧ w'.cell? ⟨b1, i * 2 + 1, none⟩ = some (.slice a1 (mg v1).length d1) ∧ w'.cell? ⟨b2, i * 2, none⟩ = some (.bool (sg v2)) ∧ w'.cell? ⟨b2, i * 2 + 1, none⟩ = some (.slice a2 (mg v2).length d2)) (by kernel_rfl) (hK.out _ hbD) (fun hHeld => ?_)
      refine first_T (i := 0) (v := ?_) rfl (by kernel_rfl) (fun _ _ _ h => h) (by rfl) (fun w hSw => ?_) hHeld ?_
      rotate_left
      · ((try dsimp only at hSw); go_simp; (try with_reducible rfl))
      try simp only [Act.put, List.setIfInBounds_toArray, List.set_cons_zero, List.set_cons_succ]
      refine first_T (i := 1) (v := ?_) rfl (by kernel_rfl) (fun _ _ _ h => h) (by rfl) (fun w hSw => ?_) hHeld ?_
      rotate_left
      · ((try dsimp only at hSw); go_simp; (try with_reducible rfl))
      try simp only [Act.put, List.setIfInBounds_toArray, List.set_cons_zero, List.set_cons_succ]
      refine first_T (i := 2) (v := ?_) rfl (by kernel_rfl) (fun _ _ _ h => h) (by rfl) (fun w hSw => ?_) hHeld ?_
      rotate_left
      · ((try dsimp only at hSw); go_simp; (try with_reducible rfl))
      try simp only [Act.put, List.setIfInBounds_toArray, List.set_cons_zero, List.set_cons_succ]
      refine first_T (i := 3) (v := ?_) rfl (by kernel_rfl) (fun _ _ _ h => h) (by rfl) (fun w hSw => ?_) hHeld ?_
      rotate_left
      · ((try dsimp only at hSw); go_simp; (try with_reducible rfl))
      try simp only [Act.put, List.setIfInBounds_toArray, List.set_cons_zero, List.set_cons_succ]
      refine first_T (i := 4) (v := ?_) rfl (by kernel_rfl) (fun _ _ _ h => h) (by rfl) (fun w hSw => ?_) hHeld ?_
      rotate_left
      · ((try dsimp only at hSw); go_simp; (try with_reducible rfl))
      try simp only [Act.put, List.setIfInBounds_toArray, List.set_cons_zero, List.set_cons_succ]
      refine first_T (i := 5) (v := ?_) rfl (by kernel_rfl) (fun _ _ _ h => h) (by rfl) (fun w hSw => ?_) hHeld ?_
      rotate_left
      · ((try dsimp only at hSw); go_simp; (try with_reducible rfl))
      try simp only [Act.put, List.setIfInBounds_toArray, List.set_cons_zero, List.set_cons_succ]
      refine first_T (i := 6) (v := ?_) rfl (by kernel_rfl) (fun _ _ _ h => h) (by rfl) (fun w hSw => ?_) hHeld ?_
      rotate_left
      · ((try dsimp only at hSw); go_simp; (try with_reducible rfl))
      try simp only [Act.put, List.setIfInBounds_toArray, List.set_cons_zero, List.set_cons_succ]
      refine first_T (i := 7) (v := ?_) rfl (by kernel_rfl) (fun _ _ _ h => h) (by rfl) (fun w hSw => ?_) hHeld ?_
      rotate_left
      · ((try dsimp only at hSw); go_simp; (try with_reducible rfl))
      try simp only [Act.put, List.setIfInBounds_toArray, List.set_cons_zero, List.set_cons_succ]
      refine first_T (i := 8) (v := ?_) rfl (by kernel_rfl) (fun _ _ _ h => h) (by rfl) (fun w hSw => ?_) hHeld ?_
      rotate_left
      · ((try dsimp only at hSw); go_simp; (try with_reducible rfl))
      try simp only [Act.put, List.setIfInBounds_toArray, List.set_cons_zero, List.set_cons_succ]
      refine next_T (i := 9) rfl (by kernel_rfl) (fun K hKK => ?_)
      go_simp
      refine (mulZ (hR1.out _ hbD) (hR2.out _ hbD) k1.out k2.out).mono ?_
      rintro e w7 ⟨a7, c7, rfl, hr7, hb7⟩
      have hby : Below wr.heap.size wr w7 := hbD.trans (hb7.mono hbD.size)
      go_wp2_with fail
      clear hHeld
      refine hKK.out _ _ (hK.out _ hby) (fun hHeld => ?_)
      clear hKK K
      try simp only [Act.put, List.setIfInBounds_toArray, List.set_cons_zero, List.set_cons_succ]
      refine next_T (i := 10) rfl (by kernel_rfl) (fun K hKK => ?_)
      go_simp
      refine (addZ (hR5.out _ hby) hr7 k4.out k3.out).mono ?_
      rintro e w8 ⟨a8, c8, rfl, hr8, hb8⟩
      have hbz : Below wr.heap.size wr w8 := hby.trans (hb8.mono hby.size)
      have q0 := cell_keep hbz X5.out
      have q1 := cell_keep hbz Y5.out
      have q2 := (hbz.frozen (p := ⟨w.heap.size + 1, 0, none⟩) hlt).trans f0
      have q3 := (hbz.frozen (p := ⟨w.heap.size + 1, 1, none⟩) hlt).trans f1
      go_wp2_with fail
      clear hHeld
      refine hKK.out _ _ (hK.out _ hbz) (fun hHeld => ?_)
      clear hKK K
      try simp only [Act.put, List.setIfInBounds_toArray, List.set_cons_zero, List.set_cons_succ]
      refine last_T (t := 11) rfl (by kernel_rfl) (by kernel_rfl) (fun K hKK => ?_)
      go_simp
      refine hKK.out _ _ ?_
      have hnx : Hid (Sm w ((w8.setCell ⟨w.heap.size + 1, 0, none⟩ (.bool (sg (s + v1 * v2)))).setCell ⟨w.heap.size + 1, 1, none⟩ (.slice a8 (mg (s + v1 * v2)).length c8)) (dotZ f h (i + 1))) := by
        unfold Hid
        rw [HE.out]
        exact (hS.out.moved hbz).store hr8
      clear hKK K hHeld q0 q1 q2 q3 hbz hby hbD hr7 hr8 hb7 hb8 hlt f0 f1
      go_wp2_with fail
      go_roundw
      case rel =>
        first
          | exact ⟨i + 1, by omega, by go_num, hnx⟩
          | ((repeat apply Exists.intro); exact ⟨⟨i + 1, by omega, by go_num, hnx⟩, rfl⟩)
      case measure => simp [intOf]; omega
    · obtain rfl : i = n := by omega
      obtain ⟨a5, d5, x5, y5, r5⟩ := hS.out.sum.c 0 (by omega)
      have x5' : wr.cell? ⟨w.heap.size + 1, 0, none⟩ = some (.bool (sg (dotZ f h i))) := x5
      have y5' : wr.cell? ⟨w.heap.size + 1, 1, none⟩ = some (.slice a5 (mg (dotZ f h i)).length d5) := y5
      obtain ⟨s, hs⟩ : ∃ s, s = dotZ f h i := ⟨_, rfl⟩
      rw [← hs] at x5' y5' r5 ⊢
      obtain ⟨t0, t1, t2, t3, t4⟩ := hS.out.res
      have HL : Hid (Lm ((wr.setCell ⟨w.heap.size, 0, none⟩ (.bool (sg s))).setCell ⟨w.heap.size, 1, none⟩ (.slice a5 (mg s).length d5)) a5 d5 (mg s)) := two_lm r5 t0 t1 _ _
      have HBF : Hid (Below w.heap.size w ((wr.setCell ⟨w.heap.size, 0, none⟩ (.bool (sg s))).setCell ⟨w.heap.size, 1, none⟩ (.slice a5 (mg s).length d5))) := two_bel hS.out.below (Nat.le_refl _) _ _
      have HSV := Lib.hid hs
      clear x5 y5 r5 hs hS
      go_wp2_with fail
      exact bodyPost_ret (v := .agg #[.bool (sg s), .slice a5 (mg s).length d5]) (by simp [results, Tryz.results30, go_sem, t0, t1]) rfl (by rw [← HSV.out]; exact ⟨a5, d5, rfl, HL.out, HBF.out⟩)
end Go.Proofs.YtpnnbjifhoonkaaGreat
namespace Go.Proofs.YtpnnbjifhoonkaaGreat
open Go.RowKit Minor

set_option maxRecDepth 100000 in
set_option maxHeartbeats 4000000 in
theorem rapply_any (g n m cap bx cx t : Nat) (R : Nat → Nat) (M : Nat → Nat → Int) (f : Nat → Int) (w : World) (hM : MatZ w g n m R M) (hf : RowZ w bx m f) (h1 : 1 ≤ n) (h2 : n ≤ 16) (h3 : 1 ≤ m) (h4 : m ≤ 16) (ht : t ≤ 8) (hs : ∀ i j, i < n → j < m → (M i j).natAbs ≤ cB t ∧ (f j).natAbs ≤ cB t) :
    Calls Tryz.prog 27 #[.slice (some ⟨g, 0, none⟩) n cap, .slice (some ⟨bx, 0, none⟩) m cx] w fun e w' => ∃ b c, e = .returned (.tuple #[.slice (some ⟨b, 0, none⟩) n c, .bool true]) ∧ RowZ w' b n (fun i => dotZ (M i) f m) ∧ Below w.heap.size w w' := by
  have HM := Lib.hid hM
  have HF := Lib.hid hf
  have HS := Lib.hid hs
  have d5 : ((m : Int) == (m : Int)) = true := by simp
  clear hM hf hs
  go_enter Tryz.func27, Tryz.ntmps27
  go_wp2_with fail
  refine (rshape_any g n m cap R M _ HM.out h1 h2 h3 h4).mono ?_
  rintro e w1 ⟨rfl, hb1⟩
  have HB1 := Lib.hid hb1
  clear hb1
  go_wp2_with fail
  go_loopw [9, 28] (fun vv ii wr => ∃ i : Nat, i ≤ n ∧ ii = .int .i64 (i : Int) ∧ Hid (RowB wr w.heap.size vv i (fun i => dotZ (M i) f m)) ∧ Hid (Below w.heap.size w wr)) (fun _ ii _ => n - (intOf ii).toNat)
  case atStart => exact ⟨0, by omega, rfl, RowB.nil _ _ _, HB1⟩
  case round =>
    obtain ⟨i, hin, rfl, hR, hB⟩ := hrel
    by_cases hi : i < n
    · obtain ⟨co, oo⟩ := (HM.out.below hB.out).outer i hi
      have HRi : Hid (RowZ wr (R i) m (M i)) := (HM.out.below hB.out).row i hi
      have HFr : Hid (RowZ wr bx m f) := HF.out.belowU hB.out
      go_wp2_with fail
      refine (rdot_any (R i) bx m m co cx t (M i) f _ HRi.out HFr.out (by omega) ht (fun j hj => HS.out i j hi hj)).mono ?_
      rintro e w5 ⟨a5, c5, rfl, hr5, hb5⟩
      obtain ⟨x, hx⟩ : ∃ x, x = dotZ (M i) f m := ⟨_, rfl⟩
      rw [← hx] at hr5 ⊢
      have HX := Lib.hid hx
      obtain ⟨W, hW⟩ : ∃ W, W = w5.alloc (.cells #[.bool (sg x), .slice a5 (mg x).length c5] 33) := ⟨_, rfl⟩
      have hbW : Below w5.heap.size w5 W := by rw [hW]; exact (Below.refl _ _).alloc (Nat.le_refl _) _
      have hBx : Box w5.heap.size (.bool (sg x)) (.slice a5 (mg x).length c5) W := by rw [hW]; exact Box.made _ _ rfl _ _ _
      have HBW : Below wr.heap.size wr W := hb5.trans (hbW.mono hb5.size)
      have hRW : Hid (RowB W w.heap.size u9 i (fun i => dotZ (M i) f m)) := hR.out.moved HBW
      have hBW : Hid (Below w.heap.size w W) := hB.out.trans (HBW.mono hB.out.size)
      have hc0 := Lib.hid hBx.c0
      have hc1 := Lib.hid hBx.c1
      have hL := Lib.hid (hr5.below hbW)
      have hWW : Hid (w5.alloc (.cells #[.bool (sg x), .slice a5 (mg x).length c5] 33) = W) := hW.symm
      clear hW hbW hBx HBW hr5 hb5 hx oo
      go_wp2_with (at_builtin; rw [hWW.out]; refine app_Z rfl _ _ rfl w.heap.size _ i (fun i => dotZ (M i) f m) rfl hRW.out w5.heap.size _ rfl x a5 c5 hc0.out hc1.out hL.out (by omega) hBW.out.size ?_)
      intro g9 cap9 w9 q1 q2 q3 q4
      have hnx : Hid (RowB w9 w.heap.size (.slice (some ⟨g9, 0, none⟩) (i + 1) cap9) (i + 1) (fun i => dotZ (M i) f m)) := q1.congr fun t ht => by
        by_cases e : t = i
        · rw [if_pos e, e, HX.out]
        · rw [if_neg e]
      have hbx : Hid (Below w.heap.size w w9) := by
        obtain ⟨A, C, ho, _⟩ := hRW.out
        exact below_app hBW.out ho q2
      clear q1 q2 q3 q4 hRW hc0 hc1 hL
      go_wp2_with fail
      go_roundw
      case rel => exact ⟨i + 1, by omega, by go_num, hnx, hbx⟩
      case measure => simp [intOf]; omega
    · obtain rfl : i = n := by omega
      obtain ⟨g5, cap5, hv5, _, hr5, _⟩ := hR.out.done h1
      subst hv5
      have HR5 := Lib.hid hr5
      clear hr5 hR
      go_wp2_with fail
      go_ret2
      exact ⟨g5, cap5, rfl, HR5.out, hB.out⟩

set_option maxRecDepth 100000 in
set_option maxHeartbeats 2000000 in
theorem rof_any (ah : Option Addr) (nh caph : Nat) (hs : List (List Int)) (w : World) (hrm : RdM w ah caph hs) (hlm : hs.length = nh) (hnh : nh ≤ 100000000000000) (hsh : Shaped hs) :
    Calls Tryz.prog 28 #[.slice ah nh caph] w fun e w' => ∃ g cap R, e = .returned (.slice (some ⟨g, 0, none⟩) nh cap) ∧ MatZ w' g nh (hs.getD 0 []).length R (ent hs) ∧ Below w.heap.size w w' := by
  have HRM := Lib.hid hrm
  have HLM := Lib.hid hlm
  have HSH := Lib.hid hsh
  clear hrm hlm hsh
  go_enter Tryz.func28, Tryz.ntmps28
  go_wp2_with fail
  refine (rfromints_any ah nh caph hs _ HRM.out HLM.out hnh).mono ?_
  rintro e w1 ⟨(⟨hno, rfl⟩ | ⟨_, g, cap, R, rfl, hM⟩), hb1⟩
  · exact absurd HSH.out hno
  · rw [HLM.out] at hM ⊢
    have HM := Lib.hid hM
    have HB := Lib.hid hb1
    clear hM hb1
    go_wp2_with fail
    go_ret
    exact ⟨g, cap, R, rfl, HM.out, HB.out⟩

/-- What within answers. -/
def wiB (z : Int) : Bool := decide (-4611686018427387904 ≤ z ∧ z ≤ 4611686018427387904)
def wiN (z : Int) : Int := if wiB z then z else 0

set_option maxRecDepth 100000 in
set_option maxHeartbeats 2000000 in
theorem rwithin_any (z : Int) (a : Option Addr) (c : Nat) (w : World) (hr : Lm w a c (mg z)) (hl : (mg z).length ≤ 1000000) :
    Calls Tryz.prog 13 #[.agg #[.bool (sg z), .slice a (mg z).length c]] w fun e w' => e = .returned (.tuple #[.int .i64 (wiN z), .bool (wiB z)]) ∧ Below w.heap.size w w' := by
  obtain ⟨W, hW⟩ : ∃ W, W = w.alloc (.cells #[.bool (sg z), .slice a (mg z).length c] 33) := ⟨_, rfl⟩
  have hbW : Below w.heap.size w W := by rw [hW]; exact (Below.refl _ _).alloc (Nat.le_refl _) _
  have HR := Lib.hid (hr.below hbW)
  have HWW : Hid (w.alloc (.cells #[.bool (sg z), .slice a (mg z).length c] 33) = W) := hW.symm
  have HBW := Lib.hid hbW
  clear hr hW hbW
  by_cases h64 : in64 z = true
  · have e1 : to64 z = z := by unfold to64; rw [h64]; rfl
    have h64' : in64 z = true := h64
    unfold in64 at h64
    rw [decide_eq_true_eq] at h64
    by_cases h1 : z < -4611686018427387904
    · have d1 : decide (z < -4611686018427387904) = true := decide_eq_true h1
      have e2 : wiB z = false := decide_eq_false (by omega)
      have e3 : wiN z = 0 := by unfold wiN; rw [e2]; rfl
      rw [e2, e3]
      have E1 := Lib.hid e1
      have H64 := Lib.hid h64'
      clear e1 e2 e3 h64 h64' h1
      go_enter Tryz.func13, Tryz.ntmps13
      go_wp2_with fail
      rw [HWW.out]
      refine (int64Z HR.out hl).mono ?_
      rintro e w1 ⟨rfl, hb1⟩
      rw [E1.out, H64.out]
      have HB := Lib.hid (HBW.out.trans (hb1.mono HBW.out.size))
      clear hb1
      go_wp2_with fail
      go_ret2
      exact ⟨rfl, HB.out⟩
    · have d1 : decide (z < -4611686018427387904) = false := decide_eq_false h1
      by_cases h2 : 4611686018427387904 < z
      · have d2 : decide (4611686018427387904 < z) = true := decide_eq_true h2
        have e2 : wiB z = false := decide_eq_false (by omega)
        have e3 : wiN z = 0 := by unfold wiN; rw [e2]; rfl
        rw [e2, e3]
        have E1 := Lib.hid e1
        have H64 := Lib.hid h64'
        clear e1 e2 e3 h64 h64' h1 h2
        go_enter Tryz.func13, Tryz.ntmps13
        go_wp2_with fail
        rw [HWW.out]
        refine (int64Z HR.out hl).mono ?_
        rintro e w1 ⟨rfl, hb1⟩
        rw [E1.out, H64.out]
        have HB := Lib.hid (HBW.out.trans (hb1.mono HBW.out.size))
        clear hb1
        go_wp2_with fail
        go_ret2
        exact ⟨rfl, HB.out⟩
      · have d2 : decide (4611686018427387904 < z) = false := decide_eq_false h2
        have e2 : wiB z = true := decide_eq_true (by omega)
        have e3 : wiN z = z := by unfold wiN; rw [e2]; rfl
        rw [e2, e3]
        have E1 := Lib.hid e1
        have H64 := Lib.hid h64'
        clear e1 e2 e3 h64 h64' h1 h2
        go_enter Tryz.func13, Tryz.ntmps13
        go_wp2_with fail
        rw [HWW.out]
        refine (int64Z HR.out hl).mono ?_
        rintro e w1 ⟨rfl, hb1⟩
        rw [E1.out, H64.out]
        have HB := Lib.hid (HBW.out.trans (hb1.mono HBW.out.size))
        clear hb1
        go_wp2_with fail
        go_ret2
        exact ⟨rfl, HB.out⟩
  · have h64f : in64 z = false := by simpa using h64
    have e2 : wiB z = false := by
      unfold in64 at h64f
      rw [decide_eq_false_iff_not] at h64f
      exact decide_eq_false (by omega)
    have e3 : wiN z = 0 := by unfold wiN; rw [e2]; rfl
    rw [e2, e3]
    have H64 := Lib.hid h64f
    clear h64 h64f e2 e3
    go_enter Tryz.func13, Tryz.ntmps13
    go_wp2_with fail
    rw [HWW.out]
    refine (int64Z HR.out hl).mono ?_
    rintro e w1 ⟨rfl, hb1⟩
    rw [H64.out]
    have HB := Lib.hid (HBW.out.trans (hb1.mono HBW.out.size))
    clear hb1
    go_wp2_with fail
    go_ret2
    exact ⟨rfl, HB.out⟩
end Go.Proofs.YtpnnbjifhoonkaaGreat
namespace Go.Proofs.YtpnnbjifhoonkaaGreat
open Go.RowKit Go.Shelf

/-- The lexicographic order of two lists. -/
def cmpL : List Int → List Int → Int
  | [], [] => 0
  | [], _ :: _ => -1
  | _ :: _, [] => 1
  | x :: xs, y :: ys => if Lib.compareInt x y = 0 then cmpL xs ys else Lib.compareInt x y

theorem compareInt_cases (x y : Int) : (x < y ∧ Lib.compareInt x y = -1) ∨ (x = y ∧ Lib.compareInt x y = 0) ∨ (y < x ∧ Lib.compareInt x y = 1) := by
  unfold Lib.compareInt
  by_cases h1 : x < y
  · simp [h1]
  · by_cases h2 : y < x
    · simp [h1, h2]
    · have : x = y := by omega
      simp [h1, this]

theorem cmpL_drop {xs ys : List Int} {i : Nat} (h1 : i < xs.length) (h2 : i < ys.length) :
    cmpL (xs.drop i) (ys.drop i) = if Lib.compareInt (xs.getD i 0) (ys.getD i 0) = 0 then cmpL (xs.drop (i + 1)) (ys.drop (i + 1)) else Lib.compareInt (xs.getD i 0) (ys.getD i 0) := by
  have e1 : xs.getD i 0 = xs[i] := by simp [List.getD_eq_getElem?_getD, List.getElem?_eq_getElem h1]
  have e2 : ys.getD i 0 = ys[i] := by simp [List.getD_eq_getElem?_getD, List.getElem?_eq_getElem h2]
  rw [List.drop_eq_getElem_cons h1, List.drop_eq_getElem_cons h2, e1, e2]
  rfl

theorem cmpL_past {xs ys : List Int} {i : Nat} (h1 : i < xs.length) (h2 : ¬i < ys.length) : cmpL (xs.drop i) (ys.drop i) = 1 := by
  rw [List.drop_eq_getElem_cons h1, show ys.drop i = [] from List.drop_eq_nil_of_le (by omega)]; rfl
theorem cmpL_end {xs ys : List Int} : cmpL (xs.drop xs.length) (ys.drop xs.length) = if xs.length < ys.length then -1 else 0 := by
  rw [List.drop_eq_nil_of_le (Nat.le_refl _)]
  by_cases h : xs.length < ys.length
  · rw [List.drop_eq_getElem_cons h, if_pos h]; rfl
  · rw [List.drop_eq_nil_of_le (by omega), if_neg h]; rfl

set_option maxRecDepth 100000 in
set_option maxHeartbeats 1000000 in
theorem scompare_any (a a2 : Option Addr) (n cap m cap2 : Nat) (xs ys : List Int) (w : World) (hr : RdI w a cap xs) (hl : xs.length = n) (hr2 : RdI w a2 cap2 ys) (hl2 : ys.length = m) (hn : n ≤ 100000000000000) (hm : m ≤ 100000000000000) :
    Calls Tryz.prog 75 #[.slice a n cap, .slice a2 m cap2] w fun e w' => e = .returned (.int .i64 (cmpL xs ys)) ∧ w' = w := by
  have hc := hr.cells
  have hc2 := hr2.cells
  have HC := Lib.hid hc
  have HC2 := Lib.hid hc2
  have HL := Lib.hid hl
  have HL2 := Lib.hid hl2
  have HCMP := Lib.hid Tryz.cmp_Compare_int
  clear hr hr2 hl hl2 hc hc2
  go_enter Tryz.func75, Tryz.ntmps75
  go_wp2_with fail
  go_loop [11] (fun ii => ∃ i : Nat, i ≤ n ∧ ii = .int .i64 (i : Int) ∧ Hid (cmpL xs ys = cmpL (xs.drop i) (ys.drop i))) (fun ii => n - (intOf ii).toNat)
  case atStart => exact ⟨0, by omega, rfl, rfl⟩
  case round =>
    obtain ⟨i, hin, rfl, hall⟩ := hrel
    by_cases hi : i < n
    · obtain ⟨b, o, rfl, hcell⟩ := HC.out i (by rw [HL.out]; exact hi)
      obtain ⟨x, hx⟩ : ∃ x, x = xs.getD i 0 := ⟨_, rfl⟩
      rw [← hx] at hcell
      by_cases him : i < m
      · obtain ⟨b2, o2, rfl, hcell2⟩ := HC2.out i (by rw [HL2.out]; exact him)
        obtain ⟨y, hy⟩ : ∃ y, y = ys.getD i 0 := ⟨_, rfl⟩
        rw [← hy] at hcell2
        have hd := cmpL_drop (xs := xs) (ys := ys) (i := i) (by rw [HL.out]; exact hi) (by rw [HL2.out]; exact him)
        rw [← hx, ← hy, ← hall.out] at hd
        obtain ⟨c, hc⟩ : ∃ c, c = Lib.compareInt x y := ⟨_, rfl⟩
        have hcall := HCMP.out x y
        rw [← hc] at hd hcall
        have HCALL := Lib.hid hcall
        have HD := Lib.hid hd
        clear hd hcall hx hy hc
        by_cases h0 : c = 0
        · subst h0
          have hnx : Hid (cmpL xs ys = cmpL (xs.drop (i + 1)) (ys.drop (i + 1))) := by unfold Hid; rw [HD.out, if_pos rfl]
          go_wp2_with fail
          refine (HCALL.out _).mono ?_
          rintro e w' ⟨rfl, rfl⟩
          go_wp2_with fail
          go_round
          case rel => exact ⟨i + 1, by omega, by go_num, hnx⟩
          case measure => simp [intOf]; omega
        · have hne : (!(c == 0)) = true := by simpa using h0
          have hE : Hid (cmpL xs ys = c) := by unfold Hid; rw [HD.out, if_neg h0]
          go_wp2_with fail
          refine (HCALL.out _).mono ?_
          rintro e w' ⟨rfl, rfl⟩
          go_wp2_with fail
          go_ret
          exact ⟨by rw [hE.out]; rfl, rfl⟩
      · have hE : Hid (cmpL xs ys = 1) := by unfold Hid; rw [hall.out]; exact cmpL_past (by rw [HL.out]; exact hi) (by rw [HL2.out]; exact him)
        have d1 : decide ((m : Int) ≤ (i : Int)) = true := decide_eq_true (by omega)
        clear hx
        go_wp2_with fail
        go_ret
        exact ⟨by rw [hE.out]; rfl, rfl⟩
    · obtain rfl : i = n := by omega
      have hend := cmpL_end (xs := xs) (ys := ys)
      rw [HL.out, HL2.out, ← hall.out] at hend
      by_cases hlt : i < m
      · have d1 : decide ((i : Int) < (m : Int)) = true := decide_eq_true (by omega)
        rw [if_pos hlt] at hend
        have HE := Lib.hid hend
        clear hend
        go_wp2_with fail
        go_ret
        exact ⟨by rw [HE.out]; rfl, rfl⟩
      · have d1 : decide ((i : Int) < (m : Int)) = false := decide_eq_false (by omega)
        rw [if_neg hlt] at hend
        have HE := Lib.hid hend
        clear hend
        go_wp2_with fail
        go_ret
        exact ⟨by rw [HE.out]; rfl, rfl⟩

set_option maxHeartbeats 400000 in
theorem compare_any (a a2 : Option Addr) (n cap m cap2 : Nat) (xs ys : List Int) (w : World) (hr : RdI w a cap xs) (hl : xs.length = n) (hr2 : RdI w a2 cap2 ys) (hl2 : ys.length = m) (hn : n ≤ 100000000000000) (hm : m ≤ 100000000000000) :
    Calls Tryz.prog 54 #[.slice a n cap, .slice a2 m cap2] w fun e w' => e = .returned (.int .i64 (cmpL xs ys)) ∧ w' = w := by
  have hc := scompare_any a a2 n cap m cap2 xs ys w hr hl hr2 hl2 hn hm
  have HC := Lib.hid hc
  clear hr hr2 hc hl hl2
  go_enter Tryz.func54, Tryz.ntmps54
  go_wp2_with fail
  refine HC.out.mono ?_
  rintro e w' ⟨rfl, rfl⟩
  go_wp2_with fail
  go_ret
  exact ⟨rfl, rfl⟩

/-- A pair of a norm and a vector, and where the vector lies. -/
structure Item where
  norm : Int
  vec : List Int
  a : Option Addr
  cap : Nat

/-- The two cells of an item. -/
def encN (x : Item) : List Value := [.int .i64 x.norm, .slice x.a x.vec.length x.cap]

/-- The order of two items. -/
def cfN (x y : Item) : Int := if Lib.compareInt x.norm y.norm = 0 then cmpL x.vec y.vec else Lib.compareInt x.norm y.norm

/-- An item whose vector is there. -/
def OkN (w : World) (x : Item) : Prop := RdI w x.a x.cap x.vec ∧ x.vec.length ≤ 100000000000000

set_option maxRecDepth 100000 in
set_option maxHeartbeats 1000000 in
theorem compareNormed_any (x y : Item) (w : World) (hx : OkN w x) (hy : OkN w y) :
    Calls Tryz.prog 31 #[.agg #[.int .i64 x.norm, .slice x.a x.vec.length x.cap], .agg #[.int .i64 y.norm, .slice y.a y.vec.length y.cap]] w fun e w' => e = .returned (.int .i64 (cfN x y)) ∧ ∃ q os, w' = Go.Sort.grow (w.drewN q) os := by
  obtain ⟨W, hW⟩ : ∃ W, W = (w.alloc (.cells #[.int .i64 x.norm, .slice x.a x.vec.length x.cap] 62)).alloc (.cells #[.int .i64 y.norm, .slice y.a y.vec.length y.cap] 62) := ⟨_, rfl⟩
  have hp1 : Pr w.heap.size (.int .i64 x.norm) (.slice x.a x.vec.length x.cap) W := by rw [hW]; exact (Pr.made _ _ _ _ rfl).alloc _
  have hp2 : Pr (w.heap.size + 1) (.int .i64 y.norm) (.slice y.a y.vec.length y.cap) W := by rw [hW]; exact Pr.made _ _ _ _ (by simp)
  have hb : Below w.heap.size w W := by rw [hW]; exact ((Below.refl _ _).alloc (Nat.le_refl _) _).alloc (by simp) _
  have hend : ∃ q os, W = Go.Sort.grow (w.drewN q) os := ⟨0, _, by rw [hW, alloc_grow, alloc_grow, Go.Sort.grow_grow]; rfl⟩
  have hcv := compare_any x.a y.a x.vec.length x.cap y.vec.length y.cap x.vec y.vec W (hx.1.below hb) rfl (hy.1.below hb) rfl hx.2 hy.2
  have HEND := Lib.hid hend
  have HCV := Lib.hid hcv
  have HCMP := Lib.hid (Tryz.cmp_Compare_int x.norm y.norm)
  have HWW : Hid ((w.alloc (.cells #[.int .i64 x.norm, .slice x.a x.vec.length x.cap] 62)).alloc (.cells #[.int .i64 y.norm, .slice y.a y.vec.length y.cap] 62) = W) := hW.symm
  obtain ⟨p1, p2, p3, p4, p5⟩ := hp1
  obtain ⟨q1, q2, q3, q4, q5⟩ := hp2
  obtain ⟨nx, hnx⟩ : ∃ n, n = x.norm := ⟨_, rfl⟩
  obtain ⟨ny, hny⟩ : ∃ n, n = y.norm := ⟨_, rfl⟩
  obtain ⟨c, hc⟩ : ∃ c, c = Lib.compareInt x.norm y.norm := ⟨_, rfl⟩
  obtain ⟨v, hv⟩ : ∃ v, v = cmpL x.vec y.vec := ⟨_, rfl⟩
  have hcf : cfN x y = if c = 0 then v else c := by unfold cfN; rw [hc, hv]
  rw [← hc] at HCMP
  rw [← hv] at HCV
  rw [hcf]
  clear hW hb hend hcv hx hy hcf
  by_cases h0 : c = 0
  · have d0 : (c != 0) = false := by simpa using h0
    rw [if_pos h0]
    clear h0 hc hv hnx hny
    go_enter Tryz.func31, Tryz.ntmps31
    go_wp2_with fail
    rw [HWW.out]
    refine (HCMP.out _).mono ?_
    rintro e w' ⟨rfl, rfl⟩
    go_wp2_with fail
    refine HCV.out.mono ?_
    rintro e w' ⟨rfl, rfl⟩
    go_wp2_with fail
    go_ret
    exact ⟨rfl, HEND.out⟩
  · have d0 : (c != 0) = true := by simpa using h0
    rw [if_neg h0]
    clear h0 hc hv hnx hny
    go_enter Tryz.func31, Tryz.ntmps31
    go_wp2_with fail
    rw [HWW.out]
    refine (HCMP.out _).mono ?_
    rintro e w' ⟨rfl, rfl⟩
    go_wp2_with fail
    go_ret
    exact ⟨rfl, HEND.out⟩

/-- The block of the list with its order, the box of its address, and the worlds behind it. -/
structure OrdBox (w : World) (bx bo : Nat) : Prop where
  box : w.cell? ⟨bx, 0, none⟩ = some (.pointer (some ⟨bo, 0, none⟩))
  fn : w.cell? ⟨bo, 1, none⟩ = some (.func (.func 31) #[] #[])

set_option maxRecDepth 100000 in
set_option maxHeartbeats 1000000 in
theorem equalNormed_any (bx bo : Nat) (x y : Item) (w : World) (hx : OkN w x) (hy : OkN w y) (ho : OrdBox w bx bo) :
    Calls Tryz.prog 58 #[.agg #[.int .i64 x.norm, .slice x.a x.vec.length x.cap], .agg #[.int .i64 y.norm, .slice y.a y.vec.length y.cap], .pointer (some ⟨bx, 0, none⟩)] w fun e w' => e = .returned (.bool (cfN x y == 0)) ∧ ∃ q os, w' = Go.Sort.grow (w.drewN q) os := by
  obtain ⟨W, hW⟩ : ∃ W, W = (w.alloc (.cells #[.int .i64 x.norm, .slice x.a x.vec.length x.cap] 62)).alloc (.cells #[.int .i64 y.norm, .slice y.a y.vec.length y.cap] 62) := ⟨_, rfl⟩
  have hp1 : Pr w.heap.size (.int .i64 x.norm) (.slice x.a x.vec.length x.cap) W := by rw [hW]; exact (Pr.made _ _ _ _ rfl).alloc _
  have hp2 : Pr (w.heap.size + 1) (.int .i64 y.norm) (.slice y.a y.vec.length y.cap) W := by rw [hW]; exact Pr.made _ _ _ _ (by simp)
  have hb : Below w.heap.size w W := by rw [hW]; exact ((Below.refl _ _).alloc (Nat.le_refl _) _).alloc (by simp) _
  have hend : ∃ q os, W = Go.Sort.grow (w.drewN q) os := ⟨0, _, by rw [hW, alloc_grow, alloc_grow, Go.Sort.grow_grow]; rfl⟩
  have hcv := fun n os => compareNormed_any x y (Go.Sort.grow (W.drewN n) os) ⟨(hx.1.below hb).below (below_grow W n os), hx.2⟩ ⟨(hy.1.below hb).below (below_grow W n os), hy.2⟩
  have f1 := fun n os => cell_grown (n := n) (os := os) hp1.lt hp1.c0
  have f2 := fun n os => cell_grown (n := n) (os := os) hp1.lt hp1.c1
  have f3 := fun n os => cell_grown (n := n) (os := os) hp2.lt hp2.c0
  have f4 := fun n os => cell_grown (n := n) (os := os) hp2.lt hp2.c1
  have g1 : W.cell? ⟨bx, 0, none⟩ = some (.pointer (some ⟨bo, 0, none⟩)) := by rw [hb.cell (World.block_lt_of_cell? w _ ho.box)]; exact ho.box
  have g2 : W.cell? ⟨bo, 1, none⟩ = some (.func (.func 31) #[] #[]) := by rw [hb.cell (World.block_lt_of_cell? w _ ho.fn)]; exact ho.fn
  have f5 := fun n os => cell_grown (n := n) (os := os) (World.block_lt_of_cell? W _ g1) g1
  have f6 := fun n os => cell_grown (n := n) (os := os) (World.block_lt_of_cell? W _ g2) g2
  have hmix := mixed
  have HEND := Lib.hid hend
  have HCV := Lib.hid hcv
  have HWW : Hid ((w.alloc (.cells #[.int .i64 x.norm, .slice x.a x.vec.length x.cap] 62)).alloc (.cells #[.int .i64 y.norm, .slice y.a y.vec.length y.cap] 62) = W) := hW.symm
  clear hW hb hend hcv hx hy hp1 hp2 g1 g2 ho
  obtain ⟨c, hc⟩ : ∃ c, c = cfN x y := ⟨_, rfl⟩
  rw [← hc] at HCV ⊢
  clear hc
  go_enter Tryz.func58, Tryz.ntmps58
  go_wp2_with fail
  rw [HWW.out]
  go_quiet_grown (first | (go_at_call 31; exact Calls.grown_of (HCV.out _ _)))
  have hfin : ∃ q os, Go.Sort.grow (W.drewN nq) osq = Go.Sort.grow (w.drewN q) os := by
    obtain ⟨q, os, e⟩ := HEND.out
    exact ⟨q + nq, os ++ osq, by rw [e]; show Go.Sort.grow (Go.Sort.grow ((w.drewN q).drewN nq) os) osq = _; rw [Go.Sort.grow_grow, World.drewN_drewN]⟩
  have HFIN := Lib.hid hfin
  clear hfin f1 f2 f3 f4 f5 f6
  go_wp2_with fail
  go_ret
  exact ⟨rfl, HFIN.out⟩
end Go.Proofs.YtpnnbjifhoonkaaGreat
