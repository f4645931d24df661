/-
  The contract of the reference's Format.
-/
import Derived.Test.YtgnjjmbphangnaaDoorQM
import Derived.Test.YtgnjjmbphangnaaDoorRX
import Derived.Deep.LoopGhost
import Derived.Test.YtgnjjmbphangnaaDoorAA
import Derived.Test.YtgnjjmbphangnaaDoorPG
import Derived.Deep.CutRange
namespace Go.Proofs.YtgnjjmbphangnaaDoor
open Go.RowKit Go.Lib

/-- The size of a text that a slot holds. -/
def sizeOf' : Value → Nat
  | .string s => s.size
  | _ => 0

theorem str_front (c : Nat) (l : List Nat) : (⟨#[UInt8.ofNat c]⟩ : ByteArray) ++ str l = str (c :: l) := by
  apply ByteArray.ext
  rw [ByteArray.data_append]
  apply Array.ext'
  simp [str, strOfNums]

theorem Apart.turn {B0 B1 B2 C0 G H : Nat} {zs : List Nat} {a : Option Addr} {cap : Nat} {w : World} (h : Apart B0 B1 B2 zs a cap w) (hC : C0 ≤ B0) (hG : G < B0) (hH : w.heap.size ≤ H) : Apart C0 G H zs a cap w := by
  refine ⟨h.fits, ?_⟩
  rcases h.own with h' | ⟨g, rfl, hg, h1, h2, ho⟩
  · exact .inl h'
  · have := ho.lt
    exact .inr ⟨g, rfl, by omega, by omega, by omega, ho⟩
theorem Apart.last {B0 B1 B2 : Nat} {zs : List Nat} {a : Option Addr} {cap : Nat} {w : World} (h : Apart B0 B1 B2 zs a cap w) : Apart B0 B2 B2 zs a cap w := by
  refine ⟨h.fits, ?_⟩
  rcases h.own with h' | ⟨g, rfl, hg, h1, h2, ho⟩
  · exact .inl h'
  · exact .inr ⟨g, rfl, hg, h2, h2, ho⟩
theorem str_cons (c : Nat) (l : List Nat) : str [c] ++ str l = str (c :: l) := str_front c l
theorem round_val {X Q R N p e f : Nat} (hX : X * p + e = N) (hd : X = Q * 1000000000 + R) (hf : f = R * p + e) : Q * (p * 1000000000) + f = N := by
  subst hd hf
  rw [← hX, Nat.add_mul, Nat.mul_assoc, Nat.mul_comm 1000000000 p]; omega

attribute [local go_sem ↓] Go.wp_at_zero Go.wp_at_succ

set_option maxRecDepth 100000 in
set_option maxHeartbeats 4000000 in
theorem rformat_any (na : Bool) (a : Option Addr) (n cap : Nat) (xs : List Nat) (w : World) (rdx : Rd w a cap xs) (hl : xs.length = n) (hn : n ≤ 1000) :
    Calls Tryd.prog 9 #[.agg #[.bool na, .slice a n cap]] w (GivesStr w (text (den na xs))) := by
  have hlx := rdx.lim
  obtain ⟨W, hW⟩ : ∃ W, W = w.alloc (.cells #[.bool na, .slice a n cap] 25) := ⟨_, rfl⟩
  have hb0 : Below w.heap.size w W := by rw [hW]; exact (Below.refl _ _).alloc (Nat.le_refl _) _
  have hxa : Box w.heap.size (.bool na) (.slice a n cap) W := by rw [hW]; exact Box.made _ _ rfl _ _ _
  have hra : Rd W a cap xs := rdx.below hb0
  obtain ⟨z, hz⟩ : ∃ z, z = den na xs := ⟨_, rfl⟩
  have HW := Lib.hid hW
  have HL := Lib.hid hl
  have HB0 := Lib.hid hb0
  have HXA := Lib.hid hxa
  have HRA := Lib.hid hra
  have HZ := Lib.hid hz
  clear hW hl rdx hb0 hxa hra
  rw [← hz]
  by_cases h0 : z = 0
  · have hs : sign3 (den na xs) = 0 := by rw [← hz, h0]; rfl
    clear hz
    go_enter Tryd.func9, Tryd.ntmps9
    go_wp2_with fail
    rw [← HW.out]
    obtain ⟨p0, p1, p2, p3, p4⟩ := HXA.out
    go_wp2_with fail
    refine (rsign_any na a n cap xs W HRA.out HL.out (by omega)).mono ?_
    rw [hs]
    rintro e w1 ⟨rfl, hb1⟩
    have hB1 := HB0.out.trans (hb1.mono HB0.out.size)
    go_wp2_with fail
    refine bodyPost_ret (v := .string (str [48])) ?_ rfl ⟨?_, hB1⟩
    · simp [results, Tryd.results9, go_sem]; rfl
    · rw [h0]; rfl
  · have hs : (sign3 (den na xs) == 0) = false := by
      rw [← hz]; unfold sign3; simp; omega
    obtain ⟨N, hN⟩ : ∃ N, N = z.natAbs := ⟨_, rfl⟩
    have hda : den false xs = (N : Int) := by
      rw [hN, hz, natAbs_den]; rfl
    have hNv : N < 4294967296 ^ n := by
      rw [hN, hz, natAbs_den, ← HL.out]; exact val_lt hlx
    have HN := Lib.hid hN
    have HNV := Lib.hid hNv
    have HDA := Lib.hid hda
    have hN0 : Hid (N ≠ 0) := by unfold Hid; omega
    clear hz h0 hN hNv hda
    go_enter Tryd.func9, Tryd.ntmps9
    go_wp2_with fail
    rw [← HW.out]
    obtain ⟨p0, p1, p2, p3, p4⟩ := HXA.out
    go_wp2_with fail
    refine (rsign_any na a n cap xs W HRA.out HL.out (by omega)).mono ?_
    rintro e w1 ⟨rfl, hb1⟩
    have HXA1 := Lib.hid (HXA.out.below hb1)
    have HRA1 := Lib.hid (HRA.out.below hb1)
    have HB1 := Lib.hid (HB0.out.trans (hb1.mono HB0.out.size))
    clear p0 p1 p2 p3 p4 hb1
    obtain ⟨p0, p1, p2, p3, p4⟩ := HXA1.out
    go_wp2_with fail
    refine (rabs_any na a n cap xs w1 HRA1.out HL.out (by omega)).mono ?_
    rw [HDA.out]
    rintro e w2 ⟨a2, c2, rfl, hN2⟩
    have HXA2 := Lib.hid (HXA1.out.below hN2.below)
    go_wp2_with fail
    obtain ⟨M, hM⟩ : ∃ M, M = 2 * n := ⟨_, rfl⟩
    have hNM : Hid (N < 10 ^ (9 * M)) := by
      unfold Hid
      refine Nat.lt_of_lt_of_le HNV.out ?_
      refine Nat.le_trans (Nat.pow_le_pow_left (show 4294967296 ≤ 10 ^ 10 by decide) n) ?_
      rw [← Nat.pow_mul]
      exact Nat.pow_le_pow_right (by omega) (by omega)
    have hml : (mg (N : Int)).length ≤ 1000 := by
      refine Nat.le_trans (length_limbs_le (k := n) ?_) hn
      simpa using HNV.out
    obtain ⟨W2, hW2⟩ : ∃ V, V = w2.alloc (.cells #[.bool (sg (N : Int)), .slice a2 (mg (N : Int)).length c2] 25) := ⟨_, rfl⟩
    rw [← hW2]
    have hbb : Below w2.heap.size w2 W2 := by rw [hW2]; exact (Below.refl _ _).alloc (Nat.le_refl _) _
    have hx2 : Box w2.heap.size (.bool (sg (N : Int))) (.slice a2 (mg (N : Int)).length c2) W2 := by rw [hW2]; exact Box.made _ _ rfl _ _ _
    have hs2 := hN2.below.size
    have ha2 : Apart w1.heap.size w2.heap.size w2.heap.size (mg (N : Int)) a2 c2 W2 := by rw [hW2]; exact (Apart.of_new hN2 (by omega) (.inr (by omega)) (.inr (by omega))).alloc _
    have hb2 := hN2.below.trans (hbb.mono hN2.below.size)
    clear hW2 hbb hN2 p0 p1 p2 p3 p4
    go_loopw [3, 4] (fun ss pp wr => ∃ (L : List Nat) (X G k : Nat) (xa : Option Addr) (xc : Nat), ss = .string (str L) ∧ pp = .pointer (some ⟨G, 0, none⟩) ∧ Dig L ∧ L.length = 9 * k ∧ Hid (X * 10 ^ (9 * k) + num L = N) ∧ Hid (X < 10 ^ (9 * (M - k))) ∧ k ≤ M ∧ w1.heap.size ≤ G ∧ Box G (.bool (sg (X : Int))) (.slice xa (mg (X : Int)).length xc) wr ∧ Apart w1.heap.size G G (mg (X : Int)) xa xc wr ∧ (mg (X : Int)).length ≤ 1000 ∧ Below w1.heap.size w1 wr) (fun ss _ _ => 9 * M - sizeOf' ss)
    case atStart => exact ⟨[], N, w2.heap.size, 0, a2, c2, rfl, rfl, (by intro c hc; cases hc), rfl, (by unfold Hid; simp [num]), hNM, by omega, hs2, hx2, ha2, hml, hb2⟩
    case round =>
      clear hx2 ha2 hb2 hml hNM
      obtain ⟨L, X, G, k, xa, xc, rfl, rfl, hd, hk, hX, hXM, hkM, hG, hB, hA, hxl, hb⟩ := hrel
      have HB := Lib.hid hB
      have HA := Lib.hid hA
      have HBW := Lib.hid hb
      have HD := Lib.hid hd
      obtain ⟨q0, q1, q2, q3, q4⟩ := hB
      clear hA hb hd
      by_cases hX0 : X = 0
      · have hs1 : sign3 ((X : Nat) : Int) = 0 := by rw [hX0]; rfl
        have hnl : num L = N := by have := hX.out; rw [hX0] at this; simpa using this
        have HNL := Lib.hid hnl
        clear hX0 hnl hX hXM
        go_wp2_with fail
        refine (rsign_any (sg (X : Int)) xa _ xc (mg (X : Int)) wr HA.out.rd rfl (by omega)).mono ?_
        rw [den_mg, hs1]
        rintro e w3 ⟨rfl, hb3⟩
        have hb13 := HBW.out.trans (hb3.mono HBW.out.size)
        have HXA3 := Lib.hid (HXA1.out.below hb13)
        have HB3 := Lib.hid (HB1.out.trans (hb13.mono HB1.out.size))
        clear q0 q1 q2 q3 q4 hb3 hb13
        go_wp2_with fail
        go_loopw [3] (fun ss wr => ∃ (L : List Nat), ss = .string (str L) ∧ L.length ≤ 9 * M ∧ Hid (Dig L) ∧ Hid (num L = N) ∧ wr = w3) (fun ss _ => sizeOf' ss)
        case atStart => exact ⟨L, rfl, by rw [hk]; omega, HD, HNL, rfl⟩
        case round =>
          clear HNL HD hk
          obtain ⟨L, rfl, hlm, hd, hnl, rfl⟩ := hrel
          cases L with
          | nil =>
            exfalso
            exact hN0.out (by rw [← hnl.out]; rfl)
          | cons c L =>
            have hc := hd.out c (by simp)
            obtain ⟨t, ht⟩ : ∃ t, t = str (c :: L) := ⟨_, rfl⟩
            have hts : t.size = L.length + 1 := by rw [ht, str_size]; rfl
            have htz : (t.size : Int) = ((L.length + 1 : Nat) : Int) := by rw [hts]
            have h0t : 0 < t.size := by omega
            have hct : (t[0]'h0t).toNat = c := by
              subst ht
              rw [str_get (c :: L) 0 h0t (by simp; omega)]; rfl
            have htail : t.extract 1 (L.length + 1) = str L := by rw [← hts, ht]; exact str_tail c L
            have HTT := Lib.hid ht
            by_cases hc48 : c = 48
            · have hct' : (t[0]'h0t).toNat = 48 := by rw [hct, hc48]
              have hn2 : Hid (num L = N) := by unfold Hid; rw [← hnl.out, hc48, num_zero_cons]
              have hd2 : Hid (Dig L) := Lib.hid (dig_tail hd.out)
              rw [← ht]
              clear hct hc ht hnl hd
              go_wp2_with fail
              go_roundw
              case rel => exact ⟨L, rfl, by simp at hlm; omega, hd2, hn2, trivial⟩
              case measure => show (str L).size < t.size; rw [hts, str_size]; omega
            · have hcb : ((c : Int) == 48) = false := by simp; omega
              have hun := digs_unique N (c :: L) hd.out (fun _ => by simpa using hc48) hnl.out
              rw [← ht]
              clear ht hc48 hc
              obtain ⟨p0, p1, p2, p3, p4⟩ := HXA3.out
              cases na
              · have htx : text z = c :: L := by
                  rw [hun]; unfold text
                  have h1 : 0 ≤ z := by rw [HZ.out]; unfold den; simp
                  have h2 := hN0.out
                  have h3 := HN.out
                  rw [if_neg (by omega), if_neg (by omega), ← h3]; rfl
                go_wp2_with fail
                refine bodyPost_ret (v := .string t) ?_ rfl ⟨by rw [htx, HTT.out], HB3.out⟩
                simp [results, Tryd.results9, go_sem]
              · have htx : text z = 45 :: c :: L := by
                  rw [hun]; unfold text
                  have h2 := hN0.out
                  have h3 := HN.out
                  have h1 : z ≤ 0 := by rw [HZ.out]; unfold den; simp
                  rw [if_neg (by omega), if_pos (by omega), ← h3]; rfl
                have hcat : ¬9223372036854775807 < 1 + (L.length + 1) := by simp at hlm; omega
                go_wp2_with fail
                refine bodyPost_ret (v := .string (⟨#[45]⟩ ++ t)) ?_ rfl ⟨by rw [htx, HTT.out, ← str_front]; rfl, HB3.out⟩
                simp [results, Tryd.results9, go_sem]
      · have hs1 : sign3 ((X : Nat) : Int) = 1 := by unfold sign3; omega
        go_wp2_with fail
        refine (rsign_any (sg (X : Int)) xa _ xc (mg (X : Int)) wr HA.out.rd rfl (by omega)).mono ?_
        rw [den_mg, hs1]
        rintro e w3 ⟨rfl, hb3⟩
        have HB3x := Lib.hid (HB.out.below hb3)
        have HRX3 := Lib.hid (HA.out.rd.below hb3)
        have hb13 := HBW.out.trans (hb3.mono HBW.out.size)
        have HXA3 := Lib.hid (HXA1.out.below hb13)
        have HBW3 := Lib.hid hb13
        have hsw3 := hb13.size
        have hsw1 := HB1.out.size
        have hsa := HXA1.out.size
        have hG3 := HB3x.out.size
        obtain ⟨Q, hQ⟩ : ∃ Q, Q = X / 1000000000 := ⟨_, rfl⟩
        obtain ⟨R, hR⟩ : ∃ R, R = X % 1000000000 := ⟨_, rfl⟩
        have HQ9 : Hid ((X : Int) / 1000000000 = (Q : Int)) := by unfold Hid; rw [hQ]; rfl
        have HR9 : Hid ((X : Int) % 1000000000 = (R : Int)) := by unfold Hid; rw [hR]; rfl
        have HQ0 := Lib.hid hQ
        have HR0 := Lib.hid hR
        have hl9 : (mg 1000000000).length ≤ 1 := by decide
        have HX0 := Lib.hid hX0
        clear hQ hR q0 q1 q2 q3 q4 hb3 hb13 hX0 hs1
        obtain ⟨q0, q1, q2, q3, q4⟩ := HB3x.out
        obtain ⟨o0, o1, o2, o3, o4⟩ := HXA3.out
        have hdz : Hid (w3.heap.size = w3.drew.heap.size) := Lib.hid rfl
        have hdz2 : Hid (w3.heap.size + 1 = (w3.alloc (Obj.cells #[Value.bool false, Value.slice none 0 0] 25)).heap.size) := Lib.hid (by simp)
        go_wp2_with fail
        go_cut [5, 6, 7] from 15 to 43 (fun q r _ wx => ∃ (gq gr : Nat) (qa : Option Addr) (qc : Nat) (ra : Option Addr) (rc : Nat), q = .pointer (some ⟨gq, 0, none⟩) ∧ r = .pointer (some ⟨gr, 0, none⟩) ∧ gq ≠ gr ∧ w3.heap.size ≤ gq ∧ w3.heap.size ≤ gr ∧ Box gq (.bool (sg (Q : Int))) (.slice qa (mg (Q : Int)).length qc) wx ∧ Box gr (.bool (sg (R : Int))) (.slice ra (mg (R : Int)).length rc) wx ∧ Apart w3.heap.size gq gr (mg (Q : Int)) qa qc wx ∧ Apart w3.heap.size gq gr (mg (R : Int)) ra rc wx ∧ Below w3.heap.size w3 wx)
        case first =>
          go_region_held3 (fun w' => w'.cell? ⟨w.heap.size, 0, none⟩ = some (.bool na) ∧ w'.cell? ⟨w.heap.size, 1, none⟩ = some (.slice a n cap) ∧ w'.cell? ⟨G, 0, none⟩ = some (.bool (sg (X : Int))) ∧ w'.cell? ⟨G, 1, none⟩ = some (.slice xa (mg (X : Int)).length xc) ∧ Below w3.heap.size w3 w')
            (first | with_reducible exact two_draw HXA3.out HB3x.out | with_reducible exact two_of HXA3.out HB3x.out hb11 | with_reducible exact two_of HXA3.out HB3x.out hb10 | with_reducible exact two_alloc HXA3.out HB3x.out _ (by assumption) | (refine two_of HXA3.out HB3x.out ?_; repeat (first | with_reducible exact hb11 | with_reducible exact hb10 | with_reducible exact Below.refl _ _ | with_reducible refine Below.drew ?_ | with_reducible refine Below.alloc ?_ ?_ _ | with_reducible refine Below.setCell ?_ ?_ _ | omega | (simp only [World.size_alloc]; omega) | (simp; omega))))
            ((first
              | (go_at_call 25; have hby := two_below (W := w3) (by assumption); refine (rsmall_any 1000000000 _ (by omega) (by omega)).mono ?_; rintro e w10 ⟨a10, c10, rfl, hN10⟩; have hb10 : Below w3.heap.size w3 w10 := below_step hby hN10.below; have hs10 := hb10.size; have hz10 := hN10.below.size
                 (first
                  | (have e1 : Box (w3.heap.size) (.bool false) (.slice none 0 0) w10 := (by with_reducible exact (((Box.made w3 w3.heap.size rfl (.bool false) (.slice none 0 0) 25).alloc (Obj.cells #[Value.bool false, Value.slice none 0 0] 25)).below (Below.refl _ _).drew).below hN10.below); have s1 := e1.size; have e2 : Box (w3.heap.size + 1) (.bool false) (.slice none 0 0) w10 := (by with_reducible exact ((Box.made (w3.alloc (Obj.cells #[Value.bool false, Value.slice none 0 0] 25)) (w3.heap.size + 1) hdz2.out (.bool false) (.slice none 0 0) 25).below (Below.refl _ _).drew).below hN10.below); have s2 := e2.size)
                  | (have e1 : Box (w3.heap.size) (.bool false) (.slice none 0 0) w10 := (by with_reducible exact ((Box.made w3 w3.heap.size rfl (.bool false) (.slice none 0 0) 25).below (Below.refl _ _).drew).below hN10.below); have s1 := e1.size)
                  | skip))
              | (go_at_call 24; have hby := two_below (W := w3) (by assumption); have hq := two_rd HRX3.out (by assumption); have hq2 := rdivmod_pos (sg (X : Int)) (sg 1000000000) xa a10 (mg (X : Int)).length (mg 1000000000).length xc c10 (mg (X : Int)) (mg 1000000000) _ hq (by first | with_reducible exact hN10.rd | with_reducible exact hN10.rd.alloc _ | with_reducible exact (hN10.rd.alloc _).alloc _) rfl rfl (by omega) (by omega) (by rw [den_mg]; decide); rw [den_mg, den_mg] at hq2; unfold GivesDM at hq2; rw [HQ9.out, HR9.out] at hq2; (with_reducible refine hq2.mono ?_); clear hq hq2; rintro e w11 ⟨a11, c11, a12, c12, rfl, hN11, hN12⟩; have hb11 : Below w3.heap.size w3 w11 := below_step hby hN11.below; have hs11 := hb11.size; have hz11 := hN11.below.size
                 (first
                  | (have f1 : Box (w10.heap.size) (.bool false) (.slice none 0 0) w11 := (by with_reducible exact ((Box.made w10 w10.heap.size rfl (.bool false) (.slice none 0 0) 25).alloc (Obj.cells #[Value.bool false, Value.slice none 0 0] 25)).below hN11.below); have f2 : Box (w10.heap.size + 1) (.bool false) (.slice none 0 0) w11 := (by with_reducible exact (Box.made (w10.alloc (Obj.cells #[Value.bool false, Value.slice none 0 0] 25)) (w10.heap.size + 1) (by simp) (.bool false) (.slice none 0 0) 25).below hN11.below); have n1 : w10.heap.size ≠ w10.heap.size + 1 := (by omega); have n2 := Ne.symm n1; have f1' := f1; have f2' := f2; obtain ⟨b0, b1, b2, b3, b4⟩ := f1'; obtain ⟨d0, d1, d2, d3, d4⟩ := f2')
                  | (have f1 : Box (w3.heap.size) (.bool false) (.slice none 0 0) w11 := (by with_reducible exact (e1.alloc (Obj.cells #[Value.bool false, Value.slice none 0 0] 25)).below hN11.below); have f2 : Box (w10.heap.size) (.bool false) (.slice none 0 0) w11 := (by with_reducible exact (Box.made w10 w10.heap.size rfl (.bool false) (.slice none 0 0) 25).below hN11.below); have n0 := e1.size; have n1 : w3.heap.size ≠ w10.heap.size := (by omega); have n2 := Ne.symm n1; have f1' := f1; have f2' := f2; obtain ⟨b0, b1, b2, b3, b4⟩ := f1'; obtain ⟨d0, d1, d2, d3, d4⟩ := f2')
                  | (have f1 : Box (w10.heap.size) (.bool false) (.slice none 0 0) w11 := (by with_reducible exact (Box.made w10 w10.heap.size rfl (.bool false) (.slice none 0 0) 25).below hN11.below); have f1' := f1; obtain ⟨b0, b1, b2, b3, b4⟩ := f1')
                  | (have f1 : Box (w3.heap.size) (.bool false) (.slice none 0 0) w11 := (by with_reducible exact e1.below hN11.below); have f2 : Box (w3.heap.size + 1) (.bool false) (.slice none 0 0) w11 := (by with_reducible exact e2.below hN11.below); have n1 : w3.heap.size ≠ w3.heap.size + 1 := (by omega); have n2 := Ne.symm n1; have f1' := f1; have f2' := f2; obtain ⟨b0, b1, b2, b3, b4⟩ := f1'; obtain ⟨d0, d1, d2, d3, d4⟩ := f2')
                  | (have f1 : Box (w3.heap.size) (.bool false) (.slice none 0 0) w11 := (by with_reducible exact e1.below hN11.below); have f1' := f1; obtain ⟨b0, b1, b2, b3, b4⟩ := f1')
                  | skip))))
          all_goals go_wp2_with fail
          all_goals go_meet
          all_goals refine ⟨_, _, a11, c11, a12, c12, rfl, rfl, ?_, ?_, ?_, ?_, ?_, ?_, ?_, ?_⟩
          all_goals first
            | omega
            | ((repeat (first | with_reducible exact hb11 | with_reducible refine Below.alloc ?_ ?_ _ | with_reducible refine Below.setCell ?_ ?_ _ | omega | (simp only [World.size_alloc]; omega) | (simp; omega))); done)
            | ((repeat (first | with_reducible assumption | with_reducible exact Box.made _ _ (by first | rfl | simp) _ _ _ | with_reducible refine Box.alloc ?_ _ | with_reducible refine Box.stored (u := .bool false) (v := .slice none 0 0) ?_ _ _ | with_reducible refine Box.other ?_ (by first | omega | (simp <;> omega)) _ _)); done)
            | ((repeat (first | with_reducible exact Apart.of_new hN11 (by first | omega | (simp <;> omega)) (by first | omega | (simp <;> omega)) (by first | omega | (simp <;> omega)) | with_reducible refine Apart.alloc ?_ _ | with_reducible refine Apart.store1 ?_ _ _ | with_reducible refine Apart.store2 ?_ _ _)); done)
            | ((repeat (first | with_reducible exact Apart.of_new hN12 (by first | omega | (simp <;> omega)) (by first | omega | (simp <;> omega)) (by first | omega | (simp <;> omega)) | with_reducible refine Apart.alloc ?_ _ | with_reducible refine Apart.store1 ?_ _ _ | with_reducible refine Apart.store2 ?_ _ _)); done)
        case rest =>
          obtain ⟨gq, gr, qa, qc, ra, rc, rfl, rfl, hne, hgq, hgr, hBQ, hBR, hAQ, hAR, hbw⟩ := hcut
          have HBQ := Lib.hid hBQ
          have HBR := Lib.hid hBR
          have HAQ := Lib.hid hAQ
          have HRR := Lib.hid hAR.rd
          have HBW4 := Lib.hid (HBW3.out.trans (hbw.mono HBW3.out.size))
          have HBG := Lib.hid (HB3x.out.below hbw)
          have hrl : (mg (R : Int)).length ≤ 1 := by
            refine length_limbs_le ?_
            have := HR0.out
            simp only [Int.natAbs_natCast]; omega
          have hrv : val ((mg (R : Int)).take 2) = R := by
            rw [List.take_of_length_le (by omega)]
            unfold mg; rw [val_limbs]; rfl
          have hrlt : R < 10 ^ 9 := by have := HR0.out; omega
          have HRLT := Lib.hid hrlt
          clear hbw hBQ hAQ hAR q0 q1 q2 q3 q4 o0 o1 o2 o3 o4 hrlt
          obtain ⟨q0, q1, q2, q3, q4⟩ := hBR
          go_wp2_with fail
          refine (low_any ra _ rc (mg (R : Int)) _ HRR.out rfl (by omega)).mono ?_
          rw [hrv]
          rintro e w5 ⟨rfl, hb5⟩
          go_wp2_with fail
          have hb5' : Below wc.heap.size wc w5 := by obtain ⟨q, rfl⟩ := hb5; exact below_drewN (Below.refl _ _) q
          have HBQ5 := Lib.hid (HBQ.out.below hb5')
          have HAQ5 := Lib.hid (HAQ.out.below hb5')
          have HBG5 := Lib.hid (HBG.out.below hb5')
          have HBW5 := Lib.hid (HBW4.out.trans (hb5'.mono HBW4.out.size))
          have hkd : Hid (Dig L) := HD
          clear hb5 hb5' q0 q1 q2 q3 q4
          go_loopw [3, 8, 9] (fun ss nn ii wr => ∃ (L' : List Nat) (m i : Nat), ss = .string (str L') ∧ nn = .int .u64 m ∧ ii = .int .i64 i ∧ i ≤ 9 ∧ Hid (Dig L') ∧ L'.length = 9 * k + i ∧ Hid (m * 10 ^ (9 * k + i) + num L' = R * 10 ^ (9 * k) + num L) ∧ Hid (m < 10 ^ (9 - i)) ∧ m ≤ 4294967295 ∧ Below w5.heap.size w5 wr) (fun _ _ ii _ => 9 - (RowKit.intOf ii).toNat)
          case atStart => exact ⟨L, R, 0, rfl, rfl, rfl, by omega, HD, hk, Lib.hid rfl, HRLT, by have := HRLT.out; omega, Below.refl _ _⟩
          case round =>
            obtain ⟨L', m, i, rfl, rfl, rfl, hi9, hd', hl', hm', hmi, hm4, hbr⟩ := hrel
            have HBRR := Lib.hid hbr
            clear hbr
            by_cases hi : i < 9
            · obtain ⟨d, hdd⟩ : ∃ d : Nat, d = m % 10 := ⟨_, rfl⟩
              obtain ⟨e, hee⟩ : ∃ e : Nat, e = m / 10 := ⟨_, rfl⟩
              have hc : (m : Int) % 10 = (d : Int) := by omega
              have hq : (m : Int) / 10 = (e : Int) := by omega
              have hd9 : d ≤ 9 := by omega
              have HDD := Lib.hid hdd
              have HEE := Lib.hid hee
              clear hdd hee
              obtain ⟨t1, ht1⟩ : ∃ t, t = str [d + 48] := ⟨_, rfl⟩
              have hcv := run_convert_bytes_arg (P := Tryd.prog) (wr.alloc (.cells #[.int .u8 (48 + (d : Int))] 5)) 22 5 Tryd.underlying22 Tryd.underlying5 wr.heap.size 0 1 1 [48 + (d : Int)] (by simp)
                (fun i hi => by obtain rfl : i = 0 := by omega
                                exact cell_one_new _ _ _ 0 _ rfl) 9 Tryd.underlying9
              have ht1' : strOfNums [48 + (d : Int)] = t1 := by rw [ht1]; unfold str; simp [Int.add_comm]
              rw [ht1'] at hcv
              have hts1 : t1.size = 1 := by rw [ht1, str_size]; rfl
              obtain ⟨t2, ht2⟩ : ∃ t, t = str L' := ⟨_, rfl⟩
              have hts2 : t2.size = 9 * k + i := by rw [ht2, str_size, hl']
              have hcat : ¬9223372036854775807 < 1 + (9 * k + i) := by omega
              have hM2 : Hid (e * 10 ^ (9 * k + (i + 1)) + num ((d + 48) :: L') = R * 10 ^ (9 * k) + num L) := by
                unfold Hid
                rw [← hm'.out, HDD.out, HEE.out, ← hl']
                have h := num_front m L'
                rw [List.length_cons] at h
                rw [show 9 * k + (i + 1) = L'.length + 1 by omega]
                exact h
              have hmi2 : Hid (e < 10 ^ (9 - (i + 1))) := by
                unfold Hid
                have h := hmi.out
                rw [show 9 - i = (9 - (i + 1)) + 1 by omega, Nat.pow_succ] at h
                rw [HEE.out]
                exact Nat.div_lt_of_lt_mul (by rw [Nat.mul_comm]; exact h)
              have HT1 := Lib.hid ht1
              have HT2 := Lib.hid ht2
              rw [← ht2]
              clear ht1 ht1' ht2
              go_wp2_with fail
              go_roundw
              case rel => exact ⟨(d + 48) :: L', e, i + 1, by rw [HT1.out, HT2.out, str_cons], rfl, by simp, by omega, Lib.hid (dig_cons (by omega) hd'.out), by simp [hl']; omega, hM2, hmi2, by have := HEE.out; omega, HBRR.out.alloc (by have := HBRR.out.size; omega) _⟩
              case measure => simp [RowKit.intOf]; omega
            · obtain rfl : i = 9 := by omega
              have hm0 : m = 0 := by have := hmi.out; simp at this; omega
              have HBQ6 := Lib.hid (HBQ5.out.below HBRR.out)
              have HAQ6 := Lib.hid (HAQ5.out.below HBRR.out)
              have HBG6 := Lib.hid (HBG5.out.below HBRR.out)
              have HBW6 := Lib.hid (HBW5.out.trans (HBRR.out.mono HBW5.out.size))
              have h1 := HBG6.out.stored (.bool (sg (Q : Int))) (.slice qa (mg (Q : Int)).length qc)
              obtain ⟨q0, q1, q2, q3, q4⟩ := HBQ6.out
              obtain ⟨o0, o1, o2, o3, o4⟩ := HBG6.out
              obtain ⟨t0, t1, t2, t3, t4⟩ := h1
              go_wp2_with fail
              have hXQ : X = Q * 1000000000 + R := by have := HQ0.out; have := HR0.out; omega
              have hkM2 : k + 1 ≤ M := by
                rcases Nat.lt_or_ge k M with h | h
                · exact h
                · exfalso
                  have h2 := hXM.out
                  rw [show M - k = 0 by omega] at h2
                  exact HX0.out (by simpa using h2)
              have hp : 10 ^ (9 * (k + 1)) = 10 ^ (9 * k) * 1000000000 := by rw [Nat.mul_add, Nat.pow_add]
              have hN2 : Hid (Q * 10 ^ (9 * (k + 1)) + num L' = N) := by
                unfold Hid
                rw [hp]
                have h2 := hm'.out
                rw [hm0] at h2
                exact round_val hX.out hXQ (by simpa using h2)
              have hQM : Hid (Q < 10 ^ (9 * (M - (k + 1)))) := by
                unfold Hid
                have h2 := hXM.out
                rw [show M - k = (M - (k + 1)) + 1 by omega, Nat.mul_add, Nat.pow_add] at h2
                rw [HQ0.out]
                exact Nat.div_lt_of_lt_mul (by rw [Nat.mul_comm]; exact h2)
              have hql : (mg (Q : Int)).length ≤ 1000 := by
                refine Nat.le_trans ?_ hxl
                unfold mg
                refine limbs_mono ?_
                have := HQ0.out
                simp only [Int.natAbs_natCast]
                omega
              have hsz := HBW6.out.size
              have hbn := (bel_store HBW6.out G hG (.bool (sg (Q : Int))) (.slice qa (mg (Q : Int)).length qc)).alloc (by simp; omega) (.cells #[.bool (sg (Q : Int)), .slice qa (mg (Q : Int)).length qc] 25)
              have han := (((HAQ6.out.turn (C0 := w1.heap.size) (G := G) (H := wr.heap.size) (by omega) hG3 (Nat.le_refl _)).store1 0 (.bool (sg (Q : Int)))).store1 1 (.slice qa (mg (Q : Int)).length qc)).alloc (.cells #[.bool (sg (Q : Int)), .slice qa (mg (Q : Int)).length qc] 25)
              go_roundw
              case rel => exact ⟨L', Q, wr.heap.size, k + 1, qa, qc, rfl, rfl, hd'.out, by omega, hN2, hQM, hkM2, by omega, Box.made _ _ (by simp) _ _ _, han.last, hql, hbn⟩
              case measure => simp [sizeOf', str_size]; omega
end Go.Proofs.YtgnjjmbphangnaaDoor
