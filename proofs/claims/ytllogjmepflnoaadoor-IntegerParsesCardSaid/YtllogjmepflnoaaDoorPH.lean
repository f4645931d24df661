/-
  The contract of the reference's Parse.
-/
import Derived.Test.YtllogjmepflnoaaDoorPG
import Derived.Test.YtllogjmepflnoaaDoorRE
import Derived.Test.YtllogjmepflnoaaDoorMW
import Derived.Deep.RegionWith
namespace Go.Proofs.YtllogjmepflnoaaDoor
open Go.RowKit Go.Lib

def off (neg : Bool) : Nat := if neg then 1 else 0
def txt (neg : Bool) (ds : List Nat) : List Nat := (if neg then [45] else []) ++ ds
theorem txt_len (neg : Bool) (ds : List Nat) : (txt neg ds).length = ds.length + off neg := by unfold txt off; cases neg <;> simp
theorem txt_dig {neg : Bool} {ds : List Nat} {pos : Nat} (h : off neg ≤ pos) : (txt neg ds).getD pos 0 = ds.getD (pos - off neg) 0 := by
  unfold txt off at *
  cases neg
  · simp
  · obtain ⟨k, rfl⟩ : ∃ k, pos = k + 1 := ⟨pos - 1, by simp at h; omega⟩
    simp
theorem txt_sign {neg : Bool} {ds : List Nat} {pos : Nat} (h : pos < off neg) : (txt neg ds).getD pos 0 = 45 := by
  unfold txt off at *
  cases neg
  · simp at h
  · simp at h; subst h; simp

attribute [local go_sem ↓] Go.wp_at_zero Go.wp_at_succ

set_option maxRecDepth 100000 in
set_option maxHeartbeats 4000000 in
theorem rparse_bad (s : ByteArray) (w : World) (h : ∀ w, Calls Tryd.prog 76 #[.string s] w (GivesB w false)) :
    Calls Tryd.prog 48 #[.string s] w (fun e w' => GivesBad e ∧ Below w.heap.size w w') := by
  obtain ⟨W, hW⟩ : ∃ W, W = w.alloc (.cells #[.bool false, .slice none 0 0] 24) := ⟨_, rfl⟩
  have hxr : Box w.heap.size (.bool false) (.slice none 0 0) W := by rw [hW]; exact Box.made _ _ rfl _ _ _
  have hb0 : Below w.heap.size w W := by rw [hW]; exact (Below.refl _ _).alloc (Nat.le_refl _) _
  have HW := Lib.hid hW
  have HXR := Lib.hid hxr
  have HB0 := Lib.hid hb0
  have HH := Lib.hid h
  clear hW hxr hb0 h
  go_enter Tryd.func48, Tryd.ntmps48
  go_wp2_with fail
  rw [← HW.out]
  refine (HH.out _).mono ?_
  rintro e w2 ⟨rfl, hb2⟩
  obtain ⟨r0, r1, r2, r3, r4⟩ := HXR.out.below hb2
  have hfin : Below w.heap.size w ((w2.setCell ⟨w.heap.size, 0, none⟩ (.bool false)).setCell ⟨w.heap.size, 1, none⟩ (.slice none 0 0)) := bel_store (HB0.out.trans (hb2.mono HB0.out.size)) w.heap.size (Nat.le_refl _) _ _
  have HF := Lib.hid hfin
  clear hfin
  go_wp2_with fail
  refine bodyPost_ret (v := .tuple #[.agg #[.bool false, .slice none 0 0], .int .i64 2]) ?_ rfl ⟨rfl, HF.out⟩
  simp [results, Tryd.results48, go_sem, r0, r1]

set_option maxRecDepth 100000 in
set_option maxHeartbeats 8000000 in
theorem rparse_ok (neg : Bool) (ds : List Nat) (w : World) (hd : Nat10 ds) (hl : ds.length ≤ 1000) (h : ∀ w, Calls Tryd.prog 76 #[.string (str (txt neg ds))] w (GivesB w true)) :
    Calls Tryd.prog 48 #[.string (str (txt neg ds))] w (GivesParsed w (if neg then -((num ds : Nat) : Int) else ((num ds : Nat) : Int))) := by
  have hlen := txt_len neg ds
  have hof : off neg ≤ 1 := by unfold off; split <;> omega
  have hlong := fun w => long_false (txt neg ds) w (by omega)
  have hbyt : Byt (txt neg ds) := by
    intro c hc
    unfold txt at hc
    rcases List.mem_append.1 hc with h1 | h1
    · cases neg
      · simp at h1
      · simp at h1; omega
    · have := hd.dig c h1; omega
  obtain ⟨l, hlt⟩ : ∃ l, l = txt neg ds := ⟨_, rfl⟩
  obtain ⟨z, hz⟩ : ∃ z, z = (if neg then -((num ds : Nat) : Int) else ((num ds : Nat) : Int)) := ⟨_, rfl⟩
  rw [← hz]
  rw [← hlt] at hlen hlong hbyt h
  rw [← hlt]
  obtain ⟨s, hs⟩ : ∃ s, s = str l := ⟨_, rfl⟩
  have hsz : s.size = l.length := by rw [hs, str_size]
  have hszi : (s.size : Int) = (l.length : Int) := by rw [hsz]
  have hget : ∀ (i : Nat) (hi : i < s.size), (s[i]'hi).toNat = l.getD i 0 := by
    intro i hi
    subst hs
    exact str_get l i hi (hbyt.getD i)
  rw [← hs] at hlong h
  rw [← hs]
  have hp := hd.pos
  have hs0 : 0 < s.size := by omega
  obtain ⟨c0, hc0⟩ : ∃ c, (s[0]'hs0).toNat = c := ⟨_, rfl⟩
  have hc0b : ((c0 : Int) == 45) = neg := by
    have h1 := hget 0 hs0
    rw [hc0] at h1
    cases neg
    · have h2 := txt_dig (neg := false) (ds := ds) (pos := 0) (by simp [off])
      rw [← hlt, ← h1] at h2
      have h3 := hd.dig.getD hp
      simp [off] at h2
      rw [beq_eq_false_iff_ne]
      have : ds.getD 0 0 = c0 := by rw [List.getD_eq_getElem?_getD]; exact h2.symm
      omega
    · have h2 := txt_sign (neg := true) (ds := ds) (pos := 0) (by simp [off])
      rw [← hlt, ← h1] at h2
      rw [h2]; rfl
  obtain ⟨W, hW⟩ : ∃ W, W = w.alloc (.cells #[.bool false, .slice none 0 0] 24) := ⟨_, rfl⟩
  have hxr : Box w.heap.size (.bool false) (.slice none 0 0) W := by rw [hW]; exact Box.made _ _ rfl _ _ _
  have hb0 : Below w.heap.size w W := by rw [hW]; exact (Below.refl _ _).alloc (Nat.le_refl _) _
  have HW := Lib.hid hW
  have HXR := Lib.hid hxr
  have HB0 := Lib.hid hb0
  have HH := Lib.hid h
  have HLG := Lib.hid hlong
  have HGET := Lib.hid hget
  have HSZ := Lib.hid hsz
  have HLT := Lib.hid hlt
  have HZ := Lib.hid hz
  have HD := Lib.hid hd
  have hll : l.length = ds.length + off neg := hlen
  have HLL := Lib.hid hll
  have hl2 : l.length ≤ 1001 := by omega
  have hdl : Dig ds := hd.dig
  have HDL := Lib.hid hdl
  clear hW hxr hb0 h hlong hget hsz hlt hz hd hs hll hlen hbyt hdl
  go_enter Tryd.func48, Tryd.ntmps48
  go_wp2_with fail
  rw [← HW.out]
  refine (HH.out _).mono ?_
  rintro e w2 ⟨rfl, hb2⟩
  go_wp2_with fail
  refine (HLG.out _).mono ?_
  rintro e w3 ⟨rfl, hb3'⟩
  have hb3 := hb2.trans (hb3'.mono hb2.size)
  go_wp2_with fail
  obtain ⟨G, hG⟩ : ∃ G, G = w3.heap.size := ⟨_, rfl⟩
  obtain ⟨V, hV⟩ : ∃ V, V = w3.alloc (.cells #[.bool false, .slice none 0 0] 24) := ⟨_, rfl⟩
  rw [← hV]
  have hbb : Below w3.heap.size w3 V := by rw [hV]; exact (Below.refl _ _).alloc (Nat.le_refl _) _
  have hxg : Box G (.bool false) (.slice none 0 0) V := by rw [hV]; exact Box.made _ _ hG _ _ _
  have HGW : Hid (W.heap.size ≤ G) := by unfold Hid; rw [hG]; exact hb3.size
  have hbV := hb3.trans (hbb.mono hb3.size)
  rw [← hG]
  clear hG hV hbb hb2 hb3' hb3
  go_loopw [5] (fun ii wr => ∃ (pos : Nat) (xa : Option Addr) (xc : Nat), pos ≤ l.length ∧ ii = .int .i64 pos ∧ Box G (.bool (sg ((num (ds.take (pos - off neg)) : Nat) : Int))) (.slice xa (mg ((num (ds.take (pos - off neg)) : Nat) : Int)).length xc) wr ∧ Apart W.heap.size G G (mg ((num (ds.take (pos - off neg)) : Nat) : Int)) xa xc wr ∧ Below W.heap.size W wr) (fun ii _ => l.length - (RowKit.intOf ii).toNat)
  case atStart => exact ⟨0, none, 0, by omega, rfl, by simpa [num, sg, mg, limbs_zero] using hxg, ⟨by simp [num, mg, limbs_zero], .inl ⟨rfl, by simp [num, mg, limbs_zero]⟩⟩, hbV⟩
  case round =>
    clear hxg hbV
    obtain ⟨pos, xa, xc, hpos, rfl, hX, hA, hB⟩ := hrel
    have HX := Lib.hid hX
    obtain ⟨p0, p1, p2, p3, p4⟩ := hX
    by_cases hlt : pos < l.length
    · have hps : pos < s.size := by rw [HSZ.out]; exact hlt
      have hch := HGET.out pos hps
      by_cases hsg : pos < off neg
      · have h45 : (s[pos]'hps).toNat = 45 := by rw [hch, HLT.out]; exact txt_sign hsg
        have hz1 : pos + 1 - off neg = pos - off neg := by omega
        clear hch p0 p1 p2 p3 p4
        go_wp2_with fail
        go_roundw
        case rel => exact ⟨pos + 1, xa, xc, by omega, by go_num, by rw [hz1]; exact HX.out, by rw [hz1]; exact hA, hB⟩
        case measure => simp [RowKit.intOf]; omega
      · have hlk : pos - off neg < ds.length := by have := HLL.out; omega
        obtain ⟨d, hd1⟩ : ∃ d, ds.getD (pos - off neg) 0 = d + 48 := ⟨ds.getD (pos - off neg) 0 - 48, by have := HDL.out.getD hlk; omega⟩
        have hd2 : d ≤ 9 := by have := HDL.out.getD hlk; omega
        have hcd : (s[pos]'hps).toNat = d + 48 := by rw [hch, HLT.out, txt_dig (by omega), hd1]
        have hnum : num (ds.take (pos + 1 - off neg)) = 10 * num (ds.take (pos - off neg)) + d := by
          rw [show pos + 1 - off neg = pos - off neg + 1 by omega, num_take hlk, hd1]; simp
        have hlen1 : (mg ((num (ds.take (pos - off neg)) : Nat) : Int)).length ≤ 1001 := by
          have := num_len HDL.out (i := pos - off neg) (by omega)
          unfold mg; simp only [Int.natAbs_natCast]; omega
        obtain ⟨N, hN⟩ : ∃ N, N = num (ds.take (pos - off neg)) := ⟨_, rfl⟩
        obtain ⟨N2, hN2⟩ : ∃ N, N = num (ds.take (pos + 1 - off neg)) := ⟨_, rfl⟩
        rw [← hN, ← hN2] at hnum
        rw [← hN] at hlen1 hA HX p0 p1
        have hm10 : Hid ((N : Int) * 10 + (d : Int) = (N2 : Int)) := Lib.hid (by omega)
        have hl10 : (mg ((N : Int) * 10)).length ≤ 1002 := by
          have h1 := mg_mul_len (sg (N : Int)) false (Lim_mg (N : Int)) (show Lim [10] from Lim.nil.cons (by omega))
          rw [den_mg] at h1
          have h2 : den false [10] = 10 := rfl
          rw [h2] at h1
          simp at h1; omega
        have hl4 : (mg 10).length ≤ 5 := by decide
        have hl5 : (mg (d : Int)).length ≤ 5 := by
          refine length_limbs_le ?_
          simp only [Int.natAbs_natCast]; omega
        have HA := Lib.hid hA
        have HB := Lib.hid hB
        have HN2 := Lib.hid hN2
        have hne : ¬((d : Int) + 48 = 45) := by omega
        have hbs := hB.size
        clear hch hd1 hN hN2 hnum hA hB
        go_wp2_with fail
        have hwr0 : ∀ k : Fin 10, IntKind.i64.wrap (IntKind.u8.wrap ((k.val : Nat) : Int)) = ((k.val : Nat) : Int) := by decide
        have hwr : IntKind.i64.wrap (IntKind.u8.wrap (d : Int)) = (d : Int) := hwr0 ⟨d, by omega⟩
        have HWR := Lib.hid hwr
        clear hwr0 hwr
        go_region_with (first
          | (go_at_call 27; have hq := rsmall_any 10 wr.drew (by omega) (by omega); (with_reducible refine hq.mono ?_); clear hq; rintro e w5 ⟨a5, c5, rfl, hN5⟩; have hb5 : Below wr.heap.size wr w5 := (Below.refl _ _).drew.trans hN5.below; have hx5 := HX.out.below hb5; obtain ⟨q0, q1, q2, q3, q4⟩ := hx5)
          | (go_at_call 34; have hq := rmul_any (sg (N : Int)) (sg 10) xa a5 (mg (N : Int)).length (mg 10).length xc c5 (mg (N : Int)) (mg 10) w5 (HA.out.rd.below hb5) hN5.rd rfl rfl (by omega) (by omega); rw [den_mg, den_mg] at hq; (with_reducible refine hq.mono ?_); clear hq; rintro e w6 ⟨a6, c6, rfl, hN6⟩)
          | (go_at_call 27; rw [HWR.out]; have hq := rsmall_any (d : Int) w6 (by omega) (by omega); (with_reducible refine hq.mono ?_); clear hq; rintro e w7 ⟨a7, c7, rfl, hN7⟩)
          | (go_at_call 38; have hq := radd_any (sg ((N : Int) * 10)) (sg (d : Int)) a6 a7 (mg ((N : Int) * 10)).length (mg (d : Int)).length c6 c7 (mg ((N : Int) * 10)) (mg (d : Int)) w7 (hN6.rd.below hN7.below) hN7.rd rfl rfl (by omega) (by omega); rw [den_mg, den_mg, hm10.out] at hq; (with_reducible refine hq.mono ?_); clear hq; rintro e w8 ⟨a8, c8, rfl, hN8⟩; have hb7 := hN6.below.trans (hN7.below.mono hN6.below.size); have hb57 := hb5.trans (hb7.mono hb5.size); have hb8 := hb57.trans (hN8.below.mono hb57.size); have hx8 := HX.out.below hb8; obtain ⟨m0, m1, m2, m3, m4⟩ := hx8))
        all_goals
          have hs7 := hb57.size
          have h1 := (HX.out.below hb8).stored (.bool (sg (N2 : Int))) (.slice a8 (mg (N2 : Int)).length c8)
          have h2 : Apart W.heap.size G G (mg (N2 : Int)) a8 c8 _ := ((Apart.of_new hN8 (by omega) (.inl (by omega)) (.inl (by omega))).store1 0 (.bool (sg (N2 : Int)))).store1 1 (.slice a8 (mg (N2 : Int)).length c8)
          have h3 := bel_store (HB.out.trans (hb8.mono HB.out.size)) G HGW.out (.bool (sg (N2 : Int))) (.slice a8 (mg (N2 : Int)).length c8)
          have H1 := Lib.hid h1
          have H2 := Lib.hid h2
          have H3 := Lib.hid h3
          clear h1 h2 h3 hb5 hb7 hb57 hb8 hN5 hN6 hN7 hN8
          go_wp2_with fail
          go_roundw
        all_goals first
          | exact ⟨pos + 1, a8, c8, by omega, by go_num, by rw [← HN2.out]; exact H1.out, by rw [← HN2.out]; exact H2.out, H3.out⟩
          | (simp [RowKit.intOf]; omega)
    · obtain rfl : pos = l.length := by omega
      have hall : ds.take (l.length - off neg) = ds := List.take_of_length_le (by have := HLL.out; omega)
      rw [hall] at hA HX p0 p1
      have hdz : den neg (mg ((num ds : Nat) : Int)) = z := by
        rw [HZ.out]; unfold den mg; simp only [Int.natAbs_natCast, val_limbs]
      have hlen1 : (mg ((num ds : Nat) : Int)).length ≤ 1001 := by
        have := num_len HDL.out (i := ds.length) (Nat.le_refl _)
        rw [List.take_of_length_le (Nat.le_refl _)] at this
        unfold mg; simp only [Int.natAbs_natCast]; omega
      have HDZ := Lib.hid hdz
      have HA := Lib.hid hA
      have hxr := HXR.out.below hB
      have HXR2 := Lib.hid hxr
      have HBW := Lib.hid hB
      clear hall hdz hA hB hxr
      go_wp2_with fail
      go_region_with ((go_at_call 55; refine (make_any neg xa _ xc (mg ((num ds : Nat) : Int)) _ (HA.out.rd.below (Below.refl _ _).drew) rfl (by omega)).mono ?_; rw [HDZ.out]; rintro e w5 ⟨a5, c5, rfl, hN5⟩; have hb5 : Below wr.heap.size wr w5 := (Below.refl _ _).drew.trans hN5.below; have hx5 := HXR2.out.below hb5; obtain ⟨r0, r1, r2, r3, r4⟩ := hx5))
      all_goals
        have hN : New W (mg z) a5 c5 w5 := New.before (HBW.out.trans ((Below.refl _ _).drew.mono HBW.out.size)) hN5
        rw [HW.out] at hN
        have hn := new_result hN (.bool (sg z)) (.slice a5 (mg z).length c5)
        have HN := Lib.hid hn
        clear hN5 hN hn hb5
        go_wp2_with fail
        refine bodyPost_ret (v := .tuple #[.agg #[.bool (sg z), .slice a5 (mg z).length c5], .int .i64 0]) ?_ rfl ⟨a5, c5, rfl, HN.out⟩
        simp [results, Tryd.results48, go_sem, r0, r1]
end Go.Proofs.YtllogjmepflnoaaDoor
