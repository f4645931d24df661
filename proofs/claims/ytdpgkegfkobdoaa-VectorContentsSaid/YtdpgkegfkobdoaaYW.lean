/-
  The walk of VectorContents.
-/
import Derived.Test.YtdpgkegfkobdoaaYU
import Derived.Test.YtdpgkegfkobdoaaYV
import Derived.Test.YtdpgkegfkobdoaaYT
namespace Go.Proofs.Ytdpgkegfkobdoaa
open Go.RowKit Go.Shelf

/-- The row, its first k numbers times c. -/
def scaL (ks : List Int) (c : Int) (n k : Nat) : List Int := (List.range n).map fun i => if i < k then ks.getD i 0 * c else ks.getD i 0
theorem length_scaL (ks : List Int) (c : Int) (n k : Nat) : (scaL ks c n k).length = n := by simp [scaL]
theorem scaL_zero (ks : List Int) (c : Int) (n : Nat) : scaL ks c n 0 = tapeL ks n := by simp [scaL, tapeL]
theorem scaL_get (ks : List Int) (c : Int) (n k : Nat) (h : k < n) : (scaL ks c n k).getD k 0 = ks.getD k 0 := by simp [scaL, List.getD_eq_getElem?_getD, h]
theorem scaL_set (ks : List Int) (c : Int) (n k : Nat) (h : k < n) : (scaL ks c n k).set k (ks.getD k 0 * c) = scaL ks c n (k + 1) := by
  apply List.ext_getElem
  · simp [scaL]
  · intro i h1 h2
    have hi : i < n := by simpa [scaL] using h2
    rw [List.getElem_set]
    simp only [scaL, List.getElem_map, List.getElem_range]
    by_cases e : k = i
    · rw [if_pos e, if_pos (by omega), e]
    · rw [if_neg e]
      by_cases h3 : i < k
      · rw [if_pos h3, if_pos (by omega)]
      · rw [if_neg h3, if_neg (by omega)]

theorem natAbs_prod (a c : Int) : (a * c).natAbs = a.natAbs * c.natAbs := Int.natAbs_mul a c
theorem prod_lim {a c : Int} (ha : -128 ≤ a ∧ a ≤ 127) (hc : -32768 ≤ c ∧ c ≤ 32767) : -4194304 ≤ a * c ∧ a * c ≤ 4194304 := by
  have h := natAbs_prod a c
  have h1 : a.natAbs ≤ 128 := by omega
  have h2 : c.natAbs ≤ 32768 := by omega
  have h3 := Nat.mul_le_mul h1 h2
  rw [← h] at h3
  omega
theorem scaL_lim {ks : List Int} {c : Int} (hk : ∀ i, -128 ≤ ks.getD i 0 ∧ ks.getD i 0 ≤ 127) (hc : -32768 ≤ c ∧ c ≤ 32767) (n k : Nat) : ∀ x ∈ scaL ks c n k, I64 x := by
  intro x hx
  obtain ⟨i, _, rfl⟩ := List.mem_map.1 hx
  have h1 := hk i
  have h2 := prod_lim h1 hc
  unfold I64
  split <;> omega

theorem contL_edge : contL [-9223372036854775808, 0] 2 = 9223372036854775808 := by decide

set_option maxRecDepth 100000 in
set_option maxHeartbeats 4000000 in
theorem vectorContents_walk (xa : Option Addr) (nx capx : Nat) (xs : List Int) (al : Option Addr) (nl capl : Nat) (ks : List Int) (c : Int) (w : World) (rx : RdI w xa capx xs) (hlx : xs.length = nx) (hnx : nx ≤ 17592186044416) (rl : Rd8 w al ks) (hll : ks.length = nl) (hnl : nl ≤ 200000000000000)
    (hc : -32768 ≤ c ∧ c ≤ 32767) :
    Calls Try.prog 5 #[.slice xa nx capx, .slice al nl capl, .int .i16 c] w fun e w' => e = .returned (.bool true) ∧ Below w.heap.size w w' := by
  have hvec := vector_any al nl capl 5 ks w rl hll hnl (by omega)
  have HVEC := Lib.hid hvec
  have HK := Lib.hid (fun i => rl.get i)
  have HX := Lib.hid rx
  have HLX := Lib.hid hlx
  have HC := Lib.hid hc
  have hc1 := hc.1
  have hc2 := hc.2
  have wc : IntKind.i64.wrap c = c := by rw [IntKind.wrap_i64]; omega
  clear rx rl hlx hll hvec hc
  go_enter Try.func5, Try.ntmps5
  go_wp2_with fail
  refine HVEC.out.mono ?_
  rintro e w1 ⟨g, rfl, hg, hown, hb⟩
  rw [length_tapeL]
  have HO : Hid (OwnI w1 g (scaL ks c 5 0)) := by unfold Hid; rw [scaL_zero]; exact hown
  have HB : Hid (Below w.heap.size w w1) := hb
  have HG : Hid (w.heap.size ≤ g) := hg
  clear hg hown hb
  go_wp2_with fail
  go_loopw [13] (fun ii wr => ∃ i : Nat, i ≤ 5 ∧ ii = .int .i64 (i : Int) ∧ Hid (OwnI wr g (scaL ks c 5 i)) ∧ Hid (Below w.heap.size w wr)) (fun ii _ => 5 - (intOf ii).toNat)
  case atStart => exact ⟨0, by omega, rfl, HO, HB⟩
  case round =>
    obtain ⟨i, hin, rfl, hO, hB⟩ := hrel
    clear HO HB
    by_cases hi : i < 5
    · have hcell := hO.out.cell i (by rw [length_scaL]; exact hi)
      rw [scaL_get ks c 5 i hi] at hcell
      have hfree := hO.out.free i
      have hg1 := HK.out i
      have hset := scaL_set ks c 5 i hi
      have hO2 := fun z => hO.out.store i z
      obtain ⟨x, hx⟩ : ∃ x, x = ks.getD i 0 := ⟨_, rfl⟩
      rw [← hx] at hcell hg1 hset
      have hp := prod_lim hg1 HC.out
      have wx : IntKind.i64.wrap (x * c) = x * c := by rw [IntKind.wrap_i64]; omega
      have hO3 : Hid (OwnI (wr.setCell ⟨g, i, none⟩ (.int .i64 (x * c))) g (scaL ks c 5 (i + 1))) := by
        have h := hO2 (x * c)
        rw [hset] at h
        exact h
      have hB3 : Hid (Below w.heap.size w (wr.setCell ⟨g, i, none⟩ (.int .i64 (x * c)))) := hB.out.setCell (p := ⟨g, i, none⟩) HG.out _
      clear hg1 hset hO2 hx hp hO hB
      have hi64 : (i : Int) < 5 := by omega
      go_wp2_with fail
      go_roundw
      case rel => exact ⟨i + 1, by omega, by go_num, hO3, hB3⟩
      case measure => simp [intOf]; omega
    · obtain rfl : i = 5 := by omega
      have hX0 : Hid (RdI wr xa capx xs) := HX.out.below hB.out
      have hY0 : Hid (RdI wr (some ⟨g, 0, none⟩) 5 (scaL ks c 5 5)) := hO.out.rd (by rw [length_scaL]; omega) (scaL_lim HK.out HC.out 5 5)
      have HLY : Hid ((scaL ks c 5 5).length = 5) := length_scaL ks c 5 5
      clear hO
      go_wp2_with fail
      refine (content_any xa nx capx xs wr hX0.out HLX.out (by omega)).mono ?_
      rintro e w2 ⟨rfl, hb2⟩
      have hX2 : Hid (RdI w2 xa capx xs) := hX0.out.below hb2
      have hY2 : Hid (RdI w2 (some ⟨g, 0, none⟩) 5 (scaL ks c 5 5)) := hY0.out.below hb2
      have hB2 : Hid (Below w.heap.size w w2) := hB.out.trans (hb2.mono hB.out.size)
      obtain ⟨C1, hC1⟩ : ∃ C1, C1 = contL xs nx := ⟨_, rfl⟩
      rw [← hC1]
      have HC1 := Lib.hid hC1
      clear hb2 hX0 hY0 hB hC1
      go_wp2_with fail
      refine (rcontent_any xa nx capx xs w2 hX2.out HLX.out (by omega)).mono ?_
      rintro e w3 ⟨rfl, hb3⟩
      have hY3 : Hid (RdI w3 (some ⟨g, 0, none⟩) 5 (scaL ks c 5 5)) := hY2.out.below hb3
      have hB3 : Hid (Below w.heap.size w w3) := hB2.out.trans (hb3.mono hB2.out.size)
      rw [← HC1.out]
      clear hb3 hX2 hY2 hB2
      go_wp2_with fail
      refine (content_any _ 5 5 (scaL ks c 5 5) w3 hY3.out HLY.out (by omega)).mono ?_
      rintro e w4 ⟨rfl, hb4⟩
      have hY4 : Hid (RdI w4 (some ⟨g, 0, none⟩) 5 (scaL ks c 5 5)) := hY3.out.below hb4
      have hB4 : Hid (Below w.heap.size w w4) := hB3.out.trans (hb4.mono hB3.out.size)
      obtain ⟨C2, hC2⟩ : ∃ C2, C2 = contL (scaL ks c 5 5) 5 := ⟨_, rfl⟩
      rw [← hC2]
      have HC2 := Lib.hid hC2
      clear hb4 hY3 hB3 hC2
      go_wp2_with fail
      refine (rcontent_any _ 5 5 (scaL ks c 5 5) w4 hY4.out HLY.out (by omega)).mono ?_
      rintro e w5 ⟨rfl, hb5⟩
      have hB5 : Hid (Below w.heap.size w w5) := hB4.out.trans (hb5.mono hB4.out.size)
      rw [← HC2.out]
      obtain ⟨W6, hW6⟩ : ∃ W, W = w5.alloc (.cells #[.int .i64 (-9223372036854775808), .int .i64 0] 2) := ⟨_, rfl⟩
      have hb6 : Below w5.heap.size w5 W6 := by rw [hW6]; exact (Below.refl _ _).alloc (Nat.le_refl _) _
      have HW6 : Hid (w5.alloc (.cells #[.int .i64 (-9223372036854775808), .int .i64 0] 2) = W6) := hW6.symm
      have hr6 : Hid (RdI W6 (some ⟨w5.heap.size, 0, none⟩) 2 [-9223372036854775808, 0]) := by rw [hW6]; exact rd_made w5 [-9223372036854775808, 0] (by unfold I64; decide)
      have hB6 : Hid (Below w.heap.size w W6) := hB5.out.trans (hb6.mono hB5.out.size)
      clear hb5 hY4 hB4 hW6 hb6
      go_wp2_with fail
      rw [HW6.out]
      refine (content_any _ 2 2 [-9223372036854775808, 0] W6 hr6.out rfl (by omega)).mono ?_
      rintro e w7 ⟨rfl, hb7⟩
      have hB7 : Hid (Below w.heap.size w w7) := hB6.out.trans (hb7.mono hB6.out.size)
      rw [contL_edge]
      clear hb7 hr6 hB6
      go_wp2_with fail
      refine (vawake_any w7).mono ?_
      rintro e w8 ⟨rfl, hb8⟩
      have hB8 : Hid (Below w.heap.size w w8) := hB7.out.trans (hb8.mono hB7.out.size)
      clear hb8
      go_wp2_with fail
      go_ret
      exact ⟨rfl, hB8.out⟩
end Go.Proofs.Ytdpgkegfkobdoaa
