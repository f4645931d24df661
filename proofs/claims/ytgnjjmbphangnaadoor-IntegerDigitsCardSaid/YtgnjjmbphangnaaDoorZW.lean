/-
  The walk of IntegerDigits.
-/
import Derived.Test.YtgnjjmbphangnaaDoorPZ
import Derived.Test.YtgnjjmbphangnaaDoorDL
namespace Go.Proofs.YtgnjjmbphangnaaDoor
open Go.RowKit Go.Lib

theorem madeU8 (n : Nat) : (madeCells #[Value.int .u8 0] n).toList = u8s (List.replicate n 0) :=
  (toList_madeCells_one _ n).trans (by simp [u8s])

theorem u8s_put (zs : List Nat) (i c q : Nat) (v : Int) (hv : v = ((c + q : Nat) : Int)) : (u8s zs).set i (.int .u8 v) = u8s (zs.set i (c + q)) := by
  rw [hv, u8s_set]

theorem dgs_next {k n : Nat} (h : k < n) : (dgs k ++ List.replicate (n - k) 0).set k (49 + k % 9) = dgs (k + 1) ++ List.replicate (n - (k + 1)) 0 := by
  rw [set_next (length_dgs k) h, dgs_succ]

/-- What the text of a number is read as, and written as again. -/
theorem parse_dgs (neg : Bool) {n : Nat} (h1 : 1 < n) (h2 : n ≤ 2000) : ∃ M : List Nat, M.length ≤ 10000 ∧
    (∀ V, Calls Tryd.prog 5 #[.string (str ((if neg then [45] else []) ++ dgs n))] V (fun e w' => ∃ (a : Option Addr) (cap : Nat), e = .returned (.tuple #[.agg #[.bool neg, .slice a M.length cap], .int .i64 0]) ∧ Rd w' a cap M ∧ Below V.heap.size V w')) ∧
    (∀ V a cap, Rd V a cap M → Calls Tryd.prog 7 #[.agg #[.bool neg, .slice a M.length cap]] V (fun e w' => e = .returned (.string (str ((if neg then [45] else []) ++ dgs n))) ∧ Below V.heap.size V w')) := by
  have hN := num_dgs_ne (n := n) (by omega)
  have hdd := digs_dgs (n := n) (by omega)
  have h10 := nat10_dgs (n := n) (by omega)
  have hlen := num_len (dig_dgs n) (i := (dgs n).length) (Nat.le_refl _)
  rw [List.take_of_length_le (Nat.le_refl _), length_dgs] at hlen
  have h48 : dgs n ≠ [48] := fun e => by have := length_dgs n; rw [e] at this; simp at this; omega
  obtain ⟨N, hNe⟩ : ∃ N, N = num (dgs n) := ⟨_, rfl⟩
  rw [← hNe] at hN hdd hlen
  cases neg
  · refine ⟨mg (N : Int), by unfold mg; simp only [Int.natAbs_natCast]; omega, ?_, ?_⟩
    · intro V
      refine (parse_plain (dgs n) V h10 (by rw [length_dgs]; exact h2)).mono ?_
      rw [← hNe]
      rintro e w' ⟨a, cap, rfl, hn⟩
      exact ⟨a, cap, by rw [show sg (N : Int) = false by unfold sg; simp], hn.rd, hn.below⟩
    · intro V a cap hr
      refine (format_any false a _ cap _ V hr rfl (by unfold mg; simp only [Int.natAbs_natCast]; omega)).mono ?_
      have hz : text (den false (mg (N : Int))) = dgs n := by
        have e : den false (mg (N : Int)) = (N : Int) := by
          have := den_mg (N : Int)
          rwa [show sg (N : Int) = false by unfold sg; simp] at this
        rw [e]; unfold text
        rw [if_neg (by omega), if_neg (by omega), Int.natAbs_natCast, hdd]; rfl
      rw [hz]
      rintro e w' ⟨rfl, hb⟩
      exact ⟨rfl, hb⟩
  · have hs : sg (-(N : Int)) = true := by unfold sg; simp; omega
    refine ⟨mg (-(N : Int)), by unfold mg; simp only [Int.natAbs_neg, Int.natAbs_natCast]; omega, ?_, ?_⟩
    · intro V
      refine (parse_minus (dgs n) V h10 (by rw [length_dgs]; exact h2) h48).mono ?_
      rw [← hNe]
      rintro e w' ⟨a, cap, rfl, hn⟩
      exact ⟨a, cap, by rw [hs], hn.rd, hn.below⟩
    · intro V a cap hr
      refine (format_any true a _ cap _ V hr rfl (by unfold mg; simp only [Int.natAbs_neg, Int.natAbs_natCast]; omega)).mono ?_
      have hz : text (den true (mg (-(N : Int)))) = 45 :: dgs n := by
        have e : den true (mg (-(N : Int))) = -(N : Int) := by
          have := den_mg (-(N : Int))
          rwa [hs] at this
        rw [e]; unfold text
        rw [if_neg (by omega), if_pos (by omega), Int.natAbs_neg, Int.natAbs_natCast, hdd]; rfl
      rw [hz]
      rintro e w' ⟨rfl, hb⟩
      exact ⟨rfl, hb⟩

theorem parse_dgx (neg : Bool) {n : Nat} (h1 : 1 < n) (h2 : n ≤ 2002) (V : World) : Calls Tryd.prog 5 #[.string (str ((if neg then [45] else []) ++ dgx n))] V (fun e w' => e = .returned (.tuple #[.agg #[.bool false, .slice none 0 0], .int .i64 2]) ∧ Below V.heap.size V w') := by
  refine parse_bad _ V ?_ ?_ (dgx_bad h1 neg _ rfl)
  · intro c hc
    rcases List.mem_append.1 hc with h | h
    · cases neg <;> simp at h; omega
    · exact byt_dgx n c h
  · rw [List.length_append, length_dgx]; cases neg <;> simp <;> omega

theorem parse_dgl (neg : Bool) {n : Nat} (h1 : 2000 < n) (h2 : n ≤ 2002) (V : World) : Calls Tryd.prog 5 #[.string (str ((if neg then [45] else []) ++ dgs n))] V (fun e w' => e = .returned (.tuple #[.agg #[.bool false, .slice none 0 0], .int .i64 7]) ∧ Below V.heap.size V w') := by
  cases neg
  · exact parse_plain_long (dgs n) V (nat10_dgs (by omega)) (by rw [length_dgs]; omega) (by rw [length_dgs]; omega)
  · exact parse_minus_long (dgs n) V (nat10_dgs (by omega)) (by rw [length_dgs]; omega) (by rw [length_dgs]; omega)

theorem str_minus (l : List Nat) : (⟨#[45]⟩ : ByteArray) ++ str l = str (45 :: l) := by
  apply ByteArray.ext
  rw [ByteArray.data_append]
  apply Array.ext'
  simp [str, strOfNums]

theorem str_join (neg : Bool) (l : List Nat) : str ((if neg then [45] else []) ++ l) = if neg then (⟨#[45]⟩ : ByteArray) ++ str l else str l := by
  cases neg
  · rfl
  · exact (str_minus l).symm

attribute [local go_sem ↓] Go.wp_at_zero Go.wp_at_succ

set_option maxRecDepth 100000 in
set_option maxHeartbeats 4000000 in
theorem integerDigits_walk (k : Nat) (neg wrong : Bool) (w : World) (hk : k ≤ 255) :
    Calls Tryd.prog 3 #[.int .u8 k, .bool neg, .bool wrong] w fun e w' => e = .returned (.bool true) ∧ Below w.heap.size w w' := by
  obtain ⟨i0, hi, hz0, hz1, hz2⟩ := info_parts Tryd.infoU8
  obtain ⟨r, hr⟩ : ∃ r : Nat, r = k % 5 := ⟨_, rfl⟩
  have hr5 : (k : Int) % 5 = (r : Int) := by omega
  have hr4 : r ≤ 4 := by omega
  obtain ⟨n, hn⟩ : ∃ n : Nat, n = 1998 + r := ⟨_, rfl⟩
  have hnn : (1998 : Int) + (r : Int) = (n : Int) := by omega
  have hn1 : 1998 ≤ n := by omega
  have hn2 : n ≤ 2002 := by omega
  obtain ⟨m, hm⟩ : ∃ m : Nat, m = n - 1 := ⟨_, rfl⟩
  have hmm : (n : Int) - 1 = (m : Int) := by omega
  have hmn : m < n := by omega
  have HM := Lib.hid hm
  clear hr hn hm
  go_enter Tryd.func3, Tryd.ntmps3
  go_wp2_with (at_make; refine wpList_make_full _ rfl _ _ 22 rfl w.heap.size 5 i0 (.int .u8 0) 1 Tryd.underlying22 hi hz0 hz1 _ _ _ _ n rfl rfl ?_ ?_ ?_ ?_ (Nat.le_refl _) ?_)
  · rfl
  · rfl
  · rw [hz2]; omega
  · unfold maxLen; omega
  intro w1 hown hgrow
  rw [madeU8] at hown
  have hb1 : Below w.heap.size w w1 := (Below.refl _ _).grown hgrow (Nat.le_refl _) (by intro k hk; cases hk)
  clear hgrow
  go_wp2_with fail
  go_loopw [21] (fun ii wr => ∃ j : Nat, j ≤ n ∧ ii = .int .i64 j ∧ wr.ownsRow w.heap.size 5 1 (.slice (some ⟨w.heap.size, 0, none⟩) n n) n (u8s (dgs j ++ List.replicate (n - j) 0)) ∧ Below w.heap.size w wr) (fun ii _ => n - (RowKit.intOf ii).toNat)
  case atStart => exact ⟨0, by omega, rfl, by simpa [dgs] using hown, hb1⟩
  case round =>
    obtain ⟨j, hj, rfl, hO, hB⟩ := hrel
    clear hown hb1
    by_cases hlt : j < n
    · obtain ⟨q, hq⟩ : ∃ q : Nat, q = j % 9 := ⟨_, rfl⟩
      have hq9 : (j : Int) % 9 = (q : Int) := by omega
      have hq8 : q ≤ 8 := by omega
      have hfree := hO.frozenAt j
      obtain ⟨o1, g1⟩ := hO.stored j (.int .u8 (49 + (q : Int)))
      have hcell := hO.cellAt j (by omega)
      rw [u8s_get _ j (by rw [List.length_append, length_dgs, List.length_replicate]; omega)] at hcell
      have e1 : (u8s (dgs j ++ List.replicate (n - j) 0)).set j (.int .u8 (49 + (q : Int))) = u8s (dgs (j + 1) ++ List.replicate (n - (j + 1)) 0) := by
        rw [u8s_put _ j 49 q _ (by simp), hq, dgs_next hlt]
      rw [e1] at o1
      have O1 := Lib.hid o1
      have hB2 := Lib.hid (hB.setCell (p := ⟨w.heap.size, j, none⟩) (Nat.le_refl _) (.int .u8 (49 + (q : Int))))
      clear hq o1 g1 hO hB e1
      go_wp2_with fail
      go_roundw
      case rel =>
        exact ⟨j + 1, by omega, by go_num, O1.out, hB2.out⟩
      case measure => simp [RowKit.intOf]; omega
    · obtain rfl : j = n := by omega
      rw [Nat.sub_self, List.replicate_zero, List.append_nil] at hO
      have HN1 : Hid (1 < j) := Lib.hid (by omega)
      cases wrong
      · obtain ⟨t, ht⟩ : ∃ t, t = str (dgs j) := ⟨_, rfl⟩
        have hts : t.size = j := by rw [ht, str_size, length_dgs]
        have hcv := run_convert_bytes_arg (P := Tryd.prog) wr 22 5 Tryd.underlying22 Tryd.underlying5 w.heap.size 0 j j ((dgs j).map fun (n : Nat) => (n : Int)) (by simp [length_dgs])
          (fun i hi => by rw [Nat.zero_add, hO.cellAt i (by omega), u8s_get _ i (by rw [length_dgs]; omega), map_getD]) 9 Tryd.underlying9
        have hcv2 : strOfNums ((dgs j).map fun (n : Nat) => (n : Int)) = t := ht.symm
        rw [hcv2] at hcv
        have hcat : ¬9223372036854775807 < 1 + j := by omega
        have HB2 := Lib.hid hB
        by_cases hlong : 2000 < j
        · have HP : Hid (∀ V, Calls Tryd.prog 5 #[.string (if neg then (⟨#[45]⟩ : ByteArray) ++ t else t)] V (fun e w' => e = .returned (.tuple #[.agg #[.bool false, .slice none 0 0], .int .i64 7]) ∧ Below V.heap.size V w')) := by
            unfold Hid
            intro V
            have h := parse_dgl neg (n := j) hlong (by omega) V
            rw [str_join, ← ht] at h
            exact h
          have hgt : decide ((2000 : Int) < (j : Int)) = true := decide_eq_true (by omega)
          clear hO hB hcv2 ht HN1 hlong
          cases neg
          all_goals
            have hp := HP.out
            simp only [if_true, if_false, Bool.false_eq_true] at hp
            have HQ := Lib.hid hp
            clear hp HP
            go_wp2_with fail
            refine (HQ.out _).mono ?_
            rintro e w5 ⟨rfl, hb5⟩
            have hB5 := HB2.out.trans (hb5.mono HB2.out.size)
            have hB6 := hB5.alloc hB5.size (.cells #[.bool false, .slice none 0 0] 25)
            have hx := Box.made w5 w5.heap.size rfl (.bool false) (.slice none 0 0) 25
            obtain ⟨p0, p1, p2, p3, p4⟩ := hx
            have HB6 := Lib.hid hB6
            clear hB5 hB6 hb5
            go_wp2_with fail
            refine (awake_any divLong_any _).mono ?_
            rintro e w9 ⟨rfl, hb9⟩
            have hB9 := HB6.out.trans (hb9.mono HB6.out.size)
            go_wp2_with fail
            go_ret
            exact ⟨rfl, hB9⟩
        · have hle : j ≤ 2000 := by omega
          obtain ⟨M, hM1, hM2, hM3⟩ := parse_dgs neg (n := j) (by omega) hle
          rw [str_join, ← ht] at hM2 hM3
          have HP := Lib.hid hM2
          have HF := Lib.hid hM3
          have hgt : decide ((2000 : Int) < (j : Int)) = false := decide_eq_false (by omega)
          clear hO hB hcv2 ht HN1 hlong hM2 hM3
          cases neg
          · have hp := HP.out
            have hf := HF.out
            simp only [if_true, if_false, Bool.false_eq_true] at hp hf
            have HQ := Lib.hid hp
            have HG := Lib.hid hf
            clear hp hf HP HF
            go_wp2_with fail
            refine (HQ.out _).mono ?_
            rintro e w5 ⟨a5, c5, rfl, hrd, hb5⟩
            have hB5 := HB2.out.trans (hb5.mono HB2.out.size)
            have hB6 := hB5.alloc hB5.size (.cells #[.bool false, .slice a5 M.length c5] 25)
            have hx := Box.made w5 w5.heap.size rfl (.bool false) (.slice a5 M.length c5) 25
            have hr6 := Lib.hid (hrd.alloc (.cells #[.bool false, .slice a5 M.length c5] 25))
            obtain ⟨p0, p1, p2, p3, p4⟩ := hx
            have HB6 := Lib.hid hB6
            clear hB5 hB6 hb5 hrd
            go_wp2_with fail
            refine (HG.out _ _ _ hr6.out).mono ?_
            rintro e w7 ⟨rfl, hb7⟩
            have HB7 := Lib.hid (HB6.out.trans (hb7.mono HB6.out.size))
            clear hb7
            go_wp2_with fail
            refine (awake_any divLong_any _).mono ?_
            rintro e w9 ⟨rfl, hb9⟩
            have hB9 := HB7.out.trans (hb9.mono HB7.out.size)
            go_wp2_with fail
            go_ret
            exact ⟨rfl, hB9⟩
          · have hp := HP.out
            have hf := HF.out
            simp only [if_true, if_false, Bool.false_eq_true] at hp hf
            have HQ := Lib.hid hp
            have HG := Lib.hid hf
            clear hp hf HP HF
            go_wp2_with fail
            refine (HQ.out _).mono ?_
            rintro e w5 ⟨a5, c5, rfl, hrd, hb5⟩
            have hB5 := HB2.out.trans (hb5.mono HB2.out.size)
            have hB6 := hB5.alloc hB5.size (.cells #[.bool true, .slice a5 M.length c5] 25)
            have hx := Box.made w5 w5.heap.size rfl (.bool true) (.slice a5 M.length c5) 25
            have hr6 := Lib.hid (hrd.alloc (.cells #[.bool true, .slice a5 M.length c5] 25))
            obtain ⟨p0, p1, p2, p3, p4⟩ := hx
            have HB6 := Lib.hid hB6
            clear hB5 hB6 hb5 hrd
            go_wp2_with fail
            refine (HG.out _ _ _ hr6.out).mono ?_
            rintro e w7 ⟨rfl, hb7⟩
            have HB7 := Lib.hid (HB6.out.trans (hb7.mono HB6.out.size))
            clear hb7
            go_wp2_with fail
            refine (awake_any divLong_any _).mono ?_
            rintro e w9 ⟨rfl, hb9⟩
            have hB9 := HB7.out.trans (hb9.mono HB7.out.size)
            go_wp2_with fail
            go_ret
            exact ⟨rfl, hB9⟩
      · have hfree := hO.frozenAt m
        obtain ⟨o1, g1⟩ := hO.stored m (.int .u8 120)
        have e1 : (u8s (dgs j)).set m (.int .u8 120) = u8s (dgx j) := by
          unfold dgx; rw [← HM.out]; exact u8s_set (dgs j) m 120
        rw [e1] at o1
        have hcell := hO.cellAt m (by omega)
        rw [u8s_get _ m (by rw [length_dgs]; omega)] at hcell
        have hB2 := hB.setCell (p := ⟨w.heap.size, m, none⟩) (Nat.le_refl _) (.int .u8 120)
        obtain ⟨t, ht⟩ : ∃ t, t = str (dgx j) := ⟨_, rfl⟩
        have hts : t.size = j := by rw [ht, str_size, length_dgx]
        have hcv := run_convert_bytes_arg (P := Tryd.prog) (wr.setCell ⟨w.heap.size, m, none⟩ (.int .u8 120)) 22 5 Tryd.underlying22 Tryd.underlying5 w.heap.size 0 j j ((dgx j).map fun (n : Nat) => (n : Int)) (by simp [length_dgx])
          (fun i hi => by rw [Nat.zero_add, o1.cellAt i (by omega), u8s_get _ i (by rw [length_dgx]; omega), map_getD]) 9 Tryd.underlying9
        have hcv2 : strOfNums ((dgx j).map fun (n : Nat) => (n : Int)) = t := ht.symm
        rw [hcv2] at hcv
        have HP : Hid (∀ V, Calls Tryd.prog 5 #[.string (if neg then (⟨#[45]⟩ : ByteArray) ++ t else t)] V (fun e w' => e = .returned (.tuple #[.agg #[.bool false, .slice none 0 0], .int .i64 2]) ∧ Below V.heap.size V w')) := by
          unfold Hid
          intro V
          have h := parse_dgx neg (n := j) (by omega) (by omega) V
          rw [str_join, ← ht] at h
          exact h
        have hcat : ¬9223372036854775807 < 1 + j := by omega
        have HB2 := Lib.hid hB2
        clear o1 g1 e1 hO hB hB2 hcv2 ht HN1
        cases neg
        all_goals
          have hp := HP.out
          simp only [if_true, if_false, Bool.false_eq_true] at hp
          have HQ := Lib.hid hp
          clear hp HP
          go_wp2_with fail
          refine (HQ.out _).mono ?_
          rintro e w5 ⟨rfl, hb5⟩
          have hB5 := HB2.out.trans (hb5.mono HB2.out.size)
          have hB6 := hB5.alloc hB5.size (.cells #[.bool false, .slice none 0 0] 25)
          have hx := Box.made w5 w5.heap.size rfl (.bool false) (.slice none 0 0) 25
          obtain ⟨p0, p1, p2, p3, p4⟩ := hx
          have HB6 := Lib.hid hB6
          clear hB5 hB6 hb5
          go_wp2_with fail
          refine (awake_any divLong_any _).mono ?_
          rintro e w9 ⟨rfl, hb9⟩
          have hB9 := HB6.out.trans (hb9.mono HB6.out.size)
          go_wp2_with fail
          go_ret
          exact ⟨rfl, hB9⟩
end Go.Proofs.YtgnjjmbphangnaaDoor
