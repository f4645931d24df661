/-
  The contracts of the reference's Make, word, Small, Same.
-/
import Derived.Test.YtgnjjmbphangnaaDoorR
namespace Go.Proofs.YtgnjjmbphangnaaDoor
open Go.RowKit

theorem sg_den {neg : Bool} {xs : List Nat} (h : val xs ≠ 0) : sg (den neg xs) = neg := by
  unfold sg den
  cases neg
  · simp
  · simp; omega
theorem sg_den0 {neg : Bool} {xs : List Nat} (h : val xs = 0) : sg (den neg xs) = false := by
  unfold sg den; rw [h]; cases neg <;> rfl
theorem mg_den (neg : Bool) (xs : List Nat) : mg (den neg xs) = limbs (val xs) := by unfold mg; rw [natAbs_den]

set_option maxRecDepth 100000 in
set_option maxHeartbeats 1000000 in
theorem make_any (neg : Bool) (a : Option Addr) (n cap : Nat) (xs : List Nat) (w : World) (rdx : Rd w a cap xs) (hl : xs.length = n) (hn : n ≤ 4000000000) :
    Calls Tryd.prog 40 #[.bool neg, .slice a n cap] w (GivesInt w (den neg xs)) := by
  have hlx := rdx.lim
  have hm : mg (den neg xs) = trimL xs := by rw [mg_den, limbs_val hlx]
  have htz := trim_length_zero hlx
  have hr1 := rdx.alloc (.cells #[.bool false, .slice none 0 0] 25)
  obtain ⟨T, hT⟩ : ∃ T, T = trimL xs := ⟨_, rfl⟩
  have HT := Lib.hid hT
  have HL := Lib.hid hl
  have HM := Lib.hid hm
  rw [← hT] at htz
  clear hT hl hm
  by_cases h0 : T.length = 0
  · have hs : sg (den neg xs) = false := sg_den0 (htz.1 h0)
    have hT0 : T = [] := List.eq_nil_of_length_eq_zero h0
    have HS := Lib.hid hs
    have HT0 := Lib.hid hT0
    have hb : decide ((0 : Int) < (T.length : Int)) = false := by simp; omega
    clear hs hT0 htz h0
    cases neg
    all_goals
      go_enter Tryd.func40, Tryd.ntmps40
      go_wp2_with fail
      refine (rtrim_any _ n _ xs _ hr1 HL.out (by omega)).mono ?_
      rintro e w1 ⟨a1, c1, rfl, hN1⟩
      rw [← HT.out, HT0.out] at hN1
      rw [← HT.out, HT0.out]
      obtain ⟨f1, f2, f3, f4, f5⟩ := held2 hN1.below
      have hn := new_result hN1
      clear hN1
      go_wp2_with fail
      exact bodyPost_ret (v := .agg #[.bool false, .slice a1 0 c1]) (by simp [results, Tryd.results40, go_sem, f1, f2]) rfl ⟨a1, c1, by rw [HS.out, HM.out, ← HT.out, HT0.out]; rfl, by rw [HM.out, ← HT.out, HT0.out]; exact hn _ _⟩
  · have hs : sg (den neg xs) = neg := sg_den (fun h => h0 (htz.2 h))
    have HS := Lib.hid hs
    have hb : decide ((0 : Int) < (T.length : Int)) = true := by simp; omega
    have hp : 0 < T.length := by omega
    clear hs htz h0
    cases neg
    · go_enter Tryd.func40, Tryd.ntmps40
      go_wp2_with fail
      refine (rtrim_any _ n _ xs _ hr1 HL.out (by omega)).mono ?_
      rintro e w1 ⟨a1, c1, rfl, hN1⟩
      rw [← HT.out] at hN1
      rw [← HT.out]
      obtain ⟨f1, f2, f3, f4, f5⟩ := held2 hN1.below
      have hn := new_result hN1
      clear hN1
      go_wp2_with fail
      exact bodyPost_ret (v := .agg #[.bool false, .slice a1 T.length c1]) (by simp [results, Tryd.results40, go_sem, f1, f2]) rfl ⟨a1, c1, by rw [HS.out, HM.out, ← HT.out], by rw [HM.out, ← HT.out]; exact hn _ _⟩
    · go_enter Tryd.func40, Tryd.ntmps40
      go_wp2_with fail
      refine (rtrim_any _ n _ xs _ hr1 HL.out (by omega)).mono ?_
      rintro e w1 ⟨a1, c1, rfl, hN1⟩
      rw [← HT.out] at hN1
      rw [← HT.out]
      obtain ⟨f1, f2, f3, f4, f5⟩ := held2 hN1.below
      have hn := new_result hN1
      clear hN1
      go_wp2_with fail
      exact bodyPost_ret (v := .agg #[.bool true, .slice a1 T.length c1]) (by simp [results, Tryd.results40, go_sem, f1, f2]) rfl ⟨a1, c1, by rw [HS.out, HM.out, ← HT.out], by rw [HM.out, ← HT.out]; exact hn _ _⟩

set_option maxRecDepth 100000 in
set_option maxHeartbeats 1000000 in
theorem rcmp_any (a b : Option Addr) (n m cap cap' : Nat) (xs ys : List Nat) (w : World) (h : Rd w a cap xs) (h' : Rd w b cap' ys) (hl : xs.length = n) (hl' : ys.length = m) (hn : n ≤ 4000000000) (hm : m ≤ 4000000000)
    (ht : n = m ∨ (trimL xs = xs ∧ trimL ys = ys)) :
    Calls Tryd.prog 56 #[.slice a n cap, .slice b m cap'] w fun e w' => e = .returned (.int .i64 (cmpI (val xs) (val ys))) ∧ ∃ q, w.drewN q = w' := by
  have hlx := h.lim
  have hly := h'.lim
  by_cases hne : n = m
  · subst hne
    clear ht
    have HL := Lib.hid hl
    have HL' := Lib.hid hl'
    clear hl hl'
    go_enter Tryd.func56, Tryd.ntmps56
    go_wp2_with fail
    go_loopw [5] (fun i wr => ∃ k : Nat, k ≤ n ∧ i = .int .i64 ((k : Int) - 1) ∧ Hid (xs.drop k = ys.drop k) ∧ ∃ q, wr = w.drewN q) (fun i _ => (intOf i + 1).toNat)
    case atStart => exact ⟨n, Nat.le_refl _, rfl, by unfold Hid; rw [List.drop_of_length_le (by rw [HL.out]; omega), List.drop_of_length_le (by rw [HL'.out]; omega)], 0, rfl⟩
    case round =>
      obtain ⟨k, hk, rfl, hd, q, rfl⟩ := hrel
      by_cases h0 : 0 < k
      · obtain ⟨j, rfl⟩ : ∃ j, k = j + 1 := ⟨k - 1, by omega⟩
        obtain ⟨b1, o1, rfl, hc⟩ := h.cells j (by rw [HL.out]; omega)
        obtain ⟨b2, o2, rfl, hc'⟩ := h'.cells j (by rw [HL'.out]; omega)
        clear h h'
        have ej : ((j + 1 : Nat) : Int) - 1 = (j : Int) := by omega
        rw [ej]
        clear ej
        by_cases he : nth xs j = nth ys j
        · have hb : (nth xs j != nth ys j) = false := by simpa using he
          have HE := Lib.hid he
          clear he
          go_wp2_with fail
          go_quiet (fail)
          go_wp2_with fail
          go_roundw
          case rel =>
            refine ⟨j, by omega, by go_num, ?_, _, rfl⟩
            exact drop_eq_of j (by rw [HL.out]; omega) (by rw [HL.out, HL'.out]) hd (by have := HE.out; unfold nth at this; omega)
          case measure => simp [intOf]
        · have hb : (nth xs j != nth ys j) = true := by simpa using he
          have hs := sgn_top hlx hly (by rw [HL.out, HL'.out]) j (by rw [HL.out]; omega) hd.out he
          have HS := Lib.hid hs
          clear hs he
          by_cases hlt : nth xs j < nth ys j
          · have hdl : decide (nth xs j < nth ys j) = true := decide_eq_true hlt
            have hv : cmpI (val xs) (val ys) = -1 := by rw [← HS.out, hdl]; rfl
            have HV := Lib.hid hv
            clear hv hlt
            go_wp2_with fail
            go_quiet (fail)
            go_wp2_with fail
            go_quiet (fail)
            go_wp2_with fail
            go_ret
            refine ⟨by rw [HV.out]; rfl, ?_⟩
            rw [World.drewN_drewN, World.drewN_drewN]
            exact ⟨_, rfl⟩
          · have hdl : decide (nth xs j < nth ys j) = false := decide_eq_false hlt
            have hv : cmpI (val xs) (val ys) = 1 := by rw [← HS.out, hdl]; rfl
            have HV := Lib.hid hv
            clear hv hlt
            go_wp2_with fail
            go_quiet (fail)
            go_wp2_with fail
            go_quiet (fail)
            go_wp2_with fail
            go_ret
            refine ⟨by rw [HV.out]; rfl, ?_⟩
            rw [World.drewN_drewN, World.drewN_drewN]
            exact ⟨_, rfl⟩
      · obtain rfl : k = 0 := by omega
        have hv : xs = ys := by simpa using hd.out
        have HV := Lib.hid hv
        clear hv
        go_wp2_with fail
        go_ret
        exact ⟨by rw [HV.out]; simp [cmpI], _, rfl⟩
  · have hb : ((n : Int) != m) = true := by simp; omega
    obtain ⟨t1, t2⟩ : trimL xs = xs ∧ trimL ys = ys := by rcases ht with h | h; exact absurd h hne; exact h
    have hs := sgn_len hlx hly t1 t2 (by omega) (decide (n < m)) (by rw [hl, hl'])
    have HS := Lib.hid hs
    clear hs ht hl hl' h h' t1 t2
    by_cases hlt : n < m
    · have hv : cmpI (val xs) (val ys) = -1 := by rw [← HS.out, decide_eq_true hlt]; rfl
      have HV := Lib.hid hv
      clear hv
      go_enter Tryd.func56, Tryd.ntmps56
      go_wp2_with fail
      go_ret
      exact ⟨by rw [HV.out]; rfl, 0, rfl⟩
    · have hv : cmpI (val xs) (val ys) = 1 := by rw [← HS.out, decide_eq_false hlt]; rfl
      have HV := Lib.hid hv
      clear hv
      go_enter Tryd.func56, Tryd.ntmps56
      go_wp2_with fail
      go_ret
      exact ⟨by rw [HV.out]; rfl, 0, rfl⟩

theorem word_cells (w : World) (u : Nat) (o : Obj) (hl : Lim [u % 4294967296, u / 4294967296]) :
    Rd ((w.alloc o).alloc (.cells #[Value.int IntKind.u32 ((u : Int) % 4294967296), Value.int IntKind.u32 ((u : Int) / 4294967296)] 52)) (some ⟨w.heap.size + 1, 0, none⟩) 2 [u % 4294967296, u / 4294967296] := by
  have h := Own.made (w.alloc o) [u % 4294967296, u / 4294967296] hl
  rw [World.size_alloc] at h
  exact h.rd (by simp)

set_option maxRecDepth 100000 in
set_option maxHeartbeats 1000000 in
theorem word_any (neg : Bool) (u : Nat) (w : World) (h1 : u < 18446744073709551616) : Calls Tryd.prog 44 #[.bool neg, .int .u64 u] w (GivesInt w (if neg then -(u : Int) else (u : Int))) := by
  have hl : Lim [u % 4294967296, u / 4294967296] := (Lim.nil.cons (by omega)).cons (by omega)
  have hd : den neg [u % 4294967296, u / 4294967296] = if neg then -(u : Int) else (u : Int) := by
    have : val [u % 4294967296, u / 4294967296] = u := by simp [val]; omega
    unfold den; rw [this]
  have HD := Lib.hid hd
  have HU : u ≤ 18446744073709551615 := by omega
  clear hd h1
  cases neg
  all_goals
    go_enter Tryd.func44, Tryd.ntmps44
    go_wp2_with fail
    refine (make_any _ _ 2 2 [u % 4294967296, u / 4294967296] _ (word_cells w u _ hl) rfl (by omega)).mono ?_
    rintro e w1 ⟨a1, c1, rfl, hN1⟩
    rw [HD.out] at hN1
    rw [HD.out]
    have hN2 := New.before (w := w.alloc (Obj.cells #[Value.bool false, Value.slice none 0 0] 25)) ((Below.refl _ _).alloc (Nat.le_refl _) _) hN1
    clear hN1
    obtain ⟨f1, f2, f3, f4, f5⟩ := held2 hN2.below
    have hn := new_result hN2
    clear hN2
    go_wp2_with fail
    exact bodyPost_ret (v := _) (by simp [results, Tryd.results44, go_sem, f1, f2]) rfl ⟨a1, c1, rfl, hn _ _⟩

set_option maxRecDepth 100000 in
set_option maxHeartbeats 1000000 in
theorem rsmall_any (z : Int) (w : World) (h0 : -9223372036854775808 ≤ z) (h1 : z ≤ 9223372036854775807) :
    Calls Tryd.prog 25 #[.int .i64 z] w (GivesInt w z) := by
  go_enter Tryd.func25, Tryd.ntmps25
  by_cases hz : z < 0
  · go_wp2_with fail
    have e : IntKind.u64.wrap (-IntKind.u64.wrap z) = ((z.natAbs : Nat) : Int) := by rw [wrap_u64', wrap_u64']; omega
    rw [e]
    refine (word_any true z.natAbs _ (by omega)).mono ?_
    have e2 : (if true = true then -((z.natAbs : Nat) : Int) else ((z.natAbs : Nat) : Int)) = z := by simp; omega
    rw [e2]
    clear e e2
    rintro e w1 ⟨a1, c1, rfl, hN1⟩
    obtain ⟨f1, f2, f3, f4, f5⟩ := held2 hN1.below
    have hn := new_result hN1
    clear hN1
    go_wp2_with fail
    exact bodyPost_ret (v := _) (by simp [results, Tryd.results25, go_sem, f1, f2]) rfl ⟨a1, c1, rfl, hn _ _⟩
  · go_wp2_with fail
    have e : z = ((z.natAbs : Nat) : Int) := by omega
    generalize z.natAbs = u at e
    subst e
    refine (word_any false u _ (by omega)).mono ?_
    rintro e w1 ⟨a1, c1, rfl, hN1⟩
    obtain ⟨f1, f2, f3, f4, f5⟩ := held2 hN1.below
    have hn := new_result hN1
    clear hN1
    go_wp2_with fail
    exact bodyPost_ret (v := _) (by simp [results, Tryd.results25, go_sem, f1, f2]) rfl ⟨a1, c1, rfl, hn _ _⟩

end Go.Proofs.YtgnjjmbphangnaaDoor
