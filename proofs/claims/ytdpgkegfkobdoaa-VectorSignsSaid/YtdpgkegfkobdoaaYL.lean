/-
  The contracts of Compare and of the order of pairs of a norm and a vector.
-/
import Derived.Test.YtdpgkegfkobdoaaYK
namespace Go.Proofs.Ytdpgkegfkobdoaa
open Go.RowKit Go.Shelf

/-- The lexicographic order of two lists. -/
def cmpL : List Int → List Int → Int
  | [], [] => 0
  | [], _ :: _ => -1
  | _ :: _, [] => 1
  | x :: xs, y :: ys => if Lib.compareInt x y = 0 then cmpL xs ys else Lib.compareInt x y

theorem compareInt_cases (x y : Int) : (x < y ∧ Lib.compareInt x y = -1) ∨ (x = y ∧ Lib.compareInt x y = 0) ∨ (y < x ∧ Lib.compareInt x y = 1) := by
  unfold Lib.compareInt
  by_cases h1 : x < y
  · simp [h1]
  · by_cases h2 : y < x
    · simp [h1, h2]
    · have : x = y := by omega
      simp [h1, this]

theorem cmpL_drop {xs ys : List Int} {i : Nat} (h1 : i < xs.length) (h2 : i < ys.length) :
    cmpL (xs.drop i) (ys.drop i) = if Lib.compareInt (xs.getD i 0) (ys.getD i 0) = 0 then cmpL (xs.drop (i + 1)) (ys.drop (i + 1)) else Lib.compareInt (xs.getD i 0) (ys.getD i 0) := by
  have e1 : xs.getD i 0 = xs[i] := by simp [List.getD_eq_getElem?_getD, List.getElem?_eq_getElem h1]
  have e2 : ys.getD i 0 = ys[i] := by simp [List.getD_eq_getElem?_getD, List.getElem?_eq_getElem h2]
  rw [List.drop_eq_getElem_cons h1, List.drop_eq_getElem_cons h2, e1, e2]
  rfl

theorem cmpL_past {xs ys : List Int} {i : Nat} (h1 : i < xs.length) (h2 : ¬i < ys.length) : cmpL (xs.drop i) (ys.drop i) = 1 := by
  rw [List.drop_eq_getElem_cons h1, show ys.drop i = [] from List.drop_eq_nil_of_le (by omega)]; rfl
theorem cmpL_end {xs ys : List Int} : cmpL (xs.drop xs.length) (ys.drop xs.length) = if xs.length < ys.length then -1 else 0 := by
  rw [List.drop_eq_nil_of_le (Nat.le_refl _)]
  by_cases h : xs.length < ys.length
  · rw [List.drop_eq_getElem_cons h, if_pos h]; rfl
  · rw [List.drop_eq_nil_of_le (by omega), if_neg h]; rfl

set_option maxRecDepth 100000 in
set_option maxHeartbeats 1000000 in
theorem scompare_any (a a2 : Option Addr) (n cap m cap2 : Nat) (xs ys : List Int) (w : World) (hr : RdI w a cap xs) (hl : xs.length = n) (hr2 : RdI w a2 cap2 ys) (hl2 : ys.length = m) (hn : n ≤ 100000000000000) (hm : m ≤ 100000000000000) :
    Calls Try.prog 14 #[.slice a n cap, .slice a2 m cap2] w fun e w' => e = .returned (.int .i64 (cmpL xs ys)) ∧ w' = w := by
  have hc := hr.cells
  have hc2 := hr2.cells
  have HC := Lib.hid hc
  have HC2 := Lib.hid hc2
  have HL := Lib.hid hl
  have HL2 := Lib.hid hl2
  have HCMP := Lib.hid Try.cmp_Compare_int
  clear hr hr2 hl hl2 hc hc2
  go_enter Try.func14, Try.ntmps14
  go_wp2_with fail
  go_loop [11] (fun ii => ∃ i : Nat, i ≤ n ∧ ii = .int .i64 (i : Int) ∧ Hid (cmpL xs ys = cmpL (xs.drop i) (ys.drop i))) (fun ii => n - (intOf ii).toNat)
  case atStart => exact ⟨0, by omega, rfl, rfl⟩
  case round =>
    obtain ⟨i, hin, rfl, hall⟩ := hrel
    by_cases hi : i < n
    · obtain ⟨b, o, rfl, hcell⟩ := HC.out i (by rw [HL.out]; exact hi)
      obtain ⟨x, hx⟩ : ∃ x, x = xs.getD i 0 := ⟨_, rfl⟩
      rw [← hx] at hcell
      by_cases him : i < m
      · obtain ⟨b2, o2, rfl, hcell2⟩ := HC2.out i (by rw [HL2.out]; exact him)
        obtain ⟨y, hy⟩ : ∃ y, y = ys.getD i 0 := ⟨_, rfl⟩
        rw [← hy] at hcell2
        have hd := cmpL_drop (xs := xs) (ys := ys) (i := i) (by rw [HL.out]; exact hi) (by rw [HL2.out]; exact him)
        rw [← hx, ← hy, ← hall.out] at hd
        obtain ⟨c, hc⟩ : ∃ c, c = Lib.compareInt x y := ⟨_, rfl⟩
        have hcall := HCMP.out x y
        rw [← hc] at hd hcall
        have HCALL := Lib.hid hcall
        have HD := Lib.hid hd
        clear hd hcall hx hy hc
        by_cases h0 : c = 0
        · subst h0
          have hnx : Hid (cmpL xs ys = cmpL (xs.drop (i + 1)) (ys.drop (i + 1))) := by unfold Hid; rw [HD.out, if_pos rfl]
          go_wp2_with fail
          refine (HCALL.out _).mono ?_
          rintro e w' ⟨rfl, rfl⟩
          go_wp2_with fail
          go_round
          case rel => exact ⟨i + 1, by omega, by go_num, hnx⟩
          case measure => simp [intOf]; omega
        · have hne : (!(c == 0)) = true := by simpa using h0
          have hE : Hid (cmpL xs ys = c) := by unfold Hid; rw [HD.out, if_neg h0]
          go_wp2_with fail
          refine (HCALL.out _).mono ?_
          rintro e w' ⟨rfl, rfl⟩
          go_wp2_with fail
          go_ret
          exact ⟨by rw [hE.out]; rfl, rfl⟩
      · have hE : Hid (cmpL xs ys = 1) := by unfold Hid; rw [hall.out]; exact cmpL_past (by rw [HL.out]; exact hi) (by rw [HL2.out]; exact him)
        have d1 : decide ((m : Int) ≤ (i : Int)) = true := decide_eq_true (by omega)
        clear hx
        go_wp2_with fail
        go_ret
        exact ⟨by rw [hE.out]; rfl, rfl⟩
    · obtain rfl : i = n := by omega
      have hend := cmpL_end (xs := xs) (ys := ys)
      rw [HL.out, HL2.out, ← hall.out] at hend
      by_cases hlt : i < m
      · have d1 : decide ((i : Int) < (m : Int)) = true := decide_eq_true (by omega)
        rw [if_pos hlt] at hend
        have HE := Lib.hid hend
        clear hend
        go_wp2_with fail
        go_ret
        exact ⟨by rw [HE.out]; rfl, rfl⟩
      · have d1 : decide ((i : Int) < (m : Int)) = false := decide_eq_false (by omega)
        rw [if_neg hlt] at hend
        have HE := Lib.hid hend
        clear hend
        go_wp2_with fail
        go_ret
        exact ⟨by rw [HE.out]; rfl, rfl⟩

set_option maxHeartbeats 400000 in
theorem compare_any (a a2 : Option Addr) (n cap m cap2 : Nat) (xs ys : List Int) (w : World) (hr : RdI w a cap xs) (hl : xs.length = n) (hr2 : RdI w a2 cap2 ys) (hl2 : ys.length = m) (hn : n ≤ 100000000000000) (hm : m ≤ 100000000000000) :
    Calls Try.prog 6 #[.slice a n cap, .slice a2 m cap2] w fun e w' => e = .returned (.int .i64 (cmpL xs ys)) ∧ w' = w := by
  have hc := scompare_any a a2 n cap m cap2 xs ys w hr hl hr2 hl2 hn hm
  have HC := Lib.hid hc
  clear hr hr2 hc hl hl2
  go_enter Try.func6, Try.ntmps6
  go_wp2_with fail
  refine HC.out.mono ?_
  rintro e w' ⟨rfl, rfl⟩
  go_wp2_with fail
  go_ret
  exact ⟨rfl, rfl⟩

/-- A pair of a norm and a vector, and where the vector lies. -/
structure Item where
  norm : Int
  vec : List Int
  a : Option Addr
  cap : Nat

/-- The two cells of an item. -/
def encN (x : Item) : List Value := [.int .i64 x.norm, .slice x.a x.vec.length x.cap]

/-- The order of two items. -/
def cfN (x y : Item) : Int := if Lib.compareInt x.norm y.norm = 0 then cmpL x.vec y.vec else Lib.compareInt x.norm y.norm

/-- An item whose vector is there. -/
def OkN (w : World) (x : Item) : Prop := RdI w x.a x.cap x.vec ∧ x.vec.length ≤ 100000000000000

set_option maxRecDepth 100000 in
set_option maxHeartbeats 1000000 in
theorem compareNormed_any (x y : Item) (w : World) (hx : OkN w x) (hy : OkN w y) :
    Calls Try.prog 28 #[.agg #[.int .i64 x.norm, .slice x.a x.vec.length x.cap], .agg #[.int .i64 y.norm, .slice y.a y.vec.length y.cap]] w fun e w' => e = .returned (.int .i64 (cfN x y)) ∧ ∃ q os, w' = Go.Sort.grow (w.drewN q) os := by
  obtain ⟨W, hW⟩ : ∃ W, W = (w.alloc (.cells #[.int .i64 x.norm, .slice x.a x.vec.length x.cap] 58)).alloc (.cells #[.int .i64 y.norm, .slice y.a y.vec.length y.cap] 58) := ⟨_, rfl⟩
  have hp1 : Pr w.heap.size (.int .i64 x.norm) (.slice x.a x.vec.length x.cap) W := by rw [hW]; exact (Pr.made _ _ _ _ rfl).alloc _
  have hp2 : Pr (w.heap.size + 1) (.int .i64 y.norm) (.slice y.a y.vec.length y.cap) W := by rw [hW]; exact Pr.made _ _ _ _ (by simp)
  have hb : Below w.heap.size w W := by rw [hW]; exact ((Below.refl _ _).alloc (Nat.le_refl _) _).alloc (by simp) _
  have hend : ∃ q os, W = Go.Sort.grow (w.drewN q) os := ⟨0, _, by rw [hW, alloc_grow, alloc_grow, Go.Sort.grow_grow]; rfl⟩
  have hcv := compare_any x.a y.a x.vec.length x.cap y.vec.length y.cap x.vec y.vec W (hx.1.below hb) rfl (hy.1.below hb) rfl hx.2 hy.2
  have HEND := Lib.hid hend
  have HCV := Lib.hid hcv
  have HCMP := Lib.hid (Try.cmp_Compare_int x.norm y.norm)
  have HWW : Hid ((w.alloc (.cells #[.int .i64 x.norm, .slice x.a x.vec.length x.cap] 58)).alloc (.cells #[.int .i64 y.norm, .slice y.a y.vec.length y.cap] 58) = W) := hW.symm
  obtain ⟨p1, p2, p3, p4, p5⟩ := hp1
  obtain ⟨q1, q2, q3, q4, q5⟩ := hp2
  obtain ⟨nx, hnx⟩ : ∃ n, n = x.norm := ⟨_, rfl⟩
  obtain ⟨ny, hny⟩ : ∃ n, n = y.norm := ⟨_, rfl⟩
  obtain ⟨c, hc⟩ : ∃ c, c = Lib.compareInt x.norm y.norm := ⟨_, rfl⟩
  obtain ⟨v, hv⟩ : ∃ v, v = cmpL x.vec y.vec := ⟨_, rfl⟩
  have hcf : cfN x y = if c = 0 then v else c := by unfold cfN; rw [hc, hv]
  rw [← hc] at HCMP
  rw [← hv] at HCV
  rw [hcf]
  clear hW hb hend hcv hx hy hcf
  by_cases h0 : c = 0
  · have d0 : (c != 0) = false := by simpa using h0
    rw [if_pos h0]
    clear h0 hc hv hnx hny
    go_enter Try.func28, Try.ntmps28
    go_wp2_with fail
    rw [HWW.out]
    refine (HCMP.out _).mono ?_
    rintro e w' ⟨rfl, rfl⟩
    go_wp2_with fail
    refine HCV.out.mono ?_
    rintro e w' ⟨rfl, rfl⟩
    go_wp2_with fail
    go_ret
    exact ⟨rfl, HEND.out⟩
  · have d0 : (c != 0) = true := by simpa using h0
    rw [if_neg h0]
    clear h0 hc hv hnx hny
    go_enter Try.func28, Try.ntmps28
    go_wp2_with fail
    rw [HWW.out]
    refine (HCMP.out _).mono ?_
    rintro e w' ⟨rfl, rfl⟩
    go_wp2_with fail
    go_ret
    exact ⟨rfl, HEND.out⟩

/-- The block of the list with its order, the box of its address, and the worlds behind it. -/
structure OrdBox (w : World) (bx bo : Nat) : Prop where
  box : w.cell? ⟨bx, 0, none⟩ = some (.pointer (some ⟨bo, 0, none⟩))
  fn : w.cell? ⟨bo, 1, none⟩ = some (.func (.func 28) #[] #[])

set_option maxRecDepth 100000 in
set_option maxHeartbeats 1000000 in
theorem equalNormed_any (bx bo : Nat) (x y : Item) (w : World) (hx : OkN w x) (hy : OkN w y) (ho : OrdBox w bx bo) :
    Calls Try.prog 39 #[.agg #[.int .i64 x.norm, .slice x.a x.vec.length x.cap], .agg #[.int .i64 y.norm, .slice y.a y.vec.length y.cap], .pointer (some ⟨bx, 0, none⟩)] w fun e w' => e = .returned (.bool (cfN x y == 0)) ∧ ∃ q os, w' = Go.Sort.grow (w.drewN q) os := by
  obtain ⟨W, hW⟩ : ∃ W, W = (w.alloc (.cells #[.int .i64 x.norm, .slice x.a x.vec.length x.cap] 58)).alloc (.cells #[.int .i64 y.norm, .slice y.a y.vec.length y.cap] 58) := ⟨_, rfl⟩
  have hp1 : Pr w.heap.size (.int .i64 x.norm) (.slice x.a x.vec.length x.cap) W := by rw [hW]; exact (Pr.made _ _ _ _ rfl).alloc _
  have hp2 : Pr (w.heap.size + 1) (.int .i64 y.norm) (.slice y.a y.vec.length y.cap) W := by rw [hW]; exact Pr.made _ _ _ _ (by simp)
  have hb : Below w.heap.size w W := by rw [hW]; exact ((Below.refl _ _).alloc (Nat.le_refl _) _).alloc (by simp) _
  have hend : ∃ q os, W = Go.Sort.grow (w.drewN q) os := ⟨0, _, by rw [hW, alloc_grow, alloc_grow, Go.Sort.grow_grow]; rfl⟩
  have hcv := fun n os => compareNormed_any x y (Go.Sort.grow (W.drewN n) os) ⟨(hx.1.below hb).below (below_grow W n os), hx.2⟩ ⟨(hy.1.below hb).below (below_grow W n os), hy.2⟩
  have f1 := fun n os => cell_grown (n := n) (os := os) hp1.lt hp1.c0
  have f2 := fun n os => cell_grown (n := n) (os := os) hp1.lt hp1.c1
  have f3 := fun n os => cell_grown (n := n) (os := os) hp2.lt hp2.c0
  have f4 := fun n os => cell_grown (n := n) (os := os) hp2.lt hp2.c1
  have g1 : W.cell? ⟨bx, 0, none⟩ = some (.pointer (some ⟨bo, 0, none⟩)) := by rw [hb.cell (World.block_lt_of_cell? w _ ho.box)]; exact ho.box
  have g2 : W.cell? ⟨bo, 1, none⟩ = some (.func (.func 28) #[] #[]) := by rw [hb.cell (World.block_lt_of_cell? w _ ho.fn)]; exact ho.fn
  have f5 := fun n os => cell_grown (n := n) (os := os) (World.block_lt_of_cell? W _ g1) g1
  have f6 := fun n os => cell_grown (n := n) (os := os) (World.block_lt_of_cell? W _ g2) g2
  have hmix := mixed
  have HEND := Lib.hid hend
  have HCV := Lib.hid hcv
  have HWW : Hid ((w.alloc (.cells #[.int .i64 x.norm, .slice x.a x.vec.length x.cap] 58)).alloc (.cells #[.int .i64 y.norm, .slice y.a y.vec.length y.cap] 58) = W) := hW.symm
  clear hW hb hend hcv hx hy hp1 hp2 g1 g2 ho
  obtain ⟨c, hc⟩ : ∃ c, c = cfN x y := ⟨_, rfl⟩
  rw [← hc] at HCV ⊢
  clear hc
  go_enter Try.func39, Try.ntmps39
  go_wp2_with fail
  rw [HWW.out]
  go_quiet_grown (first | (go_at_call 28; exact Calls.grown_of (HCV.out _ _)))
  have hfin : ∃ q os, Go.Sort.grow (W.drewN nq) osq = Go.Sort.grow (w.drewN q) os := by
    obtain ⟨q, os, e⟩ := HEND.out
    exact ⟨q + nq, os ++ osq, by rw [e]; show Go.Sort.grow (Go.Sort.grow ((w.drewN q).drewN nq) os) osq = _; rw [Go.Sort.grow_grow, World.drewN_drewN]⟩
  have HFIN := Lib.hid hfin
  clear hfin f1 f2 f3 f4 f5 f6
  go_wp2_with fail
  go_ret
  exact ⟨rfl, HFIN.out⟩
end Go.Proofs.Ytdpgkegfkobdoaa
