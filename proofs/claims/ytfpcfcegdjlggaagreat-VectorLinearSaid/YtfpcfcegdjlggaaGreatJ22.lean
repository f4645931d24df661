/-
  Joined texts: YS YM YN YO.
-/
import Derived.Test.YtfpcfcegdjlggaaGreatJ21
import Derived.Lib.SliceRun
import Derived.Shelf.SlSortCmp.WholeK
namespace Go.Proofs.YtfpcfcegdjlggaaGreat
open Go.RowKit Go.Shelf

theorem cmpL_self0 : ∀ xs : List Int, cmpL xs xs = 0
  | [] => rfl
  | x :: r => by
    have h : Lib.compareInt x x = 0 := by rcases compareInt_cases x x with h | h | h <;> omega
    show (if Lib.compareInt x x = 0 then cmpL r r else _) = 0
    rw [if_pos h, cmpL_self0 r]

theorem cmpL_eq0 : ∀ {xs ys : List Int}, cmpL xs ys = 0 → xs = ys
  | [], [], _ => rfl
  | [], _ :: _, h => by cases h
  | _ :: _, [], h => by cases h
  | x :: r, y :: s, h => by
    have h' : (if Lib.compareInt x y = 0 then cmpL r s else Lib.compareInt x y) = 0 := h
    rcases compareInt_cases x y with ⟨h1, h2⟩ | ⟨h1, h2⟩ | ⟨h1, h2⟩
    · rw [h2] at h'; simp at h'
    · rw [h2, if_pos rfl] at h'; rw [h1, cmpL_eq0 h']
    · rw [h2] at h'; simp at h'

/-- The order of two lists; nothing but draws has happened. -/
def GivesCmp (w : World) (c : Int) (e : Ending) (w' : World) : Prop := e = .returned (.int .i64 c) ∧ ∃ q, w.drewN q = w'

theorem drew3 (w : World) (q a b : Nat) : ∃ k, w.drewN k = ((w.drewN q).drewN a).drewN b := ⟨q + a + b, by rw [World.drewN_drewN, World.drewN_drewN, Nat.add_assoc]⟩

set_option maxRecDepth 100000 in
set_option maxHeartbeats 2000000 in
theorem rcompare_any (a a2 : Option Addr) (n cap m cap2 : Nat) (xs ys : List Int) (w : World) (hr : RdI w a cap xs) (hl : xs.length = n) (hr2 : RdI w a2 cap2 ys) (hl2 : ys.length = m) (hn : n ≤ 100000000000000) (hm : m ≤ 100000000000000) :
    Calls Tryz.prog 25 #[.slice a n cap, .slice a2 m cap2] w (GivesCmp w (cmpL xs ys)) := by
  have hc := hr.cells
  have hc2 := hr2.cells
  have HC := Lib.hid hc
  have HC2 := Lib.hid hc2
  have HL := Lib.hid hl
  have HL2 := Lib.hid hl2
  clear hr hr2 hl hl2 hc hc2
  go_enter Tryz.func25, Tryz.ntmps25
  go_wp2_with fail
  go_loopw [5] (fun ii wr => ∃ i : Nat, i ≤ n ∧ i ≤ m ∧ ii = .int .i64 (i : Int) ∧ Hid (cmpL xs ys = cmpL (xs.drop i) (ys.drop i)) ∧ ∃ q, wr = w.drewN q) (fun ii _ => n - (intOf ii).toNat)
  case atStart => exact ⟨0, by omega, by omega, rfl, rfl, 0, rfl⟩
  case round =>
    obtain ⟨i, hin, him', rfl, hall, q, rfl⟩ := hrel
    by_cases hi : i < n
    · have e1 : decide ((i : Int) < (n : Int)) = true := decide_eq_true (by omega)
      by_cases him : i < m
      · have e2 : decide ((i : Int) < (m : Int)) = true := decide_eq_true (by omega)
        obtain ⟨b, o, rfl, hcell⟩ := HC.out i (by rw [HL.out]; exact hi)
        obtain ⟨x, hx⟩ : ∃ x, x = xs.getD i 0 := ⟨_, rfl⟩
        rw [← hx] at hcell
        obtain ⟨b2, o2, rfl, hcell2⟩ := HC2.out i (by rw [HL2.out]; exact him)
        obtain ⟨y, hy⟩ : ∃ y, y = ys.getD i 0 := ⟨_, rfl⟩
        rw [← hy] at hcell2
        have hd := cmpL_drop (xs := xs) (ys := ys) (i := i) (by rw [HL.out]; exact hi) (by rw [HL2.out]; exact him)
        rw [← hx, ← hy, ← hall.out] at hd
        have HD := Lib.hid hd
        clear hd hx hy
        have hb1 : (i : Int) < (n : Int) := by omega
        have hb2 : (i : Int) < (m : Int) := by omega
        by_cases hxy : x = y
        · have hnx : Hid (cmpL xs ys = cmpL (xs.drop (i + 1)) (ys.drop (i + 1))) := by
            unfold Hid
            rw [HD.out, if_pos]
            rcases compareInt_cases x y with h | h | h <;> omega
          have hne : (x != y) = false := by simpa using hxy
          subst hxy
          go_wp2_with fail
          go_quiet (fail)
          go_wp2_with fail
          go_roundw
          case rel => exact ⟨i + 1, by omega, by omega, by go_num, hnx, _, rfl⟩
          case measure => simp [intOf]; omega
        · have hne : (x != y) = true := by simpa using hxy
          by_cases hlt : x < y
          · have d1 : decide (x < y) = true := decide_eq_true hlt
            have hE : Hid (cmpL xs ys = -1) := by
              unfold Hid
              rw [HD.out]
              rcases compareInt_cases x y with h | h | h
              · rw [if_neg (by omega)]; exact h.2
              · omega
              · omega
            go_wp2_with fail
            go_quiet (fail)
            go_wp2_with fail
            go_quiet (fail)
            go_wp2_with fail
            go_ret
            exact ⟨by rw [hE.out]; rfl, drew3 _ _ _ _⟩
          · have d1 : decide (x < y) = false := decide_eq_false hlt
            have hE : Hid (cmpL xs ys = 1) := by
              unfold Hid
              rw [HD.out]
              rcases compareInt_cases x y with h | h | h
              · omega
              · omega
              · rw [if_neg (by omega)]; exact h.2
            go_wp2_with fail
            go_quiet (fail)
            go_wp2_with fail
            go_quiet (fail)
            go_wp2_with fail
            go_ret
            exact ⟨by rw [hE.out]; rfl, drew3 _ _ _ _⟩
      · have e2 : decide ((i : Int) < (m : Int)) = false := decide_eq_false (by omega)
        have hE : Hid (cmpL xs ys = 1) := by unfold Hid; rw [hall.out]; exact cmpL_past (by rw [HL.out]; exact hi) (by rw [HL2.out]; exact him)
        have d1 : decide ((n : Int) < (m : Int)) = false := decide_eq_false (by omega)
        have d2 : decide ((m : Int) < (n : Int)) = true := decide_eq_true (by omega)
        go_wp2_with fail
        go_ret
        exact ⟨by rw [hE.out]; rfl, _, rfl⟩
    · obtain rfl : i = n := by omega
      have e1 : decide ((i : Int) < (i : Int)) = false := decide_eq_false (by omega)
      have hend := cmpL_end (xs := xs) (ys := ys)
      rw [HL.out, HL2.out, ← hall.out] at hend
      by_cases hlt : i < m
      · have d1 : decide ((i : Int) < (m : Int)) = true := decide_eq_true (by omega)
        rw [if_pos hlt] at hend
        have HE := Lib.hid hend
        clear hend
        go_wp2_with fail
        go_ret
        exact ⟨by rw [HE.out]; rfl, _, rfl⟩
      · have d1 : decide ((i : Int) < (m : Int)) = false := decide_eq_false (by omega)
        have d2 : decide ((m : Int) < (i : Int)) = false := decide_eq_false (by omega)
        rw [if_neg hlt] at hend
        have HE := Lib.hid hend
        clear hend
        go_wp2_with fail
        go_ret
        exact ⟨by rw [HE.out]; rfl, _, rfl⟩

theorem quiet_turn {w w' : World} {c : Int} {e : Ending} (h : GivesCmp w c e w') : e = .returned (.int .i64 c) ∧ ∃ m, w' = w.drewN m := ⟨h.1, h.2.imp fun _ e => e.symm⟩
theorem quiet_more {P : Program} {f : FuncId} {args : Array Value} {w : World} {a n : Nat} {v : Value} (h : Calls P f args (w.drewN (a + n)) fun e w' => e = .returned v ∧ ∃ m, w' = (w.drewN (a + n)).drewN m) :
    Calls P f args (w.drewN (a + n)) fun e w' => e = .returned v ∧ ∃ m, w' = w.drewN (a + m) :=
  h.mono fun _ _ ⟨he, m, hm⟩ => ⟨he, n + m, by rw [hm, World.drewN_drewN, Nat.add_assoc]⟩

/-- Two lists of lists are equal. -/
def SameM (us bs : List (List Int)) : Prop := us.length = bs.length ∧ ∀ i, i < us.length → us.getD i [] = bs.getD i []

set_option maxRecDepth 100000 in
set_option maxHeartbeats 2000000 in
theorem rsame_any (a a2 : Option Addr) (n cap m cap2 : Nat) (us bs : List (List Int)) (w : World) (hr : RdM w a cap us) (hl : us.length = n) (hr2 : RdM w a2 cap2 bs) (hl2 : bs.length = m) (hn : n ≤ 100000000000000) (hm : m ≤ 100000000000000) :
    Calls Tryz.prog 21 #[.slice a n cap, .slice a2 m cap2] w (GivesIf w (SameM us bs)) := by
  have HL := Lib.hid hl
  have HL2 := Lib.hid hl2
  have HR := Lib.hid hr
  have HR2 := Lib.hid hr2
  have hmix := mixed
  clear hr hr2 hl hl2
  by_cases hnm : n = m
  · subst hnm
    go_enter Tryz.func21, Tryz.ntmps21
    go_wp2_with fail
    go_loopw [13] (fun ii wr => ∃ i : Nat, i ≤ n ∧ ii = .int .i64 (i : Int) ∧ Hid (∀ c, c < i → us.getD c [] = bs.getD c []) ∧ ∃ q, wr = w.drewN q) (fun ii _ => n - (intOf ii).toNat)
    case atStart => exact ⟨0, by omega, rfl, fun c hc => by omega, 0, rfl⟩
    case round =>
      obtain ⟨i, hin, rfl, hall, q, rfl⟩ := hrel
      by_cases hi : i < n
      · obtain ⟨b, o, ai, ci, rfl, hc, hri, hli⟩ := HR.out.rows i (by rw [HL.out]; exact hi)
        obtain ⟨b2, o2, aj, cj, rfl, hc2, hrj, hlj⟩ := HR2.out.rows i (by rw [HL2.out]; exact hi)
        obtain ⟨xs, hxs⟩ : ∃ xs, xs = us.getD i [] := ⟨_, rfl⟩
        obtain ⟨ys, hys⟩ : ∃ xs, xs = bs.getD i [] := ⟨_, rfl⟩
        rw [← hxs] at hc hri hli
        rw [← hys] at hc2 hrj hlj
        have HXS := Lib.hid hxs
        have HYS := Lib.hid hys
        obtain ⟨lx, hlx⟩ : ∃ n, n = xs.length := ⟨_, rfl⟩
        obtain ⟨ly, hly⟩ : ∃ n, n = ys.length := ⟨_, rfl⟩
        rw [← hlx] at hc hli
        rw [← hly] at hc2 hlj
        have hcmp := fun k => (rcompare_any ai aj lx ci ly cj xs ys (w.drewN k) (hri.below (below_drewN' (Below.refl _ _) k)) hlx.symm (hrj.below (below_drewN' (Below.refl _ _) k)) hly.symm (by omega) (by omega)).mono fun _ _ h => quiet_turn h
        have HCMP := Lib.hid hcmp
        have hb1 : (i : Int) < (n : Int) := by omega
        obtain ⟨c, hc0⟩ : ∃ c, c = cmpL xs ys := ⟨_, rfl⟩
        rw [← hc0] at HCMP
        have HC0 := Lib.hid hc0
        clear hxs hys hlx hly hri hrj hcmp hc0
        by_cases h0 : c = 0
        · have hne : (c != 0) = false := by simpa using h0
          have hnx : Hid (∀ t, t < i + 1 → us.getD t [] = bs.getD t []) := fun t ht => by
            by_cases e : t = i
            · rw [e, ← HXS.out, ← HYS.out]
              have := HC0.out
              rw [h0] at this
              exact cmpL_eq0 this.symm
            · exact hall.out t (by omega)
          subst h0
          go_wp2_with fail
          go_quiet (first | (go_at_call 25; first | exact Calls.quiet_of (HCMP.out _) | exact quiet_more (HCMP.out _)))
          go_wp2_with fail
          go_roundw
          case rel => exact ⟨i + 1, by omega, by go_num, hnx, _, rfl⟩
          case measure => simp [intOf]; omega
        · have hne : (c != 0) = true := by simpa using h0
          have hno : Hid (¬SameM us bs) := fun h => by
            have e := h.2 i (by rw [HL.out]; exact hi)
            rw [← HXS.out, ← HYS.out] at e
            apply h0
            rw [HC0.out, e]
            exact cmpL_self0 ys
          go_wp2_with fail
          go_quiet (first | (go_at_call 25; first | exact Calls.quiet_of (HCMP.out _) | exact quiet_more (HCMP.out _)))
          go_wp2_with fail
          go_ret
          exact givesIf_no (q := q + nq) hno.out (World.drewN_drewN _ _ _).symm
      · obtain rfl : i = n := by omega
        have hyes : Hid (SameM us bs) := ⟨by rw [HL.out, HL2.out], fun c hc => hall.out c (by rw [← HL.out]; exact hc)⟩
        go_wp2_with fail
        go_ret
        exact givesIf_yes hyes.out rfl
  · have hno : Hid (¬SameM us bs) := fun h => hnm (by rw [← HL.out, ← HL2.out]; exact h.1)
    have hne : (((n : Nat) : Int) == (m : Int)) = false := by simp; omega
    go_enter Tryz.func21, Tryz.ntmps21
    go_wp2_with fail
    go_ret
    exact givesIf_no (q := 0) hno.out rfl
end Go.Proofs.YtfpcfcegdjlggaaGreat
namespace Go.Proofs.YtfpcfcegdjlggaaGreat
open Go.RowKit Go.Shelf

theorem OwnI.far {w : World} {g : Nat} {zs : List Int} (h : OwnI w g zs) {a : Addr} (hne : g ≠ a.block) (u : Value) : OwnI (w.setCell a u) g zs := h.of_heap (Below.heap_setCell w a u g hne)

/-- xs belongs into a list of vectors, with the norm m. -/
def Fine (nh : Nat) (hs : List (List Int)) (xs : List Int) (m : Int) : Prop := IsVec nh xs ∧ IsLim (innerS hs xs xs nh) m ∧ sgnL xs ≠ 0

/-- What newNormed gives. -/
def GivesItem (w : World) (nh : Nat) (hs : List (List Int)) (xs : List Int) (e : Ending) (w' : World) : Prop :=
  ((∃ m g c, Fine nh hs xs m ∧ e = .returned (.tuple #[.agg #[.int .i64 m, .slice (some ⟨g, 0, none⟩) nh c], .bool true]) ∧ nh ≤ c ∧ w.heap.size ≤ g ∧ OwnI w' g (canonL xs)) ∨
   ((∀ m, ¬Fine nh hs xs m) ∧ ∃ v0 v1, e = .returned (.tuple #[.agg #[.int .i64 v0, .slice none 0 0], .bool v1]) ∧ v1 = false)) ∧ Below w.heap.size w w'

set_option maxRecDepth 100000 in
set_option maxHeartbeats 1000000 in
theorem newNormed_any (ah a : Option Addr) (nh caph n cap : Nat) (hs : List (List Int)) (xs : List Int) (w : World) (hred : IsRed hs) (hrm : RdM w ah caph hs) (hlm : hs.length = nh) (hr : RdI w a cap xs) (hl : xs.length = n) (hn : n ≤ 17592186044416) :
    Calls Tryz.prog 44 #[.slice ah nh caph, .slice a n cap] w (GivesItem w nh hs xs) := by
  obtain ⟨W, hW⟩ : ∃ W, W = w.alloc (.cells #[.int .i64 0, .slice none 0 0] 76) := ⟨_, rfl⟩
  have hP : Hid (Pr w.heap.size (.int .i64 0) (.slice none 0 0) W) := by rw [hW]; exact Pr.made _ _ _ _ rfl
  have hb0 : Hid (Below w.heap.size w W) := by rw [hW]; exact (Below.refl _ _).alloc (Nat.le_refl _) _
  have HWW : Hid (w.alloc (.cells #[.int .i64 0, .slice none 0 0] 76) = W) := hW.symm
  have HRM : Hid (RdM W ah caph hs) := hrm.below hb0.out
  have HR : Hid (RdI W a cap xs) := hr.below hb0.out
  have HRED := Lib.hid hred
  clear hW hrm hr hred
  go_enter Tryz.func44, Tryz.ntmps44
  go_wp2_with fail
  rw [HWW.out]
  refine (normOf_any ah a nh caph n cap hs xs _ HRED.out HRM.out hlm HR.out hl (by omega)).mono ?_
  rintro e w1 ⟨(⟨m, hv, hm, rfl⟩ | ⟨hno, rfl⟩), hb⟩
  · have HV := Lib.hid hv
    have HMM := Lib.hid hm
    have HR1 : Hid (RdI w1 a cap xs) := HR.out.below hb
    have hb1 : Hid (Below w.heap.size w w1) := hb0.out.trans (hb.mono hb0.out.size)
    have hP1 : Hid (Pr w.heap.size (.int .i64 0) (.slice none 0 0) w1) := hP.out.moved hb
    clear hv hm hb
    go_wp2_with fail
    refine (csign_any a n cap xs _ HR1.out hl hn).mono ?_
    rintro e w2 ⟨(⟨hs0, hin, g, c, rfl, hc, hg, ho⟩ | ⟨hno, rfl⟩), hb⟩
    · have hP2 := hP1.out.moved hb
      have hb2 : Hid (Below w.heap.size w w2) := hb1.out.trans (hb.mono hb1.out.size)
      have hlt : w.heap.size < w1.heap.size := hP1.out.lt
      rw [hl] at hc
      obtain ⟨WF, hWF⟩ : ∃ W, W = (w2.setCell ⟨w.heap.size, 0, none⟩ (.int .i64 m)).setCell ⟨w.heap.size, 1, none⟩ (.slice (some ⟨g, 0, none⟩) n c) := ⟨_, rfl⟩
      have hP3 : Hid (Pr w.heap.size (.int .i64 m) (.slice (some ⟨g, 0, none⟩) n c) WF) := by rw [hWF]; exact hP2.set _ _
      have HO : Hid (OwnI WF g (canonL xs)) := by rw [hWF]; exact (ho.far (a := ⟨w.heap.size, 0, none⟩) (by show g ≠ w.heap.size; omega) _).far (a := ⟨w.heap.size, 1, none⟩) (by show g ≠ w.heap.size; omega) _
      have HBF : Hid (Below w.heap.size w WF) := by rw [hWF]; exact (hb2.out.setCell (p := ⟨w.heap.size, 0, none⟩) (Nat.le_refl _) _).setCell (p := ⟨w.heap.size, 1, none⟩) (Nat.le_refl _) _
      have HWF : Hid ((w2.setCell ⟨w.heap.size, 0, none⟩ (.int .i64 m)).setCell ⟨w.heap.size, 1, none⟩ (.slice (some ⟨g, 0, none⟩) n c) = WF) := hWF.symm
      have HS0 := Lib.hid hs0
      obtain ⟨p1, p2, p3, p4, p5⟩ := hP2
      clear hb ho hs0 hin hWF
      have hvn : n = nh := by rw [← hl]; exact HV.out.1
      subst hvn
      go_wp2_with fail
      rw [HWF.out]
      have t1 := hP3.out.c0
      have t2 := hP3.out.c1
      clear p1 p2 p3 p4 p5
      refine bodyPost_ret (v := .tuple #[.agg #[.int .i64 m, .slice (some ⟨g, 0, none⟩) n c], .bool true]) (by simp [results, Tryz.results44, go_sem, t1, t2]) rfl ?_
      exact ⟨.inl ⟨m, g, c, ⟨HV.out, HMM.out, HS0.out⟩, rfl, hc, by omega, HO.out⟩, HBF.out⟩
    · have hP2 := hP1.out.moved hb
      have hb2 : Hid (Below w.heap.size w w2) := hb1.out.trans (hb.mono hb1.out.size)
      obtain ⟨WF, hWF⟩ : ∃ W, W = (w2.setCell ⟨w.heap.size, 0, none⟩ (.int .i64 m)).setCell ⟨w.heap.size, 1, none⟩ (.slice none 0 0) := ⟨_, rfl⟩
      have hP3 : Hid (Pr w.heap.size (.int .i64 m) (.slice none 0 0) WF) := by rw [hWF]; exact hP2.set _ _
      have HBF : Hid (Below w.heap.size w WF) := by rw [hWF]; exact (hb2.out.setCell (p := ⟨w.heap.size, 0, none⟩) (Nat.le_refl _) _).setCell (p := ⟨w.heap.size, 1, none⟩) (Nat.le_refl _) _
      have HWF : Hid ((w2.setCell ⟨w.heap.size, 0, none⟩ (.int .i64 m)).setCell ⟨w.heap.size, 1, none⟩ (.slice none 0 0) = WF) := hWF.symm
      have HNO : Hid (∀ m, ¬Fine nh hs xs m) := fun m' h => hno ⟨h.2.2, h.1.2⟩
      obtain ⟨p1, p2, p3, p4, p5⟩ := hP2
      clear hb hno hWF
      go_wp2_with fail
      rw [HWF.out]
      have t1 := hP3.out.c0
      have t2 := hP3.out.c1
      clear p1 p2 p3 p4 p5
      refine bodyPost_ret (v := .tuple #[.agg #[.int .i64 m, .slice none 0 0], .bool false]) (by simp [results, Tryz.results44, go_sem, t1, t2]) rfl ?_
      exact ⟨.inr ⟨HNO.out, m, false, rfl, rfl⟩, HBF.out⟩
  · have hP2 := hP.out.moved hb
    have hb2 : Hid (Below w.heap.size w w1) := hb0.out.trans (hb.mono hb0.out.size)
    obtain ⟨WF, hWF⟩ : ∃ W, W = (w1.setCell ⟨w.heap.size, 0, none⟩ (.int .i64 0)).setCell ⟨w.heap.size, 1, none⟩ (.slice none 0 0) := ⟨_, rfl⟩
    have hP3 : Hid (Pr w.heap.size (.int .i64 0) (.slice none 0 0) WF) := by rw [hWF]; exact hP2.set _ _
    have HBF : Hid (Below w.heap.size w WF) := by rw [hWF]; exact (hb2.out.setCell (p := ⟨w.heap.size, 0, none⟩) (Nat.le_refl _) _).setCell (p := ⟨w.heap.size, 1, none⟩) (Nat.le_refl _) _
    have HWF : Hid ((w1.setCell ⟨w.heap.size, 0, none⟩ (.int .i64 0)).setCell ⟨w.heap.size, 1, none⟩ (.slice none 0 0) = WF) := hWF.symm
    have HNO : Hid (∀ m, ¬Fine nh hs xs m) := fun m' h => hno m' ⟨h.1, h.2.1⟩
    obtain ⟨p1, p2, p3, p4, p5⟩ := hP2
    clear hb hno hWF
    go_wp2_with fail
    rw [HWF.out]
    have t1 := hP3.out.c0
    have t2 := hP3.out.c1
    clear p1 p2 p3 p4 p5
    refine bodyPost_ret (v := .tuple #[.agg #[.int .i64 0, .slice none 0 0], .bool false]) (by simp [results, Tryz.results44, go_sem, t1, t2]) rfl ?_
    exact ⟨.inr ⟨HNO.out, 0, false, rfl, rfl⟩, HBF.out⟩
end Go.Proofs.YtfpcfcegdjlggaaGreat
namespace Go.Proofs.YtfpcfcegdjlggaaGreat
open Go.RowKit Go.Shelf

def zI : Item := ⟨0, [], none, 0⟩
instance : Inhabited Item := ⟨zI⟩

/-- The first n items of block g. -/
structure OwnF (w : World) (g n : Nat) (f : Nat → Item) : Prop where
  c0 : ∀ i, i < n → w.cell? ⟨g, i * 2, none⟩ = some (.int .i64 (f i).norm)
  c1 : ∀ i, i < n → w.cell? ⟨g, i * 2 + 1, none⟩ = some (.slice (f i).a (f i).vec.length (f i).cap)
  fr : ∀ i, i < n * 2 → w.frozen? ⟨g, i, none⟩ = false

theorem OwnF.lt {w : World} {g n : Nat} {f : Nat → Item} (h : OwnF w g n f) (hn : 0 < n) : g < w.heap.size := World.block_lt_of_cell? w _ (h.c0 0 hn)

theorem OwnF.grown {w : World} {g n : Nat} {f : Nat → Item} (h : OwnF w g n f) (hn : 0 < n) (q : Nat) (os : Array Obj) : OwnF (Go.Sort.grow (w.drewN q) os) g n f :=
  ⟨fun i hi => cell_grown (h.lt hn) (h.c0 i hi) q os, fun i hi => cell_grown (h.lt hn) (h.c1 i hi) q os, fun i hi => by rw [Go.Sort.frozen?_grow _ _ _ (by exact h.lt hn)]; exact h.fr i hi⟩

theorem OwnF.less {w : World} {g n m : Nat} {f : Nat → Item} (h : OwnF w g n f) (hm : m ≤ n) : OwnF w g m f :=
  ⟨fun i hi => h.c0 i (by omega), fun i hi => h.c1 i (by omega), fun i hi => h.fr i (by omega)⟩

theorem OwnF.congr {w : World} {g n : Nat} {f f' : Nat → Item} (h : OwnF w g n f) (he : ∀ i, i < n → f i = f' i) : OwnF w g n f' :=
  ⟨fun i hi => by rw [← he i hi]; exact h.c0 i hi, fun i hi => by rw [← he i hi]; exact h.c1 i hi, h.fr⟩

theorem OwnF.set {w : World} {g n : Nat} {f : Nat → Item} (h : OwnF w g n f) (k : Nat) (hk : k < n) (x : Item) :
    OwnF ((w.setCell ⟨g, k * 2, none⟩ (.int .i64 x.norm)).setCell ⟨g, k * 2 + 1, none⟩ (.slice x.a x.vec.length x.cap)) g n (fun i => if i = k then x else f i) := by
  have e1 : (w.setCell ⟨g, k * 2, none⟩ (.int .i64 x.norm)).cell? ⟨g, k * 2 + 1, none⟩ = some (.slice (f k).a (f k).vec.length (f k).cap) := by
    rw [World.cell?_setCell_other _ _ _ _ (by simp)]; exact h.c1 k hk
  refine ⟨fun i hi => ?_, fun i hi => ?_, fun i hi => by simp [h.fr i hi]⟩
  · by_cases e : i = k
    · subst e
      rw [if_pos rfl, World.cell?_setCell_other _ _ _ _ (by simp)]
      exact World.cell?_setCell_same _ _ _ (h.c0 i hi)
    · rw [if_neg e, World.cell?_setCell_other _ _ _ _ (by intro h; injection h with _ h _; omega), World.cell?_setCell_other _ _ _ _ (by intro h; injection h with _ h _; omega)]
      exact h.c0 i hi
  · by_cases e : i = k
    · subst e
      rw [if_pos rfl]
      exact World.cell?_setCell_same _ _ _ e1
    · rw [if_neg e, World.cell?_setCell_other _ _ _ _ (by intro h; injection h with _ h _; omega), World.cell?_setCell_other _ _ _ _ (by intro h; injection h with _ h _; omega)]
      exact h.c1 i hi

theorem grownBy_grow {a w : World} {g : Nat} (h : a.grownBy w (some g)) (q : Nat) (os : Array Obj) : a.grownBy (Go.Sort.grow (w.drewN q) os) (some g) :=
  ⟨h.os, h.tape, h.output, by simp; have := h.size; omega, fun j hj hne => (Go.Sort.heap_grow_old _ _ (Nat.lt_of_lt_of_le hj h.size)).trans (h.block j hj hne)⟩

theorem grownBy_setCells {a : World} {g : Nat} : ∀ (vs : List Value) (o : Nat) (w : World), a.grownBy w (some g) → a.grownBy (w.setCells g o vs) (some g)
  | [], _, _, h => h
  | v :: r, o, _w, h => grownBy_setCells r (o + 1) _ (grownBy_setCell h o v)

theorem clear_run (w : World) (b o n c : Nat) (hn : 0 < n) (hc : ∀ j, j < n * 2 → (w.cell? ⟨b, o + j, none⟩).isSome = true) (hf : ∀ j, j < n * 2 → w.frozen? ⟨b, o + j, none⟩ = false) :
    ∃ vs, vs.length = n * 2 ∧ ∀ ty, (Builtin.clear_ #[72] ty #[.slice (some ⟨b, o, none⟩) n c]).run Tryz.prog w = .ok (.tuple #[]) (w.setCells b o vs) := by
  obtain ⟨vs, hvs⟩ : ∃ vs, vs = (Builtin.zeroCells (Value.agg #[.int .i64 0, .slice none 0 0]).cells n).toList := ⟨_, rfl⟩
  have hl : vs.length = n * 2 := by rw [hvs]; simp [Builtin.zeroCells, Value.cells]; try omega
  have h1 : ∀ v ∈ vs, v.oneCell' = true := by
    rw [hvs]
    intro v hv
    simp only [Builtin.zeroCells, Value.cells, Array.toList_map, List.mem_map] at hv
    obtain ⟨i, _, rfl⟩ := hv
    have h2 : i % #[Value.int .i64 0, Value.slice none 0 0].size < 2 := Nat.mod_lt _ (by decide)
    rcases (by omega : i % #[Value.int .i64 0, Value.slice none 0 0].size = 0 ∨ i % #[Value.int .i64 0, Value.slice none 0 0].size = 1) with e | e
    · rw [e]; rfl
    · rw [e]; rfl
  have hst := run_storeCells_cells (P := Tryz.prog) b o vs 0 w (by rw [hl]; simpa using hc) (by rw [hl]; simpa using hf) h1
  simp only [Nat.add_zero] at hst
  refine ⟨vs, hl, fun ty => ?_⟩
  obtain ⟨m, rfl⟩ : ∃ m, n = m + 1 := ⟨n - 1, by omega⟩
  have hz := Tryz.zeroValue76
  simp [Builtin.clear_, run_underlying Tryz.underlying72, hz, ← hvs, hst]

/-- What is kept of the first m items: those that are not equal to the one ahead of them. -/
def kept (f : Nat → Item) : Nat → List Item
  | 0 => []
  | m + 1 => if m ≠ 0 ∧ cfN (f m) (f (m - 1)) = 0 then kept f m else kept f m ++ [f m]

theorem kept_skip {f : Nat → Item} {m : Nat} (h : cfN (f (m + 1)) (f m) = 0) : kept f (m + 2) = kept f (m + 1) := by
  show (if m + 1 ≠ 0 ∧ cfN (f (m + 1)) (f (m + 1 - 1)) = 0 then _ else _) = _
  rw [if_pos ⟨by omega, h⟩]
theorem kept_take {f : Nat → Item} {m : Nat} (h : cfN (f (m + 1)) (f m) ≠ 0) : kept f (m + 2) = kept f (m + 1) ++ [f (m + 1)] := by
  show (if m + 1 ≠ 0 ∧ cfN (f (m + 1)) (f (m + 1 - 1)) = 0 then _ else _) = _
  rw [if_neg (fun h' => h h'.2)]
theorem kept_one (f : Nat → Item) : kept f 1 = [f 0] := by
  show (if 0 ≠ 0 ∧ _ then _ else _) = _
  rw [if_neg (fun h => h.1 rfl)]; rfl
theorem length_kept (f : Nat → Item) : ∀ m, (kept f m).length ≤ m
  | 0 => Nat.le_refl _
  | m + 1 => by
    have := length_kept f m
    show (if _ then _ else _ : List Item).length ≤ _
    split
    · omega
    · simp; omega

/-- The first items of the block are those of a list. -/
structure Kept (w : World) (g n : Nat) (f : Nat → Item) (m k : Nat) (es : Nat → Item) : Prop where
  own : OwnF w g n es
  len : (kept f m).length = k
  same : ∀ i, i < k → es i = (kept f m).getD i zI
  rest : ∀ i, m ≤ i + 1 → i < n → es i = f i

theorem kept_same {f : Nat → Item} (i : Nat) (hi : i < 1) : f i = (kept f 1).getD i zI := by
  obtain rfl : i = 0 := by omega
  rw [kept_one]; rfl

theorem kept_start {w : World} {g n : Nat} {f : Nat → Item} (ho : OwnF w g n f) : Kept w g n f 1 1 f :=
  ⟨ho, by rw [kept_one]; rfl, kept_same, fun _ _ _ => rfl⟩

theorem Kept.grown {w : World} {g n m k : Nat} {f es : Nat → Item} (h : Kept w g n f m k es) (hn : 0 < n) (q : Nat) (os : Array Obj) : Kept (Go.Sort.grow (w.drewN q) os) g n f m k es :=
  ⟨h.own.grown hn q os, h.len, h.same, h.rest⟩

theorem kept_get {f : Nat → Item} {m k : Nat} (hl : (kept f (m + 1)).length = k) (h : cfN (f (m + 1)) (f m) ≠ 0) (i : Nat) : (kept f (m + 2)).getD i zI = if i = k then f (m + 1) else (kept f (m + 1)).getD i zI := by
  rw [kept_take h, List.getD_eq_getElem?_getD, List.getD_eq_getElem?_getD, List.getElem?_append, hl]
  by_cases h1 : i < k
  · rw [if_pos h1, if_neg (by omega)]
  · rw [if_neg h1]
    by_cases h2 : i = k
    · subst h2; simp
    · rw [if_neg h2, List.getElem?_eq_none (by simp; omega), List.getElem?_eq_none (by omega)]

theorem Kept.more {w : World} {g n k : Nat} {f : Nat → Item} (h : Kept w g n f (k + 1) (k + 1) f) (hne : cfN (f (k + 1)) (f k) ≠ 0) : Kept w g n f (k + 2) (k + 2) f :=
  ⟨h.own, by rw [kept_take hne, List.length_append, h.len]; rfl, fun i hi => by
    rw [kept_get h.len hne]
    split
    · rename_i e; rw [e]
    · exact h.same i (by omega), fun _ _ _ => rfl⟩

theorem Kept.skip {w : World} {g n m k : Nat} {f es : Nat → Item} (h : Kept w g n f (m + 1) k es) (he : cfN (f (m + 1)) (f m) = 0) : Kept w g n f (m + 2) k es :=
  ⟨h.own, by rw [kept_skip he]; exact h.len, fun i hi => by rw [kept_skip he]; exact h.same i hi, fun i h1 h2 => h.rest i (by omega) h2⟩

theorem Kept.write {w : World} {g n m k : Nat} {f es : Nat → Item} (h : Kept w g n f (m + 1) k es) (hne : cfN (f (m + 1)) (f m) ≠ 0) (hk : k ≤ m) (hm : m + 1 < n) :
    Kept ((w.setCell ⟨g, k * 2, none⟩ (.int .i64 (f (m + 1)).norm)).setCell ⟨g, k * 2 + 1, none⟩ (.slice (f (m + 1)).a (f (m + 1)).vec.length (f (m + 1)).cap)) g n f (m + 2) (k + 1) (fun i => if i = k then f (m + 1) else es i) :=
  ⟨h.own.set k (by omega) (f (m + 1)), by rw [kept_take hne, List.length_append, h.len]; rfl, fun i hi => by
    rw [kept_get h.len hne]
    show (if _ then _ else _) = _
    by_cases e : i = k
    · rw [if_pos e, if_pos e]
    · rw [if_neg e, if_neg e]; exact h.same i (by omega), fun i h1 h2 => by
    show (if _ then _ else _) = _
    rw [if_neg (by omega)]
    exact h.rest i (by omega) h2⟩

theorem Kept.take {w : World} {g n m k : Nat} {f es : Nat → Item} (h : Kept w g n f m k es) (hk : k ≤ n) : OwnF w g k (fun i => (kept f m).getD i zI) :=
  (h.own.less hk).congr h.same

def GivesCompact (w : World) (g n cap : Nat) (f : Nat → Item) (e : Ending) (w' : World) : Prop :=
  e = .returned (.slice (some ⟨g, 0, none⟩) (kept f n).length cap) ∧ OwnF w' g (kept f n).length (fun i => (kept f n).getD i zI) ∧ w.grownBy w' (some g)

set_option maxRecDepth 100000 in
set_option maxHeartbeats 4000000 in
theorem compact_any (bx bo g n cap : Nat) (f : Nat → Item) (w : World) (hn : 1 ≤ n) (hcap : n ≤ cap) (hn2 : cap ≤ 9223372036854775807) (ho : OwnF w g n f)
    (hK : ∀ wr, w.grownBy wr (some g) → ∀ i, i < n → OkN wr (f i)) (hO : ∀ wr, w.grownBy wr (some g) → OrdBox wr bx bo) :
    Calls Tryz.prog 88 #[.slice (some ⟨g, 0, none⟩) n cap, .func (.func 89) #[] #[.pointer (some ⟨bx, 0, none⟩)]] w (GivesCompact w g n cap f) := by
  have hmix := mixed
  by_cases h1 : n = 1
  · subst h1
    have hend : GivesCompact w g 1 cap f (.returned (.slice (some ⟨g, 0, none⟩) 1 cap)) w := by
      unfold GivesCompact
      rw [kept_one]
      refine ⟨rfl, ho.congr (fun i hi => ?_), grownBy_refl _ _⟩
      have := kept_same (f := f) i hi
      rwa [kept_one] at this
    have HE := Lib.hid hend
    clear ho hK hO hend
    go_enter Tryz.func88, Tryz.ntmps88
    go_wp2_with fail
    go_ret
    exact HE.out
  · have d1 : decide ((n : Int) < 2) = false := decide_eq_false (by omega)
    have HK := Lib.hid hK
    have HO := Lib.hid hO
    have hst : Hid (Kept w g n f 1 1 f) := kept_start ho
    clear ho hK hO
    go_enter Tryz.func88, Tryz.ntmps88
    go_wp2_with fail
    go_loopw [5] (fun kk wr => ∃ k : Nat, k < n ∧ kk = .int .i64 ((k + 1 : Nat) : Int) ∧ Hid (Kept wr g n f (k + 1) (k + 1) f) ∧ w.grownBy wr (some g)) (fun kk _ => n - (intOf kk).toNat)
    case atStart => exact ⟨0, by omega, rfl, hst, grownBy_refl _ _⟩
    case round =>
      obtain ⟨k, hk, rfl, hR, hgr⟩ := hrel
      clear hst
      by_cases hkn : k + 1 < n
      · have hlt := hR.out.own.lt (by omega)
        have c1 := fun q os => cell_grown (n := q) (os := os) hlt (hR.out.own.c0 (k + 1) hkn)
        have c2 := fun q os => cell_grown (n := q) (os := os) hlt (hR.out.own.c1 (k + 1) hkn)
        have c3 := fun q os => cell_grown (n := q) (os := os) hlt (hR.out.own.c0 k (by omega))
        have c4 := fun q os => cell_grown (n := q) (os := os) hlt (hR.out.own.c1 k (by omega))
        have hE := fun q os => equalNormed_any bx bo (f (k + 1)) (f k) (Go.Sort.grow (wr.drewN q) os) (HK.out _ (grownBy_grow hgr q os) (k + 1) hkn) (HK.out _ (grownBy_grow hgr q os) k (by omega)) (HO.out _ (grownBy_grow hgr q os))
        have HE := Lib.hid hE
        have hb0 : (0 : Int) ≤ (k : Int) + 1 := by omega
        have hb1 : (k : Int) + 1 < (n : Int) := by omega
        have hb2 : (k : Int) < (n : Int) := by omega
        have hb3 : ((k : Int) + 1).toNat = k + 1 := by omega
        have hb4 : IntKind.i64.wrap (k : Int) = (k : Int) := by rw [IntKind.wrap_i64]; omega
        clear hE hlt
        go_wp2_with fail
        go_quiet_grown (first | (go_at_call 89; exact Calls.grown_of (HE.out _ _)))
        have hgr2 := grownBy_grow hgr nq osq
        have hR2 : Hid (Kept (Go.Sort.grow (wr.drewN nq) osq) g n f (k + 1) (k + 1) f) := hR.out.grown (by omega) nq osq
        obtain ⟨V, hV⟩ : ∃ V, V = Go.Sort.grow (wr.drewN nq) osq := ⟨_, rfl⟩
        have HV : Hid (Go.Sort.grow (wr.drewN nq) osq = V) := hV.symm
        rw [← hV] at hgr2 hR2
        clear c1 c2 c3 c4 HE hV hb0 hb1 hb2 hb3 hb4 hR
        show Exit.then _ _ _ _ (Go.Sort.grow (wr.drewN nq) osq)
        rw [HV.out]
        obtain ⟨bb, hbb⟩ : ∃ b, b = (cfN (f (k + 1)) (f k) == 0) := ⟨_, rfl⟩
        rw [← hbb]
        cases bb with
        | true =>
          have heq : cfN (f (k + 1)) (f k) = 0 := by simpa using hbb.symm
          have hsk : Hid (Kept V g n f (k + 2) (k + 1) f) := hR2.out.skip heq
          clear hR2 heq hgr hbb
          go_wp2_with fail
          generalize hd : n - (k + 1) = d
          generalize hdc : cap - (k + 1) = dc
          have hnd1 : n ≤ k + 1 + d := by omega
          have hnd2 : k + 1 + d ≤ n := by omega
          have HDC : Hid (cap - (k + 1) = dc) := hdc
          clear hd hdc
          go_loopw [5, 7] (fun kk jj wq => ∃ (j q : Nat) (es : Nat → Item), j + 1 ≤ d ∧ q ≤ k + 1 + j ∧ kk = .int .i64 (q : Int) ∧ jj = .int .i64 ((j + 1 : Nat) : Int) ∧ Hid (Kept wq g n f (k + 1 + j + 1) q es) ∧ w.grownBy wq (some g)) (fun _ jj _ => d + 1 - (intOf jj).toNat)
          case atStart => exact ⟨0, k + 1, f, by omega, by omega, by go_num, rfl, hsk, hgr2⟩
          case round =>
            obtain ⟨j, q, es, hjd, hqj, rfl, rfl, hR, hgr⟩ := hrel
            clear hsk hgr2 HV
            by_cases hj : j + 1 < d
            · have hlt := hR.out.own.lt (by omega)
              have r1 := hR.out.rest (k + 1 + j + 1) (by omega) (by omega)
              have r0 := hR.out.rest (k + 1 + j) (by omega) (by omega)
              have c1 := fun q os => cell_grown (n := q) (os := os) hlt (hR.out.own.c0 (k + 1 + j + 1) (by omega))
              have c2 := fun q os => cell_grown (n := q) (os := os) hlt (hR.out.own.c1 (k + 1 + j + 1) (by omega))
              have c3 := fun q os => cell_grown (n := q) (os := os) hlt (hR.out.own.c0 (k + 1 + j) (by omega))
              have c4 := fun q os => cell_grown (n := q) (os := os) hlt (hR.out.own.c1 (k + 1 + j) (by omega))
              rw [r1] at c1 c2
              rw [r0] at c3 c4
              rw [show (k + 1 + j + 1) * 2 = (k + 1) * 2 + (j + 1) * 2 from by omega] at c1 c2
              rw [show (k + 1 + j) * 2 = (k + 1) * 2 + j * 2 from by omega] at c3 c4
              obtain ⟨x1, hx1⟩ : ∃ x, x = f (k + 1 + j + 1) := ⟨_, rfl⟩
              obtain ⟨x0, hx0⟩ : ∃ x, x = f (k + 1 + j) := ⟨_, rfl⟩
              have hE := fun q os => equalNormed_any bx bo x1 x0 (Go.Sort.grow (wr.drewN q) os) (by rw [hx1]; exact HK.out _ (grownBy_grow hgr q os) (k + 1 + j + 1) (by omega)) (by rw [hx0]; exact HK.out _ (grownBy_grow hgr q os) (k + 1 + j) (by omega)) (HO.out _ (grownBy_grow hgr q os))
              have HE := Lib.hid hE
              rw [← hx1] at c1 c2
              rw [← hx0] at c3 c4
              have hb0 : (0 : Int) ≤ (j : Int) + 1 := by omega
              have hb1 : (j : Int) + 1 < (d : Int) := by omega
              have hb2 : (j : Int) < (d : Int) := by omega
              have hb3 : ((j : Int) + 1).toNat = j + 1 := by omega
              have hb4 : IntKind.i64.wrap (j : Int) = (j : Int) := by rw [IntKind.wrap_i64]; omega
              have HX1 := Lib.hid hx1
              have HX0 := Lib.hid hx0
              clear hE hlt r0 r1 hx1 hx0
              go_wp2_with fail
              go_quiet_grown (first | (go_at_call 89; exact Calls.grown_of (HE.out _ _)))
              have hgr3 := grownBy_grow hgr nq osq
              have hR3 : Hid (Kept (Go.Sort.grow (wr.drewN nq) osq) g n f (k + 1 + j + 1) q es) := hR.out.grown (by omega) nq osq
              obtain ⟨V2, hV2⟩ : ∃ V, V = Go.Sort.grow (wr.drewN nq) osq := ⟨_, rfl⟩
              have HV2 : Hid (Go.Sort.grow (wr.drewN nq) osq = V2) := hV2.symm
              have d1' := c1 nq osq
              have d2' := c2 nq osq
              rw [← hV2] at hgr3 hR3 d1' d2'
              clear c1 c2 c3 c4 HE hV2 hR hgr
              show Exit.then _ _ _ _ (Go.Sort.grow (wr.drewN nq) osq)
              rw [HV2.out]
              obtain ⟨bb, hbb⟩ : ∃ b, b = (cfN x1 x0 == 0) := ⟨_, rfl⟩
              rw [← hbb]
              cases bb with
              | true =>
                have heq : cfN x1 x0 = 0 := by simpa using hbb.symm
                have hsk : Hid (Kept V2 g n f (k + 1 + (j + 1) + 1) q es) := hR3.out.skip (m := k + 1 + j) (by rw [← HX1.out, ← HX0.out]; exact heq)
                clear hR3 heq hbb
                go_wp2_with fail
                go_roundw
                case rel => exact ⟨j + 1, q, es, by omega, by omega, by go_num, by go_num, hsk, hgr3⟩
                case measure => simp [intOf]; omega
              | false =>
                have heq : ¬cfN x1 x0 = 0 := by simpa using hbb.symm
                have hwr : Hid (Kept ((V2.setCell ⟨g, q * 2, none⟩ (.int .i64 x1.norm)).setCell ⟨g, q * 2 + 1, none⟩ (.slice x1.a x1.vec.length x1.cap)) g n f (k + 1 + (j + 1) + 1) (q + 1) (fun i => if i = q then x1 else es i)) := by
                  have h := hR3.out.write (m := k + 1 + j) (by rw [← HX1.out, ← HX0.out]; exact heq) hqj (by omega)
                  rw [← HX1.out] at h
                  exact h
                have hqn : (q : Int) < (n : Int) := by omega
                have f1 := hR3.out.own.fr (q * 2) (by omega)
                have f2 := hR3.out.own.fr (q * 2 + 1) (by omega)
                have g1 := hR3.out.own.c0 q (by omega)
                have g2 := hR3.out.own.c1 q (by omega)
                clear hR3 heq hbb
                go_wp2_with fail
                go_roundw
                case rel => exact ⟨j + 1, q + 1, _, by omega, by omega, by go_num, by go_num, hwr, grownBy_setCell (grownBy_setCell hgr3 _ _) _ _⟩
                case measure => simp [intOf]; omega
            · obtain rfl : j + 1 = d := by omega
              have hqn : q < n := by omega
              have hRk : Hid (Kept wr g n f n q es) := by
                have h := hR.out
                rw [show k + 1 + j + 1 = n from by omega] at h
                exact h
              obtain ⟨vs, hvl, hcl⟩ := clear_run wr g (q * 2) (n - q) (cap - q) (by omega) (fun i hi => by
                  obtain ⟨t, ht⟩ : ∃ t, i = t * 2 ∨ i = t * 2 + 1 := ⟨i / 2, by omega⟩
                  rcases ht with rfl | rfl
                  · rw [show q * 2 + t * 2 = (q + t) * 2 from by omega, hRk.out.own.c0 (q + t) (by omega)]; rfl
                  · rw [show q * 2 + (t * 2 + 1) = (q + t) * 2 + 1 from by omega, hRk.out.own.c1 (q + t) (by omega)]; rfl) (fun i hi => hRk.out.own.fr (q * 2 + i) (by omega))
              have hlen := hRk.out.len
              have hown : OwnF (wr.setCells g (q * 2) vs) g q (fun i => (kept f n).getD i zI) := by
                have h := hRk.out.take (Nat.le_of_lt hqn)
                refine ⟨fun i hi => ?_, fun i hi => ?_, fun i hi => ?_⟩
                · rw [World.cell?_setCells_out _ _ _ _ _ (fun _ _ => .inl (by show i * 2 < q * 2; omega))]; exact h.c0 i hi
                · rw [World.cell?_setCells_out _ _ _ _ _ (fun _ _ => .inl (by show i * 2 + 1 < q * 2; omega))]; exact h.c1 i hi
                · rw [World.frozen?_setCells]; exact h.fr i hi
              have hend : Hid (GivesCompact w g n cap f (.returned (.slice (some ⟨g, 0, none⟩) q cap)) (wr.setCells g (q * 2) vs)) := by
                unfold Hid GivesCompact
                rw [hlen]
                exact ⟨rfl, hown, grownBy_setCells vs _ _ hgr⟩
              have hqi : (q : Int) ≤ (n : Int) := by omega
              have hqc : (q : Int) ≤ (cap : Int) := by omega
              clear hR hRk hown hlen
              go_wp2_with fail
              go_ret
              exact hend.out
        | false =>
          have heq : ¬cfN (f (k + 1)) (f k) = 0 := by simpa using hbb.symm
          have hmo : Hid (Kept V g n f (k + 2) (k + 2) f) := hR2.out.more heq
          clear hR2 heq hgr hbb
          go_wp2_with fail
          go_roundw
          case rel => exact ⟨k + 1, by omega, by go_num, hmo, hgr2⟩
          case measure => simp [intOf]; omega
      · obtain rfl : k + 1 = n := by omega
        have hlen := hR.out.len
        have hend : Hid (GivesCompact w g (k + 1) cap f (.returned (.slice (some ⟨g, 0, none⟩) (k + 1) cap)) wr) := by
          have ht := hR.out.take (Nat.le_refl _)
          unfold Hid GivesCompact
          rw [hlen]
          exact ⟨rfl, ht, hgr⟩
        go_wp2_with fail
        go_ret
        exact hend.out
end Go.Proofs.YtfpcfcegdjlggaaGreat
namespace Go.Proofs.YtfpcfcegdjlggaaGreat
open Go.RowKit Go.Shelf Go.Sort

theorem cmpL_self : ∀ xs : List Int, cmpL xs xs = 0
  | [] => rfl
  | x :: r => by
    have h : Lib.compareInt x x = 0 := by rcases compareInt_cases x x with h | h | h <;> omega
    show (if Lib.compareInt x x = 0 then cmpL r r else _) = 0
    rw [if_pos h, cmpL_self r]

theorem cmpL_neg : ∀ xs ys : List Int, cmpL ys xs = -cmpL xs ys
  | [], [] => rfl
  | [], _ :: _ => rfl
  | _ :: _, [] => rfl
  | x :: r, y :: s => by
    have ih := cmpL_neg r s
    show (if Lib.compareInt y x = 0 then cmpL s r else Lib.compareInt y x) = -(if Lib.compareInt x y = 0 then cmpL r s else Lib.compareInt x y)
    rcases compareInt_cases x y with ⟨h1, h2⟩ | ⟨h1, h2⟩ | ⟨h1, h2⟩ <;> rcases compareInt_cases y x with ⟨h3, h4⟩ | ⟨h3, h4⟩ | ⟨h3, h4⟩ <;> first | omega | (rw [h2, h4]; simp; try exact ih)

theorem cmpL_eq : ∀ {xs ys : List Int}, cmpL xs ys = 0 → xs = ys
  | [], [], _ => rfl
  | [], _ :: _, h => by cases h
  | _ :: _, [], h => by cases h
  | x :: r, y :: s, h => by
    have h' : (if Lib.compareInt x y = 0 then cmpL r s else Lib.compareInt x y) = 0 := h
    rcases compareInt_cases x y with ⟨h1, h2⟩ | ⟨h1, h2⟩ | ⟨h1, h2⟩
    · rw [h2] at h'; simp at h'
    · rw [h2, if_pos rfl] at h'; rw [h1, cmpL_eq h']
    · rw [h2] at h'; simp at h'

theorem cmpL_trans : ∀ {xs ys zs : List Int}, cmpL xs ys < 0 → cmpL ys zs < 0 → cmpL xs zs < 0
  | [], [], _, h, _ => by exact absurd h (by decide)
  | [], _ :: _, [], _, h => absurd h (show ¬((1 : Int) < 0) by decide)
  | [], _ :: _, _ :: _, _, _ => (show (-1 : Int) < 0 by decide)
  | _ :: _, [], _, h, _ => absurd h (show ¬((1 : Int) < 0) by decide)
  | _ :: _, _ :: _, [], _, h => absurd h (show ¬((1 : Int) < 0) by decide)
  | x :: r, y :: s, z :: t, h1, h2 => by
    have h1' : (if Lib.compareInt x y = 0 then cmpL r s else Lib.compareInt x y) < 0 := h1
    have h2' : (if Lib.compareInt y z = 0 then cmpL s t else Lib.compareInt y z) < 0 := h2
    show (if Lib.compareInt x z = 0 then cmpL r t else Lib.compareInt x z) < 0
    rcases compareInt_cases x y with ⟨a1, a2⟩ | ⟨a1, a2⟩ | ⟨a1, a2⟩ <;> rw [a2] at h1' <;> rcases compareInt_cases y z with ⟨b1, b2⟩ | ⟨b1, b2⟩ | ⟨b1, b2⟩ <;> rw [b2] at h2' <;> simp at h1' h2' <;>
      rcases compareInt_cases x z with ⟨c1, c2⟩ | ⟨c1, c2⟩ | ⟨c1, c2⟩ <;> rw [c2] <;> first | omega | (simp; done) | (simp; exact cmpL_trans h1' h2')

theorem cfN_self (x : Item) : cfN x x = 0 := by
  unfold cfN
  rw [if_pos (by rcases compareInt_cases x.norm x.norm with h | h | h <;> omega), cmpL_self]
theorem cfN_neg (x y : Item) : cfN y x = -cfN x y := by
  have ih := cmpL_neg x.vec y.vec
  unfold cfN
  rcases compareInt_cases x.norm y.norm with ⟨h1, h2⟩ | ⟨h1, h2⟩ | ⟨h1, h2⟩ <;> rcases compareInt_cases y.norm x.norm with ⟨h3, h4⟩ | ⟨h3, h4⟩ | ⟨h3, h4⟩ <;> first | omega | (rw [h2, h4]; simp; try exact ih)
theorem cfN_eq {x y : Item} (h : cfN x y = 0) : x.norm = y.norm ∧ x.vec = y.vec := by
  unfold cfN at h
  rcases compareInt_cases x.norm y.norm with ⟨h1, h2⟩ | ⟨h1, h2⟩ | ⟨h1, h2⟩
  · rw [h2] at h; simp at h
  · rw [h2, if_pos rfl] at h; exact ⟨h1, cmpL_eq h⟩
  · rw [h2] at h; simp at h
theorem cfN_trans {x y z : Item} (h1 : cfN x y < 0) (h2 : cfN y z < 0) : cfN x z < 0 := by
  unfold cfN at *
  rcases compareInt_cases x.norm y.norm with ⟨a1, a2⟩ | ⟨a1, a2⟩ | ⟨a1, a2⟩ <;> rw [a2] at h1 <;> rcases compareInt_cases y.norm z.norm with ⟨b1, b2⟩ | ⟨b1, b2⟩ | ⟨b1, b2⟩ <;> rw [b2] at h2 <;> simp at h1 h2 <;>
    rcases compareInt_cases x.norm z.norm with ⟨c1, c2⟩ | ⟨c1, c2⟩ | ⟨c1, c2⟩ <;> rw [c2] <;> first | omega | (simp; done) | (simp; exact cmpL_trans h1 h2)
theorem cfN_congr {x y z : Item} (h : cfN x y = 0) : cfN x z = cfN y z ∧ cfN z x = cfN z y := by
  obtain ⟨h1, h2⟩ := cfN_eq h
  unfold cfN
  rw [h1, h2]
  exact ⟨rfl, rfl⟩
theorem cfN_ntrans {x y z : Item} (h1 : ¬cfN x y < 0) (h2 : ¬cfN y z < 0) : ¬cfN x z < 0 := by
  intro h
  by_cases e1 : cfN x y = 0
  · rw [(cfN_congr e1).1] at h; exact h2 h
  · by_cases e2 : cfN y z = 0
    · rw [← (cfN_congr e2).2] at h; exact h1 h
    · have n1 := cfN_neg x y
      have n2 := cfN_neg y z
      have n3 := cfN_neg x z
      have := cfN_trans (x := z) (y := y) (z := x) (by omega) (by omega)
      omega

/-- An item that the sort of block g of w does not touch. -/
def FarN (w : World) (g : Nat) (x : Item) : Prop := OkN w x ∧ (x.vec ≠ [] → ∀ b o, x.a = some ⟨b, o, none⟩ → b ≠ g)
structure It (w : World) (g : Nat) where
  v : Item
  far : FarN w g v
instance (w : World) (g : Nat) : Inhabited (It w g) := ⟨⟨zI, ⟨RdI.nil _ _ _, by decide⟩, fun h => absurd rfl h⟩⟩
def encA (w : World) (g : Nat) (x : It w g) : List Value := encN x.1
def cfA (w : World) (g : Nat) (x y : It w g) : Int := cfN x.1 y.1

theorem swoA (w : World) (g : Nat) : SWO (ltOf (cfA w g)) where
  irrefl x := by unfold ltOf cfA; rw [cfN_self]; rfl
  trans x y z h1 h2 := by
    unfold ltOf cfA at *
    rw [decide_eq_true_iff] at *
    exact cfN_trans h1 h2
  ntrans x y z h1 h2 := by
    unfold ltOf cfA at *
    rw [decide_eq_false_iff_not] at *
    exact cfN_ntrans h1 h2

theorem sortWorld_cell (w : World) (g m : Nat) (dk : Array (It w g)) (os : Array Obj) {a : Addr} {v : Value} (hne : a.block ≠ g) (h : w.cell? a = some v) : (sortWorldK (encA w g) 2 w g 0 m dk os).cell? a = some v := by
  have hlt : a.block < w.heap.size := World.block_lt_of_cell? w _ h
  unfold sortWorldK
  rw [cell?_grow _ _ _ (by simpa [putRowK, putRow, mapBlock, Sort.ahead] using hlt), cell?_putRowK_other _ _ _ _ _ _ _ hne]
  exact h

theorem FarN.ok {w : World} {g : Nat} {x : Item} (h : FarN w g x) (m : Nat) (dk : Array (It w g)) (os : Array Obj) : OkN (sortWorldK (encA w g) 2 w g 0 m dk os) x := by
  refine ⟨⟨h.1.1.fits, h.1.1.lim, fun i hi => ?_⟩, h.1.2⟩
  obtain ⟨b, o, e, hc⟩ := h.1.1.cells i hi
  exact ⟨b, o, e, sortWorld_cell w g m dk os (h.2 (fun h0 => by rw [h0] at hi; simp at hi) b o e) hc⟩

theorem cmpLaysA (w : World) (g size : Nat) : CmpLays Tryz.prog 43 #[] (encA w g) 2 (cfA w g) g 0 size w :=
  fun m os dk _ x y => compareNormed_any x.1 y.1 _ (x.2.ok m dk os) (y.2.ok m dk os)

/-- The items of block g as an array of those that the sort speaks of. -/
def arrA (w : World) (g n : Nat) (f : Nat → Item) (h : ∀ i, i < n → FarN w g (f i)) : Array (It w g) := Array.ofFn (n := n) fun i => (⟨f i.1, h i.1 i.2⟩ : It w g)

theorem size_arrA (w : World) (g n : Nat) (f : Nat → Item) (h : ∀ i, i < n → FarN w g (f i)) : (arrA w g n f h).size = n := by unfold arrA; exact Array.size_ofFn
theorem get_arrA (w : World) (g n : Nat) (f : Nat → Item) (h : ∀ i, i < n → FarN w g (f i)) (i : Nat) (hi : i < n) : ((arrA w g n f h)[i]!).1 = f i := by
  rw [getElem!_pos _ i (by rw [size_arrA]; exact hi)]
  unfold arrA
  rw [Array.getElem_ofFn]

theorem extract_all {α : Type} (a : Array α) {n : Nat} (h : a.size = n) : (a.extract 0 n).toList = a.toList := by subst h; simp

theorem holdsA {w : World} {g n : Nat} {f : Nat → Item} (h : ∀ i, i < n → FarN w g (f i)) (ho : OwnF w g n f) : HoldsK (encA w g) 2 w g 0 (arrA w g n f h) := by
  intro t ht
  rw [size_flatK, size_arrA] at ht
  have hg : (arrA w g n f h)[t / 2]!.1 = f (t / 2) := get_arrA w g n f h (t / 2) (by omega)
  rw [get_flatK _ _ _ t (by rw [size_arrA]; exact ht)]
  unfold encA encN
  rw [hg, Nat.zero_add]
  refine ⟨?_, ho.fr t ht⟩
  rcases (by omega : t = t / 2 * 2 ∧ t % 2 = 0 ∨ t = t / 2 * 2 + 1 ∧ t % 2 = 1) with ⟨e1, e2⟩ | ⟨e1, e2⟩
  · rw [e2]
    conv => lhs; rw [e1]
    exact ho.c0 (t / 2) (by omega)
  · rw [e2]
    conv => lhs; rw [e1]
    exact ho.c1 (t / 2) (by omega)

theorem ownA {w : World} {g n m : Nat} {f : Nat → Item} (h : ∀ i, i < n → FarN w g (f i)) (ho : OwnF w g n f) (hlt : g < w.heap.size) (d : Array (It w g)) (hd : d.size = n) (os : Array Obj) :
    OwnF (sortWorldK (encA w g) 2 w g 0 m d os) g n (fun i => (d[i]!).1) := by
  have hH := holdsK_putRowK (encA w g) 2 (Sort.ahead w m) g 0 (arrA w g n f h) d (holdsK_ahead (encA w g) 2 w m g 0 _ (holdsA h ho)) (by rw [hd, size_arrA])
  have hH2 := holdsK_grow (encA w g) 2 _ os g 0 d (by simpa [putRowK, putRow, mapBlock, Sort.ahead] using hlt) hH
  have key : ∀ i c, i < n → c < 2 → (sortWorldK (encA w g) 2 w g 0 m d os).cell? ⟨g, 0 + i * 2 + c, none⟩ = some (encA w g d[i]!)[c]! ∧ (sortWorldK (encA w g) 2 w g 0 m d os).frozen? ⟨g, 0 + i * 2 + c, none⟩ = false := fun i c hi hc => HoldsK.cell hH2 (by rw [hd]; exact hi) hc
  refine ⟨fun i hi => ?_, fun i hi => ?_, fun i hi => ?_⟩
  · have := (key i 0 hi (by omega)).1
    rw [Nat.zero_add, Nat.add_zero] at this
    exact this
  · have := (key i 1 hi (by omega)).1
    rw [Nat.zero_add] at this
    exact this
  · have := (key (i / 2) (i % 2) (by omega) (by omega)).2
    rw [Nat.zero_add, show i / 2 * 2 + i % 2 = i from by omega] at this
    exact this

theorem sortWorld_grown (w : World) (g m : Nat) (d : Array (It w g)) (os : Array Obj) : w.grownBy (sortWorldK (encA w g) 2 w g 0 m d os) (some g) := by
  refine ⟨rfl, rfl, rfl, by simp [sortWorldK, putRowK, putRow, mapBlock, Sort.ahead], fun j hj hne => ?_⟩
  unfold sortWorldK
  rw [heap_grow_old _ _ (by simpa [putRowK, putRow, mapBlock, Sort.ahead] using hj)]
  simp only [putRowK, putRow, mapBlock, Sort.ahead, Array.getElem?_modify]
  rw [if_neg (fun e => hne (by rw [e]))]

/-- What SortFunc gives. -/
def GivesSorted (w : World) (g n : Nat) (f : Nat → Item) (e : Ending) (w' : World) : Prop :=
  e = .returned (.tuple #[]) ∧ ∃ f' : Nat → Item, (∀ i, i < n → ∃ j, j < n ∧ f' i = f j) ∧ (∀ j, j < n → ∃ i, i < n ∧ f' i = f j) ∧ (∀ i j, i < j → j < n → ¬cfN (f' j) (f' i) < 0) ∧ OwnF w' g n f' ∧ w.grownBy w' (some g)

theorem sort_any (g n cap : Nat) (f : Nat → Item) (w : World) (hn : 1 ≤ n) (hn2 : n ≤ 4611686018427387903) (h : ∀ i, i < n → FarN w g (f i)) (ho : OwnF w g n f) :
    Calls Tryz.prog 87 #[.slice (some ⟨g, 0, none⟩) n cap, .func (.func 43) #[] #[]] w (GivesSorted w g n f) := by
  have eg : ∀ args w, (callFunc 43 args).run Tryz.prog w = .ok (.enter 43 args) w := enters_of Tryz.func43 (by kernel_rfl) rfl
  have hlt := ho.lt hn
  have hcon := AnyQ.slices_SortFunc Tryz.sortNormed 2 Tryz.isAgg76 Tryz.sizeOf76 (encA w g) (fun _ => rfl) (fun x v hv => by
    simp only [encA, encN, List.mem_cons, List.not_mem_nil, or_false] at hv
    rcases hv with rfl | rfl <;> rfl) (cfA w g) (swoA w g) 43 #[] g 0 cap (arrA w g n f h) w eg (cmpLaysA w g _) (holdsA h ho) hlt (by rw [size_arrA]; omega)
  rw [size_arrA] at hcon
  change Calls Tryz.prog 87 _ _ _ at hcon
  refine hcon.mono ?_
  rintro e w' ⟨rfl, d', m, os, hp, hs, rfl⟩
  have hd : d'.size = n := by rw [hp.1, size_arrA]
  have e1 := extract_all d' hd
  have e2 := extract_all (arrA w g n f h) (size_arrA w g n f h)
  have hperm : d'.toList.Perm (arrA w g n f h).toList := by
    have := hp.2.2
    rw [e1, e2] at this
    exact this
  refine ⟨rfl, fun i => (d'[i]!).1, fun i hi => ?_, fun j hj => ?_, fun i j hij hj => ?_, ownA h ho hlt d' hd os, sortWorld_grown w g m d' os⟩
  · have hmem : d'[i]! ∈ d'.toList := by
      rw [getElem!_pos d' i (by omega)]
      exact Array.getElem_mem_toList _
    have := hperm.mem_iff.1 hmem
    obtain ⟨j, hj, e⟩ := List.getElem_of_mem this
    have hj' : j < n := by rw [Array.length_toList, size_arrA] at hj; exact hj
    refine ⟨j, hj', ?_⟩
    have hg := get_arrA w g n f h j hj'
    rw [getElem!_pos _ j (by rw [size_arrA]; exact hj')] at hg
    show (d'[i]!).1 = f j
    rw [← hg, ← e, Array.getElem_toList]
  · have hmem : (arrA w g n f h)[j]! ∈ (arrA w g n f h).toList := by
      rw [getElem!_pos _ j (by rw [size_arrA]; exact hj)]
      exact Array.getElem_mem_toList _
    have := hperm.mem_iff.2 hmem
    obtain ⟨i, hi, e⟩ := List.getElem_of_mem this
    have hi' : i < d'.size := by rw [Array.length_toList] at hi; exact hi
    refine ⟨i, by omega, ?_⟩
    show (d'[i]!).1 = f j
    rw [← get_arrA w g n f h j hj, ← e, getElem!_pos d' i hi', Array.getElem_toList]
  · have := hs i j (Nat.zero_le _) hij hj
    unfold ltOf cfA at this
    rw [decide_eq_false_iff_not] at this
    exact this
end Go.Proofs.YtfpcfcegdjlggaaGreat
