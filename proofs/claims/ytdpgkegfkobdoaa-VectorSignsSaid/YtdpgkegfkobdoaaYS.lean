/-
  The contracts of the reference's Compare and Same.
-/
import Derived.Test.YtdpgkegfkobdoaaYL
namespace Go.Proofs.Ytdpgkegfkobdoaa
open Go.RowKit Go.Shelf

theorem cmpL_self0 : ∀ xs : List Int, cmpL xs xs = 0
  | [] => rfl
  | x :: r => by
    have h : Lib.compareInt x x = 0 := by rcases compareInt_cases x x with h | h | h <;> omega
    show (if Lib.compareInt x x = 0 then cmpL r r else _) = 0
    rw [if_pos h, cmpL_self0 r]

theorem cmpL_eq0 : ∀ {xs ys : List Int}, cmpL xs ys = 0 → xs = ys
  | [], [], _ => rfl
  | [], _ :: _, h => by cases h
  | _ :: _, [], h => by cases h
  | x :: r, y :: s, h => by
    have h' : (if Lib.compareInt x y = 0 then cmpL r s else Lib.compareInt x y) = 0 := h
    rcases compareInt_cases x y with ⟨h1, h2⟩ | ⟨h1, h2⟩ | ⟨h1, h2⟩
    · rw [h2] at h'; simp at h'
    · rw [h2, if_pos rfl] at h'; rw [h1, cmpL_eq0 h']
    · rw [h2] at h'; simp at h'

/-- The order of two lists; nothing but draws has happened. -/
def GivesCmp (w : World) (c : Int) (e : Ending) (w' : World) : Prop := e = .returned (.int .i64 c) ∧ ∃ q, w.drewN q = w'

theorem drew3 (w : World) (q a b : Nat) : ∃ k, w.drewN k = ((w.drewN q).drewN a).drewN b := ⟨q + a + b, by rw [World.drewN_drewN, World.drewN_drewN, Nat.add_assoc]⟩

set_option maxRecDepth 100000 in
set_option maxHeartbeats 2000000 in
theorem rcompare_any (a a2 : Option Addr) (n cap m cap2 : Nat) (xs ys : List Int) (w : World) (hr : RdI w a cap xs) (hl : xs.length = n) (hr2 : RdI w a2 cap2 ys) (hl2 : ys.length = m) (hn : n ≤ 100000000000000) (hm : m ≤ 100000000000000) :
    Calls Try.prog 7 #[.slice a n cap, .slice a2 m cap2] w (GivesCmp w (cmpL xs ys)) := by
  have hc := hr.cells
  have hc2 := hr2.cells
  have HC := Lib.hid hc
  have HC2 := Lib.hid hc2
  have HL := Lib.hid hl
  have HL2 := Lib.hid hl2
  clear hr hr2 hl hl2 hc hc2
  go_enter Try.func7, Try.ntmps7
  go_wp2_with fail
  go_loopw [5] (fun ii wr => ∃ i : Nat, i ≤ n ∧ i ≤ m ∧ ii = .int .i64 (i : Int) ∧ Hid (cmpL xs ys = cmpL (xs.drop i) (ys.drop i)) ∧ ∃ q, wr = w.drewN q) (fun ii _ => n - (intOf ii).toNat)
  case atStart => exact ⟨0, by omega, by omega, rfl, rfl, 0, rfl⟩
  case round =>
    obtain ⟨i, hin, him', rfl, hall, q, rfl⟩ := hrel
    by_cases hi : i < n
    · have e1 : decide ((i : Int) < (n : Int)) = true := decide_eq_true (by omega)
      by_cases him : i < m
      · have e2 : decide ((i : Int) < (m : Int)) = true := decide_eq_true (by omega)
        obtain ⟨b, o, rfl, hcell⟩ := HC.out i (by rw [HL.out]; exact hi)
        obtain ⟨x, hx⟩ : ∃ x, x = xs.getD i 0 := ⟨_, rfl⟩
        rw [← hx] at hcell
        obtain ⟨b2, o2, rfl, hcell2⟩ := HC2.out i (by rw [HL2.out]; exact him)
        obtain ⟨y, hy⟩ : ∃ y, y = ys.getD i 0 := ⟨_, rfl⟩
        rw [← hy] at hcell2
        have hd := cmpL_drop (xs := xs) (ys := ys) (i := i) (by rw [HL.out]; exact hi) (by rw [HL2.out]; exact him)
        rw [← hx, ← hy, ← hall.out] at hd
        have HD := Lib.hid hd
        clear hd hx hy
        have hb1 : (i : Int) < (n : Int) := by omega
        have hb2 : (i : Int) < (m : Int) := by omega
        by_cases hxy : x = y
        · have hnx : Hid (cmpL xs ys = cmpL (xs.drop (i + 1)) (ys.drop (i + 1))) := by
            unfold Hid
            rw [HD.out, if_pos]
            rcases compareInt_cases x y with h | h | h <;> omega
          have hne : (x != y) = false := by simpa using hxy
          subst hxy
          go_wp2_with fail
          go_quiet (fail)
          go_wp2_with fail
          go_roundw
          case rel => exact ⟨i + 1, by omega, by omega, by go_num, hnx, _, rfl⟩
          case measure => simp [intOf]; omega
        · have hne : (x != y) = true := by simpa using hxy
          by_cases hlt : x < y
          · have d1 : decide (x < y) = true := decide_eq_true hlt
            have hE : Hid (cmpL xs ys = -1) := by
              unfold Hid
              rw [HD.out]
              rcases compareInt_cases x y with h | h | h
              · rw [if_neg (by omega)]; exact h.2
              · omega
              · omega
            go_wp2_with fail
            go_quiet (fail)
            go_wp2_with fail
            go_quiet (fail)
            go_wp2_with fail
            go_ret
            exact ⟨by rw [hE.out]; rfl, drew3 _ _ _ _⟩
          · have d1 : decide (x < y) = false := decide_eq_false hlt
            have hE : Hid (cmpL xs ys = 1) := by
              unfold Hid
              rw [HD.out]
              rcases compareInt_cases x y with h | h | h
              · omega
              · omega
              · rw [if_neg (by omega)]; exact h.2
            go_wp2_with fail
            go_quiet (fail)
            go_wp2_with fail
            go_quiet (fail)
            go_wp2_with fail
            go_ret
            exact ⟨by rw [hE.out]; rfl, drew3 _ _ _ _⟩
      · have e2 : decide ((i : Int) < (m : Int)) = false := decide_eq_false (by omega)
        have hE : Hid (cmpL xs ys = 1) := by unfold Hid; rw [hall.out]; exact cmpL_past (by rw [HL.out]; exact hi) (by rw [HL2.out]; exact him)
        have d1 : decide ((n : Int) < (m : Int)) = false := decide_eq_false (by omega)
        have d2 : decide ((m : Int) < (n : Int)) = true := decide_eq_true (by omega)
        go_wp2_with fail
        go_ret
        exact ⟨by rw [hE.out]; rfl, _, rfl⟩
    · obtain rfl : i = n := by omega
      have e1 : decide ((i : Int) < (i : Int)) = false := decide_eq_false (by omega)
      have hend := cmpL_end (xs := xs) (ys := ys)
      rw [HL.out, HL2.out, ← hall.out] at hend
      by_cases hlt : i < m
      · have d1 : decide ((i : Int) < (m : Int)) = true := decide_eq_true (by omega)
        rw [if_pos hlt] at hend
        have HE := Lib.hid hend
        clear hend
        go_wp2_with fail
        go_ret
        exact ⟨by rw [HE.out]; rfl, _, rfl⟩
      · have d1 : decide ((i : Int) < (m : Int)) = false := decide_eq_false (by omega)
        have d2 : decide ((m : Int) < (i : Int)) = false := decide_eq_false (by omega)
        rw [if_neg hlt] at hend
        have HE := Lib.hid hend
        clear hend
        go_wp2_with fail
        go_ret
        exact ⟨by rw [HE.out]; rfl, _, rfl⟩

theorem quiet_turn {w w' : World} {c : Int} {e : Ending} (h : GivesCmp w c e w') : e = .returned (.int .i64 c) ∧ ∃ m, w' = w.drewN m := ⟨h.1, h.2.imp fun _ e => e.symm⟩
theorem quiet_more {P : Program} {f : FuncId} {args : Array Value} {w : World} {a n : Nat} {v : Value} (h : Calls P f args (w.drewN (a + n)) fun e w' => e = .returned v ∧ ∃ m, w' = (w.drewN (a + n)).drewN m) :
    Calls P f args (w.drewN (a + n)) fun e w' => e = .returned v ∧ ∃ m, w' = w.drewN (a + m) :=
  h.mono fun _ _ ⟨he, m, hm⟩ => ⟨he, n + m, by rw [hm, World.drewN_drewN, Nat.add_assoc]⟩

/-- Two lists of lists are equal. -/
def SameM (us bs : List (List Int)) : Prop := us.length = bs.length ∧ ∀ i, i < us.length → us.getD i [] = bs.getD i []

set_option maxRecDepth 100000 in
set_option maxHeartbeats 2000000 in
theorem rsame_any (a a2 : Option Addr) (n cap m cap2 : Nat) (us bs : List (List Int)) (w : World) (hr : RdM w a cap us) (hl : us.length = n) (hr2 : RdM w a2 cap2 bs) (hl2 : bs.length = m) (hn : n ≤ 100000000000000) (hm : m ≤ 100000000000000) :
    Calls Try.prog 17 #[.slice a n cap, .slice a2 m cap2] w (GivesIf w (SameM us bs)) := by
  have HL := Lib.hid hl
  have HL2 := Lib.hid hl2
  have HR := Lib.hid hr
  have HR2 := Lib.hid hr2
  have hmix := mixed
  clear hr hr2 hl hl2
  by_cases hnm : n = m
  · subst hnm
    go_enter Try.func17, Try.ntmps17
    go_wp2_with fail
    go_loopw [13] (fun ii wr => ∃ i : Nat, i ≤ n ∧ ii = .int .i64 (i : Int) ∧ Hid (∀ c, c < i → us.getD c [] = bs.getD c []) ∧ ∃ q, wr = w.drewN q) (fun ii _ => n - (intOf ii).toNat)
    case atStart => exact ⟨0, by omega, rfl, fun c hc => by omega, 0, rfl⟩
    case round =>
      obtain ⟨i, hin, rfl, hall, q, rfl⟩ := hrel
      by_cases hi : i < n
      · obtain ⟨b, o, ai, ci, rfl, hc, hri, hli⟩ := HR.out.rows i (by rw [HL.out]; exact hi)
        obtain ⟨b2, o2, aj, cj, rfl, hc2, hrj, hlj⟩ := HR2.out.rows i (by rw [HL2.out]; exact hi)
        obtain ⟨xs, hxs⟩ : ∃ xs, xs = us.getD i [] := ⟨_, rfl⟩
        obtain ⟨ys, hys⟩ : ∃ xs, xs = bs.getD i [] := ⟨_, rfl⟩
        rw [← hxs] at hc hri hli
        rw [← hys] at hc2 hrj hlj
        have HXS := Lib.hid hxs
        have HYS := Lib.hid hys
        obtain ⟨lx, hlx⟩ : ∃ n, n = xs.length := ⟨_, rfl⟩
        obtain ⟨ly, hly⟩ : ∃ n, n = ys.length := ⟨_, rfl⟩
        rw [← hlx] at hc hli
        rw [← hly] at hc2 hlj
        have hcmp := fun k => (rcompare_any ai aj lx ci ly cj xs ys (w.drewN k) (hri.below (below_drewN' (Below.refl _ _) k)) hlx.symm (hrj.below (below_drewN' (Below.refl _ _) k)) hly.symm (by omega) (by omega)).mono fun _ _ h => quiet_turn h
        have HCMP := Lib.hid hcmp
        have hb1 : (i : Int) < (n : Int) := by omega
        obtain ⟨c, hc0⟩ : ∃ c, c = cmpL xs ys := ⟨_, rfl⟩
        rw [← hc0] at HCMP
        have HC0 := Lib.hid hc0
        clear hxs hys hlx hly hri hrj hcmp hc0
        by_cases h0 : c = 0
        · have hne : (c != 0) = false := by simpa using h0
          have hnx : Hid (∀ t, t < i + 1 → us.getD t [] = bs.getD t []) := fun t ht => by
            by_cases e : t = i
            · rw [e, ← HXS.out, ← HYS.out]
              have := HC0.out
              rw [h0] at this
              exact cmpL_eq0 this.symm
            · exact hall.out t (by omega)
          subst h0
          go_wp2_with fail
          go_quiet (first | (go_at_call 7; first | exact Calls.quiet_of (HCMP.out _) | exact quiet_more (HCMP.out _)))
          go_wp2_with fail
          go_roundw
          case rel => exact ⟨i + 1, by omega, by go_num, hnx, _, rfl⟩
          case measure => simp [intOf]; omega
        · have hne : (c != 0) = true := by simpa using h0
          have hno : Hid (¬SameM us bs) := fun h => by
            have e := h.2 i (by rw [HL.out]; exact hi)
            rw [← HXS.out, ← HYS.out] at e
            apply h0
            rw [HC0.out, e]
            exact cmpL_self0 ys
          go_wp2_with fail
          go_quiet (first | (go_at_call 7; first | exact Calls.quiet_of (HCMP.out _) | exact quiet_more (HCMP.out _)))
          go_wp2_with fail
          go_ret
          exact givesIf_no (q := q + nq) hno.out (World.drewN_drewN _ _ _).symm
      · obtain rfl : i = n := by omega
        have hyes : Hid (SameM us bs) := ⟨by rw [HL.out, HL2.out], fun c hc => hall.out c (by rw [← HL.out]; exact hc)⟩
        go_wp2_with fail
        go_ret
        exact givesIf_yes hyes.out rfl
  · have hno : Hid (¬SameM us bs) := fun h => hnm (by rw [← HL.out, ← HL2.out]; exact h.1)
    have hne : (((n : Nat) : Int) == (m : Int)) = false := by simp; omega
    go_enter Try.func17, Try.ntmps17
    go_wp2_with fail
    go_ret
    exact givesIf_no (q := 0) hno.out rfl
end Go.Proofs.Ytdpgkegfkobdoaa
