/-
  The contract of CanonicalSign.
-/
import Derived.Test.YtdpgkegfkobdoaaYJ
namespace Go.Proofs.Ytdpgkegfkobdoaa
open Go.RowKit Go.Shelf

/-- The sign of the first number that is not 0. -/
def sgnL : List Int → Int
  | [] => 0
  | x :: r => if x = 0 then sgnL r else if x < 0 then -1 else 1

/-- The one of xs and -xs that begins above 0. -/
def canonL (xs : List Int) : List Int := if sgnL xs < 0 then xs.map (fun x => -x) else xs

theorem length_canonL (xs : List Int) : (canonL xs).length = xs.length := by unfold canonL; split <;> simp

theorem sgnL_zero {xs : List Int} (h : ∀ i, i < xs.length → xs.getD i 0 = 0) : sgnL xs = 0 := by
  induction xs with
  | nil => rfl
  | cons x r ih =>
    have h0 : x = 0 := h 0 (by simp)
    unfold sgnL
    rw [if_pos h0]
    exact ih fun i hi => h (i + 1) (by simpa using hi)

theorem sgnL_first {xs : List Int} : ∀ {k : Nat}, k < xs.length → xs.getD k 0 ≠ 0 → (∀ i, i < k → xs.getD i 0 = 0) → sgnL xs = if xs.getD k 0 < 0 then -1 else 1 := by
  induction xs with
  | nil => intro k hk; simp at hk
  | cons x r ih =>
    intro k hk hne hz
    cases k with
    | zero =>
      have hx : (x :: r).getD 0 0 = x := rfl
      rw [hx] at hne ⊢
      unfold sgnL
      rw [if_neg hne]
    | succ k =>
      have h0 : x = 0 := hz 0 (by omega)
      have hx : (x :: r).getD (k + 1) 0 = r.getD k 0 := rfl
      rw [hx] at hne ⊢
      unfold sgnL
      rw [if_pos h0]
      exact ih (by simpa using hk) hne fun i hi => hz (i + 1) (by omega)

theorem closure_any (x : Int) (w : World) : Calls Try.prog 20 #[.int .i64 x] w fun e w' => e = .returned (.bool (!(x == 0))) ∧ w = w' := by
  go_enter Try.func20, Try.ntmps20
  go_wp2
  go_ret
  exact ⟨by simp [bne], rfl⟩

/-- The first place of a number that is not 0, -1 if there is none. -/
def GivesFirst (w : World) (xs : List Int) (e : Ending) (w' : World) : Prop :=
  ((∃ k : Nat, k < xs.length ∧ xs.getD k 0 ≠ 0 ∧ (∀ i, i < k → xs.getD i 0 = 0) ∧ e = .returned (.int .i64 (k : Int))) ∨ ((∀ i, i < xs.length → xs.getD i 0 = 0) ∧ e = .returned (.int .i64 (-1)))) ∧ w = w'

set_option maxRecDepth 100000 in
set_option maxHeartbeats 1000000 in
theorem indexFunc_any (a : Option Addr) (n cap : Nat) (xs : List Int) (w : World) (hr : RdI w a cap xs) (hl : xs.length = n) (hn : n ≤ 100000000000000) :
    Calls Try.prog 19 #[.slice a n cap, .func (.func 20) #[] #[]] w (GivesFirst w xs) := by
  have hc := hr.cells
  have HL := Lib.hid hl
  have HC := Lib.hid hc
  clear hr hl hc
  go_enter Try.func19, Try.ntmps19
  go_wp2_with fail
  go_loop [8] (fun ii => ∃ i : Nat, i ≤ n ∧ ii = .int .i64 (i : Int) ∧ Hid (∀ c, c < i → xs.getD c 0 = 0)) (fun ii => n - (intOf ii).toNat)
  case atStart => exact ⟨0, by omega, rfl, fun c hc => by omega⟩
  case round =>
    obtain ⟨i, hin, rfl, hall⟩ := hrel
    by_cases hi : i < n
    · obtain ⟨b, o, rfl, hcell⟩ := HC.out i (by rw [HL.out]; exact hi)
      obtain ⟨x, hx⟩ : ∃ x, x = xs.getD i 0 := ⟨_, rfl⟩
      rw [← hx] at hcell
      by_cases h0 : x = 0
      · have hnx : Hid (∀ c, c < i + 1 → xs.getD c 0 = 0) := fun c hc => by
          by_cases e : c = i
          · rw [e, ← hx, h0]
          · exact hall.out c (by omega)
        clear hx
        subst h0
        go_wp2_with fail
        refine (closure_any 0 _).mono ?_
        rintro e w' ⟨rfl, rfl⟩
        go_wp2_with fail
        go_round
        case rel => exact ⟨i + 1, by omega, by go_num, hnx⟩
        case measure => simp [intOf]; omega
      · have hne : (!(x == 0)) = true := by simpa using h0
        have hend : Hid (∀ (e : Ending), e = .returned (.int .i64 (i : Int)) → GivesFirst w xs e w) := fun e he => ⟨.inl ⟨i, by rw [HL.out]; exact hi, by rw [← hx]; exact h0, hall.out, he⟩, rfl⟩
        have HNE := Lib.hid hne
        clear hx h0 hne
        go_wp2_with fail
        refine (closure_any x _).mono ?_
        rintro e w' ⟨rfl, rfl⟩
        rw [HNE.out]
        go_wp2_with fail
        go_ret
        exact hend.out _ rfl
    · obtain rfl : i = n := by omega
      have hend : Hid (∀ (e : Ending), e = .returned (.int .i64 (-1)) → GivesFirst w xs e w) := fun e he => ⟨.inr ⟨fun c hc => hall.out c (by rw [← HL.out]; exact hc), he⟩, rfl⟩
      go_wp2_with fail
      go_ret
      exact hend.out _ rfl

/-- The cells of a list of int64. -/
def i64s (zs : List Int) : List Value := zs.map (Value.int .i64)
theorem length_i64s (zs : List Int) : (i64s zs).length = zs.length := by simp [i64s]
theorem i64s_get (zs : List Int) (i : Nat) (h : i < zs.length) : (i64s zs)[i]? = some (.int .i64 (zs.getD i 0)) := by
  simp [i64s, List.getD_eq_getElem?_getD, List.getElem?_eq_getElem h]
theorem i64s_one (zs : List Int) : ∀ u ∈ i64s zs, u.oneCell' = true := by
  intro u hu
  obtain ⟨_, _, rfl⟩ := List.mem_map.1 hu
  rfl

/-- The first cells of block g are the numbers zs. -/
structure OwnI (w : World) (g : Nat) (zs : List Int) : Prop where
  row : ∃ cur : Array Value, w.heap[g]? = some (.cells cur 2 (0, 0)) ∧ cur.toList.take zs.length = i64s zs

theorem OwnI.lt {w : World} {g : Nat} {zs : List Int} (h : OwnI w g zs) : g < w.heap.size := by
  obtain ⟨cur, hg, _⟩ := h.row
  exact (Array.getElem?_eq_some_iff.1 hg).1

theorem OwnI.cell {w : World} {g : Nat} {zs : List Int} (h : OwnI w g zs) (i : Nat) (hi : i < zs.length) : w.cell? ⟨g, i, none⟩ = some (.int .i64 (zs.getD i 0)) := by
  obtain ⟨cur, hg, ht⟩ := h.row
  rw [cell_of_row w g i cur _ (0, 0) hg]
  have e := i64s_get zs i hi
  rw [← ht, List.getElem?_take, if_pos hi] at e
  simpa using e

theorem OwnI.free {w : World} {g : Nat} {zs : List Int} (h : OwnI w g zs) (i : Nat) : w.frozen? ⟨g, i, none⟩ = false := by
  obtain ⟨cur, hg, _⟩ := h.row
  exact frozen_of_row w g i cur _ hg

theorem OwnI.store {w : World} {g : Nat} {zs : List Int} (h : OwnI w g zs) (i : Nat) (v : Int) : OwnI (w.setCell ⟨g, i, none⟩ (.int .i64 v)) g (zs.set i v) := by
  obtain ⟨cur, hg, ht⟩ := h.row
  refine ⟨cur.setIfInBounds i (.int .i64 v), heap_setCell_same w g i cur _ _ hg, ?_⟩
  rw [Array.toList_setIfInBounds, List.length_set, List.take_set, ht, i64s, i64s, List.map_set]

theorem OwnI.of_heap {w w' : World} {g : Nat} {zs : List Int} (h : OwnI w g zs) (he : w'.heap[g]? = w.heap[g]?) : OwnI w' g zs := by
  obtain ⟨cur, hg, ht⟩ := h.row
  exact ⟨cur, by rw [he]; exact hg, ht⟩
theorem OwnI.below {w w' : World} {g B : Nat} {zs : List Int} (h : OwnI w g zs) (hb : Below B w w') (hg : g < B) : OwnI w' g zs := h.of_heap (hb.block g hg)
theorem OwnI.rd {w : World} {g cap : Nat} {zs : List Int} (h : OwnI w g zs) (hc : zs.length ≤ cap) (hl : ∀ x ∈ zs, I64 x) : RdI w (some ⟨g, 0, none⟩) cap zs :=
  ⟨hc, hl, fun i hi => ⟨g, 0, rfl, by rw [Nat.zero_add]; exact h.cell i hi⟩⟩

theorem infoI64 : (Try.prog.info? 2).map (fun i => (i.zero, i.size, i.bytes)) = some (some (.int .i64 0), 1, 8) := by kernel_rfl

theorem ownI_of_row {w : World} {B n : Nat} {v : Value} {zs : List Int} (h : w.ownsRow B 2 1 v n (i64s zs)) (hl : zs.length = n) (hne : v ≠ .slice none 0 0) :
    ∃ g cap, v = .slice (some ⟨g, 0, none⟩) n cap ∧ n ≤ cap ∧ B ≤ g ∧ OwnI w g zs := by
  rcases h.2 with ⟨h0, _⟩ | ⟨g, cap, cur, hv, hbase, hg, hncap, _, _, htake⟩
  · exact absurd h0 hne
  · exact ⟨g, cap, hv, hncap, hbase, cur, hg, by rw [hl]; rw [Nat.mul_one] at htake; exact htake⟩

theorem clone_any (b o n cap : Nat) (xs : List Int) (w : World) (hr : RdI w (some ⟨b, o, none⟩) cap xs) (hl : xs.length = n) (hn : n ≤ 17592186044416) :
    Calls Try.prog 22 #[.slice (some ⟨b, o, none⟩) n cap] w fun e w' => ∃ g c, e = .returned (.slice (some ⟨g, 0, none⟩) n c) ∧ n ≤ c ∧ w.heap.size ≤ g ∧ OwnI w' g xs ∧ Below w.heap.size w w' := by
  obtain ⟨i, hi, hz0, hz1, hz2⟩ := info_parts infoI64
  have hc : ∀ j u, (i64s xs)[j]? = some u → w.cell? ⟨b, o + j, none⟩ = some u := fun j u hj => by
    have hj' : j < xs.length := by
      have := (List.getElem?_eq_some_iff.1 hj).1
      rwa [length_i64s] at this
    rw [i64s_get xs j hj'] at hj
    obtain ⟨b', o', e, hx⟩ := hr.cells j hj'
    simp only [Option.some.injEq, Addr.mk.injEq, and_true] at e
    obtain ⟨rfl, rfl⟩ := e
    rw [hx]; exact hj
  refine (Try.slices_Clone i (.int .i64 0) 1 8 hi hz0 hz1 hz2 rfl (by decide) Try.sizeOf2 b o n cap (i64s xs) w (by rw [length_i64s, hl, Nat.mul_one]) (by unfold maxLen; omega) (by omega) hc (i64s_one xs)).mono ?_
  rintro e w' ⟨v, rfl, hown, hne, hb⟩
  obtain ⟨g, c, rfl, hcap, hg, ho⟩ := ownI_of_row hown hl hne
  exact ⟨g, c, rfl, hcap, hg, ho, hb⟩

/-- The first i numbers negated. -/
def negTo (xs : List Int) (i : Nat) : List Int := (xs.take i).map (fun x => -x) ++ xs.drop i

theorem negTo_zero (xs : List Int) : negTo xs 0 = xs := by simp [negTo]
theorem negTo_all (xs : List Int) : negTo xs xs.length = xs.map (fun x => -x) := by simp [negTo]
theorem length_negTo (xs : List Int) (i : Nat) : (negTo xs i).length = xs.length := by simp [negTo]; omega
theorem negTo_next (xs : List Int) (i : Nat) (h : i < xs.length) : (negTo xs i).set i (-(xs.getD i 0)) = negTo xs (i + 1) := by
  have hl : ((xs.take i).map (fun x => -x)).length = i := by simp; omega
  have hg : xs.getD i 0 = xs[i] := by simp [List.getD_eq_getElem?_getD, List.getElem?_eq_getElem h]
  unfold negTo
  rw [List.set_append_right _ _ (by omega), hl, Nat.sub_self, List.drop_eq_getElem_cons h, List.set_cons_zero, hg, List.take_succ_eq_append_getElem h, List.map_append, List.append_assoc]
  rfl

/-- What CanonicalSign gives. -/
def GivesSign (w : World) (xs : List Int) (e : Ending) (w' : World) : Prop :=
  ((sgnL xs ≠ 0 ∧ InR xs ∧ ∃ g c, e = .returned (.tuple #[.slice (some ⟨g, 0, none⟩) xs.length c, .bool true]) ∧ xs.length ≤ c ∧ w.heap.size ≤ g ∧ OwnI w' g (canonL xs)) ∨ (¬(sgnL xs ≠ 0 ∧ InR xs) ∧ e = .returned (.tuple #[.slice none 0 0, .bool false]))) ∧ Below w.heap.size w w'
theorem givesSign_yes {w w' : World} {xs : List Int} {g c : Nat} (h1 : sgnL xs ≠ 0) (h2 : InR xs) (hc : xs.length ≤ c) (hg : w.heap.size ≤ g) (ho : OwnI w' g (canonL xs)) (hb : Below w.heap.size w w') {n : Nat} (hn : xs.length = n) :
    GivesSign w xs (.returned (.tuple #[.slice (some ⟨g, 0, none⟩) n c, .bool true])) w' := by subst hn; exact ⟨.inl ⟨h1, h2, g, c, rfl, hc, hg, ho⟩, hb⟩
theorem givesSign_no {w w' : World} {xs : List Int} (h : ¬(sgnL xs ≠ 0 ∧ InR xs)) (hb : Below w.heap.size w w') : GivesSign w xs (.returned (.tuple #[.slice none 0 0, .bool false])) w' := ⟨.inr ⟨h, rfl⟩, hb⟩

set_option maxRecDepth 100000 in
set_option maxHeartbeats 2000000 in
theorem sign_any (a : Option Addr) (n cap : Nat) (xs : List Int) (w : World) (hr : RdI w a cap xs) (hl : xs.length = n) (hn : n ≤ 17592186044416) :
    Calls Try.prog 10 #[.slice a n cap] w (GivesSign w xs) := by
  have HR := Lib.hid hr
  have HL := Lib.hid hl
  clear hr hl
  go_enter Try.func10, Try.ntmps10
  go_wp2_with fail
  refine (indexFunc_any a n cap xs _ HR.out HL.out (by omega)).mono ?_
  rintro e w1 ⟨(⟨k, hk, hne, hz, rfl⟩ | ⟨hall, rfl⟩), rfl⟩
  · have hsg := sgnL_first hk hne hz
    have HSG := Lib.hid hsg
    have hs0 : Hid (sgnL xs ≠ 0) := by unfold Hid; rw [hsg]; split <;> omega
    rw [HL.out] at hk
    obtain ⟨b, o, rfl, hcell⟩ := HR.out.cells k (by rw [HL.out]; exact hk)
    obtain ⟨x, hx⟩ : ∃ x, x = xs.getD k 0 := ⟨_, rfl⟩
    rw [← hx] at hcell
    have HX := Lib.hid hx
    clear hsg hne hz hx
    go_wp2_with fail
    refine (inRange_any _ n cap xs _ HR.out HL.out (by omega)).mono ?_
    rintro e w1 ⟨rfl, rfl⟩
    by_cases hin : InR xs
    · have hD : Hid (decide (InR xs) = true) := decide_eq_true hin
      rw [hD.out]
      have HIN := Lib.hid hin
      clear hin
      go_wp2_with fail
      refine (clone_any b o n cap xs _ HR.out HL.out hn).mono ?_
      rintro e w2 ⟨g, c, rfl, hgc, hg, hown, hb⟩
      have HOWN := Lib.hid hown
      have HB := Lib.hid hb
      have hcell2 : w2.cell? ⟨b, o + k, none⟩ = some (.int .i64 x) := by rw [hb.cell (World.block_lt_of_cell? w _ hcell)]; exact hcell
      clear hown hb hcell
      by_cases hneg : x < 0
      · have d1 : decide (x < 0) = true := decide_eq_true hneg
        have hcan : Hid (canonL xs = xs.map (fun x => -x)) := by
          unfold Hid canonL
          rw [HSG.out, ← HX.out, if_pos hneg]; rfl
        have hst : Hid (OwnI w2 g (negTo xs 0)) := by rw [negTo_zero]; exact HOWN
        clear hneg
        go_wp2_with fail
        go_loopw [26] (fun ii wr => ∃ i : Nat, i ≤ n ∧ ii = .int .i64 (i : Int) ∧ Hid (OwnI wr g (negTo xs i)) ∧ Hid (Below w.heap.size w wr)) (fun ii _ => n - (intOf ii).toNat)
        case atStart => exact ⟨0, by omega, rfl, hst, HB⟩
        case round =>
          obtain ⟨i, hin', rfl, ho, hB⟩ := hrel
          clear hst
          by_cases hi : i < n
          · obtain ⟨b', o', e1, hci⟩ := (HR.out.below hB.out).cells i (by rw [HL.out]; exact hi)
            simp only [Option.some.injEq, Addr.mk.injEq, and_true] at e1
            obtain ⟨rfl, rfl⟩ := e1
            have hy12 := HIN.out i (by rw [HL.out]; exact hi)
            have hnx := negTo_next xs i (by rw [HL.out]; exact hi)
            obtain ⟨y, hy⟩ : ∃ y, y = xs.getD i 0 := ⟨_, rfl⟩
            rw [← hy] at hci hy12 hnx
            have hy1 := hy12.1
            have hy2 := hy12.2
            have hcg := ho.out.cell i (by rw [length_negTo, HL.out]; exact hi)
            have hfg := ho.out.free i
            have HNX := Lib.hid hnx
            clear hy12 hy hnx
            go_wp2_with fail
            go_roundw
            case rel => exact ⟨i + 1, by omega, by go_num, by unfold Hid; rw [← HNX.out]; exact ho.out.store i (-y), hB.out.setCell (p := ⟨g, i, none⟩) hg _⟩
            case measure => simp [intOf]; omega
          · obtain rfl : i = n := by omega
            have hend : Hid (OwnI wr g (canonL xs)) := by
              have h := ho.out
              rw [← HL.out, negTo_all, ← hcan.out] at h
              exact h
            go_wp2_with fail
            go_ret2
            exact givesSign_yes hs0.out HIN.out (by rw [HL.out]; exact hgc) hg hend.out hB.out HL.out
      · have d1 : decide (x < 0) = false := decide_eq_false hneg
        have hcan : Hid (OwnI w2 g (canonL xs)) := by
          have e : canonL xs = xs := by
            unfold canonL
            rw [HSG.out, ← HX.out, if_neg hneg]; rfl
          unfold Hid
          rw [e]; exact HOWN.out
        clear hneg
        go_wp2_with fail
        go_ret2
        exact givesSign_yes hs0.out HIN.out (by rw [HL.out]; exact hgc) hg hcan.out HB.out HL.out
    · have hD : Hid (decide (InR xs) = false) := decide_eq_false hin
      rw [hD.out]
      have HIN := Lib.hid hin
      clear hin
      go_wp2_with fail
      go_ret2
      exact givesSign_no (fun h => HIN.out h.2) (Below.refl _ _)
  · have hno : Hid (¬(sgnL xs ≠ 0 ∧ InR xs)) := fun h => h.1 (sgnL_zero hall)
    clear hall
    go_wp2_with fail
    go_ret2
    exact givesSign_no hno.out (Below.refl _ _)
end Go.Proofs.Ytdpgkegfkobdoaa
