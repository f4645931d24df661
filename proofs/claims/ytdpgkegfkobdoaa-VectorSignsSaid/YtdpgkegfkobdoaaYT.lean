/-
  Literals in memory; the sanity check of the statements on vectors answers true.
-/
import Derived.Test.YtdpgkegfkobdoaaYR
import Derived.Test.YtdpgkegfkobdoaaYS
namespace Go.Proofs.Ytdpgkegfkobdoaa
open Go.RowKit Go.Shelf

/-- Lists laid one behind the other. -/
def layR : World → List (List Int) → World
  | w, [] => w
  | w, r :: rs => layR (w.alloc (.cells (i64s r).toArray 2)) rs
def outerC (b : Nat) : List (List Int) → List Value
  | [] => []
  | r :: rs => .slice (some ⟨b, 0, none⟩) r.length r.length :: outerC (b + 1) rs
def layM (w : World) (rs : List (List Int)) : World := (layR w rs).alloc (.cells (outerC w.heap.size rs).toArray 22)

theorem ownI_made (w : World) (zs : List Int) : OwnI (w.alloc (.cells (i64s zs).toArray 2)) w.heap.size zs :=
  ⟨_, heap_alloc_new w _, by rw [List.take_of_length_le (by simp [length_i64s])]⟩

theorem size_layR : ∀ (rs : List (List Int)) (w : World), (layR w rs).heap.size = w.heap.size + rs.length
  | [], w => rfl
  | r :: rs, w => by
    show (layR (w.alloc _) rs).heap.size = _
    rw [size_layR rs]
    simp
    omega
theorem below_layR : ∀ (rs : List (List Int)) (w : World), Below w.heap.size w (layR w rs)
  | [], w => Below.refl _ _
  | r :: rs, w => by
    have h1 : Below w.heap.size w (w.alloc (.cells (i64s r).toArray 2)) := (Below.refl _ _).alloc (Nat.le_refl _) _
    exact h1.trans ((below_layR rs _).mono h1.size)
theorem own_layR : ∀ (rs : List (List Int)) (w : World) (i : Nat), i < rs.length → OwnI (layR w rs) (w.heap.size + i) (rs.getD i [])
  | [], w, i, h => absurd h (Nat.not_lt_zero _)
  | r :: rs, w, 0, _ => by
    have h1 := ownI_made w r
    exact h1.below (below_layR rs _) h1.lt
  | r :: rs, w, i + 1, h => by
    have := own_layR rs (w.alloc (.cells (i64s r).toArray 2)) i (by simpa using h)
    rw [show (w.alloc (.cells (i64s r).toArray 2)).heap.size + i = w.heap.size + (i + 1) from by simp; omega] at this
    exact this

theorem outerC_get : ∀ (rs : List (List Int)) (b i : Nat), i < rs.length → (outerC b rs)[i]? = some (.slice (some ⟨b + i, 0, none⟩) (rs.getD i []).length (rs.getD i []).length)
  | [], b, i, h => absurd h (Nat.not_lt_zero _)
  | r :: rs, b, 0, _ => rfl
  | r :: rs, b, i + 1, h => by
    have := outerC_get rs (b + 1) i (by simpa using h)
    rw [show b + 1 + i = b + (i + 1) from by omega] at this
    exact this

theorem rd_layM (w : World) (rs : List (List Int)) (hl : ∀ r ∈ rs, (∀ x ∈ r, I64 x) ∧ r.length ≤ 17592186044416) : RdM (layM w rs) (some ⟨w.heap.size + rs.length, 0, none⟩) rs.length rs := by
  refine ⟨Nat.le_refl _, fun i hi => ⟨w.heap.size + rs.length, 0, some ⟨w.heap.size + i, 0, none⟩, (rs.getD i []).length, rfl, ?_, ?_, ?_⟩⟩
  · have hg := heap_alloc_new (layR w rs) (.cells (outerC w.heap.size rs).toArray 22)
    rw [size_layR] at hg
    unfold layM
    rw [cell_of_row _ _ _ _ _ (0, 0) hg, Nat.zero_add]
    simpa using outerC_get rs w.heap.size i hi
  · have ho := own_layR rs w i hi
    have hm : rs.getD i [] ∈ rs := by
      rw [List.getD_eq_getElem?_getD, List.getElem?_eq_getElem hi]
      exact List.getElem_mem hi
    exact (ho.rd (Nat.le_refl _) (hl _ hm).1).below ((Below.refl _ _).alloc (Nat.le_refl _) _)
  · have hm : rs.getD i [] ∈ rs := by
      rw [List.getD_eq_getElem?_getD, List.getElem?_eq_getElem hi]
      exact List.getElem_mem hi
    exact (hl _ hm).2
theorem below_layM (w : World) (rs : List (List Int)) : Below w.heap.size w (layM w rs) := (below_layR rs w).alloc (by rw [size_layR]; omega) _
theorem size_layM (w : World) (rs : List (List Int)) : (layM w rs).heap.size = w.heap.size + rs.length + 1 := by unfold layM; simp [size_layR]

/-- The form of the examples. -/
def exH : List (List Int) := [[2, 1], [1, 2]]
def exL : List (List Int) := [[-1, 1], [0, 2], [1, -1], [1, 0]]
def exO : List (List Int) := [[1, -1], [1, 0], [0, 2]]

theorem exH_ok : ReadOk exH := by
  refine ⟨⟨by decide, by decide⟩, ?_, ?_⟩
  · intro i hi
    have hi' : i < 2 := hi
    rcases (by omega : i = 0 ∨ i = 1) with rfl | rfl <;> rfl
  · intro i j hj hi
    have hi' : i < 2 := hi
    rcases (by omega : (i = 0 ∧ j = 0) ∨ (i = 1 ∧ j = 0) ∨ (i = 1 ∧ j = 1)) with ⟨rfl, rfl⟩ | ⟨rfl, rfl⟩ | ⟨rfl, rfl⟩ <;> exact ⟨rfl, by decide⟩

theorem exH_red : IsRed exH := by
  refine ⟨exH_ok, ?_⟩
  show Red 2 2 0 (cellsOf exH) 1
  refine ⟨⟨by decide, ?_, .inr (by decide)⟩, ?_, ?_⟩
  · intro i h1 h2
    obtain rfl : i = 1 := by omega
    decide
  · intro i j h1 h2 h3
    obtain rfl : i = 1 := by omega
    obtain rfl : j = 1 := by omega
    decide
  · refine ⟨⟨by decide, fun i h1 h2 => by omega, .inl rfl⟩, fun i j h1 h2 h3 => by omega, ?_⟩
    show next 2 (cellsOf exH) 0 1 (1 + 1 * 8 + 1) ≤ 10000
    decide

theorem lim_unique {S m : Int} (h : IsLim S m) (h1 : -4611686018427387904 ≤ S) (h2 : S ≤ 4611686018427387904) : m = S := by
  obtain ⟨a, b, c⟩ := h
  omega
theorem ex_fine (c : Nat) (hc : c < exL.length) : Fine 2 exH (exL.getD c []) (if c = 1 then 8 else 2) := by
  have hc' : c < 4 := hc
  rcases (by omega : c = 0 ∨ c = 1 ∨ c = 2 ∨ c = 3) with rfl | rfl | rfl | rfl
  all_goals exact ⟨⟨rfl, by decide⟩, by unfold IsLim; decide, by decide⟩

theorem ex_norm (c : Nat) (hc : c < exL.length) {m : Int} (h : Fine 2 exH (exL.getD c []) m) : m = if c = 1 then 8 else 2 := by
  have hc' : c < 4 := hc
  rcases (by omega : c = 0 ∨ c = 1 ∨ c = 2 ∨ c = 3) with rfl | rfl | rfl | rfl
  all_goals exact lim_unique h.2.1 (by decide) (by decide)

theorem ex_all : AllFine 2 exH exL := ⟨exH_red, fun c hc => ⟨_, ex_fine c hc⟩⟩

/-- The three items of the example. -/
def exI : Nat → Item
  | 0 => ⟨2, [1, -1], none, 0⟩
  | 1 => ⟨2, [1, 0], none, 0⟩
  | _ => ⟨8, [0, 2], none, 0⟩

theorem cfN_key {x y x' y' : Item} (h1 : x.norm = x'.norm) (h2 : x.vec = x'.vec) (h3 : y.norm = y'.norm) (h4 : y.vec = y'.vec) : cfN x y = cfN x' y' := by
  unfold cfN
  rw [h1, h2, h3, h4]

theorem ex_class (c : Nat) (hc : c < exL.length) {h : Item} (hb : Belongs 2 exH (exL.getD c []) h) : ∃ k, k < 3 ∧ h.norm = (exI k).norm ∧ h.vec = (exI k).vec ∧ (k = if c = 1 then 2 else if c = 3 then 1 else 0) := by
  have hn := ex_norm c hc hb.1
  have hv := hb.2
  have hc' : c < 4 := hc
  rcases (by omega : c = 0 ∨ c = 1 ∨ c = 2 ∨ c = 3) with rfl | rfl | rfl | rfl
  · exact ⟨0, by omega, hn, hv, rfl⟩
  · exact ⟨2, by omega, hn, hv, rfl⟩
  · exact ⟨0, by omega, hn, hv, rfl⟩
  · exact ⟨1, by omega, hn, hv, rfl⟩

theorem exI_lt (a b : Nat) (ha : a < 3) (hb : b < 3) (h : cfN (exI a) (exI b) < 0) : a < b := by
  rcases (by omega : a = 0 ∨ a = 1 ∨ a = 2) with rfl | rfl | rfl <;> rcases (by omega : b = 0 ∨ b = 1 ∨ b = 2) with rfl | rfl | rfl <;> first | omega | exact absurd h (by decide)

theorem ex_out {out : List (List Int)} (h : IsList 2 exH exL out) : out = exO := by
  obtain ⟨g, hA, hB, hC, hD⟩ := h
  have hk : ∀ i, ∃ k, i < out.length → k < 3 ∧ (g i).norm = (exI k).norm ∧ (g i).vec = (exI k).vec := by
    intro i
    by_cases hi : i < out.length
    · obtain ⟨c, hc, hb⟩ := hA i hi
      obtain ⟨k, h1, h2, h3, _⟩ := ex_class c hc hb
      exact ⟨k, fun _ => ⟨h1, h2, h3⟩⟩
    · exact ⟨0, fun h => absurd h hi⟩
  obtain ⟨k, hk⟩ := Classical.axiomOfChoice hk
  have hasc : ∀ i j, i < j → j < out.length → k i < k j := by
    intro i j hij hj
    obtain ⟨a1, a2, a3⟩ := hk i (by omega)
    obtain ⟨b1, b2, b3⟩ := hk j hj
    have := hC i j hij hj
    rw [cfN_key a2 a3 b2 b3] at this
    exact exI_lt _ _ a1 b1 this
  have hsur : ∀ c, c < 4 → ∃ i, i < out.length ∧ k i = if c = 1 then 2 else if c = 3 then 1 else 0 := by
    intro c hc
    obtain ⟨i, hi, hb⟩ := hB c hc
    obtain ⟨k', h1, h2, h3, h4⟩ := ex_class c hc hb
    obtain ⟨a1, a2, a3⟩ := hk i hi
    refine ⟨i, hi, ?_⟩
    rw [← h4]
    have e1 : (exI (k i)).norm = (exI k').norm := by rw [← a2, h2]
    have e2 : (exI (k i)).vec = (exI k').vec := by rw [← a3, h3]
    rcases (by omega : k i = 0 ∨ k i = 1 ∨ k i = 2) with e | e | e <;> rcases (by omega : k' = 0 ∨ k' = 1 ∨ k' = 2) with e' | e' | e' <;> rw [e, e'] at e1 e2 <;> first | omega | exact absurd e1 (by decide) | exact absurd e2 (by decide)
  obtain ⟨i0, h0, e0⟩ := hsur 0 (by omega)
  obtain ⟨i1, h1, e1⟩ := hsur 3 (by omega)
  obtain ⟨i2, h2, e2⟩ := hsur 1 (by omega)
  have f0 : k i0 = 0 := e0
  have f1 : k i1 = 1 := e1
  have f2 : k i2 = 2 := e2
  have l01 : i0 < i1 := by
    rcases Nat.lt_trichotomy i0 i1 with h | h | h
    · exact h
    · subst h; omega
    · have := hasc i1 i0 h h0; omega
  have l12 : i1 < i2 := by
    rcases Nat.lt_trichotomy i1 i2 with h | h | h
    · exact h
    · subst h; omega
    · have := hasc i2 i1 h h1; omega
  have hlen : out.length = 3 := by
    by_cases h : 3 < out.length
    · have a := hasc 0 1 (by omega) (by omega)
      have b := hasc 1 2 (by omega) (by omega)
      have c := hasc 2 3 (by omega) h
      have := (hk 3 h).1
      omega
    · omega
  have a := hasc 0 1 (by omega) (by omega)
  have b := hasc 1 2 (by omega) (by omega)
  have c := (hk 2 (by omega)).1
  have k0 : k 0 = 0 := by omega
  have k1 : k 1 = 1 := by omega
  have k2 : k 2 = 2 := by omega
  have g0 := hD 0 (by omega)
  have g1 := hD 1 (by omega)
  have g2 := hD 2 (by omega)
  rw [(hk 0 (by omega)).2.2, k0] at g0
  rw [(hk 1 (by omega)).2.2, k1] at g1
  rw [(hk 2 (by omega)).2.2, k2] at g2
  match out, hlen with
  | [x, y, z], _ =>
    have g0' : x = [1, -1] := g0
    have g1' : y = [1, 0] := g1
    have g2' : z = [0, 2] := g2
    rw [g0', g1', g2']
    rfl

theorem layM_eq (V : World) (rs : List (List Int)) {b : Nat} (hb : V.heap.size = b) : layM V rs = (layR V rs).alloc (.cells (outerC b rs).toArray 22) := by subst hb; rfl

theorem ex_sign : sgnL [0, -3, 1] ≠ 0 ∧ InR [0, -3, 1] := ⟨by decide, by decide⟩

theorem rd_made (w : World) (zs : List Int) (h : ∀ x ∈ zs, I64 x) : RdI (w.alloc (.cells (i64s zs).toArray 2)) (some ⟨w.heap.size, 0, none⟩) zs.length zs := (ownI_made w zs).rd (Nat.le_refl _) h

theorem small_I64 : (∀ r ∈ exH, (∀ x ∈ r, I64 x) ∧ r.length ≤ 17592186044416) ∧ (∀ r ∈ exL, (∀ x ∈ r, I64 x) ∧ r.length ≤ 17592186044416) ∧ (∀ r ∈ exO, (∀ x ∈ r, I64 x) ∧ r.length ≤ 17592186044416) := by
  refine ⟨?_, ?_, ?_⟩ <;> (unfold I64; decide)

set_option maxRecDepth 100000 in
set_option maxHeartbeats 4000000 in
theorem vawake_any (w : World) : Calls Try.prog 8 #[] w fun e w' => e = .returned (.bool true) ∧ Below w.heap.size w w' := by
  have s1 : (layM w exH).heap.size = w.heap.size + 1 + 1 + 1 := size_layM w exH
  obtain ⟨V, hV⟩ : ∃ V, V = layM (layM w exH) exL := ⟨_, rfl⟩
  have HW8 : Hid (((((((((w.alloc (.cells #[.int .i64 2, .int .i64 1] 2)).alloc (.cells #[.int .i64 1, .int .i64 2] 2)).alloc (.cells #[.slice (some ⟨w.heap.size, 0, none⟩) 2 2, .slice (some ⟨w.heap.size + 1, 0, none⟩) 2 2] 22)).alloc
      (.cells #[.int .i64 (-1), .int .i64 1] 2)).alloc (.cells #[.int .i64 0, .int .i64 2] 2)).alloc (.cells #[.int .i64 1, .int .i64 (-1)] 2)).alloc (.cells #[.int .i64 1, .int .i64 0] 2)).alloc
      (.cells #[.slice (some ⟨w.heap.size + 1 + 1 + 1, 0, none⟩) 2 2, .slice (some ⟨w.heap.size + 1 + 1 + 1 + 1, 0, none⟩) 2 2, .slice (some ⟨w.heap.size + 1 + 1 + 1 + 1 + 1, 0, none⟩) 2 2, .slice (some ⟨w.heap.size + 1 + 1 + 1 + 1 + 1 + 1, 0, none⟩) 2 2] 22)) = V) := by
    unfold Hid
    rw [hV, layM_eq _ exL s1]
    rfl
  have hbV : Below w.heap.size w V := by
    rw [hV]
    exact (below_layM w exH).trans ((below_layM _ exL).mono (by rw [s1]; omega))
  have hH : RdM V (some ⟨w.heap.size + 1 + 1, 0, none⟩) 2 exH := by
    rw [hV]
    exact (rd_layM w exH small_I64.1).below (below_layM _ exL)
  have hL : RdM V (some ⟨w.heap.size + 1 + 1 + 1 + 1 + 1 + 1 + 1, 0, none⟩) 4 exL := by
    rw [hV]
    have h := rd_layM (layM w exH) exL small_I64.2.1
    rw [s1] at h
    exact h
  have HH := Lib.hid hH
  have HL := Lib.hid hL
  have HBV := Lib.hid hbV
  clear hV s1 hbV hH hL
  go_enter Try.func8, Try.ntmps8
  go_wp2_with fail
  rw [HW8.out]
  refine (sortUnique2_any _ _ 2 2 4 4 exH exL V HH.out rfl (by omega) HL.out rfl (by omega) (by omega)).mono ?_
  rintro e w1 ⟨(⟨_, out, ao, co, rfl, hro, hlist⟩ | ⟨hno, _⟩), hb1⟩
  · obtain rfl := ex_out hlist
    have hb1' : Hid (Below w.heap.size w w1) := HBV.out.trans (hb1.mono HBV.out.size)
    obtain ⟨W2, hW2⟩ : ∃ W, W = w1.alloc (.cells #[.int .i64 1, .int .i64 (-1)] 2) := ⟨_, rfl⟩
    have hb2 : Below w1.heap.size w1 W2 := by rw [hW2]; exact (Below.refl _ _).alloc (Nat.le_refl _) _
    have HW2 : Hid (w1.alloc (.cells #[.int .i64 1, .int .i64 (-1)] 2) = W2) := hW2.symm
    have hr2 : Hid (RdI W2 (some ⟨w1.heap.size, 0, none⟩) 2 [1, -1]) := by rw [hW2]; exact rd_made w1 [1, -1] (by unfold I64; decide)
    have hH2 : Hid (RdM W2 (some ⟨w.heap.size + 1 + 1, 0, none⟩) 2 exH) := (HH.out.below hb1).below hb2
    have hO2 : Hid (RdM W2 ao co exO) := hro.below hb2
    have hB2 : Hid (Below w.heap.size w W2) := hb1'.out.trans (hb2.mono hb1'.out.size)
    clear hb1 hro hlist hW2 hb2
    have hlen : exO.length = 3 := rfl
    rw [hlen]
    clear hlen
    go_wp2_with fail
    rw [HW2.out]
    refine (norm_any _ _ 2 2 2 2 exH [1, -1] W2 hH2.out rfl (by omega) hr2.out rfl (by omega)).mono ?_
    rintro e w3 ⟨(⟨m, hp, hm, rfl⟩ | ⟨hno, _⟩), hb3⟩
    · have hm2 : m = 2 := lim_unique (S := innerS exH [1, -1] [1, -1] 2) hm (by decide) (by decide)
      subst hm2
      have hB3 : Hid (Below w.heap.size w w3) := hB2.out.trans (hb3.mono hB2.out.size)
      have hO3 : Hid (RdM w3 ao co exO) := hO2.out.below hb3
      obtain ⟨W4, hW4⟩ : ∃ W, W = w3.alloc (.cells #[.int .i64 0, .int .i64 (-3), .int .i64 1] 2) := ⟨_, rfl⟩
      have hb4 : Below w3.heap.size w3 W4 := by rw [hW4]; exact (Below.refl _ _).alloc (Nat.le_refl _) _
      have HW4 : Hid (w3.alloc (.cells #[.int .i64 0, .int .i64 (-3), .int .i64 1] 2) = W4) := hW4.symm
      have hr4 : Hid (RdI W4 (some ⟨w3.heap.size, 0, none⟩) 3 [0, -3, 1]) := by rw [hW4]; exact rd_made w3 [0, -3, 1] (by unfold I64; decide)
      have hO4 : Hid (RdM W4 ao co exO) := hO3.out.below hb4
      have hB4 : Hid (Below w.heap.size w W4) := hB3.out.trans (hb4.mono hB3.out.size)
      clear hb3 hW4 hb4 hp hm
      go_wp2_with fail
      rw [HW4.out]
      refine (sign_any _ 3 3 [0, -3, 1] W4 hr4.out rfl (by omega)).mono ?_
      rintro e w5 ⟨(⟨_, _, gx, cx, rfl, hcx, _, hox⟩ | ⟨hno, _⟩), hb5⟩
      · have hB5 : Hid (Below w.heap.size w w5) := hB4.out.trans (hb5.mono hB4.out.size)
        have hO5 : Hid (RdM w5 ao co exO) := hO4.out.below hb5
        have hx5 : Hid (RdI w5 (some ⟨gx, 0, none⟩) cx [0, 3, -1]) := by
          have e : canonL [0, -3, 1] = [0, 3, -1] := by decide
          rw [e] at hox
          exact hox.rd hcx (by unfold I64; decide)
        obtain ⟨W6, hW6⟩ : ∃ W, W = layM w5 exO := ⟨_, rfl⟩
        have hb6 : Below w5.heap.size w5 W6 := by rw [hW6]; exact below_layM w5 exO
        have hE6 : Hid (RdM W6 (some ⟨w5.heap.size + 1 + 1 + 1, 0, none⟩) 3 exO) := by rw [hW6]; exact rd_layM w5 exO small_I64.2.2
        have HW6 : Hid ((((w5.alloc (.cells #[.int .i64 1, .int .i64 (-1)] 2)).alloc (.cells #[.int .i64 1, .int .i64 0] 2)).alloc (.cells #[.int .i64 0, .int .i64 2] 2)).alloc
            (.cells #[.slice (some ⟨w5.heap.size, 0, none⟩) 2 2, .slice (some ⟨w5.heap.size + 1, 0, none⟩) 2 2, .slice (some ⟨w5.heap.size + 1 + 1, 0, none⟩) 2 2] 22) = W6) := by
          unfold Hid
          rw [hW6]; rfl
        have hO6 : Hid (RdM W6 ao co exO) := hO5.out.below hb6
        have hx6 : Hid (RdI W6 (some ⟨gx, 0, none⟩) cx [0, 3, -1]) := hx5.out.below hb6
        have hB6 : Hid (Below w.heap.size w W6) := hB5.out.trans (hb6.mono hB5.out.size)
        have hlx : ([0, -3, 1] : List Int).length = 3 := rfl
        rw [hlx]
        clear hlx hb5 hox hcx hW6 hb6
        go_wp2_with fail
        rw [HW6.out]
        refine (rsame_any ao _ 3 co 3 3 exO exO W6 hO6.out rfl hE6.out rfl (by omega) (by omega)).mono ?_
        rintro e w7 ⟨r, rfl, hr, q, rfl⟩
        have hrt : r = true := hr.2 ⟨rfl, fun _ _ => rfl⟩
        subst hrt
        have hx7 : RdI (W6.drewN q) (some ⟨gx, 0, none⟩) cx [0, 3, -1] := hx6.out.below (below_drewN' (Below.refl _ _) q)
        obtain ⟨W8, hW8⟩ : ∃ W, W = (W6.drewN q).alloc (.cells #[.int .i64 0, .int .i64 3, .int .i64 (-1)] 2) := ⟨_, rfl⟩
        have hb8 : Below (W6.drewN q).heap.size (W6.drewN q) W8 := by rw [hW8]; exact (Below.refl _ _).alloc (Nat.le_refl _) _
        have HW8b : Hid ((W6.drewN q).alloc (.cells #[.int .i64 0, .int .i64 3, .int .i64 (-1)] 2) = W8) := hW8.symm
        have hx8 : Hid (RdI W8 (some ⟨gx, 0, none⟩) cx [0, 3, -1]) := hx7.below hb8
        have hy8 : Hid (RdI W8 (some ⟨W6.heap.size, 0, none⟩) 3 [0, 3, -1]) := by rw [hW8]; exact rd_made (W6.drewN q) [0, 3, -1] (by unfold I64; decide)
        have hB8 : Hid (Below w.heap.size w W8) := by
          have h := below_drewN' hB6.out q
          exact h.trans (hb8.mono h.size)
        clear hr hx7 hW8 hb8
        go_wp2_with fail
        rw [HW8b.out]
        refine (rcompare_any _ _ 3 cx 3 3 [0, 3, -1] [0, 3, -1] W8 hx8.out rfl hy8.out rfl (by omega) (by omega)).mono ?_
        rintro e w9 ⟨rfl, q2, rfl⟩
        rw [cmpL_self0]
        have hB9 : Hid (Below w.heap.size w (W8.drewN q2)) := below_drewN' hB8.out q2
        go_wp2_with fail
        go_ret
        exact ⟨rfl, hB9.out⟩
      · exact absurd ex_sign hno
    · exact absurd ⟨⟨exH_red, ⟨rfl, by decide⟩, ⟨rfl, by decide⟩⟩, by unfold IsLim; decide⟩ (hno 2)
  · exact absurd ex_all hno
end Go.Proofs.Ytdpgkegfkobdoaa
