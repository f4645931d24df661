/- PROVED: for every list of lists of int64 and every two lists of int64, Norm and Inner give what the reference gives: the norm and the inner product where the rows are a reduced form, both lists are vectors of it and the result is within the limits, and 0 and false everywhere else (law VectorRefuses, P9.2): the untied row. Conditions beyond the row's own: none. -/
import Derived.Test.YtpnnbjifhoonkaaGreatRows
import Derived.Test.YtpnnbjifhoonkaaGreatJ03
import Derived.Test.YtpnnbjifhoonkaaGreatJ24
import Derived.Deep.Matrix
import Derived.LaidMore
import Derived.Lay
import Derived.SevenTiedAt
import Derived.Stop.Joined
namespace Go.Proofs.YtpnnbjifhoonkaaGreat.vectorRefuses
open Go.ChangeShapes Go.WideShapes Go.ChangeAt Go.RowKit Go.Deep Go.Proofs.YtpnnbjifhoonkaaGreat

theorem readM : Tryz.prog.readableRec 22 = true := by kernel_rfl
theorem rowM : 22 < Tryz.prog.types.size := of_decide_eq_true (by kernel_rfl)
theorem m_stays {H : Type} {enc : TypeId × Value → H} {W W' : World} {v : Value} {d : DataW H} {ps : List MemPlace} {sp : Nat → Bool}
    (h : DataW.Trod enc Tryz.prog W 0 (fun _ => true) true 22 v d ps) (hb : Below W.heap.size W W') (hlow : ∀ x ∈ ps, x.block < W.heap.size) (hsp : ∀ x ∈ ps, sp x.block = true) :
    DataW.Trod enc Tryz.prog W' 0 sp true 22 v d ps :=
  WideElems.Trod_stays laidOutV readM rowM h (fun x hx => hb.same (hlow x hx)) hsp

/-- What an element weighs is among what the list's elements weigh. -/
theorem heavy_in {H : Type} {P : Program} {e : TypeId} (d : DataW H) (n : Nat) (hn : n ∈ d.weights P e) : ∀ l : List (DataW H), d ∈ l → n ∈ DataW.weightsAll P e l := by
  intro l
  induction l with
  | nil => intro h; cases h
  | cons x r ih =>
    intro h
    unfold DataW.weightsAll
    rw [List.mem_append]
    rcases List.mem_cons.1 h with e1 | e1
    · left; rw [← e1]; exact hn
    · right; exact ih e1

/-- How much an inner row weighs. -/
theorem sized_row {H : Type} {P : Program} {ts : List TypeId} {ds : List (DataW H)} (h : (DataW.weightsEach P ts ds).all (· ≤ reachBytes) = true) {j : Nat} {t e q : TypeId} {elems spare e' sp' : List (DataW H)}
    (ht : ts[j]? = some t) (hd : ds[j]? = some (.slice elems spare)) (hu : P.underlying t = some (.slice e)) (hu2 : P.underlying e = some (.slice q)) (hx : DataW.slice e' sp' ∈ elems) : (e'.length + sp'.length) * P.bytesOf q ≤ reachBytes := by
  refine of_decide_eq_true (List.all_eq_true.1 h _ (DataW.weights_mem_each ht hd _ ?_))
  simp only [DataW.weights, hu, List.mem_cons, List.mem_append]
  exact Or.inr (Or.inl (heavy_in _ _ (by simp [DataW.weights, hu2]) _ hx))

set_option maxRecDepth 100000 in
/-- WHAT A [][]int64 IS THAT COMES IN. -/
theorem open_i64m {H : Type} {enc : TypeId × Value → H} {W : World} {r : Reach} {base : Nat} {v : Value} {d : DataW H} {p : List MemPlace}
    (hv : Value.okWide Tryz.prog W r base 22 v) (h : DataW.Trod enc Tryz.prog W 0 (fun _ => true) true 22 v d p) (hz : ∀ e s, d = .slice e s → (e.length + s.length) * Tryz.prog.bytesOf 23 ≤ reachBytes)
    (hz2 : ∀ e s e' s', d = .slice e s → DataW.slice e' s' ∈ e → (e'.length + s'.length) * Tryz.prog.bytesOf 2 ≤ reachBytes) :
    ∃ (a : Option Addr) (n cap : Nat) (hs : List (List Int)), v = .slice a n cap ∧ RdM W a cap hs ∧ hs.length = n ∧ n ≤ 17592186043904 := by
  have c1 : Tryz.prog.cellsOf 2 = 1 := by kernel_rfl
  have c2 : Tryz.prog.cellsOf 23 = 1 := by kernel_rfl
  have b1 : Tryz.prog.bytesOf 2 = 8 := by kernel_rfl
  have b2 : Tryz.prog.bytesOf 23 = 24 := by kernel_rfl
  obtain ⟨ad, len, cap, rfl⟩ := okWide_slice Tryz.underlying22 hv
  obtain ⟨k, hk⟩ := h
  rcases open_int_rows Tryz.underlying22 Tryz.underlying23 Tryz.underlying2 c2 c1 hk with ⟨e1, _⟩ | ⟨a0, len0, cap0, A, L, C, Z, e1, _, hl, hm, hx, hrows⟩
  · have e1' : ad = none ∧ len = 0 ∧ cap = 0 := by simpa [Value.cells] using e1
    obtain ⟨rfl, rfl, rfl⟩ := e1'
    exact ⟨none, 0, 0, [], rfl, ⟨Nat.le_refl _, fun i hi => by simp at hi⟩, rfl, by omega⟩
  · have e1' : ad = some a0 ∧ len = len0 ∧ cap = cap0 := by simpa [Value.cells] using e1
    obtain ⟨rfl, rfl, rfl⟩ := e1'
    have hd : d = .slice ((List.range len).map fun r => intRow .i64 (A r) (L r) (Z r)) ((List.range (cap - len)).map fun j => intRow .i64 (A (len + j)) (L (len + j)) (Z (len + j))) := by simpa using congrArg Prod.fst hx
    have hb := hz _ _ hd
    rw [b2] at hb
    have hn : len ≤ 17592186043904 := by
      simp only [List.length_map, List.length_range] at hb
      unfold reachBytes at hb
      omega
    have hLb : ∀ r, r < len → L r ≤ 17592186044416 := fun r hr => by
      obtain ⟨_, h1, _, hzl, _, h3, _⟩ := hrows r (by omega)
      cases hA : A r with
      | none => have := h3 hA; omega
      | some a' =>
        have hin := hz2 _ _ (lits .i64 ((Z r).take (L r))) (lits .i64 ((Z r).drop (L r))) hd (List.mem_map.2 ⟨r, List.mem_range.2 hr, by simp [intRow, hA]⟩)
        rw [b1] at hin
        simp only [lits, List.length_map, List.length_take, List.length_drop] at hin
        unfold reachBytes at hin
        omega
    obtain ⟨hs, hhs⟩ : ∃ hs, hs = (List.range len).map fun r => (Z r).take (L r) := ⟨_, rfl⟩
    have hlen : hs.length = len := by rw [hhs]; simp
    have hget : ∀ r, r < len → hs.getD r [] = (Z r).take (L r) := fun r hr => by rw [hhs]; simp [List.getD_eq_getElem?_getD, hr]
    refine ⟨some a0, len, cap, hs, rfl, ⟨by omega, fun i hi => ?_⟩, hlen, hn⟩
    rw [hlen] at hi
    obtain ⟨hc, h1, h2, hzl, hwf, h3, h4⟩ := hrows i (by omega)
    obtain ⟨gb, go, gs⟩ := a0
    have hgs : gs = none := by simpa [Addr.add] using World.cell?_spot (hrows 0 (by omega)).1
    subst hgs
    have htl : ((Z i).take (L i)).length = L i := by rw [List.length_take]; omega
    refine ⟨gb, go, A i, C i, rfl, ?_, ?_, ?_⟩
    · rw [hget i hi, htl, ← add_plain]; exact hc
    · rw [hget i hi]
      refine ⟨by omega, fun x hx' => ?_, fun j hj => ?_⟩
      · have := bounds_i64 (hwf x (List.mem_of_mem_take hx'))
        unfold I64
        omega
      · rw [htl] at hj
        cases hA : A i with
        | none => have := h3 hA; omega
        | some a' =>
          obtain ⟨_, hcell⟩ := h4 a' hA
          obtain ⟨ab, ao, asp⟩ := a'
          have has : asp = none := by simpa [Addr.add] using World.cell?_spot (hcell 0 (by omega))
          subst has
          refine ⟨ab, ao, rfl, ?_⟩
          rw [← add_plain, hcell j (by omega), getD_take0 (Z i) (L i) j hj]
    · rw [hget i hi, htl]; exact hLb i hi

set_option maxRecDepth 100000 in
theorem lifted (os : Os) (started : os.Started) (H : Type) (enc : TypeId × Value → H) :
    ReturnsInHanded {} Tryz.checked os 3 .any (Rows.vectorRefusesSpec.pre6 enc Tryz.prog Tryz.f3 Rows.vectorRefusesRow.domain false) (Rows.vectorRefusesSpec.post enc Tryz.prog Tryz.f3 false true false false) := by
  refine returnsInHanded_of_change_sized (C := Tryz.checked) ownV started (by kernel_rfl) Tryz.func3
    (ChangeSpec.witness6 (enc := enc) (C := Tryz.checked) false ⟨#[], #[.slice none 0 0, .slice none 0 0, .slice none 0 0], []⟩ 8 (by kernel_rfl) (by kernel_rfl) (by kernel_rfl) (by kernel_rfl)) ?_
  intro W base args ds gs before hval0 hW hc hw0 _
  have hval : ∀ (j : Nat) t v, Tryz.f3.params[j]? = some t → args[j]? = some v → Value.okWide Tryz.prog W .any base t v := hval0
  have hW' := hW
  have hlow : ∀ x ∈ before, x.block < W.heap.size := fun x hx => hW.lt x hx
  obtain ⟨p, q, hA0, hV, rfl, _, _⟩ := hW
  have hA : DataW.TrodAll enc Tryz.prog W 0 (fun _ => true) true Tryz.f3.params.toList args.toList ds p := hA0
  have hw : (DataW.weightsEach Tryz.prog (Tryz.f3.params.toList ++ Rows.vectorRefusesSpec.plain.varTypes Tryz.prog) (ds ++ gs)).all (· ≤ reachBytes) = true := hw0
  rw [Tryz.params3] at hA hval hw
  obtain ⟨v0, v1, v2, d0, d1, d2, p0, p1, p2, rfl, rfl, rfl, h0, h1, h2⟩ := trodAll_three hA
  obtain ⟨rfl, rfl⟩ := trodVars_none hV
  obtain ⟨a0, n0, cap0, hs0, rfl, hr0, hl0, hn0⟩ := open_i64m (hval 0 22 v0 rfl rfl) h0 (fun e s he => sized_slice hw (j := 0) (t := 22) rfl (by rw [he]; rfl) Tryz.underlying22)
    (fun e s e' s' he hx => sized_row hw (j := 0) (t := 22) rfl (by rw [he]; rfl) Tryz.underlying22 Tryz.underlying23 hx)
  obtain ⟨a1, n1, cap1, xs1, rfl, hr1, hl1, hn1, hc1⟩ := open_i64s (hval 1 23 v1 rfl rfl) h1 (fun e s he => sized_slice hw (j := 1) (t := 23) rfl (by rw [he]; rfl) Tryz.underlying23)
  obtain ⟨a2, n2, cap2, xs2, rfl, hr2, hl2, hn2, hc2⟩ := open_i64s (hval 2 23 v2 rfl rfl) h2 (fun e s he => sized_slice hw (j := 2) (t := 23) rfl (by rw [he]; rfl) Tryz.underlying23)
  simp only [List.append_nil, List.append_assoc] at hW' hlow
  refine (vectorRefuses_walk a0 a1 a2 n0 cap0 n1 cap1 n2 cap2 hs0 xs1 xs2 W hr0 hl0 (by omega) hr1 hl1 (by omega) hr2 hl2 (by omega)).mono fun e W' ⟨he, hb⟩ => ?_
  subst he
  exact ⟨_, rfl, post_belowV (pa := p0 ++ (p1 ++ p2)) (pv := []) hW' (fun _ _ _ => trodAll_mk1 (shut_bool Tryz.underlying4 _)) (fun sp hsp => trodAll_mk3 (m_stays h0 hb (fun x hx => hlow x (List.mem_append_left _ hx)) (fun x hx => hsp x (List.mem_append_left _ hx))) (i64s_stays h1 hb (fun x hx => hlow x (List.mem_append_right _ (List.mem_append_left _ hx))) (fun x hx => hsp x (List.mem_append_right _ (List.mem_append_left _ hx)))) (i64s_stays h2 hb (fun x hx => hlow x (List.mem_append_right _ (List.mem_append_right _ hx))) (fun x hx => hsp x (List.mem_append_right _ (List.mem_append_right _ hx))))) (fun _ _ => rfl) (by simp) hb (ok_one (by kernel_rfl) rfl (okWide_bool_mk Tryz.underlying4 _))⟩

theorem over : Rows.VectorRefusesSaid :=
  OpenClaim.holds_of_wide 3 Tryz.f3 rfl rfl rfl rfl rfl rfl rfl ⟨rfl, rfl, rfl, rfl, rfl⟩ rfl rfl rfl rfl rfl (by kernel_rfl) Tryz.func3 (by kernel_rfl)
    (of_decide_eq_true (by kernel_rfl)) (by unfold Func.isWrapper; first | (rw [if_pos (by decide +kernel)]; kernel_rfl) | (rw [if_neg (by decide +kernel)]; exact ⟨rfl, rfl⟩))
    (fun os started H enc _ => lifted os started H enc)
#print axioms over
end Go.Proofs.YtpnnbjifhoonkaaGreat.vectorRefuses
