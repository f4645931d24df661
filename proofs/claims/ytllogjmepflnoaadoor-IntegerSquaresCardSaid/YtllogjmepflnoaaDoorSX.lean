/- PROVED: for every two Ints a and b of up to 10 limbs, canonical or not, Sqrt gives |a| and true of the square of a, and also of a number between it and the next square (law IntegerSquares, P1.7); beyond 10 limbs the sanity check holds: the given row of IntegerSquares and its tied card. No condition beyond the row's own (the two listed library tables are laid as the program's text lays them). -/
import Derived.Test.YtllogjmepflnoaaDoorTie
import Derived.Test.YtllogjmepflnoaaDoorCards
import Derived.Test.YtllogjmepflnoaaDoorAI
import Derived.Test.YtllogjmepflnoaaDoorSW
import Derived.LaidMore
import Derived.Lay
import Derived.SevenTiedAt
import Derived.Stop.Joined
namespace Go.Proofs.YtllogjmepflnoaaDoor.integerSquares
open Go.ChangeShapes Go.WideShapes Go.ChangeAt Go.RowKit Go.Proofs.YtllogjmepflnoaaDoor

set_option maxRecDepth 100000 in
theorem lifted (os : Os) (started : os.Started) (H : Type) (enc : TypeId × Value → H) :
    ReturnsInHanded {} Tryd.checked os 13 .any (fun w args => (Rows.integerSquaresSpec.pre enc Tryd.prog Tryd.f13 Rows.integerSquaresRow.domain false w args ∧ laidMetH Tryd.prog Rows.integerSquaresRow.laid w) ∧ sizedMet enc Tryd.prog Tryd.f13 (OpenSpec.ofChange Rows.integerSquaresSpec) false w args)
      (Rows.integerSquaresSpec.post enc Tryd.prog Tryd.f13 false true false false) := by
  refine returnsInHanded_of_change_and (C := Tryd.checked) (X := fun w _ => laidMetH Tryd.prog Rows.integerSquaresRow.laid w) (fun _ _ _ hh h => h.of_heap hh) own started (by kernel_rfl) Tryd.func13
    (ChangeSpec.witness_shaped (enc := enc) (C := Tryd.checked) (os := os) (X := fun w _ => laidMetH Tryd.prog Rows.integerSquaresRow.laid w) false (World.laidAll Tryd.prog os Rows.integerSquaresRow.laid) #[.agg #[.bool false, .slice none 0 0], .agg #[.bool false, .slice none 0 0]] 8 (World.laidAll_os _ _ _)
      (World.shaped_of_ZipB (by kernel_rfl) (by kernel_rfl)) (by kernel_rfl) (by kernel_rfl) (by kernel_rfl)
      (by rw [MakeChecks.laidMetH_plain _ _ _ (by kernel_rfl)]; exact laidMet_laidAll _ (by kernel_rfl) (by kernel_rfl))) ?_
  intro W base args ds gs before hval0 hW hc _ hL _
  have hval : ∀ (j : Nat) t v, Tryd.f13.params[j]? = some t → args[j]? = some v → Value.okWide Tryd.prog W .any base t v := hval0
  have hW' := hW
  have hlow : ∀ x ∈ before, x.block < W.heap.size := fun x hx => hW.lt x hx
  obtain ⟨p, q, hA0, hV, rfl, _, _⟩ := hW
  have hA : DataW.TrodAll enc Tryd.prog W 0 (fun _ => true) true Tryd.f13.params.toList args.toList ds p := hA0
  rw [Tryd.params13] at hA hval
  obtain ⟨v0, v1, d0, d1, p0, p1, rfl, rfl, rfl, h0, h1⟩ := trodAll_two hA
  obtain ⟨rfl, rfl⟩ := trodVars_none hV
  obtain ⟨na, a, n, cap, xs, rfl, hr0, hl0, hm0⟩ := open_apiInt (hval 0 24 v0 rfl rfl) h0
  obtain ⟨nb, b, m, cap', ys, rfl, hr1, hl1, hm1⟩ := open_apiInt (hval 1 24 v1 rfl rfl) h1
  simp only [List.append_nil] at hW' hlow
  refine (integerSquares_walk na nb a b n m cap cap' xs ys W hr0 hr1 hl0 hl1).mono fun e W' ⟨he, hb⟩ => ?_
  subst he
  exact ⟨_, rfl, post_below (pa := p0 ++ p1) (pv := []) hW' (fun _ _ _ => trodAll_mk1 (shut_bool Tryd.underlying4 _)) (fun sp hsp => trodAll_mk2 (apiInt_stays h0 hb (fun x hx => hlow x (List.mem_append_left _ hx)) (fun x hx => hsp x (List.mem_append_left _ hx))) (apiInt_stays h1 hb (fun x hx => hlow x (List.mem_append_right _ hx)) (fun x hx => hsp x (List.mem_append_right _ hx)))) (fun _ _ => rfl) (by simp) hb (ok_one (by kernel_rfl) rfl (okWide_bool_mk Tryd.underlying4 _))⟩

theorem over : Rows.IntegerSquaresSaid :=
  OpenClaim.holds_of_wide 13 Tryd.f13 rfl rfl rfl rfl rfl rfl rfl ⟨rfl, rfl, rfl, rfl, rfl⟩ rfl rfl rfl rfl rfl (by kernel_rfl) Tryd.func13 (by kernel_rfl)
    (of_decide_eq_true (by kernel_rfl)) (by unfold Func.isWrapper; first | (rw [if_pos (by decide +kernel)]; kernel_rfl) | (rw [if_neg (by decide +kernel)]; exact ⟨rfl, rfl⟩))
    (fun os started H enc _ => lifted os started H enc)

theorem card_holds : Rows.IntegerSquaresCardSaid :=
  Claim7.holds_tied_plain_at .later [] [.data, .pinned] true (true, "a9d94c2cb87a2d3d14f86c9dc14d75e3c34e29b638d8f5d5ccd89ca93181addd") false over (fun _ h => by cases h) (by kernel_rfl) (fun _ h => by cases h) integerSquares_row_tie rfl ⟨rfl, rfl⟩ (by kernel_rfl) rfl
    (fun f fn hf hfn => by
      obtain rfl : f = 13 := Option.some.inj ((show Tryd.prog.funcNamed "quadform/quadformlaw01.IntegerSquares" = some 13 by kernel_rfl).symm.trans hf) |>.symm
      obtain rfl : fn = Tryd.f13 := (Option.some.inj (Tryd.func13.symm.trans hfn)).symm
      exact ⟨by kernel_rfl, fun j t ht => by
        rw [Tryd.params13] at ht
        have hm : t ∈ [24, 24] := by simpa using Array.mem_of_getElem? ht
        have hall : ([24, 24].all fun u => !Tryd.prog.wantsStandIn u) = true := by kernel_rfl
        exact (show Tryd.prog.wantsStandIn t = false by simpa using List.all_eq_true.1 hall t hm)⟩)
    (by kernel_rfl)
#print axioms card_holds
end Go.Proofs.YtllogjmepflnoaaDoor.integerSquares
