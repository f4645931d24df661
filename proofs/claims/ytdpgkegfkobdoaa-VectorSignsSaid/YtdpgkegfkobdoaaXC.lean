/- PROVED: for every list of int64, and every drawn list of up to 9 elements, CanonicalSign gives what the reference gives: the list or its negative, whose first nonzero element is positive, and true; nil and false for a list of zeros and for a coordinate beyond the limit (law VectorSigns, P9.4): the given row of VectorSigns, over all inputs. No condition beyond the row's own. -/
import Derived.Test.YtdpgkegfkobdoaaRows
import Derived.Test.YtdpgkegfkobdoaaYX
import Derived.Test.YtdpgkegfkobdoaaYYS
import Derived.LaidMore
import Derived.Lay
import Derived.SevenTiedAt
import Derived.Stop.Joined
namespace Go.Proofs.Ytdpgkegfkobdoaa.vectorSigns
open Go.ChangeShapes Go.WideShapes Go.ChangeAt Go.RowKit Go.Proofs.Ytdpgkegfkobdoaa

set_option maxRecDepth 100000 in
theorem lifted (os : Os) (started : os.Started) (H : Type) (enc : TypeId × Value → H) :
    ReturnsInHanded {} Try.checked os 4 .any (Rows.vectorSignsSpec.pre6 enc Try.prog Try.f4 Rows.vectorSignsRow.domain false) (Rows.vectorSignsSpec.post enc Try.prog Try.f4 false true false false) := by
  refine returnsInHanded_of_change_sized (C := Try.checked) own started (by kernel_rfl) Try.func4
    (ChangeSpec.witness6 (enc := enc) (C := Try.checked) false ⟨#[], #[.slice none 0 0, .slice none 0 0, .int .u8 0], []⟩ 8 (by kernel_rfl) (by kernel_rfl) (by kernel_rfl) (by kernel_rfl)) ?_
  intro W base args ds gs before hval0 hW hc hw0 _
  have hval : ∀ (j : Nat) t v, Try.f4.params[j]? = some t → args[j]? = some v → Value.okWide Try.prog W .any base t v := hval0
  have hW' := hW
  have hlow : ∀ x ∈ before, x.block < W.heap.size := fun x hx => hW.lt x hx
  obtain ⟨p, q, hA0, hV, rfl, _, _⟩ := hW
  have hA : DataW.TrodAll enc Try.prog W 0 (fun _ => true) true Try.f4.params.toList args.toList ds p := hA0
  have hw : (DataW.weightsEach Try.prog (Try.f4.params.toList ++ Rows.vectorSignsSpec.plain.varTypes Try.prog) (ds ++ gs)).all (· ≤ reachBytes) = true := hw0
  rw [Try.params4] at hA hval hw
  obtain ⟨v0, v1, v2, d0, d1, d2, p0, p1, p2, rfl, rfl, rfl, h0, h1, h2⟩ := trodAll_three hA
  obtain ⟨rfl, rfl⟩ := trodVars_none hV
  obtain ⟨a0, n0, cap0, xs0, rfl, hr0, hl0, hn0, hc0⟩ := open_i64s (hval 0 22 v0 rfl rfl) h0 (fun e s he => sized_slice hw (j := 0) (t := 22) rfl (by rw [he]; rfl) Try.underlying22)
  obtain ⟨a1, n1, cap1, xs1, rfl, hr1, hl1, hn1⟩ := open_i8s (hval 1 26 v1 rfl rfl) h1 (fun e s he => sized_slice hw (j := 1) (t := 26) rfl (by rw [he]; rfl) Try.underlying26)
  obtain ⟨x2, rfl, rfl, hp2, wx2⟩ := open_int Try.underlying5 (hval 2 5 v2 rfl rfl) h2
  obtain ⟨k2, rfl, hk2⟩ : ∃ k : Nat, x2 = (k : Int) ∧ k ≤ 255 := by
    have hb := bounds_u8 wx2
    exact ⟨x2.toNat, by omega, by omega⟩
  simp only [List.append_nil, List.append_assoc] at hW' hlow
  refine (vectorSigns_walk a0 n0 cap0 xs0 a1 n1 cap1 xs1 k2 W hr0 hl0 hn0 hr1 hl1 hn1 hk2).mono fun e W' ⟨he, hb⟩ => ?_
  subst he
  exact ⟨_, rfl, post_below (pa := p0 ++ (p1 ++ p2)) (pv := []) hW' (fun _ _ _ => trodAll_mk1 (shut_bool Try.underlying4 _)) (fun sp hsp => trodAll_mk3 (i64s_stays h0 hb (fun x hx => hlow x (List.mem_append_left _ hx)) (fun x hx => hsp x (List.mem_append_left _ hx))) (i8s_stays h1 hb (fun x hx => hlow x (List.mem_append_right _ (List.mem_append_left _ hx))) (fun x hx => hsp x (List.mem_append_right _ (List.mem_append_left _ hx)))) (by rw [hp2]; exact shut_int Try.underlying5 wx2)) (fun _ _ => rfl) (by simp) hb (ok_one (by kernel_rfl) rfl (okWide_bool_mk Try.underlying4 _))⟩

theorem over : Rows.VectorSignsSaid :=
  OpenClaim.holds_of_wide 4 Try.f4 rfl rfl rfl rfl rfl rfl rfl ⟨rfl, rfl, rfl, rfl, rfl⟩ rfl rfl rfl rfl rfl (by kernel_rfl) Try.func4 (by kernel_rfl)
    (of_decide_eq_true (by kernel_rfl)) (by unfold Func.isWrapper; first | (rw [if_pos (by decide +kernel)]; kernel_rfl) | (rw [if_neg (by decide +kernel)]; exact ⟨rfl, rfl⟩))
    (fun os started H enc _ => lifted os started H enc)
#print axioms over
end Go.Proofs.Ytdpgkegfkobdoaa.vectorSigns
