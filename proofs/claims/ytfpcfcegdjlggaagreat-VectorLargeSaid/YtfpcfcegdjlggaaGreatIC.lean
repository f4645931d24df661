/- PROVED: for every description of a lattice (its dimension taken up to 4), every two lists of int64 and every shift, the program and the reference give the same norms and inner products, and the same answers whether there are any: of the lists shifted and cut or filled up with zeros to the length of the reduced form, and of the lists as they are (law VectorLarge, P9.2): the untied row, over all inputs. Conditions beyond the row's own: none. -/
import Derived.Test.YtfpcfcegdjlggaaGreatRows
import Derived.Test.YtfpcfcegdjlggaaGreatJ21
import Derived.Test.YtfpcfcegdjlggaaGreatJ25
import Derived.LaidMore
import Derived.Lay
import Derived.SevenTiedAt
import Derived.Stop.Joined
import Derived.Carry
namespace Go.Proofs.YtfpcfcegdjlggaaGreat.vectorLarge
open Go.ChangeShapes Go.WideShapes Go.ChangeAt Go.RowKit Go.Deep Go.Proofs.YtfpcfcegdjlggaaGreat

set_option maxRecDepth 100000 in
theorem lifted (os : Os) (started : os.Started) (H : Type) (enc : TypeId × Value → H) :
    ReturnsInHanded {} Tryz.checked os 5 .any (Rows.vectorLargeSpec.pre6 enc Tryz.prog Tryz.f5 Rows.vectorLargeRow.domain false) (Rows.vectorLargeSpec.post enc Tryz.prog Tryz.f5 false true false false) := by
  refine returnsInHanded_of_change_sized (C := Tryz.checked) ownV started (by kernel_rfl) Tryz.func5
    (ChangeSpec.witness6 (enc := enc) (C := Tryz.checked) false ⟨#[], #[.agg #[.int .u8 0, .int .u8 0, .slice none 0 0, .slice none 0 0], .slice none 0 0, .slice none 0 0, .int .u8 0], []⟩ 8 (by kernel_rfl) (by kernel_rfl) (by kernel_rfl) (by kernel_rfl)) ?_
  intro W base args ds gs before hval0 hW hc hw0 _
  have hval : ∀ (j : Nat) t v, Tryz.f5.params[j]? = some t → args[j]? = some v → Value.okWide Tryz.prog W .any base t v := hval0
  have hW' := hW
  have hlow : ∀ x ∈ before, x.block < W.heap.size := fun x hx => hW.lt x hx
  obtain ⟨p, q, hA0, hV, rfl, _, _⟩ := hW
  have hA : DataW.TrodAll enc Tryz.prog W 0 (fun _ => true) true Tryz.f5.params.toList args.toList ds p := hA0
  have hw : (DataW.weightsEach Tryz.prog (Tryz.f5.params.toList ++ Rows.vectorLargeSpec.plain.varTypes Tryz.prog) (ds ++ gs)).all (· ≤ reachBytes) = true := hw0
  rw [Tryz.params5] at hA hval hw
  obtain ⟨v0, v1, v2, v3, d0, d1, d2, d3, p0, p1, p2, p3, rfl, rfl, rfl, h0, h1, h2, h3⟩ := trodAll_four hA
  obtain ⟨rfl, rfl⟩ := trodVars_none hV
  obtain ⟨dim, kind, al, ab, nl, capl, nb, capb, ks, rfl, hrL, hlL, hnL, hdim, hkind⟩ := open_lat (j := 0) (hval 0 26 v0 rfl rfl) h0 hw rfl rfl
  obtain ⟨a1, n1, cap1, xs1, rfl, hr1, hl1, hn1, hc1⟩ := open_i64s (hval 1 23 v1 rfl rfl) h1 (fun e s he => sized_slice hw (j := 1) (t := 23) rfl (by rw [he]; rfl) Tryz.underlying23)
  obtain ⟨a2, n2, cap2, xs2, rfl, hr2, hl2, hn2, hc2⟩ := open_i64s (hval 2 23 v2 rfl rfl) h2 (fun e s he => sized_slice hw (j := 2) (t := 23) rfl (by rw [he]; rfl) Tryz.underlying23)
  obtain ⟨x3, rfl, rfl, hp3, wx3⟩ := open_int Tryz.underlying5 (hval 3 5 v3 rfl rfl) h3
  obtain ⟨k3, rfl, hk3⟩ : ∃ k : Nat, x3 = (k : Int) ∧ k ≤ 255 := by
    have hb := bounds_u8 wx3
    exact ⟨x3.toNat, by omega, by omega⟩
  simp only [List.append_nil, List.append_assoc] at hW' hlow
  refine (vectorLarge_walk dim kind al ab nl capl nb capb ks a1 n1 cap1 xs1 a2 n2 cap2 xs2 k3 W hrL hlL hnL hdim hkind hr1 hl1 (by omega) hr2 hl2 (by omega) hk3).mono fun e W' ⟨he, hb⟩ => ?_
  subst he
  exact ⟨_, rfl, post_belowV (pa := p0 ++ (p1 ++ (p2 ++ p3))) (pv := []) hW' (fun _ _ _ => trodAll_mk1 (shut_bool Tryz.underlying4 _)) (fun sp hsp => trodAll_mk4 (lat_stays h0 hb (fun x hx => hlow x (List.mem_append_left _ hx)) (fun x hx => hsp x (List.mem_append_left _ hx))) (i64s_stays h1 hb (fun x hx => hlow x (List.mem_append_right _ (List.mem_append_left _ hx))) (fun x hx => hsp x (List.mem_append_right _ (List.mem_append_left _ hx)))) (i64s_stays h2 hb (fun x hx => hlow x (List.mem_append_right _ (List.mem_append_right _ (List.mem_append_left _ hx)))) (fun x hx => hsp x (List.mem_append_right _ (List.mem_append_right _ (List.mem_append_left _ hx))))) (by rw [hp3]; exact shut_int Tryz.underlying5 wx3)) (fun _ _ => rfl) (by simp) hb (ok_one (by kernel_rfl) rfl (okWide_bool_mk Tryz.underlying4 _))⟩

theorem over : Rows.VectorLargeSaid :=
  OpenClaim.holds_of_wide 5 Tryz.f5 rfl rfl rfl rfl rfl rfl rfl ⟨rfl, rfl, rfl, rfl, rfl⟩ rfl rfl rfl rfl rfl (by kernel_rfl) Tryz.func5 (by kernel_rfl)
    (of_decide_eq_true (by kernel_rfl)) (by unfold Func.isWrapper; first | (rw [if_pos (by decide +kernel)]; kernel_rfl) | (rw [if_neg (by decide +kernel)]; exact ⟨rfl, rfl⟩))
    (fun os started H enc _ => lifted os started H enc)
#print axioms over
end Go.Proofs.YtfpcfcegdjlggaaGreat.vectorLarge
