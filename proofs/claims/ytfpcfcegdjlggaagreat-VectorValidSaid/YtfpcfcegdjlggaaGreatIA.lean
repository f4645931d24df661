/- PROVED: for every list of lists of int64, every list of int64, every description of a lattice (its dimension taken up to 4), every list of int8 and either choice of a coordinate near the limit, Valid gives what the reference gives: of the raw lists, of the reduced form with the raw list, and of the reduced form with the drawn list (law VectorValid, P9.1): the untied row, over all inputs. Conditions beyond the row's own: none. -/
import Derived.Test.YtfpcfcegdjlggaaGreatRows
import Derived.Test.YtfpcfcegdjlggaaGreatJ24
import Derived.LaidMore
import Derived.Lay
import Derived.SevenTiedAt
import Derived.Stop.Joined
import Derived.Carry
namespace Go.Proofs.YtfpcfcegdjlggaaGreat.vectorValid
open Go.ChangeShapes Go.WideShapes Go.ChangeAt Go.RowKit Go.Deep Go.Proofs.YtfpcfcegdjlggaaGreat

set_option maxRecDepth 100000 in
theorem lifted (os : Os) (started : os.Started) (H : Type) (enc : TypeId × Value → H) :
    ReturnsInHanded {} Tryz.checked os 3 .any (Rows.vectorValidSpec.pre6 enc Tryz.prog Tryz.f3 Rows.vectorValidRow.domain false) (Rows.vectorValidSpec.post enc Tryz.prog Tryz.f3 false true false false) := by
  refine returnsInHanded_of_change_sized (C := Tryz.checked) ownV started (by kernel_rfl) Tryz.func3
    (ChangeSpec.witness6 (enc := enc) (C := Tryz.checked) false ⟨#[], #[.slice none 0 0, .slice none 0 0, .agg #[.int .u8 0, .int .u8 0, .slice none 0 0, .slice none 0 0], .slice none 0 0, .bool false], []⟩ 8 (by kernel_rfl) (by kernel_rfl) (by kernel_rfl) (by kernel_rfl)) ?_
  intro W base args ds gs before hval0 hW hc hw0 _
  have hval : ∀ (j : Nat) t v, Tryz.f3.params[j]? = some t → args[j]? = some v → Value.okWide Tryz.prog W .any base t v := hval0
  have hW' := hW
  have hlow : ∀ x ∈ before, x.block < W.heap.size := fun x hx => hW.lt x hx
  obtain ⟨p, q, hA0, hV, rfl, _, _⟩ := hW
  have hA : DataW.TrodAll enc Tryz.prog W 0 (fun _ => true) true Tryz.f3.params.toList args.toList ds p := hA0
  have hw : (DataW.weightsEach Tryz.prog (Tryz.f3.params.toList ++ Rows.vectorValidSpec.plain.varTypes Tryz.prog) (ds ++ gs)).all (· ≤ reachBytes) = true := hw0
  rw [Tryz.params3] at hA hval hw
  obtain ⟨v0, v1, v2, v3, v4, d0, d1, d2, d3, d4, p0, p1, p2, p3, p4, rfl, rfl, rfl, h0, h1, h2, h3, h4⟩ := trodAll_five hA
  obtain ⟨rfl, rfl⟩ := trodVars_none hV
  obtain ⟨a0, n0, cap0, hs0, rfl, hr0, hl0, hn0⟩ := open_i64m (hval 0 22 v0 rfl rfl) h0 (fun e s he => sized_slice hw (j := 0) (t := 22) rfl (by rw [he]; rfl) Tryz.underlying22) (fun e s e' s' he hx => sized_row hw (j := 0) (t := 22) rfl (by rw [he]; rfl) Tryz.underlying22 Tryz.underlying23 hx)
  obtain ⟨a1, n1, cap1, xs1, rfl, hr1, hl1, hn1, hc1⟩ := open_i64s (hval 1 23 v1 rfl rfl) h1 (fun e s he => sized_slice hw (j := 1) (t := 23) rfl (by rw [he]; rfl) Tryz.underlying23)
  obtain ⟨dim, kind, al, ab, nl, capl, nb, capb, ks, rfl, hrL, hlL, hnL, hdim, hkind⟩ := open_lat (j := 2) (hval 2 26 v2 rfl rfl) h2 hw rfl rfl
  obtain ⟨a3, n3, cap3, xs3, rfl, hr3, hl3, hn3⟩ := open_i8s (hval 3 24 v3 rfl rfl) h3 (fun e s he => sized_slice hw (j := 3) (t := 24) rfl (by rw [he]; rfl) Tryz.underlying24)
  obtain ⟨x4, rfl, rfl, hp4⟩ := open_bool Tryz.underlying4 (hval 4 4 v4 rfl rfl) h4
  simp only [List.append_nil, List.append_assoc] at hW' hlow
  refine (vectorValid_walk a0 n0 cap0 hs0 a1 n1 cap1 xs1 dim kind al ab nl capl nb capb ks a3 n3 cap3 xs3 x4 W hr0 hl0 (by omega) hr1 hl1 (by omega) hrL hlL hnL hdim hkind hr3 hl3 hn3).mono fun e W' ⟨he, hb⟩ => ?_
  subst he
  exact ⟨_, rfl, post_belowV (pa := p0 ++ (p1 ++ (p2 ++ (p3 ++ p4)))) (pv := []) hW' (fun _ _ _ => trodAll_mk1 (shut_bool Tryz.underlying4 _)) (fun sp hsp => trodAll_mk5 (m_stays h0 hb (fun x hx => hlow x (List.mem_append_left _ hx)) (fun x hx => hsp x (List.mem_append_left _ hx))) (i64s_stays h1 hb (fun x hx => hlow x (List.mem_append_right _ (List.mem_append_left _ hx))) (fun x hx => hsp x (List.mem_append_right _ (List.mem_append_left _ hx)))) (lat_stays h2 hb (fun x hx => hlow x (List.mem_append_right _ (List.mem_append_right _ (List.mem_append_left _ hx)))) (fun x hx => hsp x (List.mem_append_right _ (List.mem_append_right _ (List.mem_append_left _ hx))))) (i8s_stays h3 hb (fun x hx => hlow x (List.mem_append_right _ (List.mem_append_right _ (List.mem_append_right _ (List.mem_append_left _ hx))))) (fun x hx => hsp x (List.mem_append_right _ (List.mem_append_right _ (List.mem_append_right _ (List.mem_append_left _ hx)))))) (by rw [hp4]; exact shut_bool Tryz.underlying4 _)) (fun _ _ => rfl) (by simp) hb (ok_one (by kernel_rfl) rfl (okWide_bool_mk Tryz.underlying4 _))⟩

theorem over : Rows.VectorValidSaid :=
  OpenClaim.holds_of_wide 3 Tryz.f3 rfl rfl rfl rfl rfl rfl rfl ⟨rfl, rfl, rfl, rfl, rfl⟩ rfl rfl rfl rfl rfl (by kernel_rfl) Tryz.func3 (by kernel_rfl)
    (of_decide_eq_true (by kernel_rfl)) (by unfold Func.isWrapper; first | (rw [if_pos (by decide +kernel)]; kernel_rfl) | (rw [if_neg (by decide +kernel)]; exact ⟨rfl, rfl⟩))
    (fun os started H enc _ => lifted os started H enc)
#print axioms over
end Go.Proofs.YtfpcfcegdjlggaaGreat.vectorValid
