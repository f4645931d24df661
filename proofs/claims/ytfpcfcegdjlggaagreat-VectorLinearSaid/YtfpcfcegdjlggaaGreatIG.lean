/- PROVED: for every description of a lattice (its dimension taken up to 5), every three lists of int8 and every int8 number, the inner products of the drawn vectors with the reduced form are symmetric and linear, their norms are there, a norm is at least 1 exactly for a list that is not zero, and the inequality of Schwarz holds (law VectorLinear, P9.10): the untied row, over all inputs. Conditions beyond the row's own: none. -/
import Derived.Test.YtfpcfcegdjlggaaGreatRows
import Derived.LaidMore
import Derived.Lay
import Derived.SevenTiedAt
import Derived.Stop.Joined
import Derived.Carry
import Derived.Test.YtfpcfcegdjlggaaGreatJ01
import Derived.Test.YtfpcfcegdjlggaaGreatJ02
import Derived.Test.YtfpcfcegdjlggaaGreatJ03
import Derived.Test.YtfpcfcegdjlggaaGreatJ04
import Derived.Test.YtfpcfcegdjlggaaGreatJ05
import Derived.Test.YtfpcfcegdjlggaaGreatJ06
import Derived.Test.YtfpcfcegdjlggaaGreatJ07
import Derived.Test.YtfpcfcegdjlggaaGreatJ08
import Derived.Test.YtfpcfcegdjlggaaGreatJ09
import Derived.Test.YtfpcfcegdjlggaaGreatJ10
import Derived.Test.YtfpcfcegdjlggaaGreatJ11
import Derived.Test.YtfpcfcegdjlggaaGreatJ12
import Derived.Test.YtfpcfcegdjlggaaGreatJ13
import Derived.Test.YtfpcfcegdjlggaaGreatJ14
import Derived.Test.YtfpcfcegdjlggaaGreatJ15
import Derived.Test.YtfpcfcegdjlggaaGreatJ16
import Derived.Test.YtfpcfcegdjlggaaGreatJ17
import Derived.Test.YtfpcfcegdjlggaaGreatJ18
import Derived.Test.YtfpcfcegdjlggaaGreatJ19
import Derived.Test.YtfpcfcegdjlggaaGreatJ20
import Derived.Test.YtfpcfcegdjlggaaGreatJ21
import Derived.Test.YtfpcfcegdjlggaaGreatJ22
import Derived.Test.YtfpcfcegdjlggaaGreatJ23
import Derived.Test.YtfpcfcegdjlggaaGreatJ24
import Derived.Test.YtfpcfcegdjlggaaGreatJ25
import Derived.Test.YtfpcfcegdjlggaaGreatK01
namespace Go.Proofs.YtfpcfcegdjlggaaGreat.vectorLinear
open Go.ChangeShapes Go.WideShapes Go.ChangeAt Go.RowKit Go.Deep Go.Proofs.YtfpcfcegdjlggaaGreat

set_option maxRecDepth 100000 in
theorem lifted (os : Os) (started : os.Started) (H : Type) (enc : TypeId × Value → H) :
    ReturnsInHanded {} Tryz.checked os 9 .any (Rows.vectorLinearSpec.pre6 enc Tryz.prog Tryz.f9 Rows.vectorLinearRow.domain false) (Rows.vectorLinearSpec.post enc Tryz.prog Tryz.f9 false true false false) := by
  refine returnsInHanded_of_change_sized (C := Tryz.checked) ownV started (by kernel_rfl) Tryz.func9
    (ChangeSpec.witness6 (enc := enc) (C := Tryz.checked) false ⟨#[], #[.agg #[.int .u8 0, .int .u8 0, .slice none 0 0, .slice none 0 0], .slice none 0 0, .slice none 0 0, .slice none 0 0, .int .i8 0], []⟩ 8 (by kernel_rfl) (by kernel_rfl) (by kernel_rfl) (by kernel_rfl)) ?_
  intro W base args ds gs before hval0 hW hc hw0 _
  have hval : ∀ (j : Nat) t v, Tryz.f9.params[j]? = some t → args[j]? = some v → Value.okWide Tryz.prog W .any base t v := hval0
  have hW' := hW
  have hlow : ∀ x ∈ before, x.block < W.heap.size := fun x hx => hW.lt x hx
  obtain ⟨p, q, hA0, hV, rfl, _, _⟩ := hW
  have hA : DataW.TrodAll enc Tryz.prog W 0 (fun _ => true) true Tryz.f9.params.toList args.toList ds p := hA0
  have hw : (DataW.weightsEach Tryz.prog (Tryz.f9.params.toList ++ Rows.vectorLinearSpec.plain.varTypes Tryz.prog) (ds ++ gs)).all (· ≤ reachBytes) = true := hw0
  rw [Tryz.params9] at hA hval hw
  obtain ⟨v0, v1, v2, v3, v4, d0, d1, d2, d3, d4, p0, p1, p2, p3, p4, rfl, rfl, rfl, h0, h1, h2, h3, h4⟩ := trodAll_five hA
  obtain ⟨rfl, rfl⟩ := trodVars_none hV
  obtain ⟨dim, kind, al, ab, nl, capl, nb, capb, ks, rfl, hrL, hlL, hnL, hdim, hkind⟩ := open_lat (j := 0) (hval 0 26 v0 rfl rfl) h0 hw rfl rfl
  obtain ⟨a1, n1, cap1, xs1, rfl, hr1, hl1, hn1⟩ := open_i8s (hval 1 24 v1 rfl rfl) h1 (fun e s he => sized_slice hw (j := 1) (t := 24) rfl (by rw [he]; rfl) Tryz.underlying24)
  obtain ⟨a2, n2, cap2, xs2, rfl, hr2, hl2, hn2⟩ := open_i8s (hval 2 24 v2 rfl rfl) h2 (fun e s he => sized_slice hw (j := 2) (t := 24) rfl (by rw [he]; rfl) Tryz.underlying24)
  obtain ⟨a3, n3, cap3, xs3, rfl, hr3, hl3, hn3⟩ := open_i8s (hval 3 24 v3 rfl rfl) h3 (fun e s he => sized_slice hw (j := 3) (t := 24) rfl (by rw [he]; rfl) Tryz.underlying24)
  obtain ⟨x4, rfl, rfl, hp4, wx4⟩ := open_int Tryz.underlying47 (hval 4 47 v4 rfl rfl) h4
  have hx4 := bounds_i8 wx4
  simp only [List.append_nil, List.append_assoc] at hW' hlow
  refine (vectorLinear_walk dim kind al ab nl capl nb capb ks a1 n1 cap1 xs1 a2 n2 cap2 xs2 a3 n3 cap3 xs3 x4 W hrL hlL hnL hdim hkind hr1 hl1 hn1 hr2 hl2 hn2 hr3 hl3 hn3 hx4).mono fun e W' ⟨he, hb⟩ => ?_
  subst he
  exact ⟨_, rfl, post_belowV (pa := p0 ++ (p1 ++ (p2 ++ (p3 ++ p4)))) (pv := []) hW' (fun _ _ _ => trodAll_mk1 (shut_bool Tryz.underlying4 _)) (fun sp hsp => trodAll_mk5 (lat_stays h0 hb (fun x hx => hlow x (List.mem_append_left _ hx)) (fun x hx => hsp x (List.mem_append_left _ hx))) (i8s_stays h1 hb (fun x hx => hlow x (List.mem_append_right _ (List.mem_append_left _ hx))) (fun x hx => hsp x (List.mem_append_right _ (List.mem_append_left _ hx)))) (i8s_stays h2 hb (fun x hx => hlow x (List.mem_append_right _ (List.mem_append_right _ (List.mem_append_left _ hx)))) (fun x hx => hsp x (List.mem_append_right _ (List.mem_append_right _ (List.mem_append_left _ hx))))) (i8s_stays h3 hb (fun x hx => hlow x (List.mem_append_right _ (List.mem_append_right _ (List.mem_append_right _ (List.mem_append_left _ hx))))) (fun x hx => hsp x (List.mem_append_right _ (List.mem_append_right _ (List.mem_append_right _ (List.mem_append_left _ hx)))))) (by rw [hp4]; exact shut_int Tryz.underlying47 wx4)) (fun _ _ => rfl) (by simp) hb (ok_one (by kernel_rfl) rfl (okWide_bool_mk Tryz.underlying4 _))⟩

theorem over : Rows.VectorLinearSaid :=
  OpenClaim.holds_of_wide 9 Tryz.f9 rfl rfl rfl rfl rfl rfl rfl ⟨rfl, rfl, rfl, rfl, rfl⟩ rfl rfl rfl rfl rfl (by kernel_rfl) Tryz.func9 (by kernel_rfl)
    (of_decide_eq_true (by kernel_rfl)) (by unfold Func.isWrapper; first | (rw [if_pos (by decide +kernel)]; kernel_rfl) | (rw [if_neg (by decide +kernel)]; exact ⟨rfl, rfl⟩))
    (fun os started H enc _ => lifted os started H enc)
#print axioms over
end Go.Proofs.YtfpcfcegdjlggaaGreat.vectorLinear
