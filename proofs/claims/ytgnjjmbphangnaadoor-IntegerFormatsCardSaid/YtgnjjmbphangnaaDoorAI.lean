/-
  An argument of type api.Int, opened; and given back behind the call.
-/
import Derived.Test.YtgnjjmbphangnaaDoorB
import Derived.OpenShut
import Derived.Lib.SmallJoins
import Derived.WideKeyArgs
import Derived.Carry
import Derived.Below
import Derived.ChangeSame
import Derived.WalkKit
import Derived.ProofKit
namespace Go.Proofs.YtgnjjmbphangnaaDoor
open Go.ChangeShapes Go.WideShapes Go.ChangeAt Go.RowKit

theorem getD_nat (zs : List Int) (k i : Nat) (h0 : ∀ z ∈ zs, 0 ≤ z) (hi : i < k) (hk : k ≤ zs.length) : ((((zs.take k).map Int.toNat).getD i 0 : Nat) : Int) = zs.getD i 0 := by
  simp only [List.getD_eq_getElem?_getD, List.getElem?_map, List.getElem?_take, if_pos hi]
  rw [List.getElem?_eq_getElem (by omega)]
  simp only [Option.map_some, Option.getD_some]
  exact Int.toNat_of_nonneg (h0 _ (List.getElem_mem _))

/-- WHAT AN api.Int IS THAT COMES IN. -/
theorem open_apiInt {H : Type} {enc : TypeId × Value → H} {W : World} {r : Reach} {base : Nat} {v : Value} {d : DataW H} {p : List MemPlace}
    (hv : Value.okWide Tryd.prog W r base 25 v) (h : DataW.Trod enc Tryd.prog W 0 (fun _ => true) true 25 v d p) :
    ∃ (neg : Bool) (a : Option Addr) (n cap : Nat) (xs : List Nat), v = .agg #[.bool neg, .slice a n cap] ∧ Rd W a cap xs ∧ xs.length = n ∧ cap ≤ maxLen := by
  obtain ⟨v0, v1, y0, y1, m, rfl, rfl, rfl, h0, h1⟩ := Joins.open_agg2 Tryd.underlying25 (by kernel_rfl) (by kernel_rfl) hv h
  obtain ⟨b, e0, _⟩ := DataW.trod_bool Tryd.underlying4 h0
  obtain rfl : v0 = .bool b := by simpa using e0
  have c29 : Tryd.prog.cellsOf 52 = 1 := by kernel_rfl
  rcases open_ints Tryd.underlying23 Tryd.underlying52 c29 h1 with ⟨e1, _⟩ | ⟨ad, len, cap, zs, e1, _, hl, hm, hlen, _, hcell, hwf⟩
  · obtain rfl : v1 = .slice none 0 0 := by simpa using e1
    exact ⟨b, none, 0, 0, [], rfl, Rd.nil _ _ _, rfl, by unfold maxLen; omega⟩
  · obtain rfl : v1 = .slice (some ad) len cap := by simpa using e1
    simp only [if_true] at hlen
    have h0 : ∀ z ∈ zs, 0 ≤ z := fun z hz => (bounds_u32 (hwf z hz)).1
    refine ⟨b, some ad, len, cap, (zs.take len).map Int.toNat, rfl, ⟨?_, ?_, fun i hi => ?_⟩, ?_, hm⟩
    · rw [List.length_map, List.length_take]; omega
    · intro x hx
      obtain ⟨z, hz, rfl⟩ := List.mem_map.1 hx
      have := bounds_u32 (hwf z (List.mem_of_mem_take hz))
      omega
    · rw [List.length_map, List.length_take] at hi
      obtain ⟨g, o, rfl, hc⟩ := ints_at hcell (by omega)
      refine ⟨g, o, rfl, ?_⟩
      rw [hc i (by omega)]
      unfold nth
      rw [getD_nat zs len i h0 (by omega) (by omega)]
    · rw [List.length_map, List.length_take]; omega

theorem laidOut : laidOutB Tryd.prog = true := by kernel_rfl
theorem readable24 : Tryd.prog.readableRec 25 = true := by kernel_rfl
theorem row24 : 25 < Tryd.prog.types.size := of_decide_eq_true (by kernel_rfl)

/-- AND IT READS AS IT DID. -/
theorem apiInt_stays {H : Type} {enc : TypeId × Value → H} {W W' : World} {v : Value} {d : DataW H} {ps : List MemPlace} {sp : Nat → Bool}
    (h : DataW.Trod enc Tryd.prog W 0 (fun _ => true) true 25 v d ps) (hb : Below W.heap.size W W') (hlow : ∀ x ∈ ps, x.block < W.heap.size) (hsp : ∀ x ∈ ps, sp x.block = true) :
    DataW.Trod enc Tryd.prog W' 0 sp true 25 v d ps :=
  WideElems.Trod_stays laidOut readable24 row24 h (fun x hx => hb.same (hlow x hx)) hsp

section
variable {H : Type} {enc : TypeId × Value → H} {P : Program}
/-- The row's last step where of the world behind the call 'Below' alone is known. -/
theorem post_below {f : Func} {s : ChangeSpec} {apart fresh handsOn again : Bool} {W W' : World} {args : Array Value} {v : Value} {ds gs : List (DataW H)} {before pa pv : List MemPlace}
    (hW : DataW.Whole enc P f.params.toList s.vars apart W args.toList ds gs before)
    (hres : ∀ (b : Nat) (sp : Nat → Bool) (hd : Bool), DataW.TrodAll enc P W' b sp hd f.resultTypes.toList (v.resultList f.resultTypes.size) (s.fn H (ds ++ gs)).results [])
    (hargs : ∀ sp : Nat → Bool, (∀ p ∈ before, sp p.block = true) → DataW.TrodAll enc P W' 0 sp true f.params.toList args.toList (s.fn H (ds ++ gs)).args pa)
    (hvars : ∀ sp : Nat → Bool, (∀ p ∈ before, sp p.block = true) → DataW.TrodVars enc P W' sp s.vars (s.fn H (ds ++ gs)).vars pv)
    (hps : before = pa ++ pv) (hb : Below W.heap.size W W')
    (hok : ∀ (j : Nat) (t : TypeId) (r : Value), f.resultTypes[j]? = some t → (v.resultList f.resultTypes.size)[j]? = some r → Value.okWide P W' .any 0 t r) :
    s.post enc P f apart fresh handsOn again W args v W' := by
  have hlow : ∀ p ∈ before, p.block < W.heap.size := fun p hp => hW.lt p hp
  have hin : ∀ p ∈ before, (fun b => decide (b < W.heap.size)) p.block = true := fun p hp => decide_eq_true (hlow p hp)
  refine ⟨ds, gs, before, [], pa, pv, hW, hres _ _ _, hargs _ hin, hvars _ hin, World.keptBut_mono (fun p hp => ⟨hp, ?_⟩) (hb.frame (· ∈ before)), fun _ => ?_⟩
  · rw [hps] at hp
    exact .inr (by simpa using hp)
  · obtain ⟨_, _, _, _, _, hz, hn⟩ := hW
    refine ⟨hok, _, _, ([] ++ pa) ++ pv, ⟨[] ++ pa, pv, trodAll_append (hargs _ (fun _ _ => rfl)) (hres _ _ _), hvars _ (fun _ _ => rfl), rfl, fun b off hp => ?_, fun ha => ?_⟩, fun p hp _ => ?_⟩
    · have hm : MemPlace.cell b off ∈ before := by rw [hps]; simpa using hp
      rw [hb.frozen (hlow _ hm)]
      exact hz b off hm
    · have := hn ha
      rw [hps] at this
      simpa using this
    · rw [hps]
      simpa using hp
end


theorem own : ownKnob Tryd.prog.godebug = none := by kernel_rfl
end Go.Proofs.YtgnjjmbphangnaaDoor
