/-
  Arguments that are lists of numbers, opened; and given back behind the call.
-/
import Derived.Test.YtdpgkegfkobdoaaYV
import Derived.OpenShut
import Derived.Lib.SmallJoins
import Derived.WideKeyArgs
import Derived.SizedLaws
import Derived.Carry
import Derived.Below
import Derived.ChangeSame
import Derived.ChangeSlices
import Derived.WalkKit
import Derived.ProofKit
import Derived.Handed
namespace Go.Proofs.Ytdpgkegfkobdoaa
open Go.ChangeShapes Go.WideShapes Go.ChangeAt Go.RowKit

theorem getD_take0 (zs : List Int) (n i : Nat) (h : i < n) : (zs.take n).getD i 0 = zs.getD i 0 := by
  simp [List.getD_eq_getElem?_getD, List.getElem?_take, h]

set_option maxRecDepth 100000 in
/-- WHAT A []int64 IS THAT COMES IN. -/
theorem open_i64s {H : Type} {enc : TypeId × Value → H} {W : World} {r : Reach} {base : Nat} {v : Value} {d : DataW H} {p : List MemPlace}
    (hv : Value.okWide Try.prog W r base 22 v) (h : DataW.Trod enc Try.prog W 0 (fun _ => true) true 22 v d p) (hz : ∀ e s, d = .slice e s → (e.length + s.length) * Try.prog.bytesOf 2 ≤ reachBytes) :
    ∃ (a : Option Addr) (n cap : Nat) (xs : List Int), v = .slice a n cap ∧ RdI W a cap xs ∧ xs.length = n ∧ n ≤ 17592186043904 ∧ (a = none → cap = 0) := by
  have c1 : Try.prog.cellsOf 2 = 1 := by kernel_rfl
  have b1 : Try.prog.bytesOf 2 = 8 := by kernel_rfl
  obtain ⟨ad, len, cap, rfl⟩ := okWide_slice Try.underlying22 hv
  obtain ⟨k, hk⟩ := h
  rcases open_ints Try.underlying22 Try.underlying2 c1 hk with ⟨e1, _⟩ | ⟨ad0, len0, cap0, zs, e1, _, hl, hm, hlen, hd, hcell, hwf⟩
  · have e1' : ad = none ∧ len = 0 ∧ cap = 0 := by simpa [Value.cells] using e1
    obtain ⟨rfl, rfl, rfl⟩ := e1'
    exact ⟨none, 0, 0, [], rfl, RdI.nil _ _ _, rfl, by omega, fun _ => rfl⟩
  · have e1' : ad = some ad0 ∧ len = len0 ∧ cap = cap0 := by simpa [Value.cells] using e1
    obtain ⟨rfl, rfl, rfl⟩ := e1'
    simp only [if_true] at hlen
    have hd' : d = .slice (lits .i64 (zs.take len)) (lits .i64 (zs.drop len)) := by simpa using congrArg Prod.fst hd
    have hb := hz _ _ hd'
    rw [b1] at hb
    have hll : (zs.take len).length = len := by rw [List.length_take]; omega
    have hn : len ≤ 17592186043904 := by
      simp only [lits, List.length_map, List.length_take, List.length_drop] at hb
      unfold reachBytes at hb
      omega
    refine ⟨some ad0, len, cap, zs.take len, rfl, ⟨by omega, ?_, fun i hi => ?_⟩, hll, hn, fun h => by cases h⟩
    · intro x hx
      have := bounds_i64 (hwf x (List.mem_of_mem_take hx))
      unfold I64
      omega
    · rw [hll] at hi
      obtain ⟨g, o, rfl, hc⟩ := ints_at hcell (by omega)
      exact ⟨g, o, rfl, by rw [hc i (by omega), getD_take0 zs len i hi]⟩

set_option maxRecDepth 100000 in
/-- WHAT A []int8 IS THAT COMES IN. -/
theorem open_i8s {H : Type} {enc : TypeId × Value → H} {W : World} {r : Reach} {base : Nat} {v : Value} {d : DataW H} {p : List MemPlace}
    (hv : Value.okWide Try.prog W r base 26 v) (h : DataW.Trod enc Try.prog W 0 (fun _ => true) true 26 v d p) (hz : ∀ e s, d = .slice e s → (e.length + s.length) * Try.prog.bytesOf 62 ≤ reachBytes) :
    ∃ (a : Option Addr) (n cap : Nat) (xs : List Int), v = .slice a n cap ∧ Rd8 W a xs ∧ xs.length = n ∧ n ≤ 200000000000000 := by
  have c1 : Try.prog.cellsOf 62 = 1 := by kernel_rfl
  have b1 : Try.prog.bytesOf 62 = 1 := by kernel_rfl
  obtain ⟨ad, len, cap, rfl⟩ := okWide_slice Try.underlying26 hv
  obtain ⟨k, hk⟩ := h
  rcases open_ints Try.underlying26 Try.underlying62 c1 hk with ⟨e1, _⟩ | ⟨ad0, len0, cap0, zs, e1, _, hl, hm, hlen, hd, hcell, hwf⟩
  · have e1' : ad = none ∧ len = 0 ∧ cap = 0 := by simpa [Value.cells] using e1
    obtain ⟨rfl, rfl, rfl⟩ := e1'
    exact ⟨none, 0, 0, [], rfl, ⟨by simp, fun i hi => by simp at hi⟩, rfl, by omega⟩
  · have e1' : ad = some ad0 ∧ len = len0 ∧ cap = cap0 := by simpa [Value.cells] using e1
    obtain ⟨rfl, rfl, rfl⟩ := e1'
    simp only [if_true] at hlen
    have hd' : d = .slice (lits .i8 (zs.take len)) (lits .i8 (zs.drop len)) := by simpa using congrArg Prod.fst hd
    have hb := hz _ _ hd'
    rw [b1] at hb
    have hll : (zs.take len).length = len := by rw [List.length_take]; omega
    have hn : len ≤ 200000000000000 := by
      simp only [lits, List.length_map, List.length_take, List.length_drop] at hb
      unfold reachBytes at hb
      omega
    refine ⟨some ad0, len, cap, zs.take len, rfl, ⟨?_, fun i hi => ?_⟩, hll, hn⟩
    · intro x hx
      have := bounds_i8 (hwf x (List.mem_of_mem_take hx))
      omega
    · rw [hll] at hi
      obtain ⟨g, o, rfl, hc⟩ := ints_at hcell (by omega)
      exact ⟨g, o, rfl, by rw [hc i (by omega), getD_take0 zs len i hi]⟩

theorem laidOut : laidOutB Try.prog = true := by kernel_rfl
theorem readI64 : Try.prog.readableRec 22 = true := by kernel_rfl
theorem rowI64 : 22 < Try.prog.types.size := of_decide_eq_true (by kernel_rfl)
theorem readI8 : Try.prog.readableRec 26 = true := by kernel_rfl
theorem rowI8 : 26 < Try.prog.types.size := of_decide_eq_true (by kernel_rfl)

/-- AND IT READS AS IT DID. -/
theorem i64s_stays {H : Type} {enc : TypeId × Value → H} {W W' : World} {v : Value} {d : DataW H} {ps : List MemPlace} {sp : Nat → Bool}
    (h : DataW.Trod enc Try.prog W 0 (fun _ => true) true 22 v d ps) (hb : Below W.heap.size W W') (hlow : ∀ x ∈ ps, x.block < W.heap.size) (hsp : ∀ x ∈ ps, sp x.block = true) :
    DataW.Trod enc Try.prog W' 0 sp true 22 v d ps :=
  WideElems.Trod_stays laidOut readI64 rowI64 h (fun x hx => hb.same (hlow x hx)) hsp
theorem i8s_stays {H : Type} {enc : TypeId × Value → H} {W W' : World} {v : Value} {d : DataW H} {ps : List MemPlace} {sp : Nat → Bool}
    (h : DataW.Trod enc Try.prog W 0 (fun _ => true) true 26 v d ps) (hb : Below W.heap.size W W') (hlow : ∀ x ∈ ps, x.block < W.heap.size) (hsp : ∀ x ∈ ps, sp x.block = true) :
    DataW.Trod enc Try.prog W' 0 sp true 26 v d ps :=
  WideElems.Trod_stays laidOut readI8 rowI8 h (fun x hx => hb.same (hlow x hx)) hsp

section
variable {H : Type} {enc : TypeId × Value → H} {P : Program}
/-- The row's last step where of the world behind the call 'Below' alone is known. -/
theorem post_below {f : Func} {s : ChangeSpec} {apart fresh handsOn again : Bool} {W W' : World} {args : Array Value} {v : Value} {ds gs : List (DataW H)} {before pa pv : List MemPlace}
    (hW : DataW.Whole enc P f.params.toList s.vars apart W args.toList ds gs before)
    (hres : ∀ (b : Nat) (sp : Nat → Bool) (hd : Bool), DataW.TrodAll enc P W' b sp hd f.resultTypes.toList (v.resultList f.resultTypes.size) (s.fn H (ds ++ gs)).results [])
    (hargs : ∀ sp : Nat → Bool, (∀ p ∈ before, sp p.block = true) → DataW.TrodAll enc P W' 0 sp true f.params.toList args.toList (s.fn H (ds ++ gs)).args pa)
    (hvars : ∀ sp : Nat → Bool, (∀ p ∈ before, sp p.block = true) → DataW.TrodVars enc P W' sp s.vars (s.fn H (ds ++ gs)).vars pv)
    (hps : before = pa ++ pv) (hb : Below W.heap.size W W')
    (hok : ∀ (j : Nat) (t : TypeId) (r : Value), f.resultTypes[j]? = some t → (v.resultList f.resultTypes.size)[j]? = some r → Value.okWide P W' .any 0 t r) :
    s.post enc P f apart fresh handsOn again W args v W' := by
  have hlow : ∀ p ∈ before, p.block < W.heap.size := fun p hp => hW.lt p hp
  have hin : ∀ p ∈ before, (fun b => decide (b < W.heap.size)) p.block = true := fun p hp => decide_eq_true (hlow p hp)
  refine ⟨ds, gs, before, [], pa, pv, hW, hres _ _ _, hargs _ hin, hvars _ hin, World.keptBut_mono (fun p hp => ⟨hp, ?_⟩) (hb.frame (· ∈ before)), fun _ => ?_⟩
  · rw [hps] at hp
    exact .inr (by simpa using hp)
  · obtain ⟨_, _, _, _, _, hz, hn⟩ := hW
    refine ⟨hok, _, _, ([] ++ pa) ++ pv, ⟨[] ++ pa, pv, trodAll_append (hargs _ (fun _ _ => rfl)) (hres _ _ _), hvars _ (fun _ _ => rfl), rfl, fun b off hp => ?_, fun ha => ?_⟩, fun p hp _ => ?_⟩
    · have hm : MemPlace.cell b off ∈ before := by rw [hps]; simpa using hp
      rw [hb.frozen (hlow _ hm)]
      exact hz b off hm
    · have := hn ha
      rw [hps] at this
      simpa using this
    · rw [hps]
      simpa using hp
end


theorem own : ownKnob Try.prog.godebug = none := by kernel_rfl
end Go.Proofs.Ytdpgkegfkobdoaa
