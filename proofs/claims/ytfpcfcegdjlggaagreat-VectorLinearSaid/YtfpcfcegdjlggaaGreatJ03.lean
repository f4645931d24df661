/-
  Joined texts: YX WM A.
-/
import Derived.Test.YtfpcfcegdjlggaaGreatJ02
import Derived.OpenShut
import Derived.Lib.SmallJoins
import Derived.WideKeyArgs
import Derived.SizedLaws
import Derived.Carry
import Derived.Below
import Derived.ChangeSame
import Derived.ChangeSlices
import Derived.WalkKit
import Derived.ProofKit
import Derived.Handed
import Derived.Test.YtfpcfcegdjlggaaGreatProg
import Derived.WalkSpells
import Derived.WalkLawsBesides
import Derived.Lib.Hide
namespace Go.Proofs.YtfpcfcegdjlggaaGreat
open Go.ChangeShapes Go.WideShapes Go.ChangeAt Go.RowKit

theorem getD_take0 (zs : List Int) (n i : Nat) (h : i < n) : (zs.take n).getD i 0 = zs.getD i 0 := by
  simp [List.getD_eq_getElem?_getD, h]

set_option maxRecDepth 100000 in
/-- WHAT A []int64 IS THAT COMES IN. -/
theorem open_i64s {H : Type} {enc : TypeId × Value → H} {W : World} {r : Reach} {base : Nat} {v : Value} {d : DataW H} {p : List MemPlace}
    (hv : Value.okWide Tryz.prog W r base 23 v) (h : DataW.Trod enc Tryz.prog W 0 (fun _ => true) true 23 v d p) (hz : ∀ e s, d = .slice e s → (e.length + s.length) * Tryz.prog.bytesOf 2 ≤ reachBytes) :
    ∃ (a : Option Addr) (n cap : Nat) (xs : List Int), v = .slice a n cap ∧ RdI W a cap xs ∧ xs.length = n ∧ n ≤ 17592186043904 ∧ (a = none → cap = 0) := by
  have c1 : Tryz.prog.cellsOf 2 = 1 := by kernel_rfl
  have b1 : Tryz.prog.bytesOf 2 = 8 := by kernel_rfl
  obtain ⟨ad, len, cap, rfl⟩ := okWide_slice Tryz.underlying23 hv
  obtain ⟨k, hk⟩ := h
  rcases open_ints Tryz.underlying23 Tryz.underlying2 c1 hk with ⟨e1, _⟩ | ⟨ad0, len0, cap0, zs, e1, _, hl, hm, hlen, hd, hcell, hwf⟩
  · have e1' : ad = none ∧ len = 0 ∧ cap = 0 := by simpa [Value.cells] using e1
    obtain ⟨rfl, rfl, rfl⟩ := e1'
    exact ⟨none, 0, 0, [], rfl, RdI.nil _ _ _, rfl, by omega, fun _ => rfl⟩
  · have e1' : ad = some ad0 ∧ len = len0 ∧ cap = cap0 := by simpa [Value.cells] using e1
    obtain ⟨rfl, rfl, rfl⟩ := e1'
    simp only [if_true] at hlen
    have hd' : d = .slice (lits .i64 (zs.take len)) (lits .i64 (zs.drop len)) := by simpa using congrArg Prod.fst hd
    have hb := hz _ _ hd'
    rw [b1] at hb
    have hll : (zs.take len).length = len := by rw [List.length_take]; omega
    have hn : len ≤ 17592186043904 := by
      simp only [lits, List.length_map, List.length_take, List.length_drop] at hb
      unfold reachBytes at hb
      omega
    refine ⟨some ad0, len, cap, zs.take len, rfl, ⟨by omega, ?_, fun i hi => ?_⟩, hll, hn, fun h => by cases h⟩
    · intro x hx
      have := bounds_i64 (hwf x (List.mem_of_mem_take hx))
      unfold I64
      omega
    · rw [hll] at hi
      obtain ⟨g, o, rfl, hc⟩ := ints_at hcell (by omega)
      exact ⟨g, o, rfl, by rw [hc i (by omega), getD_take0 zs len i hi]⟩

set_option maxRecDepth 100000 in
/-- WHAT A []int8 IS THAT COMES IN. -/
theorem open_i8s {H : Type} {enc : TypeId × Value → H} {W : World} {r : Reach} {base : Nat} {v : Value} {d : DataW H} {p : List MemPlace}
    (hv : Value.okWide Tryz.prog W r base 24 v) (h : DataW.Trod enc Tryz.prog W 0 (fun _ => true) true 24 v d p) (hz : ∀ e s, d = .slice e s → (e.length + s.length) * Tryz.prog.bytesOf 47 ≤ reachBytes) :
    ∃ (a : Option Addr) (n cap : Nat) (xs : List Int), v = .slice a n cap ∧ Rd8 W a xs ∧ xs.length = n ∧ n ≤ 200000000000000 := by
  have c1 : Tryz.prog.cellsOf 47 = 1 := by kernel_rfl
  have b1 : Tryz.prog.bytesOf 47 = 1 := by kernel_rfl
  obtain ⟨ad, len, cap, rfl⟩ := okWide_slice Tryz.underlying24 hv
  obtain ⟨k, hk⟩ := h
  rcases open_ints Tryz.underlying24 Tryz.underlying47 c1 hk with ⟨e1, _⟩ | ⟨ad0, len0, cap0, zs, e1, _, hl, hm, hlen, hd, hcell, hwf⟩
  · have e1' : ad = none ∧ len = 0 ∧ cap = 0 := by simpa [Value.cells] using e1
    obtain ⟨rfl, rfl, rfl⟩ := e1'
    exact ⟨none, 0, 0, [], rfl, ⟨by simp, fun i hi => by simp at hi⟩, rfl, by omega⟩
  · have e1' : ad = some ad0 ∧ len = len0 ∧ cap = cap0 := by simpa [Value.cells] using e1
    obtain ⟨rfl, rfl, rfl⟩ := e1'
    simp only [if_true] at hlen
    have hd' : d = .slice (lits .i8 (zs.take len)) (lits .i8 (zs.drop len)) := by simpa using congrArg Prod.fst hd
    have hb := hz _ _ hd'
    rw [b1] at hb
    have hll : (zs.take len).length = len := by rw [List.length_take]; omega
    have hn : len ≤ 200000000000000 := by
      simp only [lits, List.length_map, List.length_take, List.length_drop] at hb
      unfold reachBytes at hb
      omega
    refine ⟨some ad0, len, cap, zs.take len, rfl, ⟨?_, fun i hi => ?_⟩, hll, hn⟩
    · intro x hx
      have := bounds_i8 (hwf x (List.mem_of_mem_take hx))
      omega
    · rw [hll] at hi
      obtain ⟨g, o, rfl, hc⟩ := ints_at hcell (by omega)
      exact ⟨g, o, rfl, by rw [hc i (by omega), getD_take0 zs len i hi]⟩

theorem laidOutV : laidOutB Tryz.prog = true := by kernel_rfl
theorem readI64 : Tryz.prog.readableRec 23 = true := by kernel_rfl
theorem rowI64 : 23 < Tryz.prog.types.size := of_decide_eq_true (by kernel_rfl)
theorem readI8 : Tryz.prog.readableRec 24 = true := by kernel_rfl
theorem rowI8 : 24 < Tryz.prog.types.size := of_decide_eq_true (by kernel_rfl)

/-- AND IT READS AS IT DID. -/
theorem i64s_stays {H : Type} {enc : TypeId × Value → H} {W W' : World} {v : Value} {d : DataW H} {ps : List MemPlace} {sp : Nat → Bool}
    (h : DataW.Trod enc Tryz.prog W 0 (fun _ => true) true 23 v d ps) (hb : Below W.heap.size W W') (hlow : ∀ x ∈ ps, x.block < W.heap.size) (hsp : ∀ x ∈ ps, sp x.block = true) :
    DataW.Trod enc Tryz.prog W' 0 sp true 23 v d ps :=
  WideElems.Trod_stays laidOutV readI64 rowI64 h (fun x hx => hb.same (hlow x hx)) hsp
theorem i8s_stays {H : Type} {enc : TypeId × Value → H} {W W' : World} {v : Value} {d : DataW H} {ps : List MemPlace} {sp : Nat → Bool}
    (h : DataW.Trod enc Tryz.prog W 0 (fun _ => true) true 24 v d ps) (hb : Below W.heap.size W W') (hlow : ∀ x ∈ ps, x.block < W.heap.size) (hsp : ∀ x ∈ ps, sp x.block = true) :
    DataW.Trod enc Tryz.prog W' 0 sp true 24 v d ps :=
  WideElems.Trod_stays laidOutV readI8 rowI8 h (fun x hx => hb.same (hlow x hx)) hsp

section
variable {H : Type} {enc : TypeId × Value → H} {P : Program}
/-- The row's last step where of the world behind the call 'Below' alone is known. -/
theorem post_belowV {f : Func} {s : ChangeSpec} {apart fresh handsOn again : Bool} {W W' : World} {args : Array Value} {v : Value} {ds gs : List (DataW H)} {before pa pv : List MemPlace}
    (hW : DataW.Whole enc P f.params.toList s.vars apart W args.toList ds gs before)
    (hres : ∀ (b : Nat) (sp : Nat → Bool) (hd : Bool), DataW.TrodAll enc P W' b sp hd f.resultTypes.toList (v.resultList f.resultTypes.size) (s.fn H (ds ++ gs)).results [])
    (hargs : ∀ sp : Nat → Bool, (∀ p ∈ before, sp p.block = true) → DataW.TrodAll enc P W' 0 sp true f.params.toList args.toList (s.fn H (ds ++ gs)).args pa)
    (hvars : ∀ sp : Nat → Bool, (∀ p ∈ before, sp p.block = true) → DataW.TrodVars enc P W' sp s.vars (s.fn H (ds ++ gs)).vars pv)
    (hps : before = pa ++ pv) (hb : Below W.heap.size W W')
    (hok : ∀ (j : Nat) (t : TypeId) (r : Value), f.resultTypes[j]? = some t → (v.resultList f.resultTypes.size)[j]? = some r → Value.okWide P W' .any 0 t r) :
    s.post enc P f apart fresh handsOn again W args v W' := by
  have hlow : ∀ p ∈ before, p.block < W.heap.size := fun p hp => hW.lt p hp
  have hin : ∀ p ∈ before, (fun b => decide (b < W.heap.size)) p.block = true := fun p hp => decide_eq_true (hlow p hp)
  refine ⟨ds, gs, before, [], pa, pv, hW, hres _ _ _, hargs _ hin, hvars _ hin, World.keptBut_mono (fun p hp => ⟨hp, ?_⟩) (hb.frame (· ∈ before)), fun _ => ?_⟩
  · rw [hps] at hp
    exact .inr (by simpa using hp)
  · obtain ⟨_, _, _, _, _, hz, hn⟩ := hW
    refine ⟨hok, _, _, ([] ++ pa) ++ pv, ⟨[] ++ pa, pv, trodAll_append (hargs _ (fun _ _ => rfl)) (hres _ _ _), hvars _ (fun _ _ => rfl), rfl, fun b off hp => ?_, fun ha => ?_⟩, fun p hp _ => ?_⟩
    · have hm : MemPlace.cell b off ∈ before := by rw [hps]; simpa using hp
      rw [hb.frozen (hlow _ hm)]
      exact hz b off hm
    · have := hn ha
      rw [hps] at this
      simpa using this
    · rw [hps]
      simpa using hp
end


theorem ownV : ownKnob Tryz.prog.godebug = none := by kernel_rfl
end Go.Proofs.YtfpcfcegdjlggaaGreat
/-
  Plain mathematics of lists of limbs to the base 2^32: value, canonical list of a number, comparison. No program is mentioned.
-/
namespace Go.Proofs.YtfpcfcegdjlggaaGreat

/-- The number that a list of limbs denotes, the lowest limb first. -/
def val : List Nat → Nat
  | [] => 0
  | x :: xs => x + 4294967296 * val xs

/-- Every element is below the base. -/
def Lim (xs : List Nat) : Prop := ∀ x ∈ xs, x < 4294967296

def lg : Nat → Nat → List Nat
  | 0, _ => []
  | f + 1, n => if n = 0 then [] else n % 4294967296 :: lg f (n / 4294967296)

/-- The limbs of a number, without zeros at the end. -/
def limbs (n : Nat) : List Nat := lg n n

/-- The list without zeros at its end. -/
def trimL : List Nat → List Nat
  | [] => []
  | x :: xs => if trimL xs = [] ∧ x = 0 then [] else x :: trimL xs

theorem val_nil : val [] = 0 := rfl
theorem val_cons (x : Nat) (xs : List Nat) : val (x :: xs) = x + 4294967296 * val xs := rfl

theorem val_append (xs ys : List Nat) : val (xs ++ ys) = val xs + 4294967296 ^ xs.length * val ys := by
  induction xs with
  | nil => simp [val]
  | cons x xs ih =>
    simp only [List.cons_append, val, ih, List.length_cons, Nat.pow_succ, Nat.mul_add]
    rw [Nat.mul_comm (4294967296 ^ xs.length) 4294967296, Nat.mul_assoc]
    omega

theorem Lim.nil : Lim [] := by intro x hx; simp at hx
theorem Lim.cons {x : Nat} {xs : List Nat} (h : x < 4294967296) (hs : Lim xs) : Lim (x :: xs) := by
  intro y hy
  rcases List.mem_cons.1 hy with rfl | hy
  · exact h
  · exact hs y hy
theorem Lim.head {x : Nat} {xs : List Nat} (h : Lim (x :: xs)) : x < 4294967296 := h x (by simp)
theorem Lim.tail {x : Nat} {xs : List Nat} (h : Lim (x :: xs)) : Lim xs := fun y hy => h y (List.mem_cons_of_mem _ hy)
theorem Lim.append {xs ys : List Nat} (h : Lim xs) (h' : Lim ys) : Lim (xs ++ ys) := by
  intro y hy
  rcases List.mem_append.1 hy with hy | hy
  · exact h y hy
  · exact h' y hy
theorem Lim.take {xs : List Nat} (h : Lim xs) (k : Nat) : Lim (xs.take k) := fun y hy => h y (List.mem_of_mem_take hy)
theorem Lim.drop {xs : List Nat} (h : Lim xs) (k : Nat) : Lim (xs.drop k) := fun y hy => h y (List.mem_of_mem_drop hy)
theorem Lim.getD {xs : List Nat} (h : Lim xs) (k : Nat) : xs.getD k 0 < 4294967296 := by
  by_cases hk : k < xs.length
  · rw [List.getD_eq_getElem?_getD, List.getElem?_eq_getElem hk]; exact h _ (List.getElem_mem hk)
  · rw [List.getD_eq_getElem?_getD, List.getElem?_eq_none (by omega)]; simp
theorem Lim.set {xs : List Nat} (h : Lim xs) (k x : Nat) (hx : x < 4294967296) : Lim (xs.set k x) := by
  intro y hy
  rcases List.mem_or_eq_of_mem_set hy with hy | rfl
  · exact h y hy
  · exact hx
theorem Lim.replicate (n x : Nat) (hx : x < 4294967296) : Lim (List.replicate n x) := by
  intro y hy
  rw [List.mem_replicate] at hy
  omega

theorem val_lt {xs : List Nat} (h : Lim xs) : val xs < 4294967296 ^ xs.length := by
  induction xs with
  | nil => simp [val]
  | cons x xs ih =>
    have h1 := h.head
    have h2 := ih h.tail
    simp only [val, List.length_cons, Nat.pow_succ]
    omega

theorem lg_zero (f : Nat) : lg f 0 = [] := by cases f <;> simp [lg]

theorem lg_enough : ∀ (f g n : Nat), n ≤ f → n ≤ g → lg f n = lg g n := by
  intro f
  induction f with
  | zero =>
    intro g n hf _
    obtain rfl : n = 0 := by omega
    rw [lg_zero, lg_zero]
  | succ f ih =>
    intro g n hf hg
    cases g with
    | zero =>
      obtain rfl : n = 0 := by omega
      rw [lg_zero, lg_zero]
    | succ g =>
      simp only [lg]
      by_cases hn : n = 0
      · rw [if_pos hn, if_pos hn]
      · rw [if_neg hn, if_neg hn, ih g (n / 4294967296) (by omega) (by omega)]

theorem limbs_zero : limbs 0 = [] := rfl
theorem limbs_pos {n : Nat} (h : n ≠ 0) : limbs n = n % 4294967296 :: limbs (n / 4294967296) := by
  unfold limbs
  cases n with
  | zero => exact absurd rfl h
  | succ n =>
    simp only [lg, Nat.succ_ne_zero, if_false]
    rw [lg_enough n ((n + 1) / 4294967296) ((n + 1) / 4294967296) (by omega) (by omega)]

theorem limbs_cons (x m : Nat) (hx : x < 4294967296) (h : x ≠ 0 ∨ m ≠ 0) : limbs (x + 4294967296 * m) = x :: limbs m := by
  rw [limbs_pos (by omega)]
  have e1 : (x + 4294967296 * m) % 4294967296 = x := by omega
  have e2 : (x + 4294967296 * m) / 4294967296 = m := by omega
  rw [e1, e2]

theorem Lim_limbs (n : Nat) : Lim (limbs n) := by
  induction n using Nat.strongRecOn with
  | ind n ih =>
    by_cases h : n = 0
    · subst h; exact Lim.nil
    · rw [limbs_pos h]; exact (ih (n / 4294967296) (by omega)).cons (by omega)

theorem val_limbs (n : Nat) : val (limbs n) = n := by
  induction n using Nat.strongRecOn with
  | ind n ih =>
    by_cases h : n = 0
    · subst h; rfl
    · rw [limbs_pos h, val_cons, ih (n / 4294967296) (by omega)]; omega

theorem limbs_eq_nil {n : Nat} : limbs n = [] ↔ n = 0 := by
  constructor
  · intro h; have := val_limbs n; rw [h] at this; exact this.symm
  · rintro rfl; rfl

theorem limbs_val {xs : List Nat} (h : Lim xs) : limbs (val xs) = trimL xs := by
  induction xs with
  | nil => rfl
  | cons x xs ih =>
    have ih := ih h.tail
    simp only [trimL]
    by_cases hc : trimL xs = [] ∧ x = 0
    · rw [if_pos hc]
      rw [← ih, limbs_eq_nil] at hc
      rw [val_cons, limbs_eq_nil]; omega
    · rw [if_neg hc]
      rw [← ih, limbs_eq_nil] at hc
      rw [val_cons, limbs_cons _ _ h.head (by omega), ih]

theorem trimL_limbs (n : Nat) : trimL (limbs n) = limbs n := by rw [← limbs_val (Lim_limbs n), val_limbs]
theorem val_trimL {xs : List Nat} (h : Lim xs) : val (trimL xs) = val xs := by rw [← limbs_val h, val_limbs]

theorem trimL_append_zero (xs : List Nat) : trimL (xs ++ [0]) = trimL xs := by
  induction xs with
  | nil => rfl
  | cons x xs ih => simp [trimL, ih]

theorem trimL_append_pos (xs : List Nat) (x : Nat) (hx : x ≠ 0) : trimL (xs ++ [x]) = xs ++ [x] := by
  induction xs with
  | nil => simp [trimL, hx]
  | cons y xs ih => simp [trimL, ih]

theorem length_trimL_le (xs : List Nat) : (trimL xs).length ≤ xs.length := by
  induction xs with
  | nil => simp [trimL]
  | cons x xs ih =>
    simp only [trimL]
    split
    · simp
    · simpa using ih

/-- One step of the loop that trims. -/
theorem trimL_take_zero (xs : List Nat) (n : Nat) (hn : n < xs.length) (h : xs.getD n 0 = 0) : trimL (xs.take (n + 1)) = trimL (xs.take n) := by
  rw [List.take_succ_eq_append_getElem hn]
  rw [List.getD_eq_getElem?_getD, List.getElem?_eq_getElem hn] at h
  simp only [Option.getD_some] at h
  rw [h, trimL_append_zero]

theorem trimL_take_pos (xs : List Nat) (n : Nat) (hn : n < xs.length) (h : xs.getD n 0 ≠ 0) : trimL (xs.take (n + 1)) = xs.take (n + 1) := by
  rw [List.take_succ_eq_append_getElem hn]
  rw [List.getD_eq_getElem?_getD, List.getElem?_eq_getElem hn] at h
  simp only [Option.getD_some] at h
  exact trimL_append_pos _ _ h

theorem trimL_eq_take (xs : List Nat) : trimL xs = xs.take (trimL xs).length := by
  induction xs with
  | nil => rfl
  | cons x xs ih =>
    simp only [trimL]
    split
    · rfl
    · simpa using ih

/-! Lengths. -/
theorem length_limbs_le {n k : Nat} (h : n < 4294967296 ^ k) : (limbs n).length ≤ k := by
  induction k generalizing n with
  | zero =>
    obtain rfl : n = 0 := by simp at h; exact h
    simp [limbs_zero]
  | succ k ih =>
    by_cases hn : n = 0
    · subst hn; simp [limbs_zero]
    · rw [limbs_pos hn, List.length_cons]
      have : n / 4294967296 < 4294967296 ^ k := by rw [Nat.pow_succ] at h; omega
      have := ih this
      omega

theorem lt_of_length_limbs {n k : Nat} (h : (limbs n).length ≤ k) : n < 4294967296 ^ k := by
  have h1 := val_lt (Lim_limbs n)
  rw [val_limbs] at h1
  exact Nat.lt_of_lt_of_le h1 (Nat.pow_le_pow_right (by omega) h)

theorem limbs_length_lt {m n : Nat} (h : (limbs m).length < (limbs n).length) : m < n := by
  rcases Nat.lt_or_ge m n with h1 | h1
  · exact h1
  · exfalso
    have h2 : n < 4294967296 ^ (limbs m).length := Nat.lt_of_le_of_lt h1 (lt_of_length_limbs (Nat.le_refl _))
    have := length_limbs_le h2
    omega

theorem two_of_short {xs : List Nat} (h : Lim xs) (hl : xs.length ≤ 2) : val xs = xs.getD 0 0 + 4294967296 * xs.getD 1 0 ∧ val xs < 18446744073709551616 := by
  match xs, h, hl with
  | [], _, _ => simp [val]
  | [x], h, _ => have := h.head; simp [val]; omega
  | [x, y], h, _ => have := h.head; have := h.tail.head; simp [val]; omega

/-! Comparison from the highest limb. -/
theorem val_take_succ (xs : List Nat) (k : Nat) (hk : k < xs.length) : val (xs.take (k + 1)) = val (xs.take k) + 4294967296 ^ k * xs.getD k 0 := by
  rw [List.take_succ_eq_append_getElem hk, val_append, val_cons, val_nil, List.length_take, Nat.min_eq_left (by omega), List.getD_eq_getElem?_getD, List.getElem?_eq_getElem hk]
  simp

theorem val_take_lt {xs : List Nat} (h : Lim xs) (k : Nat) : val (xs.take k) < 4294967296 ^ k := by
  have h1 := val_lt (h.take k)
  refine Nat.lt_of_lt_of_le h1 (Nat.pow_le_pow_right (by omega) ?_)
  rw [List.length_take]; omega

theorem val_split (xs : List Nat) (k : Nat) (hk : k ≤ xs.length) : val xs = val (xs.take k) + 4294967296 ^ k * val (xs.drop k) := by
  have h := val_append (xs.take k) (xs.drop k)
  rwa [List.take_append_drop, List.length_take, Nat.min_eq_left hk] at h

theorem val_lt_of_top {xs ys : List Nat} (hx : Lim xs) (hl : xs.length = ys.length) (k : Nat) (hk : k < xs.length) (hd : xs.drop (k + 1) = ys.drop (k + 1)) (hlt : xs.getD k 0 < ys.getD k 0) : val xs < val ys := by
  rw [val_split xs (k + 1) (by omega), val_split ys (k + 1) (by omega), hd, val_take_succ xs k hk, val_take_succ ys k (by omega)]
  have h1 := val_take_lt hx k
  have h2 : 4294967296 ^ k * (xs.getD k 0 + 1) ≤ 4294967296 ^ k * ys.getD k 0 := Nat.mul_le_mul_left _ hlt
  rw [Nat.mul_add, Nat.mul_one] at h2
  omega

theorem drop_eq_of {xs ys : List Nat} (k : Nat) (hk : k < xs.length) (hl : xs.length = ys.length) (hd : xs.drop (k + 1) = ys.drop (k + 1)) (he : xs.getD k 0 = ys.getD k 0) : xs.drop k = ys.drop k := by
  rw [List.drop_eq_getElem_cons hk, List.drop_eq_getElem_cons (by omega : k < ys.length), hd]
  rw [List.getD_eq_getElem?_getD, List.getElem?_eq_getElem hk, List.getD_eq_getElem?_getD, List.getElem?_eq_getElem (by omega)] at he
  simp only [Option.getD_some] at he
  rw [he]

end Go.Proofs.YtfpcfcegdjlggaaGreat

/-
  Plain mathematics of the loops over limbs: sums, differences, products, quotients by one limb, shifts. No program is mentioned.
-/

namespace Go.Proofs.YtfpcfcegdjlggaaGreat

theorem pow_pos (k : Nat) : 0 < 4294967296 ^ k := Nat.pow_pos (by omega)

/-- Also behind the end: the list is as if zeros followed. -/
theorem val_take_step (xs : List Nat) (k : Nat) : val (xs.take (k + 1)) = val (xs.take k) + 4294967296 ^ k * xs.getD k 0 := by
  by_cases hk : k < xs.length
  · exact val_take_succ xs k hk
  · rw [List.take_of_length_le (by omega), List.take_of_length_le (by omega), List.getD_eq_getElem?_getD, List.getElem?_eq_none (by omega)]
    simp

theorem val_snoc (zs : List Nat) (z : Nat) : val (zs ++ [z]) = val zs + 4294967296 ^ zs.length * z := by
  rw [val_append, val_cons, val_nil]; simp

theorem val_replicate (n : Nat) : val (List.replicate n 0) = 0 := by
  induction n with
  | zero => rfl
  | succ n ih => rw [List.replicate_succ, val_cons, ih]

theorem mul_digit (P s : Nat) : P * (s % 4294967296) + P * 4294967296 * (s / 4294967296) = P * s := by
  rw [Nat.mul_assoc, ← Nat.mul_add]; congr 1; omega

/-! Sums. -/
structure AddInv (xs ys : List Nat) (k : Nat) (zs : List Nat) (c : Nat) : Prop where
  len : zs.length = k
  lim : Lim zs
  one : c ≤ 1
  eq : val zs + 4294967296 ^ k * c = val (xs.take k) + val (ys.take k)

theorem AddInv.start (xs ys : List Nat) : AddInv xs ys 0 [] 0 := ⟨rfl, Lim.nil, by omega, by simp [val]⟩

theorem AddInv.step {xs ys : List Nat} {k : Nat} {zs : List Nat} {c : Nat} (hx : Lim xs) (hy : Lim ys) (h : AddInv xs ys k zs c) :
    AddInv xs ys (k + 1) (zs ++ [(xs.getD k 0 + ys.getD k 0 + c) % 4294967296]) ((xs.getD k 0 + ys.getD k 0 + c) / 4294967296) := by
  have h1 := hx.getD k
  have h2 := hy.getD k
  have h3 := h.one
  refine ⟨by simp [h.len], h.lim.append (Lim.nil.cons (by omega)), by omega, ?_⟩
  have e := h.eq
  have hm := mul_digit (4294967296 ^ k) (xs.getD k 0 + ys.getD k 0 + c)
  rw [val_snoc, h.len, val_take_step xs, val_take_step ys, Nat.pow_succ]
  rw [Nat.mul_add, Nat.mul_add] at hm
  omega

theorem AddInv.done {xs ys zs : List Nat} {c n : Nat} (h : AddInv xs ys n zs c) (hx : xs.length ≤ n) (hy : ys.length ≤ n) :
    Lim (zs ++ [c]) ∧ val (zs ++ [c]) = val xs + val ys := by
  have h3 := h.one
  refine ⟨h.lim.append (Lim.nil.cons (by omega)), ?_⟩
  have e := h.eq
  rw [List.take_of_length_le hx, List.take_of_length_le hy] at e
  rw [val_snoc, h.len, e]

/-! Differences. -/
structure SubInv (xs ys : List Nat) (k : Nat) (zs : List Nat) (b : Nat) : Prop where
  len : zs.length = k
  lim : Lim zs
  one : b ≤ 1
  eq : val zs + val (ys.take k) = val (xs.take k) + 4294967296 ^ k * b

theorem SubInv.start (xs ys : List Nat) : SubInv xs ys 0 [] 0 := ⟨rfl, Lim.nil, by omega, by simp [val]⟩

theorem SubInv.step_no {xs ys : List Nat} {k : Nat} {zs : List Nat} {b : Nat} (hx : Lim xs) (h : SubInv xs ys k zs b) (hle : ys.getD k 0 + b ≤ xs.getD k 0) :
    SubInv xs ys (k + 1) (zs ++ [xs.getD k 0 - (ys.getD k 0 + b)]) 0 := by
  have h1 := hx.getD k
  refine ⟨by simp [h.len], h.lim.append (Lim.nil.cons (by omega)), by omega, ?_⟩
  have e := h.eq
  rw [val_snoc, h.len, val_take_step xs, val_take_step ys]
  obtain ⟨d, hd⟩ : ∃ d, xs.getD k 0 = ys.getD k 0 + b + d := ⟨_, (Nat.add_sub_cancel' hle).symm⟩
  rw [hd, Nat.add_sub_cancel_left, Nat.mul_add, Nat.mul_add]
  omega

theorem SubInv.step_yes {xs ys : List Nat} {k : Nat} {zs : List Nat} {b : Nat} (hx : Lim xs) (hy : Lim ys) (h : SubInv xs ys k zs b) (hlt : xs.getD k 0 < ys.getD k 0 + b) :
    SubInv xs ys (k + 1) (zs ++ [xs.getD k 0 + 4294967296 - (ys.getD k 0 + b)]) 1 := by
  have h1 := hx.getD k
  have h2 := hy.getD k
  have h3 := h.one
  refine ⟨by simp [h.len], h.lim.append (Lim.nil.cons (by omega)), by omega, ?_⟩
  have e := h.eq
  rw [val_snoc, h.len, val_take_step xs, val_take_step ys, Nat.pow_succ]
  obtain ⟨d, hd⟩ : ∃ d, xs.getD k 0 + 4294967296 = ys.getD k 0 + b + d := ⟨xs.getD k 0 + 4294967296 - (ys.getD k 0 + b), by omega⟩
  have hm : 4294967296 ^ k * (xs.getD k 0 + 4294967296) = 4294967296 ^ k * (ys.getD k 0 + b + d) := by rw [hd]
  rw [hd, Nat.add_sub_cancel_left]
  rw [Nat.mul_add, Nat.mul_add, Nat.mul_add] at hm
  omega

theorem SubInv.done {xs ys zs : List Nat} {b n : Nat} (h : SubInv xs ys n zs b) (hx : Lim xs) (hn : xs.length = n) (hle : val ys ≤ val xs) :
    b = 0 ∧ val zs = val xs - val ys := by
  have e := h.eq
  have hz := val_lt h.lim
  rw [h.len] at hz
  have hxl := val_lt hx
  rw [hn] at hxl
  rw [List.take_of_length_le (by omega : xs.length ≤ n)] at e
  have hy : val (ys.take n) = val ys := by
    by_cases hl : ys.length ≤ n
    · rw [List.take_of_length_le hl]
    · have hs := val_split ys n (by omega)
      by_cases h0 : val (ys.drop n) = 0
      · rw [h0] at hs; omega
      · have := Nat.le_mul_of_pos_right (4294967296 ^ n) (Nat.pos_of_ne_zero h0)
        omega
  rw [hy] at e
  have h1 := h.one
  have hb : b = 0 := by
    by_cases hb : b = 0
    · exact hb
    · obtain rfl : b = 1 := by omega
      omega
  subst hb
  exact ⟨rfl, by omega⟩

/-! Storing one limb. -/
theorem val_set (zs : List Nat) (k v : Nat) (hk : k < zs.length) : val (zs.set k v) + 4294967296 ^ k * zs.getD k 0 = val zs + 4294967296 ^ k * v := by
  induction zs generalizing k with
  | nil => simp at hk
  | cons z zs ih =>
    cases k with
    | zero => simp [val]; omega
    | succ k =>
      have := ih k (by simpa using hk)
      simp only [List.set_cons_succ, val_cons, List.getD_cons_succ, Nat.pow_succ]
      have e1 : 4294967296 ^ k * 4294967296 * zs.getD k 0 = 4294967296 * (4294967296 ^ k * zs.getD k 0) := by rw [Nat.mul_comm (4294967296 ^ k) 4294967296, Nat.mul_assoc]
      have e2 : 4294967296 ^ k * 4294967296 * v = 4294967296 * (4294967296 ^ k * v) := by rw [Nat.mul_comm (4294967296 ^ k) 4294967296, Nat.mul_assoc]
      rw [e1, e2]; omega

theorem getD_set_ne (zs : List Nat) (k j v : Nat) (h : j ≠ k) : (zs.set k v).getD j 0 = zs.getD j 0 := by
  simp [List.getD_eq_getElem?_getD, Ne.symm h]

theorem getD_set_eq (zs : List Nat) (k v : Nat) (h : k < zs.length) : (zs.set k v).getD k 0 = v := by
  simp [List.getD_eq_getElem?_getD, h]

/-! Products: the inner loop adds x * ys at place i. -/
structure MulInv (zs0 : List Nat) (x i : Nat) (ys : List Nat) (j : Nat) (zs : List Nat) (c : Nat) : Prop where
  len : zs.length = zs0.length
  lim : Lim zs
  small : c < 4294967296
  eq : val zs + 4294967296 ^ (i + j) * c = val zs0 + 4294967296 ^ i * (x * val (ys.take j))
  rest : ∀ k, i + j ≤ k → zs.getD k 0 = zs0.getD k 0

theorem MulInv.start {zs0 : List Nat} (h : Lim zs0) (x i : Nat) (ys : List Nat) : MulInv zs0 x i ys 0 zs0 0 := ⟨rfl, h, by omega, by simp [val], fun _ _ => rfl⟩

theorem MulInv.step {zs0 : List Nat} {x i : Nat} {ys : List Nat} {j : Nat} {zs : List Nat} {c : Nat} (hx : x < 4294967296) (hy : Lim ys) (hk : i + j < zs0.length) (h : MulInv zs0 x i ys j zs c) :
    x * ys.getD j 0 + zs.getD (i + j) 0 + c < 18446744073709551616 ∧
    MulInv zs0 x i ys (j + 1) (zs.set (i + j) ((x * ys.getD j 0 + zs.getD (i + j) 0 + c) % 4294967296)) ((x * ys.getD j 0 + zs.getD (i + j) 0 + c) / 4294967296) := by
  have h1 := hy.getD j
  have h2 := h.lim.getD (i + j)
  have h3 := h.small
  have hm : x * ys.getD j 0 ≤ 4294967295 * 4294967295 := Nat.mul_le_mul (by omega) (by omega)
  refine ⟨by omega, by simp [h.len], h.lim.set _ _ (by omega), by omega, ?_, ?_⟩
  · have e := h.eq
    have hs := val_set zs (i + j) ((x * ys.getD j 0 + zs.getD (i + j) 0 + c) % 4294967296) (by rw [h.len]; exact hk)
    have hd := mul_digit (4294967296 ^ (i + j)) (x * ys.getD j 0 + zs.getD (i + j) 0 + c)
    rw [Nat.mul_add, Nat.mul_add] at hd
    rw [val_take_step, Nat.mul_add x, Nat.mul_add (4294967296 ^ i), show i + (j + 1) = (i + j) + 1 from rfl, Nat.pow_succ]
    have e3 : 4294967296 ^ i * (x * (4294967296 ^ j * ys.getD j 0)) = 4294967296 ^ (i + j) * (x * ys.getD j 0) := by
      rw [Nat.pow_add, Nat.mul_left_comm x, Nat.mul_assoc]
    rw [e3]; omega
  · intro k hk'
    rw [getD_set_ne _ _ _ _ (by omega)]
    exact h.rest k (by omega)

/-- The outer loop. -/
structure MulOut (xs ys : List Nat) (i : Nat) (zs : List Nat) : Prop where
  len : zs.length = xs.length + ys.length
  lim : Lim zs
  eq : val zs = val (xs.take i) * val ys
  rest : ∀ k, i + ys.length ≤ k → zs.getD k 0 = 0

theorem MulOut.start (xs ys : List Nat) : MulOut xs ys 0 (List.replicate (xs.length + ys.length) 0) :=
  ⟨by simp, Lim.replicate _ _ (by omega), by simp [val_replicate, val], fun k _ => by simp [List.getD_eq_getElem?_getD, List.getElem?_replicate]; split <;> rfl⟩

theorem MulOut.step {xs ys : List Nat} {i : Nat} {zs0 zs : List Nat} {c : Nat} (hi : i < xs.length) (ho : MulOut xs ys i zs0) (h : MulInv zs0 (xs.getD i 0) i ys ys.length zs c) :
    MulOut xs ys (i + 1) (zs.set (i + ys.length) c) := by
  have hlen : zs.length = xs.length + ys.length := h.len.trans ho.len
  refine ⟨by simp [hlen], h.lim.set _ _ h.small, ?_, ?_⟩
  · have hs := val_set zs (i + ys.length) c (by omega)
    rw [h.rest _ (Nat.le_refl _), ho.rest _ (Nat.le_refl _), Nat.mul_zero] at hs
    have e := h.eq
    rw [List.take_length, ho.eq] at e
    rw [val_take_step, Nat.add_mul]
    have e2 : 4294967296 ^ i * (xs.getD i 0 * val ys) = 4294967296 ^ i * xs.getD i 0 * val ys := by rw [Nat.mul_assoc]
    omega
  · intro k hk
    rw [getD_set_ne _ _ _ _ (by omega), h.rest k (by omega), ho.rest k (by omega)]

theorem MulOut.done {xs ys zs : List Nat} (h : MulOut xs ys xs.length zs) : val zs = val xs * val ys := by
  have := h.eq; rwa [List.take_length] at this

/-! One factor and one digit, in place: x[0..k) is new, the rest is old. -/
structure TimesInv (xs : List Nat) (f d k : Nat) (zs : List Nat) (c : Nat) : Prop where
  len : zs.length = k
  lim : Lim zs
  small : c < 4294967296
  eq : val zs + 4294967296 ^ k * c = f * val (xs.take k) + d

theorem TimesInv.start (xs : List Nat) (f d : Nat) (hd : d < 4294967296) : TimesInv xs f d 0 [] d := ⟨rfl, Lim.nil, hd, by simp [val]⟩

theorem TimesInv.step {xs : List Nat} {f d k : Nat} {zs : List Nat} {c : Nat} (hx : Lim xs) (hf : f < 4294967296) (h : TimesInv xs f d k zs c) :
    xs.getD k 0 * f + c < 18446744073709551616 ∧
    TimesInv xs f d (k + 1) (zs ++ [(xs.getD k 0 * f + c) % 4294967296]) ((xs.getD k 0 * f + c) / 4294967296) := by
  have h1 := hx.getD k
  have h3 := h.small
  have hm : xs.getD k 0 * f ≤ 4294967295 * 4294967295 := Nat.mul_le_mul (by omega) (by omega)
  refine ⟨by omega, by simp [h.len], h.lim.append (Lim.nil.cons (by omega)), by omega, ?_⟩
  have e := h.eq
  have hd := mul_digit (4294967296 ^ k) (xs.getD k 0 * f + c)
  rw [Nat.mul_add] at hd
  rw [val_snoc, h.len, val_take_step, Nat.pow_succ, Nat.mul_add f]
  have e3 : f * (4294967296 ^ k * xs.getD k 0) = 4294967296 ^ k * (xs.getD k 0 * f) := by rw [Nat.mul_left_comm, Nat.mul_comm f]
  rw [e3]; omega

/-! The quotient by one limb, from the highest limb on. -/
structure DivInv (xs : List Nat) (d k : Nat) (qs : List Nat) (r : Nat) : Prop where
  len : qs.length = xs.length - k
  lim : Lim qs
  small : r < d
  eq : val (xs.drop k) = val qs * d + r

theorem DivInv.start (xs : List Nat) (d : Nat) (hd : 0 < d) : DivInv xs d xs.length [] 0 := ⟨by simp, Lim.nil, hd, by simp [val]⟩

theorem val_drop_step (xs : List Nat) (k : Nat) (hk : k < xs.length) : val (xs.drop k) = xs.getD k 0 + 4294967296 * val (xs.drop (k + 1)) := by
  rw [List.drop_eq_getElem_cons hk, val_cons, List.getD_eq_getElem?_getD, List.getElem?_eq_getElem hk]; rfl

theorem DivInv.step {xs : List Nat} {d k : Nat} {qs : List Nat} {r : Nat} (hx : Lim xs) (hd : d < 4294967296) (hk : k < xs.length) (h : DivInv xs d (k + 1) qs r) :
    r * 4294967296 + xs.getD k 0 < 18446744073709551616 ∧ (r * 4294967296 + xs.getD k 0) / d < 4294967296 ∧
    DivInv xs d k ((r * 4294967296 + xs.getD k 0) / d :: qs) ((r * 4294967296 + xs.getD k 0) % d) := by
  have h1 := hx.getD k
  have h2 := h.small
  have hq : (r * 4294967296 + xs.getD k 0) / d < 4294967296 := by
    rw [Nat.div_lt_iff_lt_mul (by omega)]
    have : (r + 1) * 4294967296 ≤ d * 4294967296 := Nat.mul_le_mul_right _ (by omega)
    rw [Nat.mul_comm 4294967296 d]; omega
  refine ⟨by omega, hq, by simp [h.len]; omega, h.lim.cons hq, Nat.mod_lt _ (by omega), ?_⟩
  rw [val_drop_step xs k hk, h.eq, val_cons, Nat.add_mul]
  have e := Nat.div_add_mod (r * 4294967296 + xs.getD k 0) d
  rw [Nat.mul_comm] at e
  have e2 : 4294967296 * (val qs * d + r) = 4294967296 * val qs * d + r * 4294967296 := by rw [Nat.mul_add, Nat.mul_assoc, Nat.mul_comm r]
  rw [e2]; omega

theorem DivInv.done {xs qs : List Nat} {d r : Nat} (h : DivInv xs d 0 qs r) : val qs = val xs / d ∧ r = val xs % d := by
  have e := h.eq
  rw [List.drop_zero] at e
  have h2 := h.small
  constructor
  · rw [e, Nat.mul_comm, Nat.mul_add_div (by omega), Nat.div_eq_of_lt h2, Nat.add_zero]
  · rw [e, Nat.mul_comm, Nat.mul_add_mod, Nat.mod_eq_of_lt h2]

end Go.Proofs.YtfpcfcegdjlggaaGreat

/-
  Plain mathematics of Newton's iteration for square roots, of shifts, and of the long division of limbs (Knuth's algorithm D). No program is mentioned.
-/

namespace Go.Proofs.YtfpcfcegdjlggaaGreat

/-! Square roots. -/
/-! The long division. P: the part, V: the divisor, both cut to their highest limbs. -/
structure EstInv (top lead q digit rest : Nat) : Prop where
  eq : digit * lead + rest = top
  ge : q ≤ digit

theorem est_start (top lead q : Nat) (hq : q * lead ≤ top) (hl : 0 < lead) : EstInv top lead q (top / lead) (top % lead) :=
  ⟨by rw [Nat.mul_comm]; exact Nat.div_add_mod top lead, by rwa [Nat.le_div_iff_mul_le hl]⟩

/-- The test says that the digit is too great. -/
theorem est_greater {W P V top lead next third q digit rest : Nat} (h : EstInv top lead q digit rest)
    (hV : (lead * 4294967296 + next) * W ≤ V) (hP : P < (top * 4294967296 + third + 1) * W) (hq : q * V ≤ P)
    (ht : rest * 4294967296 + third < digit * next) : q < digit := by
  have e := h.eq
  have h1 : top * 4294967296 + third + 1 ≤ digit * (lead * 4294967296 + next) := by
    have e1 : digit * (lead * 4294967296 + next) = digit * lead * 4294967296 + digit * next := by rw [Nat.mul_add, Nat.mul_assoc]
    have e2 : top * 4294967296 = digit * lead * 4294967296 + rest * 4294967296 := by rw [← e, Nat.add_mul]
    omega
  have h2 : P < digit * V := Nat.lt_of_lt_of_le hP (Nat.le_trans (Nat.mul_le_mul_right W h1) (by rw [Nat.mul_assoc]; exact Nat.mul_le_mul_left _ hV))
  exact Nat.lt_of_mul_lt_mul_right (Nat.lt_of_le_of_lt hq h2)

theorem est_next {top lead q digit rest : Nat} (h : EstInv top lead q digit rest) (hq : q < digit) : EstInv top lead q (digit - 1) (rest + lead) := by
  obtain ⟨d, rfl⟩ : ∃ d, digit = d + 1 := ⟨digit - 1, by omega⟩
  have e := h.eq
  rw [Nat.add_mul] at e
  exact ⟨by simp only [Nat.add_sub_cancel]; omega, by omega⟩

/-- At the end: the digit is below the base, and is the quotient or one more. -/
theorem est_done {W P V top lead next third q digit rest : Nat} (h : EstInv top lead q digit rest)
    (hnext : next < 4294967296) (hl : 0 < lead)
    (htop : top < (lead + 1) * 4294967296)
    (hV : V < (lead * 4294967296 + next + 1) * W) (hP : (top * 4294967296 + third) * W ≤ P) (hq : P < (q + 1) * V)
    (hx : 4294967296 ≤ rest ∨ digit < 4294967296 ∧ digit * next ≤ rest * 4294967296 + third) :
    digit < 4294967296 ∧ digit ≤ q + 1 := by
  have e := h.eq
  have hd : digit < 4294967296 := by
    rcases hx with hx | hx
    · have h1 : digit * lead < 4294967296 * lead := by rw [Nat.add_mul] at htop; rw [Nat.mul_comm 4294967296 lead]; omega
      exact Nat.lt_of_mul_lt_mul_right h1
    · exact hx.1
  refine ⟨hd, ?_⟩
  have h2 : digit * (lead * 4294967296 + next) ≤ top * 4294967296 + third := by
    have e1 : digit * (lead * 4294967296 + next) = digit * lead * 4294967296 + digit * next := by rw [Nat.mul_add, Nat.mul_assoc]
    have e2 : top * 4294967296 = digit * lead * 4294967296 + rest * 4294967296 := by rw [← e, Nat.add_mul]
    rcases hx with hx | hx
    · have h3 : digit * next ≤ 4294967295 * 4294967295 := Nat.mul_le_mul (by omega) (by omega)
      omega
    · omega
  by_cases hg : digit ≤ q + 1
  · exact hg
  · exfalso
    have h3 : (q + 1) * V ≤ (digit - 1) * V := Nat.mul_le_mul_right V (by omega)
    have h4 : (digit - 1) * V ≤ (digit - 1) * ((lead * 4294967296 + next + 1) * W) := Nat.mul_le_mul_left _ (Nat.le_of_lt hV)
    have h5 : digit * (lead * 4294967296 + next) * W ≤ (top * 4294967296 + third) * W := Nat.mul_le_mul_right W h2
    have h6 : digit * (lead * 4294967296 + next) * W < (digit - 1) * (lead * 4294967296 + next + 1) * W := by
      rw [Nat.mul_assoc (digit - 1)]; omega
    have h7 := Nat.lt_of_mul_lt_mul_right h6
    obtain ⟨d, rfl⟩ : ∃ d, digit = d + 1 := ⟨digit - 1, by omega⟩
    simp only [Nat.add_sub_cancel] at h7
    rw [Nat.mul_add d, Nat.add_mul d 1] at h7
    have : lead * 1 ≤ lead * 4294967296 := Nat.mul_le_mul_left _ (by omega)
    omega

/-! digit * v is subtracted from the part: two chains. -/
structure SubtInv (ps vs : List Nat) (d k : Nat) (zs : List Nat) (c b : Nat) : Prop where
  len : zs.length = k
  lim : Lim zs
  small : c < 4294967296
  one : b ≤ 1
  top : vs.length < k → c = 0
  eq : val zs + d * val (vs.take k) = val (ps.take k) + 4294967296 ^ k * (b + c)

theorem SubtInv.start (ps vs : List Nat) (d : Nat) : SubtInv ps vs d 0 [] 0 0 := ⟨rfl, Lim.nil, by omega, by omega, fun _ => rfl, by simp [val]⟩

theorem getD_past (xs : List Nat) (k : Nat) (h : xs.length ≤ k) : xs.getD k 0 = 0 := by
  rw [List.getD_eq_getElem?_getD, List.getElem?_eq_none h]; rfl

theorem subt_bound {vs : List Nat} (hv : Lim vs) {d c : Nat} (k : Nat) (hd : d < 4294967296) (hc : c < 4294967296) : d * vs.getD k 0 + c < 18446744073709551616 := by
  have h1 := hv.getD k
  have hm : d * vs.getD k 0 ≤ 4294967295 * 4294967295 := Nat.mul_le_mul (by omega) (by omega)
  omega

theorem SubtInv.step {ps vs : List Nat} {d k : Nat} {zs : List Nat} {c b z b' : Nat} (hv : Lim vs) (hd : d < 4294967296) (h : SubtInv ps vs d k zs c b)
    (hz : z < 4294967296) (hb : b' ≤ 1) (he : z + (d * vs.getD k 0 + c) % 4294967296 + b = ps.getD k 0 + 4294967296 * b') :
    SubtInv ps vs d (k + 1) (zs ++ [z]) ((d * vs.getD k 0 + c) / 4294967296) b' := by
  have h3 := subt_bound hv k hd h.small
  refine ⟨by simp [h.len], h.lim.append (Lim.nil.cons hz), by omega, hb, ?_, ?_⟩
  · intro hk
    rw [getD_past vs k (by omega), Nat.mul_zero]
    have := h.small; omega
  have e := h.eq
  have hm := mul_digit (4294967296 ^ k) (d * vs.getD k 0 + c)
  have hp : 4294967296 ^ k * (z + (d * vs.getD k 0 + c) % 4294967296 + b) = 4294967296 ^ k * (ps.getD k 0 + 4294967296 * b') := by rw [he]
  rw [val_snoc, h.len, val_take_step vs, val_take_step ps, Nat.pow_succ, Nat.mul_add d]
  rw [Nat.mul_add, Nat.mul_add, Nat.mul_add, ← Nat.mul_assoc] at hp
  rw [Nat.mul_add] at hm e
  rw [Nat.mul_add]
  have e3 : d * (4294967296 ^ k * vs.getD k 0) = 4294967296 ^ k * (d * vs.getD k 0) := by rw [Nat.mul_left_comm]
  rw [e3]; omega

theorem SubtInv.done {ps vs : List Nat} {d n : Nat} {zs : List Nat} {c b : Nat} (h : SubtInv ps vs d (n + 1) zs c b) (hp : ps.length = n + 1) (hv : vs.length = n) :
    val zs < 4294967296 ^ (n + 1) ∧ val zs + d * val vs = val ps + 4294967296 ^ (n + 1) * b := by
  have e := h.eq
  rw [List.take_of_length_le (by omega), List.take_of_length_le (by omega), h.top (by omega), Nat.add_zero] at e
  have hz := val_lt h.lim
  rw [h.len] at hz
  exact ⟨hz, e⟩

/-! What is left of the part. -/
theorem digit_fits {P V q d Z M : Nat} (hq : q * V ≤ P) (hq' : P < (q + 1) * V) (hd : q ≤ d) (hd' : d ≤ q + 1) (he : Z + d * V = P + M * 0) : d = q ∧ Z = P - q * V := by
  have : d * V ≤ P := by omega
  have h1 : d = q := by
    by_cases h : d = q
    · exact h
    · obtain rfl : d = q + 1 := by omega
      omega
  subst h1
  exact ⟨rfl, by omega⟩

/-! The whole division, U = X * 2^s by V = Y * 2^s. -/
structure LongInv (U V n m j : Nat) (us qs : List Nat) : Prop where
  ulen : us.length = m + 1
  ulim : Lim us
  qlen : qs.length + j = m - n + 1
  qlim : Lim qs
  small : val (us.drop j) < V
  eq : U = val qs * (4294967296 ^ j * V) + val us

theorem val_drop_div {xs : List Nat} (h : Lim xs) (k : Nat) (hk : k ≤ xs.length) : val (xs.drop k) = val xs / 4294967296 ^ k := by
  have e := val_split xs k hk
  have h1 := val_take_lt h k
  rw [e, Nat.add_mul_div_left _ _ (pow_pos k), Nat.div_eq_of_lt h1, Nat.zero_add]

theorem LongInv.start {X Y s n m : Nat} {us : List Nat} (hl : us.length = m + 1) (hu : Lim us) (he : val us = X * 2 ^ s) (hn : 1 ≤ n) (hnm : n ≤ m) (hX : X < 4294967296 ^ m) (hY : 4294967296 ^ (n - 1) ≤ Y) :
    LongInv (X * 2 ^ s) (Y * 2 ^ s) n m (m - n + 1) us [] := by
  refine ⟨hl, hu, by simp, Lim.nil, ?_, by simp [val, he]⟩
  rw [val_drop_div hu _ (by omega), he, Nat.div_lt_iff_lt_mul (pow_pos _)]
  have h1 : 4294967296 ^ m = 4294967296 ^ (n - 1) * 4294967296 ^ (m - n + 1) := by rw [← Nat.pow_add]; congr 1; omega
  have h2 : X * 2 ^ s < 4294967296 ^ m * 2 ^ s := Nat.mul_lt_mul_of_pos_right hX (Nat.pow_pos (by omega))
  have h3 : 4294967296 ^ (n - 1) * 2 ^ s * 4294967296 ^ (m - n + 1) ≤ Y * 2 ^ s * 4294967296 ^ (m - n + 1) := Nat.mul_le_mul_right _ (Nat.mul_le_mul_right _ hY)
  rw [h1, Nat.mul_right_comm] at h2
  omega

/-- The part of a round: its value, and that nothing is above it. -/
theorem LongInv.part {U V n m j : Nat} {us qs : List Nat} (h : LongInv U V n m (j + 1) us qs) (hV : V < 4294967296 ^ n) (hj : j + 1 ≤ m - n + 1) (hnm : n ≤ m) :
    val ((us.drop j).take (n + 1)) = val (us.drop j) ∧ val (us.drop (j + n + 1)) = 0 ∧ val (us.drop j) < 4294967296 * V ∧ val (us.drop j) < 4294967296 ^ (n + 1) := by
  have h0 := h.ulim.getD j
  have hs := val_drop_step us j (by rw [h.ulen]; omega)
  have h1 := h.small
  have h2 : val (us.drop j) < 4294967296 * V := by
    have : 4294967296 * (val (us.drop (j + 1)) + 1) ≤ 4294967296 * V := Nat.mul_le_mul_left _ h1
    omega
  have h3 : val (us.drop j) < 4294967296 ^ (n + 1) := by
    rw [Nat.pow_succ, Nat.mul_comm]
    have : 4294967296 * V ≤ 4294967296 * 4294967296 ^ n := Nat.mul_le_mul_left _ (Nat.le_of_lt hV)
    omega
  have hl : n + 1 ≤ (us.drop j).length := by rw [List.length_drop, h.ulen]; omega
  have h4 := val_drop_div (h.ulim.drop j) (n + 1) hl
  rw [List.drop_drop, Nat.div_eq_of_lt h3] at h4
  have h5 := val_split (us.drop j) (n + 1) hl
  rw [List.drop_drop, h4] at h5
  refine ⟨by omega, ?_, h2, h3⟩
  rw [show j + n + 1 = j + (n + 1) from rfl]; exact h4

theorem LongInv.step {U V n m j : Nat} {us qs : List Nat} {ps : List Nat} (h : LongInv U V n m (j + 1) us qs) (hVp : 0 < V) (hV : V < 4294967296 ^ n) (hj : j + 1 ≤ m - n + 1) (hnm : n ≤ m)
    (hpl : ps.length = n + 1) (hps : Lim ps) (hp : val ps = val (us.drop j) - val (us.drop j) / V * V) :
    val (us.drop j) / V < 4294967296 ∧ LongInv U V n m j (us.take j ++ ps ++ us.drop (j + n + 1)) (val (us.drop j) / V :: qs) := by
  obtain ⟨_, h2, h3, _⟩ := h.part hV hj hnm
  have hq : val (us.drop j) / V < 4294967296 := by rw [Nat.div_lt_iff_lt_mul hVp]; exact h3
  have ul := h.ulen
  have hlt : (us.take j).length = j := by rw [List.length_take]; omega
  have hdrop : (us.take j ++ ps ++ us.drop (j + n + 1)).drop j = ps ++ us.drop (j + n + 1) := by
    rw [List.append_assoc, List.drop_append_of_le_length (by omega), List.drop_of_length_le (by omega), List.nil_append]
  have hv : val (ps ++ us.drop (j + n + 1)) = val ps := by rw [val_append, h2, Nat.mul_zero, Nat.add_zero]
  refine ⟨hq, ?_, (h.ulim.take j).append hps |>.append (h.ulim.drop _), ?_, h.qlim.cons hq, ?_, ?_⟩
  · simp only [List.length_append, List.length_drop, hlt, hpl]; omega
  · have := h.qlen; simp only [List.length_cons]; omega
  · rw [hdrop, hv, hp]
    have := Nat.mod_lt (val (us.drop j)) hVp
    rw [Nat.mod_eq_sub_mul_div, Nat.mul_comm] at this
    exact this
  · rw [List.append_assoc, val_append, hlt, hv, hp, h.eq, val_cons, val_split us j (by omega), Nat.pow_succ]
    have hle : val (us.drop j) / V * V ≤ val (us.drop j) := Nat.div_mul_le_self _ _
    obtain ⟨r, hr⟩ : ∃ r, val (us.drop j) = val (us.drop j) / V * V + r := ⟨_, (Nat.add_sub_cancel' hle).symm⟩
    generalize val (us.drop j) / V = q at *
    rw [hr, Nat.add_sub_cancel_left, Nat.add_mul, Nat.mul_add]
    have e1 : val qs * (4294967296 ^ j * 4294967296 * V) = 4294967296 * val qs * (4294967296 ^ j * V) := by
      rw [Nat.mul_comm 4294967296 (val qs), Nat.mul_assoc (val qs), Nat.mul_comm (4294967296 ^ j) 4294967296, Nat.mul_assoc 4294967296]
    have e2 : 4294967296 ^ j * (q * V) = q * (4294967296 ^ j * V) := by rw [Nat.mul_left_comm]
    rw [e1, e2]; omega

theorem LongInv.done {X Y s n m : Nat} {us qs : List Nat} (h : LongInv (X * 2 ^ s) (Y * 2 ^ s) n m 0 us qs) (hV : Y * 2 ^ s < 4294967296 ^ n) (hn : n ≤ m) :
    val qs = X / Y ∧ val (us.take n) = X % Y * 2 ^ s := by
  have e := h.eq
  have h1 := h.small
  rw [List.drop_zero] at h1
  rw [Nat.pow_zero, Nat.one_mul] at e
  have hV0 : 0 < Y * 2 ^ s := by omega
  have h2 : X * 2 ^ s / (Y * 2 ^ s) = val qs := by
    rw [e, Nat.mul_comm, Nat.mul_add_div hV0, Nat.div_eq_of_lt h1, Nat.add_zero]
  have h3 : X * 2 ^ s % (Y * 2 ^ s) = val us := by
    rw [e, Nat.mul_comm, Nat.mul_add_mod, Nat.mod_eq_of_lt h1]
  rw [Nat.mul_div_mul_right _ _ (Nat.pow_pos (by omega))] at h2
  rw [Nat.mul_mod_mul_right] at h3
  refine ⟨h2.symm, ?_⟩
  have h4 := val_split us n (by rw [h.ulen]; omega)
  have h5 := val_drop_div h.ulim n (by rw [h.ulen]; omega)
  rw [Nat.div_eq_of_lt (by omega)] at h5
  rw [h5] at h4
  omega

/-! Shifts by fewer bits than a limb has. -/
end Go.Proofs.YtfpcfcegdjlggaaGreat

/-
  Plain mathematics of single bits of limbs: division and square roots bit by bit. No program is mentioned.
-/

namespace Go.Proofs.YtfpcfcegdjlggaaGreat

theorem limb_of_val {xs : List Nat} (h : Lim xs) (k : Nat) : xs.getD k 0 = val xs / 4294967296 ^ k % 4294967296 := by
  by_cases hk : k < xs.length
  · rw [← val_drop_div h k (by omega), val_drop_step xs k hk]
    have := h.getD k; omega
  · have h1 := val_lt h
    have h2 : 4294967296 ^ xs.length ≤ 4294967296 ^ k := Nat.pow_le_pow_right (by omega) (by omega)
    rw [getD_past xs k (by omega), Nat.div_eq_of_lt (by omega)]

theorem pow_two (i : Nat) : 2 ^ i = 4294967296 ^ (i / 32) * 2 ^ (i % 32) := by
  have h : (4294967296 : Nat) = 2 ^ 32 := by decide
  rw [h, ← Nat.pow_mul, ← Nat.pow_add]; congr 1; omega

theorem mod_div_two (N r : Nat) (hr : r < 32) : N % 4294967296 / 2 ^ r % 2 = N / 2 ^ r % 2 := by
  have hD : 0 < 2 ^ r := Nat.pow_pos (by omega)
  have hB : 2 ^ r * (2 * 2 ^ (31 - r)) = 4294967296 := by
    rw [← Nat.mul_assoc, Nat.mul_comm (2 ^ r), Nat.mul_assoc, ← Nat.pow_add, show r + (31 - r) = 31 by omega]
  have e := Nat.div_add_mod N 4294967296
  generalize N / 4294967296 = a at *
  generalize N % 4294967296 = b at *
  generalize 2 ^ r = D at *
  generalize 2 ^ (31 - r) = E at *
  rw [← e, ← hB]
  have h1 : (D * (2 * E) * a + b) / D = 2 * E * a + b / D := by rw [Nat.mul_assoc D, Nat.mul_add_div hD]
  rw [h1, Nat.mul_assoc 2]
  omega

/-- Bit i of a number, out of its limbs. -/
theorem bit_of_val {xs : List Nat} (h : Lim xs) (i : Nat) : xs.getD (i / 32) 0 / 2 ^ (i % 32) % 2 = val xs / 2 ^ i % 2 := by
  rw [limb_of_val h, mod_div_two _ _ (Nat.mod_lt _ (by omega)), Nat.div_div_eq_div_mul, ← pow_two]

/-- A limb of a number all of whose lower bits, up to i, are 0, is a multiple of 2^(i%32+1). -/
theorem limb_low {xs : List Nat} (h : Lim xs) (i t : Nat) (he : val xs = t * 2 ^ (i + 1)) :
    ∃ a, xs.getD (i / 32) 0 = a * (2 * 2 ^ (i % 32)) ∧ xs.getD (i / 32) 0 + 2 ^ (i % 32) < 4294967296 := by
  have hr : i % 32 < 32 := Nat.mod_lt _ (by omega)
  have hB : 2 ^ (i % 32) * (2 * 2 ^ (31 - i % 32)) = 4294967296 := by
    rw [← Nat.mul_assoc, Nat.mul_comm (2 ^ (i % 32)), Nat.mul_assoc, ← Nat.pow_add, show i % 32 + (31 - i % 32) = 31 by omega]
  have e1 : val xs / 4294967296 ^ (i / 32) = t * (2 * 2 ^ (i % 32)) := by
    rw [he, Nat.pow_succ, pow_two i]
    rw [show t * (4294967296 ^ (i / 32) * 2 ^ (i % 32) * 2) = 4294967296 ^ (i / 32) * (t * (2 * 2 ^ (i % 32))) by
      rw [Nat.mul_assoc (4294967296 ^ (i / 32)), Nat.mul_left_comm t, Nat.mul_comm (2 ^ (i % 32)) 2]]
    rw [Nat.mul_div_cancel_left _ (pow_pos _)]
  rw [limb_of_val h, e1]
  have hD : 0 < 2 ^ (i % 32) := Nat.pow_pos (by omega)
  have hE : 0 < 2 ^ (31 - i % 32) := Nat.pow_pos (by omega)
  generalize 2 ^ (i % 32) = D at *
  generalize 2 ^ (31 - i % 32) = E at *
  have e2 : t * (2 * D) % 4294967296 = t % E * (2 * D) := by
    rw [← hB, show D * (2 * E) = E * (2 * D) by rw [Nat.mul_left_comm, Nat.mul_comm D E, Nat.mul_left_comm], Nat.mul_mod_mul_right]
  refine ⟨t % E, e2, ?_⟩
  rw [e2]
  have h1 : t % E + 1 ≤ E := Nat.mod_lt _ hE
  have h2 : (t % E + 1) * (2 * D) ≤ E * (2 * D) := Nat.mul_le_mul_right _ h1
  have h3 : E * (2 * D) = 4294967296 := by rw [← hB, Nat.mul_left_comm, Nat.mul_comm E D, Nat.mul_left_comm]
  rw [Nat.add_mul] at h2
  omega

/-- Setting a bit that is 0, of a number whose lower bits are 0 too. -/
theorem val_set_bit {xs : List Nat} (i : Nat) (hi : i / 32 < xs.length) :
    val (xs.set (i / 32) (xs.getD (i / 32) 0 + 2 ^ (i % 32))) = val xs + 2 ^ i := by
  have := val_set xs (i / 32) (xs.getD (i / 32) 0 + 2 ^ (i % 32)) hi
  rw [Nat.mul_add, ← pow_two] at this
  omega

/-! The division bit by bit. -/
structure BitInv (M N : Nat) (L i : Nat) (qs : List Nat) (r : Nat) : Prop where
  qlen : qs.length = L
  qlim : Lim qs
  small : r < N
  eq : ∃ Q, val qs = Q * 2 ^ i ∧ M / 2 ^ i = Q * N + r

theorem BitInv.start (M N L : Nat) (hN : 0 < N) (hM : M < 4294967296 ^ L) : BitInv M N L (32 * L) (List.replicate L 0) 0 := by
  refine ⟨by simp, Lim.replicate _ _ (by omega), hN, 0, by simp [val_replicate], ?_⟩
  have : (2 : Nat) ^ (32 * L) = 4294967296 ^ L := by
    have h : (4294967296 : Nat) = 2 ^ 32 := by decide
    rw [h, ← Nat.pow_mul]
  rw [this, Nat.div_eq_of_lt hM]; simp

theorem half (M i : Nat) : M / 2 ^ i = 2 * (M / 2 ^ (i + 1)) + M / 2 ^ i % 2 := by
  rw [Nat.pow_succ, ← Nat.div_div_eq_div_mul]; omega

theorem BitInv.step_no {M N L i : Nat} {qs : List Nat} {r : Nat} (h : BitInv M N L (i + 1) qs r) (hlt : 2 * r + M / 2 ^ i % 2 < N) : BitInv M N L i qs (2 * r + M / 2 ^ i % 2) := by
  obtain ⟨Q, h1, h2⟩ := h.eq
  refine ⟨h.qlen, h.qlim, hlt, 2 * Q, ?_, ?_⟩
  · rw [h1, Nat.pow_succ, Nat.mul_comm 2 Q, Nat.mul_assoc, Nat.mul_comm 2]
  · have := half M i
    rw [h2] at this
    rw [Nat.mul_assoc]; omega

theorem BitInv.step_yes {M N L i : Nat} {qs : List Nat} {r : Nat} (h : BitInv M N L (i + 1) qs r) (hi : i < 32 * L) (hge : N ≤ 2 * r + M / 2 ^ i % 2) :
    (∃ a, qs.getD (i / 32) 0 = a * (2 * 2 ^ (i % 32)) ∧ qs.getD (i / 32) 0 + 2 ^ (i % 32) < 4294967296) ∧
    BitInv M N L i (qs.set (i / 32) (qs.getD (i / 32) 0 + 2 ^ (i % 32))) (2 * r + M / 2 ^ i % 2 - N) := by
  obtain ⟨Q, h1, h2⟩ := h.eq
  have hb := limb_low h.qlim i Q h1
  refine ⟨hb, by simp [h.qlen], h.qlim.set _ _ (by obtain ⟨_, _, h⟩ := hb; exact h), ?_, 2 * Q + 1, ?_, ?_⟩
  · have := h.small; omega
  · rw [val_set_bit i (by rw [h.qlen]; omega), h1, Nat.pow_succ, Nat.add_mul, Nat.one_mul, Nat.mul_comm 2 Q, Nat.mul_assoc, Nat.mul_comm 2]
  · have := half M i
    rw [h2] at this
    rw [Nat.add_mul, Nat.mul_assoc]; omega

theorem BitInv.done {M N L : Nat} {qs : List Nat} {r : Nat} (h : BitInv M N L 0 qs r) : val qs = M / N ∧ r = M % N := by
  obtain ⟨Q, h1, h2⟩ := h.eq
  have hs := h.small
  simp only [Nat.pow_zero, Nat.mul_one, Nat.div_one] at h1 h2
  rw [h1, h2]
  constructor
  · rw [Nat.mul_comm, Nat.mul_add_div (by omega), Nat.div_eq_of_lt hs, Nat.add_zero]
  · rw [Nat.mul_comm, Nat.mul_add_mod, Nat.mod_eq_of_lt hs]

/-! The square root bit by bit: bits from i on are known. -/
structure RootInv (M L i : Nat) (rs : List Nat) : Prop where
  len : rs.length = L
  lim : Lim rs
  low : ∃ Q, val rs = Q * 2 ^ i
  le : val rs * val rs ≤ M
  gt : M < (val rs + 2 ^ i) * (val rs + 2 ^ i)

theorem RootInv.start (M n L : Nat) (hL : L = (n + 1) / 2) (hM : M < 4294967296 ^ n) : RootInv M L (32 * L) (List.replicate L 0) := by
  refine ⟨by simp, Lim.replicate _ _ (by omega), ⟨0, by simp [val_replicate]⟩, by simp [val_replicate], ?_⟩
  rw [val_replicate, Nat.zero_add, ← Nat.pow_add]
  have e : (4294967296 : Nat) = 2 ^ 32 := by decide
  rw [e, ← Nat.pow_mul] at hM
  refine Nat.lt_of_lt_of_le hM (Nat.pow_le_pow_right (by omega) (by omega))

theorem RootInv.bit {M L i : Nat} {rs : List Nat} (h : RootInv M L (i + 1) rs) :
    ∃ a, rs.getD (i / 32) 0 = a * (2 * 2 ^ (i % 32)) ∧ rs.getD (i / 32) 0 + 2 ^ (i % 32) < 4294967296 := by
  obtain ⟨Q, hQ⟩ := h.low
  exact limb_low h.lim i Q hQ

theorem RootInv.step_no {M L i : Nat} {rs : List Nat} (h : RootInv M L (i + 1) rs) (hgt : M < (val rs + 2 ^ i) * (val rs + 2 ^ i)) : RootInv M L i rs := by
  obtain ⟨Q, hQ⟩ := h.low
  refine ⟨h.len, h.lim, ⟨2 * Q, ?_⟩, h.le, hgt⟩
  rw [hQ, Nat.pow_succ, Nat.mul_comm 2 Q, Nat.mul_assoc, Nat.mul_comm 2]

theorem RootInv.step_yes {M L i : Nat} {rs : List Nat} (h : RootInv M L (i + 1) rs) (hi : i < 32 * L) (hle : (val rs + 2 ^ i) * (val rs + 2 ^ i) ≤ M) :
    RootInv M L i (rs.set (i / 32) (rs.getD (i / 32) 0 + 2 ^ (i % 32))) := by
  obtain ⟨Q, hQ⟩ := h.low
  obtain ⟨_, _, hb⟩ := h.bit
  have hv := val_set_bit (xs := rs) i (by rw [h.len]; omega)
  refine ⟨by simp [h.len], h.lim.set _ _ hb, ⟨2 * Q + 1, ?_⟩, by rw [hv]; exact hle, ?_⟩
  · rw [hv, hQ, Nat.pow_succ, Nat.add_mul, Nat.one_mul, Nat.mul_comm 2 Q, Nat.mul_assoc, Nat.mul_comm 2]
  · have hg := h.gt
    rw [hv]
    rwa [Nat.pow_succ, show val rs + 2 ^ i * 2 = val rs + 2 ^ i + 2 ^ i by omega] at hg

end Go.Proofs.YtfpcfcegdjlggaaGreat
namespace Go.Proofs.YtfpcfcegdjlggaaGreat
open Go.RowKit

/-- Limb i, as the cells hold it. -/
def nth (xs : List Nat) (i : Nat) : Int := (xs.getD i 0 : Nat)
theorem nth_ge (xs : List Nat) (i : Nat) : 0 ≤ nth xs i := Int.natCast_nonneg _
theorem nth_le {xs : List Nat} (h : Lim xs) (i : Nat) : nth xs i ≤ 4294967295 := by have := h.getD i; unfold nth; omega

/-- The slice at address a with capacity cap reads as the list xs. -/
structure Rd (w : World) (a : Option Addr) (cap : Nat) (xs : List Nat) : Prop where
  fits : xs.length ≤ cap
  lim : Lim xs
  cells : ∀ i, i < xs.length → ∃ b o, a = some ⟨b, o, none⟩ ∧ w.cell? ⟨b, o + i, none⟩ = some (.int .u32 (nth xs i))

theorem nth_take (xs : List Nat) (n i : Nat) (h : i < n) : nth (xs.take n) i = nth xs i := by
  unfold nth; simp only [List.getD_eq_getElem?_getD, List.getElem?_take, if_pos h]

theorem Rd.take {w : World} {a : Option Addr} {cap : Nat} {xs : List Nat} (h : Rd w a cap xs) (n : Nat) : Rd w a cap (xs.take n) := by
  refine ⟨by rw [List.length_take]; have := h.fits; omega, h.lim.take n, fun i hi => ?_⟩
  rw [List.length_take] at hi
  rw [nth_take xs n i (by omega)]
  exact h.cells i (by omega)

theorem Rd.trim {w : World} {a : Option Addr} {cap : Nat} {xs : List Nat} (h : Rd w a cap xs) : Rd w a cap (trimL xs) := by
  rw [trimL_eq_take]; exact h.take _

end Go.Proofs.YtfpcfcegdjlggaaGreat
