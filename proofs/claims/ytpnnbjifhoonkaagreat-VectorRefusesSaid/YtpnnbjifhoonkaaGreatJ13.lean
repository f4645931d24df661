/-
  Joined texts: UC UI UD UK.
-/
import Derived.Test.YtpnnbjifhoonkaaGreatJ12
import Derived.Test.YtpnnbjifhoonkaaGreatJ08
import Derived.Test.YtpnnbjifhoonkaaGreatJ07
import Derived.StillTail
import Derived.Deep.AppendLies
namespace Go.Proofs.YtpnnbjifhoonkaaGreat
open Go.RowKit

/-- A canonical Int that can be read. -/
def GivesZ (w : World) (z : Int) (e : Ending) (w' : World) : Prop :=
  ∃ a c, e = .returned (.agg #[.bool (sg z), .slice a (mg z).length c]) ∧ Lm w' a c (mg z) ∧ Below w.heap.size w w'

theorem GivesInt.z {w w' : World} {z : Int} {e : Ending} (h : GivesInt w z e w') : GivesZ w z e w' := by
  obtain ⟨a, c, he, hN⟩ := h
  exact ⟨a, c, he, Lm.of_new hN, hN.below⟩

/-- A matrix in memory of the call's own. -/
def GivesMat (w : World) (n m : Nat) (M : Nat → Nat → Int) (e : Ending) (w' : World) : Prop :=
  ∃ g cap R, e = .returned (.slice (some ⟨g, 0, none⟩) n cap) ∧ MatZ w' g n m R M ∧ w.heap.size ≤ g ∧ (∀ i, i < n → w.heap.size ≤ R i) ∧ Below w.heap.size w w'

theorem cell_keep {w w' : World} {p : Addr} {v : Value} (hb : Below w.heap.size w w') (hc : w.cell? p = some v) : w'.cell? p = some v := by
  rw [hb.cell (World.block_lt_of_cell? w _ hc)]; exact hc

section
variable {x y : Int} {a b : Option Addr} {c d : Nat} {w : World}

theorem mulZ (hx : Lm w a c (mg x)) (hy : Lm w b d (mg y)) (lx : (mg x).length ≤ 1000000) (ly : (mg y).length ≤ 1000000) :
    Calls Tryz.prog 52 #[.agg #[.bool (sg x), .slice a (mg x).length c], .agg #[.bool (sg y), .slice b (mg y).length d]] w (GivesZ w (x * y)) := by
  have h := rmul_any (sg x) (sg y) a b _ _ c d (mg x) (mg y) w hx.rd hy.rd rfl rfl (by omega) (by omega)
  rw [den_mg, den_mg] at h
  exact h.mono fun e w' => GivesInt.z

theorem subZ (hx : Lm w a c (mg x)) (hy : Lm w b d (mg y)) (lx : (mg x).length ≤ 1000000) (ly : (mg y).length ≤ 1000000) :
    Calls Tryz.prog 81 #[.agg #[.bool (sg x), .slice a (mg x).length c], .agg #[.bool (sg y), .slice b (mg y).length d]] w (GivesZ w (x - y)) := by
  have h := rsub_any (sg x) (sg y) a b _ _ c d (mg x) (mg y) w hx.rd hy.rd rfl rfl (by omega) (by omega)
  rw [den_mg, den_mg] at h
  exact h.mono fun e w' => GivesInt.z

theorem addZ (hx : Lm w a c (mg x)) (hy : Lm w b d (mg y)) (lx : (mg x).length ≤ 1000000) (ly : (mg y).length ≤ 1000000) :
    Calls Tryz.prog 51 #[.agg #[.bool (sg x), .slice a (mg x).length c], .agg #[.bool (sg y), .slice b (mg y).length d]] w (GivesZ w (x + y)) := by
  have h := radd_any (sg x) (sg y) a b _ _ c d (mg x) (mg y) w hx.rd hy.rd rfl rfl (by omega) (by omega)
  rw [den_mg, den_mg] at h
  exact h.mono fun e w' => GivesInt.z

theorem quoZ (hx : Lm w a c (mg x)) (hy : Lm w b d (mg y)) (lx : (mg x).length ≤ 1000000) (ly : (mg y).length ≤ 1000000) (h0 : y ≠ 0) :
    Calls Tryz.prog 80 #[.agg #[.bool (sg x), .slice a (mg x).length c], .agg #[.bool (sg y), .slice b (mg y).length d]] w (GivesZ w (x / y)) := by
  have h := rquo_any (sg x) (sg y) a b _ _ c d (mg x) (mg y) w hx.rd hy.rd rfl rfl (by omega) (by omega) (by rw [den_mg]; exact h0)
  rw [den_mg, den_mg] at h
  exact h.mono fun e w' => GivesInt.z

theorem negZ (hx : Lm w a c (mg x)) (lx : (mg x).length ≤ 1000000) :
    Calls Tryz.prog 82 #[.agg #[.bool (sg x), .slice a (mg x).length c]] w (GivesZ w (-x)) := by
  have h := rneg_any (sg x) a _ c (mg x) w hx.rd rfl (by omega)
  rw [den_mg] at h
  exact h.mono fun e w' => GivesInt.z

theorem den_abs (x : Int) : den false (mg x) = (x.natAbs : Int) := by unfold den mg; rw [val_limbs]; rfl

theorem absZ (hx : Lm w a c (mg x)) (lx : (mg x).length ≤ 1000000) :
    Calls Tryz.prog 85 #[.agg #[.bool (sg x), .slice a (mg x).length c]] w (GivesZ w (x.natAbs : Int)) := by
  have h := rabs_any (sg x) a _ c (mg x) w hx.rd rfl (by omega)
  rw [den_abs] at h
  exact h.mono fun e w' => GivesInt.z

theorem normalizeZ (hx : Lm w a c (mg x)) (lx : (mg x).length ≤ 1000000) :
    Calls Tryz.prog 98 #[.agg #[.bool (sg x), .slice a (mg x).length c]] w (GivesZ w x) := by
  have h := rnormalize_any (sg x) a _ c (mg x) w hx.rd rfl (by omega)
  rw [den_mg] at h
  exact h.mono fun e w' => GivesInt.z

theorem smallZ (z : Int) (h0 : -9223372036854775808 ≤ z) (h1 : z ≤ 9223372036854775807) :
    Calls Tryz.prog 50 #[.int .i64 z] w (GivesZ w z) := (rsmall_any z w h0 h1).mono fun e w' => GivesInt.z

theorem signZ (hx : Lm w a c (mg x)) (lx : (mg x).length ≤ 1000000) :
    Calls Tryz.prog 78 #[.agg #[.bool (sg x), .slice a (mg x).length c]] w fun e w' => e = .returned (.int .i64 (sign3 x)) ∧ Below w.heap.size w w' := by
  have h := rsign_any (sg x) a _ c (mg x) w hx.rd rfl (by omega)
  rw [den_mg] at h
  exact h

theorem cmpZZ (hx : Lm w a c (mg x)) (hy : Lm w b d (mg y)) (lx : (mg x).length ≤ 1000000) (ly : (mg y).length ≤ 1000000) :
    Calls Tryz.prog 64 #[.agg #[.bool (sg x), .slice a (mg x).length c], .agg #[.bool (sg y), .slice b (mg y).length d]] w fun e w' => e = .returned (.int .i64 (cmpZ x y)) ∧ Below w.heap.size w w' := by
  have h := rcmpz_any (sg x) (sg y) a b _ _ c d (mg x) (mg y) w hx.rd hy.rd rfl rfl (by omega) (by omega)
  rw [den_mg, den_mg] at h
  exact h

theorem int64Z (hx : Lm w a c (mg x)) (lx : (mg x).length ≤ 1000000) :
    Calls Tryz.prog 26 #[.agg #[.bool (sg x), .slice a (mg x).length c]] w fun e w' => e = .returned (.tuple #[.int .i64 (to64 x), .bool (in64 x)]) ∧ Below w.heap.size w w' := by
  have h := rint64_any (sg x) a _ c (mg x) w hx.rd rfl (by omega)
  rw [den_mg] at h
  exact h
end

/-- How great the numbers of stage k can be. -/
def cB (k : Nat) : Nat := 2 ^ (2 ^ (k + 6) - 1)

theorem cB_step (k : Nat) : 2 * (cB k * cB k) = cB (k + 1) := by
  unfold cB
  have h1 : 0 < 2 ^ (k + 6) := Nat.two_pow_pos _
  have h2 : 2 ^ (k + 1 + 6) = 2 ^ (k + 6) + 2 ^ (k + 6) := by rw [show k + 1 + 6 = (k + 6) + 1 from by omega, Nat.pow_succ]; omega
  rw [h2, ← Nat.pow_add]
  have h3 : 2 ^ (k + 6) + 2 ^ (k + 6) - 1 = (2 ^ (k + 6) - 1 + (2 ^ (k + 6) - 1)) + 1 := by omega
  rw [h3, Nat.pow_succ]
  omega

theorem cB_pos (k : Nat) : 1 ≤ cB k := Nat.two_pow_pos _
theorem cB_le (k : Nat) : cB k ≤ cB (k + 1) := by
  rw [← cB_step]
  have h := Nat.le_mul_of_pos_left (cB k) (cB_pos k)
  omega
theorem cB_lt (k : Nat) : cB k < 4294967296 ^ (2 ^ (k + 1)) := by
  have e : (4294967296 : Nat) ^ (2 ^ (k + 1)) = 2 ^ (32 * 2 ^ (k + 1)) := by rw [Nat.pow_mul]
  rw [e]
  unfold cB
  refine Nat.pow_lt_pow_right (by decide) ?_
  have h1 : 0 < 2 ^ (k + 1) := Nat.two_pow_pos _
  have h2 : 2 ^ (k + 6) = 2 ^ (k + 1) * 32 := by rw [show k + 6 = (k + 1) + 5 from by omega, Nat.pow_add]
  omega

theorem cB_short {z : Int} {k : Nat} (hk : k ≤ 16) (h : z.natAbs ≤ cB k) : (mg z).length ≤ 1000000 := by
  have h1 : (mg z).length ≤ 2 ^ (k + 1) := length_limbs_le (Nat.lt_of_le_of_lt h (cB_lt k))
  have h2 : 2 ^ (k + 1) ≤ 2 ^ 17 := Nat.pow_le_pow_right (by decide) (by omega)
  omega
end Go.Proofs.YtpnnbjifhoonkaaGreat
namespace Go.Proofs.YtpnnbjifhoonkaaGreat
open Go.RowKit

section
variable {P : Program} {ops : Array Oper} {Q : Exit → Act → World → Prop} {md : Region.Mode} {S : World → Prop} {t : Nat}

/-- Whatever order is picked from here on; S holds behind every operation ahead of number t. -/
def wpAnyT (P : Program) (md : Region.Mode) (ops : Array Oper) (Q : Exit → Act → World → Prop) (S : World → Prop) (t : Nat) : Nat → Array Bool → Act → World → Prop
  | 0, listed, a, w => Region.ready md ops listed = [] ∧ Q .normal a w
  | fuel + 1, listed, a, w =>
    (Region.ready md ops listed = [] → Q .normal a w) ∧
    ∀ i ∈ Region.ready md ops listed, wpOp P ops Q i (fun a' w' => (i < t → S w') ∧ wpAnyT P md ops Q S t fuel (listed.setIfInBounds i true) a' w') a w

theorem wpAny_of_T : ∀ (fuel : Nat) (listed : Array Bool) (a : Act) (w : World), wpAnyT P md ops Q S t fuel listed a w → wpAny P md ops Q fuel listed a w
  | 0, _, _, _, h => h
  | fuel + 1, _, _, _, h => ⟨h.1, fun i hi => wpOp_mono (fun a' w' h' => wpAny_of_T fuel _ a' w' h'.2) (h.2 i hi)⟩

theorem wpAnyT_first {i : Nat} {oi : Oper} {v : Value} (hi : ops[i]? = some oi) (hsel : ∀ (j : Nat) (o : Oper) cs b, ops[j]? = some o → o.op ≠ .select cs b)
    (hsk : Region.sinkB md ops t = true) (hc : Region.chainB md ops t = true) (ht : t < ops.size) (hit : i < t)
    (hQ : ∀ c a w, Q (.panic c) (a.put oi.dst v) w → Q (.panic c) a w) :
    ∀ (fuel : Nat) (listed : Array Bool) (a : Act) (w : World), HeadInv md ops t listed →
      (∀ j oj, ops[j]? = some oj → j ≠ i → listed.getD j true = false → (∀ e ∈ oj.after, Region.binds md e = true → e.on ≠ i) → oi.apart ops oj = true) →
      i ∈ Region.ready md ops listed → YieldsIf P ops S oi v a → S w →
      wpAnyT P md ops Q S t fuel (listed.setIfInBounds i true) (a.put oi.dst v) w → wpAnyT P md ops Q S t (fuel + 1) listed a w := by
  intro fuel
  induction fuel with
  | zero =>
    intro listed a w _ _ hr hy hS H
    refine ⟨fun h => (by rw [h] at hr; cases hr), fun j hj => ?_⟩
    by_cases hji : j = i
    · subst hji; exact hy.wpOp hi hS ⟨fun _ => hS, H⟩
    · have := ready_mono hj hji
      rw [H.1] at this
      cases this
  | succ fuel ih =>
    intro listed a w inv hfree hr hy hS H
    have hun := (mem_ready.1 hr).1
    refine ⟨fun h => (by rw [h] at hr; cases hr), fun j hj => ?_⟩
    by_cases hji : j = i
    · subst hji; exact hy.wpOp hi hS ⟨fun _ => hS, H⟩
    · have hjt : j < t := by
        rcases Nat.lt_or_ge j t with h | h
        · exact h
        · exact absurd hj (tail_waits hsk hc ht inv _ i rfl hit hun j h)
      have h1 := H.2 j (ready_mono hj hji)
      obtain ⟨hjun, oj, hoj, hall⟩ := mem_ready.1 hj
      have hnot : ∀ e ∈ oj.after, Region.binds md e = true → e.on ≠ i := fun e he hb heq => by
        have h1 := hall e he hb
        rw [heq, getD_both hun] at h1
        cases h1
      have h2 := wpOp_putIf hoj (hfree j oj hoj hji hjun hnot) (fun cs b => hsel i oi cs b hi) (fun cs b => hsel j oj cs b hoj) hQ hy h1
      have hfree' : ∀ k ok, ops[k]? = some ok → k ≠ i → (listed.setIfInBounds j true).getD k true = false →
          (∀ e ∈ ok.after, Region.binds md e = true → e.on ≠ i) → oi.apart ops ok = true := fun k ok hk hki hu hno => by
        refine hfree k ok hk hki ?_ hno
        by_cases hjk : j = k
        · subst hjk; exact hjun
        · rw [Go.getD_set_ne true hjk] at hu; exact hu
      refine wpOp_mono (fun a' w' h3 => ⟨h3.2.1, ih (listed.setIfInBounds j true) a' w' (inv.set hj hjt) hfree' (ready_mono hr (Ne.symm hji)) h3.1 (h3.2.1 hjt) ?_⟩) h2
      rw [Array.setIfInBounds_comm _ _ hji]
      exact h3.2.2

/-- HeadInv, as a Bool. -/
def headB (md : Region.Mode) (ops : Array Oper) (n : Nat) (listed : Array Bool) : Bool :=
  decide (listed.size = ops.size) && ((List.range ops.size).all fun j => match ops[j]? with
    | some oj => !listed.getD j false || oj.after.all fun e => !Region.binds md e || listed.getD e.on false
    | none => true) && (List.range ops.size).all fun k => decide (k < n) || !listed.getD k true

theorem headB_spec {n : Nat} {listed : Array Bool} (h : headB md ops n listed = true) : HeadInv md ops n listed := by
  simp only [headB, Bool.and_eq_true, decide_eq_true_eq] at h
  obtain ⟨⟨h1, h2⟩, h3⟩ := h
  refine ⟨h1, fun j oj hj hl e he hb => ?_, fun k hk hk' => ?_⟩
  · have := List.all_eq_true.1 h2 j (List.mem_range.2 (Array.getElem?_eq_some_iff.1 hj).1)
    rw [hj] at this
    simp only [hl, Bool.not_true, Bool.false_or] at this
    obtain ⟨k, hk, rfl⟩ := Array.getElem_of_mem he
    have h4 := (Array.all_eq_true.1 this) k hk
    simpa [hb] using h4
  · have := List.all_eq_true.1 h3 k (List.mem_range.2 hk')
    simpa [show ¬k < n from by omega] using this
end

section
variable {P : Program} {l : List Oper} {Q : Exit → Act → World → Prop} {S : World → Prop} {t : Nat}

theorem first_T {i : Nat} {oi : Oper} {v : Value} {fuel : Nat} {listed : Array Bool} {a : Act} {w : World} (hi : l[i]? = some oi)
    (hB : (Region.noSelect l.toArray && Region.free .any l.toArray listed i && (Region.ready .any l.toArray listed).contains i && Region.sinkB .any l.toArray t && Region.chainB .any l.toArray t && decide (t < l.toArray.size) && decide (i < t) && headB .any l.toArray t listed) = true)
    (hQ : ∀ c a w, Q (.panic c) (a.put oi.dst v) w → Q (.panic c) a w) (hw : Region.wanted oi (yielded l.toArray a.tmps) = true)
    (hy : ∀ w, S w → (execOp a.eval oi).run P w = .ok (.value v) w) (hS : S w)
    (h : wpAnyT P .any l.toArray Q S t fuel (listed.setIfInBounds i true) (a.put oi.dst v) w) : wpAnyT P .any l.toArray Q S t (fuel + 1) listed a w := by
  have hi' : l.toArray[i]? = some oi := by simpa using hi
  simp only [Bool.and_eq_true, decide_eq_true_eq] at hB
  obtain ⟨⟨⟨⟨⟨⟨⟨h1, h2⟩, h3⟩, h4⟩, h5⟩, h6⟩, h7⟩, h8⟩ := hB
  exact wpAnyT_first hi' (Region.noSelect_spec h1) h4 h5 h6 h7 hQ fuel listed a w (headB_spec h8) (Region.free_spec hi' h2) (by simpa using h3) (Or.inl ⟨hw, hy⟩) hS h

/-- The one that comes next, ahead of number t: S is to be shown anew. -/
theorem next_T {i : Nat} {oi : Oper} {fuel : Nat} {listed : Array Bool} {a : Act} {w : World} (hi : l[i]? = some oi) (hr : Region.ready .any l.toArray listed = [i])
    (h : ∀ K' : Act → World → Prop, Shut (∀ a w, S w → (S w → wpAnyT P .any l.toArray Q S t fuel (listed.setIfInBounds i true) a w) → K' a w) → if Region.wanted oi (yielded l.toArray a.tmps) = true then Oper.wp P oi a w K' Q else K' (a.put oi.dst undef) w) :
    wpAnyT P .any l.toArray Q S t (fuel + 1) listed a w := by
  have hi' : l.toArray[i]? = some oi := by simpa using hi
  refine ⟨fun h0 => (by rw [hr] at h0; cases h0), fun j hj => ?_⟩
  rw [hr] at hj
  obtain rfl : j = i := by simpa using hj
  exact wpOp_step hi' (fun K' hK => h K' (fun a w hS hW => hK a w ⟨fun _ => hS, hW hS⟩))

/-- The last one. -/
theorem last_T {oi : Oper} {fuel : Nat} {listed : Array Bool} {a : Act} {w : World} (hi : l[t]? = some oi) (hr : Region.ready .any l.toArray listed = [t]) (hr2 : Region.ready .any l.toArray (listed.setIfInBounds t true) = [])
    (h : ∀ K' : Act → World → Prop, Shut (∀ a w, Q .normal a w → K' a w) → if Region.wanted oi (yielded l.toArray a.tmps) = true then Oper.wp P oi a w K' Q else K' (a.put oi.dst undef) w) :
    wpAnyT P .any l.toArray Q S t (fuel + 1) listed a w := by
  have hi' : l.toArray[t]? = some oi := by simpa using hi
  refine ⟨fun h0 => (by rw [hr] at h0; cases h0), fun j hj => ?_⟩
  rw [hr] at hj
  obtain rfl : j = t := by simpa using hj
  refine wpOp_step hi' (fun K' hK => h K' (fun a w hq => hK a w ⟨fun h => absurd h (Nat.lt_irrefl _), ?_⟩))
  cases fuel with
  | zero => exact ⟨hr2, hq⟩
  | succ f => exact ⟨fun _ => hq, by rw [hr2]; simp⟩

/-- The beginning. -/
theorem begin_T (t : Nat) (S : World → Prop) {id : Nat} {a : Act} {w : World} (hm : P.follows .mixedOrders = true) (hS : S w.drew)
    (h : S w.drew → wpAnyT P .any l.toArray Q S t l.toArray.size (Array.replicate l.toArray.size false) a w.drew) : (Code.region id l.toArray true).wp P Q a w :=
  wp_region_any hm (wpAny_of_T _ _ _ _ (h hS))
end
end Go.Proofs.YtpnnbjifhoonkaaGreat
namespace Go.Proofs.YtpnnbjifhoonkaaGreat
open Go.RowKit

theorem infoZ : (Tryz.prog.info? 33).map (fun i => (i.zero, i.size, i.bytes)) = some (some (.agg #[.bool false, .slice none 0 0]), 2, 32) := by kernel_rfl
theorem infoRZ : (Tryz.prog.info? 50).map (fun i => (i.zero, i.size, i.bytes)) = some (some (.slice none 0 0), 1, 24) := by kernel_rfl

/-- The cells of the first n Ints. -/
def flatZ (f : Nat → Int) (A : Nat → Option Addr) (C : Nat → Nat) (n : Nat) : List Value := (List.range n).flatMap fun q => [.bool (sg (f q)), .slice (A q) (mg (f q)).length (C q)]

theorem flatZ_succ (f : Nat → Int) (A : Nat → Option Addr) (C : Nat → Nat) (n : Nat) : flatZ f A C (n + 1) = flatZ f A C n ++ [.bool (sg (f n)), .slice (A n) (mg (f n)).length (C n)] := by simp [flatZ, List.range_succ]
theorem length_flatZ (f : Nat → Int) (A : Nat → Option Addr) (C : Nat → Nat) : ∀ n, (flatZ f A C n).length = n * 2
  | 0 => rfl
  | n + 1 => by rw [flatZ_succ, List.length_append, length_flatZ f A C n]; simp; omega
theorem flatZ_get (f : Nat → Int) (A : Nat → Option Addr) (C : Nat → Nat) : ∀ n i, i < n → (flatZ f A C n)[i * 2]? = some (.bool (sg (f i))) ∧ (flatZ f A C n)[i * 2 + 1]? = some (.slice (A i) (mg (f i)).length (C i))
  | 0, i, h => by omega
  | n + 1, i, h => by
    have hl := length_flatZ f A C n
    rw [flatZ_succ]
    by_cases e : i < n
    · obtain ⟨h1, h2⟩ := flatZ_get f A C n i e
      exact ⟨by rw [List.getElem?_append_left (by omega)]; exact h1, by rw [List.getElem?_append_left (by omega)]; exact h2⟩
    · obtain rfl : i = n := by omega
      exact ⟨by rw [List.getElem?_append_right (by omega), hl, Nat.sub_self]; rfl, by rw [List.getElem?_append_right (by omega), hl, show i * 2 + 1 - i * 2 = 1 from by omega]; rfl⟩
theorem flatZ_congr {f f' : Nat → Int} {A A' : Nat → Option Addr} {C C' : Nat → Nat} : ∀ {n : Nat}, (∀ i, i < n → f i = f' i ∧ A i = A' i ∧ C i = C' i) → flatZ f A C n = flatZ f' A' C' n
  | 0, _ => rfl
  | n + 1, h => by
    obtain ⟨h1, h2, h3⟩ := h n (by omega)
    rw [flatZ_succ, flatZ_succ, flatZ_congr (fun i hi => h i (by omega)), h1, h2, h3]

theorem ownsRow_of_heap {w w' : World} {B n s : Nat} {t : TypeId} {v : Value} {xs : List Value} (h : w.ownsRow B t s v n xs) (he : ∀ g, v.ownBlock = some g → w'.heap[g]? = w.heap[g]?) : w'.ownsRow B t s v n xs := by
  refine ⟨h.1, ?_⟩
  rcases h.2 with h0 | ⟨g, cap, cur, hv, hb, hg, hr⟩
  · exact .inl h0
  · exact .inr ⟨g, cap, cur, hv, hb, by rw [he g (by rw [hv]; rfl)]; exact hg, hr⟩

theorem ownsRow_below {w w' : World} {B n s : Nat} {t : TypeId} {v : Value} {xs : List Value} (h : w.ownsRow B t s v n xs) (hb : Below w.heap.size w w') : w'.ownsRow B t s v n xs :=
  ownsRow_of_heap h fun g hg => hb.block g (h.lt g hg).2

theorem ownsRow_type {w : World} {B n s : Nat} {t : TypeId} {v : Value} {xs : List Value} (h : w.ownsRow B t s v n xs) (g : Nat) (hv : v.ownBlock = some g) : B ≤ g ∧ ∃ cur, w.heap[g]? = some (.cells cur t (0, 0)) := by
  rcases h.2 with ⟨h0, _⟩ | ⟨g', cap, cur, hv', hb, hg, _⟩
  · rw [h0] at hv; cases hv
  · rw [hv'] at hv
    simp only [Value.ownBlock, Option.some.injEq] at hv
    subst hv
    exact ⟨hb, cur, hg⟩

/-- Blocks of limbs are no blocks of another type. -/
theorem Own.ne_type {w : World} {g : Nat} {zs : List Nat} (h : Own w g zs) {k : Nat} {cur : Array Value} {t : TypeId} (hk : w.heap[k]? = some (.cells cur t (0, 0))) (ht : t ≠ 103) : g ≠ k := by
  rintro rfl
  obtain ⟨cur', hg, _⟩ := h.row
  rw [hk] at hg
  simp only [Option.some.injEq, Obj.cells.injEq] at hg
  exact ht hg.2.1

theorem Lm.grown {w w' : World} {a : Option Addr} {c : Nat} {zs : List Nat} (h : Lm w a c zs) {row : Option Nat} (hg : w.grownBy w' row) (hr : ∀ k, row = some k → ∃ cur t, w.heap[k]? = some (.cells cur t (0, 0)) ∧ t ≠ 103) : Lm w' a c zs := by
  refine ⟨h.fits, ?_⟩
  rcases h.own with h0 | ⟨g, rfl, ho⟩
  · exact .inl h0
  · refine .inr ⟨g, rfl, ho.kept hg fun e => ?_⟩
    obtain ⟨cur, t, hk, ht⟩ := hr g e
    exact ho.ne_type hk ht rfl

/-- A row of Ints that is being built: v holds the first n of f. -/
def RowB (w : World) (B : Nat) (v : Value) (n : Nat) (f : Nat → Int) : Prop :=
  ∃ (A : Nat → Option Addr) (C : Nat → Nat), w.ownsRow B 33 2 v n (flatZ f A C n) ∧ ∀ q, q < n → Lm w (A q) (C q) (mg (f q))

theorem RowB.nil (w : World) (B : Nat) (f : Nat → Int) : RowB w B (.slice none 0 0) 0 f := ⟨fun _ => none, fun _ => 0, World.ownsRow_nil _ _ _ _, fun q hq => by omega⟩
theorem RowB.moved {w w' : World} {B n : Nat} {v : Value} {f : Nat → Int} (h : RowB w B v n f) (hb : Below w.heap.size w w') : RowB w' B v n f := by
  obtain ⟨A, C, h1, h2⟩ := h
  exact ⟨A, C, ownsRow_below h1 hb, fun q hq => (h2 q hq).below hb⟩
theorem RowB.congr {w : World} {B n : Nat} {v : Value} {f f' : Nat → Int} (h : RowB w B v n f) (he : ∀ q, q < n → f q = f' q) : RowB w B v n f' := by
  obtain ⟨A, C, h1, h2⟩ := h
  refine ⟨A, C, ?_, fun q hq => by rw [← he q hq]; exact h2 q hq⟩
  rw [← flatZ_congr fun i hi => ⟨he i hi, rfl, rfl⟩]; exact h1

theorem RowB.setO {w : World} {B n : Nat} {v : Value} {f : Nat → Int} (h : RowB w B v n f) {G o : Nat} (hG : ∀ g, v.ownBlock = some g → g ≠ G) {u : Value} (hu : w.cell? ⟨G, o, none⟩ = some u) (hn : ∀ x, u ≠ .int .u32 x) (x : Value) : RowB (w.setCell ⟨G, o, none⟩ x) B v n f := by
  obtain ⟨A, C, h1, h2⟩ := h
  exact ⟨A, C, ownsRow_of_heap h1 fun g hg => Below.heap_setCell w ⟨G, o, none⟩ x g (hG g hg), fun q hq => (h2 q hq).setO rfl hu hn x⟩

theorem RowB.type {w : World} {B n : Nat} {v : Value} {f : Nat → Int} (h : RowB w B v n f) (g : Nat) (hv : v.ownBlock = some g) : B ≤ g ∧ ∃ cur, w.heap[g]? = some (.cells cur 33 (0, 0)) := by
  obtain ⟨A, C, h1, _⟩ := h
  exact ownsRow_type h1 g hv

/-- One more Int behind. -/
theorem RowB.next {w w1 : World} {B n : Nat} {v v' : Value} {f : Nat → Int} {A : Nat → Option Addr} {C : Nat → Nat} (h : w.ownsRow B 33 2 v n (flatZ f A C n)) (hA : ∀ q, q < n → Lm w (A q) (C q) (mg (f q)))
    {a : Option Addr} {c : Nat} (hL : Lm w a c (mg (f n))) (hown : w1.ownsRow B 33 2 v' (n + 1) (flatZ f A C n ++ [.bool (sg (f n)), .slice a (mg (f n)).length c])) (hg : w.grownBy w1 v.ownBlock) : RowB w1 B v' (n + 1) f := by
  have hr : ∀ k, v.ownBlock = some k → ∃ cur t, w.heap[k]? = some (.cells cur t (0, 0)) ∧ t ≠ 103 := fun k hk => by
    obtain ⟨_, cur, hc⟩ := ownsRow_type h k hk
    exact ⟨cur, _, hc, by decide⟩
  refine ⟨fun q => if q = n then a else A q, fun q => if q = n then c else C q, ?_, fun q hq => ?_⟩
  · rw [flatZ_succ, if_pos rfl, if_pos rfl, flatZ_congr (f' := f) (A' := A) (C' := C) fun i hi => ⟨rfl, if_neg (by omega), if_neg (by omega)⟩]
    exact hown
  · show Lm w1 (if q = n then a else A q) (if q = n then c else C q) _
    by_cases e : q = n
    · rw [if_pos e, if_pos e, e]; exact hL.grown hg hr
    · rw [if_neg e, if_neg e]; exact (hA q (by omega)).grown hg hr

/-- A row that is done. -/
theorem RowB.done {w : World} {B n : Nat} {v : Value} {f : Nat → Int} (h : RowB w B v n f) (hn : 0 < n) : ∃ g cap, v = .slice (some ⟨g, 0, none⟩) n cap ∧ B ≤ g ∧ RowZ w g n f ∧ ∃ cur, w.heap[g]? = some (.cells cur 33 (0, 0)) := by
  obtain ⟨A, C, h1, h2⟩ := h
  rcases h1.2 with ⟨_, h0⟩ | ⟨g, cap, cur, hv, hb, hg, hnc, hcm, _, ht⟩
  · omega
  · have key : ∀ i, i < n * 2 → cur[i]? = (flatZ f A C n)[i]? := fun i hi => by
      rw [← ht, List.getElem?_take, if_pos hi]; simp
    refine ⟨g, cap, hv, hb, ⟨fun j hj => ⟨A j, C j, ?_, ?_, h2 j hj⟩, fun k => frozen_of_row _ _ _ _ _ hg, (Array.getElem?_eq_some_iff.1 hg).1⟩, cur, hg⟩
    · rw [cell_of_row _ _ _ _ _ (0, 0) hg, key _ (by omega), (flatZ_get f A C n j hj).1]
    · rw [cell_of_row _ _ _ _ _ (0, 0) hg, key _ (by omega), (flatZ_get f A C n j hj).2]
end Go.Proofs.YtpnnbjifhoonkaaGreat
namespace Go.Proofs.YtpnnbjifhoonkaaGreat
open Go.RowKit

/-- What Copy has built: i rows whole, of row i the first j entries. -/
structure Cp (w0 w : World) (G n m : Nat) (M : Nat → Nat → Int) (i j : Nat) (v : Value) (R : Nat → Nat) (C : Nat → Nat) : Prop where
  outer : w.rowIs G 50 n (fun p => if p < i then .slice (some ⟨R p, 0, none⟩) m (C p) else if p = i then v else .slice none 0 0)
  rows : ∀ p, p < i → RowZ w (R p) m (M p)
  types : ∀ p, p < i → w0.heap.size ≤ R p ∧ ∃ cur, w.heap[R p]? = some (.cells cur 33 (0, 0))
  part : RowB w w0.heap.size v j (M i)
  inj : ∀ p q, p < i → q < i → R p = R q → p = q
  far : ∀ p, p < i → v.ownBlock ≠ some (R p)
  low : w0.heap.size ≤ G
  below : Below w0.heap.size w0 w

theorem Cp.moved {w0 w w' : World} {G n m i j : Nat} {M : Nat → Nat → Int} {v : Value} {R C : Nat → Nat} (h : Cp w0 w G n m M i j v R C) (hb : Below w.heap.size w w') : Cp w0 w' G n m M i j v R C := by
  refine ⟨h.outer.of_block (hb.block G h.outer.lt), fun p hp => (h.rows p hp).belowU hb, fun p hp => ?_, h.part.moved hb, h.inj, h.far, h.low, h.below.trans (hb.mono h.below.size)⟩
  obtain ⟨h1, cur, h2⟩ := h.types p hp
  exact ⟨h1, cur, (hb.block _ (h.rows p hp).lt).trans h2⟩

theorem rowIs_type {w : World} {G n : Nat} {t : TypeId} {f : Nat → Value} (h : w.rowIs G t n f) : ∃ cur, w.heap[G]? = some (.cells cur t (0, 0)) := by
  obtain ⟨c, hb, _, _⟩ := h
  exact ⟨c, hb⟩

theorem ne_of_types {w : World} {a b : Nat} {cur cur' : Array Value} {t t' : TypeId} (ha : w.heap[a]? = some (.cells cur t (0, 0))) (hb : w.heap[b]? = some (.cells cur' t' (0, 0))) (ht : t ≠ t') : a ≠ b := by
  rintro rfl
  rw [ha] at hb
  simp only [Option.some.injEq, Obj.cells.injEq] at hb
  exact ht hb.2.1

/-- The row's block changes, by an append to row i: the rest stands. -/
theorem RowZ.grown {w w' : World} {b m : Nat} {f : Nat → Int} (h : RowZ w b m f) {row : Option Nat} (hg : w.grownBy w' row) (hne : row ≠ some b) (hr : ∀ k, row = some k → ∃ cur t, w.heap[k]? = some (.cells cur t (0, 0)) ∧ t ≠ 103) : RowZ w' b m f := by
  have hb : w'.heap[b]? = w.heap[b]? := hg.block b h.lt (fun e => hne e.symm)
  refine ⟨fun j hj => ?_, fun k => (World.frozen?_of_block (w := w) (a := ⟨b, k, none⟩) hb).trans (h.fr k), Nat.lt_of_lt_of_le h.lt hg.size⟩
  obtain ⟨a, c, q1, q2, q3⟩ := h.c j hj
  exact ⟨a, c, (World.cell?_of_block (w := w) (a := ⟨b, _, none⟩) hb).trans q1, (World.cell?_of_block (w := w) (a := ⟨b, _, none⟩) hb).trans q2, q3.grown hg hr⟩

theorem RowZ.setO1 {w : World} {b m : Nat} {f : Nat → Int} (h : RowZ w b m f) {G o : Nat} (hne : G ≠ b) {u : Value} (hu : w.cell? ⟨G, o, none⟩ = some u) (hn : ∀ x, u ≠ .int .u32 x) (x : Value) : RowZ (w.setCell ⟨G, o, none⟩ x) b m f := by
  refine ⟨fun j hj => ?_, fun k => by simp [h.fr k], by simpa [World.setCell] using h.lt⟩
  obtain ⟨a, c, q1, q2, q3⟩ := h.c j hj
  refine ⟨a, c, ?_, ?_, q3.setO rfl hu hn x⟩
  · rw [World.cell?_setCell_other _ _ _ _ (by simp [hne])]; exact q1
  · rw [World.cell?_setCell_other _ _ _ _ (by simp [hne])]; exact q2

/-- One entry more in row i: the append, and the store of the new slice. -/
theorem Cp.next {w0 w w1 : World} {G n m i j g cap : Nat} {M : Nat → Nat → Int} {v : Value} {R C : Nat → Nat} (h : Cp w0 w G n m M i j v R C) (hi : i < n) (hpart : RowB w1 w0.heap.size (.slice (some ⟨g, 0, none⟩) (j + 1) cap) (j + 1) (M i)) (hg : w.grownBy w1 v.ownBlock)
    (hat : v.ownBlock = some g ∨ g = w.heap.size) : Cp w0 (w1.setCell ⟨G, i, none⟩ (.slice (some ⟨g, 0, none⟩) (j + 1) cap)) G n m M i (j + 1) (.slice (some ⟨g, 0, none⟩) (j + 1) cap) R C := by
  have hr : ∀ k, v.ownBlock = some k → ∃ cur t, w.heap[k]? = some (.cells cur t (0, 0)) ∧ t ≠ 103 := fun k hk => by
    obtain ⟨_, cur, hc⟩ := h.part.type k hk
    exact ⟨cur, _, hc, by decide⟩
  obtain ⟨curG, hG⟩ := rowIs_type h.outer
  have hGv : v.ownBlock ≠ some G := fun e => by
    obtain ⟨_, cur, hc⟩ := h.part.type G e
    exact ne_of_types hG hc (by decide) rfl
  have ho1 : w1.rowIs G 50 n (fun p => if p < i then .slice (some ⟨R p, 0, none⟩) m (C p) else if p = i then v else .slice none 0 0) := h.outer.of_block (hg.block G h.outer.lt (fun e => hGv e.symm))
  have hcell := ho1.cell hi
  rw [if_neg (Nat.lt_irrefl i), if_pos rfl] at hcell
  have hvn : ∀ x, v ≠ .int .u32 x := by
    obtain ⟨A, C', h1, _⟩ := h.part
    rcases h1.2 with ⟨hv, _⟩ | ⟨_, _, _, hv, _⟩ <;> rw [hv] <;> simp
  obtain ⟨curG1, hG1⟩ := rowIs_type ho1
  have hRG : ∀ p, p < i → G ≠ R p := fun p hp => by
    obtain ⟨_, cur, hc⟩ := h.types p hp
    exact ne_of_types hG hc (by decide)
  have hgG : g ≠ G := fun e => by
    obtain ⟨_, cur, hc⟩ := hpart.type g rfl
    rw [e] at hc
    exact ne_of_types hG1 hc (by decide) rfl
  refine ⟨(ho1.set i _).congr fun p hp => ?_, fun p hp => ((h.rows p hp).grown hg (h.far p hp) hr).setO1 (hRG p hp) hcell hvn _, fun p hp => ?_, hpart.setO (fun k hk => ?_) hcell hvn _, h.inj, fun p hp e => ?_, h.low, ?_⟩
  · by_cases e : p = i
    · rw [if_pos e, if_neg (by omega), if_pos e]
    · simp [e]
  · obtain ⟨h1, cur, h2⟩ := h.types p hp
    refine ⟨h1, cur, ?_⟩
    rw [Below.heap_setCell w1 ⟨G, i, none⟩ _ (R p) (hRG p hp).symm, hg.block (R p) (h.rows p hp).lt (fun e => h.far p hp e.symm)]
    exact h2
  · simp only [Value.ownBlock, Option.some.injEq] at hk
    rw [← hk]; exact hgG
  · simp only [Value.ownBlock, Option.some.injEq] at e
    rcases hat with e2 | e2
    · exact h.far p hp (by rw [e2, e])
    · have := (h.rows p hp).lt
      omega
  · have h3 : Below w0.heap.size w0 w1 := h.below.grown hg h.below.size (fun k hk => (h.part.type k hk).1)
    exact h3.setCell (p := ⟨G, i, none⟩) h.low _

/-- Row i is whole. -/
theorem Cp.row {w0 w : World} {G n m i : Nat} {M : Nat → Nat → Int} {v : Value} {R C : Nat → Nat} (h : Cp w0 w G n m M i m v R C) (hm : 0 < m) : ∃ R' C', Cp w0 w G n m M (i + 1) 0 (.slice none 0 0) R' C' := by
  obtain ⟨g, cap, rfl, hb, hrow, cur, hc⟩ := h.part.done hm
  refine ⟨fun p => if p = i then g else R p, fun p => if p = i then cap else C p, h.outer.congr fun p hp => ?_, fun p hp => ?_, fun p hp => ?_, RowB.nil _ _ _, fun p q hp hq e => ?_, fun p hp => by simp [Value.ownBlock], h.low, h.below⟩
  · by_cases e : p = i
    · subst e
      rw [if_neg (Nat.lt_irrefl p), if_pos rfl, if_pos (by omega), if_pos rfl, if_pos rfl]
    · by_cases e2 : p < i
      · rw [if_pos e2, if_pos (by omega), if_neg e, if_neg e]
      · rw [if_neg e2, if_neg e, if_neg (by omega)]
        split <;> rfl
  · show RowZ w (if p = i then g else R p) m (M p)
    by_cases e : p = i
    · rw [if_pos e, e]; exact hrow
    · rw [if_neg e]; exact h.rows p (by omega)
  · show w0.heap.size ≤ (if p = i then g else R p) ∧ ∃ cur, w.heap[if p = i then g else R p]? = _
    by_cases e : p = i
    · rw [if_pos e]; exact ⟨hb, cur, hc⟩
    · rw [if_neg e]; exact h.types p (by omega)
  · have hf : ∀ q, q < i → g ≠ R q := fun q hq e => h.far q hq (by simp [Value.ownBlock, e])
    try simp only at e
    by_cases e1 : p = i
    · by_cases e2 : q = i
      · omega
      · rw [if_pos e1, if_neg e2] at e
        exact absurd e (hf q (by omega))
    · by_cases e2 : q = i
      · rw [if_neg e1, if_pos e2] at e
        exact absurd e.symm (hf p (by omega))
      · rw [if_neg e1, if_neg e2] at e
        exact h.inj p q (by omega) (by omega) e

/-- All rows are whole. -/
theorem Cp.mat {w0 w : World} {G n m : Nat} {M : Nat → Nat → Int} {v : Value} {R C : Nat → Nat} (h : Cp w0 w G n m M n 0 v R C) : MatZ w G n m R M := by
  obtain ⟨curG, hG⟩ := rowIs_type h.outer
  refine ⟨fun i hi => ⟨C i, ?_⟩, fun k => h.outer.frozen k, h.rows, fun p q hp hq => h.inj p q hp hq, fun i hi => ?_, h.outer.lt⟩
  · have := h.outer.cell hi
    rwa [if_pos hi] at this
  · obtain ⟨_, cur, hc⟩ := h.types i hi
    exact ne_of_types hc hG (by decide)

set_option maxRecDepth 100000 in
set_option maxHeartbeats 4000000 in
theorem rcopy_any (g n m cap : Nat) (R : Nat → Nat) (M : Nat → Nat → Int) (w : World) (hM : MatZ w g n m R M) (hn : n ≤ 1000) (hm1 : 1 ≤ m) (hm : m ≤ 1000) (hs : ∀ i j, i < n → j < m → (mg (M i j)).length ≤ 1000000) :
    Calls Tryz.prog 79 #[.slice (some ⟨g, 0, none⟩) n cap] w (GivesMat w n m M) := by
  obtain ⟨i0, hi, hz0, hz1, hz2⟩ := info_parts infoZ
  have hmk := run_make_row' (P := Tryz.prog) 53 50 (.slice none 0 0) 24 Tryz.underlying53 infoRZ rfl .i64 .i64 n (by omega) (by omega) w
  obtain ⟨W, hW⟩ : ∃ W, W = w.alloc (.cells (madeCells #[.slice none 0 0] n) 50) := ⟨_, rfl⟩
  have hbW : Below w.heap.size w W := by rw [hW]; exact (Below.refl _ _).alloc (Nat.le_refl _) _
  have hst : Hid (∃ R' C', Cp w W w.heap.size n m M 0 0 (.slice none 0 0) R' C') := by
    refine ⟨fun _ => 0, fun _ => 0, ?_, fun p hp => by omega, fun p hp => by omega, RowB.nil _ _ _, fun p q hp => by omega, fun p hp => by omega, Nat.le_refl _, hbW⟩
    rw [hW]
    exact (World.rowIs_made w (.slice none 0 0) n 50).congr fun p _ => by
      rw [if_neg (Nat.not_lt_zero p)]
      split <;> rfl
  have HM := Lib.hid hM
  have HS := Lib.hid hs
  have HWW : Hid (w.alloc (.cells (madeCells #[.slice none 0 0] n) 50) = W) := hW.symm
  clear hM hs hW hbW
  go_enter Tryz.func79, Tryz.ntmps79
  go_wp2_with fail
  rw [HWW.out]
  clear hmk
  go_loopw [12] (fun ii wr => ∃ (i : Nat), i ≤ n ∧ ii = .int .i64 (i : Int) ∧ Hid (∃ R' C', Cp w wr w.heap.size n m M i 0 (.slice none 0 0) R' C')) (fun ii _ => n - (intOf ii).toNat)
  case atStart => exact ⟨0, by omega, rfl, hst⟩
  case round =>
    obtain ⟨i, hin, rfl, hC⟩ := hrel
    clear hst
    by_cases hlt : i < n
    · obtain ⟨R1, C1, hC1⟩ := hC.out
      obtain ⟨cr, ho⟩ := (HM.out.below hC1.below).outer i hlt
      clear hC1
      go_wp2_with fail
      go_loopw [20] (fun jj wq => ∃ (j : Nat) (v : Value), j ≤ m ∧ jj = .int .i64 (j : Int) ∧ Hid (∃ R' C', Cp w wq w.heap.size n m M i j v R' C')) (fun jj _ => m - (intOf jj).toNat)
      case atStart => exact ⟨0, _, by omega, rfl, hC⟩
      case round =>
        obtain ⟨j, v, hjm, rfl, hCj⟩ := hrel
        clear hC ho
        by_cases hj : j < m
        · obtain ⟨R2, C2, hC2⟩ := hCj.out
          obtain ⟨c3, a3, d3, o3, x3, y3, r3⟩ := (HM.out.below hC2.below).entry i j hlt hj
          have hsh : Hid ((mg (M i j)).length ≤ 1000000) := HS.out i j hlt hj
          obtain ⟨x, hx⟩ : ∃ x, x = M i j := ⟨_, rfl⟩
          rw [← hx] at x3 y3 r3 hsh
          have HX := Lib.hid hx
          have HR3 := Lib.hid r3
          clear r3 hC2 hx
          obtain ⟨V, hV⟩ : ∃ V, V = wr.alloc (.cells #[.bool (sg x), .slice a3 (mg x).length d3] 33) := ⟨_, rfl⟩
          have hbV : Below wr.heap.size wr V := by rw [hV]; exact (Below.refl _ _).alloc (Nat.le_refl _) _
          have hBx : Box wr.heap.size (.bool (sg x)) (.slice a3 (mg x).length d3) V := by rw [hV]; exact Box.made _ _ rfl _ _ _
          have hvlt : Hid (∀ k, v.ownBlock = some k → k < wr.heap.size) := by
            obtain ⟨R2, C2, hC2⟩ := hCj.out
            intro k hk
            obtain ⟨_, cur, hc⟩ := hC2.part.type k hk
            exact (Array.getElem?_eq_some_iff.1 hc).1
          have HCV : Hid (∃ R' C', Cp w V w.heap.size n m M i j v R' C') := by
            obtain ⟨R2, C2, hC2⟩ := hCj.out
            exact ⟨R2, C2, hC2.moved hbV⟩
          have hcO : V.cell? ⟨w.heap.size, i, none⟩ = some v ∧ (∀ k, V.frozen? ⟨w.heap.size, k, none⟩ = false) ∧ w.heap.size ≤ V.heap.size ∧ w.heap.size < V.heap.size := by
            obtain ⟨R2, C2, hC2⟩ := HCV.out
            have h := hC2.outer.cell hlt
            rw [if_neg (Nat.lt_irrefl i), if_pos rfl] at h
            exact ⟨h, fun k => hC2.outer.frozen k, hC2.below.size, hC2.outer.lt⟩
          have HRV := Lib.hid (HR3.out.below hbV)
          have HVV : Hid (wr.alloc (.cells #[.bool (sg x), .slice a3 (mg x).length d3] 33) = V) := hV.symm
          obtain ⟨hcO1, hcO2, hcO3, hcO4⟩ := hcO
          have hfO := hcO2 i
          have hK : Hid (∀ w', Below V.heap.size V w' → w'.cell? ⟨w.heap.size, i, none⟩ = some v ∧ w'.cell? ⟨wr.heap.size, 0, none⟩ = some (.bool (sg x)) ∧ w'.cell? ⟨wr.heap.size, 1, none⟩ = some (.slice a3 (mg x).length d3)) :=
            fun w' h => ⟨cell_keep h hcO1, cell_keep h hBx.c0, cell_keep h hBx.c1⟩
          have hbD : Below V.heap.size V V.drew := (Below.refl _ _).drew
          have z2 : (0 : Int) ≤ (i : Int) := by omega
          have z4 : (i : Int) < (n : Int) := by omega
          have hBs := hBx.size
          clear hCj hV hbV hBx hcO2 HR3
          go_wp2_with fail
          rw [HVV.out]
          clear x3 y3 o3
          refine begin_T 11 (fun w' => w'.cell? ⟨w.heap.size, i, none⟩ = some v ∧ w'.cell? ⟨wr.heap.size, 0, none⟩ = some (.bool (sg x)) ∧ w'.cell? ⟨wr.heap.size, 1, none⟩ = some (.slice a3 (mg x).length d3)) (by kernel_rfl) (hK.out _ hbD) (fun hHeld => ?_)
          refine first_T (i := 0) (v := ?_) rfl (by kernel_rfl) (fun _ _ _ h => h) (by rfl) (fun w hSw => ?_) hHeld ?_
          rotate_left
          · ((try dsimp only at hSw); go_simp; (try with_reducible rfl))
          try simp only [Act.put, List.setIfInBounds_toArray, List.set_cons_zero, List.set_cons_succ]
          refine first_T (i := 1) (v := ?_) rfl (by kernel_rfl) (fun _ _ _ h => h) (by rfl) (fun w hSw => ?_) hHeld ?_
          rotate_left
          · ((try dsimp only at hSw); go_simp; (try with_reducible rfl))
          try simp only [Act.put, List.setIfInBounds_toArray, List.set_cons_zero, List.set_cons_succ]
          refine first_T (i := 2) (v := ?_) rfl (by kernel_rfl) (fun _ _ _ h => h) (by rfl) (fun w hSw => ?_) hHeld ?_
          rotate_left
          · ((try dsimp only at hSw); go_simp; (try with_reducible rfl))
          try simp only [Act.put, List.setIfInBounds_toArray, List.set_cons_zero, List.set_cons_succ]
          refine first_T (i := 3) (v := ?_) rfl (by kernel_rfl) (fun _ _ _ h => h) (by rfl) (fun w hSw => ?_) hHeld ?_
          rotate_left
          · ((try dsimp only at hSw); go_simp; (try with_reducible rfl))
          try simp only [Act.put, List.setIfInBounds_toArray, List.set_cons_zero, List.set_cons_succ]
          refine first_T (i := 4) (v := ?_) rfl (by kernel_rfl) (fun _ _ _ h => h) (by rfl) (fun w hSw => ?_) hHeld ?_
          rotate_left
          · ((try dsimp only at hSw); go_simp; (try with_reducible rfl))
          try simp only [Act.put, List.setIfInBounds_toArray, List.set_cons_zero, List.set_cons_succ]
          refine first_T (i := 5) (v := ?_) rfl (by kernel_rfl) (fun _ _ _ h => h) (by rfl) (fun w hSw => ?_) hHeld ?_
          rotate_left
          · ((try dsimp only at hSw); go_simp; (try with_reducible rfl))
          try simp only [Act.put, List.setIfInBounds_toArray, List.set_cons_zero, List.set_cons_succ]
          refine first_T (i := 6) (v := ?_) rfl (by kernel_rfl) (fun _ _ _ h => h) (by rfl) (fun w hSw => ?_) hHeld ?_
          rotate_left
          · ((try dsimp only at hSw); go_simp; (try with_reducible rfl))
          try simp only [Act.put, List.setIfInBounds_toArray, List.set_cons_zero, List.set_cons_succ]
          refine next_T (i := 7) rfl (by kernel_rfl) (fun K hKK => ?_)
          go_simp
          refine (normalizeZ (HRV.out.below hbD) hsh.out).mono ?_
          rintro e w7 ⟨a7, c7, rfl, hr7, hb7⟩
          have hbN : Below V.heap.size V w7 := hbD.trans (hb7.mono hbD.size)
          go_wp2_with fail
          clear hHeld
          refine hKK.out _ _ (hK.out _ hbN) (fun hHeld => ?_)
          clear hKK K
          try simp only [Act.put, List.setIfInBounds_toArray, List.set_cons_zero, List.set_cons_succ]
          refine next_T (i := 8) rfl (by kernel_rfl) (fun K hKK => ?_)
          go_simp
          obtain ⟨w8, hw8⟩ : ∃ w8, w8 = w7.alloc (.cells #[.bool (sg x), .slice a7 (mg x).length c7] 33) := ⟨_, rfl⟩
          have hb8 : Below w7.heap.size w7 w8 := by rw [hw8]; exact (Below.refl _ _).alloc (Nat.le_refl _) _
          have hbO : Below V.heap.size V w8 := hbN.trans (hb8.mono hbN.size)
          have hB8 : Box w7.heap.size (.bool (sg x)) (.slice a7 (mg x).length c7) w8 := by rw [hw8]; exact Box.made _ _ rfl _ _ _
          have hr8 := hr7.below hb8
          rw [← hw8]
          clear hHeld
          refine hKK.out _ _ (hK.out _ hbO) (fun hHeld => ?_)
          clear hKK K
          try simp only [Act.put, List.setIfInBounds_toArray, List.set_cons_zero, List.set_cons_succ]
          obtain ⟨R2, C2, hC2⟩ := HCV.out
          have hC8 := hC2.moved hbO
          obtain ⟨A, CC, hown, hLs⟩ := hC8.part
          refine next_T (i := 9) rfl (by kernel_rfl) (fun K hKK => ?_)
          refine step_append_lies _ rfl _ _ 50 rfl w.heap.size 33 i0 (.agg #[.bool false, .slice none 0 0]) 2 32 Tryz.underlying50 hi hz0 hz1 hz2 rfl (by decide) v j (flatZ (M i) A CC j) rfl hown ⟨w7.heap.size, 0, none⟩ 1 1 [.bool (sg x), .slice a7 (mg x).length c7] rfl rfl ?c1 ?c2 (by decide) (by unfold maxLen; omega) (by omega) hC8.below.size _ rfl ?c6
          case c1 =>
            intro q u hq
            rcases (by
              have := (List.getElem?_eq_some_iff.1 hq).1
              simp at this
              omega : q = 0 ∨ q = 1) with rfl | rfl
            · have e : u = .bool (sg x) := by simpa using hq.symm
              rw [e]; exact hB8.c0
            · have e : u = .slice a7 (mg x).length c7 := by simpa using hq.symm
              rw [e]; exact hB8.c1
          case c2 =>
            intro u hu
            simp only [List.mem_cons, List.not_mem_nil, or_false] at hu
            rcases hu with rfl | rfl <;> rfl
          intro g9 cap9 w9 hown9 hg9 hat9 _
          have hpart : RowB w9 w.heap.size (.slice (some ⟨g9, 0, none⟩) (j + 1) cap9) (j + 1) (M i) := by
            refine RowB.next hown hLs (a := a7) (c := c7) ?_ ?_ hg9
            · rw [← HX.out]; exact hr8
            · rw [← HX.out]; exact hown9
          have hnx : Hid (∃ R' C', Cp w (w9.setCell ⟨w.heap.size, i, none⟩ (.slice (some ⟨g9, 0, none⟩) (j + 1) cap9)) w.heap.size n m M i (j + 1) (.slice (some ⟨g9, 0, none⟩) (j + 1) cap9) R' C') := ⟨R2, C2, hC8.next hlt hpart hg9 hat9⟩
          have hneb : ∀ k, v.ownBlock = some k → k ≠ wr.heap.size := fun k hk => by have := hvlt.out k hk; omega
          obtain ⟨curG, hG8⟩ := rowIs_type hC8.outer
          have hneG : ∀ k, v.ownBlock = some k → k ≠ w.heap.size := fun k hk e => by
            obtain ⟨_, cur, hc⟩ := ownsRow_type hown k hk
            rw [e] at hc
            exact ne_of_types hG8 hc (by decide) rfl
          have hbx8 : wr.heap.size < w8.heap.size := by have := hbO.size; omega
          have hO8 : w.heap.size < w8.heap.size := hC8.outer.lt
          have q1 : w9.cell? ⟨w.heap.size, i, none⟩ = some v := (World.cell?_of_block (w := w8) (a := ⟨w.heap.size, i, none⟩) (hg9.block _ hO8 (fun e => hneG _ e.symm rfl))).trans hHeld.1
          have q2 : w9.cell? ⟨wr.heap.size, 0, none⟩ = some (.bool (sg x)) := (World.cell?_of_block (w := w8) (a := ⟨wr.heap.size, 0, none⟩) (hg9.block _ hbx8 (fun e => hneb _ e.symm rfl))).trans hHeld.2.1
          have q3 : w9.cell? ⟨wr.heap.size, 1, none⟩ = some (.slice a3 (mg x).length d3) := (World.cell?_of_block (w := w8) (a := ⟨wr.heap.size, 1, none⟩) (hg9.block _ hbx8 (fun e => hneb _ e.symm rfl))).trans hHeld.2.2
          have q4 : w9.frozen? ⟨w.heap.size, i, none⟩ = false := (World.frozen?_of_block (w := w8) (a := ⟨w.heap.size, i, none⟩) (hg9.block _ hO8 (fun e => hneG _ e.symm rfl))).trans (hC8.outer.frozen i)
          clear hHeld
          refine hKK.out _ _ ⟨q1, q2, q3⟩ (fun hHeld => ?_)
          clear hKK K
          try simp only [Act.put, List.setIfInBounds_toArray, List.set_cons_zero, List.set_cons_succ]
          clear hpart hg9 hown9 hown hLs hC8 hC2 hneb hneG hw8 hB8 hr8 hr7 hat9
          refine next_T (i := 10) rfl (by kernel_rfl) (fun K hKK => ?_)
          go_simp
          refine hKK.out _ _ ⟨q1, q2, q3⟩ (fun hHeld => ?_)
          clear hKK K
          try simp only [Act.put, List.setIfInBounds_toArray, List.set_cons_zero, List.set_cons_succ]
          refine last_T (t := 11) rfl (by kernel_rfl) (by kernel_rfl) (fun K hKK => ?_)
          go_simp
          refine hKK.out _ _ ?_
          clear hKK K hHeld q1 q2 q3 q4 hbO hbN hb7 hb8 hbx8 hO8 hG8 hbD hcO1 hfO
          go_wp2_with fail
          go_roundw
          case rel =>
            first
              | exact ⟨j + 1, _, by omega, by go_num, hnx⟩
              | ((repeat apply Exists.intro); exact ⟨⟨j + 1, _, by omega, by go_num, hnx⟩, rfl⟩)
          case measure => simp [intOf]; omega
        · obtain rfl : j = m := by omega
          have hnx : Hid (∃ R' C', Cp w wr w.heap.size n j M (i + 1) 0 (.slice none 0 0) R' C') := by
            obtain ⟨R2, C2, hC2⟩ := hCj.out
            exact hC2.row hm1
          clear hCj
          go_wp2_with fail
          go_roundw
          case rel => exact ⟨i + 1, by omega, by go_num, hnx⟩
          case measure => simp [intOf]; omega
    · obtain rfl : i = n := by omega
      have hfin : Hid (∃ R', MatZ wr w.heap.size i m R' M ∧ (∀ p, p < i → w.heap.size ≤ R' p) ∧ Below w.heap.size w wr) := by
        obtain ⟨R1, C1, hC1⟩ := hC.out
        exact ⟨R1, hC1.mat, fun p hp => (hC1.types p hp).1, hC1.below⟩
      clear hC
      go_wp2_with fail
      go_ret
      obtain ⟨R1, h1, h2, h3⟩ := hfin.out
      exact ⟨w.heap.size, i, R1, rfl, h1, Nat.le_refl _, h2, h3⟩
end Go.Proofs.YtpnnbjifhoonkaaGreat
