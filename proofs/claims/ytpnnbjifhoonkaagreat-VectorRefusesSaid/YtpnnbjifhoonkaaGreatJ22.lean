/-
  Joined texts: YO YP YQ.
-/
import Derived.Test.YtpnnbjifhoonkaaGreatJ21
import Derived.Shelf.SlSortCmp.WholeK
import Derived.StillTailTactics
import Derived.Deep.MidRow
namespace Go.Proofs.YtpnnbjifhoonkaaGreat
open Go.RowKit Go.Shelf Go.Sort

theorem cmpL_self : ∀ xs : List Int, cmpL xs xs = 0
  | [] => rfl
  | x :: r => by
    have h : Lib.compareInt x x = 0 := by rcases compareInt_cases x x with h | h | h <;> omega
    show (if Lib.compareInt x x = 0 then cmpL r r else _) = 0
    rw [if_pos h, cmpL_self r]

theorem cmpL_neg : ∀ xs ys : List Int, cmpL ys xs = -cmpL xs ys
  | [], [] => rfl
  | [], _ :: _ => rfl
  | _ :: _, [] => rfl
  | x :: r, y :: s => by
    have ih := cmpL_neg r s
    show (if Lib.compareInt y x = 0 then cmpL s r else Lib.compareInt y x) = -(if Lib.compareInt x y = 0 then cmpL r s else Lib.compareInt x y)
    rcases compareInt_cases x y with ⟨h1, h2⟩ | ⟨h1, h2⟩ | ⟨h1, h2⟩ <;> rcases compareInt_cases y x with ⟨h3, h4⟩ | ⟨h3, h4⟩ | ⟨h3, h4⟩ <;> first | omega | (rw [h2, h4]; simp; try exact ih)

theorem cmpL_eq : ∀ {xs ys : List Int}, cmpL xs ys = 0 → xs = ys
  | [], [], _ => rfl
  | [], _ :: _, h => by cases h
  | _ :: _, [], h => by cases h
  | x :: r, y :: s, h => by
    have h' : (if Lib.compareInt x y = 0 then cmpL r s else Lib.compareInt x y) = 0 := h
    rcases compareInt_cases x y with ⟨h1, h2⟩ | ⟨h1, h2⟩ | ⟨h1, h2⟩
    · rw [h2] at h'; simp at h'
    · rw [h2, if_pos rfl] at h'; rw [h1, cmpL_eq h']
    · rw [h2] at h'; simp at h'

theorem cmpL_trans : ∀ {xs ys zs : List Int}, cmpL xs ys < 0 → cmpL ys zs < 0 → cmpL xs zs < 0
  | [], [], _, h, _ => by exact absurd h (by decide)
  | [], _ :: _, [], _, h => absurd h (show ¬((1 : Int) < 0) by decide)
  | [], _ :: _, _ :: _, _, _ => (show (-1 : Int) < 0 by decide)
  | _ :: _, [], _, h, _ => absurd h (show ¬((1 : Int) < 0) by decide)
  | _ :: _, _ :: _, [], _, h => absurd h (show ¬((1 : Int) < 0) by decide)
  | x :: r, y :: s, z :: t, h1, h2 => by
    have h1' : (if Lib.compareInt x y = 0 then cmpL r s else Lib.compareInt x y) < 0 := h1
    have h2' : (if Lib.compareInt y z = 0 then cmpL s t else Lib.compareInt y z) < 0 := h2
    show (if Lib.compareInt x z = 0 then cmpL r t else Lib.compareInt x z) < 0
    rcases compareInt_cases x y with ⟨a1, a2⟩ | ⟨a1, a2⟩ | ⟨a1, a2⟩ <;> rw [a2] at h1' <;> rcases compareInt_cases y z with ⟨b1, b2⟩ | ⟨b1, b2⟩ | ⟨b1, b2⟩ <;> rw [b2] at h2' <;> simp at h1' h2' <;>
      rcases compareInt_cases x z with ⟨c1, c2⟩ | ⟨c1, c2⟩ | ⟨c1, c2⟩ <;> rw [c2] <;> first | omega | (simp; done) | (simp; exact cmpL_trans h1' h2')

theorem cfN_self (x : Item) : cfN x x = 0 := by
  unfold cfN
  rw [if_pos (by rcases compareInt_cases x.norm x.norm with h | h | h <;> omega), cmpL_self]
theorem cfN_neg (x y : Item) : cfN y x = -cfN x y := by
  have ih := cmpL_neg x.vec y.vec
  unfold cfN
  rcases compareInt_cases x.norm y.norm with ⟨h1, h2⟩ | ⟨h1, h2⟩ | ⟨h1, h2⟩ <;> rcases compareInt_cases y.norm x.norm with ⟨h3, h4⟩ | ⟨h3, h4⟩ | ⟨h3, h4⟩ <;> first | omega | (rw [h2, h4]; simp; try exact ih)
theorem cfN_eq {x y : Item} (h : cfN x y = 0) : x.norm = y.norm ∧ x.vec = y.vec := by
  unfold cfN at h
  rcases compareInt_cases x.norm y.norm with ⟨h1, h2⟩ | ⟨h1, h2⟩ | ⟨h1, h2⟩
  · rw [h2] at h; simp at h
  · rw [h2, if_pos rfl] at h; exact ⟨h1, cmpL_eq h⟩
  · rw [h2] at h; simp at h
theorem cfN_trans {x y z : Item} (h1 : cfN x y < 0) (h2 : cfN y z < 0) : cfN x z < 0 := by
  unfold cfN at *
  rcases compareInt_cases x.norm y.norm with ⟨a1, a2⟩ | ⟨a1, a2⟩ | ⟨a1, a2⟩ <;> rw [a2] at h1 <;> rcases compareInt_cases y.norm z.norm with ⟨b1, b2⟩ | ⟨b1, b2⟩ | ⟨b1, b2⟩ <;> rw [b2] at h2 <;> simp at h1 h2 <;>
    rcases compareInt_cases x.norm z.norm with ⟨c1, c2⟩ | ⟨c1, c2⟩ | ⟨c1, c2⟩ <;> rw [c2] <;> first | omega | (simp; done) | (simp; exact cmpL_trans h1 h2)
theorem cfN_congr {x y z : Item} (h : cfN x y = 0) : cfN x z = cfN y z ∧ cfN z x = cfN z y := by
  obtain ⟨h1, h2⟩ := cfN_eq h
  unfold cfN
  rw [h1, h2]
  exact ⟨rfl, rfl⟩
theorem cfN_ntrans {x y z : Item} (h1 : ¬cfN x y < 0) (h2 : ¬cfN y z < 0) : ¬cfN x z < 0 := by
  intro h
  by_cases e1 : cfN x y = 0
  · rw [(cfN_congr e1).1] at h; exact h2 h
  · by_cases e2 : cfN y z = 0
    · rw [← (cfN_congr e2).2] at h; exact h1 h
    · have n1 := cfN_neg x y
      have n2 := cfN_neg y z
      have n3 := cfN_neg x z
      have := cfN_trans (x := z) (y := y) (z := x) (by omega) (by omega)
      omega

/-- An item that the sort of block g of w does not touch. -/
def FarN (w : World) (g : Nat) (x : Item) : Prop := OkN w x ∧ (x.vec ≠ [] → ∀ b o, x.a = some ⟨b, o, none⟩ → b ≠ g)
structure It (w : World) (g : Nat) where
  v : Item
  far : FarN w g v
instance (w : World) (g : Nat) : Inhabited (It w g) := ⟨⟨zI, ⟨RdI.nil _ _ _, by decide⟩, fun h => absurd rfl h⟩⟩
def encA (w : World) (g : Nat) (x : It w g) : List Value := encN x.1
def cfA (w : World) (g : Nat) (x y : It w g) : Int := cfN x.1 y.1

theorem swoA (w : World) (g : Nat) : SWO (ltOf (cfA w g)) where
  irrefl x := by unfold ltOf cfA; rw [cfN_self]; rfl
  trans x y z h1 h2 := by
    unfold ltOf cfA at *
    rw [decide_eq_true_iff] at *
    exact cfN_trans h1 h2
  ntrans x y z h1 h2 := by
    unfold ltOf cfA at *
    rw [decide_eq_false_iff_not] at *
    exact cfN_ntrans h1 h2

theorem sortWorld_cell (w : World) (g m : Nat) (dk : Array (It w g)) (os : Array Obj) {a : Addr} {v : Value} (hne : a.block ≠ g) (h : w.cell? a = some v) : (sortWorldK (encA w g) 2 w g 0 m dk os).cell? a = some v := by
  have hlt : a.block < w.heap.size := World.block_lt_of_cell? w _ h
  unfold sortWorldK
  rw [cell?_grow _ _ _ (by simpa [putRowK, putRow, mapBlock, Sort.ahead] using hlt), cell?_putRowK_other _ _ _ _ _ _ _ hne]
  exact h

theorem FarN.ok {w : World} {g : Nat} {x : Item} (h : FarN w g x) (m : Nat) (dk : Array (It w g)) (os : Array Obj) : OkN (sortWorldK (encA w g) 2 w g 0 m dk os) x := by
  refine ⟨⟨h.1.1.fits, h.1.1.lim, fun i hi => ?_⟩, h.1.2⟩
  obtain ⟨b, o, e, hc⟩ := h.1.1.cells i hi
  exact ⟨b, o, e, sortWorld_cell w g m dk os (h.2 (fun h0 => by rw [h0] at hi; simp at hi) b o e) hc⟩

theorem cmpLaysA (w : World) (g size : Nat) : CmpLays Tryz.prog 31 #[] (encA w g) 2 (cfA w g) g 0 size w :=
  fun m os dk _ x y => compareNormed_any x.1 y.1 _ (x.2.ok m dk os) (y.2.ok m dk os)

/-- The items of block g as an array of those that the sort speaks of. -/
def arrA (w : World) (g n : Nat) (f : Nat → Item) (h : ∀ i, i < n → FarN w g (f i)) : Array (It w g) := Array.ofFn (n := n) fun i => (⟨f i.1, h i.1 i.2⟩ : It w g)

theorem size_arrA (w : World) (g n : Nat) (f : Nat → Item) (h : ∀ i, i < n → FarN w g (f i)) : (arrA w g n f h).size = n := by unfold arrA; exact Array.size_ofFn
theorem get_arrA (w : World) (g n : Nat) (f : Nat → Item) (h : ∀ i, i < n → FarN w g (f i)) (i : Nat) (hi : i < n) : ((arrA w g n f h)[i]!).1 = f i := by
  rw [getElem!_pos _ i (by rw [size_arrA]; exact hi)]
  unfold arrA
  rw [Array.getElem_ofFn]

theorem extract_all {α : Type} (a : Array α) {n : Nat} (h : a.size = n) : (a.extract 0 n).toList = a.toList := by subst h; simp

theorem holdsA {w : World} {g n : Nat} {f : Nat → Item} (h : ∀ i, i < n → FarN w g (f i)) (ho : OwnF w g n f) : HoldsK (encA w g) 2 w g 0 (arrA w g n f h) := by
  intro t ht
  rw [size_flatK, size_arrA] at ht
  have hg : (arrA w g n f h)[t / 2]!.1 = f (t / 2) := get_arrA w g n f h (t / 2) (by omega)
  rw [get_flatK _ _ _ t (by rw [size_arrA]; exact ht)]
  unfold encA encN
  rw [hg, Nat.zero_add]
  refine ⟨?_, ho.fr t ht⟩
  rcases (by omega : t = t / 2 * 2 ∧ t % 2 = 0 ∨ t = t / 2 * 2 + 1 ∧ t % 2 = 1) with ⟨e1, e2⟩ | ⟨e1, e2⟩
  · rw [e2]
    conv => lhs; rw [e1]
    exact ho.c0 (t / 2) (by omega)
  · rw [e2]
    conv => lhs; rw [e1]
    exact ho.c1 (t / 2) (by omega)

theorem ownA {w : World} {g n m : Nat} {f : Nat → Item} (h : ∀ i, i < n → FarN w g (f i)) (ho : OwnF w g n f) (hlt : g < w.heap.size) (d : Array (It w g)) (hd : d.size = n) (os : Array Obj) :
    OwnF (sortWorldK (encA w g) 2 w g 0 m d os) g n (fun i => (d[i]!).1) := by
  have hH := holdsK_putRowK (encA w g) 2 (Sort.ahead w m) g 0 (arrA w g n f h) d (holdsK_ahead (encA w g) 2 w m g 0 _ (holdsA h ho)) (by rw [hd, size_arrA])
  have hH2 := holdsK_grow (encA w g) 2 _ os g 0 d (by simpa [putRowK, putRow, mapBlock, Sort.ahead] using hlt) hH
  have key : ∀ i c, i < n → c < 2 → (sortWorldK (encA w g) 2 w g 0 m d os).cell? ⟨g, 0 + i * 2 + c, none⟩ = some (encA w g d[i]!)[c]! ∧ (sortWorldK (encA w g) 2 w g 0 m d os).frozen? ⟨g, 0 + i * 2 + c, none⟩ = false := fun i c hi hc => HoldsK.cell hH2 (by rw [hd]; exact hi) hc
  refine ⟨fun i hi => ?_, fun i hi => ?_, fun i hi => ?_⟩
  · have := (key i 0 hi (by omega)).1
    rw [Nat.zero_add, Nat.add_zero] at this
    exact this
  · have := (key i 1 hi (by omega)).1
    rw [Nat.zero_add] at this
    exact this
  · have := (key (i / 2) (i % 2) (by omega) (by omega)).2
    rw [Nat.zero_add, show i / 2 * 2 + i % 2 = i from by omega] at this
    exact this

theorem sortWorld_grown (w : World) (g m : Nat) (d : Array (It w g)) (os : Array Obj) : w.grownBy (sortWorldK (encA w g) 2 w g 0 m d os) (some g) := by
  refine ⟨rfl, rfl, rfl, by simp [sortWorldK, putRowK, putRow, mapBlock, Sort.ahead], fun j hj hne => ?_⟩
  unfold sortWorldK
  rw [heap_grow_old _ _ (by simpa [putRowK, putRow, mapBlock, Sort.ahead] using hj)]
  simp only [putRowK, putRow, mapBlock, Sort.ahead, Array.getElem?_modify]
  rw [if_neg (fun e => hne (by rw [e]))]

/-- What SortFunc gives. -/
def GivesSorted (w : World) (g n : Nat) (f : Nat → Item) (e : Ending) (w' : World) : Prop :=
  e = .returned (.tuple #[]) ∧ ∃ f' : Nat → Item, (∀ i, i < n → ∃ j, j < n ∧ f' i = f j) ∧ (∀ j, j < n → ∃ i, i < n ∧ f' i = f j) ∧ (∀ i j, i < j → j < n → ¬cfN (f' j) (f' i) < 0) ∧ OwnF w' g n f' ∧ w.grownBy w' (some g)

theorem sort_any (g n cap : Nat) (f : Nat → Item) (w : World) (hn : 1 ≤ n) (hn2 : n ≤ 4611686018427387903) (h : ∀ i, i < n → FarN w g (f i)) (ho : OwnF w g n f) :
    Calls Tryz.prog 56 #[.slice (some ⟨g, 0, none⟩) n cap, .func (.func 31) #[] #[]] w (GivesSorted w g n f) := by
  have eg : ∀ args w, (callFunc 31 args).run Tryz.prog w = .ok (.enter 31 args) w := enters_of Tryz.func31 (by kernel_rfl) rfl
  have hlt := ho.lt hn
  have hcon := AnyQ.slices_SortFunc Tryz.sortNormed 2 Tryz.isAgg62 Tryz.sizeOf62 (encA w g) (fun _ => rfl) (fun x v hv => by
    simp only [encA, encN, List.mem_cons, List.not_mem_nil, or_false] at hv
    rcases hv with rfl | rfl <;> rfl) (cfA w g) (swoA w g) 31 #[] g 0 cap (arrA w g n f h) w eg (cmpLaysA w g _) (holdsA h ho) hlt (by rw [size_arrA]; omega)
  rw [size_arrA] at hcon
  change Calls Tryz.prog 56 _ _ _ at hcon
  refine hcon.mono ?_
  rintro e w' ⟨rfl, d', m, os, hp, hs, rfl⟩
  have hd : d'.size = n := by rw [hp.1, size_arrA]
  have e1 := extract_all d' hd
  have e2 := extract_all (arrA w g n f h) (size_arrA w g n f h)
  have hperm : d'.toList.Perm (arrA w g n f h).toList := by
    have := hp.2.2
    rw [e1, e2] at this
    exact this
  refine ⟨rfl, fun i => (d'[i]!).1, fun i hi => ?_, fun j hj => ?_, fun i j hij hj => ?_, ownA h ho hlt d' hd os, sortWorld_grown w g m d' os⟩
  · have hmem : d'[i]! ∈ d'.toList := by
      rw [getElem!_pos d' i (by omega)]
      exact Array.getElem_mem_toList _
    have := hperm.mem_iff.1 hmem
    obtain ⟨j, hj, e⟩ := List.getElem_of_mem this
    have hj' : j < n := by rw [Array.length_toList, size_arrA] at hj; exact hj
    refine ⟨j, hj', ?_⟩
    have hg := get_arrA w g n f h j hj'
    rw [getElem!_pos _ j (by rw [size_arrA]; exact hj')] at hg
    show (d'[i]!).1 = f j
    rw [← hg, ← e, Array.getElem_toList]
  · have hmem : (arrA w g n f h)[j]! ∈ (arrA w g n f h).toList := by
      rw [getElem!_pos _ j (by rw [size_arrA]; exact hj)]
      exact Array.getElem_mem_toList _
    have := hperm.mem_iff.2 hmem
    obtain ⟨i, hi, e⟩ := List.getElem_of_mem this
    have hi' : i < d'.size := by rw [Array.length_toList] at hi; exact hi
    refine ⟨i, by omega, ?_⟩
    show (d'[i]!).1 = f j
    rw [← get_arrA w g n f h j hj, ← e, getElem!_pos d' i hi', Array.getElem_toList]
  · have := hs i j (Nat.zero_le _) hij hj
    unfold ltOf cfA at this
    rw [decide_eq_false_iff_not] at this
    exact this
end Go.Proofs.YtpnnbjifhoonkaaGreat
namespace Go.Proofs.YtpnnbjifhoonkaaGreat
open Go.RowKit Go.Shelf

/-- Only blocks g and o have changed, and what is new. -/
structure Two (g o : Nat) (w w' : World) : Prop where
  os : w'.os = w.os
  tape : w'.tape = w.tape
  output : w'.output = w.output
  size : w.heap.size ≤ w'.heap.size
  block : ∀ k, k < w.heap.size → k ≠ g → k ≠ o → w'.heap[k]? = w.heap[k]?

theorem Two.refl (g o : Nat) (w : World) : Two g o w w := ⟨rfl, rfl, rfl, Nat.le_refl _, fun _ _ _ _ => rfl⟩
theorem Two.of_below {g o : Nat} {a w : World} (h : Below a.heap.size a w) : Two g o a w := ⟨h.os, h.tape, h.output, h.size, fun k hk _ _ => h.block k hk⟩
theorem Two.of_grown {g o : Nat} {a w : World} (h : a.grownBy w (some g)) : Two g o a w :=
  ⟨h.os, h.tape, h.output, h.size, fun k hk hg _ => h.block k hk (fun e => hg (by simp at e; omega))⟩
theorem Two.trans {g o : Nat} {a b c : World} (h : Two g o a b) (k : Two g o b c) : Two g o a c :=
  ⟨k.os.trans h.os, k.tape.trans h.tape, k.output.trans h.output, Nat.le_trans h.size k.size, fun i hi hg ho => (k.block i (Nat.lt_of_lt_of_le hi h.size) hg ho).trans (h.block i hi hg ho)⟩
theorem Two.drewN {g o : Nat} {a w : World} (h : Two g o a w) (n : Nat) : Two g o a (w.drewN n) := ⟨h.os, h.tape, h.output, h.size, h.block⟩
theorem Two.setCell {g o : Nat} {a w : World} (h : Two g o a w) (i : Nat) (v : Value) : Two g o a (w.setCell ⟨o, i, none⟩ v) :=
  ⟨h.os, h.tape, h.output, by simpa [World.setCell] using h.size, fun k hk hg ho => (Below.heap_setCell w ⟨o, i, none⟩ v k ho).trans (h.block k hk hg ho)⟩
theorem Two.cell {g o : Nat} {a w : World} (h : Two g o a w) {p : Addr} (hp : p.block < a.heap.size) (hg : p.block ≠ g) (ho : p.block ≠ o) : w.cell? p = a.cell? p := World.cell?_of_block (w := a) (h.block p.block hp hg ho)
theorem Two.below {g o B : Nat} {a w : World} (h : Two g o a w) (hg : B ≤ g) (ho : B ≤ o) (hB : B ≤ a.heap.size) : Below B a w :=
  ⟨h.os, h.tape, h.output, h.size, fun k hk => h.block k (by omega) (by omega) (by omega)⟩

/-- The list and its order: block o. -/
structure OrdAt (w : World) (o g n cap : Nat) : Prop where
  c0 : w.cell? ⟨o, 0, none⟩ = some (.slice (some ⟨g, 0, none⟩) n cap)
  c1 : w.cell? ⟨o, 1, none⟩ = some (.func (.func 31) #[] #[])
  f0 : w.frozen? ⟨o, 0, none⟩ = false

/-- What sortUnique gives: the items once each, in order. -/
def GivesUnique (w : World) (o g n cap : Nat) (f : Nat → Item) (e : Ending) (w' : World) : Prop :=
  e = .returned (.tuple #[]) ∧ ∃ L : Nat, ∃ h : Nat → Item, 1 ≤ L ∧ L ≤ n ∧ (∀ i, i < L → ∃ j, j < n ∧ h i = f j) ∧ (∀ j, j < n → ∃ i, i < L ∧ cfN (h i) (f j) = 0) ∧ (∀ i j, i < j → j < L → cfN (h i) (h j) < 0) ∧
    OwnF w' g L h ∧ w'.cell? ⟨o, 0, none⟩ = some (.slice (some ⟨g, 0, none⟩) L cap) ∧ Two g o w w'

theorem kept_mem {f : Nat → Item} : ∀ m i, i < (kept f m).length → ∃ j, j < m ∧ (kept f m).getD i zI = f j := by
  intro m
  induction m with
  | zero => intro i hi; exact absurd hi (Nat.not_lt_zero _)
  | succ m ih =>
    intro i
    show i < (if m ≠ 0 ∧ cfN (f m) (f (m - 1)) = 0 then kept f m else kept f m ++ [f m] : List Item).length → ∃ j, j < m + 1 ∧ (if m ≠ 0 ∧ cfN (f m) (f (m - 1)) = 0 then kept f m else kept f m ++ [f m] : List Item).getD i zI = f j
    split
    · intro hi
      obtain ⟨j, hj, e⟩ := ih i hi
      exact ⟨j, by omega, e⟩
    · intro hi
      by_cases h : i < (kept f m).length
      · obtain ⟨j, hj, e⟩ := ih i h
        refine ⟨j, by omega, ?_⟩
        rw [← e, List.getD_eq_getElem?_getD, List.getD_eq_getElem?_getD, List.getElem?_append_left h]
      · have h2 : i = (kept f m).length := by simp at hi; omega
        refine ⟨m, by omega, ?_⟩
        rw [h2, List.getD_eq_getElem?_getD, List.getElem?_append_right (Nat.le_refl _)]
        simp

theorem kept_has {f : Nat → Item} : ∀ m j, j < m → ∃ i, i < (kept f m).length ∧ cfN ((kept f m).getD i zI) (f j) = 0 := by
  intro m
  induction m with
  | zero => intro j hj; omega
  | succ m ih =>
    intro j hj
    show ∃ i, i < (if m ≠ 0 ∧ cfN (f m) (f (m - 1)) = 0 then kept f m else kept f m ++ [f m] : List Item).length ∧ cfN ((if m ≠ 0 ∧ cfN (f m) (f (m - 1)) = 0 then kept f m else kept f m ++ [f m] : List Item).getD i zI) (f j) = 0
    split
    · rename_i hc
      by_cases h : j < m
      · exact ih j h
      · obtain rfl : j = m := by omega
        obtain ⟨i, hi, e⟩ := ih (j - 1) (by omega)
        refine ⟨i, hi, ?_⟩
        rw [(cfN_congr hc.2).2]
        exact e
    · by_cases h : j < m
      · obtain ⟨i, hi, e⟩ := ih j h
        refine ⟨i, by simp; omega, ?_⟩
        rw [List.getD_eq_getElem?_getD, List.getElem?_append_left hi, ← List.getD_eq_getElem?_getD]
        exact e
      · obtain rfl : j = m := by omega
        refine ⟨(kept f j).length, by simp, ?_⟩
        rw [List.getD_eq_getElem?_getD, List.getElem?_append_right (Nat.le_refl _)]
        simp [cfN_self]

theorem below_next {f : Nat → Item} {n : Nat} (hs : ∀ i j, i < j → j < n → ¬cfN (f j) (f i) < 0) {m j : Nat} (hj : j < m + 1) (hm : m + 1 < n) (hne : cfN (f (m + 1)) (f m) ≠ 0) : cfN (f j) (f (m + 1)) < 0 := by
  have h1 := hs m (m + 1) (by omega) hm
  have n1 := cfN_neg (f m) (f (m + 1))
  have h2 : cfN (f m) (f (m + 1)) < 0 := by omega
  by_cases e : j = m
  · rw [e]; exact h2
  · have h3 := hs j m (by omega) (by omega)
    have n2 := cfN_neg (f j) (f m)
    by_cases e0 : cfN (f j) (f m) = 0
    · rw [(cfN_congr e0).1]; exact h2
    · exact cfN_trans (y := f m) (by omega) h2

/-- Of a list in order what is kept ascends. -/
theorem kept_asc {f : Nat → Item} {n : Nat} (hs : ∀ i j, i < j → j < n → ¬cfN (f j) (f i) < 0) : ∀ m, m ≤ n → ∀ i j, i < j → j < (kept f m).length → cfN ((kept f m).getD i zI) ((kept f m).getD j zI) < 0 := by
  intro m
  induction m with
  | zero => intro _ i j _ h; exact absurd h (Nat.not_lt_zero _)
  | succ m ih =>
    intro hm i j hij hj
    cases m with
    | zero =>
      rw [kept_one] at hj
      simp at hj
      omega
    | succ m =>
      by_cases he : cfN (f (m + 1)) (f m) = 0
      · rw [kept_skip he] at hj ⊢
        exact ih (by omega) i j hij hj
      · have hl : (kept f (m + 2)).length = (kept f (m + 1)).length + 1 := by rw [kept_take he]; simp
        rw [hl] at hj
        rw [kept_get rfl he i, kept_get rfl he j, if_neg (by omega)]
        by_cases hjl : j = (kept f (m + 1)).length
        · rw [if_pos hjl]
          obtain ⟨t, ht, e⟩ := kept_mem (f := f) (m + 1) i (by omega)
          rw [e]
          exact below_next hs ht (by omega) he
        · rw [if_neg hjl]
          exact ih (by omega) i j hij (by omega)

theorem length_kept_pos {f : Nat → Item} {m : Nat} (h : 0 < m) : 1 ≤ (kept f m).length := by
  obtain ⟨i, hi, _⟩ := kept_has (f := f) m 0 h
  omega


theorem FarN.grown {w wr : World} {g : Nat} {x : Item} (h : FarN w g x) (hg : w.grownBy wr (some g)) : FarN wr g x := by
  refine ⟨⟨⟨h.1.1.fits, h.1.1.lim, fun i hi => ?_⟩, h.1.2⟩, h.2⟩
  obtain ⟨b, o, e, hc⟩ := h.1.1.cells i hi
  refine ⟨b, o, e, ?_⟩
  have hb := h.2 (fun h0 => by rw [h0] at hi; simp at hi) b o e
  rw [← hc]
  exact World.cell?_of_block (w := w) (hg.block b (World.block_lt_of_cell? w _ hc) (fun e' => hb (by simp at e'; omega)))
theorem FarN.below {w wr : World} {g : Nat} {x : Item} (h : FarN w g x) (hb : Below w.heap.size w wr) : FarN wr g x := ⟨⟨h.1.1.below hb, h.1.2⟩, h.2⟩

theorem cell_grownBy {w wr : World} {g : Nat} (hg : w.grownBy wr (some g)) {p : Addr} {v : Value} (hne : p.block ≠ g) (h : w.cell? p = some v) : wr.cell? p = some v := by
  rw [← h]
  exact World.cell?_of_block (w := w) (hg.block p.block (World.block_lt_of_cell? w _ h) (fun e => hne (by simp at e; omega)))
theorem frozen_grownBy {w wr : World} {g : Nat} (hg : w.grownBy wr (some g)) {p : Addr} (hlt : p.block < w.heap.size) (hne : p.block ≠ g) : wr.frozen? p = w.frozen? p :=
  World.frozen?_of_block (w := w) (hg.block p.block hlt (fun e => hne (by simp at e; omega)))

theorem OwnF.below {w wr : World} {g n B : Nat} {f : Nat → Item} (h : OwnF w g n f) (hb : Below B w wr) (hg : g < B) : OwnF wr g n f :=
  ⟨fun i hi => by rw [hb.cell (p := ⟨g, i * 2, none⟩) hg]; exact h.c0 i hi, fun i hi => by rw [hb.cell (p := ⟨g, i * 2 + 1, none⟩) hg]; exact h.c1 i hi, fun i hi => by rw [hb.frozen (p := ⟨g, i, none⟩) hg]; exact h.fr i hi⟩
theorem OwnF.far {w : World} {g n : Nat} {f : Nat → Item} (h : OwnF w g n f) {a : Addr} (hne : g ≠ a.block) (u : Value) : OwnF (w.setCell a u) g n f :=
  ⟨fun i hi => by rw [World.cell?_setCell_far _ _ _ _ (fun e => hne e.symm)]; exact h.c0 i hi, fun i hi => by rw [World.cell?_setCell_far _ _ _ _ (fun e => hne e.symm)]; exact h.c1 i hi, fun i hi => by simp [h.fr i hi]⟩

theorem OwnF.drew {w : World} {g n : Nat} {f : Nat → Item} (h : OwnF w g n f) : OwnF w.drew g n f := ⟨h.c0, h.c1, h.fr⟩
theorem grownBy_drew {a w : World} {row : Option Nat} (h : a.drew.grownBy w row) : a.grownBy w row := ⟨h.os, h.tape, h.output, h.size, h.block⟩
set_option maxRecDepth 100000 in
set_option maxHeartbeats 4000000 in
theorem sortUnique_any (o g n cap : Nat) (f : Nat → Item) (w : World) (hn : 1 ≤ n) (hn3 : n ≤ 1000000000000) (hcap : n ≤ cap) (hn2 : cap ≤ 9223372036854775807) (ho : OrdAt w o g n cap) (hgo : g ≠ o) (hown : OwnF w g n f)
    (hf : ∀ i, i < n → FarN w g (f i)) :
    Calls Tryz.prog 33 #[.pointer (some ⟨o, 0, none⟩)] w (GivesUnique w o g n cap f) := by
  obtain ⟨W, hW⟩ : ∃ W, W = w.alloc (.cells #[.pointer (some ⟨o, 0, none⟩)] 90) := ⟨_, rfl⟩
  have hb : Below w.heap.size w W := by rw [hW]; exact (Below.refl _ _).alloc (Nat.le_refl _) _
  have hlt := hown.lt hn
  have holt : o < w.heap.size := World.block_lt_of_cell? w _ ho.c0
  have hbx : W.cell? ⟨w.heap.size, 0, none⟩ = some (.pointer (some ⟨o, 0, none⟩)) := by
    rw [hW, cell_of_row _ _ 0 _ _ (0, 0) (heap_alloc_last w _)]; rfl
  have h1 : W.cell? ⟨o, 0, none⟩ = some (.slice (some ⟨g, 0, none⟩) n cap) := by rw [hb.cell (p := ⟨o, 0, none⟩) holt]; exact ho.c0
  have h2 : W.cell? ⟨o, 1, none⟩ = some (.func (.func 31) #[] #[]) := by rw [hb.cell (p := ⟨o, 1, none⟩) holt]; exact ho.c1
  have h3 : W.frozen? ⟨o, 0, none⟩ = false := by rw [hb.frozen (p := ⟨o, 0, none⟩) holt]; exact ho.f0
  have hltW : g < W.heap.size := Nat.lt_of_lt_of_le hlt hb.size
  have holtW : o < W.heap.size := Nat.lt_of_lt_of_le holt hb.size
  have HBX := Lib.hid hbx
  have H2 := Lib.hid h2
  have H3 := Lib.hid h3
  have H1 := Lib.hid h1
  have HB := Lib.hid hb
  have hmix := mixed
  have HF : Hid (∀ i, i < n → FarN W g (f i)) := fun i hi => (hf i hi).below hb
  have HOWN : Hid (OwnF W g n f) := hown.below hb hlt
  have HWW : Hid (w.alloc (.cells #[.pointer (some ⟨o, 0, none⟩)] 90) = W) := hW.symm
  clear hW ho hown hf hb h3
  go_enter Tryz.func33, Tryz.ntmps33
  go_wp2_with fail
  rw [HWW.out]
  go_still_tail 8, hmix
  change wpList _ _ _ _ _ W.drew
  go_wp2_with fail
  refine (sort_any g n cap f W.drew hn (by omega) (fun i hi => (HF.out i hi).below (Below.refl _ W).drew) HOWN.out.drew).mono ?_
  rintro e w2 ⟨rfl, f', hm1, hm2, hs, ho2, hg2⟩
  have hg := grownBy_drew hg2
  have HG := Lib.hid hg
  have HM1 := Lib.hid hm1
  have HM2 := Lib.hid hm2
  have HS := Lib.hid hs
  have HO2 := Lib.hid ho2
  have b1 : w2.cell? ⟨w.heap.size, 0, none⟩ = some (.pointer (some ⟨o, 0, none⟩)) := cell_grownBy hg (p := ⟨w.heap.size, 0, none⟩) (by show w.heap.size ≠ g; omega) HBX.out
  have b2 : w2.cell? ⟨o, 0, none⟩ = some (.slice (some ⟨g, 0, none⟩) n cap) := cell_grownBy hg (p := ⟨o, 0, none⟩) (Ne.symm hgo) H1.out
  have b3 : w2.cell? ⟨o, 1, none⟩ = some (.func (.func 31) #[] #[]) := cell_grownBy hg (p := ⟨o, 1, none⟩) (Ne.symm hgo) H2.out
  have hK : Hid (∀ wr, w2.drew.grownBy wr (some g) → ∀ i, i < n → OkN wr (f' i)) := fun wr hwr i hi => by
    obtain ⟨j, hj, e⟩ := HM1.out i hi
    rw [e]
    exact (((HF.out j hj).grown HG.out).grown (grownBy_drew hwr)).1
  have hO : Hid (∀ wr, w2.drew.grownBy wr (some g) → OrdBox wr w.heap.size o) := fun wr hwr =>
    ⟨cell_grownBy (grownBy_drew hwr) (p := ⟨w.heap.size, 0, none⟩) (by show w.heap.size ≠ g; omega) b1, cell_grownBy (grownBy_drew hwr) (p := ⟨o, 1, none⟩) (Ne.symm hgo) b3⟩
  have BB := Lib.hid b2
  have BX := Lib.hid b1
  have hFr : Hid (w2.frozen? ⟨o, 0, none⟩ = false) := (frozen_grownBy hg (p := ⟨o, 0, none⟩) holtW (Ne.symm hgo)).trans H3.out
  have hend : Hid (∀ w3, OwnF w3 g (kept f' n).length (fun i => (kept f' n).getD i zI) → w2.drew.grownBy w3 (some g) → GivesUnique w o g n cap f (.returned (.tuple #[])) (w3.setCell ⟨o, 0, none⟩ (.slice (some ⟨g, 0, none⟩) (kept f' n).length cap))) := fun w3 ho3 hg3 => by
    have hw2 : Two g o w w2 := (Two.of_below HB.out).trans (Two.of_grown hg)
    have hw3 : Two g o w w3 := hw2.trans (Two.of_grown (grownBy_drew hg3))
    have hc3 := cell_grownBy (grownBy_drew hg3) (p := ⟨o, 0, none⟩) (Ne.symm hgo) b2
    refine ⟨rfl, (kept f' n).length, fun i => (kept f' n).getD i zI, length_kept_pos hn, length_kept f' n, fun i hi => ?_, fun j hj => ?_, fun i j hij hj => kept_asc hs n (Nat.le_refl _) i j hij hj, ho3.far (a := ⟨o, 0, none⟩) hgo _, World.cell?_setCell_same _ _ _ hc3, hw3.setCell 0 _⟩
    · obtain ⟨j, hj, e⟩ := kept_mem (f := f') n i hi
      obtain ⟨t, ht, e2⟩ := hm1 j hj
      exact ⟨t, ht, e.trans e2⟩
    · obtain ⟨t, ht, e⟩ := hm2 j hj
      obtain ⟨i, hi, e2⟩ := kept_has (f := f') n t ht
      exact ⟨i, hi, by rw [← e]; exact e2⟩
  clear hbx h1 h2 hg2 hg hm1 hm2 hs ho2 b3
  go_wp2_with fail
  go_region_with ((first
    | (go_at_call 57; refine (compact_any w.heap.size o g n cap f' _ hn hcap hn2 HO2.out.drew hK.out hO.out).mono ?_; rintro e w3 ⟨rfl, ho3, hg3⟩; have k1 := cell_grownBy (grownBy_drew hg3) (p := ⟨o, 0, none⟩) (Ne.symm hgo) BB.out; have k2 := (frozen_grownBy (grownBy_drew hg3) (p := ⟨o, 0, none⟩) (World.block_lt_of_cell? _ _ BB.out) (Ne.symm hgo)).trans hFr.out; have k3 := cell_grownBy (grownBy_drew hg3) (p := ⟨w.heap.size, 0, none⟩) (by show w.heap.size ≠ g; omega) BX.out)))
  all_goals exact bodyPost_end (results_none rfl _ _ _) rfl (hend.out _ ho3 hg3)
end Go.Proofs.YtpnnbjifhoonkaaGreat
namespace Go.Proofs.YtpnnbjifhoonkaaGreat
open Go.RowKit Go.Shelf

theorem infoNormed : (Tryz.prog.info? 62).map (fun i => (i.zero, i.size, i.bytes)) = some (some (.agg #[.int .i64 0, .slice none 0 0]), 2, 32) := by kernel_rfl
theorem infoRows : (Tryz.prog.info? 23).map (fun i => (i.zero, i.size, i.bytes)) = some (some (.slice none 0 0), 1, 24) := by kernel_rfl

/-- An item whose vector is the call's own. -/
structure ItOwn (w : World) (x : Item) : Prop where
  at' : ∃ g, x.a = some ⟨g, 0, none⟩ ∧ OwnI w g x.vec
  fits : x.vec.length ≤ x.cap
  lim : ∀ v ∈ x.vec, I64 v
  len : x.vec.length ≤ 100000000000000

/-- The cells of the first n items. -/
def flatN (f : Nat → Item) (n : Nat) : List Value := (List.range n).flatMap fun i => encN (f i)

theorem flatN_succ (f : Nat → Item) (n : Nat) : flatN f (n + 1) = flatN f n ++ encN (f n) := by simp [flatN, List.range_succ]
theorem length_flatN (f : Nat → Item) : ∀ n, (flatN f n).length = n * 2
  | 0 => rfl
  | n + 1 => by rw [flatN_succ, List.length_append, length_flatN f n]; simp [encN]; omega
theorem flatN_get (f : Nat → Item) : ∀ n i, i < n → (flatN f n)[i * 2]? = some (.int .i64 (f i).norm) ∧ (flatN f n)[i * 2 + 1]? = some (.slice (f i).a (f i).vec.length (f i).cap)
  | 0, i, h => by omega
  | n + 1, i, h => by
    have hl := length_flatN f n
    rw [flatN_succ]
    by_cases e : i < n
    · obtain ⟨h1, h2⟩ := flatN_get f n i e
      exact ⟨by rw [List.getElem?_append_left (by omega)]; exact h1, by rw [List.getElem?_append_left (by omega)]; exact h2⟩
    · obtain rfl : i = n := by omega
      exact ⟨by rw [List.getElem?_append_right (by omega), hl, Nat.sub_self]; rfl, by rw [List.getElem?_append_right (by omega), hl, show i * 2 + 1 - i * 2 = 1 from by omega]; rfl⟩
theorem flatN_congr {f f' : Nat → Item} : ∀ {n : Nat}, (∀ i, i < n → f i = f' i) → flatN f n = flatN f' n
  | 0, _ => rfl
  | n + 1, h => by rw [flatN_succ, flatN_succ, flatN_congr (fun i hi => h i (by omega)), h n (by omega)]

/-- The list and its order: block o, whose items are the first n. -/
def ListAt (w : World) (o : Nat) (v : Value) : Prop := w.heap[o]? = some (.cells #[v, .func (.func 31) #[] #[]] 60 (0, 0))

theorem ListAt.c0 {w : World} {o : Nat} {v : Value} (h : ListAt w o v) : w.cell? ⟨o, 0, none⟩ = some v := by rw [cell_of_row _ _ 0 _ _ (0, 0) h]; rfl
theorem ListAt.c1 {w : World} {o : Nat} {v : Value} (h : ListAt w o v) : w.cell? ⟨o, 1, none⟩ = some (.func (.func 31) #[] #[]) := by rw [cell_of_row _ _ 1 _ _ (0, 0) h]; rfl
theorem ListAt.fr {w : World} {o : Nat} {v : Value} (h : ListAt w o v) (i : Nat) : w.frozen? ⟨o, i, none⟩ = false := frozen_of_row _ _ _ _ _ h
theorem ListAt.of_heap {w w' : World} {o : Nat} {v : Value} (h : ListAt w o v) (he : w'.heap[o]? = w.heap[o]?) : ListAt w' o v := he.trans h
theorem ListAt.lt {w : World} {o : Nat} {v : Value} (h : ListAt w o v) : o < w.heap.size := (Array.getElem?_eq_some_iff.1 h).1
theorem ListAt.set {w : World} {o : Nat} {v : Value} (h : ListAt w o v) (u : Value) : ListAt (w.setCell ⟨o, 0, none⟩ u) o u := by
  unfold ListAt
  rw [heap_setCell_same w o 0 _ _ u h]
  rfl

theorem ItOwn.of_heap {w w' : World} {x : Item} (h : ItOwn w x) (he : ∀ g, x.a = some ⟨g, 0, none⟩ → w'.heap[g]? = w.heap[g]?) : ItOwn w' x := by
  obtain ⟨g, e, ho⟩ := h.at'
  exact ⟨⟨g, e, ho.of_heap (he g e)⟩, h.fits, h.lim, h.len⟩
theorem ItOwn.below {w w' : World} {x : Item} (h : ItOwn w x) (hb : Below w.heap.size w w') : ItOwn w' x := by
  obtain ⟨g, e, ho⟩ := h.at'
  exact ⟨⟨g, e, ho.below hb ho.lt⟩, h.fits, h.lim, h.len⟩

/-- Blocks of other types are other blocks. -/
theorem OwnI.ne {w : World} {g : Nat} {zs : List Int} (h : OwnI w g zs) {k : Nat} {cur : Array Value} {t : TypeId} (hk : w.heap[k]? = some (.cells cur t (0, 0))) (ht : t ≠ 2) : g ≠ k := by
  rintro rfl
  obtain ⟨cur', hg, _⟩ := h.row
  rw [hk] at hg
  simp only [Option.some.injEq, Obj.cells.injEq] at hg
  exact ht hg.2.1

theorem ItOwn.ne {w : World} {x : Item} (h : ItOwn w x) {k : Nat} {cur : Array Value} {t : TypeId} (hk : w.heap[k]? = some (.cells cur t (0, 0))) (ht : t ≠ 2) : ∀ g, x.a = some ⟨g, 0, none⟩ → g ≠ k := fun g e => by
  obtain ⟨g', e', ho⟩ := h.at'
  rw [e] at e'
  simp only [Option.some.injEq, Addr.mk.injEq, and_true] at e'
  rw [e']
  exact ho.ne hk ht

theorem ItOwn.far {w : World} {x : Item} (h : ItOwn w x) {k : Nat} {cur : Array Value} {t : TypeId} (hk : w.heap[k]? = some (.cells cur t (0, 0))) (ht : t ≠ 2) : FarN w k x := by
  obtain ⟨g, e, ho⟩ := h.at'
  refine ⟨⟨by rw [e]; exact ho.rd h.fits h.lim, h.len⟩, fun _ b o e2 => ?_⟩
  rw [e] at e2
  simp only [Option.some.injEq, Addr.mk.injEq, and_true] at e2
  rw [← e2.1]
  exact ho.ne hk ht

theorem ItOwn.grown {w w' : World} {x : Item} (h : ItOwn w x) {v : Value} (hg : w.grownBy w' v.ownBlock) (hne : ∀ g, x.a = some ⟨g, 0, none⟩ → some g ≠ v.ownBlock) : ItOwn w' x := by
  obtain ⟨g, e, ho⟩ := h.at'
  exact ⟨⟨g, e, ho.of_heap (hg.block g ho.lt (hne g e))⟩, h.fits, h.lim, h.len⟩

/-- The block of an own row of items. -/
theorem row_block {w : World} {B n : Nat} {v : Value} {xs : List Value} (h : w.ownsRow B 62 2 v n xs) (g : Nat) (hv : v.ownBlock = some g) : B ≤ g ∧ ∃ cur, w.heap[g]? = some (.cells cur 62 (0, 0)) := by
  rcases h.2 with ⟨h0, _⟩ | ⟨g', cap, cur, hv', hb, hg, _⟩
  · rw [h0] at hv; cases hv
  · rw [hv'] at hv
    simp only [Value.ownBlock, Option.some.injEq] at hv
    subst hv
    exact ⟨hb, cur, hg⟩

theorem ItOwn.row_ne {w : World} {x : Item} (h : ItOwn w x) {B n : Nat} {v : Value} {xs : List Value} (hr : w.ownsRow B 62 2 v n xs) : ∀ g, x.a = some ⟨g, 0, none⟩ → some g ≠ v.ownBlock := fun g e e2 => by
  obtain ⟨_, cur, hc⟩ := row_block hr g e2.symm
  exact h.ne hc (by decide) g e rfl

theorem ListAt.row_ne {w : World} {o : Nat} {u : Value} (h : ListAt w o u) {B n : Nat} {v : Value} {xs : List Value} (hr : w.ownsRow B 62 2 v n xs) : some o ≠ v.ownBlock := fun e => by
  obtain ⟨_, cur, hc⟩ := row_block hr o e.symm
  unfold ListAt at h
  rw [h] at hc
  simp only [Option.some.injEq, Obj.cells.injEq] at hc
  exact absurd hc.2.1 (by decide)

/-- An own row of items, in the words of the sort. -/
theorem ownF_of_row {w : World} {B n : Nat} {v : Value} {f : Nat → Item} (hn : 1 ≤ n) (h : w.ownsRow B 62 2 v n (flatN f n)) :
    ∃ g cap, v = .slice (some ⟨g, 0, none⟩) n cap ∧ n ≤ cap ∧ cap ≤ 9223372036854775807 ∧ B ≤ g ∧ OwnF w g n f ∧ ∃ cur, w.heap[g]? = some (.cells cur 62 (0, 0)) := by
  rcases h.2 with ⟨_, h0⟩ | ⟨g, cap, cur, hv, hb, hg, hnc, hcm, _, ht⟩
  · omega
  · have key : ∀ i, i < n * 2 → cur[i]? = (flatN f n)[i]? := fun i hi => by
      rw [← ht, List.getElem?_take, if_pos hi]; simp
    refine ⟨g, cap, hv, hnc, hcm, hb, ⟨fun i hi => ?_, fun i hi => ?_, fun i _ => frozen_of_row _ _ _ _ _ hg⟩, cur, hg⟩
    · rw [cell_of_row _ _ _ _ _ (0, 0) hg, key _ (by omega), (flatN_get f n i hi).1]
    · rw [cell_of_row _ _ _ _ _ (0, 0) hg, key _ (by omega), (flatN_get f n i hi).2]
end Go.Proofs.YtpnnbjifhoonkaaGreat
