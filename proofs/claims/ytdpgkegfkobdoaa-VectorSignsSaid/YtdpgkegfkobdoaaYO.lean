/-
  The order of items is one; the contract of SortFunc at items.
-/
import Derived.Test.YtdpgkegfkobdoaaYN
import Derived.Shelf.SlSortCmp.WholeK
namespace Go.Proofs.Ytdpgkegfkobdoaa
open Go.RowKit Go.Shelf Go.Sort

theorem cmpL_self : ∀ xs : List Int, cmpL xs xs = 0
  | [] => rfl
  | x :: r => by
    have h : Lib.compareInt x x = 0 := by rcases compareInt_cases x x with h | h | h <;> omega
    show (if Lib.compareInt x x = 0 then cmpL r r else _) = 0
    rw [if_pos h, cmpL_self r]

theorem cmpL_neg : ∀ xs ys : List Int, cmpL ys xs = -cmpL xs ys
  | [], [] => rfl
  | [], _ :: _ => rfl
  | _ :: _, [] => rfl
  | x :: r, y :: s => by
    have ih := cmpL_neg r s
    show (if Lib.compareInt y x = 0 then cmpL s r else Lib.compareInt y x) = -(if Lib.compareInt x y = 0 then cmpL r s else Lib.compareInt x y)
    rcases compareInt_cases x y with ⟨h1, h2⟩ | ⟨h1, h2⟩ | ⟨h1, h2⟩ <;> rcases compareInt_cases y x with ⟨h3, h4⟩ | ⟨h3, h4⟩ | ⟨h3, h4⟩ <;> first | omega | (rw [h2, h4]; simp; try exact ih)

theorem cmpL_eq : ∀ {xs ys : List Int}, cmpL xs ys = 0 → xs = ys
  | [], [], _ => rfl
  | [], _ :: _, h => by cases h
  | _ :: _, [], h => by cases h
  | x :: r, y :: s, h => by
    have h' : (if Lib.compareInt x y = 0 then cmpL r s else Lib.compareInt x y) = 0 := h
    rcases compareInt_cases x y with ⟨h1, h2⟩ | ⟨h1, h2⟩ | ⟨h1, h2⟩
    · rw [h2] at h'; simp at h'
    · rw [h2, if_pos rfl] at h'; rw [h1, cmpL_eq h']
    · rw [h2] at h'; simp at h'

theorem cmpL_trans : ∀ {xs ys zs : List Int}, cmpL xs ys < 0 → cmpL ys zs < 0 → cmpL xs zs < 0
  | [], [], _, h, _ => by exact absurd h (by decide)
  | [], _ :: _, [], _, h => absurd h (show ¬((1 : Int) < 0) by decide)
  | [], _ :: _, _ :: _, _, _ => (show (-1 : Int) < 0 by decide)
  | _ :: _, [], _, h, _ => absurd h (show ¬((1 : Int) < 0) by decide)
  | _ :: _, _ :: _, [], _, h => absurd h (show ¬((1 : Int) < 0) by decide)
  | x :: r, y :: s, z :: t, h1, h2 => by
    have h1' : (if Lib.compareInt x y = 0 then cmpL r s else Lib.compareInt x y) < 0 := h1
    have h2' : (if Lib.compareInt y z = 0 then cmpL s t else Lib.compareInt y z) < 0 := h2
    show (if Lib.compareInt x z = 0 then cmpL r t else Lib.compareInt x z) < 0
    rcases compareInt_cases x y with ⟨a1, a2⟩ | ⟨a1, a2⟩ | ⟨a1, a2⟩ <;> rw [a2] at h1' <;> rcases compareInt_cases y z with ⟨b1, b2⟩ | ⟨b1, b2⟩ | ⟨b1, b2⟩ <;> rw [b2] at h2' <;> simp at h1' h2' <;>
      rcases compareInt_cases x z with ⟨c1, c2⟩ | ⟨c1, c2⟩ | ⟨c1, c2⟩ <;> rw [c2] <;> first | omega | (simp; done) | (simp; exact cmpL_trans h1' h2')

theorem cfN_self (x : Item) : cfN x x = 0 := by
  unfold cfN
  rw [if_pos (by rcases compareInt_cases x.norm x.norm with h | h | h <;> omega), cmpL_self]
theorem cfN_neg (x y : Item) : cfN y x = -cfN x y := by
  have ih := cmpL_neg x.vec y.vec
  unfold cfN
  rcases compareInt_cases x.norm y.norm with ⟨h1, h2⟩ | ⟨h1, h2⟩ | ⟨h1, h2⟩ <;> rcases compareInt_cases y.norm x.norm with ⟨h3, h4⟩ | ⟨h3, h4⟩ | ⟨h3, h4⟩ <;> first | omega | (rw [h2, h4]; simp; try exact ih)
theorem cfN_eq {x y : Item} (h : cfN x y = 0) : x.norm = y.norm ∧ x.vec = y.vec := by
  unfold cfN at h
  rcases compareInt_cases x.norm y.norm with ⟨h1, h2⟩ | ⟨h1, h2⟩ | ⟨h1, h2⟩
  · rw [h2] at h; simp at h
  · rw [h2, if_pos rfl] at h; exact ⟨h1, cmpL_eq h⟩
  · rw [h2] at h; simp at h
theorem cfN_trans {x y z : Item} (h1 : cfN x y < 0) (h2 : cfN y z < 0) : cfN x z < 0 := by
  unfold cfN at *
  rcases compareInt_cases x.norm y.norm with ⟨a1, a2⟩ | ⟨a1, a2⟩ | ⟨a1, a2⟩ <;> rw [a2] at h1 <;> rcases compareInt_cases y.norm z.norm with ⟨b1, b2⟩ | ⟨b1, b2⟩ | ⟨b1, b2⟩ <;> rw [b2] at h2 <;> simp at h1 h2 <;>
    rcases compareInt_cases x.norm z.norm with ⟨c1, c2⟩ | ⟨c1, c2⟩ | ⟨c1, c2⟩ <;> rw [c2] <;> first | omega | (simp; done) | (simp; exact cmpL_trans h1 h2)
theorem cfN_congr {x y z : Item} (h : cfN x y = 0) : cfN x z = cfN y z ∧ cfN z x = cfN z y := by
  obtain ⟨h1, h2⟩ := cfN_eq h
  unfold cfN
  rw [h1, h2]
  exact ⟨rfl, rfl⟩
theorem cfN_ntrans {x y z : Item} (h1 : ¬cfN x y < 0) (h2 : ¬cfN y z < 0) : ¬cfN x z < 0 := by
  intro h
  by_cases e1 : cfN x y = 0
  · rw [(cfN_congr e1).1] at h; exact h2 h
  · by_cases e2 : cfN y z = 0
    · rw [← (cfN_congr e2).2] at h; exact h1 h
    · have n1 := cfN_neg x y
      have n2 := cfN_neg y z
      have n3 := cfN_neg x z
      have := cfN_trans (x := z) (y := y) (z := x) (by omega) (by omega)
      omega

/-- An item that the sort of block g of w does not touch. -/
def FarN (w : World) (g : Nat) (x : Item) : Prop := OkN w x ∧ (x.vec ≠ [] → ∀ b o, x.a = some ⟨b, o, none⟩ → b ≠ g)
structure It (w : World) (g : Nat) where
  v : Item
  far : FarN w g v
instance (w : World) (g : Nat) : Inhabited (It w g) := ⟨⟨zI, ⟨RdI.nil _ _ _, by decide⟩, fun h => absurd rfl h⟩⟩
def encA (w : World) (g : Nat) (x : It w g) : List Value := encN x.1
def cfA (w : World) (g : Nat) (x y : It w g) : Int := cfN x.1 y.1

theorem swoA (w : World) (g : Nat) : SWO (ltOf (cfA w g)) where
  irrefl x := by unfold ltOf cfA; rw [cfN_self]; rfl
  trans x y z h1 h2 := by
    unfold ltOf cfA at *
    rw [decide_eq_true_iff] at *
    exact cfN_trans h1 h2
  ntrans x y z h1 h2 := by
    unfold ltOf cfA at *
    rw [decide_eq_false_iff_not] at *
    exact cfN_ntrans h1 h2

theorem sortWorld_cell (w : World) (g m : Nat) (dk : Array (It w g)) (os : Array Obj) {a : Addr} {v : Value} (hne : a.block ≠ g) (h : w.cell? a = some v) : (sortWorldK (encA w g) 2 w g 0 m dk os).cell? a = some v := by
  have hlt : a.block < w.heap.size := World.block_lt_of_cell? w _ h
  unfold sortWorldK
  rw [cell?_grow _ _ _ (by simpa [putRowK, putRow, mapBlock, Sort.ahead] using hlt), cell?_putRowK_other _ _ _ _ _ _ _ hne]
  exact h

theorem FarN.ok {w : World} {g : Nat} {x : Item} (h : FarN w g x) (m : Nat) (dk : Array (It w g)) (os : Array Obj) : OkN (sortWorldK (encA w g) 2 w g 0 m dk os) x := by
  refine ⟨⟨h.1.1.fits, h.1.1.lim, fun i hi => ?_⟩, h.1.2⟩
  obtain ⟨b, o, e, hc⟩ := h.1.1.cells i hi
  exact ⟨b, o, e, sortWorld_cell w g m dk os (h.2 (fun h0 => by rw [h0] at hi; simp at hi) b o e) hc⟩

theorem cmpLaysA (w : World) (g size : Nat) : CmpLays Try.prog 28 #[] (encA w g) 2 (cfA w g) g 0 size w :=
  fun m os dk _ x y => compareNormed_any x.1 y.1 _ (x.2.ok m dk os) (y.2.ok m dk os)

/-- The items of block g as an array of those that the sort speaks of. -/
def arrA (w : World) (g n : Nat) (f : Nat → Item) (h : ∀ i, i < n → FarN w g (f i)) : Array (It w g) := Array.ofFn (n := n) fun i => (⟨f i.1, h i.1 i.2⟩ : It w g)

theorem size_arrA (w : World) (g n : Nat) (f : Nat → Item) (h : ∀ i, i < n → FarN w g (f i)) : (arrA w g n f h).size = n := by unfold arrA; exact Array.size_ofFn
theorem get_arrA (w : World) (g n : Nat) (f : Nat → Item) (h : ∀ i, i < n → FarN w g (f i)) (i : Nat) (hi : i < n) : ((arrA w g n f h)[i]!).1 = f i := by
  rw [getElem!_pos _ i (by rw [size_arrA]; exact hi)]
  unfold arrA
  rw [Array.getElem_ofFn]

theorem extract_all {α : Type} (a : Array α) {n : Nat} (h : a.size = n) : (a.extract 0 n).toList = a.toList := by subst h; simp

theorem holdsA {w : World} {g n : Nat} {f : Nat → Item} (h : ∀ i, i < n → FarN w g (f i)) (ho : OwnF w g n f) : HoldsK (encA w g) 2 w g 0 (arrA w g n f h) := by
  intro t ht
  rw [size_flatK, size_arrA] at ht
  have hg : (arrA w g n f h)[t / 2]!.1 = f (t / 2) := get_arrA w g n f h (t / 2) (by omega)
  rw [get_flatK _ _ _ t (by rw [size_arrA]; exact ht)]
  unfold encA encN
  rw [hg, Nat.zero_add]
  refine ⟨?_, ho.fr t ht⟩
  rcases (by omega : t = t / 2 * 2 ∧ t % 2 = 0 ∨ t = t / 2 * 2 + 1 ∧ t % 2 = 1) with ⟨e1, e2⟩ | ⟨e1, e2⟩
  · rw [e2]
    conv => lhs; rw [e1]
    exact ho.c0 (t / 2) (by omega)
  · rw [e2]
    conv => lhs; rw [e1]
    exact ho.c1 (t / 2) (by omega)

theorem ownA {w : World} {g n m : Nat} {f : Nat → Item} (h : ∀ i, i < n → FarN w g (f i)) (ho : OwnF w g n f) (hlt : g < w.heap.size) (d : Array (It w g)) (hd : d.size = n) (os : Array Obj) :
    OwnF (sortWorldK (encA w g) 2 w g 0 m d os) g n (fun i => (d[i]!).1) := by
  have hH := holdsK_putRowK (encA w g) 2 (Sort.ahead w m) g 0 (arrA w g n f h) d (holdsK_ahead (encA w g) 2 w m g 0 _ (holdsA h ho)) (by rw [hd, size_arrA])
  have hH2 := holdsK_grow (encA w g) 2 _ os g 0 d (by simpa [putRowK, putRow, mapBlock, Sort.ahead] using hlt) hH
  have key : ∀ i c, i < n → c < 2 → (sortWorldK (encA w g) 2 w g 0 m d os).cell? ⟨g, 0 + i * 2 + c, none⟩ = some (encA w g d[i]!)[c]! ∧ (sortWorldK (encA w g) 2 w g 0 m d os).frozen? ⟨g, 0 + i * 2 + c, none⟩ = false := fun i c hi hc => HoldsK.cell hH2 (by rw [hd]; exact hi) hc
  refine ⟨fun i hi => ?_, fun i hi => ?_, fun i hi => ?_⟩
  · have := (key i 0 hi (by omega)).1
    rw [Nat.zero_add, Nat.add_zero] at this
    exact this
  · have := (key i 1 hi (by omega)).1
    rw [Nat.zero_add] at this
    exact this
  · have := (key (i / 2) (i % 2) (by omega) (by omega)).2
    rw [Nat.zero_add, show i / 2 * 2 + i % 2 = i from by omega] at this
    exact this

theorem sortWorld_grown (w : World) (g m : Nat) (d : Array (It w g)) (os : Array Obj) : w.grownBy (sortWorldK (encA w g) 2 w g 0 m d os) (some g) := by
  refine ⟨rfl, rfl, rfl, by simp [sortWorldK, putRowK, putRow, mapBlock, Sort.ahead], fun j hj hne => ?_⟩
  unfold sortWorldK
  rw [heap_grow_old _ _ (by simpa [putRowK, putRow, mapBlock, Sort.ahead] using hj)]
  simp only [putRowK, putRow, mapBlock, Sort.ahead, Array.getElem?_modify]
  rw [if_neg (fun e => hne (by rw [e]))]

/-- What SortFunc gives. -/
def GivesSorted (w : World) (g n : Nat) (f : Nat → Item) (e : Ending) (w' : World) : Prop :=
  e = .returned (.tuple #[]) ∧ ∃ f' : Nat → Item, (∀ i, i < n → ∃ j, j < n ∧ f' i = f j) ∧ (∀ j, j < n → ∃ i, i < n ∧ f' i = f j) ∧ (∀ i j, i < j → j < n → ¬cfN (f' j) (f' i) < 0) ∧ OwnF w' g n f' ∧ w.grownBy w' (some g)

theorem sort_any (g n cap : Nat) (f : Nat → Item) (w : World) (hn : 1 ≤ n) (hn2 : n ≤ 4611686018427387903) (h : ∀ i, i < n → FarN w g (f i)) (ho : OwnF w g n f) :
    Calls Try.prog 37 #[.slice (some ⟨g, 0, none⟩) n cap, .func (.func 28) #[] #[]] w (GivesSorted w g n f) := by
  have eg : ∀ args w, (callFunc 28 args).run Try.prog w = .ok (.enter 28 args) w := enters_of Try.func28 (by kernel_rfl) rfl
  have hlt := ho.lt hn
  have hcon := AnyQ.slices_SortFunc Try.sortNormed 2 Try.isAgg58 Try.sizeOf58 (encA w g) (fun _ => rfl) (fun x v hv => by
    simp only [encA, encN, List.mem_cons, List.not_mem_nil, or_false] at hv
    rcases hv with rfl | rfl <;> rfl) (cfA w g) (swoA w g) 28 #[] g 0 cap (arrA w g n f h) w eg (cmpLaysA w g _) (holdsA h ho) hlt (by rw [size_arrA]; omega)
  rw [size_arrA] at hcon
  change Calls Try.prog 37 _ _ _ at hcon
  refine hcon.mono ?_
  rintro e w' ⟨rfl, d', m, os, hp, hs, rfl⟩
  have hd : d'.size = n := by rw [hp.1, size_arrA]
  have e1 := extract_all d' hd
  have e2 := extract_all (arrA w g n f h) (size_arrA w g n f h)
  have hperm : d'.toList.Perm (arrA w g n f h).toList := by
    have := hp.2.2
    rw [e1, e2] at this
    exact this
  refine ⟨rfl, fun i => (d'[i]!).1, fun i hi => ?_, fun j hj => ?_, fun i j hij hj => ?_, ownA h ho hlt d' hd os, sortWorld_grown w g m d' os⟩
  · have hmem : d'[i]! ∈ d'.toList := by
      rw [getElem!_pos d' i (by omega)]
      exact Array.getElem_mem_toList _
    have := hperm.mem_iff.1 hmem
    obtain ⟨j, hj, e⟩ := List.getElem_of_mem this
    have hj' : j < n := by rw [Array.length_toList, size_arrA] at hj; exact hj
    refine ⟨j, hj', ?_⟩
    have hg := get_arrA w g n f h j hj'
    rw [getElem!_pos _ j (by rw [size_arrA]; exact hj')] at hg
    show (d'[i]!).1 = f j
    rw [← hg, ← e, Array.getElem_toList]
  · have hmem : (arrA w g n f h)[j]! ∈ (arrA w g n f h).toList := by
      rw [getElem!_pos _ j (by rw [size_arrA]; exact hj)]
      exact Array.getElem_mem_toList _
    have := hperm.mem_iff.2 hmem
    obtain ⟨i, hi, e⟩ := List.getElem_of_mem this
    have hi' : i < d'.size := by rw [Array.length_toList] at hi; exact hi
    refine ⟨i, by omega, ?_⟩
    show (d'[i]!).1 = f j
    rw [← get_arrA w g n f h j hj, ← e, getElem!_pos d' i hi', Array.getElem_toList]
  · have := hs i j (Nat.zero_le _) hij hj
    unfold ltOf cfA at this
    rw [decide_eq_false_iff_not] at this
    exact this
end Go.Proofs.Ytdpgkegfkobdoaa
