/-
  Joined texts: DY EA UA UB UC UI UD.
-/
import Derived.Test.YtfpcfcegdjlggaaGreatJ08
import Derived.Test.YtfpcfcegdjlggaaGreatJ06
import Derived.Deep.OwnRows
import Derived.Deep.CutRange
import Derived.Deep.RegionHeld3
import Derived.Deep.LoopGhost
import Derived.Test.YtfpcfcegdjlggaaGreatJ05
import Derived.StillTail
import Derived.Deep.AppendLies
namespace Go.Proofs.YtfpcfcegdjlggaaGreat.Minor

/-- Forms of rows that agree on the columns of P agree there. -/
theorem W_local {P : Nat → Prop} {r r' : Nat → Int} (hr : ∀ c, P c → r c = r' c) : ∀ (S : List Nat) {v v' : List Nat → Int}, (∀ c ∈ S, P c) → (∀ T, (∀ c ∈ T, P c) → v T = v' T) → W v r S = W v' r' S
  | [], _, _, _, _ => rfl
  | c :: T, v, v', hS, hv => by
    show W (fun T' => v (c :: T')) r T + sg T.length * (r c * v T) = W (fun T' => v' (c :: T')) r' T + sg T.length * (r' c * v' T)
    have hc : P c := hS c List.mem_cons_self
    have hT : ∀ c ∈ T, P c := fun x hx => hS x (List.mem_cons_of_mem _ hx)
    rw [W_local hr T (v := fun T' => v (c :: T')) (v' := fun T' => v' (c :: T')) hT fun U hU => hv (c :: U) fun x hx => by
      rcases List.mem_cons.1 hx with rfl | hx
      · exact hc
      · exact hU x hx, hr c hc, hv T hT]

theorem om_local {P : Nat → Prop} {a b : Nat → Nat → Int} : ∀ k, (∀ p, p < k → ∀ c, P c → a p c = b p c) → ∀ S, (∀ c ∈ S, P c) → om a k S = om b k S
  | 0, _, _, _ => rfl
  | k + 1, h, S, hS => W_local (h k (by omega)) S hS fun T hT => om_local k (fun p hp => h p (by omega)) T hT

theorem D_local {a b : Nat → Nat → Int} (k : Nat) (h : ∀ p c, p < k → c < k → a p c = b p c) : D a k = D b k :=
  om_local (P := fun c => c < k) k (fun p hp c hc => h p c hp hc) (List.range k) fun _c hc => List.mem_range.1 hc

/-- The rows 0 .. j-1, i and the columns 0 .. j. -/
theorem D_lambda {a b : Nat → Nat → Int} (i j : Nat) (h : ∀ p c, p < j → c < j + 1 → b p c = a p c) (hl : ∀ c, c < j + 1 → b j c = a i c) : D b (j + 1) = B a j i j := by
  rw [D_succ]
  unfold B
  refine W_local (P := fun c => c < j + 1) hl _ (fun c hc => ?_) fun T hT => om_local (P := fun c => c < j + 1) j (fun p hp c hc => h p c hp hc) T hT
  rcases List.mem_append.1 hc with hc | hc
  · have := List.mem_range.1 hc; omega
  · simp only [List.mem_singleton] at hc; omega

/-- The first row from p on (f rows are left) whose entry in column k is not 0. -/
def seek (M : Nat → Nat → Int) (k : Nat) : Nat → Nat → Nat
  | 0, p => p
  | f + 1, p => if M p k = 0 then seek M k f (p + 1) else p
theorem seek_le (M : Nat → Nat → Int) (k : Nat) : ∀ f p, p ≤ seek M k f p ∧ seek M k f p ≤ p + f
  | 0, p => ⟨Nat.le_refl _, Nat.le_refl _⟩
  | f + 1, p => by
    have := seek_le M k f (p + 1)
    unfold seek
    split <;> omega
theorem seek_ne (M : Nat → Nat → Int) (k : Nat) : ∀ f p, seek M k f p < p + f → M (seek M k f p) k ≠ 0
  | 0, p, h => by unfold seek at h; omega
  | f + 1, p, h => by
    unfold seek at h ⊢
    split at h
    · rename_i e
      rw [if_pos e]
      exact seek_ne M k f (p + 1) (by omega)
    · rename_i e
      rw [if_neg e]
      exact e

def swapRows (M : Nat → Nat → Int) (p k : Nat) (i : Nat) : Nat → Int := if i = p then M k else if i = k then M p else M i
def elim (M : Nat → Nat → Int) (n k : Nat) (last : Int) (i j : Nat) : Int := if k < i ∧ k < j ∧ i < n ∧ j < n then (M k k * M i j - M i k * M k j) / last else M i j

/-- What the elimination of n rows gives, r steps before its end. -/
def detP (n : Nat) : Nat → Nat → (Nat → Nat → Int) → Int → Bool → Int
  | 0, _, _, last, neg => if neg then -last else last
  | r + 1, k, M, last, neg =>
    if seek M k (n - k) k = n then 0
    else if k < seek M k (n - k) k then detP n r (k + 1) (elim (swapRows M (seek M k (n - k) k) k) n k last) (M (seek M k (n - k) k) k) (!neg)
    else detP n r (k + 1) (elim M n k last) (M k k) neg

theorem detP_minor {a : Nat → Nat → Int} {n : Nat} (hD : ∀ m, m < n → D a m ≠ 0) : ∀ (r k : Nat) (M : Nat → Nat → Int) (last : Int), r + k = n → (∀ i j, k ≤ i → k ≤ j → i < n → j < n → M i j = B a k i j) → last = D a k → detP n r k M last false = D a n
  | 0, k, M, last, hk, _, hl => by
    obtain rfl : k = n := by omega
    exact hl
  | r + 1, k, M, last, hk, hM, hl => by
    have hkn : k < n := by omega
    have hkk : M k k = D a (k + 1) := by rw [hM k k (Nat.le_refl _) (Nat.le_refl _) hkn hkn, D_succ]
    obtain ⟨f, hf⟩ : ∃ f, n - k = f + 1 := ⟨n - k - 1, by omega⟩
    unfold detP
    by_cases e : M k k = 0
    · have hlast : k + 1 = n := by
        rcases Nat.lt_or_ge (k + 1) n with h | h
        · exact absurd (hkk.symm.trans e) (hD (k + 1) h)
        · omega
      have hs : seek M k (n - k) k = n := by
        rw [show n - k = 1 from by omega]
        unfold seek seek
        rw [if_pos e, hlast]
      rw [if_pos hs, ← hlast, ← hkk, e]
    · have hs : seek M k (n - k) k = k := by
        rw [hf]; unfold seek
        rw [if_neg e]
      rw [hs, if_neg (by omega), if_neg (by omega)]
      refine detP_minor hD r (k + 1) _ _ (by omega) (fun i j h1 h2 h3 h4 => ?_) hkk
      have hne : ∀ m, m ≤ k + 1 → D a m ≠ 0 := fun m hm => by
        by_cases e2 : m = k + 1
        · subst e2; rw [← hkk]; exact e
        · exact hD m (by omega)
      unfold elim
      rw [if_pos (by omega), hM k k (Nat.le_refl _) (Nat.le_refl _) hkn hkn, hM i j (by omega) (by omega) h3 h4, hM i k (by omega) (Nat.le_refl _) h3 hkn, hM k j (Nat.le_refl _) (by omega) hkn h4, hl, sylvester a k i j hne]
      exact Int.mul_ediv_cancel_left _ (hne k (by omega))

/-- THE DETERMINANT BY ELIMINATION of the first n rows and columns: the minor, if the earlier leading minors are not 0. -/
theorem det_minor {a : Nat → Nat → Int} {n : Nat} (hD : ∀ m, m < n → D a m ≠ 0) : detP n n 0 a 1 false = D a n :=
  detP_minor hD n 0 a 1 rfl (fun i j _ _ _ _ => (B_zero a i j).symm) rfl
end Go.Proofs.YtfpcfcegdjlggaaGreat.Minor
namespace Go.Proofs.YtfpcfcegdjlggaaGreat.Minor

theorem seek_congr {M M' : Nat → Nat → Int} {n k : Nat} (h : ∀ i j, i < n → j < n → M i j = M' i j) (hk : k < n) : ∀ f p, p + f ≤ n → seek M k f p = seek M' k f p
  | 0, _, _ => rfl
  | f + 1, p, hp => by
    unfold seek
    rw [h p k (by omega) hk, seek_congr h hk f (p + 1) (by omega)]

theorem elim_congr {M M' : Nat → Nat → Int} {n k : Nat} (h : ∀ i j, i < n → j < n → M i j = M' i j) (hk : k < n) (last : Int) (i j : Nat) (hi : i < n) (hj : j < n) : elim M n k last i j = elim M' n k last i j := by
  unfold elim
  rw [h k k hk hk, h i j hi hj, h i k hi hk, h k j hk hj]

theorem swap_congr {M M' : Nat → Nat → Int} {n p k : Nat} (h : ∀ i j, i < n → j < n → M i j = M' i j) (hk : k < n) (hp : p < n) (i j : Nat) (hi : i < n) (hj : j < n) : swapRows M p k i j = swapRows M' p k i j := by
  unfold swapRows
  split
  · exact h k j hk hj
  · split
    · exact h p j hp hj
    · exact h i j hi hj

theorem detP_congr {n : Nat} : ∀ (r k : Nat) {M M' : Nat → Nat → Int} (last : Int) (neg : Bool), r + k = n → (∀ i j, i < n → j < n → M i j = M' i j) → detP n r k M last neg = detP n r k M' last neg
  | 0, _, _, _, _, _, _, _ => rfl
  | r + 1, k, M, M', last, neg, hk, h => by
    have hkn : k < n := by omega
    have hs := seek_congr h hkn (n - k) k (by omega)
    have hb := seek_le M k (n - k) k
    unfold detP
    rw [← hs]
    by_cases e : seek M k (n - k) k = n
    · rw [if_pos e, if_pos e]
    · rw [if_neg e, if_neg e]
      have hp : seek M k (n - k) k < n := by omega
      rw [h _ k hp hkn, h k k hkn hkn]
      by_cases e2 : k < seek M k (n - k) k
      · rw [if_pos e2, if_pos e2]
        exact detP_congr r (k + 1) _ _ (by omega) fun i j hi hj => elim_congr (fun i j hi hj => swap_congr h hkn hp i j hi hj) hkn last i j hi hj
      · rw [if_neg e2, if_neg e2]
        exact detP_congr r (k + 1) _ _ (by omega) fun i j hi hj => elim_congr h hkn last i j hi hj

/-- Behind step k every entry is below b, where every entry was below c, b = 2 c^2. -/
theorem elim_bound {M : Nat → Nat → Int} {n k c : Nat} {last : Int} (h : ∀ i j, i < n → j < n → (M i j).natAbs ≤ c) (hc : 1 ≤ c) (hk : k < n) (i j : Nat) (hi : i < n) (hj : j < n) : (elim M n k last i j).natAbs ≤ 2 * (c * c) := by
  have h0 : c ≤ c * c := Nat.le_mul_of_pos_left c hc
  unfold elim
  split
  · refine Nat.le_trans (Int.natAbs_ediv_le_natAbs _ _) ?_
    have h1 := Nat.mul_le_mul (h k k hk hk) (h i j hi hj)
    have h2 := Nat.mul_le_mul (h i k hi hk) (h k j hk hj)
    rw [← Int.natAbs_mul] at h1 h2
    omega
  · have := h i j hi hj
    omega
end Go.Proofs.YtfpcfcegdjlggaaGreat.Minor
namespace Go.Proofs.YtfpcfcegdjlggaaGreat
open Go.RowKit

/-- Limbs in a block of their own, or none. -/
structure Lm (w : World) (a : Option Addr) (c : Nat) (zs : List Nat) : Prop where
  fits : zs.length ≤ c
  own : (a = none ∧ zs = []) ∨ ∃ g, a = some ⟨g, 0, none⟩ ∧ Own w g zs

theorem Lm.rd {w : World} {a : Option Addr} {c : Nat} {zs : List Nat} (h : Lm w a c zs) : Rd w a c zs := by
  rcases h.own with ⟨rfl, rfl⟩ | ⟨g, rfl, ho⟩
  · exact Rd.nil _ _ _
  · exact ho.rd h.fits

theorem Lm.nil (w : World) (c : Nat) : Lm w none c [] := ⟨by simp, .inl ⟨rfl, rfl⟩⟩

theorem Lm.of_new {w w' : World} {a : Option Addr} {c : Nat} {zs : List Nat} (h : New w zs a c w') : Lm w' a c zs := by
  refine ⟨h.fits, ?_⟩
  rcases h.own with h0 | ⟨g, rfl, _, ho⟩
  · exact .inl h0
  · exact .inr ⟨g, rfl, ho⟩

theorem Lm.below {w w' : World} {a : Option Addr} {c : Nat} {zs : List Nat} (h : Lm w a c zs) (hb : Below w.heap.size w w') : Lm w' a c zs := by
  refine ⟨h.fits, ?_⟩
  rcases h.own with h0 | ⟨g, rfl, ho⟩
  · exact .inl h0
  · exact .inr ⟨g, rfl, ho.below hb ho.lt⟩

theorem Lm.alloc {w : World} {a : Option Addr} {c : Nat} {zs : List Nat} (h : Lm w a c zs) (o : Obj) : Lm (w.alloc o) a c zs := h.below ((Below.refl _ _).alloc (Nat.le_refl _) o)

/-- They stay as they are where a cell is written that holds no limb. -/
theorem Lm.setO {w : World} {a : Option Addr} {cap : Nat} {xs : List Nat} (h : Lm w a cap xs) {p : Addr} (hpn : p.spot = none) {u : Value} (hp : w.cell? p = some u) (hu : ∀ x, u ≠ .int .u32 x) (v : Value) : Lm (w.setCell p v) a cap xs := by
  refine ⟨h.fits, ?_⟩
  rcases h.own with h0 | ⟨g, rfl, ho⟩
  · exact .inl h0
  · refine .inr ⟨g, rfl, ?_⟩
    by_cases e : g = p.block
    · obtain ⟨cur, hg, ht⟩ := ho.row
      obtain ⟨b, o, pa⟩ := p
      simp only at hpn e
      subst hpn e
      by_cases hlt : o < xs.length
      · have := ho.cell o hlt
        rw [hp] at this
        simp only [Option.some.injEq] at this
        exact absurd this (hu _)
      · refine ⟨ho.lim, cur.setIfInBounds o v, heap_setCell_same w g o cur _ v hg, ?_⟩
        rw [Array.toList_setIfInBounds, List.take_set, List.set_eq_of_length_le (by simp; omega), ht]
    · exact ho.of_heap (Below.heap_setCell w p v g e)

/-- Row b of m canonical Ints: two cells each, the limbs elsewhere. -/
structure RowZ (w : World) (b m : Nat) (f : Nat → Int) : Prop where
  c : ∀ j, j < m → ∃ a c, w.cell? ⟨b, j * 2, none⟩ = some (.bool (sg (f j))) ∧ w.cell? ⟨b, j * 2 + 1, none⟩ = some (.slice a (mg (f j)).length c) ∧ Lm w a c (mg (f j))
  fr : ∀ k, w.frozen? ⟨b, k, none⟩ = false
  lt : b < w.heap.size

theorem RowZ.belowU {w w' : World} {b m : Nat} {f : Nat → Int} (h : RowZ w b m f) (hb : Below w.heap.size w w') : RowZ w' b m f := by
  refine ⟨fun j hj => ?_, fun k => (hb.frozen (p := ⟨b, k, none⟩) h.lt).trans (h.fr k), Nat.lt_of_lt_of_le h.lt hb.size⟩
  obtain ⟨a, c, h1, h2, h3⟩ := h.c j hj
  exact ⟨a, c, (hb.cell (p := ⟨b, _, none⟩) h.lt).trans h1, (hb.cell (p := ⟨b, _, none⟩) h.lt).trans h2, h3.below hb⟩

theorem RowZ.congr {w : World} {b m : Nat} {f f' : Nat → Int} (h : RowZ w b m f) (he : ∀ j, j < m → f j = f' j) : RowZ w b m f' :=
  ⟨fun j hj => by rw [← he j hj]; exact h.c j hj, h.fr, h.lt⟩

theorem RowZ.less {w : World} {b m m' : Nat} {f : Nat → Int} (h : RowZ w b m f) (hm : m' ≤ m) : RowZ w b m' f := ⟨fun j hj => h.c j (by omega), h.fr, h.lt⟩

/-- A store of two cells of a row elsewhere, whose cells hold what a row holds. -/
theorem RowZ.other {w : World} {b m : Nat} {f : Nat → Int} (h : RowZ w b m f) {g o : Nat} {u0 u1 : Value} (hg : g ≠ b) (h0 : w.cell? ⟨g, o, none⟩ = some u0) (h1 : w.cell? ⟨g, o + 1, none⟩ = some u1) (n0 : ∀ x, u0 ≠ .int .u32 x) (n1 : ∀ x, u1 ≠ .int .u32 x) (v0 v1 : Value) :
    RowZ ((w.setCell ⟨g, o, none⟩ v0).setCell ⟨g, o + 1, none⟩ v1) b m f := by
  have e1 : (w.setCell ⟨g, o, none⟩ v0).cell? ⟨g, o + 1, none⟩ = some u1 := by rw [World.cell?_setCell_other _ _ _ _ (by simp)]; exact h1
  refine ⟨fun j hj => ?_, fun k => by simp [h.fr k], by simpa [World.setCell] using h.lt⟩
  obtain ⟨a, c, q1, q2, q3⟩ := h.c j hj
  refine ⟨a, c, ?_, ?_, (q3.setO rfl h0 n0 v0).setO rfl e1 n1 v1⟩
  · rw [World.cell?_setCell_other _ _ _ _ (by simp), World.cell?_setCell_other _ _ _ _ (by simp)]; exact q1
  · rw [World.cell?_setCell_other _ _ _ _ (by simp), World.cell?_setCell_other _ _ _ _ (by simp)]; exact q2

/-- A store of an entry. -/
theorem RowZ.store {w : World} {b m : Nat} {f : Nat → Int} (h : RowZ w b m f) (k : Nat) (hk : k < m) (z : Int) {a : Option Addr} {c : Nat} (hr : Lm w a c (mg z)) :
    RowZ ((w.setCell ⟨b, k * 2, none⟩ (.bool (sg z))).setCell ⟨b, k * 2 + 1, none⟩ (.slice a (mg z).length c)) b m (fun j => if j = k then z else f j) := by
  obtain ⟨a0, c0, p1, p2, p3⟩ := h.c k hk
  have e1 : (w.setCell ⟨b, k * 2, none⟩ (.bool (sg z))).cell? ⟨b, k * 2 + 1, none⟩ = some (.slice a0 (mg (f k)).length c0) := by rw [World.cell?_setCell_other _ _ _ _ (by simp)]; exact p2
  have hR : ∀ {a : Option Addr} {c : Nat} {xs : List Nat}, Lm w a c xs → Lm ((w.setCell ⟨b, k * 2, none⟩ (.bool (sg z))).setCell ⟨b, k * 2 + 1, none⟩ (.slice a (mg z).length c)) a c xs := fun q => (q.setO rfl p1 (by simp) _).setO rfl e1 (by simp) _
  have hR2 : ∀ {a' : Option Addr} {c' : Nat} {xs : List Nat}, Lm w a' c' xs → Lm ((w.setCell ⟨b, k * 2, none⟩ (.bool (sg z))).setCell ⟨b, k * 2 + 1, none⟩ (.slice a (mg z).length c)) a' c' xs := fun q => (q.setO rfl p1 (by simp) _).setO rfl e1 (by simp) _
  refine ⟨fun j hj => ?_, fun k => by simp [h.fr k], by simpa [World.setCell] using h.lt⟩
  by_cases e : j = k
  · subst e
    refine ⟨a, c, ?_, ?_, ?_⟩
    · rw [if_pos rfl, World.cell?_setCell_other _ _ _ _ (by simp)]
      exact World.cell?_setCell_same _ _ _ p1
    · rw [if_pos rfl]
      exact World.cell?_setCell_same _ _ _ e1
    · rw [if_pos rfl]; exact hR2 hr
  · obtain ⟨a', c', q1, q2, q3⟩ := h.c j hj
    rw [if_neg e]
    refine ⟨a', c', ?_, ?_, hR2 q3⟩
    · rw [World.cell?_setCell_other _ _ _ _ (by intro h; injection h with _ h _; omega), World.cell?_setCell_other _ _ _ _ (by intro h; injection h with _ h _; omega)]; exact q1
    · rw [World.cell?_setCell_other _ _ _ _ (by intro h; injection h with _ h _; omega), World.cell?_setCell_other _ _ _ _ (by intro h; injection h with _ h _; omega)]; exact q2

/-- The n rows of block g, row i in block R i: the matrix M of n rows and m columns. -/
structure MatZ (w : World) (g n m : Nat) (R : Nat → Nat) (M : Nat → Nat → Int) : Prop where
  outer : ∀ i, i < n → ∃ c, w.cell? ⟨g, i, none⟩ = some (.slice (some ⟨R i, 0, none⟩) m c)
  ofr : ∀ k, w.frozen? ⟨g, k, none⟩ = false
  row : ∀ i, i < n → RowZ w (R i) m (M i)
  inj : ∀ i i', i < n → i' < n → R i = R i' → i = i'
  apart : ∀ i, i < n → R i ≠ g
  lt : g < w.heap.size

theorem MatZ.below {w w' : World} {g n m : Nat} {R : Nat → Nat} {M : Nat → Nat → Int} (h : MatZ w g n m R M) (hb : Below w.heap.size w w') : MatZ w' g n m R M := by
  refine ⟨fun i hi => ?_, fun k => (hb.frozen (p := ⟨g, k, none⟩) h.lt).trans (h.ofr k), fun i hi => (h.row i hi).belowU hb, h.inj, h.apart, Nat.lt_of_lt_of_le h.lt hb.size⟩
  obtain ⟨c, hc⟩ := h.outer i hi
  exact ⟨c, (hb.cell (p := ⟨g, _, none⟩) h.lt).trans hc⟩

theorem MatZ.congr {w : World} {g n m : Nat} {R : Nat → Nat} {M M' : Nat → Nat → Int} (h : MatZ w g n m R M) (he : ∀ i j, i < n → j < m → M i j = M' i j) : MatZ w g n m R M' :=
  ⟨h.outer, h.ofr, fun i hi => (h.row i hi).congr fun j hj => he i j hi hj, h.inj, h.apart, h.lt⟩

theorem MatZ.less {w : World} {g n n' m : Nat} {R : Nat → Nat} {M : Nat → Nat → Int} (h : MatZ w g n m R M) (hn : n' ≤ n) : MatZ w g n' m R M :=
  ⟨fun i hi => h.outer i (by omega), h.ofr, fun i hi => h.row i (by omega), fun i i' hi hi' => h.inj i i' (by omega) (by omega), fun i hi => h.apart i (by omega), h.lt⟩

/-- One entry. -/
theorem MatZ.entry {w : World} {g n m : Nat} {R : Nat → Nat} {M : Nat → Nat → Int} (h : MatZ w g n m R M) (i j : Nat) (hi : i < n) (hj : j < m) :
    ∃ c a d, w.cell? ⟨g, i, none⟩ = some (.slice (some ⟨R i, 0, none⟩) m c) ∧ w.cell? ⟨R i, j * 2, none⟩ = some (.bool (sg (M i j))) ∧ w.cell? ⟨R i, j * 2 + 1, none⟩ = some (.slice a (mg (M i j)).length d) ∧ Lm w a d (mg (M i j)) := by
  obtain ⟨c, hc⟩ := h.outer i hi
  obtain ⟨a, d, h1, h2, h3⟩ := (h.row i hi).c j hj
  exact ⟨c, a, d, hc, h1, h2, h3⟩

theorem MatZ.store {w : World} {g n m : Nat} {R : Nat → Nat} {M : Nat → Nat → Int} (h : MatZ w g n m R M) (i j : Nat) (hi : i < n) (hj : j < m) (z : Int) {a : Option Addr} {c : Nat} (hr : Lm w a c (mg z)) :
    MatZ ((w.setCell ⟨R i, j * 2, none⟩ (.bool (sg z))).setCell ⟨R i, j * 2 + 1, none⟩ (.slice a (mg z).length c)) g n m R (fun p q => if p = i ∧ q = j then z else M p q) := by
  obtain ⟨a0, c0, p1, p2, p3⟩ := (h.row i hi).c j hj
  refine ⟨fun p hp => ?_, fun k => by simp [h.ofr k], fun p hp => ?_, h.inj, h.apart, by simpa [World.setCell] using h.lt⟩
  · obtain ⟨c', hc'⟩ := h.outer p hp
    refine ⟨c', ?_⟩
    rw [World.cell?_setCell_other _ _ _ _ (by simp [h.apart i hi]), World.cell?_setCell_other _ _ _ _ (by simp [h.apart i hi])]; exact hc'
  · by_cases e : p = i
    · subst e
      exact ((h.row p hp).store j hj z hr).congr fun q hq => by by_cases e2 : q = j <;> simp [e2]
    · refine ((h.row p hp).other (fun e2 => e (h.inj _ _ hi hp e2).symm) p1 p2 (by simp) (by simp) _ _).congr fun q hq => by simp [e]

/-- Two rows exchanged. -/
def swapR (R : Nat → Nat) (p k : Nat) (i : Nat) : Nat := if i = p then R k else if i = k then R p else R i

def swapI (p k i : Nat) : Nat := if i = p then k else if i = k then p else i
theorem swapR_eq (R : Nat → Nat) (p k i : Nat) : swapR R p k i = R (swapI p k i) := by
  unfold swapR swapI
  split
  · rfl
  · split <;> rfl
theorem swapI_lt {p k i n : Nat} (hp : p < n) (hk : k < n) (hi : i < n) : swapI p k i < n := by
  unfold swapI
  split
  · exact hk
  · split
    · exact hp
    · exact hi
theorem swapI_inj {p k : Nat} (i i' : Nat) (h : swapI p k i = swapI p k i') : i = i' := by
  unfold swapI at h
  split at h <;> split at h <;> (try split at h) <;> (try split at h) <;> omega

theorem MatZ.swap {w : World} {g n m : Nat} {R : Nat → Nat} {M : Nat → Nat → Int} (h : MatZ w g n m R M) (p k : Nat) (hp : p < n) (hk : k < n) (hne : p ≠ k) {c c' : Nat} :
    MatZ ((w.setCell ⟨g, p, none⟩ (.slice (some ⟨R k, 0, none⟩) m c)).setCell ⟨g, k, none⟩ (.slice (some ⟨R p, 0, none⟩) m c')) g n m (swapR R p k) (Minor.swapRows M p k) := by
  obtain ⟨cp, hcp⟩ := h.outer p hp
  obtain ⟨ck, hck⟩ := h.outer k hk
  have e1 : (w.setCell ⟨g, p, none⟩ (.slice (some ⟨R k, 0, none⟩) m c)).cell? ⟨g, k, none⟩ = some (.slice (some ⟨R k, 0, none⟩) m ck) := by
    rw [World.cell?_setCell_other _ _ _ _ (by simp)]; exact hck
  have hrow : ∀ i, i < n → RowZ ((w.setCell ⟨g, p, none⟩ (.slice (some ⟨R k, 0, none⟩) m c)).setCell ⟨g, k, none⟩ (.slice (some ⟨R p, 0, none⟩) m c')) (R i) m (M i) := fun i hi => by
    have hr := h.row i hi
    have hne2 := (h.apart i hi).symm
    refine ⟨fun j hj => ?_, fun x => by simp [hr.fr x], by simpa [World.setCell] using hr.lt⟩
    obtain ⟨a, d, q1, q2, q3⟩ := hr.c j hj
    refine ⟨a, d, ?_, ?_, (q3.setO rfl hcp (by simp) _).setO rfl e1 (by simp) _⟩
    · rw [World.cell?_setCell_other _ _ _ _ (by simp), World.cell?_setCell_other _ _ _ _ (by simp)]; exact q1
    · rw [World.cell?_setCell_other _ _ _ _ (by simp), World.cell?_setCell_other _ _ _ _ (by simp)]; exact q2
  refine ⟨fun i hi => ?_, fun x => by simp [h.ofr x], fun i hi => ?_, fun i i' hi hi' => ?_, fun i hi => ?_, by simpa [World.setCell] using h.lt⟩
  · unfold swapR
    by_cases e : i = p
    · subst e
      rw [if_pos rfl]
      refine ⟨c, ?_⟩
      rw [World.cell?_setCell_other _ _ _ _ (by simp)]
      exact World.cell?_setCell_same _ _ _ hcp
    · rw [if_neg e]
      by_cases e2 : i = k
      · subst e2
        rw [if_pos rfl]
        exact ⟨c', World.cell?_setCell_same _ _ _ e1⟩
      · rw [if_neg e2]
        obtain ⟨ci, hci⟩ := h.outer i hi
        refine ⟨ci, ?_⟩
        rw [World.cell?_setCell_other _ _ _ _ (by intro h; injection h with _ h _; omega), World.cell?_setCell_other _ _ _ _ (by intro h; injection h with _ h _; omega)]; exact hci
  · unfold swapR Minor.swapRows
    by_cases e : i = p
    · rw [if_pos e, if_pos e]; exact hrow k hk
    · rw [if_neg e, if_neg e]
      by_cases e2 : i = k
      · rw [if_pos e2, if_pos e2]; exact hrow p hp
      · rw [if_neg e2, if_neg e2]; exact hrow i hi
  · intro e
    rw [swapR_eq, swapR_eq] at e
    exact swapI_inj _ _ (h.inj _ _ (swapI_lt hp hk hi) (swapI_lt hp hk hi') e)
  · unfold swapR
    split
    · exact h.apart k hk
    · split
      · exact h.apart p hp
      · exact h.apart i hi
end Go.Proofs.YtfpcfcegdjlggaaGreat
namespace Go.Proofs.YtfpcfcegdjlggaaGreat
open Go.RowKit

attribute [local go_sem ↓] Go.wp_at_zero Go.wp_at_succ

set_option maxRecDepth 100000 in
set_option maxHeartbeats 8000000 in
theorem rquo_any (na nb : Bool) (a b : Option Addr) (n m cap cap' : Nat) (xs ys : List Nat) (w : World) (rdx : Rd w a cap xs) (rdy : Rd w b cap' ys) (hl : xs.length = n) (hl' : ys.length = m) (hn : n ≤ 1000000) (hm : m ≤ 1000000) (h0 : den nb ys ≠ 0) :
    Calls Tryz.prog 117 #[.agg #[.bool na, .slice a n cap], .agg #[.bool nb, .slice b m cap']] w (GivesInt w (den na xs / den nb ys)) := by
  have hlx := rdx.lim
  have hly := rdy.lim
  obtain ⟨V, hV⟩ : ∃ V, V = (w.alloc (.cells #[.bool na, .slice a n cap] 51)).alloc (.cells #[.bool nb, .slice b m cap'] 51) := ⟨_, rfl⟩
  obtain ⟨W, hW⟩ : ∃ W, W = V.alloc (.cells #[.bool false, .slice none 0 0] 51) := ⟨_, rfl⟩
  have hb0 : Below w.heap.size w V := by rw [hV]; exact ((Below.refl _ _).alloc (Nat.le_refl _) _).alloc (by simp) _
  have hVs : V.heap.size = w.heap.size + 2 := by rw [hV]; simp
  have hWs : W.heap.size = w.heap.size + 3 := by rw [hW, World.size_alloc, hVs]
  have hx0 : Box w.heap.size (.bool na) (.slice a n cap) V := by rw [hV]; exact (Box.made _ _ rfl _ _ _).alloc _
  have hx1 : Box (w.heap.size + 1) (.bool nb) (.slice b m cap') V := by rw [hV]; exact Box.made _ _ (by simp) _ _ _
  have hxa : Box w.heap.size (.bool na) (.slice a n cap) W := by rw [hW]; exact hx0.alloc _
  have hxb : Box (w.heap.size + 1) (.bool nb) (.slice b m cap') W := by rw [hW]; exact hx1.alloc _
  have hy : Box (w.heap.size + 2) (.bool false) (.slice none 0 0) W := by rw [hW]; exact Box.made _ _ hVs.symm _ _ _
  have hra : Rd W a cap xs := by rw [hW]; exact (rdx.below hb0).alloc _
  have hrb : Rd W b cap' ys := by rw [hW]; exact (rdy.below hb0).alloc _
  have hWW : ((w.alloc (.cells #[.bool na, .slice a n cap] 51)).alloc (.cells #[.bool nb, .slice b m cap'] 51)).alloc (.cells #[.bool false, .slice none 0 0] 51) = W := by rw [hW, hV]
  have HWW := Lib.hid hWW
  have HW := Lib.hid hW
  have HVS := Lib.hid hVs
  have HWS := Lib.hid hWs
  have HB0 := Lib.hid hb0
  have HXA := Lib.hid hxa
  have HXB := Lib.hid hxb
  have HY := Lib.hid hy
  have HL := Lib.hid hl
  have HL' := Lib.hid hl'
  have HRA := Lib.hid hra
  have HRB := Lib.hid hrb
  clear hWs hV hW hVs hb0 hx0 hx1 hWW hl hl' rdx rdy hy hra hrb hxa hxb
  obtain ⟨R, hR⟩ : ∃ R, R = den na xs / den nb ys := ⟨_, rfl⟩
  rw [← hR]
  have HR := Lib.hid hR
  have H0 := Lib.hid h0
  obtain ⟨p0, p1, p2, p3, p4⟩ := HXA.out
  obtain ⟨q0, q1, q2, q3, q4⟩ := HXB.out
  clear hR h0
  go_enter Tryz.func117, Tryz.ntmps117
  go_wp2_with fail
  rw [HWW.out]
  go_wp2_with fail
  refine (rdivmod_pos na nb a b n m cap cap' xs ys _ HRA.out HRB.out HL.out HL'.out hn hm H0.out).mono ?_
  rintro e w3 ⟨qa, qc, ra, rc, rfl, hNq, hNr⟩
  rw [← HR.out] at hNq
  rw [← HR.out]
  obtain ⟨Q, hQ⟩ : ∃ Q, Q = den na xs % den nb ys := ⟨_, rfl⟩
  rw [← hQ]
  clear hQ
  obtain ⟨y0, y1, y2, y3, y4⟩ := HY.out.below hNq.below
  have y5 : w.heap.size + 2 < w3.heap.size + 1 := by omega
  have y6 : ¬w.heap.size + 2 = w3.heap.size := by omega
  have y7 : ¬w.heap.size + 2 = w3.heap.size + 1 := by omega
  have hN := hNq
  rw [HW.out] at hN
  have hN3 := new_result hN
  rw [HVS.out] at hN3
  have hfin := (New.before HB0.out (hN3 (.bool (sg R)) (.slice qa (mg R).length qc))).after (((Below.refl _ _).alloc (Nat.le_refl _) (Obj.cells #[Value.bool (sg R), Value.slice qa (mg R).length qc] 51)).alloc (by simp) (Obj.cells #[Value.bool (sg Q), Value.slice ra (mg Q).length rc] 51))
  have HF := Lib.hid hfin
  clear hNq hNr hN hN3 hfin p0 p1 p2 p3 p4 q0 q1 q2 q3 q4
  go_wp2_with fail
  refine bodyPost_ret (v := .agg #[.bool (sg R), .slice qa (mg R).length qc]) ?_ rfl ⟨qa, qc, rfl, ?_⟩
  · simp [results, Tryz.results117, go_sem, y0, y1, y4, y5]
  · exact HF.out

end Go.Proofs.YtfpcfcegdjlggaaGreat
namespace Go.Proofs.YtfpcfcegdjlggaaGreat
open Go.RowKit

/-- A canonical Int that can be read. -/
def GivesZ (w : World) (z : Int) (e : Ending) (w' : World) : Prop :=
  ∃ a c, e = .returned (.agg #[.bool (sg z), .slice a (mg z).length c]) ∧ Lm w' a c (mg z) ∧ Below w.heap.size w w'

theorem GivesInt.z {w w' : World} {z : Int} {e : Ending} (h : GivesInt w z e w') : GivesZ w z e w' := by
  obtain ⟨a, c, he, hN⟩ := h
  exact ⟨a, c, he, Lm.of_new hN, hN.below⟩

/-- A matrix in memory of the call's own. -/
def GivesMat (w : World) (n m : Nat) (M : Nat → Nat → Int) (e : Ending) (w' : World) : Prop :=
  ∃ g cap R, e = .returned (.slice (some ⟨g, 0, none⟩) n cap) ∧ MatZ w' g n m R M ∧ w.heap.size ≤ g ∧ (∀ i, i < n → w.heap.size ≤ R i) ∧ Below w.heap.size w w'

theorem cell_keep {w w' : World} {p : Addr} {v : Value} (hb : Below w.heap.size w w') (hc : w.cell? p = some v) : w'.cell? p = some v := by
  rw [hb.cell (World.block_lt_of_cell? w _ hc)]; exact hc

section
variable {x y : Int} {a b : Option Addr} {c d : Nat} {w : World}

theorem mulZ (hx : Lm w a c (mg x)) (hy : Lm w b d (mg y)) (lx : (mg x).length ≤ 1000000) (ly : (mg y).length ≤ 1000000) :
    Calls Tryz.prog 27 #[.agg #[.bool (sg x), .slice a (mg x).length c], .agg #[.bool (sg y), .slice b (mg y).length d]] w (GivesZ w (x * y)) := by
  have h := rmul_any (sg x) (sg y) a b _ _ c d (mg x) (mg y) w hx.rd hy.rd rfl rfl (by omega) (by omega)
  rw [den_mg, den_mg] at h
  exact h.mono fun e w' => GivesInt.z

theorem subZ (hx : Lm w a c (mg x)) (hy : Lm w b d (mg y)) (lx : (mg x).length ≤ 1000000) (ly : (mg y).length ≤ 1000000) :
    Calls Tryz.prog 118 #[.agg #[.bool (sg x), .slice a (mg x).length c], .agg #[.bool (sg y), .slice b (mg y).length d]] w (GivesZ w (x - y)) := by
  have h := rsub_any (sg x) (sg y) a b _ _ c d (mg x) (mg y) w hx.rd hy.rd rfl rfl (by omega) (by omega)
  rw [den_mg, den_mg] at h
  exact h.mono fun e w' => GivesInt.z

theorem addZ (hx : Lm w a c (mg x)) (hy : Lm w b d (mg y)) (lx : (mg x).length ≤ 1000000) (ly : (mg y).length ≤ 1000000) :
    Calls Tryz.prog 112 #[.agg #[.bool (sg x), .slice a (mg x).length c], .agg #[.bool (sg y), .slice b (mg y).length d]] w (GivesZ w (x + y)) := by
  have h := radd_any (sg x) (sg y) a b _ _ c d (mg x) (mg y) w hx.rd hy.rd rfl rfl (by omega) (by omega)
  rw [den_mg, den_mg] at h
  exact h.mono fun e w' => GivesInt.z

theorem quoZ (hx : Lm w a c (mg x)) (hy : Lm w b d (mg y)) (lx : (mg x).length ≤ 1000000) (ly : (mg y).length ≤ 1000000) (h0 : y ≠ 0) :
    Calls Tryz.prog 117 #[.agg #[.bool (sg x), .slice a (mg x).length c], .agg #[.bool (sg y), .slice b (mg y).length d]] w (GivesZ w (x / y)) := by
  have h := rquo_any (sg x) (sg y) a b _ _ c d (mg x) (mg y) w hx.rd hy.rd rfl rfl (by omega) (by omega) (by rw [den_mg]; exact h0)
  rw [den_mg, den_mg] at h
  exact h.mono fun e w' => GivesInt.z

theorem negZ (hx : Lm w a c (mg x)) (lx : (mg x).length ≤ 1000000) :
    Calls Tryz.prog 99 #[.agg #[.bool (sg x), .slice a (mg x).length c]] w (GivesZ w (-x)) := by
  have h := rneg_any (sg x) a _ c (mg x) w hx.rd rfl (by omega)
  rw [den_mg] at h
  exact h.mono fun e w' => GivesInt.z

theorem den_abs (x : Int) : den false (mg x) = (x.natAbs : Int) := by unfold den mg; rw [val_limbs]; rfl

theorem absZ (hx : Lm w a c (mg x)) (lx : (mg x).length ≤ 1000000) :
    Calls Tryz.prog 121 #[.agg #[.bool (sg x), .slice a (mg x).length c]] w (GivesZ w (x.natAbs : Int)) := by
  have h := rabs_any (sg x) a _ c (mg x) w hx.rd rfl (by omega)
  rw [den_abs] at h
  exact h.mono fun e w' => GivesInt.z

theorem normalizeZ (hx : Lm w a c (mg x)) (lx : (mg x).length ≤ 1000000) :
    Calls Tryz.prog 95 #[.agg #[.bool (sg x), .slice a (mg x).length c]] w (GivesZ w x) := by
  have h := rnormalize_any (sg x) a _ c (mg x) w hx.rd rfl (by omega)
  rw [den_mg] at h
  exact h.mono fun e w' => GivesInt.z

theorem smallZ (z : Int) (h0 : -9223372036854775808 ≤ z) (h1 : z ≤ 9223372036854775807) :
    Calls Tryz.prog 28 #[.int .i64 z] w (GivesZ w z) := (rsmall_any z w h0 h1).mono fun _e _w' => GivesInt.z

theorem signZ (hx : Lm w a c (mg x)) (lx : (mg x).length ≤ 1000000) :
    Calls Tryz.prog 49 #[.agg #[.bool (sg x), .slice a (mg x).length c]] w fun e w' => e = .returned (.int .i64 (sign3 x)) ∧ Below w.heap.size w w' := by
  have h := rsign_any (sg x) a _ c (mg x) w hx.rd rfl (by omega)
  rw [den_mg] at h
  exact h

theorem cmpZZ (hx : Lm w a c (mg x)) (hy : Lm w b d (mg y)) (lx : (mg x).length ≤ 1000000) (ly : (mg y).length ≤ 1000000) :
    Calls Tryz.prog 26 #[.agg #[.bool (sg x), .slice a (mg x).length c], .agg #[.bool (sg y), .slice b (mg y).length d]] w fun e w' => e = .returned (.int .i64 (cmpZ x y)) ∧ Below w.heap.size w w' := by
  have h := rcmpz_any (sg x) (sg y) a b _ _ c d (mg x) (mg y) w hx.rd hy.rd rfl rfl (by omega) (by omega)
  rw [den_mg, den_mg] at h
  exact h

theorem int64Z (hx : Lm w a c (mg x)) (lx : (mg x).length ≤ 1000000) :
    Calls Tryz.prog 80 #[.agg #[.bool (sg x), .slice a (mg x).length c]] w fun e w' => e = .returned (.tuple #[.int .i64 (to64 x), .bool (in64 x)]) ∧ Below w.heap.size w w' := by
  have h := rint64_any (sg x) a _ c (mg x) w hx.rd rfl (by omega)
  rw [den_mg] at h
  exact h
end

/-- How great the numbers of stage k can be. -/
def cB (k : Nat) : Nat := 2 ^ (2 ^ (k + 10) - 1)

theorem cB_step (k : Nat) : 2 * (cB k * cB k) = cB (k + 1) := by
  unfold cB
  have h1 : 0 < 2 ^ (k + 10) := Nat.two_pow_pos _
  have h2 : 2 ^ (k + 1 + 10) = 2 ^ (k + 10) + 2 ^ (k + 10) := by rw [show k + 1 + 10 = (k + 10) + 1 from by omega, Nat.pow_succ]; omega
  rw [h2, ← Nat.pow_add]
  have h3 : 2 ^ (k + 10) + 2 ^ (k + 10) - 1 = (2 ^ (k + 10) - 1 + (2 ^ (k + 10) - 1)) + 1 := by omega
  rw [h3, Nat.pow_succ]
  omega

theorem cB_ge (k e : Nat) (h : e ≤ 2 ^ (k + 10) - 1) : 2 ^ e ≤ cB k := Nat.pow_le_pow_right (by decide) h
theorem cB_pos (k : Nat) : 1 ≤ cB k := Nat.two_pow_pos _
theorem cB_le (k : Nat) : cB k ≤ cB (k + 1) := by
  rw [← cB_step]
  have h := Nat.le_mul_of_pos_left (cB k) (cB_pos k)
  omega
theorem cB_lt (k : Nat) : cB k < 4294967296 ^ (2 ^ (k + 5)) := by
  have e : (4294967296 : Nat) ^ (2 ^ (k + 5)) = 2 ^ (32 * 2 ^ (k + 5)) := by rw [Nat.pow_mul]
  rw [e]
  unfold cB
  refine Nat.pow_lt_pow_right (by decide) ?_
  have h1 : 0 < 2 ^ (k + 5) := Nat.two_pow_pos _
  have h2 : 2 ^ (k + 10) = 2 ^ (k + 5) * 32 := by rw [show k + 10 = (k + 5) + 5 from by omega, Nat.pow_add]
  omega

theorem cB_short {z : Int} {k : Nat} (hk : k ≤ 14) (h : z.natAbs ≤ cB k) : (mg z).length ≤ 1000000 := by
  have h1 : (mg z).length ≤ 2 ^ (k + 5) := length_limbs_le (Nat.lt_of_le_of_lt h (cB_lt k))
  have h2 : 2 ^ (k + 5) ≤ 2 ^ 19 := Nat.pow_le_pow_right (by decide) (by omega)
  omega
end Go.Proofs.YtfpcfcegdjlggaaGreat
namespace Go.Proofs.YtfpcfcegdjlggaaGreat
open Go.RowKit

section
variable {P : Program} {ops : Array Oper} {Q : Exit → Act → World → Prop} {md : Region.Mode} {S : World → Prop} {t : Nat}

/-- Whatever order is picked from here on; S holds behind every operation ahead of number t. -/
def wpAnyT (P : Program) (md : Region.Mode) (ops : Array Oper) (Q : Exit → Act → World → Prop) (S : World → Prop) (t : Nat) : Nat → Array Bool → Act → World → Prop
  | 0, listed, a, w => Region.ready md ops listed = [] ∧ Q .normal a w
  | fuel + 1, listed, a, w =>
    (Region.ready md ops listed = [] → Q .normal a w) ∧
    ∀ i ∈ Region.ready md ops listed, wpOp P ops Q i (fun a' w' => (i < t → S w') ∧ wpAnyT P md ops Q S t fuel (listed.setIfInBounds i true) a' w') a w

theorem wpAny_of_T : ∀ (fuel : Nat) (listed : Array Bool) (a : Act) (w : World), wpAnyT P md ops Q S t fuel listed a w → wpAny P md ops Q fuel listed a w
  | 0, _, _, _, h => h
  | fuel + 1, _, _, _, h => ⟨h.1, fun i hi => wpOp_mono (fun a' w' h' => wpAny_of_T fuel _ a' w' h'.2) (h.2 i hi)⟩

theorem wpAnyT_first {i : Nat} {oi : Oper} {v : Value} (hi : ops[i]? = some oi) (hsel : ∀ (j : Nat) (o : Oper) cs b, ops[j]? = some o → o.op ≠ .select cs b)
    (hsk : Region.sinkB md ops t = true) (hc : Region.chainB md ops t = true) (ht : t < ops.size) (hit : i < t)
    (hQ : ∀ c a w, Q (.panic c) (a.put oi.dst v) w → Q (.panic c) a w) :
    ∀ (fuel : Nat) (listed : Array Bool) (a : Act) (w : World), HeadInv md ops t listed →
      (∀ j oj, ops[j]? = some oj → j ≠ i → listed.getD j true = false → (∀ e ∈ oj.after, Region.binds md e = true → e.on ≠ i) → oi.apart ops oj = true) →
      i ∈ Region.ready md ops listed → YieldsIf P ops S oi v a → S w →
      wpAnyT P md ops Q S t fuel (listed.setIfInBounds i true) (a.put oi.dst v) w → wpAnyT P md ops Q S t (fuel + 1) listed a w := by
  intro fuel
  induction fuel with
  | zero =>
    intro listed a w _ _ hr hy hS H
    refine ⟨fun h => (by rw [h] at hr; cases hr), fun j hj => ?_⟩
    by_cases hji : j = i
    · subst hji; exact hy.wpOp hi hS ⟨fun _ => hS, H⟩
    · have := ready_mono hj hji
      rw [H.1] at this
      cases this
  | succ fuel ih =>
    intro listed a w inv hfree hr hy hS H
    have hun := (mem_ready.1 hr).1
    refine ⟨fun h => (by rw [h] at hr; cases hr), fun j hj => ?_⟩
    by_cases hji : j = i
    · subst hji; exact hy.wpOp hi hS ⟨fun _ => hS, H⟩
    · have hjt : j < t := by
        rcases Nat.lt_or_ge j t with h | h
        · exact h
        · exact absurd hj (tail_waits hsk hc ht inv _ i rfl hit hun j h)
      have h1 := H.2 j (ready_mono hj hji)
      obtain ⟨hjun, oj, hoj, hall⟩ := mem_ready.1 hj
      have hnot : ∀ e ∈ oj.after, Region.binds md e = true → e.on ≠ i := fun e he hb heq => by
        have h1 := hall e he hb
        rw [heq, getD_both hun] at h1
        cases h1
      have h2 := wpOp_putIf hoj (hfree j oj hoj hji hjun hnot) (fun cs b => hsel i oi cs b hi) (fun cs b => hsel j oj cs b hoj) hQ hy h1
      have hfree' : ∀ k ok, ops[k]? = some ok → k ≠ i → (listed.setIfInBounds j true).getD k true = false →
          (∀ e ∈ ok.after, Region.binds md e = true → e.on ≠ i) → oi.apart ops ok = true := fun k ok hk hki hu hno => by
        refine hfree k ok hk hki ?_ hno
        by_cases hjk : j = k
        · subst hjk; exact hjun
        · rw [Go.getD_set_ne true hjk] at hu; exact hu
      refine wpOp_mono (fun a' w' h3 => ⟨h3.2.1, ih (listed.setIfInBounds j true) a' w' (inv.set hj hjt) hfree' (ready_mono hr (Ne.symm hji)) h3.1 (h3.2.1 hjt) ?_⟩) h2
      rw [Array.setIfInBounds_comm _ _ hji]
      exact h3.2.2

/-- HeadInv, as a Bool. -/
def headB (md : Region.Mode) (ops : Array Oper) (n : Nat) (listed : Array Bool) : Bool :=
  decide (listed.size = ops.size) && ((List.range ops.size).all fun j => match ops[j]? with
    | some oj => !listed.getD j false || oj.after.all fun e => !Region.binds md e || listed.getD e.on false
    | none => true) && (List.range ops.size).all fun k => decide (k < n) || !listed.getD k true

theorem headB_spec {n : Nat} {listed : Array Bool} (h : headB md ops n listed = true) : HeadInv md ops n listed := by
  simp only [headB, Bool.and_eq_true, decide_eq_true_eq] at h
  obtain ⟨⟨h1, h2⟩, h3⟩ := h
  refine ⟨h1, fun j oj hj hl e he hb => ?_, fun k hk hk' => ?_⟩
  · have := List.all_eq_true.1 h2 j (List.mem_range.2 (Array.getElem?_eq_some_iff.1 hj).1)
    rw [hj] at this
    simp only [hl, Bool.not_true, Bool.false_or] at this
    obtain ⟨k, hk, rfl⟩ := Array.getElem_of_mem he
    have h4 := (Array.all_eq_true.1 this) k hk
    simpa [hb] using h4
  · have := List.all_eq_true.1 h3 k (List.mem_range.2 hk')
    simpa [show ¬k < n from by omega] using this
end

section
variable {P : Program} {l : List Oper} {Q : Exit → Act → World → Prop} {S : World → Prop} {t : Nat}

theorem first_T {i : Nat} {oi : Oper} {v : Value} {fuel : Nat} {listed : Array Bool} {a : Act} {w : World} (hi : l[i]? = some oi)
    (hB : (Region.noSelect l.toArray && Region.free .any l.toArray listed i && (Region.ready .any l.toArray listed).contains i && Region.sinkB .any l.toArray t && Region.chainB .any l.toArray t && decide (t < l.toArray.size) && decide (i < t) && headB .any l.toArray t listed) = true)
    (hQ : ∀ c a w, Q (.panic c) (a.put oi.dst v) w → Q (.panic c) a w) (hw : Region.wanted oi (yielded l.toArray a.tmps) = true)
    (hy : ∀ w, S w → (execOp a.eval oi).run P w = .ok (.value v) w) (hS : S w)
    (h : wpAnyT P .any l.toArray Q S t fuel (listed.setIfInBounds i true) (a.put oi.dst v) w) : wpAnyT P .any l.toArray Q S t (fuel + 1) listed a w := by
  have hi' : l.toArray[i]? = some oi := by simpa using hi
  simp only [Bool.and_eq_true, decide_eq_true_eq] at hB
  obtain ⟨⟨⟨⟨⟨⟨⟨h1, h2⟩, h3⟩, h4⟩, h5⟩, h6⟩, h7⟩, h8⟩ := hB
  exact wpAnyT_first hi' (Region.noSelect_spec h1) h4 h5 h6 h7 hQ fuel listed a w (headB_spec h8) (Region.free_spec hi' h2) (by simpa using h3) (Or.inl ⟨hw, hy⟩) hS h

/-- The one that comes next, ahead of number t: S is to be shown anew. -/
theorem next_T {i : Nat} {oi : Oper} {fuel : Nat} {listed : Array Bool} {a : Act} {w : World} (hi : l[i]? = some oi) (hr : Region.ready .any l.toArray listed = [i])
    (h : ∀ K' : Act → World → Prop, Shut (∀ a w, S w → (S w → wpAnyT P .any l.toArray Q S t fuel (listed.setIfInBounds i true) a w) → K' a w) → if Region.wanted oi (yielded l.toArray a.tmps) = true then Oper.wp P oi a w K' Q else K' (a.put oi.dst undef) w) :
    wpAnyT P .any l.toArray Q S t (fuel + 1) listed a w := by
  have hi' : l.toArray[i]? = some oi := by simpa using hi
  refine ⟨fun h0 => (by rw [hr] at h0; cases h0), fun j hj => ?_⟩
  rw [hr] at hj
  obtain rfl : j = i := by simpa using hj
  exact wpOp_step hi' (fun K' hK => h K' (fun a w hS hW => hK a w ⟨fun _ => hS, hW hS⟩))

/-- The last one. -/
theorem last_T {oi : Oper} {fuel : Nat} {listed : Array Bool} {a : Act} {w : World} (hi : l[t]? = some oi) (hr : Region.ready .any l.toArray listed = [t]) (hr2 : Region.ready .any l.toArray (listed.setIfInBounds t true) = [])
    (h : ∀ K' : Act → World → Prop, Shut (∀ a w, Q .normal a w → K' a w) → if Region.wanted oi (yielded l.toArray a.tmps) = true then Oper.wp P oi a w K' Q else K' (a.put oi.dst undef) w) :
    wpAnyT P .any l.toArray Q S t (fuel + 1) listed a w := by
  have hi' : l.toArray[t]? = some oi := by simpa using hi
  refine ⟨fun h0 => (by rw [hr] at h0; cases h0), fun j hj => ?_⟩
  rw [hr] at hj
  obtain rfl : j = t := by simpa using hj
  refine wpOp_step hi' (fun K' hK => h K' (fun a w hq => hK a w ⟨fun h => absurd h (Nat.lt_irrefl _), ?_⟩))
  cases fuel with
  | zero => exact ⟨hr2, hq⟩
  | succ f => exact ⟨fun _ => hq, by rw [hr2]; simp⟩

/-- The beginning. -/
theorem begin_T (t : Nat) (S : World → Prop) {id : Nat} {a : Act} {w : World} (hm : P.follows .mixedOrders = true) (hS : S w.drew)
    (h : S w.drew → wpAnyT P .any l.toArray Q S t l.toArray.size (Array.replicate l.toArray.size false) a w.drew) : (Code.region id l.toArray true).wp P Q a w :=
  wp_region_any hm (wpAny_of_T _ _ _ _ (h hS))
end
end Go.Proofs.YtfpcfcegdjlggaaGreat
namespace Go.Proofs.YtfpcfcegdjlggaaGreat
open Go.RowKit

theorem infoZ : (Tryz.prog.info? 51).map (fun i => (i.zero, i.size, i.bytes)) = some (some (.agg #[.bool false, .slice none 0 0]), 2, 32) := by kernel_rfl
theorem infoRZ : (Tryz.prog.info? 119).map (fun i => (i.zero, i.size, i.bytes)) = some (some (.slice none 0 0), 1, 24) := by kernel_rfl

/-- The cells of the first n Ints. -/
def flatZ (f : Nat → Int) (A : Nat → Option Addr) (C : Nat → Nat) (n : Nat) : List Value := (List.range n).flatMap fun q => [.bool (sg (f q)), .slice (A q) (mg (f q)).length (C q)]

theorem flatZ_succ (f : Nat → Int) (A : Nat → Option Addr) (C : Nat → Nat) (n : Nat) : flatZ f A C (n + 1) = flatZ f A C n ++ [.bool (sg (f n)), .slice (A n) (mg (f n)).length (C n)] := by simp [flatZ, List.range_succ]
theorem length_flatZ (f : Nat → Int) (A : Nat → Option Addr) (C : Nat → Nat) : ∀ n, (flatZ f A C n).length = n * 2
  | 0 => rfl
  | n + 1 => by rw [flatZ_succ, List.length_append, length_flatZ f A C n]; simp; omega
theorem flatZ_get (f : Nat → Int) (A : Nat → Option Addr) (C : Nat → Nat) : ∀ n i, i < n → (flatZ f A C n)[i * 2]? = some (.bool (sg (f i))) ∧ (flatZ f A C n)[i * 2 + 1]? = some (.slice (A i) (mg (f i)).length (C i))
  | 0, i, h => by omega
  | n + 1, i, h => by
    have hl := length_flatZ f A C n
    rw [flatZ_succ]
    by_cases e : i < n
    · obtain ⟨h1, h2⟩ := flatZ_get f A C n i e
      exact ⟨by rw [List.getElem?_append_left (by omega)]; exact h1, by rw [List.getElem?_append_left (by omega)]; exact h2⟩
    · obtain rfl : i = n := by omega
      exact ⟨by rw [List.getElem?_append_right (by omega), hl, Nat.sub_self]; rfl, by rw [List.getElem?_append_right (by omega), hl, show i * 2 + 1 - i * 2 = 1 from by omega]; rfl⟩
theorem flatZ_congr {f f' : Nat → Int} {A A' : Nat → Option Addr} {C C' : Nat → Nat} : ∀ {n : Nat}, (∀ i, i < n → f i = f' i ∧ A i = A' i ∧ C i = C' i) → flatZ f A C n = flatZ f' A' C' n
  | 0, _ => rfl
  | n + 1, h => by
    obtain ⟨h1, h2, h3⟩ := h n (by omega)
    rw [flatZ_succ, flatZ_succ, flatZ_congr (fun i hi => h i (by omega)), h1, h2, h3]

theorem ownsRow_of_heap {w w' : World} {B n s : Nat} {t : TypeId} {v : Value} {xs : List Value} (h : w.ownsRow B t s v n xs) (he : ∀ g, v.ownBlock = some g → w'.heap[g]? = w.heap[g]?) : w'.ownsRow B t s v n xs := by
  refine ⟨h.1, ?_⟩
  rcases h.2 with h0 | ⟨g, cap, cur, hv, hb, hg, hr⟩
  · exact .inl h0
  · exact .inr ⟨g, cap, cur, hv, hb, by rw [he g (by rw [hv]; rfl)]; exact hg, hr⟩

theorem ownsRow_below {w w' : World} {B n s : Nat} {t : TypeId} {v : Value} {xs : List Value} (h : w.ownsRow B t s v n xs) (hb : Below w.heap.size w w') : w'.ownsRow B t s v n xs :=
  ownsRow_of_heap h fun g hg => hb.block g (h.lt g hg).2

theorem ownsRow_type {w : World} {B n s : Nat} {t : TypeId} {v : Value} {xs : List Value} (h : w.ownsRow B t s v n xs) (g : Nat) (hv : v.ownBlock = some g) : B ≤ g ∧ ∃ cur, w.heap[g]? = some (.cells cur t (0, 0)) := by
  rcases h.2 with ⟨h0, _⟩ | ⟨g', cap, cur, hv', hb, hg, _⟩
  · rw [h0] at hv; cases hv
  · rw [hv'] at hv
    simp only [Value.ownBlock, Option.some.injEq] at hv
    subst hv
    exact ⟨hb, cur, hg⟩

/-- Blocks of limbs are no blocks of another type. -/
theorem Own.ne_type {w : World} {g : Nat} {zs : List Nat} (h : Own w g zs) {k : Nat} {cur : Array Value} {t : TypeId} (hk : w.heap[k]? = some (.cells cur t (0, 0))) (ht : t ≠ 87) : g ≠ k := by
  rintro rfl
  obtain ⟨cur', hg, _⟩ := h.row
  rw [hk] at hg
  simp only [Option.some.injEq, Obj.cells.injEq] at hg
  exact ht hg.2.1

theorem Lm.grown {w w' : World} {a : Option Addr} {c : Nat} {zs : List Nat} (h : Lm w a c zs) {row : Option Nat} (hg : w.grownBy w' row) (hr : ∀ k, row = some k → ∃ cur t, w.heap[k]? = some (.cells cur t (0, 0)) ∧ t ≠ 87) : Lm w' a c zs := by
  refine ⟨h.fits, ?_⟩
  rcases h.own with h0 | ⟨g, rfl, ho⟩
  · exact .inl h0
  · refine .inr ⟨g, rfl, ho.kept hg fun e => ?_⟩
    obtain ⟨cur, t, hk, ht⟩ := hr g e
    exact ho.ne_type hk ht rfl

/-- A row of Ints that is being built: v holds the first n of f. -/
def RowB (w : World) (B : Nat) (v : Value) (n : Nat) (f : Nat → Int) : Prop :=
  ∃ (A : Nat → Option Addr) (C : Nat → Nat), w.ownsRow B 51 2 v n (flatZ f A C n) ∧ ∀ q, q < n → Lm w (A q) (C q) (mg (f q))

theorem RowB.nil (w : World) (B : Nat) (f : Nat → Int) : RowB w B (.slice none 0 0) 0 f := ⟨fun _ => none, fun _ => 0, World.ownsRow_nil _ _ _ _, fun q hq => by omega⟩
theorem RowB.moved {w w' : World} {B n : Nat} {v : Value} {f : Nat → Int} (h : RowB w B v n f) (hb : Below w.heap.size w w') : RowB w' B v n f := by
  obtain ⟨A, C, h1, h2⟩ := h
  exact ⟨A, C, ownsRow_below h1 hb, fun q hq => (h2 q hq).below hb⟩
theorem RowB.congr {w : World} {B n : Nat} {v : Value} {f f' : Nat → Int} (h : RowB w B v n f) (he : ∀ q, q < n → f q = f' q) : RowB w B v n f' := by
  obtain ⟨A, C, h1, h2⟩ := h
  refine ⟨A, C, ?_, fun q hq => by rw [← he q hq]; exact h2 q hq⟩
  rw [← flatZ_congr fun i hi => ⟨he i hi, rfl, rfl⟩]; exact h1

theorem RowB.setO {w : World} {B n : Nat} {v : Value} {f : Nat → Int} (h : RowB w B v n f) {G o : Nat} (hG : ∀ g, v.ownBlock = some g → g ≠ G) {u : Value} (hu : w.cell? ⟨G, o, none⟩ = some u) (hn : ∀ x, u ≠ .int .u32 x) (x : Value) : RowB (w.setCell ⟨G, o, none⟩ x) B v n f := by
  obtain ⟨A, C, h1, h2⟩ := h
  exact ⟨A, C, ownsRow_of_heap h1 fun g hg => Below.heap_setCell w ⟨G, o, none⟩ x g (hG g hg), fun q hq => (h2 q hq).setO rfl hu hn x⟩

theorem RowB.type {w : World} {B n : Nat} {v : Value} {f : Nat → Int} (h : RowB w B v n f) (g : Nat) (hv : v.ownBlock = some g) : B ≤ g ∧ ∃ cur, w.heap[g]? = some (.cells cur 51 (0, 0)) := by
  obtain ⟨A, C, h1, _⟩ := h
  exact ownsRow_type h1 g hv

/-- One more Int behind. -/
theorem RowB.next {w w1 : World} {B n : Nat} {v v' : Value} {f : Nat → Int} {A : Nat → Option Addr} {C : Nat → Nat} (h : w.ownsRow B 51 2 v n (flatZ f A C n)) (hA : ∀ q, q < n → Lm w (A q) (C q) (mg (f q)))
    {a : Option Addr} {c : Nat} (hL : Lm w a c (mg (f n))) (hown : w1.ownsRow B 51 2 v' (n + 1) (flatZ f A C n ++ [.bool (sg (f n)), .slice a (mg (f n)).length c])) (hg : w.grownBy w1 v.ownBlock) : RowB w1 B v' (n + 1) f := by
  have hr : ∀ k, v.ownBlock = some k → ∃ cur t, w.heap[k]? = some (.cells cur t (0, 0)) ∧ t ≠ 87 := fun k hk => by
    obtain ⟨_, cur, hc⟩ := ownsRow_type h k hk
    exact ⟨cur, _, hc, by decide⟩
  refine ⟨fun q => if q = n then a else A q, fun q => if q = n then c else C q, ?_, fun q hq => ?_⟩
  · rw [flatZ_succ, if_pos rfl, if_pos rfl, flatZ_congr (f' := f) (A' := A) (C' := C) fun i hi => ⟨rfl, if_neg (by omega), if_neg (by omega)⟩]
    exact hown
  · show Lm w1 (if q = n then a else A q) (if q = n then c else C q) _
    by_cases e : q = n
    · rw [if_pos e, if_pos e, e]; exact hL.grown hg hr
    · rw [if_neg e, if_neg e]; exact (hA q (by omega)).grown hg hr

/-- A row that is done. -/
theorem RowB.done {w : World} {B n : Nat} {v : Value} {f : Nat → Int} (h : RowB w B v n f) (hn : 0 < n) : ∃ g cap, v = .slice (some ⟨g, 0, none⟩) n cap ∧ B ≤ g ∧ RowZ w g n f ∧ ∃ cur, w.heap[g]? = some (.cells cur 51 (0, 0)) := by
  obtain ⟨A, C, h1, h2⟩ := h
  rcases h1.2 with ⟨_, h0⟩ | ⟨g, cap, cur, hv, hb, hg, hnc, hcm, _, ht⟩
  · omega
  · have key : ∀ i, i < n * 2 → cur[i]? = (flatZ f A C n)[i]? := fun i hi => by
      rw [← ht, List.getElem?_take, if_pos hi]; simp
    refine ⟨g, cap, hv, hb, ⟨fun j hj => ⟨A j, C j, ?_, ?_, h2 j hj⟩, fun k => frozen_of_row _ _ _ _ _ hg, (Array.getElem?_eq_some_iff.1 hg).1⟩, cur, hg⟩
    · rw [cell_of_row _ _ _ _ _ (0, 0) hg, key _ (by omega), (flatZ_get f A C n j hj).1]
    · rw [cell_of_row _ _ _ _ _ (0, 0) hg, key _ (by omega), (flatZ_get f A C n j hj).2]
end Go.Proofs.YtfpcfcegdjlggaaGreat
