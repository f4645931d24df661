/-
  Joined texts: DU DV DY EA UA UB.
-/
import Derived.Test.YtpnnbjifhoonkaaGreatJ11
import Derived.Test.YtpnnbjifhoonkaaGreatJ09
import Derived.Test.YtpnnbjifhoonkaaGreatJ08
import Derived.Deep.OwnRows
import Derived.Deep.CutRange
import Derived.Deep.RegionHeld3
import Derived.Deep.LoopGhost
namespace Go.Proofs.YtpnnbjifhoonkaaGreat.Bound

theorem sq_le {a b c : Nat} (h : a ^ 2 ≤ c ^ 2 * b ^ 2) : a ≤ c * b := by
  rw [← Nat.mul_pow] at h
  exact (Nat.pow_le_pow_iff_left (by omega)).1 h

section
variable {d : Nat → Nat} {n : Nat} (h0 : d 0 = 1) (hp : ∀ k, k ≤ n → 1 ≤ d k) (hl : ∀ k, k + 2 ≤ n → d (k + 1) ^ 2 ≤ 2 * d k * d (k + 2))
include h0 hp hl

theorem near : ∀ k, k + 1 ≤ n → d k ^ (2 * (k + 1)) ≤ 2 ^ (k * (k + 1)) * d (k + 1) ^ (2 * k)
  | 0, _ => by simp [h0]
  | k + 1, h => by
    have ih := near k (by omega)
    have h1 := Nat.pow_le_pow_left (hl k h) (2 * (k + 1))
    have h2 : d (k + 1) ^ (2 * (k + 1 + 1)) * d (k + 1) ^ (2 * k) ≤ 2 ^ ((k + 1) * (k + 1 + 1)) * d (k + 1 + 1) ^ (2 * (k + 1)) * d (k + 1) ^ (2 * k) := by
      have e1 : d (k + 1) ^ (2 * (k + 1 + 1)) * d (k + 1) ^ (2 * k) = (d (k + 1) ^ 2) ^ (2 * (k + 1)) := by
        rw [← Nat.pow_add, ← Nat.pow_mul]; congr 1; omega
      have e2 : (2 * d k * d (k + 2)) ^ (2 * (k + 1)) = 2 ^ (2 * (k + 1)) * d (k + 2) ^ (2 * (k + 1)) * d k ^ (2 * (k + 1)) := by
        rw [Nat.mul_pow, Nat.mul_pow, Nat.mul_right_comm]
      have e3 : 2 ^ (2 * (k + 1)) * d (k + 2) ^ (2 * (k + 1)) * (2 ^ (k * (k + 1)) * d (k + 1) ^ (2 * k)) = 2 ^ ((k + 1) * (k + 1 + 1)) * d (k + 1 + 1) ^ (2 * (k + 1)) * d (k + 1) ^ (2 * k) := by
        have e : (k + 1) * (k + 1 + 1) = 2 * (k + 1) + k * (k + 1) := by
          rw [Nat.mul_comm (k + 1), ← Nat.add_mul]; congr 1; omega
        rw [e, Nat.pow_add]
        rw [show k + 2 = k + 1 + 1 from rfl]
        generalize 2 ^ (2 * (k + 1)) = A
        generalize 2 ^ (k * (k + 1)) = B
        generalize d (k + 1) ^ (2 * k) = C
        generalize d (k + 1 + 1) ^ (2 * (k + 1)) = E
        grind
      rw [e1, ← e3]
      refine Nat.le_trans h1 ?_
      rw [e2]
      exact Nat.mul_le_mul_left _ ih
    exact Nat.le_of_mul_le_mul_right h2 (Nat.pow_pos (by have := hp (k + 1) (by omega); omega))

theorem far (k : Nat) : ∀ m, k ≤ m → m ≤ n → d k ^ (2 * m) ≤ 2 ^ (k * (m - k) * m) * d m ^ (2 * k) := by
  intro m hkm hm
  induction m with
  | zero =>
    obtain rfl : k = 0 := by omega
    simp
  | succ m ih =>
    by_cases e : k = m + 1
    · subst e; simp
    · have hkm' : k ≤ m := by omega
      have h1 := Nat.pow_le_pow_left (ih hkm' (by omega)) (m + 1)
      have h2 := Nat.pow_le_pow_left (near h0 hp hl m hm) k
      by_cases hm0 : m = 0
      · subst hm0
        obtain rfl : k = 0 := by omega
        simp [h0]
      have h3 : (d k ^ (2 * (m + 1))) ^ m ≤ (2 ^ (k * (m + 1 - k) * (m + 1)) * d (m + 1) ^ (2 * k)) ^ m := by
        have a1 : (d k ^ (2 * (m + 1))) ^ m = (d k ^ (2 * m)) ^ (m + 1) := by
          rw [← Nat.pow_mul, ← Nat.pow_mul]; congr 1; simp only [Nat.mul_comm, Nat.mul_left_comm]
        have a2 : (2 ^ (k * (m - k) * m) * d m ^ (2 * k)) ^ (m + 1) = 2 ^ (k * (m - k) * m * (m + 1)) * (d m ^ (2 * (m + 1))) ^ k := by
          rw [Nat.mul_pow, ← Nat.pow_mul, ← Nat.pow_mul, ← Nat.pow_mul]
          congr 2
          simp only [Nat.mul_comm, Nat.mul_left_comm]
        have a3 : 2 ^ (k * (m - k) * m * (m + 1)) * (2 ^ (m * (m + 1)) * d (m + 1) ^ (2 * m)) ^ k = (2 ^ (k * (m + 1 - k) * (m + 1)) * d (m + 1) ^ (2 * k)) ^ m := by
          rw [Nat.mul_pow, Nat.mul_pow, ← Nat.pow_mul, ← Nat.pow_mul, ← Nat.pow_mul, ← Nat.pow_mul, ← Nat.mul_assoc, ← Nat.pow_add]
          have x1 : k * (m - k) * m * (m + 1) + m * (m + 1) * k = k * (m + 1 - k) * (m + 1) * m := by
            rw [show m + 1 - k = (m - k) + 1 from by omega]
            generalize m - k = t
            grind
          have x2 : 2 * m * k = 2 * k * m := by grind
          rw [x1, x2]
        rw [a1, ← a3]
        refine Nat.le_trans h1 ?_
        rw [a2]
        exact Nat.mul_le_mul_left _ h2
      exact (Nat.pow_le_pow_iff_left hm0).1 h3

/-- d_k <= 2^(k(m-k)/2) d_m. -/
theorem below (k m : Nat) (hk : k ≤ m) (hm : m ≤ n) : d k ^ 2 ≤ 2 ^ (k * (m - k)) * d m ^ 2 := by
  by_cases hm0 : m = 0
  · obtain rfl : k = 0 := by omega
    subst hm0; simp
  have h := far h0 hp hl k m hk hm
  have h1 : d m ^ (2 * k) ≤ d m ^ (2 * m) := Nat.pow_le_pow_right (hp m hm) (by omega)
  have h2 : (d k ^ 2) ^ m ≤ (2 ^ (k * (m - k)) * d m ^ 2) ^ m := by
    rw [Nat.mul_pow, ← Nat.pow_mul, ← Nat.pow_mul, ← Nat.pow_mul]
    exact Nat.le_trans h (Nat.mul_le_mul_left _ h1)
  exact (Nat.pow_le_pow_iff_left hm0).1 h2

/-- The products that the entries are made of: n at most 8, the last one at most 10000. -/
theorem product (hn : n ≤ 8) (hd : d n ≤ 10000) (k m : Nat) (hk : k ≤ m) (hm : m < n) : d k * d (m + 1) ≤ 163840000 * d m := by
  have h1 := below h0 hp hl k m hk (by omega)
  have h2 := below h0 hp hl (m + 1) n (by omega) (Nat.le_refl _)
  have e1 : k * (m - k) ≤ 12 := by
    have hm7 : m ≤ 7 := by omega
    clear h0 hp hl h1 h2 hd
    have : ∀ m, m ≤ 7 → ∀ k, k ≤ m → k * (m - k) ≤ 12 := by decide
    exact this m hm7 k hk
  have e2 : (m + 1) * (n - (m + 1)) ≤ 16 := by
    clear h0 hp hl h1 h2 hd
    have : ∀ n, n ≤ 8 → ∀ k, k ≤ n → k * (n - k) ≤ 16 := by decide
    exact this n hn (m + 1) (by omega)
  have b1 : d k ≤ 64 * d m := sq_le (Nat.le_trans h1 (Nat.mul_le_mul_right _ (Nat.le_trans (Nat.pow_le_pow_right (by omega) e1) (by decide))))
  have b2 : d (m + 1) ≤ 256 * d n := sq_le (Nat.le_trans h2 (Nat.mul_le_mul_right _ (Nat.le_trans (Nat.pow_le_pow_right (by omega) e2) (by decide))))
  have b3 := Nat.mul_le_mul b1 (Nat.le_trans b2 (Nat.mul_le_mul_left 256 hd))
  omega
end
end Go.Proofs.YtpnnbjifhoonkaaGreat.Bound
namespace Go.Proofs.YtpnnbjifhoonkaaGreat.Minor
open Bound

theorem B_symm {a : Nat → Nat → Int} {n : Nat} (hsym : ∀ i j, i < n → j < n → a i j = a j i) : ∀ k, (∀ m, m ≤ k → D a m ≠ 0) → k < n → ∀ i j, i < n → j < n → B a k i j = B a k j i
  | 0, _, _, i, j, hi, hj => by rw [B_zero, B_zero]; exact hsym i j hi hj
  | k + 1, hD, hk, i, j, hi, hj => by
    have ih := B_symm hsym k (fun m hm => hD m (by omega)) (by omega)
    have h1 := sylvester a k i j fun m hm => hD m (by omega)
    have h2 := sylvester a k j i fun m hm => hD m (by omega)
    have h3 : D a k * B a (k + 1) i j = D a k * B a (k + 1) j i := by
      rw [← h1, ← h2, ih i j hi hj, ih i k hi (by omega), ih k j (by omega) hj]
      grind
    exact Int.eq_of_mul_eq_mul_left (hD k (by omega)) h3

theorem sq_abs {x d : Int} (h : 2 * x.natAbs ≤ d.natAbs) : 4 * (x * x) ≤ d * d := by
  have h1 := Nat.mul_le_mul h h
  have h2 : ((2 * x.natAbs * (2 * x.natAbs) : Nat) : Int) ≤ ((d.natAbs * d.natAbs : Nat) : Int) := Int.ofNat_le.2 h1
  have e1 : ((2 * x.natAbs * (2 * x.natAbs) : Nat) : Int) = 4 * (x * x) := by
    rw [show 2 * x.natAbs * (2 * x.natAbs) = 4 * (x.natAbs * x.natAbs) from by grind]
    rw [Int.natCast_mul, Int.natAbs_mul_self]; rfl
  rw [e1, Int.natAbs_mul_self] at h2
  exact h2

structure Conds (a : Nat → Nat → Int) (n : Nat) : Prop where
  sym : ∀ i j, i < n → j < n → a i j = a j i
  pos : ∀ m, m ≤ n → 0 < D a m
  sized : ∀ k i, k < i → i < n → 2 * (B a k i k).natAbs ≤ (D a (k + 1)).natAbs
  lovasz : ∀ k, k + 1 < n → 3 * D a (k + 1) ≤ 4 * B a k (k + 1) (k + 1)

variable {a : Nat → Nat → Int} {n : Nat}

theorem Conds.log (h : Conds a n) (k : Nat) (hk : k + 2 ≤ n) : (D a (k + 1)).natAbs ^ 2 ≤ 2 * (D a k).natAbs * (D a (k + 2)).natAbs := by
  have hne : ∀ m, m ≤ n → D a m ≠ 0 := fun m hm => by have := h.pos m hm; omega
  have h1 := sylvester a k (k + 1) (k + 1) fun m hm => hne m (by omega)
  rw [← D_succ, ← D_succ, B_symm h.sym k (fun m hm => hne m (by omega)) (by omega) k (k + 1) (by omega) (by omega)] at h1
  have h2 := sq_abs (h.sized k (k + 1) (by omega) (by omega))
  have h3 := Int.mul_le_mul_of_nonneg_left (h.lovasz k (by omega)) (Int.le_of_lt (h.pos (k + 1) (by omega)))
  have p0 := h.pos k (by omega)
  have p1 := h.pos (k + 1) (by omega)
  have p2 := h.pos (k + 2) (by omega)
  have h4 : D a (k + 1) * D a (k + 1) ≤ 2 * D a k * D a (k + 2) := by
    rw [show k + 1 + 1 = k + 2 from rfl] at h1
    generalize D a (k + 1) = y at *
    generalize D a k = x at *
    generalize D a (k + 2) = z at *
    generalize B a k (k + 1) k = l at *
    generalize B a k (k + 1) (k + 1) = b at *
    have e1 : y * (4 * b) = 4 * (y * b) := by grind
    have e2 : y * (3 * y) = 3 * (y * y) := by grind
    have e3 : 2 * x * z = 2 * (x * z) := by grind
    rw [e1, e2] at h3
    rw [e3]
    generalize y * b = yb at *
    generalize y * y = yy at *
    generalize x * z = xz at *
    generalize l * l = ll at *
    omega
  have e : ∀ m, m ≤ n → ((D a m).natAbs : Int) = D a m := fun m hm => Int.natAbs_of_nonneg (Int.le_of_lt (h.pos m hm))
  apply Int.ofNat_le.1
  rw [Int.natCast_pow, Int.natCast_mul, Int.natCast_mul, e _ (by omega), e _ (by omega), e _ (by omega)]
  rw [show D a (k + 1) ^ 2 = D a (k + 1) * D a (k + 1) from by grind]
  exact h4

theorem Conds.prod (h : Conds a n) (hn : n ≤ 8) (hd : (D a n).natAbs ≤ 10000) (k m : Nat) (hk : k ≤ m) (hm : m < n) : (D a k).natAbs * (D a (m + 1)).natAbs ≤ 163840000 * (D a m).natAbs :=
  Bound.product (d := fun k => (D a k).natAbs) (n := n) rfl (fun k hk => by have := h.pos k hk; show 1 ≤ (D a k).natAbs; omega) (fun k hk => h.log k hk) hn hd k m hk hm

theorem Conds.entry (h : Conds a n) (hn : n ≤ 8) (hd : (D a n).natAbs ≤ 10000) (i j : Nat) (hji : j ≤ i) (hi : i < n) : ∀ t k, k + t = j → ∀ k', k' ≤ k → (D a k').natAbs * (4 * (B a k i j).natAbs) ≤ (D a k).natAbs * (163840000 * (4 + t)) := by
  have hne : ∀ m, m ≤ n → D a m ≠ 0 := fun m hm => by have := h.pos m hm; omega
  intro t
  induction t with
  | zero =>
    intro k hk k' hk'
    obtain rfl : k = j := by omega
    have hb : (B a k i k).natAbs ≤ (D a (k + 1)).natAbs := by
      by_cases e : i = k
      · subst e; rw [D_succ]; exact Nat.le_refl _
      · have := h.sized k i (by omega) hi
        omega
    have h1 := Nat.mul_le_mul_left (D a k').natAbs hb
    have h2 := h.prod hn hd k' k hk' (by omega)
    rw [show (D a k').natAbs * (4 * (B a k i k).natAbs) = 4 * ((D a k').natAbs * (B a k i k).natAbs) from by grind, show (D a k).natAbs * (163840000 * (4 + 0)) = 4 * (163840000 * (D a k).natAbs) from by grind]
    omega
  | succ t ih =>
    intro k hk k' hk'
    have h1 := ih (k + 1) (by omega) k' (by omega)
    have h2 := h.prod hn hd k' k hk' (by omega)
    have h3 := sylvester a k i j fun m hm => hne m (by omega)
    rw [← D_succ, B_symm h.sym k (fun m hm => hne m (by omega)) (by omega) k j (by omega) (by omega)] at h3
    have s1 := h.sized k i (by omega) hi
    have s2 := h.sized k j (by omega) (by omega)
    have h4 : (D a (k + 1)).natAbs * (B a k i j).natAbs ≤ (D a k).natAbs * (B a (k + 1) i j).natAbs + (B a k i k).natAbs * (B a k j k).natAbs := by
      rw [← Int.natAbs_mul, ← Int.natAbs_mul, ← Int.natAbs_mul, ← h3]
      omega
    have h5 := Nat.mul_le_mul s1 s2
    have hp : 0 < (D a (k + 1)).natAbs := by have := h.pos (k + 1) (by omega); omega
    refine Nat.le_of_mul_le_mul_left (c := (D a (k + 1)).natAbs) ?_ hp
    generalize (D a (k + 1)).natAbs = y at *
    generalize (D a k).natAbs = x at *
    generalize (D a k').natAbs = u at *
    generalize (B a k i j).natAbs = b at *
    generalize (B a (k + 1) i j).natAbs = c at *
    generalize (B a k i k).natAbs = p at *
    generalize (B a k j k).natAbs = q at *
    -- y * (u * (4 b)) = 4 u (y b) <= 4 u (x c + p q) = x (u * 4 c) + u * (4 p q) <= x * (y * M(4+t)) + u y y
    have g1 := Nat.mul_le_mul_left (4 * u) h4
    have g2 := Nat.mul_le_mul_left x h1
    have g3 := Nat.mul_le_mul_left u h5
    have g4 := Nat.mul_le_mul_left y h2
    have e1 : y * (u * (4 * b)) = 4 * u * (y * b) := by grind
    have e2 : 4 * u * (x * c + p * q) = x * (u * (4 * c)) + u * (2 * p * (2 * q)) := by grind
    have e3 : y * (x * (163840000 * (4 + (t + 1)))) = x * (y * (163840000 * (4 + t))) + y * (163840000 * x) := by grind
    have e4 : u * (y * y) = y * (u * y) := by grind
    rw [e1, e3]
    rw [e2] at g1
    rw [e4] at g3
    omega

/-- THE ENTRIES OF ALL STAGES OF A REDUCED FORM are below 2^30. -/
theorem Conds.small (h : Conds a n) (hn : n ≤ 8) (hd : (D a n).natAbs ≤ 10000) (k i j : Nat) (hkj : k ≤ j) (hji : j ≤ i) (hi : i < n) : (B a k i j).natAbs < 1073741824 := by
  have h1 := h.entry hn hd i j hji hi (j - k) k (by omega) k (Nat.le_refl _)
  have hp : 0 < (D a k).natAbs := by have := h.pos k (by omega); omega
  have h2 := Nat.le_of_mul_le_mul_left h1 hp
  omega
end Go.Proofs.YtpnnbjifhoonkaaGreat.Minor
namespace Go.Proofs.YtpnnbjifhoonkaaGreat.Minor

/-- Forms of rows that agree on the columns of P agree there. -/
theorem W_local {P : Nat → Prop} {r r' : Nat → Int} (hr : ∀ c, P c → r c = r' c) : ∀ (S : List Nat) {v v' : List Nat → Int}, (∀ c ∈ S, P c) → (∀ T, (∀ c ∈ T, P c) → v T = v' T) → W v r S = W v' r' S
  | [], _, _, _, _ => rfl
  | c :: T, v, v', hS, hv => by
    show W (fun T' => v (c :: T')) r T + sg T.length * (r c * v T) = W (fun T' => v' (c :: T')) r' T + sg T.length * (r' c * v' T)
    have hc : P c := hS c List.mem_cons_self
    have hT : ∀ c ∈ T, P c := fun x hx => hS x (List.mem_cons_of_mem _ hx)
    rw [W_local hr T (v := fun T' => v (c :: T')) (v' := fun T' => v' (c :: T')) hT fun U hU => hv (c :: U) fun x hx => by
      rcases List.mem_cons.1 hx with rfl | hx
      · exact hc
      · exact hU x hx, hr c hc, hv T hT]

theorem om_local {P : Nat → Prop} {a b : Nat → Nat → Int} : ∀ k, (∀ p, p < k → ∀ c, P c → a p c = b p c) → ∀ S, (∀ c ∈ S, P c) → om a k S = om b k S
  | 0, _, _, _ => rfl
  | k + 1, h, S, hS => W_local (h k (by omega)) S hS fun T hT => om_local k (fun p hp => h p (by omega)) T hT

theorem D_local {a b : Nat → Nat → Int} (k : Nat) (h : ∀ p c, p < k → c < k → a p c = b p c) : D a k = D b k :=
  om_local (P := fun c => c < k) k (fun p hp c hc => h p c hp hc) (List.range k) fun c hc => List.mem_range.1 hc

/-- The rows 0 .. j-1, i and the columns 0 .. j. -/
theorem D_lambda {a b : Nat → Nat → Int} (i j : Nat) (h : ∀ p c, p < j → c < j + 1 → b p c = a p c) (hl : ∀ c, c < j + 1 → b j c = a i c) : D b (j + 1) = B a j i j := by
  rw [D_succ]
  unfold B
  refine W_local (P := fun c => c < j + 1) hl _ (fun c hc => ?_) fun T hT => om_local (P := fun c => c < j + 1) j (fun p hp c hc => h p c hp hc) T hT
  rcases List.mem_append.1 hc with hc | hc
  · have := List.mem_range.1 hc; omega
  · simp only [List.mem_singleton] at hc; omega

/-- The first row from p on (f rows are left) whose entry in column k is not 0. -/
def seek (M : Nat → Nat → Int) (k : Nat) : Nat → Nat → Nat
  | 0, p => p
  | f + 1, p => if M p k = 0 then seek M k f (p + 1) else p
theorem seek_le (M : Nat → Nat → Int) (k : Nat) : ∀ f p, p ≤ seek M k f p ∧ seek M k f p ≤ p + f
  | 0, p => ⟨Nat.le_refl _, Nat.le_refl _⟩
  | f + 1, p => by
    have := seek_le M k f (p + 1)
    unfold seek
    split <;> omega
theorem seek_ne (M : Nat → Nat → Int) (k : Nat) : ∀ f p, seek M k f p < p + f → M (seek M k f p) k ≠ 0
  | 0, p, h => by unfold seek at h; omega
  | f + 1, p, h => by
    unfold seek at h ⊢
    split at h
    · rename_i e
      rw [if_pos e]
      exact seek_ne M k f (p + 1) (by omega)
    · rename_i e
      rw [if_neg e]
      exact e

def swapRows (M : Nat → Nat → Int) (p k : Nat) (i : Nat) : Nat → Int := if i = p then M k else if i = k then M p else M i
def elim (M : Nat → Nat → Int) (n k : Nat) (last : Int) (i j : Nat) : Int := if k < i ∧ k < j ∧ i < n ∧ j < n then (M k k * M i j - M i k * M k j) / last else M i j

/-- What the elimination of n rows gives, r steps before its end. -/
def detP (n : Nat) : Nat → Nat → (Nat → Nat → Int) → Int → Bool → Int
  | 0, _, _, last, neg => if neg then -last else last
  | r + 1, k, M, last, neg =>
    if seek M k (n - k) k = n then 0
    else if k < seek M k (n - k) k then detP n r (k + 1) (elim (swapRows M (seek M k (n - k) k) k) n k last) (M (seek M k (n - k) k) k) (!neg)
    else detP n r (k + 1) (elim M n k last) (M k k) neg

theorem detP_minor {a : Nat → Nat → Int} {n : Nat} (hD : ∀ m, m < n → D a m ≠ 0) : ∀ (r k : Nat) (M : Nat → Nat → Int) (last : Int), r + k = n → (∀ i j, k ≤ i → k ≤ j → i < n → j < n → M i j = B a k i j) → last = D a k → detP n r k M last false = D a n
  | 0, k, M, last, hk, _, hl => by
    obtain rfl : k = n := by omega
    exact hl
  | r + 1, k, M, last, hk, hM, hl => by
    have hkn : k < n := by omega
    have hkk : M k k = D a (k + 1) := by rw [hM k k (Nat.le_refl _) (Nat.le_refl _) hkn hkn, D_succ]
    obtain ⟨f, hf⟩ : ∃ f, n - k = f + 1 := ⟨n - k - 1, by omega⟩
    unfold detP
    by_cases e : M k k = 0
    · have hlast : k + 1 = n := by
        rcases Nat.lt_or_ge (k + 1) n with h | h
        · exact absurd (hkk.symm.trans e) (hD (k + 1) h)
        · omega
      have hs : seek M k (n - k) k = n := by
        rw [show n - k = 1 from by omega]
        unfold seek seek
        rw [if_pos e, hlast]
      rw [if_pos hs, ← hlast, ← hkk, e]
    · have hs : seek M k (n - k) k = k := by
        rw [hf]; unfold seek
        rw [if_neg e]
      rw [hs, if_neg (by omega), if_neg (by omega)]
      refine detP_minor hD r (k + 1) _ _ (by omega) (fun i j h1 h2 h3 h4 => ?_) hkk
      have hne : ∀ m, m ≤ k + 1 → D a m ≠ 0 := fun m hm => by
        by_cases e2 : m = k + 1
        · subst e2; rw [← hkk]; exact e
        · exact hD m (by omega)
      unfold elim
      rw [if_pos (by omega), hM k k (Nat.le_refl _) (Nat.le_refl _) hkn hkn, hM i j (by omega) (by omega) h3 h4, hM i k (by omega) (Nat.le_refl _) h3 hkn, hM k j (Nat.le_refl _) (by omega) hkn h4, hl, sylvester a k i j hne]
      exact Int.mul_ediv_cancel_left _ (hne k (by omega))

/-- THE DETERMINANT BY ELIMINATION of the first n rows and columns: the minor, if the earlier leading minors are not 0. -/
theorem det_minor {a : Nat → Nat → Int} {n : Nat} (hD : ∀ m, m < n → D a m ≠ 0) : detP n n 0 a 1 false = D a n :=
  detP_minor hD n 0 a 1 rfl (fun i j _ _ _ _ => (B_zero a i j).symm) rfl
end Go.Proofs.YtpnnbjifhoonkaaGreat.Minor
namespace Go.Proofs.YtpnnbjifhoonkaaGreat.Minor

theorem seek_congr {M M' : Nat → Nat → Int} {n k : Nat} (h : ∀ i j, i < n → j < n → M i j = M' i j) (hk : k < n) : ∀ f p, p + f ≤ n → seek M k f p = seek M' k f p
  | 0, _, _ => rfl
  | f + 1, p, hp => by
    unfold seek
    rw [h p k (by omega) hk, seek_congr h hk f (p + 1) (by omega)]

theorem elim_congr {M M' : Nat → Nat → Int} {n k : Nat} (h : ∀ i j, i < n → j < n → M i j = M' i j) (hk : k < n) (last : Int) (i j : Nat) (hi : i < n) (hj : j < n) : elim M n k last i j = elim M' n k last i j := by
  unfold elim
  rw [h k k hk hk, h i j hi hj, h i k hi hk, h k j hk hj]

theorem swap_congr {M M' : Nat → Nat → Int} {n p k : Nat} (h : ∀ i j, i < n → j < n → M i j = M' i j) (hk : k < n) (hp : p < n) (i j : Nat) (hi : i < n) (hj : j < n) : swapRows M p k i j = swapRows M' p k i j := by
  unfold swapRows
  split
  · exact h k j hk hj
  · split
    · exact h p j hp hj
    · exact h i j hi hj

theorem detP_congr {n : Nat} : ∀ (r k : Nat) {M M' : Nat → Nat → Int} (last : Int) (neg : Bool), r + k = n → (∀ i j, i < n → j < n → M i j = M' i j) → detP n r k M last neg = detP n r k M' last neg
  | 0, _, _, _, _, _, _, _ => rfl
  | r + 1, k, M, M', last, neg, hk, h => by
    have hkn : k < n := by omega
    have hs := seek_congr h hkn (n - k) k (by omega)
    have hb := seek_le M k (n - k) k
    unfold detP
    rw [← hs]
    by_cases e : seek M k (n - k) k = n
    · rw [if_pos e, if_pos e]
    · rw [if_neg e, if_neg e]
      have hp : seek M k (n - k) k < n := by omega
      rw [h _ k hp hkn, h k k hkn hkn]
      by_cases e2 : k < seek M k (n - k) k
      · rw [if_pos e2, if_pos e2]
        exact detP_congr r (k + 1) _ _ (by omega) fun i j hi hj => elim_congr (fun i j hi hj => swap_congr h hkn hp i j hi hj) hkn last i j hi hj
      · rw [if_neg e2, if_neg e2]
        exact detP_congr r (k + 1) _ _ (by omega) fun i j hi hj => elim_congr h hkn last i j hi hj

/-- Behind step k every entry is below b, where every entry was below c, b = 2 c^2. -/
theorem elim_bound {M : Nat → Nat → Int} {n k c : Nat} {last : Int} (h : ∀ i j, i < n → j < n → (M i j).natAbs ≤ c) (hc : 1 ≤ c) (hk : k < n) (i j : Nat) (hi : i < n) (hj : j < n) : (elim M n k last i j).natAbs ≤ 2 * (c * c) := by
  have h0 : c ≤ c * c := Nat.le_mul_of_pos_left c hc
  unfold elim
  split
  · refine Nat.le_trans (Int.natAbs_ediv_le_natAbs _ _) ?_
    have h1 := Nat.mul_le_mul (h k k hk hk) (h i j hi hj)
    have h2 := Nat.mul_le_mul (h i k hi hk) (h k j hk hj)
    rw [← Int.natAbs_mul] at h1 h2
    omega
  · have := h i j hi hj
    omega
end Go.Proofs.YtpnnbjifhoonkaaGreat.Minor
namespace Go.Proofs.YtpnnbjifhoonkaaGreat
open Go.RowKit

/-- Limbs in a block of their own, or none. -/
structure Lm (w : World) (a : Option Addr) (c : Nat) (zs : List Nat) : Prop where
  fits : zs.length ≤ c
  own : (a = none ∧ zs = []) ∨ ∃ g, a = some ⟨g, 0, none⟩ ∧ Own w g zs

theorem Lm.rd {w : World} {a : Option Addr} {c : Nat} {zs : List Nat} (h : Lm w a c zs) : Rd w a c zs := by
  rcases h.own with ⟨rfl, rfl⟩ | ⟨g, rfl, ho⟩
  · exact Rd.nil _ _ _
  · exact ho.rd h.fits

theorem Lm.nil (w : World) (c : Nat) : Lm w none c [] := ⟨by simp, .inl ⟨rfl, rfl⟩⟩

theorem Lm.of_new {w w' : World} {a : Option Addr} {c : Nat} {zs : List Nat} (h : New w zs a c w') : Lm w' a c zs := by
  refine ⟨h.fits, ?_⟩
  rcases h.own with h0 | ⟨g, rfl, _, ho⟩
  · exact .inl h0
  · exact .inr ⟨g, rfl, ho⟩

theorem Lm.below {w w' : World} {a : Option Addr} {c : Nat} {zs : List Nat} (h : Lm w a c zs) (hb : Below w.heap.size w w') : Lm w' a c zs := by
  refine ⟨h.fits, ?_⟩
  rcases h.own with h0 | ⟨g, rfl, ho⟩
  · exact .inl h0
  · exact .inr ⟨g, rfl, ho.below hb ho.lt⟩

theorem Lm.alloc {w : World} {a : Option Addr} {c : Nat} {zs : List Nat} (h : Lm w a c zs) (o : Obj) : Lm (w.alloc o) a c zs := h.below ((Below.refl _ _).alloc (Nat.le_refl _) o)

/-- They stay as they are where a cell is written that holds no limb. -/
theorem Lm.setO {w : World} {a : Option Addr} {cap : Nat} {xs : List Nat} (h : Lm w a cap xs) {p : Addr} (hpn : p.spot = none) {u : Value} (hp : w.cell? p = some u) (hu : ∀ x, u ≠ .int .u32 x) (v : Value) : Lm (w.setCell p v) a cap xs := by
  refine ⟨h.fits, ?_⟩
  rcases h.own with h0 | ⟨g, rfl, ho⟩
  · exact .inl h0
  · refine .inr ⟨g, rfl, ?_⟩
    by_cases e : g = p.block
    · obtain ⟨cur, hg, ht⟩ := ho.row
      obtain ⟨b, o, pa⟩ := p
      simp only at hpn e
      subst hpn e
      by_cases hlt : o < xs.length
      · have := ho.cell o hlt
        rw [hp] at this
        simp only [Option.some.injEq] at this
        exact absurd this (hu _)
      · refine ⟨ho.lim, cur.setIfInBounds o v, heap_setCell_same w g o cur _ v hg, ?_⟩
        rw [Array.toList_setIfInBounds, List.take_set, List.set_eq_of_length_le (by simp; omega), ht]
    · exact ho.of_heap (Below.heap_setCell w p v g e)

/-- Row b of m canonical Ints: two cells each, the limbs elsewhere. -/
structure RowZ (w : World) (b m : Nat) (f : Nat → Int) : Prop where
  c : ∀ j, j < m → ∃ a c, w.cell? ⟨b, j * 2, none⟩ = some (.bool (sg (f j))) ∧ w.cell? ⟨b, j * 2 + 1, none⟩ = some (.slice a (mg (f j)).length c) ∧ Lm w a c (mg (f j))
  fr : ∀ k, w.frozen? ⟨b, k, none⟩ = false
  lt : b < w.heap.size

theorem RowZ.belowU {w w' : World} {b m : Nat} {f : Nat → Int} (h : RowZ w b m f) (hb : Below w.heap.size w w') : RowZ w' b m f := by
  refine ⟨fun j hj => ?_, fun k => (hb.frozen (p := ⟨b, k, none⟩) h.lt).trans (h.fr k), Nat.lt_of_lt_of_le h.lt hb.size⟩
  obtain ⟨a, c, h1, h2, h3⟩ := h.c j hj
  exact ⟨a, c, (hb.cell (p := ⟨b, _, none⟩) h.lt).trans h1, (hb.cell (p := ⟨b, _, none⟩) h.lt).trans h2, h3.below hb⟩

theorem RowZ.congr {w : World} {b m : Nat} {f f' : Nat → Int} (h : RowZ w b m f) (he : ∀ j, j < m → f j = f' j) : RowZ w b m f' :=
  ⟨fun j hj => by rw [← he j hj]; exact h.c j hj, h.fr, h.lt⟩

theorem RowZ.less {w : World} {b m m' : Nat} {f : Nat → Int} (h : RowZ w b m f) (hm : m' ≤ m) : RowZ w b m' f := ⟨fun j hj => h.c j (by omega), h.fr, h.lt⟩

/-- A store of two cells of a row elsewhere, whose cells hold what a row holds. -/
theorem RowZ.other {w : World} {b m : Nat} {f : Nat → Int} (h : RowZ w b m f) {g o : Nat} {u0 u1 : Value} (hg : g ≠ b) (h0 : w.cell? ⟨g, o, none⟩ = some u0) (h1 : w.cell? ⟨g, o + 1, none⟩ = some u1) (n0 : ∀ x, u0 ≠ .int .u32 x) (n1 : ∀ x, u1 ≠ .int .u32 x) (v0 v1 : Value) :
    RowZ ((w.setCell ⟨g, o, none⟩ v0).setCell ⟨g, o + 1, none⟩ v1) b m f := by
  have e1 : (w.setCell ⟨g, o, none⟩ v0).cell? ⟨g, o + 1, none⟩ = some u1 := by rw [World.cell?_setCell_other _ _ _ _ (by simp)]; exact h1
  refine ⟨fun j hj => ?_, fun k => by simp [h.fr k], by simpa [World.setCell] using h.lt⟩
  obtain ⟨a, c, q1, q2, q3⟩ := h.c j hj
  refine ⟨a, c, ?_, ?_, (q3.setO rfl h0 n0 v0).setO rfl e1 n1 v1⟩
  · rw [World.cell?_setCell_other _ _ _ _ (by simp [hg]), World.cell?_setCell_other _ _ _ _ (by simp [hg])]; exact q1
  · rw [World.cell?_setCell_other _ _ _ _ (by simp [hg]), World.cell?_setCell_other _ _ _ _ (by simp [hg])]; exact q2

/-- A store of an entry. -/
theorem RowZ.store {w : World} {b m : Nat} {f : Nat → Int} (h : RowZ w b m f) (k : Nat) (hk : k < m) (z : Int) {a : Option Addr} {c : Nat} (hr : Lm w a c (mg z)) :
    RowZ ((w.setCell ⟨b, k * 2, none⟩ (.bool (sg z))).setCell ⟨b, k * 2 + 1, none⟩ (.slice a (mg z).length c)) b m (fun j => if j = k then z else f j) := by
  obtain ⟨a0, c0, p1, p2, p3⟩ := h.c k hk
  have e1 : (w.setCell ⟨b, k * 2, none⟩ (.bool (sg z))).cell? ⟨b, k * 2 + 1, none⟩ = some (.slice a0 (mg (f k)).length c0) := by rw [World.cell?_setCell_other _ _ _ _ (by simp)]; exact p2
  have hR : ∀ {a : Option Addr} {c : Nat} {xs : List Nat}, Lm w a c xs → Lm ((w.setCell ⟨b, k * 2, none⟩ (.bool (sg z))).setCell ⟨b, k * 2 + 1, none⟩ (.slice a (mg z).length c)) a c xs := fun q => (q.setO rfl p1 (by simp) _).setO rfl e1 (by simp) _
  have hR2 : ∀ {a' : Option Addr} {c' : Nat} {xs : List Nat}, Lm w a' c' xs → Lm ((w.setCell ⟨b, k * 2, none⟩ (.bool (sg z))).setCell ⟨b, k * 2 + 1, none⟩ (.slice a (mg z).length c)) a' c' xs := fun q => (q.setO rfl p1 (by simp) _).setO rfl e1 (by simp) _
  refine ⟨fun j hj => ?_, fun k => by simp [h.fr k], by simpa [World.setCell] using h.lt⟩
  by_cases e : j = k
  · subst e
    refine ⟨a, c, ?_, ?_, ?_⟩
    · rw [if_pos rfl, World.cell?_setCell_other _ _ _ _ (by simp)]
      exact World.cell?_setCell_same _ _ _ p1
    · rw [if_pos rfl]
      exact World.cell?_setCell_same _ _ _ e1
    · rw [if_pos rfl]; exact hR2 hr
  · obtain ⟨a', c', q1, q2, q3⟩ := h.c j hj
    rw [if_neg e]
    refine ⟨a', c', ?_, ?_, hR2 q3⟩
    · rw [World.cell?_setCell_other _ _ _ _ (by intro h; injection h with _ h _; omega), World.cell?_setCell_other _ _ _ _ (by intro h; injection h with _ h _; omega)]; exact q1
    · rw [World.cell?_setCell_other _ _ _ _ (by intro h; injection h with _ h _; omega), World.cell?_setCell_other _ _ _ _ (by intro h; injection h with _ h _; omega)]; exact q2

/-- The n rows of block g, row i in block R i: the matrix M of n rows and m columns. -/
structure MatZ (w : World) (g n m : Nat) (R : Nat → Nat) (M : Nat → Nat → Int) : Prop where
  outer : ∀ i, i < n → ∃ c, w.cell? ⟨g, i, none⟩ = some (.slice (some ⟨R i, 0, none⟩) m c)
  ofr : ∀ k, w.frozen? ⟨g, k, none⟩ = false
  row : ∀ i, i < n → RowZ w (R i) m (M i)
  inj : ∀ i i', i < n → i' < n → R i = R i' → i = i'
  apart : ∀ i, i < n → R i ≠ g
  lt : g < w.heap.size

theorem MatZ.below {w w' : World} {g n m : Nat} {R : Nat → Nat} {M : Nat → Nat → Int} (h : MatZ w g n m R M) (hb : Below w.heap.size w w') : MatZ w' g n m R M := by
  refine ⟨fun i hi => ?_, fun k => (hb.frozen (p := ⟨g, k, none⟩) h.lt).trans (h.ofr k), fun i hi => (h.row i hi).belowU hb, h.inj, h.apart, Nat.lt_of_lt_of_le h.lt hb.size⟩
  obtain ⟨c, hc⟩ := h.outer i hi
  exact ⟨c, (hb.cell (p := ⟨g, _, none⟩) h.lt).trans hc⟩

theorem MatZ.congr {w : World} {g n m : Nat} {R : Nat → Nat} {M M' : Nat → Nat → Int} (h : MatZ w g n m R M) (he : ∀ i j, i < n → j < m → M i j = M' i j) : MatZ w g n m R M' :=
  ⟨h.outer, h.ofr, fun i hi => (h.row i hi).congr fun j hj => he i j hi hj, h.inj, h.apart, h.lt⟩

theorem MatZ.less {w : World} {g n n' m : Nat} {R : Nat → Nat} {M : Nat → Nat → Int} (h : MatZ w g n m R M) (hn : n' ≤ n) : MatZ w g n' m R M :=
  ⟨fun i hi => h.outer i (by omega), h.ofr, fun i hi => h.row i (by omega), fun i i' hi hi' => h.inj i i' (by omega) (by omega), fun i hi => h.apart i (by omega), h.lt⟩

/-- One entry. -/
theorem MatZ.entry {w : World} {g n m : Nat} {R : Nat → Nat} {M : Nat → Nat → Int} (h : MatZ w g n m R M) (i j : Nat) (hi : i < n) (hj : j < m) :
    ∃ c a d, w.cell? ⟨g, i, none⟩ = some (.slice (some ⟨R i, 0, none⟩) m c) ∧ w.cell? ⟨R i, j * 2, none⟩ = some (.bool (sg (M i j))) ∧ w.cell? ⟨R i, j * 2 + 1, none⟩ = some (.slice a (mg (M i j)).length d) ∧ Lm w a d (mg (M i j)) := by
  obtain ⟨c, hc⟩ := h.outer i hi
  obtain ⟨a, d, h1, h2, h3⟩ := (h.row i hi).c j hj
  exact ⟨c, a, d, hc, h1, h2, h3⟩

theorem MatZ.store {w : World} {g n m : Nat} {R : Nat → Nat} {M : Nat → Nat → Int} (h : MatZ w g n m R M) (i j : Nat) (hi : i < n) (hj : j < m) (z : Int) {a : Option Addr} {c : Nat} (hr : Lm w a c (mg z)) :
    MatZ ((w.setCell ⟨R i, j * 2, none⟩ (.bool (sg z))).setCell ⟨R i, j * 2 + 1, none⟩ (.slice a (mg z).length c)) g n m R (fun p q => if p = i ∧ q = j then z else M p q) := by
  obtain ⟨a0, c0, p1, p2, p3⟩ := (h.row i hi).c j hj
  refine ⟨fun p hp => ?_, fun k => by simp [h.ofr k], fun p hp => ?_, h.inj, h.apart, by simpa [World.setCell] using h.lt⟩
  · obtain ⟨c', hc'⟩ := h.outer p hp
    refine ⟨c', ?_⟩
    rw [World.cell?_setCell_other _ _ _ _ (by simp [h.apart i hi]), World.cell?_setCell_other _ _ _ _ (by simp [h.apart i hi])]; exact hc'
  · by_cases e : p = i
    · subst e
      exact ((h.row p hp).store j hj z hr).congr fun q hq => by by_cases e2 : q = j <;> simp [e2]
    · refine ((h.row p hp).other (fun e2 => e (h.inj _ _ hi hp e2).symm) p1 p2 (by simp) (by simp) _ _).congr fun q hq => by simp [e]

/-- Two rows exchanged. -/
def swapR (R : Nat → Nat) (p k : Nat) (i : Nat) : Nat := if i = p then R k else if i = k then R p else R i

def swapI (p k i : Nat) : Nat := if i = p then k else if i = k then p else i
theorem swapR_eq (R : Nat → Nat) (p k i : Nat) : swapR R p k i = R (swapI p k i) := by
  unfold swapR swapI
  split
  · rfl
  · split <;> rfl
theorem swapI_lt {p k i n : Nat} (hp : p < n) (hk : k < n) (hi : i < n) : swapI p k i < n := by
  unfold swapI
  split
  · exact hk
  · split
    · exact hp
    · exact hi
theorem swapI_inj {p k : Nat} (i i' : Nat) (h : swapI p k i = swapI p k i') : i = i' := by
  unfold swapI at h
  split at h <;> split at h <;> (try split at h) <;> (try split at h) <;> omega

theorem MatZ.swap {w : World} {g n m : Nat} {R : Nat → Nat} {M : Nat → Nat → Int} (h : MatZ w g n m R M) (p k : Nat) (hp : p < n) (hk : k < n) (hne : p ≠ k) {c c' : Nat} :
    MatZ ((w.setCell ⟨g, p, none⟩ (.slice (some ⟨R k, 0, none⟩) m c)).setCell ⟨g, k, none⟩ (.slice (some ⟨R p, 0, none⟩) m c')) g n m (swapR R p k) (Minor.swapRows M p k) := by
  obtain ⟨cp, hcp⟩ := h.outer p hp
  obtain ⟨ck, hck⟩ := h.outer k hk
  have e1 : (w.setCell ⟨g, p, none⟩ (.slice (some ⟨R k, 0, none⟩) m c)).cell? ⟨g, k, none⟩ = some (.slice (some ⟨R k, 0, none⟩) m ck) := by
    rw [World.cell?_setCell_other _ _ _ _ (by simp [hne])]; exact hck
  have hrow : ∀ i, i < n → RowZ ((w.setCell ⟨g, p, none⟩ (.slice (some ⟨R k, 0, none⟩) m c)).setCell ⟨g, k, none⟩ (.slice (some ⟨R p, 0, none⟩) m c')) (R i) m (M i) := fun i hi => by
    have hr := h.row i hi
    have hne2 := (h.apart i hi).symm
    refine ⟨fun j hj => ?_, fun x => by simp [hr.fr x], by simpa [World.setCell] using hr.lt⟩
    obtain ⟨a, d, q1, q2, q3⟩ := hr.c j hj
    refine ⟨a, d, ?_, ?_, (q3.setO rfl hcp (by simp) _).setO rfl e1 (by simp) _⟩
    · rw [World.cell?_setCell_other _ _ _ _ (by simp [hne2]), World.cell?_setCell_other _ _ _ _ (by simp [hne2])]; exact q1
    · rw [World.cell?_setCell_other _ _ _ _ (by simp [hne2]), World.cell?_setCell_other _ _ _ _ (by simp [hne2])]; exact q2
  refine ⟨fun i hi => ?_, fun x => by simp [h.ofr x], fun i hi => ?_, fun i i' hi hi' => ?_, fun i hi => ?_, by simpa [World.setCell] using h.lt⟩
  · unfold swapR
    by_cases e : i = p
    · subst e
      rw [if_pos rfl]
      refine ⟨c, ?_⟩
      rw [World.cell?_setCell_other _ _ _ _ (by simp [Ne.symm hne])]
      exact World.cell?_setCell_same _ _ _ hcp
    · rw [if_neg e]
      by_cases e2 : i = k
      · subst e2
        rw [if_pos rfl]
        exact ⟨c', World.cell?_setCell_same _ _ _ e1⟩
      · rw [if_neg e2]
        obtain ⟨ci, hci⟩ := h.outer i hi
        refine ⟨ci, ?_⟩
        rw [World.cell?_setCell_other _ _ _ _ (by intro h; injection h with _ h _; omega), World.cell?_setCell_other _ _ _ _ (by intro h; injection h with _ h _; omega)]; exact hci
  · unfold swapR Minor.swapRows
    by_cases e : i = p
    · rw [if_pos e, if_pos e]; exact hrow k hk
    · rw [if_neg e, if_neg e]
      by_cases e2 : i = k
      · rw [if_pos e2, if_pos e2]; exact hrow p hp
      · rw [if_neg e2, if_neg e2]; exact hrow i hi
  · intro e
    rw [swapR_eq, swapR_eq] at e
    exact swapI_inj _ _ (h.inj _ _ (swapI_lt hp hk hi) (swapI_lt hp hk hi') e)
  · unfold swapR
    split
    · exact h.apart k hk
    · split
      · exact h.apart p hp
      · exact h.apart i hi
end Go.Proofs.YtpnnbjifhoonkaaGreat
namespace Go.Proofs.YtpnnbjifhoonkaaGreat
open Go.RowKit

attribute [local go_sem ↓] Go.wp_at_zero Go.wp_at_succ

set_option maxRecDepth 100000 in
set_option maxHeartbeats 8000000 in
theorem rquo_any (na nb : Bool) (a b : Option Addr) (n m cap cap' : Nat) (xs ys : List Nat) (w : World) (rdx : Rd w a cap xs) (rdy : Rd w b cap' ys) (hl : xs.length = n) (hl' : ys.length = m) (hn : n ≤ 1000000) (hm : m ≤ 1000000) (h0 : den nb ys ≠ 0) :
    Calls Tryz.prog 80 #[.agg #[.bool na, .slice a n cap], .agg #[.bool nb, .slice b m cap']] w (GivesInt w (den na xs / den nb ys)) := by
  have hlx := rdx.lim
  have hly := rdy.lim
  obtain ⟨V, hV⟩ : ∃ V, V = (w.alloc (.cells #[.bool na, .slice a n cap] 33)).alloc (.cells #[.bool nb, .slice b m cap'] 33) := ⟨_, rfl⟩
  obtain ⟨W, hW⟩ : ∃ W, W = V.alloc (.cells #[.bool false, .slice none 0 0] 33) := ⟨_, rfl⟩
  have hb0 : Below w.heap.size w V := by rw [hV]; exact ((Below.refl _ _).alloc (Nat.le_refl _) _).alloc (by simp) _
  have hVs : V.heap.size = w.heap.size + 2 := by rw [hV]; simp
  have hWs : W.heap.size = w.heap.size + 3 := by rw [hW, World.size_alloc, hVs]
  have hx0 : Box w.heap.size (.bool na) (.slice a n cap) V := by rw [hV]; exact (Box.made _ _ rfl _ _ _).alloc _
  have hx1 : Box (w.heap.size + 1) (.bool nb) (.slice b m cap') V := by rw [hV]; exact Box.made _ _ (by simp) _ _ _
  have hxa : Box w.heap.size (.bool na) (.slice a n cap) W := by rw [hW]; exact hx0.alloc _
  have hxb : Box (w.heap.size + 1) (.bool nb) (.slice b m cap') W := by rw [hW]; exact hx1.alloc _
  have hy : Box (w.heap.size + 2) (.bool false) (.slice none 0 0) W := by rw [hW]; exact Box.made _ _ hVs.symm _ _ _
  have hra : Rd W a cap xs := by rw [hW]; exact (rdx.below hb0).alloc _
  have hrb : Rd W b cap' ys := by rw [hW]; exact (rdy.below hb0).alloc _
  have hWW : ((w.alloc (.cells #[.bool na, .slice a n cap] 33)).alloc (.cells #[.bool nb, .slice b m cap'] 33)).alloc (.cells #[.bool false, .slice none 0 0] 33) = W := by rw [hW, hV]
  have HWW := Lib.hid hWW
  have HW := Lib.hid hW
  have HVS := Lib.hid hVs
  have HWS := Lib.hid hWs
  have HB0 := Lib.hid hb0
  have HXA := Lib.hid hxa
  have HXB := Lib.hid hxb
  have HY := Lib.hid hy
  have HL := Lib.hid hl
  have HL' := Lib.hid hl'
  have HRA := Lib.hid hra
  have HRB := Lib.hid hrb
  clear hWs hV hW hVs hb0 hx0 hx1 hWW hl hl' rdx rdy hy hra hrb hxa hxb
  obtain ⟨R, hR⟩ : ∃ R, R = den na xs / den nb ys := ⟨_, rfl⟩
  rw [← hR]
  have HR := Lib.hid hR
  have H0 := Lib.hid h0
  obtain ⟨p0, p1, p2, p3, p4⟩ := HXA.out
  obtain ⟨q0, q1, q2, q3, q4⟩ := HXB.out
  clear hR h0
  go_enter Tryz.func80, Tryz.ntmps80
  go_wp2_with fail
  rw [HWW.out]
  go_wp2_with fail
  refine (rdivmod_pos na nb a b n m cap cap' xs ys _ HRA.out HRB.out HL.out HL'.out hn hm H0.out).mono ?_
  rintro e w3 ⟨qa, qc, ra, rc, rfl, hNq, hNr⟩
  rw [← HR.out] at hNq
  rw [← HR.out]
  obtain ⟨Q, hQ⟩ : ∃ Q, Q = den na xs % den nb ys := ⟨_, rfl⟩
  rw [← hQ]
  clear hQ
  obtain ⟨y0, y1, y2, y3, y4⟩ := HY.out.below hNq.below
  have y5 : w.heap.size + 2 < w3.heap.size + 1 := by omega
  have y6 : ¬w.heap.size + 2 = w3.heap.size := by omega
  have y7 : ¬w.heap.size + 2 = w3.heap.size + 1 := by omega
  have hN := hNq
  rw [HW.out] at hN
  have hN3 := new_result hN
  rw [HVS.out] at hN3
  have hfin := (New.before HB0.out (hN3 (.bool (sg R)) (.slice qa (mg R).length qc))).after (((Below.refl _ _).alloc (Nat.le_refl _) (Obj.cells #[Value.bool (sg R), Value.slice qa (mg R).length qc] 33)).alloc (by simp) (Obj.cells #[Value.bool (sg Q), Value.slice ra (mg Q).length rc] 33))
  have HF := Lib.hid hfin
  clear hNq hNr hN hN3 hfin p0 p1 p2 p3 p4 q0 q1 q2 q3 q4
  go_wp2_with fail
  refine bodyPost_ret (v := .agg #[.bool (sg R), .slice qa (mg R).length qc]) ?_ rfl ⟨qa, qc, rfl, ?_⟩
  · simp [results, Tryz.results80, go_sem, y0, y1, y4, y5]
  · exact HF.out

end Go.Proofs.YtpnnbjifhoonkaaGreat
