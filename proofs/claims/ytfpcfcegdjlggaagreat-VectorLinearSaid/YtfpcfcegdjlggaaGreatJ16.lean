/-
  Joined texts: EF EG EH EI EJ EK HH HI.
-/
import Derived.Test.YtfpcfcegdjlggaaGreatJ08
import Derived.Test.YtfpcfcegdjlggaaGreatJ15
namespace Go.Proofs.YtfpcfcegdjlggaaGreat.Minor
variable {a : Nat → Nat → Int} {n : Nat}

theorem sq_nonneg (x : Int) : 0 ≤ x * x := by rw [← Int.natAbs_mul_self]; omega

/-- The diagonal entries of all stages are positive. -/
theorem diag_pos (hsym : ∀ i j, i < n → j < n → a i j = a j i) (hD : ∀ m, m ≤ n → 0 < D a m) (i : Nat) (hi : i < n) : ∀ t k, k + t = i → 0 < B a k i i
  | 0, k, hk => by
    obtain rfl : k = i := hk
    rw [← D_succ]; exact hD (k + 1) (by omega)
  | t + 1, k, hk => by
    have hne : ∀ m, m ≤ k + 1 → D a m ≠ 0 := fun m hm => by have := hD m (by omega); omega
    have ih := diag_pos hsym hD i hi t (k + 1) (by omega)
    have h1 := sylvester a k i i hne
    rw [← D_succ, B_symm hsym k (fun m hm => hne m (by omega)) (by omega) k i (by omega) hi] at h1
    have p0 := hD k (by omega)
    have p1 := hD (k + 1) (by omega)
    have q1 := Int.mul_pos p0 ih
    have q2 := sq_nonneg (B a k i k)
    have h2 : 0 < D a (k + 1) * B a k i i := by omega
    rcases (by omega : 0 < B a k i i ∨ B a k i i ≤ 0) with h | h
    · exact h
    · have h3 := Int.mul_le_mul_of_nonneg_left h (Int.le_of_lt p1)
      rw [Int.mul_zero] at h3
      omega

/-- .. and at most d_k times the form's own. -/
theorem diag_le (hsym : ∀ i j, i < n → j < n → a i j = a j i) (hD : ∀ m, m ≤ n → 0 < D a m) (i : Nat) (hi : i < n) : ∀ k, k ≤ i → B a k i i ≤ D a k * a i i
  | 0, _ => by rw [B_zero, D_zero]; omega
  | k + 1, hk => by
    have hne : ∀ m, m ≤ k + 1 → D a m ≠ 0 := fun m hm => by have := hD m (by omega); omega
    have ih := diag_le hsym hD i hi k (by omega)
    have h1 := sylvester a k i i hne
    rw [← D_succ, B_symm hsym k (fun m hm => hne m (by omega)) (by omega) k i (by omega) hi] at h1
    have q2 := sq_nonneg (B a k i k)
    have h2 := Int.mul_le_mul_of_nonneg_left ih (Int.le_of_lt (hD (k + 1) (by omega)))
    have e : D a (k + 1) * (D a k * a i i) = D a k * (D a (k + 1) * a i i) := by grind
    rw [e] at h2
    exact Int.le_of_mul_le_mul_left (by omega : D a k * B a (k + 1) i i ≤ D a k * (D a (k + 1) * a i i)) (hD k (by omega))

/-- The square of lambda(i, j). -/
theorem lambda_sq (hsym : ∀ i j, i < n → j < n → a i j = a j i) (hD : ∀ m, m ≤ n → 0 < D a m) (i j : Nat) (hji : j < i) (hi : i < n) : B a j i j * B a j i j ≤ D a (j + 1) * (D a j * a i i) := by
  have hne : ∀ m, m ≤ j + 1 → D a m ≠ 0 := fun m hm => by have := hD m (by omega); omega
  have h1 := sylvester a j i i hne
  rw [← D_succ, B_symm hsym j (fun m hm => hne m (by omega)) (by omega) j i (by omega) hi] at h1
  have p := Int.mul_pos (hD j (by omega)) (diag_pos hsym hD i hi (i - j - 1) (j + 1) (by omega))
  have h2 := Int.mul_le_mul_of_nonneg_left (diag_le hsym hD i hi j (by omega)) (Int.le_of_lt (hD (j + 1) (by omega)))
  omega

theorem pow_ge_one {c : Int} (h : 1 ≤ c) : ∀ m : Nat, 1 ≤ c ^ m
  | 0 => by rw [Int.pow_zero]; omega
  | m + 1 => by
    have h1 := pow_ge_one h m
    have h2 := Int.mul_le_mul_of_nonneg_left h (show 0 ≤ c ^ m by omega)
    rw [Int.pow_succ]
    omega

/-- A row all of whose pairs are sized: its diagonal entry, by a bound of the leading minors. -/
theorem sized_row (hsym : ∀ i j, i < n → j < n → a i j = a j i) (hD : ∀ m, m ≤ n → 0 < D a m) {c : Int} (hc : ∀ m, m ≤ n → D a m ≤ c) (i : Nat) (hi : i < n) (hs : ∀ j, j < i → 2 * (B a j i j).natAbs ≤ (D a (j + 1)).natAbs) :
    ∀ t k, k + t = i → B a k i i ≤ c ^ (t + 1) * (t + 1)
  | 0, k, hk => by
    obtain rfl : k = i := hk
    rw [← D_succ]
    have h := hc (k + 1) (by omega)
    have e : c ^ (0 + 1) * ((0 : Nat) + 1 : Int) = c := by rw [Int.pow_succ, Int.pow_zero]; simp
    rw [show c ^ (0 + 1) * (((0 : Nat) : Int) + 1) = c from e]
    exact h
  | t + 1, k, hk => by
    have hne : ∀ m, m ≤ k + 1 → D a m ≠ 0 := fun m hm => by have := hD m (by omega); omega
    have ih := sized_row hsym hD hc i hi hs t (k + 1) (by omega)
    have hp := diag_pos hsym hD i hi t (k + 1) (by omega)
    have h1 := sylvester a k i i hne
    rw [← D_succ, B_symm hsym k (fun m hm => hne m (by omega)) (by omega) k i (by omega) hi] at h1
    have h2 := sq_abs (hs k (by omega))
    have p1 := hD (k + 1) (by omega)
    have hc1 : 1 ≤ c := by have := hc (k + 1) (by omega); omega
    have g0 : 0 ≤ c ^ (t + 1) * ((t : Int) + 1) := Int.mul_nonneg (by have := pow_ge_one hc1 (t + 1); omega) (by omega)
    -- D_(k+1) B_k <= D_k B_(k+1) + D_(k+1)^2 <= D_(k+1) (c B_(k+1) + c)
    have h3 : D a k * B a (k + 1) i i ≤ D a (k + 1) * (c * B a (k + 1) i i) := by
      have e1 := Int.mul_le_mul_of_nonneg_right (hc k (by omega)) (Int.le_of_lt hp)
      have e2 : 0 ≤ c * B a (k + 1) i i := Int.mul_nonneg (by omega) (Int.le_of_lt hp)
      have e3 := Int.mul_le_mul_of_nonneg_right (show 1 ≤ D a (k + 1) by omega) e2
      rw [Int.one_mul] at e3
      exact Int.le_trans e1 e3
    have h4 : B a k i k * B a k i k ≤ D a (k + 1) * c := by
      have e1 := Int.mul_le_mul_of_nonneg_left (hc (k + 1) (by omega)) (Int.le_of_lt p1)
      have e2 := sq_nonneg (B a k i k)
      omega
    have h5 : D a (k + 1) * B a k i i ≤ D a (k + 1) * (c * B a (k + 1) i i + c) := by
      rw [Int.mul_add]; omega
    have h6 := Int.le_of_mul_le_mul_left h5 p1
    have h7 := Int.mul_le_mul_of_nonneg_left ih (show 0 ≤ c by omega)
    have h8 : c ≤ c ^ (t + 1 + 1) := by
      have : (1 : Int) ≤ c ^ (t + 1) := pow_ge_one hc1 (t + 1)
      have := Int.mul_le_mul_of_nonneg_right this (show 0 ≤ c by omega)
      rw [Int.pow_succ]
      omega
    have e : c * (c ^ (t + 1) * ((t : Int) + 1)) + c ^ (t + 1 + 1) = c ^ (t + 1 + 1) * (((t + 1 : Nat) : Int) + 1) := by
      rw [Int.pow_succ c (t + 1)]
      rw [Int.natCast_add]
      grind
    omega
end Go.Proofs.YtfpcfcegdjlggaaGreat.Minor
namespace Go.Proofs.YtfpcfcegdjlggaaGreat.Minor

theorem sq_absE {x d : Int} {E : Nat} (h : 2 * x.natAbs ≤ E * d.natAbs) : 4 * (x * x) ≤ ((E : Int) * E) * (d * d) := by
  have h1 := Nat.mul_le_mul h h
  have h2 : ((2 * x.natAbs * (2 * x.natAbs) : Nat) : Int) ≤ ((E * d.natAbs * (E * d.natAbs) : Nat) : Int) := Int.ofNat_le.2 h1
  have e1 : ((2 * x.natAbs * (2 * x.natAbs) : Nat) : Int) = 4 * (x * x) := by
    rw [show 2 * x.natAbs * (2 * x.natAbs) = 4 * (x.natAbs * x.natAbs) from by grind]
    rw [Int.natCast_mul, Int.natAbs_mul_self]; rfl
  have e2 : ((E * d.natAbs * (E * d.natAbs) : Nat) : Int) = ((E : Int) * E) * (d * d) := by
    rw [show E * d.natAbs * (E * d.natAbs) = E * E * (d.natAbs * d.natAbs) from by grind]
    rw [Int.natCast_mul, Int.natAbs_mul_self, Int.natCast_mul]
  rw [e1, e2] at h2
  exact h2

theorem abs_of_sq {x y : Int} (h : x * x ≤ y * y) : x.natAbs ≤ y.natAbs := by
  rcases Nat.lt_or_ge y.natAbs x.natAbs with e | e
  · have h1 := Nat.mul_self_lt_mul_self e
    have h2 : ((y.natAbs * y.natAbs : Nat) : Int) < ((x.natAbs * x.natAbs : Nat) : Int) := Int.ofNat_lt.2 h1
    rw [Int.natAbs_mul_self, Int.natAbs_mul_self] at h2
    omega
  · exact e

variable {a b : Nat → Nat → Int} {n : Nat}

/-- A row whose pairs are bounded: its diagonal entry. -/
theorem row_bound (hsym : ∀ i j, i < n → j < n → a i j = a j i) (hD : ∀ m, m ≤ n → 0 < D a m) {c : Int} (hc : ∀ m, m ≤ n → D a m ≤ c) {E : Nat} (hE : 1 ≤ E) (i : Nat) (hi : i < n) (hs : ∀ j, j < i → 2 * (B a j i j).natAbs ≤ E * (D a (j + 1)).natAbs) :
    ∀ t k, k + t = i → B a k i i ≤ c ^ (t + 1) * (t + 1) * ((E : Int) * E)
  | 0, k, hk => by
    obtain rfl : k = i := hk
    rw [← D_succ]
    have h := hc (k + 1) (by omega)
    have hp := hD (k + 1) (by omega)
    rw [show c ^ (0 + 1) * (((0 : Nat) : Int) + 1) = c from by rw [Int.pow_succ, Int.pow_zero]; simp]
    have h1 : (1 : Int) ≤ (E : Int) * E := by
      have := Int.mul_le_mul_of_nonneg_left (show (1 : Int) ≤ E by omega) (show (0 : Int) ≤ E by omega)
      omega
    have h2 := Int.mul_le_mul_of_nonneg_left h1 (show 0 ≤ c by omega)
    omega
  | t + 1, k, hk => by
    have hne : ∀ m, m ≤ k + 1 → D a m ≠ 0 := fun m hm => by have := hD m (by omega); omega
    have ih := row_bound hsym hD hc hE i hi hs t (k + 1) (by omega)
    have hp := diag_pos hsym hD i hi t (k + 1) (by omega)
    have h1 := sylvester a k i i hne
    rw [← D_succ, B_symm hsym k (fun m hm => hne m (by omega)) (by omega) k i (by omega) hi] at h1
    have h2 := sq_absE (hs k (by omega))
    have p1 := hD (k + 1) (by omega)
    have hc1 : 1 ≤ c := by have := hc (k + 1) (by omega); omega
    have gE : 0 ≤ (E : Int) * E := Int.mul_nonneg (by omega) (by omega)
    generalize (E : Int) * E = EE at *
    have h3 : D a k * B a (k + 1) i i ≤ D a (k + 1) * (c * B a (k + 1) i i) := by
      have e1 := Int.mul_le_mul_of_nonneg_right (hc k (by omega)) (Int.le_of_lt hp)
      have e2 : 0 ≤ c * B a (k + 1) i i := Int.mul_nonneg (by omega) (Int.le_of_lt hp)
      have e3 := Int.mul_le_mul_of_nonneg_right (show 1 ≤ D a (k + 1) by omega) e2
      rw [Int.one_mul] at e3
      exact Int.le_trans e1 e3
    have h4 : B a k i k * B a k i k ≤ D a (k + 1) * (c * EE) := by
      have e1 := Int.mul_le_mul_of_nonneg_left (hc (k + 1) (by omega)) (Int.le_of_lt p1)
      have e2 := sq_nonneg (B a k i k)
      have e3 := Int.mul_le_mul_of_nonneg_left e1 gE
      have e4 : EE * (D a (k + 1) * c) = D a (k + 1) * (c * EE) := by grind
      omega
    have h5 : D a (k + 1) * B a k i i ≤ D a (k + 1) * (c * B a (k + 1) i i + c * EE) := by
      rw [Int.mul_add]; omega
    have h6 := Int.le_of_mul_le_mul_left h5 p1
    have h7 := Int.mul_le_mul_of_nonneg_left ih (show 0 ≤ c by omega)
    have h8 : c * EE ≤ c ^ (t + 1 + 1) * EE := by
      have h9 : c ≤ c ^ (t + 1 + 1) := by
        have : (1 : Int) ≤ c ^ (t + 1) := pow_ge_one hc1 (t + 1)
        have := Int.mul_le_mul_of_nonneg_right this (show 0 ≤ c by omega)
        rw [Int.pow_succ]
        omega
      exact Int.mul_le_mul_of_nonneg_right h9 gE
    have e : c * (c ^ (t + 1) * ((t : Int) + 1) * EE) + c ^ (t + 1 + 1) * EE = c ^ (t + 1 + 1) * (((t + 1 : Nat) : Int) + 1) * EE := by
      rw [Int.pow_succ c (t + 1)]
      rw [Int.natCast_add]
      grind
    omega

/-- The pairs of a row by its diagonal entry. -/
theorem lambda_row (hsym : ∀ i j, i < n → j < n → a i j = a j i) (hD : ∀ m, m ≤ n → 0 < D a m) {c A : Int} (hc : ∀ m, m ≤ n → D a m ≤ c) (i j : Nat) (hji : j < i) (hi : i < n) (hA : a i i ≤ A) (hA1 : 1 ≤ A) {E : Nat} (hE : 2 * (c * A) ≤ (E : Int)) :
    2 * (B a j i j).natAbs ≤ E * (D a (j + 1)).natAbs := by
  have h1 := lambda_sq hsym hD i j hji hi
  have p0 := hD j (by omega)
  have p1 := hD (j + 1) (by omega)
  have c0 := hc j (by omega)
  have h2 : D a j * a i i ≤ c * A := by
    have e1 := Int.mul_le_mul_of_nonneg_left hA (Int.le_of_lt p0)
    have e2 := Int.mul_le_mul_of_nonneg_right c0 (show 0 ≤ A by omega)
    omega
  have g : 1 ≤ c * A := by
    have e1 := Int.mul_le_mul_of_nonneg_left hA1 (show 0 ≤ c by omega)
    omega
  generalize c * A = K at *
  have h3 := Int.mul_le_mul_of_nonneg_left h2 (Int.le_of_lt p1)
  have h4 : D a (j + 1) * K ≤ (D a (j + 1) * K) * (D a (j + 1) * K) := by
    have e0 : 1 ≤ D a (j + 1) * K := by
      have e1 := Int.mul_le_mul_of_nonneg_left g (Int.le_of_lt p1)
      omega
    have e1 := Int.mul_le_mul_of_nonneg_left e0 (show 0 ≤ D a (j + 1) * K by omega)
    omega
  have h5 := abs_of_sq (x := B a j i j) (y := D a (j + 1) * K) (by omega)
  rw [Int.natAbs_mul] at h5
  have h6 : 2 * K.natAbs ≤ E := by omega
  have h7 := Nat.mul_le_mul_right (D a (j + 1)).natAbs h6
  have e : 2 * K.natAbs * (D a (j + 1)).natAbs = 2 * ((D a (j + 1)).natAbs * K.natAbs) := by grind
  omega

theorem two_mul_le {x y u : Int} (hx : x * x ≤ u) (hy : y * y ≤ u) : x * y ≤ u ∧ -u ≤ x * y := by
  have h1 := sq_nonneg (x - y)
  have h2 := sq_nonneg (x + y)
  have e1 : (x - y) * (x - y) = x * x + y * y - 2 * (x * y) := by grind
  have e2 : (x + y) * (x + y) = x * x + y * y + 2 * (x * y) := by grind
  omega

/-- All entries of all stages, by the diagonal. -/
theorem entry_bound (hsym : ∀ i j, i < n → j < n → a i j = a j i) (hD : ∀ m, m ≤ n → 0 < D a m) {c F : Int} (hc : ∀ m, m ≤ n → D a m ≤ c) (hF : ∀ p, p < n → a p p ≤ F) (hF1 : 1 ≤ F) (p q : Nat) (hqp : q ≤ p) (hp : p < n) :
    ∀ t k, k + t = q → B a k p q ≤ c ^ (t + 1) * (t + 1) * F ∧ -(c ^ (t + 1) * (t + 1) * F) ≤ B a k p q
  | 0, k, hk => by
    obtain rfl : k = q := hk
    have hc0 := hc k (by omega)
    have hc1 := hc (k + 1) (by omega)
    have p0 := hD k (by omega)
    have p1 := hD (k + 1) (by omega)
    rw [show c ^ (0 + 1) * (((0 : Nat) : Int) + 1) = c from by rw [Int.pow_succ, Int.pow_zero]; simp]
    have g : c ≤ c * F := by
      have := Int.mul_le_mul_of_nonneg_left hF1 (show 0 ≤ c by omega)
      omega
    rcases Nat.lt_or_ge k p with e | e
    · have h1 := lambda_sq hsym hD p k e hp
      have h2 := Int.mul_le_mul_of_nonneg_left (hF p hp) (Int.le_of_lt p0)
      have h3 := Int.mul_le_mul_of_nonneg_right hc0 (show 0 ≤ F by omega)
      have h4 : D a k * a p p ≤ c * F := by omega
      have h5 := Int.mul_le_mul_of_nonneg_left h4 (Int.le_of_lt p1)
      have h6 := Int.mul_le_mul_of_nonneg_right hc1 (show 0 ≤ c * F by omega)
      have h7 := Int.mul_le_mul_of_nonneg_right g (show 0 ≤ c * F by omega)
      have h8 := abs_of_sq (x := B a k p k) (y := c * F) (by omega)
      omega
    · obtain rfl : p = k := by omega
      rw [← D_succ]
      omega
  | t + 1, k, hk => by
    have hne : ∀ m, m ≤ k + 1 → D a m ≠ 0 := fun m hm => by have := hD m (by omega); omega
    obtain ⟨ih1, ih2⟩ := entry_bound hsym hD hc hF hF1 p q hqp hp t (k + 1) (by omega)
    have h1 := sylvester a k p q hne
    rw [← D_succ, B_symm hsym k (fun m hm => hne m (by omega)) (by omega) k q (by omega) (by omega)] at h1
    have p0 := hD k (by omega)
    have p1 := hD (k + 1) (by omega)
    have c0 := hc k (by omega)
    have hc1 : 1 ≤ c := by omega
    have sq : ∀ r, k < r → r < n → B a k r k * B a k r k ≤ D a (k + 1) * (c * F) := fun r hr hrn => by
      have l := lambda_sq hsym hD r k hr hrn
      have h2 := Int.mul_le_mul_of_nonneg_left (hF r hrn) (Int.le_of_lt p0)
      have h3 := Int.mul_le_mul_of_nonneg_right c0 (show 0 ≤ F by omega)
      have h5 := Int.mul_le_mul_of_nonneg_left (show D a k * a r r ≤ c * F by omega) (Int.le_of_lt p1)
      omega
    obtain ⟨s1, s2⟩ := two_mul_le (sq p (by omega) hp) (sq q (by omega) (by omega))
    have g0 : 0 ≤ c ^ (t + 1) * ((t : Int) + 1) * F := Int.mul_nonneg (Int.mul_nonneg (by have := pow_ge_one hc1 (t + 1); omega) (by omega)) (by omega)
    have e : c * (c ^ (t + 1) * ((t : Int) + 1) * F) + c ^ (t + 1 + 1) * F = c ^ (t + 1 + 1) * (((t + 1 : Nat) : Int) + 1) * F := by
      rw [Int.pow_succ c (t + 1)]
      rw [Int.natCast_add]
      grind
    have h8 : c * F ≤ c ^ (t + 1 + 1) * F := by
      have h9 : c ≤ c ^ (t + 1 + 1) := by
        have : (1 : Int) ≤ c ^ (t + 1) := pow_ge_one hc1 (t + 1)
        have := Int.mul_le_mul_of_nonneg_right this (show 0 ≤ c by omega)
        rw [Int.pow_succ]
        omega
      exact Int.mul_le_mul_of_nonneg_right h9 (by omega)
    rw [← e]
    generalize c ^ (t + 1) * ((t : Int) + 1) * F = G at *
    generalize c ^ (t + 1 + 1) * F = G2 at *
    have m1 : D a k * B a (k + 1) p q ≤ D a (k + 1) * (c * G) ∧ -(D a (k + 1) * (c * G)) ≤ D a k * B a (k + 1) p q := by
      have u1 := Int.mul_le_mul_of_nonneg_left ih1 (Int.le_of_lt p0)
      have u2 := Int.mul_le_mul_of_nonneg_left ih2 (Int.le_of_lt p0)
      rw [Int.mul_neg] at u2
      have u3 := Int.mul_le_mul_of_nonneg_right c0 g0
      have u4 := Int.mul_le_mul_of_nonneg_right (show 1 ≤ D a (k + 1) by omega) (show 0 ≤ c * G from Int.mul_nonneg (by omega) g0)
      omega
    have h5 : D a (k + 1) * B a k p q ≤ D a (k + 1) * (c * G + c * F) := by rw [Int.mul_add]; omega
    have h5' : D a (k + 1) * (-(c * G + c * F)) ≤ D a (k + 1) * B a k p q := by rw [Int.mul_neg, Int.mul_add]; omega
    have h6 := Int.le_of_mul_le_mul_left h5 p1
    have h6' := Int.le_of_mul_le_mul_left h5' p1
    omega
end Go.Proofs.YtfpcfcegdjlggaaGreat.Minor
namespace Go.Proofs.YtfpcfcegdjlggaaGreat.Minor
variable {a b : Nat → Nat → Int} {n : Nat}

/-- Condition 4 at row k + 1. -/
def LovAt (a : Nat → Nat → Int) (k : Nat) : Prop := 3 * D a (k + 1) ≤ 4 * B a k (k + 1) (k + 1)
/-- The numbers of row i are at most M halves of the leading minors. -/
def Within (a : Nat → Nat → Int) (M i : Nat) : Prop := ∀ k, k < i → 2 * (B a k i k).natAbs ≤ M * (D a (k + 1)).natAbs

/-- Row i is under reduction, and its pairs are sized down to column j. -/
structure Work (a : Nat → Nat → Int) (n : Nat) (A : Int) (E i j : Nat) : Prop where
  below : j < i
  inside : i < n
  diag : ∀ p, p < n → p ≠ i → a p p ≤ A
  sized : ∀ p k, k < p → p < n → (p < i ∨ (p = i ∧ j ≤ k)) → SizedAt a p k
  lov : ∀ k, k + 1 < i → LovAt a k
  row : Within a (E * 2 ^ (i - j)) i

structure Tame (a : Nat → Nat → Int) (n : Nat) (c A : Int) (E : Nat) : Prop where
  sym : ∀ i j, i < n → j < n → a i j = a j i
  pos : ∀ m, m ≤ n → 0 < D a m
  le : ∀ m, m ≤ n → D a m ≤ c
  rows : (∀ p, p < n → a p p ≤ A) ∨ ∃ i j, Work a n A E i j

/-- What the bounds have to be. -/
structure Great (n : Nat) (c A : Int) (E : Nat) : Prop where
  one : 1 ≤ A
  sized : ∀ t : Nat, t < n → c ^ (t + 1) * ((t : Int) + 1) ≤ A
  start : 2 * (c * A) ≤ (E : Int)
  pos : 1 ≤ E

theorem shear_diag {i j : Nat} {q : Int} (h : Shear a b n i j q) (hji : j < i) (hi : i < n) (hD : ∀ m, m ≤ n → D a m ≠ 0) (k p : Nat) (hk : k < n) (hp : p < n) (hpi : p ≠ i) : B b k p p = B a k p p := by
  by_cases e : k ≤ j
  · exact (shear_low h hji hi hD k e).1.same p p hp hp hpi hpi
  · exact (shear_high h hji hi hD k (by omega) hk).1 p p hp hp

theorem shear_lov {i j : Nat} {q : Int} (h : Shear a b n i j q) (hji : j < i) (hi : i < n) (hD : ∀ m, m ≤ n → D a m ≠ 0) (k : Nat) (hk : k + 1 < i) : LovAt b k ↔ LovAt a k := by
  unfold LovAt
  rw [shear_diag h hji hi hD k (k + 1) (by omega) (by omega) (by omega), shear_D h hji hi hD (k + 1) (by omega)]

/-- A size reduction at most doubles the row's numbers. -/
theorem shear_within {i j : Nat} {q : Int} (h : Shear a b n i j q) (hji : j < i) (hi : i < n) (hD : ∀ m, m ≤ n → 0 < D a m) (hq : q = (2 * B a j i j + D a (j + 1)) / (2 * D a (j + 1))) (hj : ∀ k, k < j → SizedAt a j k) {M : Nat} (hM : 1 ≤ M) (hw : Within a M i) : Within b (2 * M) i := by
  have hne : ∀ m, m ≤ n → D a m ≠ 0 := fun m hm => by have := hD m hm; omega
  intro k hk
  have h0 := hw k hk
  have hd := shear_D h hji hi hne (k + 1) (by omega)
  have e2 : 2 * M * (D a (k + 1)).natAbs = M * (D a (k + 1)).natAbs + M * (D a (k + 1)).natAbs := by rw [Nat.mul_assoc, Nat.two_mul]
  have g1 := Nat.mul_le_mul_right (D a (k + 1)).natAbs hM
  rw [Nat.one_mul] at g1
  rcases Nat.lt_trichotomy k j with e | e | e
  · have h1 := shear_lambda h hji hi hne i k hk hi
    rw [if_pos ⟨rfl, by omega⟩] at h1
    have h2 : 2 * (B a k j k).natAbs ≤ (D a (k + 1)).natAbs := hj k e
    -- 2 |q| <= M + 1
    have h3 := nearest (l := B a j i j) (hD (j + 1) (by omega)) hq
    have h4 := hw j hji
    have h5 : 2 * q.natAbs ≤ M + 1 := by
      have t1 : (q * D a (j + 1)).natAbs ≤ (B a j i j).natAbs + (B a j i j - q * D a (j + 1)).natAbs := by omega
      rw [Int.natAbs_mul] at t1
      have t2 : 2 * q.natAbs * (D a (j + 1)).natAbs ≤ (M + 1) * (D a (j + 1)).natAbs := by
        rw [Nat.add_mul, Nat.one_mul, Nat.mul_assoc]
        omega
      exact Nat.le_of_mul_le_mul_right t2 (by have := hD (j + 1) (by omega); omega)
    have h6 : (q * B a k j k).natAbs ≤ M * (B a k j k).natAbs := by
      rw [Int.natAbs_mul]
      exact Nat.mul_le_mul_right _ (by omega)
    have h7 := Nat.mul_le_mul_left M h2
    have e3 : M * (2 * (B a k j k).natAbs) = 2 * (M * (B a k j k).natAbs) := by grind
    have h8 : (B a k i k - q * B a k j k).natAbs ≤ (B a k i k).natAbs + (q * B a k j k).natAbs := by omega
    rw [h1, hd, e2]
    omega
  · subst e
    have h1 : 2 * (B b k i k).natAbs ≤ (D b (k + 1)).natAbs := shear_sized h hji hi hD hq
    rw [hd] at h1 ⊢
    rw [e2]
    omega
  · have h1 := shear_lambda h hji hi hne i k hk hi
    rw [if_neg (by omega)] at h1
    rw [h1, hd, e2]
    omega

/-- A form all of whose rows are calm, sheared at the first pair that is not sized. -/
theorem calm_shear {c A : Int} {E i j : Nat} {q : Int} (hg : Great n c A E) (hsym : ∀ i j, i < n → j < n → a i j = a j i) (hD : ∀ m, m ≤ n → 0 < D a m) (hc : ∀ m, m ≤ n → D a m ≤ c) (hA : ∀ p, p < n → a p p ≤ A) (h : Shear a b n i j q) (hji : j < i) (hi : i < n) (hq : q = (2 * B a j i j + D a (j + 1)) / (2 * D a (j + 1)))
    (hold : ∀ p k, k < p → p < n → (p < i ∨ (p = i ∧ j < k)) → SizedAt a p k) (hlov : ∀ k, k + 1 < i → LovAt a k) : Work b n A E i j := by
  have hne : ∀ m, m ≤ n → D a m ≠ 0 := fun m hm => by have := hD m hm; omega
  refine ⟨hji, hi, fun p hp hpi => by rw [h.same p p hp hp hpi hpi]; exact hA p hp, fun p k hk hp ho => ?_, fun k hk => (shear_lov h hji hi hne k hk).2 (hlov k hk), fun k hk => ?_⟩
  · by_cases e : p = i ∧ k = j
    · obtain ⟨rfl, rfl⟩ := e
      exact shear_sized h hji hi hD hq
    · exact (shear_sized_old h hji hi hne p k hk hp (by omega)).2 (hold p k hk hp (by omega))
  · have h1 := shear_within h hji hi hD hq (fun k hk => hold j k hk (by omega) (.inl hji)) hg.pos (fun k hk => lambda_row hsym hD hc i k hk hi (hA i hi) hg.one hg.start) k hk
    have h2 : 2 * E ≤ E * 2 ^ (i - j) := by
      obtain ⟨d, hd⟩ : ∃ d, i - j = d + 1 := ⟨i - j - 1, by omega⟩
      rw [hd, Nat.pow_succ]
      have := Nat.mul_le_mul_left E (Nat.one_le_two_pow (n := d))
      have e : E * (2 ^ d * 2) = 2 * (E * 2 ^ d) := by grind
      omega
    exact Nat.le_trans h1 (Nat.mul_le_mul_right _ h2)

/-- A row under reduction that is sized is calm. -/
theorem Work.calm {c A : Int} {E i j : Nat} (hg : Great n c A E) (hsym : ∀ i j, i < n → j < n → a i j = a j i) (hD : ∀ m, m ≤ n → 0 < D a m) (hc : ∀ m, m ≤ n → D a m ≤ c) (h : Work a n A E i j) (hs : ∀ k, k < i → SizedAt a i k) : ∀ p, p < n → a p p ≤ A := fun p hp => by
  by_cases e : p = i
  · have h1 := row_bound hsym hD hc (E := 1) (Nat.le_refl _) i h.inside (fun k hk => by rw [Nat.one_mul]; exact hs k hk) i 0 (by omega)
    rw [B_zero] at h1
    have h2 := hg.sized i h.inside
    rw [e]
    have e1 : c ^ (i + 1) * ((i : Int) + 1) * (((1 : Nat) : Int) * ((1 : Nat) : Int)) = c ^ (i + 1) * ((i : Int) + 1) := by simp
    omega
  · exact h.diag p hp e

/-- A size reduction keeps a form tame .. -/
theorem Tame.shear {c A : Int} {E i j : Nat} {q : Int} (hg : Great n c A E) (ht : Tame a n c A E) (h : Shear a b n i j q) (hji : j < i) (hi : i < n) (hq : q = (2 * B a j i j + D a (j + 1)) / (2 * D a (j + 1))) (hbad : ¬SizedAt a i j)
    (hold : ∀ p k, k < p → p < n → (p < i ∨ (p = i ∧ j < k)) → SizedAt a p k) (hlov : ∀ k, k + 1 < i → LovAt a k) : Tame b n c A E := by
  have hne : ∀ m, m ≤ n → D a m ≠ 0 := fun m hm => by have := ht.pos m hm; omega
  refine ⟨fun p c hp hc => shear_symm h ht.sym hji hi p c hp hc, fun m hm => by rw [shear_D h hji hi hne m hm]; exact ht.pos m hm, fun m hm => by rw [shear_D h hji hi hne m hm]; exact ht.le m hm, .inr ⟨i, j, ?_⟩⟩
  rcases ht.rows with hA | ⟨i0, j0, hw⟩
  · exact calm_shear hg ht.sym ht.pos ht.le hA h hji hi hq hold hlov
  · rcases Nat.lt_trichotomy i i0 with e | e | e
    · exact absurd (hw.sized i j hji hi (.inl e)) hbad
    · subst e
      have hj : j < j0 := by
        rcases Nat.lt_or_ge j j0 with e | e
        · exact e
        · exact absurd (hw.sized i j hji hi (.inr ⟨rfl, e⟩)) hbad
      refine ⟨hji, hi, fun p hp hpi => by rw [h.same p p hp hp hpi hpi]; exact hw.diag p hp hpi, fun p k hk hp ho => ?_, fun k hk => (shear_lov h hji hi hne k hk).2 (hlov k hk), fun k hk => ?_⟩
      · by_cases e : p = i ∧ k = j
        · obtain ⟨rfl, rfl⟩ := e
          exact shear_sized h hji hi ht.pos hq
        · exact (shear_sized_old h hji hi hne p k hk hp (by omega)).2 (hold p k hk hp (by omega))
      · have hp1 : 1 ≤ E * 2 ^ (i - j0) := Nat.mul_pos hg.pos (Nat.two_pow_pos _)
        have h1 := shear_within h hji hi ht.pos hq (fun k hk => hold j k hk (by omega) (.inl hji)) hp1 hw.row k hk
        have h2 : 2 * (E * 2 ^ (i - j0)) ≤ E * 2 ^ (i - j) := by
          have hb := hw.below
          obtain ⟨d, hd⟩ : ∃ d, i - j = (i - j0 + d) + 1 := ⟨i - j - (i - j0) - 1, by omega⟩
          rw [hd, Nat.pow_succ, Nat.pow_add]
          have := Nat.mul_le_mul_left (E * 2 ^ (i - j0)) (Nat.one_le_two_pow (n := d))
          have e : E * (2 ^ (i - j0) * 2 ^ d * 2) = 2 * (E * 2 ^ (i - j0) * 2 ^ d) := by grind
          omega
        exact Nat.le_trans h1 (Nat.mul_le_mul_right _ h2)
    · exact calm_shear hg ht.sym ht.pos ht.le (hw.calm hg ht.sym ht.pos ht.le fun k hk => hold i0 k hk hw.inside (.inl e)) h hji hi hq hold hlov

theorem tr_lt {s p n : Nat} (hs : s + 1 < n) (hp : p < n) : tr s p < n := by unfold tr; split <;> (try split) <;> omega

/-- .. and so does an exchange where condition 4 fails. -/
theorem Tame.swap {c A : Int} {E s : Nat} (hg : Great n c A E) (ht : Tame a n c A E) (h : ∀ p c, p < n → c < n → b p c = a (tr s p) (tr s c)) (hs : s + 1 < n) (hl : 4 * B a s (s + 1) (s + 1) < 3 * D a (s + 1)) (hold : ∀ p k, k < p → p ≤ s + 1 → SizedAt a p k) : Tame b n c A E := by
  obtain ⟨h0, h1, h2⟩ := swap_D h hs ht.sym ht.pos hl
  have hA : ∀ p, p < n → a p p ≤ A := by
    rcases ht.rows with hA | ⟨i, j, hw⟩
    · exact hA
    · refine hw.calm hg ht.sym ht.pos ht.le fun k hk => hold i k hk ?_
      rcases Nat.lt_or_ge (s + 1) i with e | e
      · have := hw.lov s e
        unfold LovAt at this
        omega
      · exact e
  refine ⟨fun p c hp hc => by rw [h p c hp hc, h c p hc hp]; exact ht.sym _ _ (tr_lt hs hp) (tr_lt hs hc), fun m hm => ?_, fun m hm => ?_, .inl fun p hp => by rw [h p p hp hp]; exact hA _ (tr_lt hs hp)⟩
  · by_cases e : m = s + 1
    · rw [e]; exact h0
    · rw [h2 m hm e]; exact ht.pos m hm
  · by_cases e : m = s + 1
    · rw [e]; have := ht.le (s + 1) (by omega); omega
    · rw [h2 m hm e]; exact ht.le m hm

/-- THE BOUND of all diagonal entries. -/
theorem Tame.diag {c A : Int} {E : Nat} (hg : Great n c A E) (ht : Tame a n c A E) (p : Nat) (hp : p < n) : a p p ≤ A * (((E * 2 ^ n : Nat) : Int) * ((E * 2 ^ n : Nat) : Int)) := by
  have hM : 1 ≤ E * 2 ^ n := Nat.mul_pos hg.pos (Nat.two_pow_pos _)
  have h1 : (1 : Int) ≤ ((E * 2 ^ n : Nat) : Int) * ((E * 2 ^ n : Nat) : Int) := by
    have := Int.mul_le_mul_of_nonneg_left (show (1 : Int) ≤ ((E * 2 ^ n : Nat) : Int) by omega) (show (0 : Int) ≤ ((E * 2 ^ n : Nat) : Int) by omega)
    omega
  have hA1 := hg.one
  have g : A ≤ A * (((E * 2 ^ n : Nat) : Int) * ((E * 2 ^ n : Nat) : Int)) := by
    have := Int.mul_le_mul_of_nonneg_left h1 (show 0 ≤ A by omega)
    omega
  rcases ht.rows with hA | ⟨i, j, hw⟩
  · have := hA p hp; omega
  · by_cases e : p = i
    · subst e
      have h2 := row_bound ht.sym ht.pos ht.le (E := E * 2 ^ n) hM p hp (fun k hk => Nat.le_trans (hw.row k hk) (Nat.mul_le_mul_right _ (Nat.mul_le_mul_left _ (Nat.pow_le_pow_right (by omega) (by omega))))) p 0 (by omega)
      rw [B_zero] at h2
      exact Int.le_trans h2 (Int.mul_le_mul_of_nonneg_right (hg.sized p hp) (by omega))
    · have := hw.diag p hp e; omega

/-- .. and of all entries. -/
theorem Tame.entry {c A : Int} {E : Nat} (hg : Great n c A E) (ht : Tame a n c A E) (p q : Nat) (hp : p < n) (hq : q < n) : (a p q).natAbs ≤ (A * (A * (((E * 2 ^ n : Nat) : Int) * ((E * 2 ^ n : Nat) : Int)))).natAbs := by
  have hM : 1 ≤ E * 2 ^ n := Nat.mul_pos hg.pos (Nat.two_pow_pos _)
  have h1 : (1 : Int) ≤ ((E * 2 ^ n : Nat) : Int) * ((E * 2 ^ n : Nat) : Int) := by
    have := Int.mul_le_mul_of_nonneg_left (show (1 : Int) ≤ ((E * 2 ^ n : Nat) : Int) by omega) (show (0 : Int) ≤ ((E * 2 ^ n : Nat) : Int) by omega)
    omega
  have hA1 := hg.one
  have hF1 : 1 ≤ A * (((E * 2 ^ n : Nat) : Int) * ((E * 2 ^ n : Nat) : Int)) := by
    have := Int.mul_le_mul_of_nonneg_left h1 (show 0 ≤ A by omega)
    omega
  have main : ∀ p q, q ≤ p → p < n → (a p q).natAbs ≤ (A * (A * (((E * 2 ^ n : Nat) : Int) * ((E * 2 ^ n : Nat) : Int)))).natAbs := fun p q hqp hp => by
    obtain ⟨u1, u2⟩ := entry_bound ht.sym ht.pos ht.le (ht.diag hg) hF1 p q hqp hp q 0 (by omega)
    rw [B_zero] at u1 u2
    have g := Int.mul_le_mul_of_nonneg_right (hg.sized q (by omega)) (show 0 ≤ A * (((E * 2 ^ n : Nat) : Int) * ((E * 2 ^ n : Nat) : Int)) by omega)
    omega
  rcases Nat.le_total q p with e | e
  · exact main p q e hp
  · rw [ht.sym p q hp hq]; exact main q p e hq
end Go.Proofs.YtfpcfcegdjlggaaGreat.Minor
namespace Go.Proofs.YtfpcfcegdjlggaaGreat.Minor
variable {a : Nat → Nat → Int} {n : Nat}

/-- The sum of f 0, .., f (n - 1). -/
def S : Nat → (Nat → Int) → Int
  | 0, _ => 0
  | n + 1, f => S n f + f n

theorem S_congr {f g : Nat → Int} : ∀ n, (∀ i, i < n → f i = g i) → S n f = S n g
  | 0, _ => rfl
  | n + 1, h => by
    unfold S
    rw [S_congr n fun i hi => h i (by omega), h n (Nat.lt_succ_self n)]
theorem S_add (f g : Nat → Int) : ∀ n, S n (fun i => f i + g i) = S n f + S n g
  | 0 => rfl
  | n + 1 => by
    unfold S
    rw [S_add f g n]
    show S n f + S n g + (f n + g n) = S n f + f n + (S n g + g n)
    omega
theorem S_smul (α : Int) (f : Nat → Int) : ∀ n, S n (fun i => α * f i) = α * S n f
  | 0 => by unfold S; rw [Int.mul_zero]
  | n + 1 => by
    unfold S
    rw [S_smul α f n, Int.mul_add]
theorem S_muls (α : Int) (f : Nat → Int) (n : Nat) : S n (fun i => f i * α) = S n f * α := by
  rw [S_congr n fun i _ => Int.mul_comm (f i) α, S_smul, Int.mul_comm]
theorem S_mul (f g : Nat → Int) (n : Nat) : S n f * S n g = S n fun i => S n fun j => f i * g j := by
  rw [S_congr (f := fun i => S n fun j => f i * g j) n fun i _ => S_smul (f i) g n, S_muls]
theorem S_zero {f : Nat → Int} : ∀ n, (∀ i, i < n → f i = 0) → S n f = 0
  | 0, _ => rfl
  | n + 1, h => by
    unfold S
    rw [S_zero n fun i hi => h i (by omega), h n (Nat.lt_succ_self n)]
    rfl
theorem S_except {f : Nat → Int} {k M : Nat} : ∀ n, (∀ i, i < n → i ≠ k → (f i).natAbs ≤ M) → (n ≤ k → (S n f).natAbs ≤ n * M) ∧ (k < n → (S n f - f k).natAbs ≤ n * M)
  | 0, _ => ⟨fun _ => by unfold S; omega, fun h => by omega⟩
  | n + 1, h => by
    obtain ⟨h1, h2⟩ := S_except n fun i hi => h i (by omega)
    unfold S
    refine ⟨fun hk => ?_, fun hk => ?_⟩
    · have e1 := h1 (by omega)
      have e2 := h n (by omega) (by omega)
      rw [Nat.add_mul, Nat.one_mul]
      omega
    · rw [Nat.add_mul, Nat.one_mul]
      by_cases e : k = n
      · subst e
        have e1 := h1 (Nat.le_refl _)
        omega
      · have e1 := h2 (by omega)
        have e2 := h n (by omega) (fun x => e x.symm)
        omega

/-- The norm of x in stage k. -/
def Nm (a : Nat → Nat → Int) (n k : Nat) (x : Nat → Int) : Int := S n fun i => S n fun j => x i * x j * B a k i j
/-- The product of x with vector k in stage k. -/
def Lk (a : Nat → Nat → Int) (n k : Nat) (x : Nat → Int) : Int := S n fun i => x i * B a k i k

theorem Nm_step (hsym : ∀ i j, i < n → j < n → a i j = a j i) (hD : ∀ m, m ≤ n → 0 < D a m) (x : Nat → Int) (k : Nat) (hk : k < n) : D a (k + 1) * Nm a n k x = D a k * Nm a n (k + 1) x + Lk a n k x * Lk a n k x := by
  have hne : ∀ m, m ≤ n → D a m ≠ 0 := fun m hm => by have := hD m hm; omega
  unfold Nm Lk
  rw [S_mul, ← S_smul, ← S_smul, ← S_add]
  refine S_congr n fun i hi => ?_
  rw [← S_smul, ← S_smul, ← S_add]
  refine S_congr n fun j hj => ?_
  have h1 := sylvester a k i j fun m hm => hne m (by omega)
  rw [← D_succ, B_symm hsym k (fun m hm => hne m (by omega)) (by omega) k j (by omega) hj] at h1
  have h2 : x i * x j * (D a (k + 1) * B a k i j - B a k i k * B a k j k) = x i * x j * (D a k * B a (k + 1) i j) := by rw [h1]
  grind

theorem Nm_pos (hsym : ∀ i j, i < n → j < n → a i j = a j i) (hD : ∀ m, m ≤ n → 0 < D a m) (x : Nat → Int) : ∀ t k, k + t = n → 0 ≤ Nm a n k x
  | 0, k, hk => by
    obtain rfl : k = n := hk
    have hz := (minors a k fun m hm => by have := hD m hm; omega).2
    unfold Nm
    rw [S_zero k fun i _ => S_zero k fun j hj => by rw [hz i j hj, Int.mul_zero]]
    exact Int.le_refl _
  | t + 1, k, hk => by
    have h1 := Nm_step hsym hD x k (by omega)
    have h2 := Int.mul_nonneg (Int.le_of_lt (hD k (by omega))) (Nm_pos hsym hD x t (k + 1) (by omega))
    have h3 := sq_nonneg (Lk a n k x)
    have p1 := hD (k + 1) (by omega)
    rcases Int.lt_or_le (Nm a n k x) 0 with e | e
    · have h4 := Int.mul_lt_mul_of_pos_left e p1
      rw [Int.mul_zero] at h4
      omega
    · exact e

theorem Nm_le (hsym : ∀ i j, i < n → j < n → a i j = a j i) (hD : ∀ m, m ≤ n → 0 < D a m) {c : Int} (hc : ∀ m, m ≤ n → D a m ≤ c) (x : Nat → Int) : ∀ k, k ≤ n → Nm a n k x ≤ c ^ k * Nm a n 0 x
  | 0, _ => by rw [Int.pow_zero, Int.one_mul]; exact Int.le_refl _
  | k + 1, hk => by
    have ih := Nm_le hsym hD hc x k (by omega)
    have h1 := Nm_step hsym hD x k (by omega)
    have h3 := sq_nonneg (Lk a n k x)
    have q0 := Nm_pos hsym hD x (n - k) k (by omega)
    have q1 := Nm_pos hsym hD x (n - k - 1) (k + 1) (by omega)
    have p0 := hD k (by omega)
    have c1 := hc (k + 1) (by omega)
    have p1 := hD (k + 1) (by omega)
    have e1 := Int.mul_le_mul_of_nonneg_right (show 1 ≤ D a k by omega) q1
    have e2 := Int.mul_le_mul_of_nonneg_right c1 q0
    have e3 := Int.mul_le_mul_of_nonneg_left ih (show 0 ≤ c by omega)
    rw [Int.pow_succ, Int.mul_comm (c ^ k) c, Int.mul_assoc]
    omega

/-- What bounds all products of x with the vectors of the stages. -/
theorem Lk_le (hsym : ∀ i j, i < n → j < n → a i j = a j i) (hD : ∀ m, m ≤ n → 0 < D a m) {c F : Int} (hc : ∀ m, m ≤ n → D a m ≤ c) (x : Nat → Int) (hF : Nm a n 0 x ≤ F) (hF1 : 1 ≤ F) (k : Nat) (hk : k < n) : (Lk a n k x).natAbs ≤ (c ^ n * F).natAbs := by
  have h1 := Nm_step hsym hD x k hk
  have q0 := Nm_pos hsym hD x (n - k) k (by omega)
  have q1 := Nm_pos hsym hD x (n - k - 1) (k + 1) (by omega)
  have g := Int.mul_nonneg (Int.le_of_lt (hD k (by omega))) q1
  have hc1 : 1 ≤ c := by have := hc 0 (by omega); have := hD 0 (by omega); omega
  have e1 := Int.mul_le_mul_of_nonneg_right (hc (k + 1) (by omega)) q0
  have e2 := Int.mul_le_mul_of_nonneg_left (Nm_le hsym hD hc x k (by omega)) (show 0 ≤ c by omega)
  have e3 : c * (c ^ k * Nm a n 0 x) = c ^ (k + 1) * Nm a n 0 x := by rw [Int.pow_succ, Int.mul_comm (c ^ k) c, Int.mul_assoc]
  have e4 : c ^ (k + 1) * Nm a n 0 x ≤ c ^ n * F := by
    obtain ⟨d, rfl⟩ : ∃ d, n = (k + 1) + d := ⟨n - (k + 1), by omega⟩
    have u1 := pow_ge_one hc1 d
    have u2 := pow_ge_one hc1 (k + 1)
    have u3 := Int.mul_le_mul_of_nonneg_left hF (show 0 ≤ c ^ (k + 1) by omega)
    have u4 := Int.mul_le_mul_of_nonneg_left u1 (show 0 ≤ c ^ (k + 1) * F from Int.mul_nonneg (by omega) (by omega))
    rw [Int.pow_add c (k + 1) d]
    have u5 : c ^ (k + 1) * F * c ^ d = c ^ (k + 1) * c ^ d * F := by grind
    omega
  have e5 : 1 ≤ c ^ n * F := by
    have u1 := pow_ge_one hc1 n
    have u2 := Int.mul_le_mul_of_nonneg_left hF1 (show 0 ≤ c ^ n by omega)
    omega
  have e6 := Int.mul_le_mul_of_nonneg_left e5 (show 0 ≤ c ^ n * F by omega)
  exact abs_of_sq (by omega)

/-- THE COORDINATES: each is at most R (1 + n G)^n. -/
theorem coords (hsym : ∀ i j, i < n → j < n → a i j = a j i) (hD : ∀ m, m ≤ n → 0 < D a m) (x : Nat → Int) {R G : Nat} (hR : ∀ k, k < n → (Lk a n k x).natAbs ≤ R) (hG : ∀ k i, k < i → i < n → (B a k i k).natAbs ≤ G) :
    ∀ t k, k + t = n → ∀ i, k ≤ i → i < n → (x i).natAbs ≤ R * (1 + n * G) ^ t
  | 0, k, hk, i, h1, h2 => by omega
  | t + 1, k, hk, i, h1, h2 => by
    have hne : ∀ m, m ≤ n → D a m ≠ 0 := fun m hm => by have := hD m hm; omega
    have ih := coords hsym hD x hR hG t (k + 1) (by omega)
    have g1 : R * (1 + n * G) ^ (t + 1) = R * (1 + n * G) ^ t + n * (R * (1 + n * G) ^ t * G) := by rw [Nat.pow_succ]; grind
    have g2 : R ≤ R * (1 + n * G) ^ t := by
      have := Nat.mul_le_mul_left R (Nat.one_le_pow t (1 + n * G) (by omega))
      omega
    by_cases e : i = k
    · subst e
      have hs : ∀ j, j < n → j ≠ i → (x j * B a i j i).natAbs ≤ R * (1 + n * G) ^ t * G := fun j hj hji => by
        rw [Int.natAbs_mul]
        rcases Nat.lt_or_ge j i with e | e
        · have hz := (minors a i fun m hm => hne m (by omega)).2
          rw [B_symm hsym i (fun m hm => hne m (by omega)) (by omega) j i (by omega) (by omega), hz i j e]
          simp
        · exact Nat.mul_le_mul (ih j (by omega) hj) (hG i j (by omega) hj)
      have h3 := (S_except (f := fun j => x j * B a i j i) n hs).2 (by omega)
      have h4 := hR i (by omega)
      unfold Lk at h4
      have h5 : (x i * B a i i i).natAbs ≤ R + n * (R * (1 + n * G) ^ t * G) := by omega
      rw [← D_succ, Int.natAbs_mul] at h5
      have p1 := hD (i + 1) (by omega)
      have h6 := Nat.mul_le_mul_left (x i).natAbs (show 1 ≤ (D a (i + 1)).natAbs by omega)
      omega
    · have h3 := ih i (by omega) h2
      rw [g1]
      omega
end Go.Proofs.YtfpcfcegdjlggaaGreat.Minor
namespace Go.Proofs.YtfpcfcegdjlggaaGreat.Minor
variable {a h h' : Nat → Nat → Int} {n : Nat}

theorem S_single (f : Nat → Int) (k : Nat) : ∀ n, S n (fun i => if i = k then f i else 0) = if k < n then f k else 0
  | 0 => rfl
  | n + 1 => by
    show S n _ + (if n = k then f n else 0) = _
    rw [S_single f k n]
    by_cases e : n = k
    · subst e; simp
    · by_cases e2 : k < n
      · rw [if_pos e2, if_neg e, if_pos (by omega)]; omega
      · rw [if_neg e2, if_neg e, if_neg (by omega)]; rfl

/-- The product of two vectors. -/
def bl (a : Nat → Nat → Int) (n : Nat) (x y : Nat → Int) : Int := S n fun r => S n fun s => x r * y s * a r s
theorem bl_left (q : Int) (x y z : Nat → Int) : bl a n (fun r => x r - q * y r) z = bl a n x z - q * bl a n y z := by
  have h1 : bl a n x z = bl a n (fun r => x r - q * y r) z + q * bl a n y z := by
    unfold bl
    rw [← S_smul, ← S_add]
    refine S_congr n fun r _ => ?_
    rw [← S_smul, ← S_add]
    refine S_congr n fun s _ => ?_
    grind
  omega
theorem bl_right (q : Int) (x y z : Nat → Int) : bl a n z (fun r => x r - q * y r) = bl a n z x - q * bl a n z y := by
  have h1 : bl a n z x = bl a n z (fun r => x r - q * y r) + q * bl a n z y := by
    unfold bl
    rw [← S_smul, ← S_add]
    refine S_congr n fun r _ => ?_
    rw [← S_smul, ← S_add]
    refine S_congr n fun s _ => ?_
    grind
  omega
theorem bl_congr {x x' y y' : Nat → Int} (hx : ∀ r, r < n → x r = x' r) (hy : ∀ r, r < n → y r = y' r) : bl a n x y = bl a n x' y' := by
  unfold bl
  exact S_congr n fun r hr => S_congr n fun s hs => by rw [hx r hr, hy s hs]
theorem bl_unit (a : Nat → Nat → Int) (p q : Nat) (hp : p < n) (hq : q < n) : bl a n (fun r => if r = p then 1 else 0) (fun s => if s = q then 1 else 0) = a p q := by
  unfold bl
  rw [S_congr (g := fun r => if r = p then a r q else 0) n fun r hr => ?_, S_single, if_pos hp]
  rw [S_congr (g := fun s => if s = q then (if r = p then 1 else 0) * a r s else 0) n fun s hs => ?_, S_single, if_pos hq]
  · split <;> simp
  · by_cases e : s = q <;> simp [e]

/-- h is a in the basis of t's columns. -/
def Cong (a : Nat → Nat → Int) (n : Nat) (t h : Nat → Nat → Int) : Prop := ∀ p q, p < n → q < n → h p q = bl a n (fun r => t r p) (fun r => t r q)

theorem Cong.start (a : Nat → Nat → Int) (n : Nat) : Cong a n (fun r c => if r = c then 1 else 0) a := fun p q hp hq => (bl_unit a p q hp hq).symm

theorem Cong.shear {t t' : Nat → Nat → Int} {i j : Nat} {q : Int} (hc : Cong a n t h) (hs : Shear h h' n i j q) (hj : j < n) (hi : i < n) (ht : ∀ r c, r < n → c < n → t' r c = if c = i then t r i - q * t r j else t r c) : Cong a n t' h' := fun p c hp hc' => by
  have col : ∀ c, c < n → c ≠ i → ∀ r, r < n → t' r c = t r c := fun c hc hci r hr => by rw [ht r c hr hc, if_neg hci]
  have coli : ∀ r, r < n → t' r i = t r i - q * t r j := fun r hr => by rw [ht r i hr hi, if_pos rfl]
  by_cases ep : p = i
  · by_cases ec : c = i
    · rw [ep, ec, hs.both, bl_congr coli coli, bl_left, bl_right, bl_right, hc i i hi hi, hc j i hj hi, hc i j hi hj, hc j j hj hj]
      grind
    · rw [ep, hs.row c hc' ec, bl_congr coli (col c hc' ec), bl_left, hc i c hi hc', hc j c hj hc']
  · by_cases ec : c = i
    · rw [ec, hs.col p hp ep, bl_congr (col p hp ep) coli, bl_right, hc p i hp hi, hc p j hp hj]
    · rw [hs.same p c hp hc' ep ec, bl_congr (col p hp ep) (col c hc' ec), hc p c hp hc']

theorem Cong.swap {t t' : Nat → Nat → Int} {s : Nat} (hc : Cong a n t h) (hs : s + 1 < n) (hh : ∀ p c, p < n → c < n → h' p c = h (tr s p) (tr s c)) (ht : ∀ r c, r < n → c < n → t' r c = t r (tr s c)) : Cong a n t' h' := fun p c hp hc' => by
  rw [hh p c hp hc', hc _ _ (tr_lt hs hp) (tr_lt hs hc')]
  exact (bl_congr (fun r hr => ht r p hr hp) (fun r hr => ht r c hr hc')).symm

/-- The entries of the base change, by the diagonal of the form. -/
theorem Cong.entry {t : Nat → Nat → Int} (hc : Cong a n t h) (hsym : ∀ i j, i < n → j < n → a i j = a j i) (hD : ∀ m, m ≤ n → 0 < D a m) {c F : Int} (hcD : ∀ m, m ≤ n → D a m ≤ c) (hF : ∀ p, p < n → h p p ≤ F) (hF1 : 1 ≤ F) {G : Nat} (hG : ∀ k i, k < i → i < n → (B a k i k).natAbs ≤ G) (r p : Nat) (hr : r < n) (hp : p < n) :
    (t r p).natAbs ≤ (c ^ n * F).natAbs * (1 + n * G) ^ n := by
  refine coords hsym hD (fun r => t r p) (fun k hk => Lk_le hsym hD hcD (fun r => t r p) ?_ hF1 k hk) hG n 0 (by omega) r (Nat.zero_le _) hr
  have h1 : Nm a n 0 (fun r => t r p) = bl a n (fun r => t r p) (fun r => t r p) := by
    unfold Nm bl
    exact S_congr n fun i _ => S_congr n fun j _ => by rw [B_zero]
  rw [h1, ← hc p p hp hp]
  exact hF p hp
end Go.Proofs.YtfpcfcegdjlggaaGreat.Minor
namespace Go.Proofs.YtfpcfcegdjlggaaGreat.Minor
variable {h h' t t' u : Nat → Nat → Int} {n : Nat}

/-- The identity with one more entry, -q in row j and column i. -/
def Elem (u : Nat → Nat → Int) (n i j : Nat) (q : Int) : Prop := ∀ r c, r < n → c < n → u r c = if c = i ∧ r = j then -q else if r = c then 1 else 0
/-- The identity with columns s and s + 1 exchanged. -/
def Exch (u : Nat → Nat → Int) (n s : Nat) : Prop := ∀ r c, r < n → c < n → u r c = if r = tr s c then 1 else 0

theorem Elem.col {i j : Nat} {q : Int} (hu : Elem u n i j q) (c : Nat) (hc : c < n) (hci : c ≠ i) : ∀ r, r < n → u r c = if r = c then 1 else 0 := fun r hr => by rw [hu r c hr hc, if_neg (fun x => hci x.1)]
theorem Elem.coli {i j : Nat} {q : Int} (hu : Elem u n i j q) (hji : j < i) (hi : i < n) : ∀ r, r < n → u r i = (if r = i then 1 else 0) - q * (if r = j then 1 else 0) := fun r hr => by
  rw [hu r i hr hi]
  by_cases e : r = j
  · rw [if_pos ⟨rfl, e⟩, if_neg (by omega), if_pos e]; omega
  · rw [if_neg (fun x => e x.2), if_neg e]; omega

theorem Elem.shear {i j : Nat} {q : Int} (hu : Elem u n i j q) (hji : j < i) (hi : i < n) (hh : ∀ p c, p < n → c < n → h' p c = bl h n (fun r => u r p) (fun r => u r c)) : Shear h h' n i j q := by
  have hj : j < n := by omega
  refine ⟨fun p c hp hc hpi hci => ?_, fun c hc hci => ?_, fun p hp hpi => ?_, ?_⟩
  · rw [hh p c hp hc, bl_congr (hu.col p hp hpi) (hu.col c hc hci), bl_unit h p c hp hc]
  · rw [hh i c hi hc, bl_congr (hu.coli hji hi) (hu.col c hc hci), bl_left, bl_unit h i c hi hc, bl_unit h j c hj hc]
  · rw [hh p i hp hi, bl_congr (hu.col p hp hpi) (hu.coli hji hi), bl_right, bl_unit h p i hp hi, bl_unit h p j hp hj]
  · rw [hh i i hi hi, bl_congr (hu.coli hji hi) (hu.coli hji hi), bl_left, bl_right, bl_right, bl_unit h i i hi hi, bl_unit h i j hi hj, bl_unit h j i hj hi, bl_unit h j j hj hj]
    grind

theorem Exch.swap {s : Nat} (hu : Exch u n s) (hs : s + 1 < n) (hh : ∀ p c, p < n → c < n → h' p c = bl h n (fun r => u r p) (fun r => u r c)) (p c : Nat) (hp : p < n) (hc : c < n) : h' p c = h (tr s p) (tr s c) := by
  rw [hh p c hp hc, bl_congr (fun r hr => hu r p hr hp) (fun r hr => hu r c hr hc), bl_unit h _ _ (tr_lt hs hp) (tr_lt hs hc)]

theorem Elem.prod {i j : Nat} {q : Int} (hu : Elem u n i j q) (hji : j < i) (hi : i < n) (ht : ∀ r c, r < n → c < n → t' r c = S n fun k => t r k * u k c) (r c : Nat) (hr : r < n) (hc : c < n) : t' r c = if c = i then t r i - q * t r j else t r c := by
  rw [ht r c hr hc]
  by_cases e : c = i
  · subst e
    have h1 : S n (fun k => t r k * u k c) + q * S n (fun k => if k = j then t r k else 0) = S n (fun k => if k = c then t r k else 0) := by
      rw [← S_smul, ← S_add]
      refine S_congr n fun k hk => ?_
      rw [hu.coli hji hi k hk]
      by_cases e1 : k = c
      · rw [if_pos e1, if_pos e1, if_neg (by omega), if_neg (by omega)]; grind
      · rw [if_neg e1, if_neg e1]
        by_cases e2 : k = j
        · rw [if_pos e2, if_pos e2]; grind
        · rw [if_neg e2, if_neg e2]; grind
    rw [S_single, S_single, if_pos (by omega), if_pos hc] at h1
    rw [if_pos rfl]
    omega
  · rw [if_neg e, S_congr (g := fun k => if k = c then t r k else 0) n fun k hk => ?_, S_single, if_pos hc]
    rw [hu.col c hc e k hk]
    by_cases e1 : k = c <;> simp [e1]

theorem Exch.prod {s : Nat} (hu : Exch u n s) (hs : s + 1 < n) (ht : ∀ r c, r < n → c < n → t' r c = S n fun k => t r k * u k c) (r c : Nat) (hr : r < n) (hc : c < n) : t' r c = t r (tr s c) := by
  rw [ht r c hr hc, S_congr (g := fun k => if k = tr s c then t r k else 0) n fun k hk => ?_, S_single, if_pos (tr_lt hs hc)]
  rw [hu k c hk hc]
  by_cases e1 : k = tr s c <;> simp [e1]
end Go.Proofs.YtfpcfcegdjlggaaGreat.Minor
namespace Go.Proofs.YtfpcfcegdjlggaaGreat
open Go.RowKit Minor

set_option maxRecDepth 100000 in
set_option maxHeartbeats 2000000 in
theorem rproduct_mat (g g2 n k m cap cap2 t : Nat) (R R2 : Nat → Nat) (A B : Nat → Nat → Int) (w : World) (hA : MatZ w g n k R A) (hB : MatZ w g2 k m R2 B) (h1 : 1 ≤ n) (h2 : n ≤ 16) (h3 : 1 ≤ k) (h4 : k ≤ 16) (h5 : 1 ≤ m) (h6 : m ≤ 16) (ht : t ≤ 8) (hs : ∀ i j, i < n → j < k → (A i j).natAbs ≤ cB t) (hs2 : ∀ i j, i < k → j < m → (B i j).natAbs ≤ cB t) :
    Calls Tryz.prog 61 #[.slice (some ⟨g, 0, none⟩) n cap, .slice (some ⟨g2, 0, none⟩) k cap2] w (GivesMat w n m (mulM k A B)) := by
  have HC : Hid (Calls Tryz.prog 107 #[.slice (some ⟨g, 0, none⟩) n cap, .slice (some ⟨g2, 0, none⟩) k cap2] w (GivesMatT w n m (mulM k A B))) := rmul_mat g g2 n k m cap cap2 t R R2 A B w hA hB h1 h2 h3 h4 h5 h6 ht hs hs2
  clear hA hB hs hs2
  go_enter Tryz.func61, Tryz.ntmps61
  go_wp2_with fail
  refine HC.out.mono ?_
  rintro e w1 ⟨G, cap1, R1, rfl, hM, hG, hR, hb⟩
  have HM := Lib.hid hM
  have HG := Lib.hid hG
  have HR := Lib.hid hR
  have HB := Lib.hid hb
  clear hM hG hR hb
  go_wp2_with fail
  go_ret
  exact ⟨G, cap1, R1, rfl, HM.out, HG.out, HR.out, HB.out⟩

/-- t' g t. -/
def congM (n : Nat) (H U : Nat → Nat → Int) : Nat → Nat → Int := mulM n (mulM n (fun a b => U b a) H) U

theorem mulM_bound {k t : Nat} {A B : Nat → Nat → Int} {i j : Nat} (hk : k ≤ 100) (hA : ∀ r, r < k → (A i r).natAbs ≤ cB t) (hB : ∀ r, r < k → (B r j).natAbs ≤ cB t) : (mulM k A B i j).natAbs ≤ cB (t + 2) :=
  dotZ_fits hk fun r hr => ⟨hA r hr, hB r hr⟩

set_option maxRecDepth 100000 in
set_option maxHeartbeats 2000000 in
theorem rcongruent_any (g g2 n cap cap2 t : Nat) (R R2 : Nat → Nat) (H U : Nat → Nat → Int) (w : World) (hA : MatZ w g n n R H) (hB : MatZ w g2 n n R2 U) (h1 : 1 ≤ n) (h2 : n ≤ 16) (ht : t ≤ 6) (hs : ∀ i j, i < n → j < n → (H i j).natAbs ≤ cB t) (hs2 : ∀ i j, i < n → j < n → (U i j).natAbs ≤ cB t) :
    Calls Tryz.prog 60 #[.slice (some ⟨g, 0, none⟩) n cap, .slice (some ⟨g2, 0, none⟩) n cap2] w (GivesMat w n n (congM n H U)) := by
  have HA := Lib.hid hA
  have HB := Lib.hid hB
  have HS := Lib.hid hs
  have HS2 := Lib.hid hs2
  have HS3 : Hid (∀ i j, i < n → j < n → (mulM n (fun a b => U b a) H i j).natAbs ≤ cB (t + 2)) := fun i j hi hj => mulM_bound (by omega) (fun r hr => hs2 r i hr hi) (fun r hr => hs r j hr hj)
  have HS4 : Hid (∀ i j, i < n → j < n → (U i j).natAbs ≤ cB (t + 2)) := fun i j hi hj => Nat.le_trans (hs2 i j hi hj) (cB_mono (by omega))
  clear hA hB hs hs2
  go_enter Tryz.func60, Tryz.ntmps60
  go_wp2_with fail
  refine (rtranspose_any g2 n n cap2 R2 U _ HB.out h1 h2 h1 h2 (fun i j hi hj => cB_short (k := t) (by omega) (HS2.out i j hi hj))).mono ?_
  rintro e w1 ⟨GT, capT, RT, rfl, hT, hGT, hRT, hbT⟩
  have HB1 := Lib.hid hbT
  have HT := Lib.hid hT
  clear hT hGT hRT hbT
  go_wp2_with fail
  refine (rproduct_mat GT g n n n capT cap t RT R (fun a b => U b a) H _ HT.out (HA.out.below HB1.out) h1 h2 h1 h2 h1 h2 (by omega) (fun i j hi hj => HS2.out j i hj hi) HS.out).mono ?_
  rintro e w2 ⟨G2, cap2', R2', rfl, hM, hG, hR, hb⟩
  have HB2 : Hid (Below w.heap.size w w2) := HB1.out.trans (hb.mono HB1.out.size)
  have HM := Lib.hid hM
  clear hM hG hR hb
  go_wp2_with fail
  refine (rproduct_mat G2 g2 n n n cap2' cap2 (t + 2) R2' R2 (mulM n (fun a b => U b a) H) U _ HM.out (HB.out.below HB2.out) h1 h2 h1 h2 h1 h2 (by omega) HS3.out HS4.out).mono ?_
  rintro e w3 ⟨G3, cap3, R3, rfl, hM, hG, hR, hb⟩
  have HB3 : Hid (Below w.heap.size w w3) := HB2.out.trans (hb.mono HB2.out.size)
  have HM3 := Lib.hid hM
  have HG3 : Hid (w.heap.size ≤ G3) := Nat.le_trans HB2.out.size hG
  have HR3 : Hid (∀ i, i < n → w.heap.size ≤ R3 i) := fun i hi => Nat.le_trans HB2.out.size (hR i hi)
  clear hM hG hR hb
  go_wp2_with fail
  go_ret
  exact ⟨G3, cap3, R3, rfl, HM3.out, HG3.out, HR3.out, HB3.out⟩

theorem dotZ_S (f h : Nat → Int) : ∀ n, dotZ f h n = S n fun i => f i * h i
  | 0 => rfl
  | n + 1 => by
    unfold dotZ S
    rw [dotZ_S f h n]

theorem S_swap (f : Nat → Nat → Int) (m : Nat) : ∀ n, (S n fun i => S m fun j => f i j) = S m fun j => S n fun i => f i j
  | 0 => by
    show (0 : Int) = S m fun j => (0 : Int)
    rw [S_zero m fun _ _ => rfl]
  | n + 1 => by
    show (S n fun i => S m fun j => f i j) + (S m fun j => f n j) = S m fun j => (S n fun i => f i j) + f n j
    rw [S_add, S_swap f m n]

/-- The reference's congruence is the product of the columns. -/
theorem congM_bl (n : Nat) (H U : Nat → Nat → Int) (p q : Nat) : congM n H U p q = bl H n (fun r => U r p) (fun r => U r q) := by
  unfold congM mulM bl
  rw [dotZ_S, S_congr (g := fun s => S n fun r => U r p * U s q * H r s) n fun s _ => ?_]
  · exact S_swap (fun s r => U r p * U s q * H r s) n n
  · show dotZ (fun b => U b p) (fun r => H r s) n * U s q = _
    rw [dotZ_S, ← S_muls]
    exact S_congr n fun r _ => by grind

theorem mulM_S (n : Nat) (T U : Nat → Nat → Int) (r c : Nat) : mulM n T U r c = S n fun k => T r k * U k c := dotZ_S _ _ _
end Go.Proofs.YtfpcfcegdjlggaaGreat
namespace Go.Proofs.YtfpcfcegdjlggaaGreat
open Go.RowKit Minor

theorem infoH : (Tryz.prog.info? 2).map (fun i => (i.zero, i.size, i.bytes)) = some (some (.int .i64 0), 1, 8) := by kernel_rfl
theorem infoHR : (Tryz.prog.info? 23).map (fun i => (i.zero, i.size, i.bytes)) = some (some (.slice none 0 0), 1, 24) := by kernel_rfl

/-- Row b of m numbers. -/
structure RowI (w : World) (b m : Nat) (f : Nat → Int) : Prop where
  c : ∀ j, j < m → w.cell? ⟨b, j, none⟩ = some (.int .i64 (f j))
  fr : ∀ k, w.frozen? ⟨b, k, none⟩ = false
  lt : b < w.heap.size

theorem RowI.below {w w' : World} {b m : Nat} {f : Nat → Int} (h : RowI w b m f) (hb : Below w.heap.size w w') : RowI w' b m f :=
  ⟨fun j hj => (hb.cell (p := ⟨b, j, none⟩) h.lt).trans (h.c j hj), fun k => (hb.frozen (p := ⟨b, k, none⟩) h.lt).trans (h.fr k), Nat.lt_of_lt_of_le h.lt hb.size⟩
theorem RowI.congr {w : World} {b m : Nat} {f f' : Nat → Int} (h : RowI w b m f) (he : ∀ j, j < m → f j = f' j) : RowI w b m f' := ⟨fun j hj => by rw [← he j hj]; exact h.c j hj, h.fr, h.lt⟩
theorem RowI.made (w : World) (m : Nat) (t : TypeId) : RowI (w.alloc (.cells (madeCells #[.int .i64 0] m) t)) w.heap.size m (fun _ => 0) := by
  have hg := heap_alloc_new w (.cells (madeCells #[.int .i64 0] m) t)
  refine ⟨fun j hj => ?_, fun k => frozen_of_row _ _ _ _ _ hg, by simp⟩
  rw [cell_of_row _ _ _ _ _ (0, 0) hg]
  simp [madeCells, hj, Nat.mod_one]
theorem RowI.other {w : World} {b m : Nat} {f : Nat → Int} (h : RowI w b m f) {G o : Nat} (hne : G ≠ b) (v : Value) : RowI (w.setCell ⟨G, o, none⟩ v) b m f := by
  refine ⟨fun j hj => ?_, fun k => by simp [h.fr k], by simpa [World.setCell] using h.lt⟩
  rw [World.cell?_setCell_other _ _ _ _ (by simp)]; exact h.c j hj
theorem RowI.store {w : World} {b m : Nat} {f : Nat → Int} (h : RowI w b m f) (q : Nat) (hq : q < m) (x : Int) : RowI (w.setCell ⟨b, q, none⟩ (.int .i64 x)) b m (fun j => if j = q then x else f j) := by
  refine ⟨fun j hj => ?_, fun k => by simp [h.fr k], by simpa [World.setCell] using h.lt⟩
  by_cases e : j = q
  · subst e
    rw [if_pos rfl]; exact World.cell?_setCell_same _ _ _ (h.c j hj)
  · rw [if_neg e, World.cell?_setCell_other _ _ _ _ (by simp)]; exact h.c j hj

/-- The first i of n rows of m numbers, in memory that is newer than w0. -/
structure MatP (w0 w : World) (G n m i : Nat) (R : Nat → Nat) (M : Nat → Nat → Int) : Prop where
  outer : ∀ p, p < i → ∃ c, w.cell? ⟨G, p, none⟩ = some (.slice (some ⟨R p, 0, none⟩) m c) ∧ m ≤ c
  rest : ∀ p, i ≤ p → p < n → w.cell? ⟨G, p, none⟩ = some (.slice none 0 0)
  ofr : ∀ k, w.frozen? ⟨G, k, none⟩ = false
  row : ∀ p, p < i → RowI w (R p) m (M p)
  inj : ∀ p p', p < i → p' < i → R p = R p' → p = p'
  apart : ∀ p, p < i → R p ≠ G
  lt : G < w.heap.size
  far : w0.heap.size ≤ G
  fars : ∀ p, p < i → w0.heap.size ≤ R p
  below : Below w0.heap.size w0 w

section
variable {w0 w w' : World} {G n m i : Nat} {R : Nat → Nat} {M : Nat → Nat → Int}
theorem MatP.moved (h : MatP w0 w G n m i R M) (hb : Below w.heap.size w w') : MatP w0 w' G n m i R M :=
  ⟨fun p hp => by obtain ⟨c, hc, hm⟩ := h.outer p hp; exact ⟨c, (hb.cell (p := ⟨G, p, none⟩) h.lt).trans hc, hm⟩, fun p hi hp => (hb.cell (p := ⟨G, p, none⟩) h.lt).trans (h.rest p hi hp), fun k => (hb.frozen (p := ⟨G, k, none⟩) h.lt).trans (h.ofr k), fun p hp => (h.row p hp).below hb, h.inj, h.apart, Nat.lt_of_lt_of_le h.lt hb.size, h.far, h.fars, h.below.trans (hb.mono h.below.size)⟩
theorem MatP.congr {M' : Nat → Nat → Int} (h : MatP w0 w G n m i R M) (he : ∀ p q, p < i → q < m → M p q = M' p q) : MatP w0 w G n m i R M' :=
  ⟨h.outer, h.rest, h.ofr, fun p hp => (h.row p hp).congr fun q hq => he p q hp hq, h.inj, h.apart, h.lt, h.far, h.fars, h.below⟩
theorem MatP.rebase {v : World} (h : MatP w0 w G n m i R M) (hb : Below v.heap.size v w0) : MatP v w G n m i R M :=
  ⟨h.outer, h.rest, h.ofr, h.row, h.inj, h.apart, h.lt, Nat.le_trans hb.size h.far, fun p hp => Nat.le_trans hb.size (h.fars p hp), hb.trans (h.below.mono hb.size)⟩

theorem MatP.start (w : World) (n m : Nat) (t : TypeId) (R : Nat → Nat) (M : Nat → Nat → Int) : MatP w (w.alloc (.cells (madeCells #[.slice none 0 0] n) t)) w.heap.size n m 0 R M := by
  have hg := heap_alloc_new w (.cells (madeCells #[.slice none 0 0] n) t)
  refine ⟨fun p hp => by omega, fun p _ hp => ?_, fun k => frozen_of_row _ _ _ _ _ hg, fun p hp => by omega, fun p _ hp => by omega, fun p hp => by omega, by simp, Nat.le_refl _, fun p hp => by omega, (Below.refl _ _).alloc (Nat.le_refl _) _⟩
  rw [cell_of_row _ _ _ _ _ (0, 0) hg]
  simp [madeCells, hp, Nat.mod_one]

theorem MatP.add (h : MatP w0 w G n m i R M) (hi : i < n) (t : TypeId) :
    MatP w0 ((w.alloc (.cells (madeCells #[.int .i64 0] m) t)).setCell ⟨G, i, none⟩ (.slice (some ⟨w.heap.size, 0, none⟩) m m)) G n m (i + 1) (fun p => if p = i then w.heap.size else R p) (fun p q => if p = i then 0 else M p q) := by
  have hb : Below w.heap.size w (w.alloc (.cells (madeCells #[.int .i64 0] m) t)) := (Below.refl _ _).alloc (Nat.le_refl _) _
  have h' := h.moved hb
  have hz := RowI.made w m t
  have hlt := h.lt
  have hne : G ≠ w.heap.size := Nat.ne_of_lt hlt
  refine ⟨fun p hp => ?_, fun p hp hpn => ?_, fun k => by simp [h'.ofr k], fun p hp => ?_, fun p p' hp hp' e => ?_, fun p hp => ?_, by simpa [World.setCell] using h'.lt, h.far, fun p hp => ?_, ?_⟩
  · by_cases e : p = i
    · subst e
      rw [if_pos rfl]
      exact ⟨m, World.cell?_setCell_same _ _ _ (h'.rest p (Nat.le_refl _) hi), Nat.le_refl _⟩
    · rw [if_neg e]
      obtain ⟨c, hc, hm⟩ := h'.outer p (by omega)
      exact ⟨c, by rw [World.cell?_setCell_other _ _ _ _ (by simp)]; exact hc, hm⟩
  · have e : i ≠ p := by omega
    rw [World.cell?_setCell_other _ _ _ _ (by simp)]
    exact h'.rest p (by omega) hpn
  · by_cases e : p = i
    · subst e
      rw [if_pos rfl]
      exact (hz.other hne _).congr fun q _ => (if_pos rfl).symm
    · rw [if_neg e]
      exact ((h'.row p (by omega)).other (h.apart p (by omega)).symm _).congr fun q _ => (if_neg e).symm
  · by_cases e1 : p = i
    · by_cases e2 : p' = i
      · omega
      · rw [if_pos e1, if_neg e2] at e
        have := (h.row p' (by omega)).lt
        omega
    · by_cases e2 : p' = i
      · rw [if_neg e1, if_pos e2] at e
        have := (h.row p (by omega)).lt
        omega
      · rw [if_neg e1, if_neg e2] at e
        exact h.inj p p' (by omega) (by omega) e
  · by_cases e : p = i
    · rw [if_pos e]; exact hne.symm
    · rw [if_neg e]; exact h.apart p (by omega)
  · by_cases e : p = i
    · rw [if_pos e]; exact h.below.size
    · rw [if_neg e]; exact h.fars p (by omega)
  · exact h'.below.setCell (p := ⟨G, i, none⟩) h.far _

theorem MatP.store (h : MatP w0 w G n m i R M) (p q : Nat) (hp : p < i) (hq : q < m) (x : Int) :
    MatP w0 (w.setCell ⟨R p, q, none⟩ (.int .i64 x)) G n m i R (fun a b => if a = p ∧ b = q then x else M a b) := by
  refine ⟨fun a ha => ?_, fun a ha han => ?_, fun k => by simp [h.ofr k], fun a ha => ?_, h.inj, h.apart, by simpa [World.setCell] using h.lt, h.far, h.fars, h.below.setCell (p := ⟨R p, q, none⟩) (h.fars p hp) _⟩
  · obtain ⟨c, hc, hm⟩ := h.outer a ha
    exact ⟨c, by rw [World.cell?_setCell_other _ _ _ _ (by simp [h.apart p hp])]; exact hc, hm⟩
  · rw [World.cell?_setCell_other _ _ _ _ (by simp [h.apart p hp])]
    exact h.rest a ha han
  · by_cases e : a = p
    · subst e
      exact ((h.row a ha).store q hq x).congr fun b _ => by by_cases e2 : b = q <;> simp [e2]
    · exact ((h.row a ha).other (fun e2 => e (h.inj _ _ hp ha e2).symm) _).congr fun b _ => by simp [e]
end

/-- The list of the rows. -/
def listM (M : Nat → Nat → Int) (n m : Nat) : List (List Int) := (List.range n).map fun p => (List.range m).map (M p)
theorem length_listM (M : Nat → Nat → Int) (n m : Nat) : (listM M n m).length = n := by simp [listM]
theorem row_listM (M : Nat → Nat → Int) (n m p : Nat) (hp : p < n) : (listM M n m).getD p [] = (List.range m).map (M p) := by simp [listM, List.getD_eq_getElem?_getD, hp]
theorem ent_listM (M : Nat → Nat → Int) (n m p q : Nat) (hp : p < n) (hq : q < m) : ent (listM M n m) p q = M p q := by
  unfold ent
  rw [row_listM _ _ _ _ hp]
  simp [List.getD_eq_getElem?_getD, hq]

theorem MatP.rd {w0 w : World} {G n m cap : Nat} {R : Nat → Nat} {M : Nat → Nat → Int} (h : MatP w0 w G n m n R M) (hx : ∀ p q, p < n → q < m → I64 (M p q)) (hm : m ≤ 17592186044416) (hc : n ≤ cap) : RdM w (some ⟨G, 0, none⟩) cap (listM M n m) := by
  refine ⟨by rw [length_listM]; exact hc, fun p hp => ?_⟩
  rw [length_listM] at hp
  obtain ⟨c, hcell, hcm⟩ := h.outer p hp
  rw [row_listM _ _ _ _ hp]
  refine ⟨G, 0, some ⟨R p, 0, none⟩, c, rfl, by simpa using hcell, ⟨by simpa using hcm, fun x hxm => ?_, fun q hq => ?_⟩, by simpa using hm⟩
  · obtain ⟨q, hq, rfl⟩ := List.mem_map.1 hxm
    exact hx p q hp (List.mem_range.1 hq)
  · have hq' : q < m := by simpa using hq
    refine ⟨R p, 0, rfl, ?_⟩
    have := (h.row p hp).c q hq'
    simp [List.getD_eq_getElem?_getD, hq', this]

end Go.Proofs.YtfpcfcegdjlggaaGreat
