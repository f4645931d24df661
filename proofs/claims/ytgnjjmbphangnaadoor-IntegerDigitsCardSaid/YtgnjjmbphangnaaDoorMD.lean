/-
  Plain mathematics of decimal digits, the units first. No program is mentioned.
-/
import Derived.Test.YtgnjjmbphangnaaDoorWM
namespace Go.Proofs.YtgnjjmbphangnaaDoor

/-- c digits of n, the units first. -/
def pd : Nat → Nat → List Nat
  | 0, _ => []
  | c + 1, n => (48 + n % 10) :: pd c (n / 10)

theorem length_pd (c n : Nat) : (pd c n).length = c := by
  induction c generalizing n with
  | zero => rfl
  | succ c ih => simp [pd, ih]

theorem pd_add (c d n : Nat) : pd (c + d) n = pd c n ++ pd d (n / 10 ^ c) := by
  induction c generalizing n with
  | zero => simp [pd]
  | succ c ih =>
    rw [show c + 1 + d = (c + d) + 1 by omega]
    simp only [pd, List.cons_append]
    rw [ih, Nat.div_div_eq_div_mul, Nat.pow_succ, Nat.mul_comm 10]

theorem pd_snoc (c n : Nat) : pd (c + 1) n = pd c n ++ [48 + n / 10 ^ c % 10] := by rw [pd_add]; rfl

theorem pd_mod (c n m : Nat) (h : n % 10 ^ c = m % 10 ^ c) : pd c n = pd c m := by
  induction c generalizing n m with
  | zero => rfl
  | succ c ih =>
    simp only [pd]
    rw [Nat.pow_succ, Nat.mul_comm] at h
    have h1 : n % 10 = m % 10 := by
      have := congrArg (· % 10) h
      simpa [Nat.mod_mul_right_mod] using this
    rw [h1]
    congr 1
    apply ih
    have := congrArg (· / 10) h
    simpa [Nat.mod_mul_right_div_self] using this

/-- A list without the zeros (48) at its end. -/
def trimZ : List Nat → List Nat
  | [] => []
  | x :: xs => if trimZ xs = [] ∧ x = 48 then [] else x :: trimZ xs

theorem trimZ_zero (xs : List Nat) : trimZ (xs ++ [48]) = trimZ xs := by
  induction xs with
  | nil => rfl
  | cons x xs ih => simp [trimZ, ih]

theorem trimZ_pos (xs : List Nat) (x : Nat) (hx : x ≠ 48) : trimZ (xs ++ [x]) = xs ++ [x] := by
  induction xs with
  | nil => simp [trimZ, hx]
  | cons y xs ih => simp [trimZ, ih]

theorem trimZ_eq_take (xs : List Nat) : trimZ xs = xs.take (trimZ xs).length := by
  induction xs with
  | nil => rfl
  | cons x xs ih =>
    simp only [trimZ]
    split
    · rfl
    · simpa using ih

theorem trimZ_take_zero (xs : List Nat) (n : Nat) (hn : n < xs.length) (h : xs.getD n 0 = 48) : trimZ (xs.take (n + 1)) = trimZ (xs.take n) := by
  rw [List.take_succ_eq_append_getElem hn]
  rw [List.getD_eq_getElem?_getD, List.getElem?_eq_getElem hn] at h
  simp only [Option.getD_some] at h
  rw [h, trimZ_zero]

theorem trimZ_take_pos (xs : List Nat) (n : Nat) (hn : n < xs.length) (h : xs.getD n 0 ≠ 48) : trimZ (xs.take (n + 1)) = xs.take (n + 1) := by
  rw [List.take_succ_eq_append_getElem hn]
  rw [List.getD_eq_getElem?_getD, List.getElem?_eq_getElem hn] at h
  simp only [Option.getD_some] at h
  exact trimZ_pos _ _ h

theorem length_trimZ_le (xs : List Nat) : (trimZ xs).length ≤ xs.length := by
  rw [trimZ_eq_take, List.length_take]; omega

/-- The digits of a number, the units first; none for 0. -/
def digs (n : Nat) : List Nat := trimZ (pd n n)

theorem trimZ_pd_more (c d n : Nat) (h : n < 10 ^ c) : trimZ (pd (c + d) n) = trimZ (pd c n) := by
  induction d with
  | zero => rfl
  | succ d ih =>
    rw [← Nat.add_assoc, pd_snoc, Nat.div_eq_of_lt (Nat.lt_of_lt_of_le h (Nat.pow_le_pow_right (by omega) (by omega))), Nat.zero_mod, trimZ_zero, ih]

theorem lt_ten_pow (n : Nat) : n < 10 ^ n := by
  induction n with
  | zero => simp
  | succ n ih => rw [Nat.pow_succ]; omega

theorem trimZ_pd (c n : Nat) (h : n < 10 ^ c) : trimZ (pd c n) = digs n := by
  unfold digs
  rcases Nat.le_total c n with h1 | h1
  · obtain ⟨d, rfl⟩ := Nat.le.dest h1
    exact (trimZ_pd_more c d _ h).symm
  · obtain ⟨d, rfl⟩ := Nat.le.dest h1
    exact trimZ_pd_more n d n (lt_ten_pow n)

theorem digs_step (n : Nat) (h : n ≠ 0) : digs n = (48 + n % 10) :: digs (n / 10) := by
  have h1 : trimZ (pd (n + 1) n) = digs n := trimZ_pd (n + 1) n (Nat.lt_of_lt_of_le (lt_ten_pow n) (Nat.pow_le_pow_right (by omega) (by omega)))
  have h2 : trimZ (pd n (n / 10)) = digs (n / 10) := trimZ_pd n (n / 10) (Nat.lt_of_le_of_lt (Nat.div_le_self _ _) (lt_ten_pow n))
  rw [← h1, pd, trimZ, h2]
  by_cases h10 : n / 10 = 0
  · have : digs (n / 10) = [] := by rw [h10]; rfl
    rw [this, if_neg (by omega)]
  · have : digs (n / 10) ≠ [] := by
      intro h0
      rw [← h2] at h0
      have h3 : ∀ c m, m < 10 ^ c → m ≠ 0 → trimZ (pd c m) ≠ [] := by
        intro c
        induction c with
        | zero => intro m hm hm0; simp at hm; omega
        | succ c ih =>
          intro m hm hm0 he
          simp only [pd, trimZ] at he
          split at he
          · rename_i hc
            exact ih (m / 10) (by rw [Nat.pow_succ] at hm; omega) (by omega) hc.1
          · simp at he
      exact h3 n (n / 10) (Nat.lt_of_le_of_lt (Nat.div_le_self _ _) (lt_ten_pow n)) h10 h0
    rw [if_neg (fun hc => this hc.1)]

theorem digs_zero : digs 0 = [] := rfl
/-- The text of an integer. -/
def text (z : Int) : List Nat := if z = 0 then [48] else (if z < 0 then [45] else []) ++ (digs z.natAbs).reverse

end Go.Proofs.YtgnjjmbphangnaaDoor
