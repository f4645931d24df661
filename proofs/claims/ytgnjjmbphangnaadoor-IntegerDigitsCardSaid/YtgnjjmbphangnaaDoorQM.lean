/-
  Plain mathematics of decimal texts: a digit put in front, leading zeros struck, the text of a number is the only one.
-/
import Derived.Test.YtgnjjmbphangnaaDoorPA
import Derived.Test.YtgnjjmbphangnaaDoorR
import Derived.Test.YtgnjjmbphangnaaDoorM
import Derived.Deep.RegionHeld3
import Derived.Deep.DrawnRows
import Derived.Deep.AppendLies
import Derived.Test.YtgnjjmbphangnaaDoorDL
namespace Go.Proofs.YtgnjjmbphangnaaDoor
open Go.RowKit Go.Lib

theorem num_fold (l : List Nat) (a : Nat) : l.foldl (fun a c => 10 * a + (c - 48)) a = a * 10 ^ l.length + num l := by
  induction l generalizing a with
  | nil => simp [num]
  | cons c l ih =>
    unfold num
    rw [List.foldl_cons, List.foldl_cons, ih, ih (10 * 0 + (c - 48)), List.length_cons, Nat.pow_succ]
    generalize 10 ^ l.length = p
    rw [Nat.add_mul, Nat.add_mul]
    have : 10 * a * p = a * (p * 10) := by rw [Nat.mul_comm 10 a, Nat.mul_assoc, Nat.mul_comm 10 p]
    omega
theorem num_cons (c : Nat) (l : List Nat) : num (c :: l) = (c - 48) * 10 ^ l.length + num l := by
  have := num_fold l (10 * 0 + (c - 48))
  unfold num at *
  rw [List.foldl_cons, this]; simp
/-- The text of a number that does not begin with 0 is the only one. -/
theorem digs_unique (N : Nat) : ∀ l, Dig l → (l ≠ [] → l.getD 0 0 ≠ 48) → num l = N → l = (digs N).reverse := by
  induction N using Nat.strongRecOn with
  | ind N ih =>
    intro l hd hl hn
    by_cases hne : l = []
    · subst hne
      have : N = 0 := by rw [← hn]; rfl
      subst this; rfl
    · obtain ⟨m, c, rfl⟩ : ∃ m c, l = m ++ [c] := ⟨l.dropLast, l.getLast hne, (List.dropLast_concat_getLast hne).symm⟩
      have hc := hd c (by simp)
      have hdm : Dig m := fun d h => hd d (List.mem_append_left _ h)
      rw [num_snoc] at hn
      have hm : m ≠ [] → m.getD 0 0 ≠ 48 := by
        intro hm0
        have h := hl hne
        cases m with
        | nil => exact absurd rfl hm0
        | cons d m => simpa using h
      have hpos : N ≠ 0 := by
        intro h0
        have hm0 : num m = 0 := by omega
        have hc0 : c = 48 := by omega
        have he : m = [] := by
          cases m with
          | nil => rfl
          | cons d m =>
            exfalso
            have h1 := hm (by simp)
            have h2 := hdm d (by simp)
            rw [num_cons] at hm0
            have h3 : 0 < (d - 48) * 10 ^ m.length := Nat.mul_pos (by simp at h1; omega) (Nat.pow_pos (by omega))
            omega
        subst he
        exact hl hne (by simp [hc0])
      have e1 : N / 10 = num m := by omega
      have e2 : N % 10 = c - 48 := by omega
      rw [digs_step N hpos, List.reverse_cons, e1, ← ih (num m) (by omega) m hdm hm rfl, e2]
      congr 2
      omega
end Go.Proofs.YtgnjjmbphangnaaDoor
