/-
  The walk of VectorCompares.
-/
import Derived.Test.YtdpgkegfkobdoaaYS
import Derived.Test.YtdpgkegfkobdoaaYT
import Derived.Test.YtdpgkegfkobdoaaYV
import Derived.Laws.AppendOwn
import Derived.Laws.AppendOwnNone
namespace Go.Proofs.Ytdpgkegfkobdoaa
open Go.RowKit Go.Shelf

theorem i64s_app (a b : List Int) : i64s (a ++ b) = i64s a ++ i64s b := by simp [i64s]

/-- 'append' to an own row of numbers: of any list of numbers, nil or not. -/
theorem wpList_append_i64 {w : World} {ops : Array Oper} {rest : List Oper} {o : Oper} {a : Act} {Q : Exit → Act → World → Prop} (hgd : o.guard = none) (s x : Operand)
    (ho : o.op = .call { callee := .builtin .append, args := #[s, x], argTypes := #[22, 22] })
    (base : Nat) (v : Value) (n : Nat) (zs : List Int) (hs : a.eval s = v) (hown : w.ownsRow base 2 1 v n (i64s zs))
    (ad : Option Addr) (m c : Nat) (ys : List Int) (hx : a.eval x = .slice ad m c) (hr : RdI w ad c ys) (hl : ys.length = m) (hc : ad = none → c = 0) (hn : n + m ≤ 17592186044416) (hbase : base ≤ w.heap.size)
    (h : ∀ v' w', w'.ownsRow base 2 1 v' (n + m) (i64s (zs ++ ys)) → w.grownBy w' v.ownBlock → wpList Try.prog ops Q rest (a.put o.dst v') w') : wpList Try.prog ops Q (o :: rest) a w := by
  have hi : ∃ i, Try.prog.info? 2 = some i ∧ (i.zero, i.size, i.bytes) = (some (.int .i64 0), 1, 8) := by
    have h := infoI64
    cases e : Try.prog.info? 2 with
    | none => rw [e] at h; cases h
    | some i => rw [e] at h; exact ⟨i, rfl, by simpa using h⟩
  obtain ⟨i, hi, hz⟩ := hi
  simp only [Prod.mk.injEq] at hz
  cases ad with
  | none =>
    obtain rfl := hc rfl
    have h0 : ys = [] := by
      rcases ys with _ | ⟨y, r⟩
      · rfl
      · obtain ⟨b, o, e, _⟩ := hr.cells 0 (by simp)
        cases e
    subst h0
    obtain rfl : m = 0 := by simpa using hl.symm
    refine wpList_append_own_none hgd s x 22 ho base 2 i 1 Try.underlying22 hi v n (i64s zs) hs hown hx ?_
    refine h v w (by simpa using hown) ⟨rfl, rfl, rfl, Nat.le_refl _, fun _ _ _ => rfl⟩
  | some ad =>
    refine wpList_append_own w hgd s x 22 ho base 2 i (.int .i64 0) 1 8 Try.underlying22 hi hz.1 hz.2.1 hz.2.2 rfl (by decide) v n (i64s zs) hs hown ad m c (i64s ys) hx (by simp [i64s, hl]) ?_ ?_ (by unfold maxLen; omega) (by omega) hbase ?_
    · intro j u hj
      have hjl : j < ys.length := by
        have := (List.getElem?_eq_some_iff.1 hj).1
        simpa [i64s] using this
      obtain ⟨b, o, e, hcell⟩ := hr.cells j hjl
      simp only [Option.some.injEq] at e
      subst e
      rw [i64s_get ys j hjl] at hj
      simp only [Option.some.injEq] at hj
      subst hj
      have hadd : (⟨b, o, none⟩ : Addr).add j = ⟨b, o + j, none⟩ := by unfold Addr.add; split <;> simp_all
      rw [hadd]
      exact hcell
    · intro u hu
      obtain ⟨z, _, rfl⟩ := List.mem_map.1 hu
      rfl
    · intro v' w' h1 h2 _
      exact h v' w' (by rw [i64s_app]; exact h1) h2

theorem rd_ownsRow {w : World} {B n : Nat} {v : Value} {zs : List Int} (h : w.ownsRow B 2 1 v n (i64s zs)) (hlim : ∀ x ∈ zs, I64 x) : ∃ a cap, v = .slice a n cap ∧ RdI w a cap zs ∧ (a = none → cap = 0) ∧ zs.length = n := by
  have hl : zs.length = n := by have := h.1; simpa [i64s] using this
  rcases h.2 with ⟨rfl, rfl⟩ | ⟨g, cap, cur, rfl, hb, hg, hn, hm, hs, ht⟩
  · have : zs = [] := List.length_eq_zero_iff.1 hl
    subst this
    exact ⟨none, 0, rfl, RdI.nil _ _ _, fun _ => rfl, rfl⟩
  · refine ⟨some ⟨g, 0, none⟩, cap, rfl, ?_, (fun h => by cases h), hl⟩
    have ho : OwnI w g zs := ⟨cur, hg, by rw [hl]; simpa using ht⟩
    exact ho.rd (by omega) hlim

end Go.Proofs.Ytdpgkegfkobdoaa
