/-
  The contract of timesPlus.
-/
import Derived.Test.YtgnjjmbphangnaaDoorR
import Derived.Test.YtgnjjmbphangnaaDoorRA
import Derived.Lib.OthersKept
namespace Go.Proofs.YtgnjjmbphangnaaDoor
open Go.RowKit

/-- A list of limbs in a row of the caller's own. -/
def GivesRow32 (w : World) (base : Nat) (row : Option Nat) (N : Nat) (e : Ending) (w' : World) : Prop :=
  ∃ v', e = .returned v' ∧ w'.ownsRow base 52 1 v' (limbs N).length (u32s (limbs N)) ∧ w.grownBy w' row

theorem limbs_of_long {zs : List Nat} (h : Lim zs) (hl : zs.length ≤ (limbs (val zs)).length) : zs = limbs (val zs) := by
  rw [limbs_val h] at hl ⊢
  have h1 := length_trimL_le zs
  have h2 := trimL_eq_take zs
  rw [h2, List.take_of_length_le (by omega)]

theorem limbs_mono {a b : Nat} (h : a ≤ b) : (limbs a).length ≤ (limbs b).length := by
  rcases Nat.lt_or_ge (limbs b).length (limbs a).length with h1 | h1
  · have := limbs_length_lt h1; omega
  · exact h1

theorem times_digit {xs : List Nat} {f d k : Nat} {zs : List Nat} {c : Nat} (hx : Lim xs) (hf : f ≤ 4294967295) (h : TimesInv xs f d k zs c) :
    ∃ P : Int, nth xs k * (f : Int) = P ∧ 0 ≤ P ∧ P ≤ 18446744065119617025 ∧ P + (c : Int) ≤ 18446744073709551615 ∧ ∃ z c' : Nat, z < 4294967296 ∧ c' ≤ 4294967295 ∧ Hid ((P + (c : Int)) % 4294967296 = (z : Int)) ∧ Hid ((P + (c : Int)) / 4294967296 = (c' : Int)) ∧ Hid (TimesInv xs f d (k + 1) (zs ++ [z]) c') := by
  obtain ⟨h1, h2⟩ := h.step hx (by omega)
  have h3 := hx.getD k
  have h4 : xs.getD k 0 * f ≤ 4294967295 * 4294967295 := Nat.mul_le_mul (by omega) hf
  have e : nth xs k * (f : Int) = ((xs.getD k 0 * f : Nat) : Int) := by unfold nth; simp
  have h5 := h2.small
  generalize xs.getD k 0 * f = p at *
  refine ⟨_, e, by omega, by omega, by omega, _, _, ?_, ?_, ?_, ?_, h2⟩
  · omega
  · omega
  · unfold Hid; omega
  · unfold Hid; omega

theorem u32s_set (zs : List Nat) (i v : Nat) : (u32s zs).set i (.int .u32 (v : Int)) = u32s (zs.set i v) := by simp [u32s, List.map_set]

theorem set_mid {zs xs : List Nat} {k z : Nat} (hl : zs.length = k) (hk : k < xs.length) : (zs ++ xs.drop k).set k z = (zs ++ [z]) ++ xs.drop (k + 1) := by
  rw [List.set_append_right _ _ (by omega), hl, Nat.sub_self, List.drop_eq_getElem_cons hk, List.set_cons_zero, List.append_assoc]; rfl

theorem getD_mid {zs xs : List Nat} {k : Nat} (hl : zs.length = k) : nth (zs ++ xs.drop k) k = nth xs k := by
  unfold nth
  rw [List.getD_eq_getElem?_getD, List.getElem?_append_right (by omega), hl, Nat.sub_self, List.getElem?_drop, Nat.add_zero, ← List.getD_eq_getElem?_getD]

set_option maxRecDepth 100000 in
set_option maxHeartbeats 4000000 in
theorem timesPlus_any (v : Value) (base X f d : Nat) (w : World) (ho : w.ownsRow base 52 1 v (limbs X).length (u32s (limbs X))) (hX : (limbs X).length ≤ 1000000) (hf1 : 1 ≤ f) (hf : f ≤ 4294967295) (hd : d ≤ 4294967295) (hbase : base ≤ w.heap.size) :
    Calls Tryd.prog 28 #[v, .int .u32 f, .int .u32 d] w (GivesRow32 w base v.ownBlock (f * X + d)) := by
  obtain ⟨i0, hi, hz0, hz1, hz2⟩ := info_parts Tryd.infoU32
  have hlx := Lim_limbs X
  obtain ⟨xs, hxs⟩ : ∃ xs, xs = limbs X := ⟨_, rfl⟩
  have hmono : (limbs X).length ≤ (limbs (f * X + d)).length := limbs_mono (by have := Nat.mul_le_mul hf1 (Nat.le_refl X); omega)
  have hval : val xs = X := by rw [hxs, val_limbs]
  rw [← hxs] at ho hX hlx hmono
  have HM := Lib.hid hmono
  have HV := Lib.hid hval
  clear hxs hmono hval
  obtain ⟨n, hn⟩ : ∃ n, n = xs.length := ⟨_, rfl⟩
  have HN := Lib.hid hn
  rw [← hn] at ho hX
  clear hn
  obtain ⟨a, cap, rfl, hag⟩ : ∃ a cap, v = .slice a n cap ∧ (0 < n → ∃ g, a = some ⟨g, 0, none⟩) := by
    rcases ho.2 with ⟨rfl, hn0⟩ | ⟨g, cap, cur, rfl, _⟩
    · exact ⟨none, 0, by rw [hn0], fun h => by omega⟩
    · exact ⟨_, cap, rfl, fun _ => ⟨g, rfl⟩⟩
  go_enter Tryd.func28, Tryd.ntmps28
  go_wp2_with fail
  go_loopw [7, 14] (fun cc ii wr => ∃ (k : Nat) (zs : List Nat) (q : Nat), k ≤ n ∧ ii = .int .i64 k ∧ cc = .int .u64 q ∧ TimesInv xs f d k zs q ∧ wr.ownsRow base 52 1 (.slice a n cap) n (u32s (zs ++ xs.drop k)) ∧ w.grownBy wr (Value.ownBlock (.slice a n cap))) (fun _ ii _ => n - (intOf ii).toNat)
  case atStart => exact ⟨0, [], d, by omega, rfl, rfl, TimesInv.start xs f d (by omega), ho, World.grownBy.refl _ _⟩
  case round =>
    obtain ⟨k, zs, q, hk, rfl, rfl, hI, hO, hG⟩ := hrel
    clear ho
    have hq := hI.small
    have hzl := hI.len
    by_cases hlt : k < n
    · obtain ⟨g, rfl⟩ := hag (by omega)
      have hkx : k < xs.length := by rw [← HN.out]; exact hlt
      obtain ⟨P, hP, p0, p1, p2, z, c', hz, hc', HZ, HC, HI2⟩ := times_digit hlx hf hI
      have hll : (zs ++ xs.drop k).length = n := by rw [List.length_append, List.length_drop, hzl, ← HN.out]; omega
      have hcell := hO.cellAt k (by omega)
      rw [u32s_get _ k (by omega), getD_mid hzl] at hcell
      have hfree := hO.frozenAt k
      have g1 := nth_ge xs k
      have g2 := nth_le hlx k
      obtain ⟨o1, gr1⟩ := hO.stored k (.int .u32 (z : Int))
      rw [u32s_set, set_mid hzl hkx] at o1
      have O1 := Lib.hid o1
      have G1 := Lib.hid (grownBy_trans hG gr1)
      have HKX := Lib.hid hkx
      clear hI o1 gr1 hO hG hll hkx hzl
      go_wp2_with fail
      rw [HZ.out]
      go_roundw
      case rel => exact ⟨k + 1, zs ++ [z], c', by omega, by go_num, by rw [HC.out], HI2.out, O1.out, G1.out⟩
      case measure => simp [intOf]; omega
    · obtain rfl : k = n := by omega
      have he := hI.eq
      rw [List.take_of_length_le (by rw [← HN.out]; exact Nat.le_refl _), HV.out] at he
      rw [List.drop_of_length_le (by rw [← HN.out]; exact Nat.le_refl _), List.append_nil] at hO
      have hgs := hG.size
      by_cases h0 : 0 < q
      · have hall : zs ++ [q] = limbs (f * X + d) := by
          have hv : val (zs ++ [q]) = f * X + d := by rw [val_snoc, hzl, he]
          have hL : Lim (zs ++ [q]) := hI.lim.append (Lim.nil.cons hq)
          rw [← hv]
          refine limbs_of_long hL ?_
          rw [hv]
          have hge : 4294967296 ^ k ≤ f * X + d := by rw [← he]; have := Nat.le_mul_of_pos_right (4294967296 ^ k) h0; omega
          rcases Nat.lt_or_ge (limbs (f * X + d)).length (k + 1) with h | h
          · have := lt_of_length_limbs (show (limbs (f * X + d)).length ≤ k by omega); omega
          · simp [hzl]; exact h
        have HALL := Lib.hid hall
        have hzl2 := Lib.hid hzl
        clear hI he hall hzl
        go_wp2_with (at_builtin; refine wpList_append_own _ rfl _ _ 23 rfl base 52 i0 (.int .u32 0) 1 4 Tryd.underlying23 hi hz0 hz1 hz2 rfl (by decide) _ _ _ rfl (hO.alloc _) ⟨wr.heap.size, 0, none⟩ 1 1 [.int .u32 (q : Int)] rfl rfl ?c1 ?c2 ?c3 ?c4 ?c5 ?_)
        case c1 => exact cell_one_new _ _ _
        case c2 => intro u hu; simp at hu; subst hu; rfl
        case c3 => unfold maxLen; omega
        case c4 => omega
        case c5 => simp; omega
        intro v' w1 hown1 hgrow1 _
        rw [u32s_snoc zs q _ rfl, HALL.out] at hown1
        have hlen : (limbs (f * X + d)).length = k + 1 := by rw [← HALL.out]; simp [hzl2.out]
        rw [← hlen] at hown1
        have hfin : w.grownBy w1 (Value.ownBlock (.slice a k cap)) := grownBy_trans (grownBy_trans hG (World.grownBy_alloc _ _ _)) hgrow1
        have HF := Lib.hid hfin
        have HO1 := Lib.hid hown1
        clear hown1 hgrow1 hO hG hfin hlen
        go_wp2_with fail
        go_ret
        exact ⟨v', rfl, HO1.out, HF.out⟩
      · obtain rfl : q = 0 := by omega
        have hv : val zs = f * X + d := by omega
        have hall : zs = limbs (f * X + d) := by
          rw [← hv]
          refine limbs_of_long hI.lim ?_
          rw [hv, hzl, HN.out]; exact HM.out
        have HALL := Lib.hid hall
        have hlen : k = (limbs (f * X + d)).length := by rw [← HALL.out, hzl]
        have HO1 : Hid (wr.ownsRow base 52 1 (.slice a k cap) (limbs (f * X + d)).length (u32s (limbs (f * X + d)))) := by
          unfold Hid; rw [← HALL.out, hzl]; exact hO
        have HF := Lib.hid hG
        clear hI he hv hall hO hG hlen hzl
        go_wp2_with fail
        go_ret
        exact ⟨_, rfl, HO1.out, HF.out⟩
end Go.Proofs.YtgnjjmbphangnaaDoor
