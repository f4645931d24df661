/-
  The contracts of the functions on decimal texts that Format calls.
-/
import Derived.Test.YtgnjjmbphangnaaDoorM
import Derived.Test.YtgnjjmbphangnaaDoorMD
namespace Go.Proofs.YtgnjjmbphangnaaDoor
open Go.RowKit

/-- The cells of a list of bytes. -/
def u8s (zs : List Nat) : List Value := zs.map fun (n : Nat) => Value.int .u8 (n : Int)
theorem length_u8s (zs : List Nat) : (u8s zs).length = zs.length := by simp [u8s]
theorem u8s_get (zs : List Nat) (i : Nat) (h : i < zs.length) : (u8s zs)[i]? = some (.int .u8 (nth zs i)) := by
  simp [u8s, nth, List.getD_eq_getElem?_getD, List.getElem?_eq_getElem h]
theorem u8s_append (a b : List Nat) : u8s (a ++ b) = u8s a ++ u8s b := by simp [u8s]
theorem u8s_take (a : List Nat) (n : Nat) : (u8s a).take n = u8s (a.take n) := by simp [u8s, List.map_take]

theorem Tryd.infoU8 : (Tryd.prog.info? 5).map (fun i => (i.zero, i.size, i.bytes)) = some (some (.int .u8 0), 1, 1) := by kernel_rfl

theorem ownsRow_prefix {w : World} {base e g n cap : Nat} {xs : List Value} (h : w.ownsRow base e 1 (.slice (some ⟨g, 0, none⟩) n cap) n xs) (m : Nat) (hm : m ≤ n) : w.ownsRow base e 1 (.slice (some ⟨g, 0, none⟩) m cap) m (xs.take m) := by
  obtain ⟨h1, h2⟩ := h
  rcases h2 with ⟨h', _⟩ | ⟨g', cap', cur, h', hb, hg, hnc, hcm, hs, ht⟩
  · simp at h'
  · simp only [Value.slice.injEq, Option.some.injEq, Addr.mk.injEq, and_true, true_and] at h'
    obtain ⟨rfl, rfl⟩ := h'
    refine ⟨by rw [List.length_take]; omega, .inr ⟨g, cap, cur, rfl, hb, hg, by omega, hcm, hs, ?_⟩⟩
    rw [← ht, List.take_take, Nat.mul_one, Nat.mul_one, Nat.min_eq_left hm]

/-- The length in a slot. -/
def lenOf : Value → Nat | .slice _ n _ => n | _ => 0

theorem trimRightByte_any (g n cap base : Nat) (bs : List Nat) (w : World) (ho : w.ownsRow base 5 1 (.slice (some ⟨g, 0, none⟩) n cap) n (u8s bs)) (hn : n ≤ 4000000000) :
    Calls Tryd.prog 51 #[.slice (some ⟨g, 0, none⟩) n cap, .int .u8 48] w fun e w' => e = .returned (.slice (some ⟨g, 0, none⟩) (trimZ bs).length cap) ∧ w = w' := by
  have hl : bs.length = n := by have := ho.1; rwa [length_u8s, Nat.mul_one] at this
  have hc : ∀ i, i < n → w.cell? ⟨g, i, none⟩ = some (.int .u8 (nth bs i)) := by
    intro i hi
    rw [ho.cellAt i (by omega), u8s_get bs i (by omega)]
  have hnc : n ≤ cap := by
    rcases ho.2 with ⟨h', _⟩ | ⟨g', cap', cur, h', _, _, hnc, _⟩
    · simp at h'
    · simp only [Value.slice.injEq] at h'; omega
  clear ho
  subst hl
  go_enter Tryd.func51, Tryd.ntmps51
  go_wp2_with fail
  go_loop [0] (fun s => ∃ k : Nat, k ≤ bs.length ∧ s = .slice (some ⟨g, 0, none⟩) k cap ∧ trimZ bs = trimZ (bs.take k)) (fun s => lenOf s)
  case atStart => exact ⟨bs.length, Nat.le_refl _, rfl, by rw [List.take_length]⟩
  case round =>
    obtain ⟨k, hk, rfl, ht⟩ := hrel
    have HT := Lib.hid ht
    clear ht
    by_cases h0 : 0 < k
    · obtain ⟨j, rfl⟩ : ∃ j, k = j + 1 := ⟨k - 1, by omega⟩
      have hj := hc j (by omega)
      clear hc
      by_cases hz : nth bs j = 48
      · have e := trimZ_take_zero bs j (by omega) (by unfold nth at hz; omega)
        have E := Lib.hid e
        clear e
        rw [hz] at hj
        clear hz
        go_wp2
        go_round
        case rel => exact ⟨j, by omega, rfl, HT.out.trans E.out⟩
        case measure => simp [lenOf]
      · have e := trimZ_take_pos bs j (by omega) (by unfold nth at hz; omega)
        have hl : (trimZ bs).length = j + 1 := by rw [HT.out, e, List.length_take]; omega
        have E := Lib.hid hl
        clear e hl
        have hb : (nth bs j == 48) = false := by simpa using hz
        clear hz
        go_wp2
        go_ret
        exact ⟨by rw [E.out]; rfl, rfl⟩
    · obtain rfl : k = 0 := by omega
      have E : Hid ((trimZ bs).length = 0) := by rw [HT.out]; rfl
      clear hc
      go_wp2
      go_ret
      exact ⟨by rw [E.out]; rfl, rfl⟩
/-- k exchanges have been made. -/
structure RevInv (bs : List Nat) (k : Nat) (L : List Nat) : Prop where
  len : L.length = bs.length
  el : ∀ i, i < bs.length → L.getD i 0 = if i < k ∨ bs.length ≤ i + k then bs.getD (bs.length - 1 - i) 0 else bs.getD i 0

theorem RevInv.start (bs : List Nat) : RevInv bs 0 bs := ⟨rfl, fun i hi => by rw [if_neg (by omega)]⟩

theorem RevInv.step {bs L : List Nat} {k J : Nat} (h : RevInv bs k L) (hJ : bs.length = J + k + 1) (hk : k < J) : RevInv bs (k + 1) ((L.set k (L.getD J 0)).set J (L.getD k 0)) := by
  refine ⟨by simp [h.len], fun i hi => ?_⟩
  have hl := h.len
  by_cases h1 : i = J
  · subst h1
    rw [getD_set_eq _ _ _ (by simp; omega), h.el k (by omega), if_neg (by omega), if_pos (by omega)]
    congr 1; omega
  · rw [getD_set_ne _ _ _ _ h1]
    by_cases h2 : i = k
    · subst h2
      rw [getD_set_eq _ _ _ (by omega), h.el J (by omega), if_neg (by omega), if_pos (by omega)]
      congr 1; omega
    · rw [getD_set_ne _ _ _ _ h2, h.el i hi]
      by_cases h3 : i < k ∨ bs.length ≤ i + k
      · rw [if_pos h3, if_pos (by omega)]
      · rw [if_neg h3, if_neg (by omega)]

theorem RevInv.done {bs L : List Nat} {k : Nat} (h : RevInv bs k L) (hk : bs.length ≤ 2 * k + 1) (hk2 : 2 * k ≤ bs.length + 1) : L = bs.reverse := by
  apply List.ext_getElem
  · simp [h.len]
  · intro i h1 h2
    have hi : i < bs.length := by rw [← h.len]; exact h1
    have e := h.el i hi
    rw [List.getD_eq_getElem?_getD, List.getElem?_eq_getElem h1] at e
    rw [List.getElem_reverse]
    simp only [Option.getD_some] at e
    rw [e]
    split
    · rw [List.getD_eq_getElem?_getD, List.getElem?_eq_getElem (by omega)]; rfl
    · have : bs.length - 1 - i = i := by omega
      rw [List.getD_eq_getElem?_getD, List.getElem?_eq_getElem hi]
      simp only [Option.getD_some, this]

theorem u8s_set (zs : List Nat) (i v : Nat) : (u8s zs).set i (.int .u8 (v : Int)) = u8s (zs.set i v) := by simp [u8s, List.map_set]

def GivesRow (w : World) (base g n cap : Nat) (bs : List Nat) (e : Ending) (w' : World) : Prop :=
  e = .returned (.tuple #[]) ∧ w'.ownsRow base 5 1 (.slice (some ⟨g, 0, none⟩) n cap) n (u8s bs) ∧ w.grownBy w' (some g)

set_option maxRecDepth 100000 in
set_option maxHeartbeats 1000000 in
theorem rev_any (g n cap base : Nat) (bs : List Nat) (w : World) (ho : w.ownsRow base 5 1 (.slice (some ⟨g, 0, none⟩) n cap) n (u8s bs)) (hn : n ≤ 4000000000) :
    Calls Tryd.prog 21 #[.slice (some ⟨g, 0, none⟩) n cap] w (GivesRow w base g n cap bs.reverse) := by
  have hl : bs.length = n := by have := ho.1; rwa [length_u8s, Nat.mul_one] at this
  have HL := Lib.hid hl
  clear hl
  go_enter Tryd.func21, Tryd.ntmps21
  go_wp2_with fail
  go_loopw [2, 3] (fun i j wr => ∃ (k : Nat) (L : List Nat), 2 * k ≤ n + 1 ∧ i = .int .i64 k ∧ j = .int .i64 ((n : Int) - 1 - k) ∧ RevInv bs k L ∧ wr.ownsRow base 5 1 (.slice (some ⟨g, 0, none⟩) n cap) n (u8s L) ∧ w.grownBy wr (some g)) (fun i _ _ => n - (intOf i).toNat)
  case atStart => exact ⟨0, bs, by omega, rfl, by simp, RevInv.start bs, ho, World.grownBy.refl _ _⟩
  case round =>
    obtain ⟨k, L, hk, rfl, rfl, hI, hO, hG⟩ := hrel
    by_cases hlt : 2 * k + 1 < n
    · obtain ⟨J, hJ⟩ : ∃ J, n = J + k + 1 := ⟨n - 1 - k, by omega⟩
      have ej : (n : Int) - 1 - k = (J : Int) := by omega
      rw [ej]
      have hkJ : k < J := by omega
      have hLl : L.length = n := by rw [hI.len, HL.out]
      have c1 := hO.cellAt k (by omega)
      rw [u8s_get L k (by omega)] at c1
      have c2 := hO.cellAt J (by omega)
      rw [u8s_get L J (by omega)] at c2
      have f1 := hO.frozenAt k
      have f2 := hO.frozenAt J
      have HJ := Lib.hid hJ
      clear hJ ej
      have hJn : J < n := by have := HJ.out; omega
      have HLL := Lib.hid hLl
      clear hLl
      go_wp2_with fail
      go_region
      all_goals go_wp2_with fail
      go_roundw
      case rel =>
        have hn' := HJ.out
        obtain ⟨o1, g1⟩ := hO.stored k (.int .u8 (nth L J))
        obtain ⟨o2, g2⟩ := o1.stored J (.int .u8 (nth L k))
        have e1 : ((u8s L).set k (.int .u8 (nth L J))).set J (.int .u8 (nth L k)) = u8s ((L.set k (L.getD J 0)).set J (L.getD k 0)) := by
          unfold nth; rw [u8s_set, u8s_set]
        rw [e1] at o2
        exact ⟨k + 1, _, by omega, by go_num, by rw [show (n : Int) - 1 - ((k + 1 : Nat) : Int) = (J : Int) - 1 by omega], hI.step (by rw [HL.out]; exact hn') hkJ, o2.drew, grownBy_trans hG (grownBy_trans (grownBy_trans g1 g2) (grownBy_drewN _ 1 _))⟩
      case measure => simp [intOf]; have := HJ.out; omega
    · have hd := hI.done (by rw [HL.out]; omega) (by rw [HL.out]; omega)
      have HD := Lib.hid hd
      clear hd hI
      have hcmp : decide ((k : Int) < (n : Int) - 1 - k) = false := by simp; omega
      go_wp2_with fail
      go_end0
      exact ⟨rfl, by rw [← HD.out]; exact hO, hG⟩

set_option maxRecDepth 100000 in
set_option maxHeartbeats 1000000 in
theorem trimRight_any (g n cap base : Nat) (bs : List Nat) (w : World) (ho : w.ownsRow base 5 1 (.slice (some ⟨g, 0, none⟩) n cap) n (u8s bs)) (hn : n ≤ 4000000000) (hn1 : 1 ≤ n) :
    Calls Tryd.prog 38 #[.slice (some ⟨g, 0, none⟩) n cap, .string ⟨#[48]⟩] w fun e w' => e = .returned (.slice (some ⟨g, 0, none⟩) (trimZ bs).length cap) ∧ w = w' := by
  have hb : ((n : Int) == 0) = false := by simp; omega
  go_enter Tryd.func38, Tryd.ntmps38
  go_wp2_with fail
  refine (trimRightByte_any g n cap base bs _ ho hn).mono ?_
  rintro e w1 ⟨rfl, rfl⟩
  go_wp2_with fail
  go_ret
  exact ⟨rfl, rfl⟩

/-- Old blocks but g are untouched, also behind a step that writes a block of the call's own. -/
theorem grown_new {a b c : World} {g : Nat} {row : Option Nat} (h : a.grownBy b (some g)) (k : b.grownBy c row) (hr : ∀ q, row = some q → a.heap.size ≤ q) : a.grownBy c (some g) :=
  ⟨k.os.trans h.os, k.tape.trans h.tape, k.output.trans h.output, Nat.le_trans h.size k.size, fun i hi hne =>
    (k.block i (Nat.lt_of_lt_of_le hi h.size) (fun e => by have := hr i e.symm; omega)).trans (h.block i hi hne)⟩

theorem rounds_bound {N n k : Nat} (hN : N < 4294967296 ^ n) (h : 0 < N / 10 ^ (9 * k)) : k ≤ 2 * n := by
  have h1 : 10 ^ (9 * k) ≤ N := by
    rcases Nat.lt_or_ge N (10 ^ (9 * k)) with h0 | h0
    · rw [Nat.div_eq_of_lt h0] at h; omega
    · exact h0
  have h2 : (2 ^ 29) ^ k ≤ 10 ^ (9 * k) := by
    rw [Nat.pow_mul]; exact Nat.pow_le_pow_left (by decide) k
  have e : (4294967296 : Nat) = 2 ^ 32 := by decide
  rw [e, ← Nat.pow_mul] at hN
  rw [← Nat.pow_mul] at h2
  have h3 : 2 ^ (29 * k) < 2 ^ (32 * n) := Nat.lt_of_le_of_lt (Nat.le_trans h2 h1) hN
  have := (Nat.pow_lt_pow_iff_right (by omega : 1 < 2)).1 h3
  omega

/-- The digits of a number, the units first, in a row of the call's own. -/
def GivesDigits (w : World) (g X : Nat) (e : Ending) (w' : World) : Prop :=
  ∃ gb cb, e = .returned (.slice (some ⟨gb, 0, none⟩) (digs X).length cb) ∧ w'.ownsRow w.heap.size 5 1 (.slice (some ⟨gb, 0, none⟩) (digs X).length cb) (digs X).length (u8s (digs X)) ∧ w.grownBy w' (some g)

set_option maxRecDepth 100000 in
set_option maxHeartbeats 2000000 in
theorem digitsFromLast_any (g n cap : Nat) (xs : List Nat) (w : World) (hO : Own w g xs) (hl : xs.length = n) (hcap : n ≤ cap) (hn : n ≤ 10000000) (ht : trimL xs = xs) (hpos : 0 < val xs) :
    Calls Tryd.prog 20 #[.slice (some ⟨g, 0, none⟩) n cap] w (GivesDigits w g (val xs)) := by
  have hlx := hO.lim
  have hgw := hO.lt
  have hXn := val_lt hlx
  rw [hl] at hXn
  have HXN := Lib.hid hXn
  have HL := Lib.hid hl
  have HT := Lib.hid ht
  have HP := Lib.hid hpos
  obtain ⟨i0, hi, hz0, hz1, hz2⟩ := info_parts Tryd.infoU8
  clear hXn hl ht hpos
  go_enter Tryd.func20, Tryd.ntmps20
  go_wp2_with fail
  go_loopg [0, 3] (val xs) (fun gn rest tx wr => ∃ (k : Nat) (R : List Nat) (bs : List Nat), k ≤ 2 * n + 1 ∧ rest = .slice (some ⟨g, 0, none⟩) R.length cap ∧ Hid (gn = val R) ∧ Hid (trimL R = R) ∧ R.length ≤ n ∧ Own wr g R ∧ Hid (bs = pd (9 * k) (val xs)) ∧ Hid (val R = val xs / 10 ^ (9 * k)) ∧ wr.ownsRow w.heap.size 5 1 tx (9 * k) (u8s bs) ∧ w.grownBy wr (some g))
  case atStart => exact ⟨0, xs, [], by omega, by rw [HL.out], rfl, HT.out, by rw [HL.out]; exact Nat.le_refl _, hO, rfl, by simp [Hid], World.ownsRow_nil _ _ _ _, World.grownBy.refl _ _⟩
  case round =>
    obtain ⟨k, R, bs, hk2, rfl, hg, hRt, hRl, hRo, hbs, hRv, hbo, hG⟩ := hrel
    by_cases h0 : 0 < R.length
    · have hRp : 0 < val R := by
        rcases Nat.eq_zero_or_pos (val R) with h | h
        · have e := eq_limbs hRo.lim hRt.out
          rw [h, limbs_zero] at e
          rw [e] at h0; simp at h0
        · exact h
      have hkb : k ≤ 2 * n := rounds_bound HXN.out (by rw [← hRv.out]; exact hRp)
      have HRP := Lib.hid hRp
      clear hRp
      go_wp2_with fail
      refine (divideBy_any g R.length cap R 1000000000 _ hRo rfl (by omega) (by omega) (by omega)).mono ?_
      rintro e w2 ⟨r, qs, rfl, HR, hr4, HQL, HQV, hqo, hqg, HQS⟩
      have hbo2 := hbo.kept hqg (by
        rcases hbo.2 with ⟨e, _⟩ | ⟨g', _, _, e, hge, _⟩
        · left; rw [e]; rfl
        · right; rw [e]; simp [Value.ownBlock]; omega)
      have hG2 := grownBy_trans hG hqg
      go_wp2_with fail
      refine (trim_any _ _ _ qs _ (hqo.rd (by rw [HQL.out]; omega)) HQL.out (by omega)).mono ?_
      rintro e w3 ⟨rfl, rfl⟩
      clear hbo hRo hqg hG
      go_wp2_with fail
      go_loopw [3, 4, 12] (fun tx p i wi => ∃ (j s : Nat) (B : List Nat), j ≤ 9 ∧ i = .int .i64 j ∧ p = .int .u32 s ∧ Hid (s = r / 10 ^ j) ∧ s ≤ 4294967295 ∧ Hid (B = bs ++ pd j r) ∧ wi.ownsRow w.heap.size 5 1 tx (9 * k + j) (u8s B) ∧ w.grownBy wi (some g) ∧ Own wi g qs) (fun _ _ i _ => 9 - (intOf i).toNat)
      case atStart => exact ⟨0, r, bs, by omega, rfl, rfl, by simp [Hid], hr4, by simp [Hid, pd], hbo2, hG2, hqo⟩
      case round =>
        obtain ⟨j, s, B, hj, rfl, rfl, hs, hs4, hB, hBo, hBg, hBq⟩ := hrel
        by_cases h9 : j < 9
        · have hbase := hBg.size
          go_wp2_with (at_builtin; refine wpList_append_own _ rfl _ _ 22 rfl w.heap.size 5 i0 (.int .u8 0) 1 1 Tryd.underlying22 hi hz0 hz1 hz2 rfl (by decide) _ _ _ rfl (hBo.alloc _) ⟨wr.heap.size, 0, none⟩ 1 1 [.int .u8 (48 + (s : Int) % 10)] rfl rfl ?c1 ?c2 ?c3 ?c4 ?c5 ?_)
          case c1 => exact cell_one_new _ _ _
          case c2 => intro u hu; simp at hu; subst hu; rfl
          case c3 => unfold maxLen; omega
          case c4 => omega
          case c5 => simp; omega
          intro v' w1 hown1 hgrow1 _
          have hgB : w.grownBy w1 (some g) := grown_new (grown_new hBg (World.grownBy_alloc _ _ none) (by intro q hq; cases hq)) hgrow1 (fun q hq => ((hBo.lt) q hq).1)
          have hqB : Own w1 g qs := (hBq.alloc _).kept hgrow1 (fun e => by have := (hBo.lt g e).1; omega)
          have hs' : Hid ((s : Int) / 10 = ((s / 10 : Nat) : Int)) := by unfold Hid; omega
          have hown2 : w1.ownsRow w.heap.size 5 1 v' (9 * k + (j + 1)) (u8s (B ++ [48 + s % 10])) := by
            rw [u8s_append]
            have : u8s [48 + s % 10] = [.int .u8 (48 + (s : Int) % 10)] := by simp [u8s]
            rw [this]
            exact hown1
          clear hown1 hgrow1 hBo hBg hBq
          go_wp2_with fail
          go_roundw
          case rel =>
            refine ⟨j + 1, s / 10, B ++ [48 + s % 10], by omega, by go_num, by rw [hs'.out], ?_, by omega, ?_, hown2, hgB, hqB⟩
            · unfold Hid; rw [hs.out, Nat.div_div_eq_div_mul, Nat.pow_succ]
            · unfold Hid; rw [hB.out, pd_snoc, hs.out, List.append_assoc]
          case measure => simp [intOf]; omega
        · obtain rfl : j = 9 := by omega
          have hTv : val (trimL qs) = val R / 1000000000 := by rw [val_trimL hBq.lim, HQV.out]
          have HTV := Lib.hid hTv
          have hTt : trimL (trimL qs) = trimL qs := by rw [← limbs_val hBq.lim, trimL_limbs]
          have HTT := Lib.hid hTt
          have hTl : (trimL qs).length ≤ n := by have := length_trimL_le qs; rw [HQL.out] at this; omega
          clear hTv hTt
          go_wp2_with fail
          go_roundg (val R / 1000000000)
          case measure => rw [hg.out]; have := HRP.out; omega
          case rel =>
            refine ⟨k + 1, trimL qs, B, by omega, rfl, HTV.out.symm, HTT.out, hTl, hBq.trim, ?_, ?_, hBo, hBg⟩
            · unfold Hid
              have e1 : r = (val xs / 10 ^ (9 * k)) % 10 ^ 9 := by rw [HR.out, hRv.out]
              rw [hB.out, hbs.out, show 9 * (k + 1) = 9 * k + 9 by omega, pd_add]
              congr 1
              exact pd_mod 9 _ _ (by rw [e1, Nat.mod_mod])
            · unfold Hid
              rw [HTV.out, hRv.out, Nat.div_div_eq_div_mul, show 9 * (k + 1) = 9 * k + 9 by omega, Nat.pow_add]
    · have hR0 : val R = 0 := by rw [List.eq_nil_of_length_eq_zero (by omega : R.length = 0)]; rfl
      have hk1 : 1 ≤ k := by
        rcases Nat.eq_zero_or_pos k with h | h
        · subst h; have h1 := hRv.out; have h2 := HP.out; rw [hR0] at h1; simp at h1; omega
        · exact h
      have hbl : bs.length = 9 * k := by have := hbo.1; rwa [length_u8s, Nat.mul_one] at this
      have hbz : trimZ bs = digs (val xs) := by
        rw [hbs.out]
        refine trimZ_pd _ _ ?_
        have := hRv.out
        rw [hR0] at this
        exact (Nat.div_eq_zero_iff_lt (Nat.pow_pos (by omega))).1 this.symm
      have HBZ := Lib.hid hbz
      have HBL := Lib.hid hbl
      obtain ⟨gb, cb, rfl⟩ : ∃ gb cb, u3 = .slice (some ⟨gb, 0, none⟩) (9 * k) cb := by
        rcases hbo.2 with ⟨_, e⟩ | ⟨g', c', _, e, _⟩
        · omega
        · exact ⟨g', c', e⟩
      clear hR0 hbz hbl
      go_wp2_with fail
      refine (trimRight_any gb (9 * k) cb w.heap.size bs _ hbo (by omega) (by omega)).mono ?_
      rintro e w3 ⟨rfl, rfl⟩
      go_wp2_with fail
      go_ret
      have hle : (trimZ bs).length ≤ 9 * k := by rw [← HBL.out]; exact length_trimZ_le bs
      have hp := ownsRow_prefix hbo (trimZ bs).length hle
      rw [u8s_take, ← trimZ_eq_take, HBZ.out] at hp
      exact ⟨gb, cb, by rw [← HBZ.out]; rfl, hp, hG⟩
end Go.Proofs.YtgnjjmbphangnaaDoor
