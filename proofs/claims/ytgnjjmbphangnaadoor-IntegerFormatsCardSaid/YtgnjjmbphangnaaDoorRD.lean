/-
  The reference's difference and double of limbs.
-/
import Derived.Test.YtgnjjmbphangnaaDoorRA
namespace Go.Proofs.YtgnjjmbphangnaaDoor
open Go.RowKit

theorem wrap_sub {x u : Int} (h0 : 0 ≤ x) (h1 : x ≤ 4294967295) (h2 : x < u) (h3 : u ≤ 4294967296) : IntKind.u64.wrap (x - u) = x - u + 18446744073709551616 := by rw [IntKind.wrap_u64]; omega

theorem diff_digit {xs ys : List Nat} {k : Nat} {zs : List Nat} {q : Nat} (hx : Lim xs) (hy : Lim ys) (h : SubInv xs ys k zs q) (u : Int) (hu : u = (q : Int) + nth ys k) :
    0 ≤ u ∧ u ≤ 4294967296 ∧ ((u ≤ nth xs k ∧ ∃ d : Nat, d ≤ 4294967295 ∧ Hid (nth xs k - u = (d : Int)) ∧ Hid (SubInv xs ys (k + 1) (zs ++ [d]) 0)) ∨
      (nth xs k < u ∧ ∃ D : Int, IntKind.u64.wrap (nth xs k - u) = D ∧ 0 ≤ D ∧ D ≤ 18446744073709551615 ∧ ∃ d : Nat, d ≤ 4294967295 ∧ Hid (D % 4294967296 = (d : Int)) ∧ Hid (SubInv xs ys (k + 1) (zs ++ [d]) 1))) := by
  have h1 := hx.getD k
  have h2 := hy.getD k
  have h3 := h.one
  have n1 : nth xs k = ((xs.getD k 0 : Nat) : Int) := rfl
  have n2 : nth ys k = ((ys.getD k 0 : Nat) : Int) := rfl
  refine ⟨by omega, by omega, ?_⟩
  by_cases hle : u ≤ nth xs k
  · refine .inl ⟨hle, _, ?_, ?_, h.step_no hx (by omega)⟩
    · omega
    · unfold Hid; omega
  · refine .inr ⟨by omega, _, wrap_sub (by omega) (by omega) (by omega) (by omega), by omega, by omega, _, ?_, ?_, h.step_yes hx hy (by omega)⟩
    · omega
    · unfold Hid; omega

structure DblInv (xs : List Nat) (bit k : Nat) (zs : List Nat) (c : Nat) : Prop where
  len : zs.length = k
  lim : Lim zs
  one : c ≤ 1
  eq : val zs + 4294967296 ^ k * c = 2 * val (xs.take k) + bit

theorem DblInv.start (xs : List Nat) (bit : Nat) (hb : bit ≤ 1) : DblInv xs bit 0 [] bit := ⟨rfl, Lim.nil, hb, by simp [val]⟩

theorem or_bit {x c : Int} (_h0 : 0 ≤ x) (_h1 : x ≤ 4294967295) (hc : 0 ≤ c) (hc1 : c ≤ 1) : bits .or .u32 (x * 2 % 4294967296) c = x * 2 % 4294967296 + c := by
  rw [u32_or _ _ (by omega) (by omega) hc (by omega)]
  have e : (x * 2 % 4294967296).toNat = 2 ^ 1 * (x * 2 % 4294967296 / 2).toNat := by omega
  rw [e, ← Nat.two_pow_add_eq_or_of_lt (by omega : c.toNat < 2 ^ 1)]
  omega

theorem dbl_digit {xs : List Nat} {bit k : Nat} {zs : List Nat} {c : Nat} (hx : Lim xs) (h : DblInv xs bit k zs c) :
    ∃ d c' : Nat, d ≤ 4294967295 ∧ c' ≤ 1 ∧ Hid (bits .or .u32 (nth xs k * 2 % 4294967296) (c : Int) = (d : Int)) ∧ Hid (nth xs k / 2147483648 = (c' : Int)) ∧ Hid (DblInv xs bit (k + 1) (zs ++ [d]) c') := by
  have h1 := hx.getD k
  have h3 := h.one
  have n1 : nth xs k = ((xs.getD k 0 : Nat) : Int) := rfl
  refine ⟨xs.getD k 0 * 2 % 4294967296 + c, xs.getD k 0 / 2147483648, by omega, by omega, ?_, ?_, ?_, ?_, ?_, ?_⟩
  · unfold Hid; rw [or_bit (by omega) (by omega) (by omega) (by omega), n1]; omega
  · unfold Hid; omega
  · simp [h.len]
  · exact h.lim.append (Lim.nil.cons (by omega))
  · omega
  · have e := h.eq
    rw [val_snoc, h.len, val_take_step xs, Nat.pow_succ]
    have hm := mul_digit (4294967296 ^ k) (xs.getD k 0 * 2)
    have hd : xs.getD k 0 * 2 / 4294967296 = xs.getD k 0 / 2147483648 := by omega
    rw [hd] at hm
    rw [Nat.mul_add, Nat.mul_add]
    have h4 : 4294967296 ^ k * (xs.getD k 0 * 2) = 2 * (4294967296 ^ k * xs.getD k 0) := by rw [← Nat.mul_assoc, Nat.mul_comm]
    omega

theorem DblInv.done {xs : List Nat} {bit n : Nat} {zs : List Nat} {c : Nat} (h : DblInv xs bit n zs c) (hn : xs.length = n) : Lim (zs ++ [c]) ∧ val (zs ++ [c]) = 2 * val xs + bit := by
  have h3 := h.one
  refine ⟨h.lim.append (Lim.nil.cons (by omega)), ?_⟩
  have e := h.eq
  rw [List.take_of_length_le (by omega)] at e
  rw [val_snoc, h.len, e]

set_option maxRecDepth 100000 in
set_option maxHeartbeats 2000000 in
theorem rdiff_any (a b : Option Addr) (n m cap cap' : Nat) (xs ys : List Nat) (w : World) (rdx : Rd w a cap xs) (rdy : Rd w b cap' ys) (hl : xs.length = n) (hl' : ys.length = m) (hn : n ≤ 1000000000) (_hm : m ≤ 1000000000) (hle : val ys ≤ val xs) :
    Calls Tryd.prog 57 #[.slice a n cap, .slice b m cap'] w (GivesLimbs w (val xs - val ys) n) := by
  obtain ⟨i0, hi, hz0, hz1, hz2⟩ := info_parts Tryd.infoU32
  have hlx := rdx.lim
  have hly := rdy.lim
  have hux := rdx.under
  have huy := rdy.under
  have HL := Lib.hid hl
  have HL' := Lib.hid hl'
  have HLE := Lib.hid hle
  clear hl hl' hle
  go_enter Tryd.func57, Tryd.ntmps57
  go_wp2_with fail
  go_loopw [5, 6, 7] (fun tx c i wr => ∃ (k : Nat) (zs : List Nat) (q : Nat), k ≤ n ∧ i = .int .i64 k ∧ c = .int .u64 q ∧ SubInv xs ys k zs q ∧ wr.ownsRow w.heap.size 52 1 tx k (u32s zs) ∧ Below w.heap.size w wr) (fun _ _ i _ => n - (intOf i).toNat)
  case atStart => exact ⟨0, [], 0, by omega, rfl, rfl, SubInv.start xs ys, World.ownsRow_nil _ _ _ _, Below.refl _ _⟩
  case round =>
    obtain ⟨k, zs, q, hk, rfl, rfl, hI, hO, hB⟩ := hrel
    have hrx := rdx.belowU hux hB
    have hry := rdy.belowU huy hB
    have hbase := hB.size
    have g5 := hI.one
    by_cases h1 : k < n
    · have g1 := nth_ge xs k
      have g2 := nth_ge ys k
      have g3 := nth_le hlx k
      have g4 := nth_le hly k
      obtain ⟨bx, ox, rfl, hcx⟩ := hrx.cells k (by rw [HL.out]; exact h1)
      by_cases h2 : k < m
      · obtain ⟨by', oy, rfl, hcy⟩ := hry.cells k (by rw [HL'.out]; exact h2)
        obtain ⟨v0, v1, hcase⟩ := diff_digit hlx hly hI ((q : Int) + nth ys k) rfl
        rcases hcase with ⟨hcmp, d, hd, HD, HI2⟩ | ⟨hcmp, D, hDw, hD0, hD1, d, hd, HD, HI2⟩
        · have HQ : Hid ((0 : Int) = ((0 : Nat) : Int)) := rfl
          go_wp2_with (at_builtin; refine wpList_append_own _ rfl _ _ 23 rfl w.heap.size 52 i0 (.int .u32 0) 1 4 Tryd.underlying23 hi hz0 hz1 hz2 rfl (by decide) _ _ _ rfl (hO.alloc _) ⟨wr.heap.size, 0, none⟩ 1 1 [.int .u32 ?vv1] rfl rfl ?c1 ?c2 ?c3 ?c4 ?c5 ?_)
          case c1 => exact cell_one_new _ _ _
          case c2 => intro u hu; simp at hu; subst hu; rfl
          case c3 => unfold maxLen; omega
          case c4 => omega
          case c5 => simp; omega
          intro v' w1 hown1 hgrow1 _
          have hB2 := (hB.alloc (by omega) _).grown hgrow1 (by simp; omega) (fun z hz => ((hO.lt) z hz).1)
          rw [u32s_snoc zs d _ HD.out] at hown1
          obtain ⟨bz, oz, ez, hcz⟩ := (rdx.belowU hux hB2).cells k (by rw [HL.out]; exact h1)
          simp only [Option.some.injEq, Addr.mk.injEq, and_true] at ez
          obtain ⟨rfl, rfl⟩ := ez
          clear hgrow1 hO hB hI hrx hry
          go_wp2_with fail
          go_roundw
          case rel => exact ⟨k + 1, zs ++ [d], 0, by omega, by go_num, rfl, HI2.out, hown1, hB2⟩
          case measure => simp [intOf]; omega
        · have HQ : Hid ((1 : Int) = ((1 : Nat) : Int)) := rfl
          go_wp2_with (at_builtin; refine wpList_append_own _ rfl _ _ 23 rfl w.heap.size 52 i0 (.int .u32 0) 1 4 Tryd.underlying23 hi hz0 hz1 hz2 rfl (by decide) _ _ _ rfl (hO.alloc _) ⟨wr.heap.size, 0, none⟩ 1 1 [.int .u32 ?vv2] rfl rfl ?c1 ?c2 ?c3 ?c4 ?c5 ?_)
          case c1 => exact cell_one_new _ _ _
          case c2 => intro u hu; simp at hu; subst hu; rfl
          case c3 => unfold maxLen; omega
          case c4 => omega
          case c5 => simp; omega
          intro v' w1 hown1 hgrow1 _
          have hB2 := (hB.alloc (by omega) _).grown hgrow1 (by simp; omega) (fun z hz => ((hO.lt) z hz).1)
          rw [u32s_snoc zs d _ HD.out] at hown1
          obtain ⟨bz, oz, ez, hcz⟩ := (rdx.belowU hux hB2).cells k (by rw [HL.out]; exact h1)
          simp only [Option.some.injEq, Addr.mk.injEq, and_true] at ez
          obtain ⟨rfl, rfl⟩ := ez
          clear hgrow1 hO hB hI hrx hry
          go_wp2_with fail
          go_roundw
          case rel => exact ⟨k + 1, zs ++ [d], 1, by omega, by go_num, rfl, HI2.out, hown1, hB2⟩
          case measure => simp [intOf]; omega
      · have hy0 := nth_past ys k (by rw [HL'.out]; omega)
        obtain ⟨v0, v1, hcase⟩ := diff_digit hlx hly hI (q : Int) (by omega)
        clear hy0
        rcases hcase with ⟨hcmp, d, hd, HD, HI2⟩ | ⟨hcmp, D, hDw, hD0, hD1, d, hd, HD, HI2⟩
        · have HQ : Hid ((0 : Int) = ((0 : Nat) : Int)) := rfl
          go_wp2_with (at_builtin; refine wpList_append_own _ rfl _ _ 23 rfl w.heap.size 52 i0 (.int .u32 0) 1 4 Tryd.underlying23 hi hz0 hz1 hz2 rfl (by decide) _ _ _ rfl (hO.alloc _) ⟨wr.heap.size, 0, none⟩ 1 1 [.int .u32 ?vv3] rfl rfl ?c1 ?c2 ?c3 ?c4 ?c5 ?_)
          case c1 => exact cell_one_new _ _ _
          case c2 => intro u hu; simp at hu; subst hu; rfl
          case c3 => unfold maxLen; omega
          case c4 => omega
          case c5 => simp; omega
          intro v' w1 hown1 hgrow1 _
          have hB2 := (hB.alloc (by omega) _).grown hgrow1 (by simp; omega) (fun z hz => ((hO.lt) z hz).1)
          rw [u32s_snoc zs d _ HD.out] at hown1
          obtain ⟨bz, oz, ez, hcz⟩ := (rdx.belowU hux hB2).cells k (by rw [HL.out]; exact h1)
          simp only [Option.some.injEq, Addr.mk.injEq, and_true] at ez
          obtain ⟨rfl, rfl⟩ := ez
          clear hgrow1 hO hB hI hrx hry
          go_wp2_with fail
          go_roundw
          case rel => exact ⟨k + 1, zs ++ [d], 0, by omega, by go_num, rfl, HI2.out, hown1, hB2⟩
          case measure => simp [intOf]; omega
        · have HQ : Hid ((1 : Int) = ((1 : Nat) : Int)) := rfl
          go_wp2_with (at_builtin; refine wpList_append_own _ rfl _ _ 23 rfl w.heap.size 52 i0 (.int .u32 0) 1 4 Tryd.underlying23 hi hz0 hz1 hz2 rfl (by decide) _ _ _ rfl (hO.alloc _) ⟨wr.heap.size, 0, none⟩ 1 1 [.int .u32 ?vv4] rfl rfl ?c1 ?c2 ?c3 ?c4 ?c5 ?_)
          case c1 => exact cell_one_new _ _ _
          case c2 => intro u hu; simp at hu; subst hu; rfl
          case c3 => unfold maxLen; omega
          case c4 => omega
          case c5 => simp; omega
          intro v' w1 hown1 hgrow1 _
          have hB2 := (hB.alloc (by omega) _).grown hgrow1 (by simp; omega) (fun z hz => ((hO.lt) z hz).1)
          rw [u32s_snoc zs d _ HD.out] at hown1
          obtain ⟨bz, oz, ez, hcz⟩ := (rdx.belowU hux hB2).cells k (by rw [HL.out]; exact h1)
          simp only [Option.some.injEq, Addr.mk.injEq, and_true] at ez
          obtain ⟨rfl, rfl⟩ := ez
          clear hgrow1 hO hB hI hrx hry
          go_wp2_with fail
          go_roundw
          case rel => exact ⟨k + 1, zs ++ [d], 1, by omega, by go_num, rfl, HI2.out, hown1, hB2⟩
          case measure => simp [intOf]; omega
    · obtain rfl : k = n := by omega
      have hdn := hI.done hlx HL.out HLE.out
      have hlen := hI.len
      have hlz := hI.lim
      have HDN := Lib.hid hdn.2
      have HLen := Lib.hid hlen
      obtain ⟨a9, c9, rfl, hN⟩ := new_of_row hB hlz (by simpa [hlen] using hO)
      clear hdn hlen hI hrx hry rdx rdy hO hB
      go_wp2_with fail
      go_ret
      exact ⟨_, a9, c9, HDN.out, by simp [HLen.out], rfl, hN⟩

set_option maxRecDepth 100000 in
set_option maxHeartbeats 2000000 in
theorem rdouble_any (a : Option Addr) (n cap bit : Nat) (xs : List Nat) (w : World) (rdx : Rd w a cap xs) (hl : xs.length = n) (hn : n ≤ 1000000000) (hbit : bit ≤ 1) :
    Calls Tryd.prog 55 #[.slice a n cap, .int .u32 bit] w (GivesLimbs w (2 * val xs + bit) (n + 1)) := by
  obtain ⟨i0, hi, hz0, hz1, hz2⟩ := info_parts Tryd.infoU32
  have hlx := rdx.lim
  have hux := rdx.under
  have HL := Lib.hid hl
  clear hl
  go_enter Tryd.func55, Tryd.ntmps55
  go_wp2_with fail
  go_loopw [1, 5, 10] (fun c tx i wr => ∃ (k : Nat) (zs : List Nat) (q : Nat), k ≤ n ∧ i = .int .i64 k ∧ c = .int .u32 q ∧ DblInv xs bit k zs q ∧ wr.ownsRow w.heap.size 52 1 tx k (u32s zs) ∧ Below w.heap.size w wr) (fun _ _ i _ => n - (intOf i).toNat)
  case atStart => exact ⟨0, [], bit, by omega, rfl, rfl, DblInv.start xs bit hbit, World.ownsRow_nil _ _ _ _, Below.refl _ _⟩
  case round =>
    obtain ⟨k, zs, q, hk, rfl, rfl, hI, hO, hB⟩ := hrel
    have hrx := rdx.belowU hux hB
    have hbase := hB.size
    have g5 := hI.one
    by_cases h1 : k < n
    · have g1 := nth_ge xs k
      have g3 := nth_le hlx k
      obtain ⟨bx, ox, rfl, hcx⟩ := hrx.cells k (by rw [HL.out]; exact h1)
      obtain ⟨d, q', hd, hq', HD, HQ, HI2⟩ := dbl_digit hlx hI
      go_wp2_with (at_builtin; refine wpList_append_own _ rfl _ _ 23 rfl w.heap.size 52 i0 (.int .u32 0) 1 4 Tryd.underlying23 hi hz0 hz1 hz2 rfl (by decide) _ _ _ rfl (hO.alloc _) ⟨wr.heap.size, 0, none⟩ 1 1 [.int .u32 ?vv5] rfl rfl ?c1 ?c2 ?c3 ?c4 ?c5 ?_)
      case c1 => exact cell_one_new _ _ _
      case c2 => intro u hu; simp at hu; subst hu; rfl
      case c3 => unfold maxLen; omega
      case c4 => omega
      case c5 => simp; omega
      intro v' w1 hown1 hgrow1 _
      have hB2 := (hB.alloc (by omega) _).grown hgrow1 (by simp; omega) (fun z hz => ((hO.lt) z hz).1)
      rw [u32s_snoc zs d _ HD.out] at hown1
      clear hgrow1 hO hB hI hrx
      go_wp2_with fail
      go_roundw
      case rel => exact ⟨k + 1, zs ++ [d], q', by omega, by go_num, by rw [HQ.out], HI2.out, hown1, hB2⟩
      case measure => simp [intOf]; omega
    · obtain rfl : k = n := by omega
      have hdn := hI.done HL.out
      have hlen := hI.len
      have HDN := Lib.hid hdn
      have HLen := Lib.hid hlen
      clear hdn hlen hI hrx rdx
      go_wp2_with (at_builtin; refine wpList_append_own _ rfl _ _ 23 rfl w.heap.size 52 i0 (.int .u32 0) 1 4 Tryd.underlying23 hi hz0 hz1 hz2 rfl (by decide) _ _ _ rfl (hO.alloc _) ⟨wr.heap.size, 0, none⟩ 1 1 [.int .u32 (q : Int)] rfl rfl ?c1 ?c2 ?c3 ?c4 ?c5 ?_)
      case c1 => exact cell_one_new _ _ _
      case c2 => intro u hu; simp at hu; subst hu; rfl
      case c3 => unfold maxLen; omega
      case c4 => omega
      case c5 => simp; omega
      intro v' w1 hown1 hgrow1 _
      have hB2 := (hB.alloc (by omega) _).grown hgrow1 (by simp; omega) (fun z hz => ((hO.lt) z hz).1)
      rw [u32s_snoc zs q _ rfl] at hown1
      obtain ⟨a9, c9, rfl, hN⟩ := new_of_row hB2 HDN.out.1 (by simpa [HLen.out] using hown1)
      clear hown1 hgrow1 hB2 hO hB
      go_wp2_with fail
      go_ret
      exact ⟨_, a9, c9, HDN.out.2, by simp [HLen.out], rfl, hN⟩
end Go.Proofs.YtgnjjmbphangnaaDoor
