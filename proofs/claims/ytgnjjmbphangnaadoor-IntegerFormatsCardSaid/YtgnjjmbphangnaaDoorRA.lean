/-
  The reference's sum, difference and double of limbs.
-/
import Derived.Test.YtgnjjmbphangnaaDoorS
namespace Go.Proofs.YtgnjjmbphangnaaDoor
open Go.RowKit

/-- A list of limbs of this value in memory of the call's own. -/
def GivesLimbs (w : World) (X L : Nat) (e : Ending) (w' : World) : Prop :=
  ∃ (zs : List Nat) (a : Option Addr) (cap : Nat), Hid (val zs = X) ∧ zs.length ≤ L ∧ e = .returned (.slice a zs.length cap) ∧ New w zs a cap w'

theorem u32s_snoc (zs : List Nat) (d : Nat) (v : Int) (h : v = (d : Int)) : u32s zs ++ [.int .u32 v] = u32s (zs ++ [d]) := by subst h; simp [u32s]

theorem sum_digit {xs ys : List Nat} {k : Nat} {zs : List Nat} {q : Nat} (hx : Lim xs) (hy : Lim ys) (h : AddInv xs ys k zs q) (v : Int) (hv : v = (q : Int) + nth xs k + nth ys k) :
    0 ≤ v ∧ v ≤ 8589934591 ∧ ∃ d q' : Nat, d ≤ 4294967295 ∧ q' ≤ 1 ∧ Hid (v % 4294967296 = (d : Int)) ∧ Hid (v / 4294967296 = (q' : Int)) ∧ Hid (AddInv xs ys (k + 1) (zs ++ [d]) q') := by
  have h1 := hx.getD k
  have h2 := hy.getD k
  have h3 := h.one
  have hs := h.step hx hy
  have he : v = ((xs.getD k 0 + ys.getD k 0 + q : Nat) : Int) := by rw [hv]; unfold nth; omega
  refine ⟨by omega, by omega, _, _, ?_, hs.one, ?_, ?_, hs⟩
  · omega
  · unfold Hid; omega
  · unfold Hid; omega

theorem nth_past (xs : List Nat) (k : Nat) (h : xs.length ≤ k) : nth xs k = 0 := by unfold nth; rw [getD_past xs k h]; rfl

set_option maxRecDepth 100000 in
set_option maxHeartbeats 2000000 in
theorem rsum_any (a b : Option Addr) (n m cap cap' : Nat) (xs ys : List Nat) (w : World) (rdx : Rd w a cap xs) (rdy : Rd w b cap' ys) (hl : xs.length = n) (hl' : ys.length = m) (hn : n ≤ 1000000000) (hm : m ≤ 1000000000) :
    Calls Tryd.prog 58 #[.slice a n cap, .slice b m cap'] w (GivesLimbs w (val xs + val ys) (max n m + 1)) := by
  obtain ⟨i0, hi, hz0, hz1, hz2⟩ := info_parts Tryd.infoU32
  have hlx := rdx.lim
  have hly := rdy.lim
  have hux := rdx.under
  have huy := rdy.under
  have HL := Lib.hid hl
  have HL' := Lib.hid hl'
  clear hl hl'
  obtain ⟨s, hs⟩ : ∃ s, s = max n m := ⟨_, rfl⟩
  rw [← hs]
  have hsn : n ≤ s := by omega
  have hsm : m ≤ s := by omega
  have hs4 : s ≤ 1000000000 := by omega
  have HS := Lib.hid hs
  clear hs
  go_enter Tryd.func58, Tryd.ntmps58
  go_wp2_with fail
  go_loopw [5, 6, 7] (fun tx c i wr => ∃ (k : Nat) (zs : List Nat) (q : Nat), k ≤ s ∧ i = .int .i64 k ∧ c = .int .u64 q ∧ AddInv xs ys k zs q ∧ wr.ownsRow w.heap.size 52 1 tx k (u32s zs) ∧ Below w.heap.size w wr) (fun _ _ i _ => s - (intOf i).toNat)
  case atStart => exact ⟨0, [], 0, by omega, rfl, rfl, AddInv.start xs ys, World.ownsRow_nil _ _ _ _, Below.refl _ _⟩
  case round =>
    obtain ⟨k, zs, q, hk, rfl, rfl, hI, hO, hB⟩ := hrel
    have hrx := rdx.belowU hux hB
    have hry := rdy.belowU huy hB
    have hbase := hB.size
    have g5 := hI.one
    by_cases hlt : k < s
    · have g1 := nth_ge xs k
      have g2 := nth_ge ys k
      have g3 := nth_le hlx k
      have g4 := nth_le hly k
      by_cases h1 : k < n
      · obtain ⟨bx, ox, rfl, hcx⟩ := hrx.cells k (by rw [HL.out]; exact h1)
        by_cases h2 : k < m
        · obtain ⟨by', oy, rfl, hcy⟩ := hry.cells k (by rw [HL'.out]; exact h2)
          obtain ⟨v0, v1, d, q', hd, hq', HD, HQ, HI2⟩ := sum_digit hlx hly hI ((q : Int) + nth xs k + nth ys k) rfl
          go_wp2_with (at_builtin; refine wpList_append_own _ rfl _ _ 23 rfl w.heap.size 52 i0 (.int .u32 0) 1 4 Tryd.underlying23 hi hz0 hz1 hz2 rfl (by decide) _ _ _ rfl (hO.alloc _) ⟨wr.heap.size, 0, none⟩ 1 1 [.int .u32 ?vv1] rfl rfl ?c1 ?c2 ?c3 ?c4 ?c5 ?_)
          case c1 => exact cell_one_new _ _ _
          case c2 => intro u hu; simp at hu; subst hu; rfl
          case c3 => unfold maxLen; omega
          case c4 => omega
          case c5 => simp; omega
          intro v' w1 hown1 hgrow1 _
          have hB2 := (hB.alloc (by omega) _).grown hgrow1 (by simp; omega) (fun z hz => ((hO.lt) z hz).1)
          rw [u32s_snoc zs d _ HD.out] at hown1
          clear hgrow1 hO hB hI hrx hry
          go_wp2_with fail
          go_roundw
          case rel => exact ⟨k + 1, zs ++ [d], q', by omega, by go_num, by rw [HQ.out], HI2.out, hown1, hB2⟩
          case measure => simp [intOf]; omega
        · have hy0 := nth_past ys k (by rw [HL'.out]; omega)
          obtain ⟨v0, v1, d, q', hd, hq', HD, HQ, HI2⟩ := sum_digit hlx hly hI ((q : Int) + nth xs k) (by omega)
          clear hy0
          go_wp2_with (at_builtin; refine wpList_append_own _ rfl _ _ 23 rfl w.heap.size 52 i0 (.int .u32 0) 1 4 Tryd.underlying23 hi hz0 hz1 hz2 rfl (by decide) _ _ _ rfl (hO.alloc _) ⟨wr.heap.size, 0, none⟩ 1 1 [.int .u32 ?vv2] rfl rfl ?c1 ?c2 ?c3 ?c4 ?c5 ?_)
          case c1 => exact cell_one_new _ _ _
          case c2 => intro u hu; simp at hu; subst hu; rfl
          case c3 => unfold maxLen; omega
          case c4 => omega
          case c5 => simp; omega
          intro v' w1 hown1 hgrow1 _
          have hB2 := (hB.alloc (by omega) _).grown hgrow1 (by simp; omega) (fun z hz => ((hO.lt) z hz).1)
          rw [u32s_snoc zs d _ HD.out] at hown1
          clear hgrow1 hO hB hI hrx hry
          go_wp2_with fail
          go_roundw
          case rel => exact ⟨k + 1, zs ++ [d], q', by omega, by go_num, by rw [HQ.out], HI2.out, hown1, hB2⟩
          case measure => simp [intOf]; omega
      · have h2 : k < m := by have := HS.out; omega
        obtain ⟨by', oy, rfl, hcy⟩ := hry.cells k (by rw [HL'.out]; exact h2)
        have hx0 := nth_past xs k (by rw [HL.out]; omega)
        obtain ⟨v0, v1, d, q', hd, hq', HD, HQ, HI2⟩ := sum_digit hlx hly hI ((q : Int) + nth ys k) (by omega)
        clear hx0
        go_wp2_with (at_builtin; refine wpList_append_own _ rfl _ _ 23 rfl w.heap.size 52 i0 (.int .u32 0) 1 4 Tryd.underlying23 hi hz0 hz1 hz2 rfl (by decide) _ _ _ rfl (hO.alloc _) ⟨wr.heap.size, 0, none⟩ 1 1 [.int .u32 ?vv3] rfl rfl ?c1 ?c2 ?c3 ?c4 ?c5 ?_)
        case c1 => exact cell_one_new _ _ _
        case c2 => intro u hu; simp at hu; subst hu; rfl
        case c3 => unfold maxLen; omega
        case c4 => omega
        case c5 => simp; omega
        intro v' w1 hown1 hgrow1 _
        have hB2 := (hB.alloc (by omega) _).grown hgrow1 (by simp; omega) (fun z hz => ((hO.lt) z hz).1)
        rw [u32s_snoc zs d _ HD.out] at hown1
        clear hgrow1 hO hB hI hrx hry
        go_wp2_with fail
        go_roundw
        case rel => exact ⟨k + 1, zs ++ [d], q', by omega, by go_num, by rw [HQ.out], HI2.out, hown1, hB2⟩
        case measure => simp [intOf]; omega
    · obtain rfl : k = s := by omega
      have hdn := hI.done (by rw [HL.out]; omega) (by rw [HL'.out]; omega)
      have hlen := hI.len
      have HDN := Lib.hid hdn
      have HLen := Lib.hid hlen
      clear hdn hlen hI hrx hry rdx rdy
      go_wp2_with (at_builtin; refine wpList_append_own _ rfl _ _ 23 rfl w.heap.size 52 i0 (.int .u32 0) 1 4 Tryd.underlying23 hi hz0 hz1 hz2 rfl (by decide) _ _ _ rfl (hO.alloc _) ⟨wr.heap.size, 0, none⟩ 1 1 [.int .u32 (q : Int)] rfl rfl ?c1 ?c2 ?c3 ?c4 ?c5 ?_)
      case c1 => exact cell_one_new _ _ _
      case c2 => intro u hu; simp at hu; subst hu; rfl
      case c3 => unfold maxLen; omega
      case c4 => omega
      case c5 => simp; omega
      intro v' w1 hown1 hgrow1 _
      have hB2 := (hB.alloc (by omega) _).grown hgrow1 (by simp; omega) (fun z hz => ((hO.lt) z hz).1)
      rw [u32s_snoc zs q _ rfl] at hown1
      obtain ⟨a9, c9, rfl, hN⟩ := new_of_row hB2 HDN.out.1 (by simpa [HLen.out] using hown1)
      clear hown1 hgrow1 hB2 hO hB
      go_wp2_with fail
      go_ret
      exact ⟨_, a9, c9, HDN.out.2, by simp [HLen.out], rfl, hN⟩

end Go.Proofs.YtgnjjmbphangnaaDoor
