/-
  The contracts of Pow, the program's and the reference's.
-/
import Derived.Test.YtllogjmepflnoaaDoorRQ
namespace Go.Proofs.YtllogjmepflnoaaDoor
open Go.RowKit

/-- A list of limbs in a block of the call's own, which is neither of two given ones. -/
structure Apart (B0 B1 B2 : Nat) (zs : List Nat) (a : Option Addr) (cap : Nat) (w : World) : Prop where
  fits : zs.length ≤ cap
  own : (a = none ∧ zs = []) ∨ ∃ g, a = some ⟨g, 0, none⟩ ∧ B0 ≤ g ∧ g ≠ B1 ∧ g ≠ B2 ∧ Own w g zs

theorem Apart.rd {B0 B1 B2 : Nat} {zs : List Nat} {a : Option Addr} {cap : Nat} {w : World} (h : Apart B0 B1 B2 zs a cap w) : Rd w a cap zs := by
  rcases h.own with ⟨rfl, rfl⟩ | ⟨g, rfl, _, _, _, ho⟩
  · exact Rd.nil _ _ _
  · exact ho.rd h.fits
theorem Apart.of_new {B0 B1 B2 : Nat} {zs : List Nat} {a : Option Addr} {cap : Nat} {v w : World} (h : New v zs a cap w) (h0 : B0 ≤ v.heap.size) (h1 : B1 < v.heap.size ∨ w.heap.size ≤ B1) (h2 : B2 < v.heap.size ∨ w.heap.size ≤ B2) : Apart B0 B1 B2 zs a cap w := by
  refine ⟨h.fits, ?_⟩
  rcases h.own with h' | ⟨g, rfl, hg, ho⟩
  · exact .inl h'
  · have := ho.lt
    exact .inr ⟨g, rfl, by omega, by omega, by omega, ho⟩
theorem Apart.below {B0 B1 B2 : Nat} {zs : List Nat} {a : Option Addr} {cap : Nat} {w w' : World} (h : Apart B0 B1 B2 zs a cap w) (hb : Below w.heap.size w w') : Apart B0 B1 B2 zs a cap w' := by
  refine ⟨h.fits, ?_⟩
  rcases h.own with h' | ⟨g, rfl, hg, h1, h2, ho⟩
  · exact .inl h'
  · exact .inr ⟨g, rfl, hg, h1, h2, ho.below hb ho.lt⟩
theorem Apart.store1 {B0 B1 B2 : Nat} {zs : List Nat} {a : Option Addr} {cap : Nat} {w : World} (h : Apart B0 B1 B2 zs a cap w) (i : Nat) (v : Value) : Apart B0 B1 B2 zs a cap (w.setCell ⟨B1, i, none⟩ v) := by
  refine ⟨h.fits, ?_⟩
  rcases h.own with h' | ⟨g, rfl, hg, h1, h2, ho⟩
  · exact .inl h'
  · exact .inr ⟨g, rfl, hg, h1, h2, ho.of_heap (Below.heap_setCell _ _ _ _ (by simpa using h1))⟩
theorem Apart.store2 {B0 B1 B2 : Nat} {zs : List Nat} {a : Option Addr} {cap : Nat} {w : World} (h : Apart B0 B1 B2 zs a cap w) (i : Nat) (v : Value) : Apart B0 B1 B2 zs a cap (w.setCell ⟨B2, i, none⟩ v) := by
  refine ⟨h.fits, ?_⟩
  rcases h.own with h' | ⟨g, rfl, hg, h1, h2, ho⟩
  · exact .inl h'
  · exact .inr ⟨g, rfl, hg, h1, h2, ho.of_heap (Below.heap_setCell _ _ _ _ (by simpa using h2))⟩
theorem Apart.to_new {w w' : World} {B0 B1 B2 : Nat} {zs : List Nat} {a : Option Addr} {cap : Nat} (h : Apart B0 B1 B2 zs a cap w') (hB : w.heap.size ≤ B0) (hb : Below w.heap.size w w') : New w zs a cap w' := by
  refine ⟨hb, h.fits, ?_⟩
  rcases h.own with h' | ⟨g, rfl, hg, h1, h2, ho⟩
  · exact .inl h'
  · exact .inr ⟨g, rfl, by omega, ho⟩

theorem Box.stored {B : Nat} {u v : Value} {w : World} (h : Box B u v w) (x y : Value) : Box B x y ((w.setCell ⟨B, 0, none⟩ x).setCell ⟨B, 1, none⟩ y) := by
  obtain ⟨c0, c1, f0, f1, hs⟩ := h
  refine ⟨?_, ?_, ?_, ?_, ?_⟩
  all_goals simp [go_sem, c0, c1, f0, f1, hs]

theorem natAbs_lt' {neg : Bool} {xs : List Nat} (h : Lim xs) : (den neg xs).natAbs < 4294967296 ^ xs.length := by rw [natAbs_den]; exact val_lt h

theorem mg_pow_len {z : Int} {n : Nat} (h : z.natAbs < 4294967296 ^ n) (_hn : 1 ≤ n) (j : Nat) : (mg (z ^ j)).length ≤ n * j + 1 := by
  refine length_limbs_le ?_
  rw [Int.natAbs_pow]
  have h1 : z.natAbs ^ j ≤ (4294967296 ^ n) ^ j := Nat.pow_le_pow_left (Nat.le_of_lt h) j
  rw [← Nat.pow_mul] at h1
  refine Nat.lt_of_le_of_lt h1 (Nat.pow_lt_pow_right (by omega) (by omega))

def GivesPow (w : World) (z : Int) (k : Nat) (e : Ending) (w' : World) : Prop :=
  ∃ (a : Option Addr) (cap : Nat), e = .returned (.tuple #[.agg #[.bool (sg (z ^ k)), .slice a (mg (z ^ k)).length cap], .bool true]) ∧ New w (mg (z ^ k)) a cap w'

attribute [local go_sem ↓] Go.wp_at_zero Go.wp_at_succ

set_option maxRecDepth 100000 in
set_option maxHeartbeats 4000000 in
theorem pow_none (na : Bool) (a : Option Addr) (n cap : Nat) (k : Int) (xs : List Nat) (w : World) (rdx : Rd w a cap xs) (hl : xs.length = n) (h0 : -9223372036854775808 ≤ k) (h1 : k ≤ 9223372036854775807) (hk : k < 0 ∨ 64 < k) :
    Calls Tryd.prog 45 #[.agg #[.bool na, .slice a n cap], .int .i64 k] w (fun e w' => GivesNone e ∧ Below w.heap.size w w') := by
  obtain ⟨W, hW⟩ : ∃ W, W = (w.alloc (.cells #[.bool na, .slice a n cap] 24)).alloc (.cells #[.bool false, .slice none 0 0] 24) := ⟨_, rfl⟩
  have hb0 : Below w.heap.size w W := by rw [hW]; exact ((Below.refl _ _).alloc (Nat.le_refl _) _).alloc (by simp) _
  have hxa : Box w.heap.size (.bool na) (.slice a n cap) W := by rw [hW]; exact (Box.made _ _ rfl _ _ _).alloc _
  have hxr : Box (w.heap.size + 1) (.bool false) (.slice none 0 0) W := by rw [hW]; exact Box.made _ _ (by simp) _ _ _
  have hWs : W.heap.size = w.heap.size + 2 := by rw [hW]; simp
  have hra := rdx.below hb0
  have HW := Lib.hid hW
  have HL := Lib.hid hl
  have HB0 := Lib.hid hb0
  have HXR := Lib.hid hxr
  have HXA := Lib.hid hxa
  have HRA := Lib.hid hra
  have HWS := Lib.hid hWs
  clear hW hl hb0 rdx hxr hra hxa hWs
  by_cases hk0 : k < 0
  · go_enter Tryd.func45, Tryd.ntmps45
    go_wp2_with fail
    rw [← HW.out]
    obtain ⟨r0, r1, r2, r3, r4⟩ := HXR.out
    exact bodyPost_ret (v := .tuple #[.agg #[.bool false, .slice none 0 0], .bool false]) (by simp [results, Tryd.results45, go_sem, r0, r1]) rfl ⟨rfl, HB0.out⟩
  · have hk1 : 64 < k := by omega
    clear hk
    go_enter Tryd.func45, Tryd.ntmps45
    go_wp2_with fail
    rw [← HW.out]
    obtain ⟨r0, r1, r2, r3, r4⟩ := HXR.out
    exact bodyPost_ret (v := .tuple #[.agg #[.bool false, .slice none 0 0], .bool false]) (by simp [results, Tryd.results45, go_sem, r0, r1]) rfl ⟨rfl, HB0.out⟩

set_option maxRecDepth 100000 in
set_option maxHeartbeats 8000000 in
theorem pow_any (na : Bool) (a : Option Addr) (n cap K : Nat) (xs : List Nat) (w : World) (rdx : Rd w a cap xs) (hl : xs.length = n) (hn : n ≤ 1000) (hK : K ≤ 64) :
    Calls Tryd.prog 45 #[.agg #[.bool na, .slice a n cap], .int .i64 K] w (GivesPow w (den na xs) K) := by
  obtain ⟨W, hW⟩ : ∃ W, W = (w.alloc (.cells #[.bool na, .slice a n cap] 24)).alloc (.cells #[.bool false, .slice none 0 0] 24) := ⟨_, rfl⟩
  have hb0 : Below w.heap.size w W := by rw [hW]; exact ((Below.refl _ _).alloc (Nat.le_refl _) _).alloc (by simp) _
  have hxa : Box w.heap.size (.bool na) (.slice a n cap) W := by rw [hW]; exact (Box.made _ _ rfl _ _ _).alloc _
  have hxr : Box (w.heap.size + 1) (.bool false) (.slice none 0 0) W := by rw [hW]; exact Box.made _ _ (by simp) _ _ _
  have hWs : W.heap.size = w.heap.size + 2 := by rw [hW]; simp
  have hra := rdx.below hb0
  have HW := Lib.hid hW
  have HL := Lib.hid hl
  have HB0 := Lib.hid hb0
  have HXR := Lib.hid hxr
  have HXA := Lib.hid hxa
  have HRA := Lib.hid hra
  have HWS := Lib.hid hWs

  obtain ⟨z, hz⟩ : ∃ z, z = den na xs := ⟨_, rfl⟩
  rw [← hz]
  have hpl : ∀ j, j ≤ 64 → (mg (z ^ j)).length ≤ 70000 := by
    intro j hj
    have h1 : z.natAbs < 4294967296 ^ (n + 1) := by
      rw [hz]
      refine Nat.lt_of_lt_of_le (natAbs_lt' rdx.lim) (Nat.pow_le_pow_right (by omega) (by omega))
    have h2 := mg_pow_len h1 (by omega) j
    have h3 : (n + 1) * j ≤ 1001 * 64 := Nat.mul_le_mul (by omega) hj
    omega
  have HPL := Lib.hid hpl
  have HZ := Lib.hid hz
  clear hW hl hb0 rdx hxr hra hxa hWs hpl hz
  go_enter Tryd.func45, Tryd.ntmps45
  go_wp2_with fail
  rw [← HW.out]
  refine (small_any 1 _ (by omega) (by omega)).mono ?_
  rintro ev w1 ⟨a1, c1, rfl, hN1⟩
  go_wp2_with fail
  obtain ⟨G, hG⟩ : ∃ G, G = w1.heap.size := ⟨_, rfl⟩
  obtain ⟨V, hV⟩ : ∃ V, V = w1.alloc (Obj.cells #[Value.bool (sg 1), Value.slice a1 (mg 1).length c1] 24) := ⟨_, rfl⟩
  rw [← hV]
  have hbv : Below w1.heap.size w1 V := by rw [hV]; exact (Below.refl _ _).alloc (Nat.le_refl _) _
  have hB1 : Below W.heap.size W V := hN1.below.trans (hbv.mono hN1.below.size)
  have hxp : Box G (.bool (sg 1)) (.slice a1 (mg 1).length c1) V := by rw [hV]; exact Box.made _ _ hG _ _ _
  have hA : Apart w.heap.size G (w.heap.size + 1) (mg 1) a1 c1 V := (Apart.of_new hN1 (by rw [HWS.out]; omega) (.inr (by omega)) (.inl (by rw [HWS.out]; omega))).below hbv
  have HG : Hid (W.heap.size ≤ G) := by unfold Hid; rw [hG]; exact hN1.below.size
  rw [← hG]
  have hp0 : z ^ 0 = 1 := by simp
  clear hG hV hbv hN1
  go_loopw [16] (fun ii wr => ∃ (j : Nat) (pa : Option Addr) (pc : Nat), j ≤ K ∧ ii = .int .i64 j ∧ Box G (.bool (sg (z ^ j))) (.slice pa (mg (z ^ j)).length pc) wr ∧ Apart w.heap.size G (w.heap.size + 1) (mg (z ^ j)) pa pc wr ∧ Below W.heap.size W wr) (fun ii _ => K - (intOf ii).toNat)
  case atStart => exact ⟨0, a1, c1, by omega, rfl, by rw [hp0]; exact hxp, by rw [hp0]; exact hA, hB1⟩
  case round =>
    clear hxp hA hB1 hp0
    obtain ⟨j, pa, pc, hj, rfl, hX, hA, hB⟩ := hrel
    have HX := Lib.hid hX
    obtain ⟨q0, q1, q2, q3, q4⟩ := hX
    by_cases hlt : j < K
    · have hxa := HXA.out.below hB
      have hra := HRA.out.below hB
      obtain ⟨p0, p1, p2, p3, p4⟩ := hxa
      go_wp2_with fail
      refine (mul_any (sg (z ^ j)) na pa a _ n pc cap (mg (z ^ j)) xs _ hA.rd hra rfl HL.out (Nat.le_trans (HPL.out j (by omega)) (by omega)) (by omega)).mono ?_
      rw [den_mg, ← HZ.out]
      have hps : z ^ j * z = z ^ (j + 1) := (Int.pow_succ z j).symm
      rw [hps]
      rintro ev w5 ⟨a5, c5, rfl, hN5⟩
      have hb5 := hN5.below
      have hX5 := HX.out.below hb5
      have HX5 := Lib.hid hX5
      have hA5 : Apart w.heap.size G (w.heap.size + 1) (mg (z ^ (j + 1))) a5 c5 w5 := Apart.of_new hN5 (by have := hB.size; have := HWS.out; omega) (.inl q4) (.inl (by have := hB.size; have := HWS.out; omega))
      have hB5 := hB.trans (hb5.mono hB.size)
      clear hN5 hb5 hB hA p0 p1 p2 p3 p4 q0 q1 q2 q3 q4 hps
      obtain ⟨q0, q1, q2, q3, q4⟩ := hX5
      go_wp2_with fail
      go_roundw
      case rel => exact ⟨j + 1, a5, c5, by omega, by go_num, HX5.out.stored _ _, (hA5.store1 0 _).store1 1 _, (hB5.setCell (p := ⟨G, 0, none⟩) HG.out _).setCell (p := ⟨G, 1, none⟩) HG.out _⟩
      case measure => simp [intOf]; omega
    · obtain rfl : j = K := by omega
      have hxr := HXR.out.below hB
      have hbw := HB0.out.trans (hB.mono HB0.out.size)
      have hfin : New w (mg (z ^ j)) pa pc ((wr.setCell ⟨w.heap.size + 1, 0, none⟩ (.bool (sg (z ^ j)))).setCell ⟨w.heap.size + 1, 1, none⟩ (.slice pa (mg (z ^ j)).length pc)) :=
        ((hA.store2 0 _).store2 1 _).to_new (Nat.le_refl _) ((hbw.setCell (p := ⟨w.heap.size + 1, 0, none⟩) (by simp) _).setCell (p := ⟨w.heap.size + 1, 1, none⟩) (by simp) _)
      have HF := Lib.hid hfin
      obtain ⟨r0, r1, r2, r3, r4⟩ := hxr
      clear hfin hbw hB hA
      go_wp2_with fail
      exact bodyPost_ret (v := .tuple #[.agg #[.bool (sg (z ^ j)), .slice pa (mg (z ^ j)).length pc], .bool true]) (by simp [results, Tryd.results45, go_sem, r0, r1]) rfl ⟨pa, pc, rfl, HF.out⟩

set_option maxRecDepth 100000 in
set_option maxHeartbeats 4000000 in
theorem rpow_none (na : Bool) (a : Option Addr) (n cap : Nat) (k : Int) (xs : List Nat) (w : World) (rdx : Rd w a cap xs) (hl : xs.length = n) (h0 : -9223372036854775808 ≤ k) (h1 : k ≤ 9223372036854775807) (hk : k < 0 ∨ 64 < k) :
    Calls Tryd.prog 46 #[.agg #[.bool na, .slice a n cap], .int .i64 k] w (fun e w' => GivesNone e ∧ Below w.heap.size w w') := by
  obtain ⟨W, hW⟩ : ∃ W, W = (w.alloc (.cells #[.bool na, .slice a n cap] 24)).alloc (.cells #[.bool false, .slice none 0 0] 24) := ⟨_, rfl⟩
  have hb0 : Below w.heap.size w W := by rw [hW]; exact ((Below.refl _ _).alloc (Nat.le_refl _) _).alloc (by simp) _
  have hxa : Box w.heap.size (.bool na) (.slice a n cap) W := by rw [hW]; exact (Box.made _ _ rfl _ _ _).alloc _
  have hxr : Box (w.heap.size + 1) (.bool false) (.slice none 0 0) W := by rw [hW]; exact Box.made _ _ (by simp) _ _ _
  have hWs : W.heap.size = w.heap.size + 2 := by rw [hW]; simp
  have hra := rdx.below hb0
  have HW := Lib.hid hW
  have HL := Lib.hid hl
  have HB0 := Lib.hid hb0
  have HXR := Lib.hid hxr
  have HXA := Lib.hid hxa
  have HRA := Lib.hid hra
  have HWS := Lib.hid hWs
  clear hW hl hb0 rdx hxr hra hxa hWs
  by_cases hk0 : k < 0
  · go_enter Tryd.func46, Tryd.ntmps46
    go_wp2_with fail
    rw [← HW.out]
    obtain ⟨r0, r1, r2, r3, r4⟩ := HXR.out
    exact bodyPost_ret (v := .tuple #[.agg #[.bool false, .slice none 0 0], .bool false]) (by simp [results, Tryd.results46, go_sem, r0, r1]) rfl ⟨rfl, HB0.out⟩
  · have hk1 : 64 < k := by omega
    clear hk
    go_enter Tryd.func46, Tryd.ntmps46
    go_wp2_with fail
    rw [← HW.out]
    obtain ⟨r0, r1, r2, r3, r4⟩ := HXR.out
    exact bodyPost_ret (v := .tuple #[.agg #[.bool false, .slice none 0 0], .bool false]) (by simp [results, Tryd.results46, go_sem, r0, r1]) rfl ⟨rfl, HB0.out⟩

set_option maxRecDepth 100000 in
set_option maxHeartbeats 8000000 in
theorem rpow_any (na : Bool) (a : Option Addr) (n cap K : Nat) (xs : List Nat) (w : World) (rdx : Rd w a cap xs) (hl : xs.length = n) (hn : n ≤ 1000) (hK : K ≤ 64) :
    Calls Tryd.prog 46 #[.agg #[.bool na, .slice a n cap], .int .i64 K] w (GivesPow w (den na xs) K) := by
  obtain ⟨W, hW⟩ : ∃ W, W = (w.alloc (.cells #[.bool na, .slice a n cap] 24)).alloc (.cells #[.bool false, .slice none 0 0] 24) := ⟨_, rfl⟩
  have hb0 : Below w.heap.size w W := by rw [hW]; exact ((Below.refl _ _).alloc (Nat.le_refl _) _).alloc (by simp) _
  have hxa : Box w.heap.size (.bool na) (.slice a n cap) W := by rw [hW]; exact (Box.made _ _ rfl _ _ _).alloc _
  have hxr : Box (w.heap.size + 1) (.bool false) (.slice none 0 0) W := by rw [hW]; exact Box.made _ _ (by simp) _ _ _
  have hWs : W.heap.size = w.heap.size + 2 := by rw [hW]; simp
  have hra := rdx.below hb0
  have HW := Lib.hid hW
  have HL := Lib.hid hl
  have HB0 := Lib.hid hb0
  have HXR := Lib.hid hxr
  have HXA := Lib.hid hxa
  have HRA := Lib.hid hra
  have HWS := Lib.hid hWs

  obtain ⟨z, hz⟩ : ∃ z, z = den na xs := ⟨_, rfl⟩
  rw [← hz]
  have hpl : ∀ j, j ≤ 64 → (mg (z ^ j)).length ≤ 70000 := by
    intro j hj
    have h1 : z.natAbs < 4294967296 ^ (n + 1) := by
      rw [hz]
      refine Nat.lt_of_lt_of_le (natAbs_lt' rdx.lim) (Nat.pow_le_pow_right (by omega) (by omega))
    have h2 := mg_pow_len h1 (by omega) j
    have h3 : (n + 1) * j ≤ 1001 * 64 := Nat.mul_le_mul (by omega) hj
    omega
  have HPL := Lib.hid hpl
  have HZ := Lib.hid hz
  clear hW hl hb0 rdx hxr hra hxa hWs hpl hz
  go_enter Tryd.func46, Tryd.ntmps46
  go_wp2_with fail
  rw [← HW.out]
  refine (rsmall_any 1 _ (by omega) (by omega)).mono ?_
  rintro ev w1 ⟨a1, c1, rfl, hN1⟩
  go_wp2_with fail
  obtain ⟨G, hG⟩ : ∃ G, G = w1.heap.size := ⟨_, rfl⟩
  obtain ⟨V, hV⟩ : ∃ V, V = w1.alloc (Obj.cells #[Value.bool (sg 1), Value.slice a1 (mg 1).length c1] 24) := ⟨_, rfl⟩
  rw [← hV]
  have hbv : Below w1.heap.size w1 V := by rw [hV]; exact (Below.refl _ _).alloc (Nat.le_refl _) _
  have hB1 : Below W.heap.size W V := hN1.below.trans (hbv.mono hN1.below.size)
  have hxp : Box G (.bool (sg 1)) (.slice a1 (mg 1).length c1) V := by rw [hV]; exact Box.made _ _ hG _ _ _
  have hA : Apart w.heap.size G (w.heap.size + 1) (mg 1) a1 c1 V := (Apart.of_new hN1 (by rw [HWS.out]; omega) (.inr (by omega)) (.inl (by rw [HWS.out]; omega))).below hbv
  have HG : Hid (W.heap.size ≤ G) := by unfold Hid; rw [hG]; exact hN1.below.size
  rw [← hG]
  have hp0 : z ^ 0 = 1 := by simp
  clear hG hV hbv hN1
  go_loopw [7] (fun ii wr => ∃ (j : Nat) (pa : Option Addr) (pc : Nat), j ≤ K ∧ ii = .int .i64 j ∧ Box G (.bool (sg (z ^ j))) (.slice pa (mg (z ^ j)).length pc) wr ∧ Apart w.heap.size G (w.heap.size + 1) (mg (z ^ j)) pa pc wr ∧ Below W.heap.size W wr) (fun ii _ => K - (intOf ii).toNat)
  case atStart => exact ⟨0, a1, c1, by omega, rfl, by rw [hp0]; exact hxp, by rw [hp0]; exact hA, hB1⟩
  case round =>
    clear hxp hA hB1 hp0
    obtain ⟨j, pa, pc, hj, rfl, hX, hA, hB⟩ := hrel
    have HX := Lib.hid hX
    obtain ⟨q0, q1, q2, q3, q4⟩ := hX
    by_cases hlt : j < K
    · have hxa := HXA.out.below hB
      have hra := HRA.out.below hB
      obtain ⟨p0, p1, p2, p3, p4⟩ := hxa
      go_wp2_with fail
      refine (rmul_any (sg (z ^ j)) na pa a _ n pc cap (mg (z ^ j)) xs _ hA.rd hra rfl HL.out (Nat.le_trans (HPL.out j (by omega)) (by omega)) (by omega)).mono ?_
      rw [den_mg, ← HZ.out]
      have hps : z ^ j * z = z ^ (j + 1) := (Int.pow_succ z j).symm
      rw [hps]
      rintro ev w5 ⟨a5, c5, rfl, hN5⟩
      have hb5 := hN5.below
      have hX5 := HX.out.below hb5
      have HX5 := Lib.hid hX5
      have hA5 : Apart w.heap.size G (w.heap.size + 1) (mg (z ^ (j + 1))) a5 c5 w5 := Apart.of_new hN5 (by have := hB.size; have := HWS.out; omega) (.inl q4) (.inl (by have := hB.size; have := HWS.out; omega))
      have hB5 := hB.trans (hb5.mono hB.size)
      clear hN5 hb5 hB hA p0 p1 p2 p3 p4 q0 q1 q2 q3 q4 hps
      obtain ⟨q0, q1, q2, q3, q4⟩ := hX5
      go_wp2_with fail
      go_roundw
      case rel => exact ⟨j + 1, a5, c5, by omega, by go_num, HX5.out.stored _ _, (hA5.store1 0 _).store1 1 _, (hB5.setCell (p := ⟨G, 0, none⟩) HG.out _).setCell (p := ⟨G, 1, none⟩) HG.out _⟩
      case measure => simp [intOf]; omega
    · obtain rfl : j = K := by omega
      have hxr := HXR.out.below hB
      have hbw := HB0.out.trans (hB.mono HB0.out.size)
      have hfin : New w (mg (z ^ j)) pa pc ((wr.setCell ⟨w.heap.size + 1, 0, none⟩ (.bool (sg (z ^ j)))).setCell ⟨w.heap.size + 1, 1, none⟩ (.slice pa (mg (z ^ j)).length pc)) :=
        ((hA.store2 0 _).store2 1 _).to_new (Nat.le_refl _) ((hbw.setCell (p := ⟨w.heap.size + 1, 0, none⟩) (by simp) _).setCell (p := ⟨w.heap.size + 1, 1, none⟩) (by simp) _)
      have HF := Lib.hid hfin
      obtain ⟨r0, r1, r2, r3, r4⟩ := hxr
      clear hfin hbw hB hA
      go_wp2_with fail
      exact bodyPost_ret (v := .tuple #[.agg #[.bool (sg (z ^ j)), .slice pa (mg (z ^ j)).length pc], .bool true]) (by simp [results, Tryd.results46, go_sem, r0, r1]) rfl ⟨pa, pc, rfl, HF.out⟩
end Go.Proofs.YtllogjmepflnoaaDoor
