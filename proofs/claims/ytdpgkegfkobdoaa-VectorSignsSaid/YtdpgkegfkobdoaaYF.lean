/-
  The contracts of widen, plus and limited: integers modulo 2^128 in two words.
-/
import Derived.Test.YtdpgkegfkobdoaaYE
import Derived.Sort.Grow
namespace Go.Proofs.Ytdpgkegfkobdoaa
open Go.RowKit

/-- The two words of an integer modulo 2^128. -/
def hiW (S : Int) : Int := S / 18446744073709551616 % 18446744073709551616
def loW (S : Int) : Int := S % 18446744073709551616
def wval (S : Int) : Value := .agg #[.int .u64 (hiW S), .int .u64 (loW S)]

theorem hiW_ge (S : Int) : 0 ≤ hiW S := Int.emod_nonneg _ (by omega)
theorem hiW_lt (S : Int) : hiW S ≤ 18446744073709551615 := by have := Int.emod_lt_of_pos (S / 18446744073709551616) (b := 18446744073709551616) (by omega); unfold hiW; omega
theorem loW_ge (S : Int) : 0 ≤ loW S := Int.emod_nonneg _ (by omega)
theorem loW_lt (S : Int) : loW S ≤ 18446744073709551615 := by have := Int.emod_lt_of_pos S (b := 18446744073709551616) (by omega); unfold loW; omega

/-- A number is its words, but for a multiple of 2^128. -/
theorem words (S : Int) : ∃ K, S = 340282366920938463463374607431768211456 * K + 18446744073709551616 * hiW S + loW S := by
  refine ⟨S / 18446744073709551616 / 18446744073709551616, ?_⟩
  unfold hiW loW
  omega

theorem words_of (K H L : Int) : hiW (340282366920938463463374607431768211456 * K + 18446744073709551616 * H + L) = (H + L / 18446744073709551616) % 18446744073709551616 ∧ loW (340282366920938463463374607431768211456 * K + 18446744073709551616 * H + L) = L % 18446744073709551616 := by
  unfold hiW loW
  omega

/-- The sum with a product, in words. -/
theorem plus_words (S A n : Int) (h l : Int) (hl : loW A * loW n = 18446744073709551616 * h + l) (h0 : 0 ≤ l) (h1 : l ≤ 18446744073709551615) :
    hiW (S + A * n) = (hiW S + ((h + (hiW A * loW n + loW A * hiW n)) % 18446744073709551616) + (loW S + l) / 18446744073709551616) % 18446744073709551616 ∧ loW (S + A * n) = (loW S + l) % 18446744073709551616 := by
  obtain ⟨K1, e1⟩ := words S
  obtain ⟨K2, e2⟩ := words A
  obtain ⟨K3, e3⟩ := words n
  have e : S + A * n = 340282366920938463463374607431768211456 * (K1 + K2 * n + (hiW A * 18446744073709551616 + loW A) * K3 + hiW A * hiW n) + 18446744073709551616 * (hiW S + h + (hiW A * loW n + loW A * hiW n)) + (loW S + l) := by
    have ea : A * n = 340282366920938463463374607431768211456 * (K2 * n) + (18446744073709551616 * hiW A + loW A) * n := by
      conv => lhs; rw [e2]
      generalize hiW A = x
      generalize loW A = y
      grind
    have eb : (18446744073709551616 * hiW A + loW A) * n = 340282366920938463463374607431768211456 * ((hiW A * 18446744073709551616 + loW A) * K3 + hiW A * hiW n) + 18446744073709551616 * (hiW A * loW n + loW A * hiW n) + loW A * loW n := by
      conv => lhs; rw [e3]
      generalize hiW A = x
      generalize loW A = y
      generalize hiW n = z
      generalize loW n = u
      grind
    rw [ea, eb, hl]
    omega
  rw [e]
  have h2 := words_of (K1 + K2 * n + (hiW A * 18446744073709551616 + loW A) * K3 + hiW A * hiW n) (hiW S + h + (hiW A * loW n + loW A * hiW n)) (loW S + l)
  rw [h2.1, h2.2]
  refine ⟨?_, rfl⟩
  generalize hiW A * loW n + loW A * hiW n = p
  omega

theorem widen_words (n : Int) (h : I64 n) : hiW n = (if n < 0 then 18446744073709551615 else 0) := by
  unfold hiW
  have := h.1
  have := h.2
  split <;> omega

theorem widen_high (n : Int) (h : I64 n) : IntKind.u64.wrap (n / 9223372036854775808) = hiW n := by
  rw [widen_words n h, IntKind.wrap_u64]
  have := h.1
  have := h.2
  split <;> omega
theorem widen_low (n : Int) : IntKind.u64.wrap n = loW n := by rw [IntKind.wrap_u64]; rfl

theorem widen_any (n : Int) (h : I64 n) (w : World) : Calls Try.prog 47 #[.int .i64 n] w fun e w' => e = .returned (wval n) ∧ Below w.heap.size w w' := by
  have h1 := h.1
  have h2 := h.2
  have eh := widen_high n h
  have el := widen_low n
  unfold wval
  go_enter Try.func47, Try.ntmps47
  go_wp2_with fail
  exact bodyPost_ret (v := .agg #[.int .u64 (hiW n), .int .u64 (loW n)]) (by simp [results, Try.results47, go_sem]) rfl ⟨rfl, (Below.refl _ _).alloc (Nat.le_refl _) _⟩

theorem alloc_grow (w : World) (o : Obj) : w.alloc o = Go.Sort.grow w #[o] := by
  unfold World.alloc Go.Sort.grow
  simp

theorem widen_grown (n : Int) (h : I64 n) (w : World) : Calls Try.prog 47 #[.int .i64 n] w fun e w' => e = .returned (wval n) ∧ ∃ q os, w' = Go.Sort.grow (w.drewN q) os := by
  have h1 := h.1
  have h2 := h.2
  have eh := widen_high n h
  have el := widen_low n
  unfold wval
  go_enter Try.func47, Try.ntmps47
  go_wp2_with fail
  exact bodyPost_ret (v := .agg #[.int .u64 (hiW n), .int .u64 (loW n)]) (by simp [results, Try.results47, go_sem]) rfl ⟨rfl, 0, _, alloc_grow _ _⟩

/-- A block of two cells. -/
structure Pr (b : Nat) (v0 v1 : Value) (w : World) : Prop where
  c0 : w.cell? ⟨b, 0, none⟩ = some v0
  c1 : w.cell? ⟨b, 1, none⟩ = some v1
  f0 : w.frozen? ⟨b, 0, none⟩ = false
  f1 : w.frozen? ⟨b, 1, none⟩ = false
  lt : b < w.heap.size

theorem Pr.made (w : World) (v0 v1 : Value) (t : TypeId) {b : Nat} (hB : b = w.heap.size) : Pr b v0 v1 (w.alloc (.cells #[v0, v1] t)) := by
  subst hB
  have hg := heap_alloc_last w (.cells #[v0, v1] t)
  refine ⟨?_, ?_, frozen_of_row _ _ _ _ _ hg, frozen_of_row _ _ _ _ _ hg, by simp⟩
  · rw [cell_of_row _ _ 0 _ _ (0, 0) hg]; rfl
  · rw [cell_of_row _ _ 1 _ _ (0, 0) hg]; rfl

theorem Pr.below {b B : Nat} {v0 v1 : Value} {w w' : World} (h : Pr b v0 v1 w) (hb : Below B w w') (hB : b < B) : Pr b v0 v1 w' :=
  ⟨by rw [hb.cell (p := ⟨b, 0, none⟩) hB]; exact h.c0, by rw [hb.cell (p := ⟨b, 1, none⟩) hB]; exact h.c1, by rw [hb.frozen (p := ⟨b, 0, none⟩) hB]; exact h.f0, by rw [hb.frozen (p := ⟨b, 1, none⟩) hB]; exact h.f1, Nat.lt_of_lt_of_le h.lt hb.size⟩

theorem Pr.alloc {b : Nat} {v0 v1 : Value} {w : World} (h : Pr b v0 v1 w) (o : Obj) : Pr b v0 v1 (w.alloc o) :=
  h.below ((Below.refl (b + 1) w).alloc h.lt o) (Nat.lt_succ_self b)

theorem Pr.moved {b : Nat} {v0 v1 : Value} {w w' : World} (h : Pr b v0 v1 w) (hb : Below w.heap.size w w') : Pr b v0 v1 w' := h.below hb h.lt

theorem Pr.set {b : Nat} {v0 v1 : Value} {w : World} (h : Pr b v0 v1 w) (x y : Value) : Pr b x y ((w.setCell ⟨b, 0, none⟩ x).setCell ⟨b, 1, none⟩ y) := by
  have h1 : (w.setCell ⟨b, 0, none⟩ x).cell? ⟨b, 1, none⟩ = some v1 := by rw [World.cell?_setCell_other _ _ _ _ (by simp)]; exact h.c1
  refine ⟨?_, World.cell?_setCell_same _ _ _ h1, by simp [h.f0], by simp [h.f1], by simp [World.setCell]; exact h.lt⟩
  rw [World.cell?_setCell_other _ _ _ _ (by simp)]
  exact World.cell?_setCell_same _ _ _ h.c0

/-- A product of words, by math/bits. -/
def MulOk : Prop := ∀ (x y : Nat) (_ : x < 18446744073709551616) (_ : y < 18446744073709551616) (w : World),
    Calls Try.prog 59 #[.int .u64 x, .int .u64 y] w fun e w' => e = .returned (.tuple #[.int .u64 ((x * y / 18446744073709551616 : Nat) : Int), .int .u64 ((x * y % 18446744073709551616 : Nat) : Int)]) ∧ w' = w
/-- A sum of words with a carry, by math/bits. -/
def AddOk : Prop := ∀ (x y c : Nat) (_ : c ≤ 1) (w : World), (callFunc 60 #[.int .u64 x, .int .u64 y, .int .u64 c]).run Try.prog w =
      .ok (.value (.tuple #[.int .u64 (((x + y + c) % 18446744073709551616 : Nat) : Int), .int .u64 (((x + y + c) / 18446744073709551616 : Nat) : Int)])) w

set_option maxRecDepth 100000 in
set_option maxHeartbeats 2000000 in
theorem plus_any (hM : MulOk) (hA : AddOk) (S A n : Int) (h : I64 n) (w : World) : Calls Try.prog 46 #[wval S, wval A, .int .i64 n] w fun e w' => e = .returned (wval (S + A * n)) ∧ Below w.heap.size w w' := by
  obtain ⟨s1, hs1⟩ : ∃ x : Nat, hiW S = (x : Int) := ⟨(hiW S).toNat, by have := hiW_ge S; omega⟩
  obtain ⟨s0, hs0⟩ : ∃ x : Nat, loW S = (x : Int) := ⟨(loW S).toNat, by have := loW_ge S; omega⟩
  obtain ⟨a1, ha1⟩ : ∃ x : Nat, hiW A = (x : Int) := ⟨(hiW A).toNat, by have := hiW_ge A; omega⟩
  obtain ⟨a0, ha0⟩ : ∃ x : Nat, loW A = (x : Int) := ⟨(loW A).toNat, by have := loW_ge A; omega⟩
  obtain ⟨f1, hf1⟩ : ∃ x : Nat, hiW n = (x : Int) := ⟨(hiW n).toNat, by have := hiW_ge n; omega⟩
  obtain ⟨f0, hf0⟩ : ∃ x : Nat, loW n = (x : Int) := ⟨(loW n).toNat, by have := loW_ge n; omega⟩
  have b1 := hiW_lt S
  have b2 := loW_lt S
  have b3 := hiW_lt A
  have b4 := loW_lt A
  have b5 := hiW_lt n
  have b6 := loW_lt n
  rw [hs1] at b1
  rw [hs0] at b2
  rw [ha1] at b3
  rw [ha0] at b4
  rw [hf1] at b5
  rw [hf0] at b6
  obtain ⟨hh, hhe⟩ : ∃ x, x = a0 * f0 / 18446744073709551616 := ⟨_, rfl⟩
  obtain ⟨ll, hle⟩ : ∃ x, x = a0 * f0 % 18446744073709551616 := ⟨_, rfl⟩
  have hll : ll < 18446744073709551616 := by rw [hle]; exact Nat.mod_lt _ (by omega)
  have hP := plus_words S A n (hh : Int) (ll : Int) (by rw [ha0, hf0, hhe, hle, ← Int.natCast_mul]; omega) (by omega) (by omega)
  rw [hs1, hs0, ha1, ha0, hf1, hf0] at hP
  have hm := hM a0 f0 (by omega) (by omega)
  rw [← hhe, ← hle] at hm
  obtain ⟨p1, hp1⟩ : ∃ x : Nat, (a1 : Int) * (f0 : Int) = (x : Int) := ⟨a1 * f0, by simp⟩
  obtain ⟨p2, hp2⟩ : ∃ x : Nat, (a0 : Int) * (f1 : Int) = (x : Int) := ⟨a0 * f1, by simp⟩
  rw [hp1, hp2] at hP
  have hw := widen_any n h
  unfold wval at hw ⊢
  rw [hf1, hf0] at hw
  rw [hs1, hs0, ha1, ha0, hP.1, hP.2]
  have hadd1 := hA s0 ll 0 (by omega)
  obtain ⟨l2, hl2⟩ : ∃ x, x = (s0 + ll + 0) % 18446744073709551616 := ⟨_, rfl⟩
  obtain ⟨cc, hcc⟩ : ∃ x, x = (s0 + ll + 0) / 18446744073709551616 := ⟨_, rfl⟩
  rw [← hl2, ← hcc] at hadd1
  have hcc1 : cc ≤ 1 := by omega
  rw [show ((0 : Nat) : Int) = 0 from rfl] at hadd1
  obtain ⟨m2, hm2⟩ : ∃ x : Nat, x = (hh + (p1 + p2)) % 18446744073709551616 := ⟨_, rfl⟩
  have hmid : IntKind.u64.wrap ((hh : Int) + IntKind.u64.wrap (IntKind.u64.wrap (p1 : Int) + IntKind.u64.wrap (p2 : Int))) = (m2 : Int) := by simp only [IntKind.wrap_u64]; omega
  have hadd2 := hA s1 m2 cc hcc1
  obtain ⟨m3, hm3⟩ : ∃ x, x = (s1 + m2 + cc) % 18446744073709551616 := ⟨_, rfl⟩
  obtain ⟨c3, hc3⟩ : ∃ x, x = (s1 + m2 + cc) / 18446744073709551616 := ⟨_, rfl⟩
  rw [← hm3, ← hc3] at hadd2
  have er1 : ((s1 : Int) + ((hh : Int) + ((p1 : Int) + (p2 : Int))) % 18446744073709551616 + ((s0 : Int) + (ll : Int)) / 18446744073709551616) % 18446744073709551616 = (m3 : Int) := by omega
  have er2 : ((s0 : Int) + (ll : Int)) % 18446744073709551616 = (l2 : Int) := by omega
  rw [er1, er2]
  have HM := Lib.hid hm
  have HW := Lib.hid hw
  clear hm hw hs1 hs0 ha1 ha0 hf1 hf0 hP hhe hle hl2 hcc hm2 hm3 hc3 er1 er2 hM hA
  go_enter Try.func46, Try.ntmps46
  go_wp2_with fail
  refine (HW.out _).mono ?_
  rintro e w1 ⟨rfl, hb1⟩
  obtain ⟨W, hW⟩ : ∃ W, W = ((w.alloc (.cells #[.int .u64 s1, .int .u64 s0] 79)).alloc (.cells #[.int .u64 a1, .int .u64 a0] 79)).alloc (.cells #[.int .u64 0, .int .u64 0] 79) := ⟨_, rfl⟩
  rw [← hW] at hb1
  have hx1 : Pr w.heap.size (.int .u64 s1) (.int .u64 s0) W := by rw [hW]; exact ((Pr.made _ _ _ _ rfl).alloc _).alloc _
  have hx2 : Pr (w.heap.size + 1) (.int .u64 a1) (.int .u64 a0) W := by rw [hW]; exact (Pr.made _ _ _ _ (by simp)).alloc _
  have hx3 : Pr (w.heap.size + 1 + 1) (.int .u64 0) (.int .u64 0) W := by rw [hW]; exact Pr.made _ _ _ _ (by simp)
  have hB : Below w.heap.size w W := by rw [hW]; exact (((Below.refl _ _).alloc (Nat.le_refl _) _).alloc (by simp) _).alloc (by simp; omega) _
  have hB1 := hB.trans (hb1.mono hB.size)
  obtain ⟨p1', p2', p3', p4', p5'⟩ := hx1.moved hb1
  obtain ⟨q1, q2, q3, q4, q5⟩ := hx2.moved hb1
  obtain ⟨r1, r2, r3, r4, r5⟩ := hx3.moved hb1
  clear hx1 hx2 hx3 hb1 hW hB
  go_wp2_with fail
  refine (HM.out _).mono ?_
  rintro e w2 ⟨rfl, rfl⟩
  go_wp2_with fail
  obtain ⟨WF, hWF⟩ : ∃ W, W = (((w1.setCell ⟨w.heap.size + 1 + 1, 0, none⟩ (.int .u64 m3)).setCell ⟨w.heap.size + 1 + 1, 1, none⟩ (.int .u64 l2)).alloc (.cells #[.int .u64 f1, .int .u64 f0] 79)) := ⟨_, rfl⟩
  rw [← hWF]
  have hPF : Pr (w.heap.size + 1 + 1) (.int .u64 m3) (.int .u64 l2) WF := by rw [hWF]; exact ((Pr.mk r1 r2 r3 r4 r5).set _ _).alloc _
  have hBF : Below w.heap.size w WF := by rw [hWF]; exact ((hB1.setCell (by show w.heap.size ≤ w.heap.size + 1 + 1; omega) _).setCell (by show w.heap.size ≤ w.heap.size + 1 + 1; omega) _).alloc (by simp [World.setCell]; omega) _
  obtain ⟨t1, t2, t3, t4, t5⟩ := hPF
  exact bodyPost_ret (v := .agg #[.int .u64 m3, .int .u64 l2]) (by simp [results, Try.results46, go_sem, t1, t2]) rfl ⟨rfl, hBF⟩
end Go.Proofs.Ytdpgkegfkobdoaa
