/-
  Joined texts: HN HO HP HQ HA.
-/
import Derived.Test.YtfpcfcegdjlggaaGreatJ16
import Derived.Test.YtfpcfcegdjlggaaGreatJ02
import Derived.Test.YtfpcfcegdjlggaaGreatJ09
namespace Go.Proofs.YtfpcfcegdjlggaaGreat
open Go.RowKit Minor

/-- A tape in block t, somewhere; what it reads lies below v. -/
structure Tp (v w : World) (t : Nat) (al : Option Addr) (nl capl : Nat) (ks : List Int) : Prop where
  pos : ∃ k : Nat, k ≤ nl ∧ Pr t (.slice al nl capl) (.int .i64 (k : Int)) w
  rd : Rd8 v al ks
  len : ks.length = nl
  big : nl ≤ 200000000000000
  base : v.heap.size ≤ t
  below : Below v.heap.size v w

/-- Nothing but the tape's place has changed. -/
def Aft (t : Nat) (w w' : World) : Prop := ∃ q, (∃ u, w' = (w.setCell ⟨t, 1, none⟩ u).drewN q) ∨ w' = w.drewN q

section
variable {v w w' : World} {t nl capl G n m i : Nat} {al : Option Addr} {ks : List Int} {R : Nat → Nat} {M : Nat → Nat → Int}
theorem Tp.moved (h : Tp v w t al nl capl ks) (hb : Below w.heap.size w w') : Tp v w' t al nl capl ks := by
  obtain ⟨k, hk, hp⟩ := h.pos
  exact ⟨⟨k, hk, hp.moved hb⟩, h.rd, h.len, h.big, h.base, h.below.trans (hb.mono h.below.size)⟩
theorem Tp.lt (h : Tp v w t al nl capl ks) : t < w.heap.size := by
  obtain ⟨k, hk, hp⟩ := h.pos
  exact hp.lt
theorem Tp.set (h : Tp v w t al nl capl ks) {g o : Nat} (hg : g ≠ t) (hv : v.heap.size ≤ g) (x : Value) : Tp v (w.setCell ⟨g, o, none⟩ x) t al nl capl ks := by
  obtain ⟨k, hk, hp⟩ := h.pos
  exact ⟨⟨k, hk, hp.far (a := ⟨g, o, none⟩) hg.symm x⟩, h.rd, h.len, h.big, h.base, h.below.setCell (p := ⟨g, o, none⟩) hv _⟩

theorem MatP.off (h : MatP v w G n m i R M) {o : Nat} (hG : t ≠ G) (hR : ∀ p, p < i → t ≠ R p) (ht : v.heap.size ≤ t) (x : Value) : MatP v (w.setCell ⟨t, o, none⟩ x) G n m i R M := by
  refine ⟨fun p hp => ?_, fun p hp hpn => ?_, fun k => by simp [h.ofr k], fun p hp => (h.row p hp).other (hR p hp) x, h.inj, h.apart, by simpa [World.setCell] using h.lt, h.far, h.fars, h.below.setCell (p := ⟨t, o, none⟩) ht _⟩
  · obtain ⟨c, hc, hm⟩ := h.outer p hp
    exact ⟨c, by rw [World.cell?_setCell_other _ _ _ _ (by simp)]; exact hc, hm⟩
  · rw [World.cell?_setCell_other _ _ _ _ (by simp)]; exact h.rest p hp hpn

theorem below_drew0 (w : World) (q : Nat) : Below w.heap.size w (w.drewN q) := below_drewN' (Below.refl _ _) q

theorem MatP.aft (h : MatP v w G n m i R M) (hG : t ≠ G) (hR : ∀ p, p < i → t ≠ R p) (ht : v.heap.size ≤ t) (ha : Aft t w w') : MatP v w' G n m i R M := by
  obtain ⟨q, ⟨u, rfl⟩ | rfl⟩ := ha
  · exact (h.off hG hR ht u).moved (below_drew0 _ q)
  · exact h.moved (below_drew0 _ q)

theorem Aft.size (ha : Aft t w w') : w'.heap.size = w.heap.size := by
  obtain ⟨q, ⟨u, rfl⟩ | rfl⟩ := ha
  · show (w.setCell _ _).heap.size = _
    simp [World.setCell]
  · rfl
end

/-- What Next gives. -/
def GivesNx (v w : World) (t : Nat) (al : Option Addr) (nl capl : Nat) (ks : List Int) (e : Ending) (w' : World) : Prop :=
  ∃ x : Int, e = .returned (.int .i64 x) ∧ -128 ≤ x ∧ x ≤ 127 ∧ Aft t w w' ∧ Tp v w' t al nl capl ks
def GivesBl (v w : World) (t : Nat) (al : Option Addr) (nl capl n : Nat) (ks : List Int) (e : Ending) (w' : World) : Prop :=
  ∃ x : Int, e = .returned (.int .i64 x) ∧ 0 ≤ x ∧ x < n ∧ Aft t w w' ∧ Tp v w' t al nl capl ks

theorem rnext_tp {v w : World} {t nl capl : Nat} {al : Option Addr} {ks : List Int} (h : Tp v w t al nl capl ks) : Calls Tryz.prog 32 #[.pointer (some ⟨t, 0, none⟩)] w (GivesNx v w t al nl capl ks) := by
  obtain ⟨k, hk, hp⟩ := h.pos
  refine (next_any t al nl capl k ks w hp (h.rd.below h.below) h.len h.big hk (fun hne b o e => ?_)).mono ?_
  · obtain ⟨b', o', e', hc⟩ := h.rd.cells 0 (List.length_pos_iff.2 hne)
    rw [e] at e'
    simp only [Option.some.injEq, Addr.mk.injEq, and_true] at e'
    have h2 : b' < v.heap.size := World.block_lt_of_cell? v _ hc
    have := h.base
    omega
  · rintro e w' ⟨rfl, q, hw⟩
    have hx := h.rd.get k
    refine ⟨_, rfl, hx.1, hx.2, ?_, ?_⟩
    · rw [hw]
      by_cases e : k < ks.length
      · rw [if_pos e]; exact ⟨q, .inl ⟨_, rfl⟩⟩
      · rw [if_neg e]; exact ⟨q, .inr rfl⟩
    · rw [hw]
      by_cases e : k < ks.length
      · rw [if_pos e]
        have hb1 : Below v.heap.size v (w.setCell ⟨t, 1, none⟩ (.int .i64 ((k + 1 : Nat) : Int))) := h.below.setCell (p := ⟨t, 1, none⟩) h.base _
        refine ⟨⟨k + 1, by have := h.len; omega, ?_⟩, h.rd, h.len, h.big, h.base, below_drewN' hb1 q⟩
        refine ⟨?_, ?_, ?_, ?_, ?_⟩
        · show (w.setCell _ _).cell? _ = _
          rw [World.cell?_setCell_other _ _ _ _ (by simp)]; exact hp.c0
        · exact World.cell?_setCell_same _ _ _ hp.c1
        · show (w.setCell _ _).frozen? _ = _
          simp [hp.f0]
        · show (w.setCell _ _).frozen? _ = _
          simp [hp.f1]
        · show t < (w.setCell _ _).heap.size
          simp [World.setCell]; exact hp.lt
      · rw [if_neg e]
        exact h.moved (below_drew0 _ q)

set_option maxRecDepth 100000 in
set_option maxHeartbeats 2000000 in
theorem rbelow_tp {v w : World} {t nl capl n : Nat} {al : Option Addr} {ks : List Int} (h : Tp v w t al nl capl ks) (h1 : 1 ≤ n) (h2 : n ≤ 100) : Calls Tryz.prog 65 #[.pointer (some ⟨t, 0, none⟩), .int .i64 (n : Int)] w (GivesBl v w t al nl capl n ks) := by
  have H := Lib.hid h
  have hn0 : ¬((n : Int) = 0) := by omega
  clear h
  go_enter Tryz.func65, Tryz.ntmps65
  go_wp2_with fail
  refine (rnext_tp H.out).mono ?_
  rintro e w1 ⟨x, rfl, hx1, hx2, ha, htp⟩
  have HA := Lib.hid ha
  have HT := Lib.hid htp
  clear ha htp
  go_wp2_with fail
  go_ret
  exact ⟨_, rfl, Int.emod_nonneg _ (by omega), Int.emod_lt_of_pos _ (by omega), HA.out, HT.out⟩
end Go.Proofs.YtfpcfcegdjlggaaGreat
namespace Go.Proofs.YtfpcfcegdjlggaaGreat
open Go.RowKit Minor

theorem aft_cell {t g o : Nat} {w w' : World} (ha : Aft t w w') (hg : g ≠ t) : w'.cell? ⟨g, o, none⟩ = w.cell? ⟨g, o, none⟩ := by
  obtain ⟨q, ⟨u, rfl⟩ | rfl⟩ := ha
  · show (w.setCell _ _).cell? _ = _
    rw [World.cell?_setCell_other _ _ _ _ (by simp)]
  · rfl

/-- A new matrix and the tape. -/
structure TM (v w : World) (t : Nat) (al : Option Addr) (nl capl : Nat) (ks : List Int) (G n i : Nat) (R : Nat → Nat) (M : Nat → Nat → Int) : Prop where
  mat : MatP v w G n n i R M
  tape : Tp v w t al nl capl ks
  tG : t ≠ G
  tR : ∀ p, p < i → t ≠ R p

def GivesDg (v : World) (t : Nat) (al : Option Addr) (nl capl n : Nat) (ks : List Int) (most : Int) (e : Ending) (w' : World) : Prop :=
  ∃ G R M, e = .returned (.slice (some ⟨G, 0, none⟩) n n) ∧ TM v w' t al nl capl ks G n n R M ∧ (∀ i j, i < n → j < n → i ≠ j → M i j = 0) ∧ ∀ i, i < n → 1 ≤ M i i ∧ M i i ≤ most

set_option maxRecDepth 100000 in
set_option maxHeartbeats 4000000 in
theorem rdiagonal_any {v w : World} {t nl capl n most : Nat} {al : Option Addr} {ks : List Int} (h : Tp v w t al nl capl ks) (h1 : 1 ≤ n) (h8 : n ≤ 8) (hm1 : 1 ≤ most) (hm9 : most ≤ 9) :
    Calls Tryz.prog 66 #[.pointer (some ⟨t, 0, none⟩), .int .i64 (n : Int), .int .i64 (most : Int)] w (GivesDg v t al nl capl n ks most) := by
  have hmk := run_make_row' (P := Tryz.prog) 22 23 (.slice none 0 0) 24 Tryz.underlying22 infoHR rfl .i64 .i64 n (by omega) (by omega) w
  have hmk2 : Hid (∀ W : World, _) := fun W => run_make_row' (P := Tryz.prog) 23 2 (.int .i64 0) 8 Tryz.underlying23 infoH rfl .i64 .i64 n (by omega) (by omega) W
  obtain ⟨G, hG⟩ : ∃ G, G = w.heap.size := ⟨_, rfl⟩
  obtain ⟨W, hW⟩ : ∃ W, W = w.alloc (.cells (madeCells #[.slice none 0 0] n) 23) := ⟨_, rfl⟩
  have htG : Hid (t ≠ G) := by rw [hG]; exact Nat.ne_of_lt h.lt
  have hst : Hid (∃ R M, TM v W t al nl capl ks G n 0 R M ∧ (∀ a b, a < 0 → b < n → a ≠ b → M a b = 0) ∧ ∀ a, a < 0 → 1 ≤ M a a ∧ M a a ≤ (most : Int)) := by
    refine ⟨fun _ => 0, fun _ _ => 0, ⟨?_, ?_, htG.out, fun p hp => by omega⟩, fun a b ha => by omega, fun a ha => by omega⟩
    · rw [hW, hG]
      exact (MatP.start w n n 23 _ _).rebase h.below
    · rw [hW]; exact h.moved ((Below.refl _ _).alloc (Nat.le_refl _) _)
  have hbase : v.heap.size ≤ t := h.base
  have HWW : Hid (w.alloc (.cells (madeCells #[.slice none 0 0] n) 23) = W) := hW.symm
  have HG := Lib.hid hG
  clear hW h
  rw [← hG] at hmk
  go_enter Tryz.func66, Tryz.ntmps66
  clear hG
  go_wp2_with fail
  rw [HWW.out]
  clear hmk
  go_loopw [13] (fun ii wr => ∃ i : Nat, i ≤ n ∧ ii = .int .i64 (i : Int) ∧ Hid (∃ R M, TM v wr t al nl capl ks G n i R M ∧ (∀ a b, a < i → b < n → a ≠ b → M a b = 0) ∧ ∀ a, a < i → 1 ≤ M a a ∧ M a a ≤ (most : Int))) (fun ii _ => n - (intOf ii).toNat)
  case atStart => exact ⟨0, by omega, rfl, hst⟩
  case round =>
    obtain ⟨i, hin, rfl, hC⟩ := hrel
    clear hst
    by_cases hi : i < n
    · obtain ⟨R1, M1, hC1, hz1, hz2⟩ := hC.out
      have hmk := hmk2.out wr
      have hA : Below wr.heap.size wr (wr.alloc (.cells (madeCells #[.int .i64 0] n) 2)) := (Below.refl _ _).alloc (Nat.le_refl _) _
      have ho := (hC1.mat.moved hA).rest i (Nat.le_refl _) hi
      have hf := (hC1.mat.moved hA).ofr i
      obtain ⟨g, hg⟩ : ∃ g, g = wr.heap.size := ⟨_, rfl⟩
      obtain ⟨V, hV⟩ : ∃ V, V = (wr.alloc (.cells (madeCells #[.int .i64 0] n) 2)).setCell ⟨G, i, none⟩ (.slice (some ⟨g, 0, none⟩) n n) := ⟨_, rfl⟩
      obtain ⟨R2, hR2⟩ : ∃ R, R = (fun p => if p = i then g else R1 p : Nat → Nat) := ⟨_, rfl⟩
      obtain ⟨M2, hM2⟩ : ∃ M, M = (fun p q => if p = i then 0 else M1 p q : Nat → Nat → Int) := ⟨_, rfl⟩
      have hMV : Hid (MatP v V G n n (i + 1) R2 M2) := by
        rw [hV, hR2, hM2, hg]; exact hC1.mat.add hi 2
      have hTV : Hid (Tp v V t al nl capl ks) := by
        rw [hV]; exact (hC1.tape.moved hA).set hC1.tG.symm hC1.mat.far _
      have hRi : Hid (R2 i = g) := by unfold Hid; rw [hR2]; exact if_pos rfl
      have hRt : Hid (∀ p, p < i + 1 → t ≠ R2 p) := fun p hp => by
        rw [hR2]
        show t ≠ if p = i then g else R1 p
        by_cases e : p = i
        · rw [if_pos e, hg]; exact Nat.ne_of_lt hC1.tape.lt
        · rw [if_neg e]; exact hC1.tR p (by omega)
      have hZ1 : Hid (∀ a b, a < i + 1 → b < n → a ≠ b → M2 a b = 0) := fun a b ha hb hab => by
        rw [hM2]
        show (if a = i then 0 else M1 a b) = 0
        by_cases e : a = i
        · rw [if_pos e]
        · rw [if_neg e]; exact hz1 a b (by omega) hb hab
      have hZ2 : Hid (∀ a, a < i → 1 ≤ M2 a a ∧ M2 a a ≤ (most : Int)) := fun a ha => by
        rw [hM2]
        show 1 ≤ (if a = i then 0 else M1 a a) ∧ (if a = i then 0 else M1 a a) ≤ (most : Int)
        rw [if_neg (by omega)]; exact hz2 a ha
      have hcV : Hid (V.cell? ⟨G, i, none⟩ = some (.slice (some ⟨g, 0, none⟩) n n)) := by
        rw [hV]; exact World.cell?_setCell_same _ _ _ ho
      have hK : Hid (∀ w' : World, (∀ g o : Nat, g ≠ t → w'.cell? ⟨g, o, none⟩ = V.cell? ⟨g, o, none⟩) → w'.cell? ⟨G, i, none⟩ = some (.slice (some ⟨g, 0, none⟩) n n)) := fun w' h => (h G i htG.out.symm).trans hcV.out
      have HVV : Hid ((wr.alloc (.cells (madeCells #[.int .i64 0] n) 2)).setCell ⟨G, i, none⟩ (.slice (some ⟨g, 0, none⟩) n n) = V) := hV.symm
      have hin64 : (i : Int) < (n : Int) := by omega
      have hin0 : (0 : Int) ≤ (i : Int) := by omega
      rw [← hg] at hmk
      have HGG := Lib.hid hg
      clear hC1 hA hC hz1 hz2 hV hR2 hM2 hg
      go_wp2_with fail
      rw [HVV.out]
      refine begin_T 10 (fun w' => w'.cell? ⟨G, i, none⟩ = some (.slice (some ⟨g, 0, none⟩) n n)) (by kernel_rfl) (hK.out _ (fun _ _ _ => rfl)) (fun hHeld => ?_)
      have hMd := hMV.out.moved ((Below.refl _ _).drew)
      have hTd := hTV.out.moved ((Below.refl _ _).drew)
      have hKd : Hid (∀ w' : World, (∀ g o : Nat, g ≠ t → w'.cell? ⟨g, o, none⟩ = V.drew.cell? ⟨g, o, none⟩) → w'.cell? ⟨G, i, none⟩ = some (.slice (some ⟨g, 0, none⟩) n n)) := fun w' h => hK.out w' fun g o hg => (h g o hg).trans rfl
      generalize V.drew = w0d at hMd hTd hKd hHeld ⊢
      refine first_T (i := 0) (v := ?_) rfl (by kernel_rfl) (fun _ _ _ h => h) (by rfl) (fun w hSw => ?_) hHeld ?_
      rotate_left
      · ((try dsimp only at hSw); go_simp; (try with_reducible rfl))
      try simp only [Act.put, List.setIfInBounds_toArray, List.set_cons_zero, List.set_cons_succ]
      refine first_T (i := 1) (v := ?_) rfl (by kernel_rfl) (fun _ _ _ h => h) (by rfl) (fun w hSw => ?_) hHeld ?_
      rotate_left
      · ((try dsimp only at hSw); go_simp; (try with_reducible rfl))
      try simp only [Act.put, List.setIfInBounds_toArray, List.set_cons_zero, List.set_cons_succ]
      refine first_T (i := 2) (v := ?_) rfl (by kernel_rfl) (fun _ _ _ h => h) (by rfl) (fun w hSw => ?_) hHeld ?_
      rotate_left
      · ((try dsimp only at hSw); go_simp; (try with_reducible rfl))
      try simp only [Act.put, List.setIfInBounds_toArray, List.set_cons_zero, List.set_cons_succ]
      refine first_T (i := 3) (v := ?_) rfl (by kernel_rfl) (fun _ _ _ h => h) (by rfl) (fun w hSw => ?_) hHeld ?_
      rotate_left
      · ((try dsimp only at hSw); go_simp; (try with_reducible rfl))
      try simp only [Act.put, List.setIfInBounds_toArray, List.set_cons_zero, List.set_cons_succ]
      refine first_T (i := 4) (v := ?_) rfl (by kernel_rfl) (fun _ _ _ h => h) (by rfl) (fun w hSw => ?_) hHeld ?_
      rotate_left
      · ((try dsimp only at hSw); go_simp; (try with_reducible rfl))
      try simp only [Act.put, List.setIfInBounds_toArray, List.set_cons_zero, List.set_cons_succ]
      refine first_T (i := 5) (v := ?_) rfl (by kernel_rfl) (fun _ _ _ h => h) (by rfl) (fun w hSw => ?_) hHeld ?_
      rotate_left
      · ((try dsimp only at hSw); go_simp; (try with_reducible rfl))
      try simp only [Act.put, List.setIfInBounds_toArray, List.set_cons_zero, List.set_cons_succ]
      refine first_T (i := 6) (v := ?_) rfl (by kernel_rfl) (fun _ _ _ h => h) (by rfl) (fun w hSw => ?_) hHeld ?_
      rotate_left
      · ((try dsimp only at hSw); go_simp; (try with_reducible rfl))
      try simp only [Act.put, List.setIfInBounds_toArray, List.set_cons_zero, List.set_cons_succ]
      refine next_T (i := 7) rfl (by kernel_rfl) (fun K hKK => ?_)
      go_simp
      refine (rbelow_tp hTd hm1 (by omega)).mono ?_
      rintro e wn ⟨x, rfl, hx0, hx1, ha, htp⟩
      have hMn := hMd.aft htG.out hRt.out (by assumption) ha
      have HC := hKd.out wn (fun g o hg => aft_cell ha hg)
      have hw1 : IntKind.i64.wrap (1 + x) = 1 + x := by rw [IntKind.wrap_i64]; omega
      have y0 := (hMn.row i (by omega)).c i hi
      have y1 := (hMn.row i (by omega)).fr i
      rw [hRi.out] at y0 y1
      go_wp2_with fail
      clear hHeld
      refine hKK.out _ _ HC (fun hHeld => ?_)
      clear hKK K hMd hTd
      try simp only [Act.put, List.setIfInBounds_toArray, List.set_cons_zero, List.set_cons_succ]
      refine first_T (i := 8) (v := ?_) rfl (by kernel_rfl) (fun _ _ _ h => h) (by rfl) (fun w hSw => ?_) hHeld ?_
      rotate_left
      · ((try dsimp only at hSw); go_simp; (try with_reducible rfl))
      try simp only [Act.put, List.setIfInBounds_toArray, List.set_cons_zero, List.set_cons_succ]
      refine next_T (i := 9) rfl (by kernel_rfl) (fun K hKK => ?_)
      go_simp
      clear hHeld
      refine hKK.out _ _ HC (fun hHeld => ?_)
      clear hKK K
      try simp only [Act.put, List.setIfInBounds_toArray, List.set_cons_zero, List.set_cons_succ]
      refine last_T (t := 10) rfl (by kernel_rfl) (by kernel_rfl) (fun K hKK => ?_)
      go_simp
      refine hKK.out _ _ ?_
      have hRg := hRi.out
      have hnx : Hid (∃ R M, TM v (wn.setCell ⟨g, i, none⟩ (.int .i64 (1 + x))) t al nl capl ks G n (i + 1) R M ∧ (∀ a b, a < i + 1 → b < n → a ≠ b → M a b = 0) ∧ ∀ a, a < i + 1 → 1 ≤ M a a ∧ M a a ≤ (most : Int)) := by
        have hs := hMn.store i i (by omega) hi (1 + x)
        rw [hRg] at hs
        refine ⟨R2, _, ⟨hs, htp.set (by have := hRt.out i (by omega); rw [hRg] at this; exact this.symm) (by have := hMn.fars i (by omega); rwa [hRg] at this) _, htG.out, hRt.out⟩, fun a b ha hb hab => ?_, fun a ha => ?_⟩
        · show (if a = i ∧ b = i then 1 + x else M2 a b) = 0
          rw [if_neg (by omega)]; exact hZ1.out a b ha hb hab
        · show 1 ≤ (if a = i ∧ a = i then 1 + x else M2 a a) ∧ (if a = i ∧ a = i then 1 + x else M2 a a) ≤ (most : Int)
          by_cases e : a = i
          · rw [if_pos ⟨e, e⟩]; omega
          · rw [if_neg (fun h => e h.1)]; exact hZ2.out a (by omega)
      clear hKK K hHeld HC ha htp hMn y0 y1 hRg
      go_wp2_with fail
      go_roundw
      case rel =>
        first
          | exact ⟨i + 1, by omega, by go_num, hnx⟩
          | ((repeat apply Exists.intro); exact ⟨⟨i + 1, by omega, by go_num, hnx⟩, rfl⟩)
      case measure => simp [intOf]; omega
    · obtain rfl : i = n := by omega
      have hfin : Hid (GivesDg v t al nl capl i ks most (.returned (.slice (some ⟨G, 0, none⟩) i i)) wr) := by
        obtain ⟨R1, M1, hC1, hz1, hz2⟩ := hC.out
        exact ⟨G, R1, M1, rfl, hC1, hz1, hz2⟩
      clear hC
      go_wp2_with fail
      go_ret
      exact hfin.out
end Go.Proofs.YtfpcfcegdjlggaaGreat
namespace Go.Proofs.YtfpcfcegdjlggaaGreat
open Go.RowKit Minor

theorem tmod3 (x : Int) : -2 ≤ x.tmod 3 ∧ x.tmod 3 ≤ 2 := by
  have h := Int.natAbs_tmod x 3
  have h2 : x.natAbs % (3 : Int).natAbs < 3 := Nat.mod_lt _ (by decide)
  omega

/-- Symmetric up to row i, and in its first k entries. -/
def SymTo (M : Nat → Nat → Int) (i k : Nat) : Prop := (∀ a b, a < i → b < i → M a b = M b a) ∧ ∀ b, b < k → M i b = M b i
/-- Numbers from 1 to 9 on the diagonal, and small ones beside it. -/
def Few (M : Nat → Nat → Int) (n : Nat) : Prop := (∀ a, a < n → 1 ≤ M a a ∧ M a a ≤ 9) ∧ ∀ a b, a < n → b < n → (M a b).natAbs ≤ 9

theorem few_store {M : Nat → Nat → Int} {n p q : Nat} {z : Int} (h : Few M n) (hpq : p ≠ q) (hz : z.natAbs ≤ 9) : Few (fun a b => if a = p ∧ b = q then z else M a b) n := by
  refine ⟨fun a ha => ?_, fun a b ha hb => ?_⟩
  · show 1 ≤ (if a = p ∧ a = q then z else M a a) ∧ (if a = p ∧ a = q then z else M a a) ≤ 9
    rw [if_neg (by omega)]; exact h.1 a ha
  · show (if a = p ∧ b = q then z else M a b).natAbs ≤ 9
    split
    · exact hz
    · exact h.2 a b ha hb

theorem sym_store {M : Nat → Nat → Int} {i k : Nat} {z : Int} (h : SymTo M i k) (hk : k < i) : SymTo (fun a b => if a = k ∧ b = i then z else if a = i ∧ b = k then z else M a b) i (k + 1) := by
  refine ⟨fun a b ha hb => ?_, fun b hb => ?_⟩
  · show (if a = k ∧ b = i then z else if a = i ∧ b = k then z else M a b) = (if b = k ∧ a = i then z else if b = i ∧ a = k then z else M b a)
    rw [if_neg (by omega), if_neg (by omega), if_neg (by omega), if_neg (by omega)]; exact h.1 a b ha hb
  · show (if i = k ∧ b = i then z else if i = i ∧ b = k then z else M i b) = (if b = k ∧ i = i then z else if b = i ∧ i = k then z else M b i)
    by_cases e : b = k
    · rw [if_neg (by omega), if_pos ⟨rfl, e⟩, if_pos ⟨e, rfl⟩]
    · rw [if_neg (by omega), if_neg (by omega), if_neg (by omega), if_neg (by omega)]; exact h.2 b (by omega)

def GivesGn (v : World) (t : Nat) (al : Option Addr) (nl capl n : Nat) (ks : List Int) (e : Ending) (w' : World) : Prop :=
  ∃ G R M, e = .returned (.slice (some ⟨G, 0, none⟩) n n) ∧ TM v w' t al nl capl ks G n n R M ∧ SymTo M n 0 ∧ Few M n

set_option maxRecDepth 100000 in
set_option maxHeartbeats 4000000 in
theorem rgeneral_any {v w : World} {t nl capl n : Nat} {al : Option Addr} {ks : List Int} (h : Tp v w t al nl capl ks) (h1 : 1 ≤ n) (h8 : n ≤ 8) :
    Calls Tryz.prog 63 #[.pointer (some ⟨t, 0, none⟩), .int .i64 (n : Int)] w (GivesGn v t al nl capl n ks) := by
  have hbase : v.heap.size ≤ t := h.base
  have hcall : Hid (Calls Tryz.prog 66 #[.pointer (some ⟨t, 0, none⟩), .int .i64 (n : Int), .int .i64 6] w (GivesDg v t al nl capl n ks 6)) := rdiagonal_any (most := 6) h h1 h8 (by omega) (by omega)
  clear h
  go_enter Tryz.func63, Tryz.ntmps63
  go_wp2_with fail
  refine hcall.out.mono ?_
  rintro e w1 ⟨G, R, M0, rfl, hTM, hz, hd⟩
  have htG : Hid (t ≠ G) := hTM.tG
  have hRt : Hid (∀ p, p < n → t ≠ R p) := hTM.tR
  have hfew : Few M0 n := ⟨fun a ha => by have := hd a ha; omega, fun a b ha hb => by
    by_cases e : a = b
    · subst e; have := hd a ha; omega
    · rw [hz a b ha hb e]; decide⟩
  have hst : Hid (∃ M, MatP v w1 G n n n R M ∧ Tp v w1 t al nl capl ks ∧ SymTo M 0 0 ∧ Few M n) := ⟨M0, hTM.mat, hTM.tape, ⟨fun a b ha => by omega, fun b hb => by omega⟩, hfew⟩
  clear hTM hz hd hfew hcall
  go_wp2_with fail
  go_loopw [13] (fun ii wr => ∃ i : Nat, i ≤ n ∧ ii = .int .i64 (i : Int) ∧ Hid (∃ M, MatP v wr G n n n R M ∧ Tp v wr t al nl capl ks ∧ SymTo M i 0 ∧ Few M n)) (fun ii _ => n - (intOf ii).toNat)
  case atStart => exact ⟨0, by omega, rfl, hst⟩
  case round =>
    obtain ⟨i, hin, rfl, hC⟩ := hrel
    clear hst
    by_cases hi : i < n
    · go_wp2_with fail
      go_loopw [7] (fun kk wq => ∃ k : Nat, k ≤ i ∧ kk = .int .i64 (k : Int) ∧ Hid (∃ M, MatP v wq G n n n R M ∧ Tp v wq t al nl capl ks ∧ SymTo M i k ∧ Few M n)) (fun kk _ => i - (intOf kk).toNat)
      case atStart => exact ⟨0, by omega, rfl, hC⟩
      case round =>
        obtain ⟨k, hki, rfl, hD⟩ := hrel
        clear hC
        by_cases hk : k < i
        · obtain ⟨M, hM1, hT1, hS1, hF1⟩ := hD.out
          obtain ⟨V, hV⟩ : ∃ V, V = wr := ⟨_, rfl⟩
          subst hV
          obtain ⟨cI, oI, _⟩ := hM1.outer i hi
          have hMV := Lib.hid hM1
          have hTV := Lib.hid hT1
          have HS := Lib.hid hS1
          have HF := Lib.hid hF1
          have hK : Hid (∀ w' : World, (∀ g o : Nat, g ≠ t → w'.cell? ⟨g, o, none⟩ = V.cell? ⟨g, o, none⟩) → w'.cell? ⟨G, i, none⟩ = some (.slice (some ⟨R i, 0, none⟩) n cI)) := fun w' h => (h G i htG.out.symm).trans oI
          have z1 : (i : Int) < (n : Int) := by omega
          have z2 : (0 : Int) ≤ (i : Int) := by omega
          have z3 : (k : Int) < (n : Int) := by omega
          have z4 : (0 : Int) ≤ (k : Int) := by omega
          clear hD hM1 hT1 hS1 hF1 oI
          go_wp2_with fail
          refine begin_T 9 (fun w' => w'.cell? ⟨G, i, none⟩ = some (.slice (some ⟨R i, 0, none⟩) n cI)) (by kernel_rfl) (hK.out _ (fun _ _ _ => rfl)) (fun hHeld => ?_)
          have hMd := hMV.out.moved ((Below.refl _ _).drew)
          have hTd := hTV.out.moved ((Below.refl _ _).drew)
          have hKd : Hid (∀ w' : World, (∀ g o : Nat, g ≠ t → w'.cell? ⟨g, o, none⟩ = V.drew.cell? ⟨g, o, none⟩) → w'.cell? ⟨G, i, none⟩ = some (.slice (some ⟨R i, 0, none⟩) n cI)) := fun w' h => hK.out w' fun g o hg => (h g o hg).trans rfl
          generalize V.drew = w0d at hMd hTd hKd hHeld ⊢
          refine first_T (i := 0) (v := ?_) rfl (by kernel_rfl) (fun _ _ _ h => h) (by rfl) (fun w hSw => ?_) hHeld ?_
          rotate_left
          · ((try dsimp only at hSw); go_simp; (try with_reducible rfl))
          try simp only [Act.put, List.setIfInBounds_toArray, List.set_cons_zero, List.set_cons_succ]
          refine first_T (i := 1) (v := ?_) rfl (by kernel_rfl) (fun _ _ _ h => h) (by rfl) (fun w hSw => ?_) hHeld ?_
          rotate_left
          · ((try dsimp only at hSw); go_simp; (try with_reducible rfl))
          try simp only [Act.put, List.setIfInBounds_toArray, List.set_cons_zero, List.set_cons_succ]
          refine first_T (i := 2) (v := ?_) rfl (by kernel_rfl) (fun _ _ _ h => h) (by rfl) (fun w hSw => ?_) hHeld ?_
          rotate_left
          · ((try dsimp only at hSw); go_simp; (try with_reducible rfl))
          try simp only [Act.put, List.setIfInBounds_toArray, List.set_cons_zero, List.set_cons_succ]
          refine first_T (i := 3) (v := ?_) rfl (by kernel_rfl) (fun _ _ _ h => h) (by rfl) (fun w hSw => ?_) hHeld ?_
          rotate_left
          · ((try dsimp only at hSw); go_simp; (try with_reducible rfl))
          try simp only [Act.put, List.setIfInBounds_toArray, List.set_cons_zero, List.set_cons_succ]
          refine first_T (i := 4) (v := ?_) rfl (by kernel_rfl) (fun _ _ _ h => h) (by rfl) (fun w hSw => ?_) hHeld ?_
          rotate_left
          · ((try dsimp only at hSw); go_simp; (try with_reducible rfl))
          try simp only [Act.put, List.setIfInBounds_toArray, List.set_cons_zero, List.set_cons_succ]
          refine first_T (i := 5) (v := ?_) rfl (by kernel_rfl) (fun _ _ _ h => h) (by rfl) (fun w hSw => ?_) hHeld ?_
          rotate_left
          · ((try dsimp only at hSw); go_simp; (try with_reducible rfl))
          try simp only [Act.put, List.setIfInBounds_toArray, List.set_cons_zero, List.set_cons_succ]
          refine next_T (i := 6) rfl (by kernel_rfl) (fun K hKK => ?_)
          go_simp
          refine (rnext_tp hTd).mono ?_
          rintro e wn ⟨x, rfl, hx0, hx1, ha, htp⟩
          have hMn := hMd.aft htG.out hRt.out (by assumption) ha
          have HC := hKd.out wn (fun g o hg => aft_cell ha hg)
          have y0 := (hMn.row i hi).c k (by omega)
          have y1 := (hMn.row i hi).fr k
          go_wp2_with fail
          clear hHeld
          refine hKK.out _ _ HC (fun hHeld => ?_)
          clear hKK K hMd hTd
          try simp only [Act.put, List.setIfInBounds_toArray, List.set_cons_zero, List.set_cons_succ]
          refine first_T (i := 7) (v := ?_) rfl (by kernel_rfl) (fun _ _ _ h => h) (by rfl) (fun w hSw => ?_) hHeld ?_
          rotate_left
          · ((try dsimp only at hSw); go_simp; (try with_reducible rfl))
          try simp only [Act.put, List.setIfInBounds_toArray, List.set_cons_zero, List.set_cons_succ]
          obtain ⟨z, hz⟩ : ∃ z, z = x.tmod 3 := ⟨_, rfl⟩
          have hzb := tmod3 x
          rw [← hz] at hzb
          rw [← hz]
          have HZB : Hid (z.natAbs ≤ 9) := by unfold Hid; omega
          clear hz hzb
          refine next_T (i := 8) rfl (by kernel_rfl) (fun K hKK => ?_)
          go_simp
          clear hHeld
          refine hKK.out _ _ HC (fun hHeld => ?_)
          clear hKK K
          try simp only [Act.put, List.setIfInBounds_toArray, List.set_cons_zero, List.set_cons_succ]
          refine last_T (t := 9) rfl (by kernel_rfl) (by kernel_rfl) (fun K hKK => ?_)
          go_simp
          refine hKK.out _ _ ?_
          have hmS : Hid (MatP v (wn.setCell ⟨R i, k, none⟩ (.int .i64 z)) G n n n R (fun a b => if a = i ∧ b = k then z else M a b)) := hMn.store i k hi (by omega) z
          have htS : Hid (Tp v (wn.setCell ⟨R i, k, none⟩ (.int .i64 z)) t al nl capl ks) := htp.set (hRt.out i hi).symm (hMn.fars i hi) _
          obtain ⟨W8, hW8⟩ : ∃ W8, W8 = wn.setCell ⟨R i, k, none⟩ (.int .i64 z) := ⟨_, rfl⟩
          rw [← hW8] at hmS htS
          have HW8 : Hid (wn.setCell ⟨R i, k, none⟩ (.int .i64 z) = W8) := hW8.symm
          obtain ⟨c1, u1, _⟩ := hmS.out.outer i hi
          obtain ⟨c2, u2, _⟩ := hmS.out.outer k (by omega)
          have u3 := (hmS.out.row i hi).c k (by omega)
          have u3' : W8.cell? ⟨R i, k, none⟩ = some (.int .i64 z) := by
            have h := u3
            rw [if_pos ⟨rfl, rfl⟩] at h
            exact h
          have u4 := (hmS.out.row k (by omega)).c i hi
          have u5 := (hmS.out.row k (by omega)).fr i
          obtain ⟨y, hy⟩ : ∃ y, y = (if k = i ∧ i = k then z else M k i) := ⟨_, rfl⟩
          rw [← hy] at u4
          have hnx : Hid (∀ q5, ∃ M, MatP v ((W8.setCell ⟨R k, i, none⟩ (.int .i64 z)).drewN q5) G n n n R M ∧ Tp v ((W8.setCell ⟨R k, i, none⟩ (.int .i64 z)).drewN q5) t al nl capl ks ∧ SymTo M i (k + 1) ∧ Few M n) := fun q5 =>
            ⟨_, (hmS.out.store k i (by omega) hi z).moved (below_drew0 _ q5), (htS.out.set (hRt.out k (by omega)).symm (hmS.out.fars k (by omega)) _).moved (below_drew0 _ q5), sym_store HS.out hk, few_store (few_store HF.out (by omega) HZB.out) (by omega) HZB.out⟩
          clear hKK K hHeld HC ha htp hMn y0 y1 hW8 hy u3
          go_wp2_with fail
          rw [HW8.out]
          go_wp2_with fail
          go_region
          go_wp2_with fail
          go_roundw
          case rel =>
            first
              | exact ⟨k + 1, by omega, by go_num, hnx.out 1⟩
              | exact ⟨k + 1, by omega, by go_num, hnx.out _⟩
          case measure => simp [intOf]; omega
        · obtain rfl : k = i := by omega
          have hnx : Hid (∃ M, MatP v wr G n n n R M ∧ Tp v wr t al nl capl ks ∧ SymTo M (k + 1) 0 ∧ Few M n) := by
            obtain ⟨M, hM1, hT1, hS1, hF1⟩ := hD.out
            refine ⟨M, hM1, hT1, ⟨fun a b ha hb => ?_, fun b hb => by omega⟩, hF1⟩
            by_cases e1 : a = k
            · by_cases e2 : b = k
              · rw [e1, e2]
              · rw [e1]; exact hS1.2 b (by omega)
            · by_cases e2 : b = k
              · rw [e2]; exact (hS1.2 a (by omega)).symm
              · exact hS1.1 a b (by omega) (by omega)
          clear hD
          go_wp2_with fail
          go_roundw
          case rel => exact ⟨k + 1, by omega, by go_num, hnx⟩
          case measure => simp [intOf]; omega
    · obtain rfl : i = n := by omega
      have hfin : Hid (GivesGn v t al nl capl i ks (.returned (.slice (some ⟨G, 0, none⟩) i i)) wr) := by
        obtain ⟨M, hM1, hT1, hS1, hF1⟩ := hC.out
        exact ⟨G, R, M, rfl, ⟨hM1, hT1, htG.out, hRt.out⟩, hS1, hF1⟩
      clear hC
      go_wp2_with fail
      go_ret
      exact hfin.out
end Go.Proofs.YtfpcfcegdjlggaaGreat
namespace Go.Proofs.YtfpcfcegdjlggaaGreat
open Go.RowKit Minor

/-- The first i rows of a chain: symmetric, 2 on the diagonal, nothing behind column i. -/
structure Chn (M : Nat → Nat → Int) (n i : Nat) : Prop where
  sym : ∀ a b, a < i → b < i → M a b = M b a
  two : ∀ a, a < i → M a a = 2
  rest : ∀ a b, a < i → i ≤ b → b < n → M a b = 0
  few : ∀ a b, a < i → b < n → (M a b).natAbs ≤ 9

/-- Row i is new, with 2 on the diagonal. -/
def chA (M : Nat → Nat → Int) (i a b : Nat) : Int := if a = i ∧ b = i then 2 else if a = i then 0 else M a b
/-- -1 at (i, k) and (k, i). -/
def chB (M : Nat → Nat → Int) (i k a b : Nat) : Int := if a = k ∧ b = i then -1 else if a = i ∧ b = k then -1 else M a b

theorem chn_plain {M : Nat → Nat → Int} {n i : Nat} (h : Chn M n i) (hi : i < n) : Chn (chA M i) n (i + 1) := by
  refine ⟨fun a b ha hb => ?_, fun a ha => ?_, fun a b ha hb hbn => ?_, fun a b ha hb => ?_⟩
  · unfold chA
    by_cases e1 : a = i
    · by_cases e2 : b = i
      · rw [e1, e2]
      · rw [if_neg (by omega), if_pos e1, if_neg (by omega), if_neg e2, e1]
        exact (h.rest b i (by omega) (Nat.le_refl _) hi).symm
    · by_cases e2 : b = i
      · rw [if_neg (by omega), if_neg e1, if_neg (by omega), if_pos e2, e2]
        exact h.rest a i (by omega) (Nat.le_refl _) hi
      · rw [if_neg (by omega), if_neg e1, if_neg (by omega), if_neg e2]; exact h.sym a b (by omega) (by omega)
  · unfold chA
    by_cases e : a = i
    · rw [if_pos ⟨e, e⟩]
    · rw [if_neg (fun x => e x.1), if_neg e]; exact h.two a (by omega)
  · unfold chA
    by_cases e : a = i
    · rw [if_neg (by omega), if_pos e]
    · rw [if_neg (fun x => e x.1), if_neg e]; exact h.rest a b (by omega) (by omega) hbn
  · unfold chA
    split
    · decide
    · split
      · decide
      · exact h.few a b (by omega) hb

theorem chn_link {M : Nat → Nat → Int} {n i k : Nat} (h : Chn M n (i + 1)) (hk : k < i) : Chn (chB M i k) n (i + 1) := by
  refine ⟨fun a b ha hb => ?_, fun a ha => ?_, fun a b ha hb hbn => ?_, fun a b ha hb => ?_⟩
  · unfold chB
    by_cases e1 : a = k ∧ b = i
    · rw [if_pos e1, if_neg (by omega), if_pos ⟨e1.2, e1.1⟩]
    · rw [if_neg e1]
      by_cases e2 : a = i ∧ b = k
      · rw [if_pos e2, if_pos ⟨e2.2, e2.1⟩]
      · rw [if_neg e2, if_neg (by omega), if_neg (by omega)]; exact h.sym a b ha hb
  · unfold chB
    rw [if_neg (by omega), if_neg (by omega)]; exact h.two a ha
  · unfold chB
    rw [if_neg (by omega), if_neg (by omega)]; exact h.rest a b ha hb hbn
  · unfold chB
    split
    · decide
    · split
      · decide
      · exact h.few a b ha hb

theorem kk_cases (fork : Bool) (i n : Nat) : (¬(fork = true ∧ i + 1 = n ∧ 3 < n) ∧ i = 0) ∨ (¬(fork = true ∧ i + 1 = n ∧ 3 < n) ∧ ∃ s, i = s + 1) ∨ (fork = true ∧ i + 1 = n ∧ 3 < n ∧ ∃ s, i = s + 2) := by
  by_cases h : fork = true ∧ i + 1 = n ∧ 3 < n
  · exact .inr (.inr ⟨h.1, h.2.1, h.2.2, i - 2, by omega⟩)
  · by_cases h0 : i = 0
    · exact .inl ⟨h, h0⟩
    · exact .inr (.inl ⟨h, i - 1, by omega⟩)

def GivesCh (w : World) (n : Nat) (e : Ending) (w' : World) : Prop :=
  ∃ G R M, e = .returned (.slice (some ⟨G, 0, none⟩) n n) ∧ MatP w w' G n n n R M ∧ Chn M n n

set_option maxRecDepth 100000 in
set_option maxHeartbeats 8000000 in
theorem rchain_any (n : Nat) (fork : Bool) (w : World) (h1 : 1 ≤ n) (h8 : n ≤ 8) :
    Calls Tryz.prog 64 #[.int .i64 (n : Int), .bool fork] w (GivesCh w n) := by
  have hmk := run_make_row' (P := Tryz.prog) 22 23 (.slice none 0 0) 24 Tryz.underlying22 infoHR rfl .i64 .i64 n (by omega) (by omega) w
  have hmk2 : Hid (∀ W : World, _) := fun W => run_make_row' (P := Tryz.prog) 23 2 (.int .i64 0) 8 Tryz.underlying23 infoH rfl .i64 .i64 n (by omega) (by omega) W
  obtain ⟨G, hG⟩ : ∃ G, G = w.heap.size := ⟨_, rfl⟩
  obtain ⟨W, hW⟩ : ∃ W, W = w.alloc (.cells (madeCells #[.slice none 0 0] n) 23) := ⟨_, rfl⟩
  have hst : Hid (∃ R M, MatP w W G n n 0 R M ∧ Chn M n 0) := by
    refine ⟨fun _ => 0, fun _ _ => 0, ?_, fun a b ha => by omega, fun a ha => by omega, fun a b ha => by omega, fun a b ha => by omega⟩
    rw [hW, hG]
    exact MatP.start w n n 23 _ _
  have HWW : Hid (w.alloc (.cells (madeCells #[.slice none 0 0] n) 23) = W) := hW.symm
  clear hW
  rw [← hG] at hmk
  go_enter Tryz.func64, Tryz.ntmps64
  clear hG
  go_wp2_with fail
  rw [HWW.out]
  clear hmk
  go_loopw [12] (fun ii wr => ∃ i : Nat, i ≤ n ∧ ii = .int .i64 (i : Int) ∧ Hid (∃ R M, MatP w wr G n n i R M ∧ Chn M n i)) (fun ii _ => n - (intOf ii).toNat)
  case atStart => exact ⟨0, by omega, rfl, hst⟩
  case round =>
    obtain ⟨i, hin, rfl, hC⟩ := hrel
    clear hst
    by_cases hi : i < n
    · obtain ⟨R1, M1, hC1, hch⟩ := hC.out
      have hmk := hmk2.out wr
      have hA : Below wr.heap.size wr (wr.alloc (.cells (madeCells #[.int .i64 0] n) 2)) := (Below.refl _ _).alloc (Nat.le_refl _) _
      have ho := (hC1.moved hA).rest i (Nat.le_refl _) hi
      have hf := (hC1.moved hA).ofr i
      obtain ⟨g, hg⟩ : ∃ g, g = wr.heap.size := ⟨_, rfl⟩
      obtain ⟨V, hV⟩ : ∃ V, V = (wr.alloc (.cells (madeCells #[.int .i64 0] n) 2)).setCell ⟨G, i, none⟩ (.slice (some ⟨g, 0, none⟩) n n) := ⟨_, rfl⟩
      obtain ⟨R2, hR2⟩ : ∃ R, R = (fun p => if p = i then g else R1 p : Nat → Nat) := ⟨_, rfl⟩
      have hMV : MatP w V G n n (i + 1) R2 (fun p q => if p = i then 0 else M1 p q) := by
        rw [hV, hR2, hg]; exact hC1.add hi 2
      have hRi : R2 i = g := by rw [hR2]; exact if_pos rfl
      have hz := RowI.made wr n 2
      rw [← hg] at hz
      have v1 := hz.c i hi
      have v2 := hz.fr i
      have hGg : ¬(G = g) := by rw [hg]; exact Nat.ne_of_lt hC1.lt
      have hgG : ¬(g = G) := fun h => hGg h.symm
      obtain ⟨W8, hW8⟩ : ∃ W8, W8 = V.setCell ⟨g, i, none⟩ (.int .i64 2) := ⟨_, rfl⟩
      have hM8 : Hid (MatP w W8 G n n (i + 1) R2 (chA M1 i)) := by
        have h := hMV.store i i (by omega) hi 2
        rw [hRi, ← hW8] at h
        exact h
      have hCA : Hid (Chn (chA M1 i) n (i + 1)) := chn_plain hch hi
      have HW8 : Hid (((wr.alloc (.cells (madeCells #[.int .i64 0] n) 2)).setCell ⟨G, i, none⟩ (.slice (some ⟨g, 0, none⟩) n n)).setCell ⟨g, i, none⟩ (.int .i64 2) = W8) := by unfold Hid; rw [← hV]; exact hW8.symm
      have HRI := Lib.hid hRi
      have hin64 : (i : Int) < (n : Int) := by omega
      have hin0 : (0 : Int) ≤ (i : Int) := by omega
      rw [← hg] at hmk
      have HGG := Lib.hid hg
      clear hC1 hA hC hch hV hR2 hg hMV hW8 hRi hz
      rcases kk_cases fork i n with ⟨hno, hi0⟩ | ⟨hno, s, rfl⟩ | ⟨hfk, hin1, hn3, s, rfl⟩
      · -- row 0
        subst hi0
        have d9 : decide ((0 : Int) ≤ -1) = false := by decide
        have hfin : Hid (∃ R M, MatP w W8 G n n (0 + 1) R M ∧ Chn M n (0 + 1)) := ⟨R2, _, hM8.out, hCA.out⟩
        cases fork with
        | false =>
          clear hno
          go_wp2_with fail
          rw [HW8.out]
          go_wp2_with fail
          go_roundw
          case rel => exact ⟨0 + 1, by omega, by go_num, hfin⟩
          case measure => simp [intOf]; omega
        | true =>
          by_cases hn1 : n = 1
          · have d1 : ((0 : Int) == (n : Int) - 1) = true := by simp; omega
            have d2 : decide ((3 : Int) < (n : Int)) = false := decide_eq_false (by omega)
            clear hno hn1
            go_wp2_with fail
            rw [HW8.out]
            go_wp2_with fail
            go_roundw
            case rel => exact ⟨0 + 1, by omega, by go_num, hfin⟩
            case measure => simp [intOf]; omega
          · have d1 : ((0 : Int) == (n : Int) - 1) = false := by simp; omega
            clear hno hn1
            go_wp2_with fail
            rw [HW8.out]
            go_wp2_with fail
            go_roundw
            case rel => exact ⟨0 + 1, by omega, by go_num, hfin⟩
            case measure => simp [intOf]; omega
      · -- linked with the row ahead
        have e1 : ((s + 1 : Nat) : Int) - 1 = (s : Int) := by omega
        have e2 : ((s : Int) + 1 - 1) = (s : Int) := by omega
        have hw1 : IntKind.i64.wrap (s : Int) = (s : Int) := by rw [IntKind.wrap_i64]; omega
        have d9 : decide ((0 : Int) ≤ (s : Int)) = true := decide_eq_true (by omega)
        obtain ⟨ci, u1, _⟩ := hM8.out.outer (s + 1) (by omega)
        obtain ⟨ck, u2, _⟩ := hM8.out.outer s (by omega)
        have u3 := (hM8.out.row (s + 1) (by omega)).c s (by omega)
        have u4 := (hM8.out.row (s + 1) (by omega)).fr s
        have u5 := (hM8.out.row s (by omega)).c (s + 1) hi
        have u6 := (hM8.out.row s (by omega)).fr (s + 1)
        have hne1 : ¬(R2 (s + 1) = R2 s) := fun h => by have := hM8.out.inj _ _ (by omega) (by omega) h; omega
        have hne2 : ¬(R2 s = R2 (s + 1)) := fun h => hne1 h.symm
        obtain ⟨x3, hx3⟩ : ∃ x, x = chA M1 (s + 1) (s + 1) s := ⟨_, rfl⟩
        obtain ⟨x5, hx5⟩ : ∃ x, x = chA M1 (s + 1) s (s + 1) := ⟨_, rfl⟩
        rw [← hx3] at u3
        rw [← hx5] at u5
        have hfin : Hid (∀ q5, ∃ R M, MatP w (((W8.setCell ⟨R2 (s + 1), s, none⟩ (.int .i64 (-1))).setCell ⟨R2 s, s + 1, none⟩ (.int .i64 (-1))).drewN q5) G n n (s + 1 + 1) R M ∧ Chn M n (s + 1 + 1)) := fun q5 =>
          ⟨R2, _, ((hM8.out.store (s + 1) s (by omega) (by omega) (-1)).store s (s + 1) (by omega) hi (-1)).moved (below_drew0 _ q5), chn_link hCA.out (by omega)⟩
        have z1 : (0 : Int) ≤ (s : Int) := by omega
        have z2 : (s : Int) < (n : Int) := by omega
        have z3 : (0 : Int) ≤ (s : Int) + 1 := by omega
        have z4 : (s : Int) + 1 < (n : Int) := by omega
        have hRs : R2 (s + 1) = g := HRI.out
        rw [hRs] at u1 u3 u4 hne1 hne2
        have hfin' := hfin.out
        rw [hRs] at hfin'
        have HFIN := Lib.hid hfin'
        clear hx3 hx5 hfin hfin' hRs
        cases fork with
        | false =>
          clear hno
          go_wp2_with fail
          rw [HW8.out]
          go_wp2_with fail
          go_region
          go_wp2_with fail
          go_roundw
          case rel =>
            first
              | exact ⟨s + 1 + 1, by omega, by go_num, HFIN.out 1⟩
              | exact ⟨s + 1 + 1, by omega, by go_num, HFIN.out _⟩
          case measure => simp [intOf]; omega
        | true =>
          by_cases hq1 : s + 1 + 1 = n
          · have d1 : ((s : Int) + 1 == (n : Int) - 1) = true := by simp; omega
            have hq3 : ¬3 < n := fun h => hno ⟨rfl, hq1, h⟩
            have d2 : decide ((3 : Int) < (n : Int)) = false := decide_eq_false (by omega)
            have d3 : ¬((3 : Int) < (n : Int)) := by omega
            clear hq1 hq3
            clear hno
            go_wp2_with fail
            rw [HW8.out]
            go_wp2_with fail
            go_region
            go_wp2_with fail
            go_roundw
            case rel =>
              first
                | exact ⟨s + 1 + 1, by omega, by go_num, HFIN.out 1⟩
                | exact ⟨s + 1 + 1, by omega, by go_num, HFIN.out _⟩
            case measure => simp [intOf]; omega
          · have d1 : ((s : Int) + 1 == (n : Int) - 1) = false := by simp; omega
            clear hq1
            clear hno
            go_wp2_with fail
            rw [HW8.out]
            go_wp2_with fail
            go_region
            go_wp2_with fail
            go_roundw
            case rel =>
              first
                | exact ⟨s + 1 + 1, by omega, by go_num, HFIN.out 1⟩
                | exact ⟨s + 1 + 1, by omega, by go_num, HFIN.out _⟩
            case measure => simp [intOf]; omega
      · -- the fork
        have d1 : ((s : Int) + 2 == (n : Int) - 1) = true := by simp; omega
        have d2 : decide ((3 : Int) < (n : Int)) = true := decide_eq_true (by omega)
        have e2 : ((s : Int) + 2 - 2) = (s : Int) := by omega
        have hw1 : IntKind.i64.wrap (s : Int) = (s : Int) := by rw [IntKind.wrap_i64]; omega
        have d9 : decide ((0 : Int) ≤ (s : Int)) = true := decide_eq_true (by omega)
        obtain ⟨ci, u1, _⟩ := hM8.out.outer (s + 2) (by omega)
        obtain ⟨ck, u2, _⟩ := hM8.out.outer s (by omega)
        have u3 := (hM8.out.row (s + 2) (by omega)).c s (by omega)
        have u4 := (hM8.out.row (s + 2) (by omega)).fr s
        have u5 := (hM8.out.row s (by omega)).c (s + 2) hi
        have u6 := (hM8.out.row s (by omega)).fr (s + 2)
        have hne1 : ¬(R2 (s + 2) = R2 s) := fun h => by have := hM8.out.inj _ _ (by omega) (by omega) h; omega
        have hne2 : ¬(R2 s = R2 (s + 2)) := fun h => hne1 h.symm
        obtain ⟨x3, hx3⟩ : ∃ x, x = chA M1 (s + 2) (s + 2) s := ⟨_, rfl⟩
        obtain ⟨x5, hx5⟩ : ∃ x, x = chA M1 (s + 2) s (s + 2) := ⟨_, rfl⟩
        rw [← hx3] at u3
        rw [← hx5] at u5
        have hfin : Hid (∀ q5, ∃ R M, MatP w (((W8.setCell ⟨R2 (s + 2), s, none⟩ (.int .i64 (-1))).setCell ⟨R2 s, s + 2, none⟩ (.int .i64 (-1))).drewN q5) G n n (s + 2 + 1) R M ∧ Chn M n (s + 2 + 1)) := fun q5 =>
          ⟨R2, _, ((hM8.out.store (s + 2) s (by omega) (by omega) (-1)).store s (s + 2) (by omega) hi (-1)).moved (below_drew0 _ q5), chn_link hCA.out (by omega)⟩
        have z1 : (0 : Int) ≤ (s : Int) := by omega
        have z2 : (s : Int) < (n : Int) := by omega
        have z3 : (0 : Int) ≤ (s : Int) + 2 := by omega
        have z4 : (s : Int) + 2 < (n : Int) := by omega
        have hRs : R2 (s + 2) = g := HRI.out
        rw [hRs] at u1 u3 u4 hne1 hne2
        have hfin' := hfin.out
        rw [hRs] at hfin'
        have HFIN := Lib.hid hfin'
        clear hx3 hx5 hfin hfin' hRs
        subst hfk
        clear hin1 hn3
        go_wp2_with fail
        rw [HW8.out]
        go_wp2_with fail
        go_region
        go_wp2_with fail
        go_roundw
        case rel =>
          first
            | exact ⟨s + 2 + 1, by omega, by go_num, HFIN.out 1⟩
            | exact ⟨s + 2 + 1, by omega, by go_num, HFIN.out _⟩
        case measure => simp [intOf]; omega
    · obtain rfl : i = n := by omega
      have hfin : Hid (GivesCh w i (.returned (.slice (some ⟨G, 0, none⟩) i i)) wr) := by
        obtain ⟨R1, M1, hC1, hch⟩ := hC.out
        exact ⟨G, R1, M1, rfl, hC1, hch⟩
      clear hC
      go_wp2_with fail
      go_ret
      exact hfin.out
end Go.Proofs.YtfpcfcegdjlggaaGreat
namespace Go.Proofs.YtfpcfcegdjlggaaGreat
open Go.RowKit

/-- A quotient of two canonical Ints that can be read. -/
def GivesR (w : World) (x y : Int) (e : Ending) (w' : World) : Prop :=
  ∃ a c b d, e = .returned (.agg #[.bool (sg x), .slice a (mg x).length c, .bool (sg y), .slice b (mg y).length d]) ∧ Lm w' a c (mg x) ∧ Lm w' b d (mg y) ∧ Below w.heap.size w w'

/-- A block of two Ints. -/
structure BoxR (B : Nat) (u0 u1 u2 u3 : Value) (w : World) : Prop where
  c0 : w.cell? ⟨B, 0, none⟩ = some u0
  c1 : w.cell? ⟨B, 1, none⟩ = some u1
  c2 : w.cell? ⟨B, 2, none⟩ = some u2
  c3 : w.cell? ⟨B, 3, none⟩ = some u3
  fr : ∀ k, w.frozen? ⟨B, k, none⟩ = false
  lt : B < w.heap.size

theorem BoxR.below {B : Nat} {u0 u1 u2 u3 : Value} {w w' : World} (h : BoxR B u0 u1 u2 u3 w) (hb : Below w.heap.size w w') : BoxR B u0 u1 u2 u3 w' :=
  ⟨(hb.cell (p := ⟨B, _, none⟩) h.lt).trans h.c0, (hb.cell (p := ⟨B, _, none⟩) h.lt).trans h.c1, (hb.cell (p := ⟨B, _, none⟩) h.lt).trans h.c2, (hb.cell (p := ⟨B, _, none⟩) h.lt).trans h.c3, fun k => (hb.frozen (p := ⟨B, k, none⟩) h.lt).trans (h.fr k), Nat.lt_of_lt_of_le h.lt hb.size⟩

theorem BoxR.made (w : World) (B : Nat) (hB : B = w.heap.size) (u0 u1 u2 u3 : Value) (t : TypeId) : BoxR B u0 u1 u2 u3 (w.alloc (.cells #[u0, u1, u2, u3] t)) := by
  subst hB
  have hg := heap_alloc_new w (.cells #[u0, u1, u2, u3] t)
  refine ⟨?_, ?_, ?_, ?_, fun k => frozen_of_row _ _ _ _ _ hg, by simp⟩ <;> (rw [cell_of_row _ _ _ _ _ (0, 0) hg]; rfl)

theorem BoxR.alloc {B : Nat} {u0 u1 u2 u3 : Value} {w : World} (h : BoxR B u0 u1 u2 u3 w) (o : Obj) : BoxR B u0 u1 u2 u3 (w.alloc o) := h.below ((Below.refl _ _).alloc (Nat.le_refl _) o)

/-- A store of a quotient. -/
abbrev setR (w : World) (G : Nat) (x0 x1 x2 x3 : Value) : World := (((w.setCell ⟨G, 0, none⟩ x0).setCell ⟨G, 1, none⟩ x1).setCell ⟨G, 2, none⟩ x2).setCell ⟨G, 3, none⟩ x3

theorem setR_lm {w : World} {G : Nat} {a : Option Addr} {c : Nat} {zs : List Nat} (h : Lm w a c zs) {b0 b2 : Bool} {p1 p3 : Option Addr} {n1 m1 n3 m3 : Nat} (hB : BoxR G (.bool b0) (.slice p1 n1 m1) (.bool b2) (.slice p3 n3 m3) w) (x0 x1 x2 x3 : Value) : Lm (setR w G x0 x1 x2 x3) a c zs := by
  have e1 : (w.setCell ⟨G, 0, none⟩ x0).cell? ⟨G, 1, none⟩ = some (.slice p1 n1 m1) := by rw [World.cell?_setCell_other _ _ _ _ (by simp)]; exact hB.c1
  have e2 : ((w.setCell ⟨G, 0, none⟩ x0).setCell ⟨G, 1, none⟩ x1).cell? ⟨G, 2, none⟩ = some (.bool b2) := by rw [World.cell?_setCell_other _ _ _ _ (by simp), World.cell?_setCell_other _ _ _ _ (by simp)]; exact hB.c2
  have e3 : (((w.setCell ⟨G, 0, none⟩ x0).setCell ⟨G, 1, none⟩ x1).setCell ⟨G, 2, none⟩ x2).cell? ⟨G, 3, none⟩ = some (.slice p3 n3 m3) := by rw [World.cell?_setCell_other _ _ _ _ (by simp), World.cell?_setCell_other _ _ _ _ (by simp), World.cell?_setCell_other _ _ _ _ (by simp)]; exact hB.c3
  exact (((h.setO rfl hB.c0 (by simp) _).setO rfl e1 (by simp) _).setO rfl e2 (by simp) _).setO rfl e3 (by simp) _

theorem setR_bel {V w : World} {G : Nat} (h : Below V.heap.size V w) (hG : V.heap.size ≤ G) (x0 x1 x2 x3 : Value) : Below V.heap.size V (setR w G x0 x1 x2 x3) :=
  (((h.setCell (p := ⟨G, 0, none⟩) hG x0).setCell (p := ⟨G, 1, none⟩) hG x1).setCell (p := ⟨G, 2, none⟩) hG x2).setCell (p := ⟨G, 3, none⟩) hG x3

theorem setR_made {w : World} {G : Nat} {u0 u1 u2 u3 : Value} (hB : BoxR G u0 u1 u2 u3 w) (x0 x1 x2 x3 : Value) : BoxR G x0 x1 x2 x3 (setR w G x0 x1 x2 x3) := by
  have e1 : (w.setCell ⟨G, 0, none⟩ x0).cell? ⟨G, 1, none⟩ = some u1 := by rw [World.cell?_setCell_other _ _ _ _ (by simp)]; exact hB.c1
  have e2 : ((w.setCell ⟨G, 0, none⟩ x0).setCell ⟨G, 1, none⟩ x1).cell? ⟨G, 2, none⟩ = some u2 := by rw [World.cell?_setCell_other _ _ _ _ (by simp), World.cell?_setCell_other _ _ _ _ (by simp)]; exact hB.c2
  have e3 : (((w.setCell ⟨G, 0, none⟩ x0).setCell ⟨G, 1, none⟩ x1).setCell ⟨G, 2, none⟩ x2).cell? ⟨G, 3, none⟩ = some u3 := by rw [World.cell?_setCell_other _ _ _ _ (by simp), World.cell?_setCell_other _ _ _ _ (by simp), World.cell?_setCell_other _ _ _ _ (by simp)]; exact hB.c3
  refine ⟨?_, ?_, ?_, World.cell?_setCell_same _ _ _ e3, fun k => by simp [hB.fr k], by simpa [World.setCell] using hB.lt⟩
  · rw [World.cell?_setCell_other _ _ _ _ (by simp), World.cell?_setCell_other _ _ _ _ (by simp), World.cell?_setCell_other _ _ _ _ (by simp)]; exact World.cell?_setCell_same _ _ _ hB.c0
  · rw [World.cell?_setCell_other _ _ _ _ (by simp), World.cell?_setCell_other _ _ _ _ (by simp)]; exact World.cell?_setCell_same _ _ _ e1
  · rw [World.cell?_setCell_other _ _ _ _ (by simp)]; exact World.cell?_setCell_same _ _ _ e2

set_option maxRecDepth 100000 in
set_option maxHeartbeats 2000000 in
theorem rhalf_any (w : World) : Calls Tryz.prog 124 #[] w (GivesR w 1 2) := by
  obtain ⟨W, hW⟩ : ∃ W, W = w.alloc (.cells #[.bool false, .slice none 0 0, .bool false, .slice none 0 0] 140) := ⟨_, rfl⟩
  have hbW : Below w.heap.size w W := by rw [hW]; exact (Below.refl _ _).alloc (Nat.le_refl _) _
  have hres : Hid (BoxR w.heap.size (.bool false) (.slice none 0 0) (.bool false) (.slice none 0 0) W) := by rw [hW]; exact BoxR.made _ _ rfl _ _ _ _ _
  have HWW : Hid (w.alloc (.cells #[.bool false, .slice none 0 0, .bool false, .slice none 0 0] 140) = W) := hW.symm
  have HBW := Lib.hid hbW
  clear hW hbW
  go_enter Tryz.func124, Tryz.ntmps124
  go_wp2_with fail
  rw [HWW.out]
  refine (smallZ 1 (by omega) (by omega)).mono ?_
  rintro e w1 ⟨a1, c1, rfl, hr1, hb1⟩
  obtain ⟨x, hx⟩ : ∃ z : Int, z = 1 := ⟨_, rfl⟩
  rw [← hx] at hr1 ⊢
  have HX := Lib.hid hx
  have HL1 := Lib.hid hr1
  have HB1 := Lib.hid hb1
  clear hx hr1 hb1
  go_wp2_with fail
  refine (smallZ 2 (by omega) (by omega)).mono ?_
  rintro e w2 ⟨a2, c2, rfl, hr2, hb2⟩
  obtain ⟨y, hy⟩ : ∃ z : Int, z = 2 := ⟨_, rfl⟩
  rw [← hy] at hr2 ⊢
  have HY := Lib.hid hy
  have hB2 := HB1.out.trans (hb2.mono HB1.out.size)
  have hR2 := hres.out.below hB2
  have HL1' : Hid (Lm (setR w2 w.heap.size (.bool (sg x)) (.slice a1 (mg x).length c1) (.bool (sg y)) (.slice a2 (mg y).length c2)) a1 c1 (mg x)) := setR_lm (HL1.out.below hb2) hR2 _ _ _ _
  have HL2' : Hid (Lm (setR w2 w.heap.size (.bool (sg x)) (.slice a1 (mg x).length c1) (.bool (sg y)) (.slice a2 (mg y).length c2)) a2 c2 (mg y)) := setR_lm hr2 hR2 _ _ _ _
  have HB2 : Hid (Below w.heap.size w (setR w2 w.heap.size (.bool (sg x)) (.slice a1 (mg x).length c1) (.bool (sg y)) (.slice a2 (mg y).length c2))) := setR_bel (HBW.out.trans (hB2.mono HBW.out.size)) (Nat.le_refl _) _ _ _ _
  obtain ⟨t0, t1, t2, t3, t4, t5⟩ := hR2
  clear hr2 hb2 hB2 hy
  go_wp2_with fail
  refine bodyPost_ret (v := .agg #[.bool (sg x), .slice a1 (mg x).length c1, .bool (sg y), .slice a2 (mg y).length c2]) ?_ rfl ?_
  · simp [results, Tryz.results124, go_sem, t0, t1, t2, t3]
  · rw [← HX.out, ← HY.out]
    exact ⟨a1, c1, a2, c2, rfl, HL1'.out, HL2'.out, HB2.out⟩
end Go.Proofs.YtfpcfcegdjlggaaGreat
