/-
  The contracts of the maker's Next and Vector.
-/
import Derived.Test.YtdpgkegfkobdoaaYI
import Derived.Test.YtdpgkegfkobdoaaYK
namespace Go.Proofs.Ytdpgkegfkobdoaa
open Go.RowKit Go.Shelf

/-- The slice at address a reads as the list ks of int8. -/
structure Rd8 (w : World) (a : Option Addr) (ks : List Int) : Prop where
  lim : ∀ x ∈ ks, -128 ≤ x ∧ x ≤ 127
  cells : ∀ i, i < ks.length → ∃ b o, a = some ⟨b, o, none⟩ ∧ w.cell? ⟨b, o + i, none⟩ = some (.int .i8 (ks.getD i 0))
theorem Rd8.get {w : World} {a : Option Addr} {ks : List Int} (h : Rd8 w a ks) (i : Nat) : -128 ≤ ks.getD i 0 ∧ ks.getD i 0 ≤ 127 := by
  by_cases hi : i < ks.length
  · have e : ks.getD i 0 = ks[i] := by simp [List.getD_eq_getElem?_getD, List.getElem?_eq_getElem hi]
    rw [e]; exact h.lim _ (List.getElem_mem hi)
  · have e : ks.getD i 0 = 0 := by simp [List.getD_eq_getElem?_getD, List.getElem?_eq_none (Nat.le_of_not_lt hi)]
    rw [e]; omega
theorem Rd8.below {w w' : World} {a : Option Addr} {ks : List Int} (h : Rd8 w a ks) (hb : Below w.heap.size w w') : Rd8 w' a ks := by
  refine ⟨h.lim, fun i hi => ?_⟩
  obtain ⟨b, o, rfl, hc⟩ := h.cells i hi
  refine ⟨b, o, rfl, ?_⟩
  rw [hb.cell (World.block_lt_of_cell? w _ hc)]
  exact hc

/-- What Next gives at place k of the tape, whose block is t. -/
def GivesNext (w : World) (t : Nat) (ks : List Int) (k : Nat) (e : Ending) (w' : World) : Prop :=
  e = .returned (.int .i64 (ks.getD k 0)) ∧ ∃ q, w' = (if k < ks.length then w.setCell ⟨t, 1, none⟩ (.int .i64 ((k + 1 : Nat) : Int)) else w).drewN q

set_option maxRecDepth 100000 in
set_option maxHeartbeats 2000000 in
theorem next_any (t : Nat) (al : Option Addr) (nl capl k : Nat) (ks : List Int) (w : World) (hp : Pr t (.slice al nl capl) (.int .i64 (k : Int)) w) (hr : Rd8 w al ks) (hl : ks.length = nl) (hn : nl ≤ 200000000000000) (hk : k ≤ nl) (hu : ks ≠ [] → ∀ b o, al = some ⟨b, o, none⟩ → b ≠ t) :
    Calls Try.prog 18 #[.pointer (some ⟨t, 0, none⟩)] w (GivesNext w t ks k) := by
  have hmix := mixed
  have HL := Lib.hid hl
  obtain ⟨p0, p1, p2, p3, p4⟩ := hp
  by_cases hlt : k < nl
  · have d1 : decide ((nl : Int) ≤ (k : Int)) = false := decide_eq_false (by omega)
    obtain ⟨b, o, rfl, hcell⟩ := hr.cells k (by rw [hl]; exact hlt)
    have hne : b ≠ t := hu (fun e => by rw [e] at hl; simp at hl; omega) b o rfl
    have hg := hr.get k
    obtain ⟨x, hx⟩ : ∃ x, x = ks.getD k 0 := ⟨_, rfl⟩
    rw [← hx] at hcell hg
    have HX := Lib.hid hx
    have hset : ∀ W : World, W.cell? ⟨t, 0, none⟩ = some (.slice (some ⟨b, o, none⟩) nl capl) → W.cell? ⟨t, 1, none⟩ = some (.int .i64 (k : Int)) → W.cell? ⟨b, o + k, none⟩ = some (.int .i8 x) →
        (W.setCell ⟨t, 1, none⟩ (.int .i64 ((k : Int) + 1))).cell? ⟨t, 0, none⟩ = some (.slice (some ⟨b, o, none⟩) nl capl) ∧ (W.setCell ⟨t, 1, none⟩ (.int .i64 ((k : Int) + 1))).cell? ⟨t, 1, none⟩ = some (.int .i64 ((k : Int) + 1)) ∧
          (W.setCell ⟨t, 1, none⟩ (.int .i64 ((k : Int) + 1))).cell? ⟨b, o + k, none⟩ = some (.int .i8 x) := fun W w0 w1 w2 =>
      ⟨by rw [World.cell?_setCell_other _ _ _ _ (by simp)]; exact w0, World.cell?_setCell_same _ _ _ w1, by rw [World.cell?_setCell_far _ _ _ _ (fun e => hne e.symm)]; exact w2⟩
    have HSET := Lib.hid hset
    have hb1 : (k : Int) < (nl : Int) := by omega
    have hb2 : IntKind.i64.wrap (k : Int) = (k : Int) := by rw [IntKind.wrap_i64]; omega
    have hg1 := hg.1
    have hg2 := hg.2
    clear hr hl hu hx hset hg
    go_enter Try.func18, Try.ntmps18
    go_wp2_with fail
    go_quiet (fail)
    go_wp2_with fail
    obtain ⟨V, hV⟩ : ∃ V, V = (w.drewN nq).setCell ⟨t, 1, none⟩ (.int .i64 ((k : Int) + 1)) := ⟨_, rfl⟩
    obtain ⟨v0, v1, v2⟩ := HSET.out (w.drewN nq) p0 p1 hcell
    rw [← hV] at v0 v1 v2
    rw [← hV]
    have HV : Hid (∃ n1, V = (w.setCell ⟨t, 1, none⟩ (.int .i64 ((k + 1 : Nat) : Int))).drewN n1) := ⟨nq, by rw [hV]; rfl⟩
    clear hV p0 p1 hcell
    go_quiet (fail)
    go_wp2_with fail
    go_ret
    obtain ⟨n1, hn1⟩ := HV.out
    refine ⟨by rw [← HX.out]; rfl, n1 + nq, ?_⟩
    rw [HL.out, if_pos hlt, hn1, World.drewN_drewN]
  · have d1 : decide ((nl : Int) ≤ (k : Int)) = true := decide_eq_true (by omega)
    have hx : ks.getD k 0 = 0 := by rw [List.getD_eq_getElem?_getD, List.getElem?_eq_none (by omega)]; rfl
    have HX := Lib.hid hx
    clear hr hl hu hx
    go_enter Try.func18, Try.ntmps18
    go_wp2_with fail
    go_quiet (fail)
    go_wp2_with fail
    go_ret
    refine ⟨by rw [HX.out]; rfl, nq, ?_⟩
    rw [HL.out, if_neg hlt]

/-- The numbers of a tape, and zeros at its end. -/
def tapeL (ks : List Int) (n : Nat) : List Int := (List.range n).map fun i => ks.getD i 0
theorem length_tapeL (ks : List Int) (n : Nat) : (tapeL ks n).length = n := by simp [tapeL]
def GivesVec (w : World) (zs : List Int) (e : Ending) (w' : World) : Prop :=
  ∃ g, e = .returned (.slice (some ⟨g, 0, none⟩) zs.length zs.length) ∧ w.heap.size ≤ g ∧ OwnI w' g zs ∧ Below w.heap.size w w'

/-- Behind k rounds the first k numbers stand. -/
def fillL (ks : List Int) (n k : Nat) : List Int := (List.range n).map fun i => if i < k then ks.getD i 0 else 0
theorem length_fillL (ks : List Int) (n k : Nat) : (fillL ks n k).length = n := by simp [fillL]
theorem fillL_all (ks : List Int) (n : Nat) : fillL ks n n = tapeL ks n := by
  unfold fillL tapeL
  refine List.map_congr_left fun i hi => ?_
  rw [if_pos (List.mem_range.1 hi)]
theorem fillL_set (ks : List Int) (n k : Nat) (h : k < n) : (fillL ks n k).set k (ks.getD k 0) = fillL ks n (k + 1) := by
  apply List.ext_getElem
  · simp [fillL]
  · intro i h1 h2
    have hi : i < n := by simpa [fillL] using h2
    rw [List.getElem_set]
    simp only [fillL, List.getElem_map, List.getElem_range]
    by_cases e : k = i
    · rw [if_pos e, if_pos (by omega), e]
    · rw [if_neg e]
      by_cases h3 : i < k
      · rw [if_pos h3, if_pos (by omega)]
      · rw [if_neg h3, if_neg (by omega)]

theorem fillL_zero (ks : List Int) (n : Nat) : i64s (fillL ks n 0) = List.replicate n (.int .i64 0) := by
  apply List.ext_getElem
  · simp [i64s, fillL]
  · intro i h1 h2
    simp [i64s, fillL]

theorem madeI64 (n : Nat) : (madeCells #[Value.int .i64 0] n).toList = List.replicate n (.int .i64 0) := by
  apply List.ext_getElem
  · simp [madeCells]
  · intro i h1 h2
    simp [madeCells, Nat.mod_one]

/-- The world behind Next: the tape's place, the row, and what lay below. -/
theorem next_world {w wr w' : World} {t nl capl k i : Nat} {al : Option Addr} {ks : List Int} {g : Nat} {zs : List Int} (hP : Pr t (.slice al nl capl) (.int .i64 (k : Int)) wr) (hO : OwnI wr g zs) (hB : Below w.heap.size w wr) (hgt : g ≠ t) (ht : w.heap.size ≤ t) (hl : ks.length = nl) (hk : k = min i nl)
    (hw : ∃ q, w' = (if k < ks.length then wr.setCell ⟨t, 1, none⟩ (.int .i64 ((k + 1 : Nat) : Int)) else wr).drewN q) :
    Pr t (.slice al nl capl) (.int .i64 ((min (i + 1) nl : Nat) : Int)) w' ∧ OwnI w' g zs ∧ Below w.heap.size w w' := by
  obtain ⟨q, rfl⟩ := hw
  rw [hl]
  by_cases h : k < nl
  · rw [if_pos h]
    have e : min (i + 1) nl = k + 1 := by omega
    rw [e]
    refine ⟨⟨?_, ?_, ?_, ?_, ?_⟩, ?_, ?_⟩
    · show (wr.setCell _ _).cell? _ = _
      rw [World.cell?_setCell_other _ _ _ _ (by simp)]; exact hP.c0
    · exact World.cell?_setCell_same _ _ _ hP.c1
    · show (wr.setCell _ _).frozen? _ = _
      simp [hP.f0]
    · show (wr.setCell _ _).frozen? _ = _
      simp [hP.f1]
    · show t < (wr.setCell _ _).heap.size
      simp [World.setCell]; exact hP.lt
    · exact (hO.of_heap (Below.heap_setCell wr ⟨t, 1, none⟩ _ g hgt) : OwnI (wr.setCell ⟨t, 1, none⟩ _) g zs).of_heap rfl
    · exact below_drewN' (hB.setCell (p := ⟨t, 1, none⟩) ht _) q
  · rw [if_neg h]
    have e : min (i + 1) nl = k := by omega
    rw [e]
    exact ⟨⟨hP.c0, hP.c1, hP.f0, hP.f1, hP.lt⟩, hO.of_heap rfl, below_drewN' hB q⟩

set_option maxRecDepth 100000 in
set_option maxHeartbeats 2000000 in
theorem vector_any (al : Option Addr) (nl capl n : Nat) (ks : List Int) (w : World) (hr : Rd8 w al ks) (hl : ks.length = nl) (hn : nl ≤ 200000000000000) (hn2 : n ≤ 1000000) :
    Calls Try.prog 9 #[.slice al nl capl, .int .i64 (n : Int)] w (GivesVec w (tapeL ks n)) := by
  have hmk := fun W => run_make_row' (P := Try.prog) 22 2 (.int .i64 0) 8 Try.underlying22 infoI64 rfl .i64 .i64 n (by omega) (by omega) W
  have HR := Lib.hid hr
  have HL := Lib.hid hl
  obtain ⟨W, hW⟩ : ∃ W, W = (w.alloc (.cells #[.slice al nl capl, .int .i64 0] 43)).alloc (.cells (madeCells #[.int .i64 0] n) 2) := ⟨_, rfl⟩
  have hP : Hid (Pr w.heap.size (.slice al nl capl) (.int .i64 0) W) := by rw [hW]; exact (Pr.made _ _ _ _ rfl).alloc _
  have hO : Hid (OwnI W (w.heap.size + 1) (fillL ks n 0)) := by
    rw [hW]
    have hg := heap_alloc_new (w.alloc (.cells #[.slice al nl capl, .int .i64 0] 43)) (.cells (madeCells #[.int .i64 0] n) 2)
    rw [show (w.alloc (.cells #[.slice al nl capl, .int .i64 0] 43)).heap.size = w.heap.size + 1 from by simp] at hg
    refine ⟨_, hg, ?_⟩
    rw [length_fillL, fillL_zero, madeI64, List.take_of_length_le (by simp)]
  have hB : Hid (Below w.heap.size w W) := by rw [hW]; exact ((Below.refl _ _).alloc (Nat.le_refl _) _).alloc (by simp) _
  have HW : Hid ((w.alloc (.cells #[.slice al nl capl, .int .i64 0] 43)).alloc (.cells (madeCells #[.int .i64 0] n) 2) = W) := hW.symm
  clear hr hl hW
  go_enter Try.func9, Try.ntmps9
  go_wp2_with fail
  rw [HW.out]
  go_loopw [15] (fun ii wr => ∃ i : Nat, i ≤ n ∧ ii = .int .i64 (i : Int) ∧ Hid (Pr w.heap.size (.slice al nl capl) (.int .i64 ((min i nl : Nat) : Int)) wr) ∧ Hid (OwnI wr (w.heap.size + 1) (fillL ks n i)) ∧ Hid (Below w.heap.size w wr)) (fun ii _ => n - (intOf ii).toNat)
  case atStart => exact ⟨0, by omega, rfl, by rw [Nat.zero_min]; exact hP, hO, hB⟩
  case round =>
    obtain ⟨i, hin, rfl, hP1, hO1, hB1⟩ := hrel
    clear hP hO hB hmk
    by_cases hi : i < n
    · obtain ⟨k, hk⟩ : ∃ k, k = min i nl := ⟨_, rfl⟩
      rw [← hk] at hP1
      have hv : ks.getD k 0 = ks.getD i 0 := by
        by_cases h : i < nl
        · rw [hk, Nat.min_eq_left (by omega)]
        · have hl := HL.out
          rw [List.getD_eq_getElem?_getD, List.getD_eq_getElem?_getD, List.getElem?_eq_none (by omega), List.getElem?_eq_none (by omega)]
      have hset := fillL_set ks n i hi
      rw [← hv] at hset
      have hnext := next_any w.heap.size al nl capl k ks wr hP1.out (HR.out.below hB1.out) HL.out hn (by omega) (fun hne b o e => by
        obtain ⟨b', o', e', hc⟩ := HR.out.cells 0 (List.length_pos_iff.2 hne)
        rw [e] at e'
        simp only [Option.some.injEq, Addr.mk.injEq, and_true] at e'
        have := World.block_lt_of_cell? w _ hc
        have h2 : b' < w.heap.size := this
        omega)
      have HNEXT := Lib.hid hnext
      have HSET := Lib.hid hset
      have HK := Lib.hid hk
      have hin64 : (i : Int) < (n : Int) := by omega
      clear hnext hset hk hv
      go_wp2_with fail
      refine HNEXT.out.mono ?_
      rintro e w2 ⟨rfl, hw⟩
      obtain ⟨h1, h2, h3⟩ := next_world hP1.out hO1.out hB1.out (by omega) (Nat.le_refl _) HL.out HK.out hw
      have H1 := Lib.hid h1
      have H3 := Lib.hid h3
      have hcell := h2.cell i (by rw [length_fillL]; exact hi)
      have hfree := h2.free i
      have h4 : Hid (OwnI (w2.setCell ⟨w.heap.size + 1, i, none⟩ (.int .i64 (ks.getD k 0))) (w.heap.size + 1) (fillL ks n (i + 1))) := by
        have h := h2.store i (ks.getD k 0)
        rw [HSET.out] at h
        exact h
      clear h1 h2 h3 hw
      go_wp2_with fail
      go_roundw
      case rel => exact ⟨i + 1, by omega, by go_num, (H1.out.far (a := ⟨w.heap.size + 1, i, none⟩) (by show w.heap.size ≠ w.heap.size + 1; omega) _), h4, H3.out.setCell (p := ⟨w.heap.size + 1, i, none⟩) (by show w.heap.size ≤ w.heap.size + 1; omega) _⟩
      case measure => simp [intOf]; omega
    · obtain rfl : i = n := by omega
      have hend : Hid (GivesVec w (tapeL ks i) (.returned (.slice (some ⟨w.heap.size + 1, 0, none⟩) i i)) wr) := by
        have h := hO1.out
        rw [fillL_all] at h
        exact ⟨w.heap.size + 1, by rw [length_tapeL], by omega, h, hB1.out⟩
      go_wp2_with fail
      go_ret
      exact hend.out
end Go.Proofs.Ytdpgkegfkobdoaa
