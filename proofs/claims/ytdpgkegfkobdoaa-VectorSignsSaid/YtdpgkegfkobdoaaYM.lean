/-
  The contract of newNormed.
-/
import Derived.Test.YtdpgkegfkobdoaaYL
namespace Go.Proofs.Ytdpgkegfkobdoaa
open Go.RowKit Go.Shelf

theorem OwnI.far {w : World} {g : Nat} {zs : List Int} (h : OwnI w g zs) {a : Addr} (hne : g ≠ a.block) (u : Value) : OwnI (w.setCell a u) g zs := h.of_heap (Below.heap_setCell w a u g hne)

/-- xs belongs into a list of vectors, with the norm m. -/
def Fine (nh : Nat) (hs : List (List Int)) (xs : List Int) (m : Int) : Prop := IsVec nh xs ∧ IsLim (innerS hs xs xs nh) m ∧ sgnL xs ≠ 0

/-- What newNormed gives. -/
def GivesItem (w : World) (nh : Nat) (hs : List (List Int)) (xs : List Int) (e : Ending) (w' : World) : Prop :=
  ((∃ m g c, Fine nh hs xs m ∧ e = .returned (.tuple #[.agg #[.int .i64 m, .slice (some ⟨g, 0, none⟩) nh c], .bool true]) ∧ nh ≤ c ∧ w.heap.size ≤ g ∧ OwnI w' g (canonL xs)) ∨
   ((∀ m, ¬Fine nh hs xs m) ∧ ∃ v0 v1, e = .returned (.tuple #[.agg #[.int .i64 v0, .slice none 0 0], .bool v1]) ∧ v1 = false)) ∧ Below w.heap.size w w'

set_option maxRecDepth 100000 in
set_option maxHeartbeats 1000000 in
theorem newNormed_any (ah a : Option Addr) (nh caph n cap : Nat) (hs : List (List Int)) (xs : List Int) (w : World) (hred : IsRed hs) (hrm : RdM w ah caph hs) (hlm : hs.length = nh) (hr : RdI w a cap xs) (hl : xs.length = n) (hn : n ≤ 17592186044416) :
    Calls Try.prog 29 #[.slice ah nh caph, .slice a n cap] w (GivesItem w nh hs xs) := by
  obtain ⟨W, hW⟩ : ∃ W, W = w.alloc (.cells #[.int .i64 0, .slice none 0 0] 58) := ⟨_, rfl⟩
  have hP : Hid (Pr w.heap.size (.int .i64 0) (.slice none 0 0) W) := by rw [hW]; exact Pr.made _ _ _ _ rfl
  have hb0 : Hid (Below w.heap.size w W) := by rw [hW]; exact (Below.refl _ _).alloc (Nat.le_refl _) _
  have HWW : Hid (w.alloc (.cells #[.int .i64 0, .slice none 0 0] 58) = W) := hW.symm
  have HRM : Hid (RdM W ah caph hs) := hrm.below hb0.out
  have HR : Hid (RdI W a cap xs) := hr.below hb0.out
  have HRED := Lib.hid hred
  clear hW hrm hr hred
  go_enter Try.func29, Try.ntmps29
  go_wp2_with fail
  rw [HWW.out]
  refine (normOf_any ah a nh caph n cap hs xs _ HRED.out HRM.out hlm HR.out hl (by omega)).mono ?_
  rintro e w1 ⟨(⟨m, hv, hm, rfl⟩ | ⟨hno, rfl⟩), hb⟩
  · have HV := Lib.hid hv
    have HMM := Lib.hid hm
    have HR1 : Hid (RdI w1 a cap xs) := HR.out.below hb
    have hb1 : Hid (Below w.heap.size w w1) := hb0.out.trans (hb.mono hb0.out.size)
    have hP1 : Hid (Pr w.heap.size (.int .i64 0) (.slice none 0 0) w1) := hP.out.moved hb
    clear hv hm hb
    go_wp2_with fail
    refine (sign_any a n cap xs _ HR1.out hl hn).mono ?_
    rintro e w2 ⟨(⟨hs0, hin, g, c, rfl, hc, hg, ho⟩ | ⟨hno, rfl⟩), hb⟩
    · have hP2 := hP1.out.moved hb
      have hb2 : Hid (Below w.heap.size w w2) := hb1.out.trans (hb.mono hb1.out.size)
      have hlt : w.heap.size < w1.heap.size := hP1.out.lt
      rw [hl] at hc
      obtain ⟨WF, hWF⟩ : ∃ W, W = (w2.setCell ⟨w.heap.size, 0, none⟩ (.int .i64 m)).setCell ⟨w.heap.size, 1, none⟩ (.slice (some ⟨g, 0, none⟩) n c) := ⟨_, rfl⟩
      have hP3 : Hid (Pr w.heap.size (.int .i64 m) (.slice (some ⟨g, 0, none⟩) n c) WF) := by rw [hWF]; exact hP2.set _ _
      have HO : Hid (OwnI WF g (canonL xs)) := by rw [hWF]; exact (ho.far (a := ⟨w.heap.size, 0, none⟩) (by show g ≠ w.heap.size; omega) _).far (a := ⟨w.heap.size, 1, none⟩) (by show g ≠ w.heap.size; omega) _
      have HBF : Hid (Below w.heap.size w WF) := by rw [hWF]; exact (hb2.out.setCell (p := ⟨w.heap.size, 0, none⟩) (Nat.le_refl _) _).setCell (p := ⟨w.heap.size, 1, none⟩) (Nat.le_refl _) _
      have HWF : Hid ((w2.setCell ⟨w.heap.size, 0, none⟩ (.int .i64 m)).setCell ⟨w.heap.size, 1, none⟩ (.slice (some ⟨g, 0, none⟩) n c) = WF) := hWF.symm
      have HS0 := Lib.hid hs0
      obtain ⟨p1, p2, p3, p4, p5⟩ := hP2
      clear hb ho hs0 hin hWF
      have hvn : n = nh := by rw [← hl]; exact HV.out.1
      subst hvn
      go_wp2_with fail
      rw [HWF.out]
      have t1 := hP3.out.c0
      have t2 := hP3.out.c1
      clear p1 p2 p3 p4 p5
      refine bodyPost_ret (v := .tuple #[.agg #[.int .i64 m, .slice (some ⟨g, 0, none⟩) n c], .bool true]) (by simp [results, Try.results29, go_sem, t1, t2]) rfl ?_
      exact ⟨.inl ⟨m, g, c, ⟨HV.out, HMM.out, HS0.out⟩, rfl, hc, by omega, HO.out⟩, HBF.out⟩
    · have hP2 := hP1.out.moved hb
      have hb2 : Hid (Below w.heap.size w w2) := hb1.out.trans (hb.mono hb1.out.size)
      obtain ⟨WF, hWF⟩ : ∃ W, W = (w2.setCell ⟨w.heap.size, 0, none⟩ (.int .i64 m)).setCell ⟨w.heap.size, 1, none⟩ (.slice none 0 0) := ⟨_, rfl⟩
      have hP3 : Hid (Pr w.heap.size (.int .i64 m) (.slice none 0 0) WF) := by rw [hWF]; exact hP2.set _ _
      have HBF : Hid (Below w.heap.size w WF) := by rw [hWF]; exact (hb2.out.setCell (p := ⟨w.heap.size, 0, none⟩) (Nat.le_refl _) _).setCell (p := ⟨w.heap.size, 1, none⟩) (Nat.le_refl _) _
      have HWF : Hid ((w2.setCell ⟨w.heap.size, 0, none⟩ (.int .i64 m)).setCell ⟨w.heap.size, 1, none⟩ (.slice none 0 0) = WF) := hWF.symm
      have HNO : Hid (∀ m, ¬Fine nh hs xs m) := fun m' h => hno ⟨h.2.2, h.1.2⟩
      obtain ⟨p1, p2, p3, p4, p5⟩ := hP2
      clear hb hno hWF
      go_wp2_with fail
      rw [HWF.out]
      have t1 := hP3.out.c0
      have t2 := hP3.out.c1
      clear p1 p2 p3 p4 p5
      refine bodyPost_ret (v := .tuple #[.agg #[.int .i64 m, .slice none 0 0], .bool false]) (by simp [results, Try.results29, go_sem, t1, t2]) rfl ?_
      exact ⟨.inr ⟨HNO.out, m, false, rfl, rfl⟩, HBF.out⟩
  · have hP2 := hP.out.moved hb
    have hb2 : Hid (Below w.heap.size w w1) := hb0.out.trans (hb.mono hb0.out.size)
    obtain ⟨WF, hWF⟩ : ∃ W, W = (w1.setCell ⟨w.heap.size, 0, none⟩ (.int .i64 0)).setCell ⟨w.heap.size, 1, none⟩ (.slice none 0 0) := ⟨_, rfl⟩
    have hP3 : Hid (Pr w.heap.size (.int .i64 0) (.slice none 0 0) WF) := by rw [hWF]; exact hP2.set _ _
    have HBF : Hid (Below w.heap.size w WF) := by rw [hWF]; exact (hb2.out.setCell (p := ⟨w.heap.size, 0, none⟩) (Nat.le_refl _) _).setCell (p := ⟨w.heap.size, 1, none⟩) (Nat.le_refl _) _
    have HWF : Hid ((w1.setCell ⟨w.heap.size, 0, none⟩ (.int .i64 0)).setCell ⟨w.heap.size, 1, none⟩ (.slice none 0 0) = WF) := hWF.symm
    have HNO : Hid (∀ m, ¬Fine nh hs xs m) := fun m' h => hno m' ⟨h.1, h.2.1⟩
    obtain ⟨p1, p2, p3, p4, p5⟩ := hP2
    clear hb hno hWF
    go_wp2_with fail
    rw [HWF.out]
    have t1 := hP3.out.c0
    have t2 := hP3.out.c1
    clear p1 p2 p3 p4 p5
    refine bodyPost_ret (v := .tuple #[.agg #[.int .i64 0, .slice none 0 0], .bool false]) (by simp [results, Try.results29, go_sem, t1, t2]) rfl ?_
    exact ⟨.inr ⟨HNO.out, 0, false, rfl, rfl⟩, HBF.out⟩
end Go.Proofs.Ytdpgkegfkobdoaa
