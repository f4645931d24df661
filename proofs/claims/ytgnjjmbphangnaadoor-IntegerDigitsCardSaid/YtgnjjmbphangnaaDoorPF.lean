/-
  The contracts of natural and Parse on texts that are no numbers.
-/
import Derived.Test.YtgnjjmbphangnaaDoorPA
import Derived.Test.YtgnjjmbphangnaaDoorRX
namespace Go.Proofs.YtgnjjmbphangnaaDoor
open Go.RowKit Go.Lib

def Byt (l : List Nat) : Prop := ∀ c ∈ l, c < 256
theorem Byt.getD {l : List Nat} (h : Byt l) (i : Nat) : l.getD i 0 < 256 := by
  by_cases hi : i < l.length
  · rw [List.getD_eq_getElem?_getD, List.getElem?_eq_getElem hi]; exact h _ (List.getElem_mem hi)
  · rw [List.getD_eq_getElem?_getD, List.getElem?_eq_none (by omega)]; simp

theorem str_empty {l : List Nat} (h : l.length = 0) : (str l).toList = [] := by
  rw [List.eq_nil_of_length_eq_zero h]
  unfold str
  rw [strOfNums_toList]; rfl

theorem str_zero : ((str [48]).toList == [48]) = true := by unfold str; rw [strOfNums_toList]; rfl

theorem dig_of {l : List Nat} (h : ∀ i, i < l.length → 48 ≤ l.getD i 0 ∧ l.getD i 0 ≤ 57) : Dig l := by
  intro c hc
  obtain ⟨i, hi, rfl⟩ := List.mem_iff_getElem.1 hc
  have := h i hi
  rwa [List.getD_eq_getElem?_getD, List.getElem?_eq_getElem hi] at this

set_option maxRecDepth 100000 in
set_option maxHeartbeats 4000000 in
theorem natural_false (l : List Nat) (w : World) (hb : Byt l) (hl : ¬Nat10 l) (hn : l.length ≤ 100000) :
    Calls Tryd.prog 11 #[.string (str l)] w fun e w' => e = .returned (.bool false) ∧ Below w.heap.size w w' := by
  obtain ⟨s, hs⟩ : ∃ s, s = str l := ⟨_, rfl⟩
  have hsz : s.size = l.length := by rw [hs, str_size]
  have hget : ∀ (i : Nat) (hi : i < s.size), (s[i]'hi).toNat = l.getD i 0 := by
    intro i hi
    subst hs
    exact str_get l i hi (hb.getD i)
  have HSZ := Lib.hid hsz
  by_cases hp : 0 < l.length
  · have hne : ¬s.toList = [] := by rw [hs]; exact str_ne hp
    have hne2 : s.toList.isEmpty = false := by simpa using hne
    have HGET := Lib.hid hget
    have hp0 : 0 < s.size := by rw [hsz]; exact hp
    have h0 := hget 0 hp0
    obtain ⟨c0, hc0⟩ : ∃ c, l.getD 0 0 = c := ⟨_, rfl⟩
    have hsz2 : (s.size : Int) = (l.length : Int) := by rw [hsz]
    rw [hc0] at h0
    rw [← hs]
    clear hs hget hsz
    by_cases hbad : c0 = 48 ∧ 1 < l.length
    · obtain ⟨h48, h1⟩ := hbad
      subst h48
      have hgt : decide ((1 : Int) < (l.length : Int)) = true := decide_eq_true (by omega)
      clear hl
      go_enter Tryd.func11, Tryd.ntmps11
      go_wp2_with fail
      go_ret
      exact ⟨rfl, Below.refl _ _⟩
    · have HNO : Hid (¬Dig l) := Lib.hid (fun hd => hl ⟨hd, hp, fun e => by rw [hc0] at e; omega⟩)
      clear hl
      by_cases h48 : c0 = 48
      · have h1l : l.length = 1 := by omega
        subst h48
        have hgt : decide ((1 : Int) < (l.length : Int)) = false := by rw [h1l]; rfl
        clear hbad
        go_enter Tryd.func11, Tryd.ntmps11
        go_wp2_with fail
        go_loopg [] l.length (fun gn wr => ∃ pos, pos ≤ l.length ∧ Hid (gn = l.length - pos) ∧ Hid (wr.heap[w.heap.size]? = some (.stringIter s pos)) ∧ Hid (∀ i, i < pos → 48 ≤ l.getD i 0 ∧ l.getD i 0 ≤ 57) ∧ Below w.heap.size w wr)
        case atStart => exact ⟨0, by omega, by unfold Hid; omega, World.iter_heap w s 0, Lib.hid (fun i hi => by omega), (Below.refl _ _).alloc (Nat.le_refl _) _⟩
        case round =>
          obtain ⟨pos, hp1, hg, hit, hall, hB⟩ := hrel
          by_cases hlt : pos < l.length
          · have hps : pos < s.size := by rw [HSZ.out]; exact hlt
            obtain ⟨c, hc⟩ : ∃ c, l.getD pos 0 = c := ⟨_, rfl⟩
            have hch := HGET.out pos hps
            rw [hc] at hch
            by_cases hdg : 48 ≤ c ∧ c ≤ 57
            · obtain ⟨hc1, hc2⟩ := hdg
              have hnx : ∀ ty, (Instr.next (.pointer (some ⟨w.heap.size, 0, none⟩)) true ty).run Tryd.prog wr = .ok (.tuple #[.bool true, .int .i64 pos, .int .i32 (c : Int)]) (wr.iterAt w.heap.size s (pos + 1)) := by
                intro ty
                rw [Lib.run_next_ascii_at wr w.heap.size s pos ty hit.out hps (by rw [hch]; omega), hch]
              have hall2 : Hid (∀ i, i < pos + 1 → 48 ≤ l.getD i 0 ∧ l.getD i 0 ≤ 57) := Lib.hid (fun i hi => by
                by_cases h : i < pos
                · exact hall.out i h
                · obtain rfl : i = pos := by omega
                  rw [hc]; exact ⟨hc1, hc2⟩)
              have hB2 := Lib.below_iterAt hB (Nat.le_refl w.heap.size) s (pos + 1)
              have hit2 := Lib.iterAt_heap wr w.heap.size s pos (pos + 1) hit.out
              obtain ⟨W2, hW2⟩ : ∃ V, V = wr.iterAt w.heap.size s (pos + 1) := ⟨_, rfl⟩
              rw [← hW2] at hnx hB2 hit2
              have HIT2 := Lib.hid hit2
              clear hW2 hc hch hB hit hit2
              go_wp2_with fail
              go_roundg (l.length - (pos + 1))
              case measure => rw [hg.out]; omega
              case rel => exact ⟨pos + 1, by omega, rfl, HIT2.out, hall2, hB2⟩
            · obtain ⟨r, k, hr, hnx⟩ : ∃ (r k : Nat), (r < 48 ∨ 57 < r) ∧ ∀ ty, (Instr.next (.pointer (some ⟨w.heap.size, 0, none⟩)) true ty).run Tryd.prog wr = .ok (.tuple #[.bool true, .int .i64 pos, .int .i32 (r : Int)]) (wr.iterAt w.heap.size s k) := by
                by_cases h128 : c < 128
                · refine ⟨c, pos + 1, by omega, fun ty => ?_⟩
                  rw [Lib.run_next_ascii_at wr w.heap.size s pos ty hit.out hps (by rw [hch]; exact h128), hch]
                · refine ⟨(Utf8.decode s pos).1, pos + (Utf8.decode s pos).2, ?_, fun ty => Lib.run_next_any_at wr w.heap.size s pos ty hit.out hps⟩
                  have := (decode_high s pos hps (by rw [hch]; omega)).1
                  omega
              have hB2 := Lib.below_iterAt hB (Nat.le_refl w.heap.size) s k
              obtain ⟨W2, hW2⟩ : ∃ V, V = wr.iterAt w.heap.size s k := ⟨_, rfl⟩
              rw [← hW2] at hnx hB2
              clear hW2 hc hch hB hit hdg
              by_cases hr1 : r < 48
              · clear hr
                go_wp2_with fail
                go_ret
                exact ⟨rfl, hB2⟩
              · have hr2 : 57 < r := by omega
                clear hr
                go_wp2_with fail
                go_ret
                exact ⟨rfl, hB2⟩
          · obtain rfl : pos = l.length := by omega
            exact absurd (dig_of hall.out) HNO.out
      · have h49 : ¬(c0 : Int) = 48 := by omega
        clear hbad
        go_enter Tryd.func11, Tryd.ntmps11
        go_wp2_with fail
        go_loopg [] l.length (fun gn wr => ∃ pos, pos ≤ l.length ∧ Hid (gn = l.length - pos) ∧ Hid (wr.heap[w.heap.size]? = some (.stringIter s pos)) ∧ Hid (∀ i, i < pos → 48 ≤ l.getD i 0 ∧ l.getD i 0 ≤ 57) ∧ Below w.heap.size w wr)
        case atStart => exact ⟨0, by omega, by unfold Hid; omega, World.iter_heap w s 0, Lib.hid (fun i hi => by omega), (Below.refl _ _).alloc (Nat.le_refl _) _⟩
        case round =>
          obtain ⟨pos, hp1, hg, hit, hall, hB⟩ := hrel
          by_cases hlt : pos < l.length
          · have hps : pos < s.size := by rw [HSZ.out]; exact hlt
            obtain ⟨c, hc⟩ : ∃ c, l.getD pos 0 = c := ⟨_, rfl⟩
            have hch := HGET.out pos hps
            rw [hc] at hch
            by_cases hdg : 48 ≤ c ∧ c ≤ 57
            · obtain ⟨hc1, hc2⟩ := hdg
              have hnx : ∀ ty, (Instr.next (.pointer (some ⟨w.heap.size, 0, none⟩)) true ty).run Tryd.prog wr = .ok (.tuple #[.bool true, .int .i64 pos, .int .i32 (c : Int)]) (wr.iterAt w.heap.size s (pos + 1)) := by
                intro ty
                rw [Lib.run_next_ascii_at wr w.heap.size s pos ty hit.out hps (by rw [hch]; omega), hch]
              have hall2 : Hid (∀ i, i < pos + 1 → 48 ≤ l.getD i 0 ∧ l.getD i 0 ≤ 57) := Lib.hid (fun i hi => by
                by_cases h : i < pos
                · exact hall.out i h
                · obtain rfl : i = pos := by omega
                  rw [hc]; exact ⟨hc1, hc2⟩)
              have hB2 := Lib.below_iterAt hB (Nat.le_refl w.heap.size) s (pos + 1)
              have hit2 := Lib.iterAt_heap wr w.heap.size s pos (pos + 1) hit.out
              obtain ⟨W2, hW2⟩ : ∃ V, V = wr.iterAt w.heap.size s (pos + 1) := ⟨_, rfl⟩
              rw [← hW2] at hnx hB2 hit2
              have HIT2 := Lib.hid hit2
              clear hW2 hc hch hB hit hit2
              go_wp2_with fail
              go_roundg (l.length - (pos + 1))
              case measure => rw [hg.out]; omega
              case rel => exact ⟨pos + 1, by omega, rfl, HIT2.out, hall2, hB2⟩
            · obtain ⟨r, k, hr, hnx⟩ : ∃ (r k : Nat), (r < 48 ∨ 57 < r) ∧ ∀ ty, (Instr.next (.pointer (some ⟨w.heap.size, 0, none⟩)) true ty).run Tryd.prog wr = .ok (.tuple #[.bool true, .int .i64 pos, .int .i32 (r : Int)]) (wr.iterAt w.heap.size s k) := by
                by_cases h128 : c < 128
                · refine ⟨c, pos + 1, by omega, fun ty => ?_⟩
                  rw [Lib.run_next_ascii_at wr w.heap.size s pos ty hit.out hps (by rw [hch]; exact h128), hch]
                · refine ⟨(Utf8.decode s pos).1, pos + (Utf8.decode s pos).2, ?_, fun ty => Lib.run_next_any_at wr w.heap.size s pos ty hit.out hps⟩
                  have := (decode_high s pos hps (by rw [hch]; omega)).1
                  omega
              have hB2 := Lib.below_iterAt hB (Nat.le_refl w.heap.size) s k
              obtain ⟨W2, hW2⟩ : ∃ V, V = wr.iterAt w.heap.size s k := ⟨_, rfl⟩
              rw [← hW2] at hnx hB2
              clear hW2 hc hch hB hit hdg
              by_cases hr1 : r < 48
              · clear hr
                go_wp2_with fail
                go_ret
                exact ⟨rfl, hB2⟩
              · have hr2 : 57 < r := by omega
                clear hr
                go_wp2_with fail
                go_ret
                exact ⟨rfl, hB2⟩
          · obtain rfl : pos = l.length := by omega
            exact absurd (dig_of hall.out) HNO.out
  · have hne : s.toList = [] := by rw [hs]; exact str_empty (by omega)
    have hne2 : s.toList.isEmpty = true := by simpa using hne
    rw [← hs]
    clear hs hget hsz hl
    go_enter Tryd.func11, Tryd.ntmps11
    go_wp2_with fail
    go_ret
    exact ⟨rfl, Below.refl _ _⟩

/-- What Parse reads as a number: its sign and its digits. -/
def Reads (neg : Bool) (ds l : List Nat) : Prop := l = (if neg then [45] else []) ++ ds ∧ Nat10 ds ∧ (neg = true → ds ≠ [48])

def GivesBad (e : Ending) : Prop := e = .returned (.tuple #[.agg #[.bool false, .slice none 0 0], .int .i64 2])

theorem trim_none2 (l : List Nat) (hb : Byt l) (h : l.getD 0 0 ≠ 45) : (⟨(Lib.trimPrefix (str l).data.toList (⟨#[45]⟩ : ByteArray).data.toList).toArray⟩ : ByteArray) = str l := by
  have h2 : Lib.hasPrefix (str l).data.toList (⟨#[45]⟩ : ByteArray).data.toList = false := by
    rw [str_data]; unfold Lib.hasPrefix
    cases l with
    | nil => simp
    | cons c cs =>
      have hc := hb c (by simp)
      have hne : ((45 : UInt8) == UInt8.ofNat c) = false := by
        rw [beq_eq_false_iff_ne]
        intro e
        have := congrArg UInt8.toNat e
        simp at this h
        omega
      simp [List.isPrefixOf, hne]
  unfold Lib.trimPrefix
  rw [if_neg (by rw [h2]; simp), str_data, ← str_of_bytes]

set_option maxRecDepth 100000 in
set_option maxHeartbeats 4000000 in
theorem parse_bad (l : List Nat) (w : World) (hb : Byt l) (hl : l.length ≤ 100000) (hbad : ∀ neg ds, ¬Reads neg ds l) :
    Calls Tryd.prog 5 #[.string (str l)] w (fun e w' => GivesBad e ∧ Below w.heap.size w w') := by
  obtain ⟨s0, hs0⟩ : ∃ s, s = str l := ⟨_, rfl⟩
  have hsz0 : (s0.size : Int) = (l.length : Int) := by rw [hs0, str_size]
  have HS0 := Lib.hid hs0
  rw [← hs0]
  obtain ⟨W, hW⟩ : ∃ W, W = w.alloc (.cells #[.bool false, .slice none 0 0] 25) := ⟨_, rfl⟩
  have hxr : Box w.heap.size (.bool false) (.slice none 0 0) W := by rw [hW]; exact Box.made _ _ rfl _ _ _
  have hb0 : Below w.heap.size w W := by rw [hW]; exact (Below.refl _ _).alloc (Nat.le_refl _) _
  have HW := Lib.hid hW
  have HXR := Lib.hid hxr
  have HB0 := Lib.hid hb0
  clear hs0 hW hxr hb0
  by_cases h45 : l.getD 0 0 = 45
  · obtain ⟨ds, rfl⟩ : ∃ ds, l = 45 :: ds := by
      cases l with
      | nil => simp at h45
      | cons c cs => simp at h45; exact ⟨cs, by rw [h45]⟩
    have hbd : Byt ds := fun c hc => hb c (List.mem_cons_of_mem _ hc)
    have hdl : ds.length ≤ 100000 := by simp at hl; omega
    have hb2 : ¬Nat10 ds ∨ ds = [48] := by
      by_cases h : Nat10 ds
      · right
        by_cases h2 : ds = [48]
        · exact h2
        · exact absurd ⟨rfl, h, fun _ => h2⟩ (hbad true ds)
      · exact .inl h
    obtain ⟨s, hs⟩ : ∃ s, s = str ds := ⟨_, rfl⟩
    have hsz : (s.size : Int) = (ds.length : Int) := by rw [hs, str_size]
    have hsz1 : (s0.size : Int) = (ds.length : Int) + 1 := by rw [hsz0]; simp
    have HS := Lib.hid hs
    have HBD := Lib.hid hbd
    clear hsz0 hl hbad hb hbd h45 hs
    rcases hb2 with hno | h48
    · have HNO := Lib.hid hno
      clear hno
      go_enter Tryd.func5, Tryd.ntmps5
      go_wp2_with fail
      rw [← HW.out]
      refine (Tryd.strings_TrimPrefix s0 _ _).mono ?_
      rintro e w1 ⟨rfl, rfl⟩
      have ht : (⟨(Lib.trimPrefix s0.data.toList (⟨#[45]⟩ : ByteArray).data.toList).toArray⟩ : ByteArray) = s := by rw [HS0.out, HS.out]; exact trim_minus ds
      rw [ht]
      clear ht
      go_wp2_with fail
      rw [HS.out]
      refine (natural_false ds _ HBD.out HNO.out (by omega)).mono ?_
      rintro e w2 ⟨rfl, hb2⟩
      rw [← HS.out]
      obtain ⟨r0, r1, r2, r3, r4⟩ := HXR.out.below hb2
      have hfin : Below w.heap.size w ((w2.setCell ⟨w.heap.size, 0, none⟩ (.bool false)).setCell ⟨w.heap.size, 1, none⟩ (.slice none 0 0)) := bel_store (HB0.out.trans (hb2.mono HB0.out.size)) w.heap.size (Nat.le_refl _) _ _
      have HF := Lib.hid hfin
      clear hfin
      go_wp2_with fail
      refine bodyPost_ret (v := .tuple #[.agg #[.bool false, .slice none 0 0], .int .i64 2]) ?_ rfl ⟨rfl, HF.out⟩
      simp [results, Tryd.results5, go_sem, r0, r1]
    · have h0 : (s.toList == [48]) = true := by rw [HS.out, h48]; exact str_zero
      have HN : Hid (Nat10 ds) := Lib.hid (by rw [h48]; exact ⟨fun c hc => by simp at hc; omega, by simp, fun _ => rfl⟩)
      clear h48
      go_enter Tryd.func5, Tryd.ntmps5
      go_wp2_with fail
      rw [← HW.out]
      refine (Tryd.strings_TrimPrefix s0 _ _).mono ?_
      rintro e w1 ⟨rfl, rfl⟩
      have ht : (⟨(Lib.trimPrefix s0.data.toList (⟨#[45]⟩ : ByteArray).data.toList).toArray⟩ : ByteArray) = s := by rw [HS0.out, HS.out]; exact trim_minus ds
      rw [ht]
      clear ht
      go_wp2_with fail
      rw [HS.out]
      refine (natural_true ds _ HN.out (by omega)).mono ?_
      rintro e w2 ⟨rfl, hb2⟩
      rw [← HS.out]
      obtain ⟨r0, r1, r2, r3, r4⟩ := HXR.out.below hb2
      have hfin : Below w.heap.size w ((w2.setCell ⟨w.heap.size, 0, none⟩ (.bool false)).setCell ⟨w.heap.size, 1, none⟩ (.slice none 0 0)) := bel_store (HB0.out.trans (hb2.mono HB0.out.size)) w.heap.size (Nat.le_refl _) _ _
      have HF := Lib.hid hfin
      clear hfin
      go_wp2_with fail
      refine bodyPost_ret (v := .tuple #[.agg #[.bool false, .slice none 0 0], .int .i64 2]) ?_ rfl ⟨rfl, HF.out⟩
      simp [results, Tryd.results5, go_sem, r0, r1]
  · have hno : ¬Nat10 l := fun h => hbad false l ⟨rfl, h, fun e => by cases e⟩
    have HNO := Lib.hid hno
    have HBD := Lib.hid hb
    have H45 := Lib.hid h45
    clear hno hb h45 hbad
    go_enter Tryd.func5, Tryd.ntmps5
    go_wp2_with fail
    rw [← HW.out]
    refine (Tryd.strings_TrimPrefix s0 _ _).mono ?_
    rintro e w1 ⟨rfl, rfl⟩
    have ht : (⟨(Lib.trimPrefix s0.data.toList (⟨#[45]⟩ : ByteArray).data.toList).toArray⟩ : ByteArray) = s0 := by rw [HS0.out]; exact trim_none2 l HBD.out H45.out
    rw [ht]
    clear ht
    go_wp2_with fail
    rw [HS0.out]
    refine (natural_false l _ HBD.out HNO.out (by omega)).mono ?_
    rintro e w2 ⟨rfl, hb2⟩
    rw [← HS0.out]
    obtain ⟨r0, r1, r2, r3, r4⟩ := HXR.out.below hb2
    have hfin : Below w.heap.size w ((w2.setCell ⟨w.heap.size, 0, none⟩ (.bool false)).setCell ⟨w.heap.size, 1, none⟩ (.slice none 0 0)) := bel_store (HB0.out.trans (hb2.mono HB0.out.size)) w.heap.size (Nat.le_refl _) _ _
    have HF := Lib.hid hfin
    clear hfin
    go_wp2_with fail
    refine bodyPost_ret (v := .tuple #[.agg #[.bool false, .slice none 0 0], .int .i64 2]) ?_ rfl ⟨rfl, HF.out⟩
    simp [results, Tryd.results5, go_sem, r0, r1]
end Go.Proofs.YtgnjjmbphangnaaDoor
