/-
  The contracts of limbsOfDigits and natural on the digits of a number.
-/
import Derived.Test.YtgnjjmbphangnaaDoorPT
import Derived.Test.YtgnjjmbphangnaaDoorP
import Derived.Lib.Bytes
import Derived.Deep.LoopGhost
namespace Go.Proofs.YtgnjjmbphangnaaDoor
open Go.RowKit Go.Lib

/-- The number that decimal digits denote. -/
def num (l : List Nat) : Nat := l.foldl (fun a c => 10 * a + (c - 48)) 0
def Dig (l : List Nat) : Prop := ∀ c ∈ l, 48 ≤ c ∧ c ≤ 57

theorem Dig.getD {l : List Nat} (h : Dig l) {i : Nat} (hi : i < l.length) : 48 ≤ l.getD i 0 ∧ l.getD i 0 ≤ 57 := by
  rw [List.getD_eq_getElem?_getD, List.getElem?_eq_getElem hi]; exact h _ (List.getElem_mem hi)

theorem num_snoc (l : List Nat) (c : Nat) : num (l ++ [c]) = 10 * num l + (c - 48) := by unfold num; rw [List.foldl_append]; rfl
theorem num_take {l : List Nat} {i : Nat} (hi : i < l.length) : num (l.take (i + 1)) = 10 * num (l.take i) + (l.getD i 0 - 48) := by
  rw [List.take_succ_eq_append_getElem hi, num_snoc, List.getD_eq_getElem?_getD, List.getElem?_eq_getElem hi]; rfl
theorem num_lt {l : List Nat} (h : Dig l) : ∀ i, i ≤ l.length → num (l.take i) < 10 ^ i := by
  intro i
  induction i with
  | zero => intro _; simp [num]
  | succ i ih =>
    intro hi
    have h1 := ih (by omega)
    have h2 := h.getD (i := i) (by omega)
    rw [num_take (by omega), Nat.pow_succ]; omega
theorem num_len {l : List Nat} (h : Dig l) {i : Nat} (hi : i ≤ l.length) : (limbs (num (l.take i))).length ≤ i := by
  refine length_limbs_le (Nat.lt_of_lt_of_le (num_lt h i hi) (Nat.pow_le_pow_left (by omega) i))

theorem str_size (l : List Nat) : (str l).size = l.length := by unfold str; rw [strOfNums_size]; simp
theorem str_get (l : List Nat) (i : Nat) (hi : i < (str l).size) (hc : l.getD i 0 < 256) : ((str l)[i]'hi).toNat = l.getD i 0 := by
  have hl : i < l.length := by rwa [str_size] at hi
  rw [List.getD_eq_getElem?_getD, List.getElem?_eq_getElem hl] at hc ⊢
  simp only [Option.getD_some] at hc ⊢
  show ((str l).data[i]'_).toNat = _
  simp [str, strOfNums]
  omega

theorem ownsRow_iterAt {w : World} {base n k : Nat} {e : TypeId} {v : Value} {xs : List Value} {s : ByteArray} {pos : Nat} (h : w.ownsRow base e 1 v n xs) (hk : w.heap[k]? = some (.stringIter s pos)) (pos' : Nat) : (w.iterAt k s pos').ownsRow base e 1 v n xs := by
  refine ⟨h.1, ?_⟩
  rcases h.2 with hn | ⟨g, cap, cur, hv, hb, hg, rest⟩
  · exact .inl hn
  · have hkg : g ≠ k := by
      intro e1
      rw [e1, hk] at hg
      cases hg
    exact .inr ⟨g, cap, cur, hv, hb, (Lib.iterAt_other w k g s pos' hkg).trans hg, rest⟩

theorem iter_not_row {w : World} {base n k : Nat} {e : TypeId} {v : Value} {xs : List Value} {s : ByteArray} {pos : Nat} (h : w.ownsRow base e 1 v n xs) (hk : w.heap[k]? = some (.stringIter s pos)) : some k ≠ v.ownBlock := by
  intro e1
  rcases h.2 with ⟨rfl, _⟩ | ⟨g, cap, cur, rfl, hb, hg, rest⟩
  · simp [Value.ownBlock] at e1
  · simp [Value.ownBlock] at e1
    subst e1
    rw [hk] at hg; cases hg

set_option maxRecDepth 100000 in
set_option maxHeartbeats 4000000 in
theorem limbsOfDigits_any (l : List Nat) (w : World) (hd : Dig l) (hl : l.length ≤ 100000) :
    Calls Tryd.prog 13 #[.string (str l)] w (GivesNew w (limbs (num l))) := by
  obtain ⟨s, hs⟩ : ∃ s, s = str l := ⟨_, rfl⟩
  have hsz : s.size = l.length := by rw [hs, str_size]
  have hget : ∀ (i : Nat) (hi : i < s.size), (s[i]'hi).toNat = l.getD i 0 := by
    intro i hi
    subst hs
    exact str_get l i hi (by have := hd.getD (i := i) (by omega); omega)
  have HGET := Lib.hid hget
  have HSZ := Lib.hid hsz
  rw [← hs]
  clear hs hget hsz
  go_enter Tryd.func13, Tryd.ntmps13
  go_wp2_with fail
  go_loopg [3] l.length (fun gn lv wr => ∃ pos, pos ≤ l.length ∧ Hid (gn = l.length - pos) ∧ Hid (wr.heap[w.heap.size]? = some (.stringIter s pos)) ∧ wr.ownsRow w.heap.size 52 1 lv (limbs (num (l.take pos))).length (u32s (limbs (num (l.take pos)))) ∧ Below w.heap.size w wr)
  case atStart => exact ⟨0, by omega, by unfold Hid; omega, World.iter_heap w s 0, World.ownsRow_nil _ _ _ _, (Below.refl _ _).alloc (Nat.le_refl _) _⟩
  case round =>
    obtain ⟨pos, hp, hg, hit, hO, hB⟩ := hrel
    by_cases hlt : pos < l.length
    · have hps : pos < s.size := by rw [HSZ.out]; exact hlt
      obtain ⟨d, hd1⟩ : ∃ d, l.getD pos 0 = d + 48 := ⟨l.getD pos 0 - 48, by have := hd.getD hlt; omega⟩
      have hd2 : d ≤ 9 := by have := hd.getD hlt; omega
      have hch := HGET.out pos hps
      have hnx : ∀ ty, (Instr.next (.pointer (some ⟨w.heap.size, 0, none⟩)) true ty).run Tryd.prog wr = .ok (.tuple #[.bool true, .int .i64 pos, .int .i32 ((d : Int) + 48)]) (wr.iterAt w.heap.size s (pos + 1)) := by
        intro ty
        rw [Lib.run_next_ascii_at wr w.heap.size s pos ty hit.out hps (by rw [hch, hd1]; omega), hch, hd1]
        simp
      have hnum : num (l.take (pos + 1)) = 10 * num (l.take pos) + d := by rw [num_take hlt, hd1]; simp
      have hlen := num_len hd (i := pos) (by omega)
      have HNUM := Lib.hid hnum
      have hO2 := ownsRow_iterAt hO hit.out (pos + 1)
      have hne := iter_not_row hO hit.out
      have hB2 := Lib.below_iterAt hB (Nat.le_refl w.heap.size) s (pos + 1)
      have hit2 := Lib.iterAt_heap wr w.heap.size s pos (pos + 1) hit.out
      obtain ⟨W2, hW2⟩ : ∃ V, V = wr.iterAt w.heap.size s (pos + 1) := ⟨_, rfl⟩
      rw [← hW2] at hnx hO2 hB2 hit2
      have HIT2 := Lib.hid hit2
      have HNE := Lib.hid hne
      have hb2 := hB2.size
      clear hW2 hnum hd1 hch hO hB hit hit2 hne
      go_wp2_with fail
      refine (timesPlus_any u3 w.heap.size (num (l.take pos)) 10 d W2 hO2 (by omega) (by omega) (by omega) (by omega) hb2).mono ?_
      rw [← HNUM.out]
      rintro e w3 ⟨v', rfl, hO3, hG3⟩
      have hit3 : Hid (w3.heap[w.heap.size]? = some (.stringIter s (pos + 1))) := by
        unfold Hid
        rw [hG3.block _ (Array.getElem?_eq_some_iff.1 HIT2.out).1 HNE.out]; exact HIT2.out
      have hB3 : Below w.heap.size w w3 := hB2.grown hG3 hb2 (fun z hz => (hO2.lt z hz).1)
      clear hO2 hG3 hB2 hnx
      go_wp2_with fail
      go_roundg (l.length - (pos + 1))
      case measure => rw [hg.out]; omega
      case rel => exact ⟨pos + 1, by omega, rfl, hit3, hO3, hB3⟩
    · obtain rfl : pos = l.length := by omega
      have hps : ¬l.length < s.size := by rw [HSZ.out]; omega
      have hnx : ∀ ty, (Instr.next (.pointer (some ⟨w.heap.size, 0, none⟩)) true ty).run Tryd.prog wr = .ok (.tuple #[.bool false]) wr := fun ty => Lib.run_next_end_at wr w.heap.size s l.length ty hit.out hps
      rw [List.take_of_length_le (Nat.le_refl _)] at hO
      obtain ⟨a, c, rfl, hN⟩ := new_of_row hB (Lim_limbs _) hO
      have HN := Lib.hid hN
      clear hO hB hN hit
      go_wp2_with fail
      go_ret
      exact ⟨a, c, rfl, HN.out⟩

/-- The digits of a number without a sign: no leading zero. -/
structure Nat10 (l : List Nat) : Prop where
  dig : Dig l
  pos : 0 < l.length
  lead : l.getD 0 0 = 48 → l.length = 1

theorem str_ne {l : List Nat} (h : 0 < l.length) : ¬(str l).toList = [] := by
  intro e
  unfold str at e
  rw [strOfNums_toList] at e
  have h2 := congrArg List.length e
  rw [bytesOf_length] at h2
  simp only [List.length_map, List.length_nil] at h2
  omega

set_option maxRecDepth 100000 in
set_option maxHeartbeats 4000000 in
theorem natural_true (l : List Nat) (w : World) (hl : Nat10 l) (hn : l.length ≤ 100000) :
    Calls Tryd.prog 11 #[.string (str l)] w fun e w' => e = .returned (.bool true) ∧ Below w.heap.size w w' := by
  have hd := hl.dig
  obtain ⟨s, hs⟩ : ∃ s, s = str l := ⟨_, rfl⟩
  have hsz : s.size = l.length := by rw [hs, str_size]
  have hget : ∀ (i : Nat) (hi : i < s.size), (s[i]'hi).toNat = l.getD i 0 := by
    intro i hi
    subst hs
    exact str_get l i hi (by have := hd.getD (i := i) (by omega); omega)
  have hne : ¬s.toList = [] := by rw [hs]; exact str_ne hl.pos
  have hne2 : s.toList.isEmpty = false := by simpa using hne
  have HGET := Lib.hid hget
  have HSZ := Lib.hid hsz
  have hp0 : 0 < s.size := by rw [hsz]; exact hl.pos
  have h0 := hget 0 hp0
  obtain ⟨c0, hc0⟩ : ∃ c, l.getD 0 0 = c := ⟨_, rfl⟩
  have hlead := hl.lead
  have hpos := hl.pos
  have hsz2 : (s.size : Int) = (l.length : Int) := by rw [hsz]
  rw [hc0] at h0 hlead
  rw [← hs]
  clear hs hget hsz hl
  by_cases h48 : c0 = 48
  · have h1l := hlead h48
    subst h48
    have hgt : decide ((1 : Int) < (l.length : Int)) = false := by rw [h1l]; rfl
    clear hlead
    go_enter Tryd.func11, Tryd.ntmps11
    go_wp2_with fail
    go_loopg [] l.length (fun gn wr => ∃ pos, pos ≤ l.length ∧ Hid (gn = l.length - pos) ∧ Hid (wr.heap[w.heap.size]? = some (.stringIter s pos)) ∧ Below w.heap.size w wr)
    case atStart => exact ⟨0, by omega, by unfold Hid; omega, World.iter_heap w s 0, (Below.refl _ _).alloc (Nat.le_refl _) _⟩
    case round =>
      obtain ⟨pos, hp, hg, hit, hB⟩ := hrel
      by_cases hlt : pos < l.length
      · have hps : pos < s.size := by rw [HSZ.out]; exact hlt
        obtain ⟨c, hc⟩ : ∃ c, l.getD pos 0 = c := ⟨_, rfl⟩
        obtain ⟨hc1, hc2⟩ := hd.getD hlt
        rw [hc] at hc1 hc2
        have hch := HGET.out pos hps
        have hnx : ∀ ty, (Instr.next (.pointer (some ⟨w.heap.size, 0, none⟩)) true ty).run Tryd.prog wr = .ok (.tuple #[.bool true, .int .i64 pos, .int .i32 (c : Int)]) (wr.iterAt w.heap.size s (pos + 1)) := by
          intro ty
          rw [Lib.run_next_ascii_at wr w.heap.size s pos ty hit.out hps (by rw [hch, hc]; omega), hch, hc]
        have hB2 := Lib.below_iterAt hB (Nat.le_refl w.heap.size) s (pos + 1)
        have hit2 := Lib.iterAt_heap wr w.heap.size s pos (pos + 1) hit.out
        obtain ⟨W2, hW2⟩ : ∃ V, V = wr.iterAt w.heap.size s (pos + 1) := ⟨_, rfl⟩
        rw [← hW2] at hnx hB2 hit2
        have HIT2 := Lib.hid hit2
        clear hW2 hc hch hB hit hit2
        go_wp2_with fail
        go_roundg (l.length - (pos + 1))
        case measure => rw [hg.out]; omega
        case rel => exact ⟨pos + 1, by omega, rfl, HIT2.out, hB2⟩
      · obtain rfl : pos = l.length := by omega
        have hps : ¬l.length < s.size := by rw [HSZ.out]; omega
        have hnx : ∀ ty, (Instr.next (.pointer (some ⟨w.heap.size, 0, none⟩)) true ty).run Tryd.prog wr = .ok (.tuple #[.bool false]) wr := fun ty => Lib.run_next_end_at wr w.heap.size s l.length ty hit.out hps
        clear hit
        go_wp2_with fail
        go_ret
        exact ⟨rfl, hB⟩
  · have h49 : ¬(c0 : Int) = 48 := by omega
    clear hlead
    go_enter Tryd.func11, Tryd.ntmps11
    go_wp2_with fail
    go_loopg [] l.length (fun gn wr => ∃ pos, pos ≤ l.length ∧ Hid (gn = l.length - pos) ∧ Hid (wr.heap[w.heap.size]? = some (.stringIter s pos)) ∧ Below w.heap.size w wr)
    case atStart => exact ⟨0, by omega, by unfold Hid; omega, World.iter_heap w s 0, (Below.refl _ _).alloc (Nat.le_refl _) _⟩
    case round =>
      obtain ⟨pos, hp, hg, hit, hB⟩ := hrel
      by_cases hlt : pos < l.length
      · have hps : pos < s.size := by rw [HSZ.out]; exact hlt
        obtain ⟨c, hc⟩ : ∃ c, l.getD pos 0 = c := ⟨_, rfl⟩
        obtain ⟨hc1, hc2⟩ := hd.getD hlt
        rw [hc] at hc1 hc2
        have hch := HGET.out pos hps
        have hnx : ∀ ty, (Instr.next (.pointer (some ⟨w.heap.size, 0, none⟩)) true ty).run Tryd.prog wr = .ok (.tuple #[.bool true, .int .i64 pos, .int .i32 (c : Int)]) (wr.iterAt w.heap.size s (pos + 1)) := by
          intro ty
          rw [Lib.run_next_ascii_at wr w.heap.size s pos ty hit.out hps (by rw [hch, hc]; omega), hch, hc]
        have hB2 := Lib.below_iterAt hB (Nat.le_refl w.heap.size) s (pos + 1)
        have hit2 := Lib.iterAt_heap wr w.heap.size s pos (pos + 1) hit.out
        obtain ⟨W2, hW2⟩ : ∃ V, V = wr.iterAt w.heap.size s (pos + 1) := ⟨_, rfl⟩
        rw [← hW2] at hnx hB2 hit2
        have HIT2 := Lib.hid hit2
        clear hW2 hc hch hB hit hit2
        go_wp2_with fail
        go_roundg (l.length - (pos + 1))
        case measure => rw [hg.out]; omega
        case rel => exact ⟨pos + 1, by omega, rfl, HIT2.out, hB2⟩
      · obtain rfl : pos = l.length := by omega
        have hps : ¬l.length < s.size := by rw [HSZ.out]; omega
        have hnx : ∀ ty, (Instr.next (.pointer (some ⟨w.heap.size, 0, none⟩)) true ty).run Tryd.prog wr = .ok (.tuple #[.bool false]) wr := fun ty => Lib.run_next_end_at wr w.heap.size s l.length ty hit.out hps
        clear hit
        go_wp2_with fail
        go_ret
        exact ⟨rfl, hB⟩
end Go.Proofs.YtgnjjmbphangnaaDoor
