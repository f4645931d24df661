/-
  The contracts of the reference's IsNumber and Long.
-/
import Derived.Test.YtllogjmepflnoaaDoorPF
namespace Go.Proofs.YtllogjmepflnoaaDoor
open Go.RowKit Go.Lib

theorem str_tail (c : Nat) (ds : List Nat) : (str (c :: ds)).extract 1 (str (c :: ds)).size = str ds := by
  apply ByteArray.ext
  rw [ByteArray.data_extract]
  apply Array.ext'
  rw [str_size]
  simp [str, strOfNums]
  exact List.take_of_length_le (by simp)

theorem not_zero {l : List Nat} (hb : Byt l) (h : l ≠ [48]) : ((str l).toList == [48]) = false := by
  rw [beq_eq_false_iff_ne]
  intro e
  unfold str at e
  rw [strOfNums_toList] at e
  unfold bytesOf at e
  rw [List.map_map] at e
  match l, hb, h, e with
  | [], _, _, e => simp at e
  | [c], hb, h, e =>
    have hc := hb c (by simp)
    simp at e
    have := congrArg UInt8.toNat e
    simp at this
    exact h (by congr 1; omega)
  | _ :: _ :: _, _, _, e => simp at e

def GivesB (w : World) (b : Bool) (e : Ending) (w' : World) : Prop := e = .returned (.bool b) ∧ Below w.heap.size w w'

set_option maxRecDepth 100000 in
set_option maxHeartbeats 4000000 in
theorem isnum_plain (dg : List Nat) (b : Bool) (w : World) (hb : Byt dg) (h45 : dg.getD 0 0 ≠ 45) (hl : dg.length ≤ 100000) (hbb : (Nat10 dg ∧ b = true) ∨ (¬Nat10 dg ∧ b = false)) :
    Calls Tryd.prog 76 #[.string (str dg)] w (GivesB w b) := by
  obtain ⟨X, hX⟩ : ∃ s, s = str dg := ⟨_, rfl⟩
  have hsz : X.size = dg.length := by rw [hX, str_size]
  have hget : ∀ (i : Nat) (hi : i < X.size), (X[i]'hi).toNat = dg.getD i 0 := by
    intro i hi
    subst hX
    exact str_get dg i hi (hb.getD i)
  have HXS := Lib.hid hsz
  have HGET := Lib.hid hget
  have HBY := Lib.hid hb
  have hszi : (X.size : Int) = (dg.length : Int) := by rw [hsz]
  rw [← hX]
  by_cases hp : 0 < dg.length
  · have hp0 : 0 < X.size := by rw [hsz]; exact hp
    have hln : ((dg.length : Int) == 0) = false := beq_eq_false_iff_ne.2 (by omega)
    have hdn : ¬dg = [] := by intro e; rw [e] at hp; simp at hp
    have h0 := hget 0 hp0
    obtain ⟨c0, hc0⟩ : ∃ c, dg.getD 0 0 = c := ⟨_, rfl⟩
    rw [hc0] at h0 h45
    have hcn : ¬(c0 : Int) = 45 := by omega
    by_cases h48 : c0 = 48
    · by_cases hone : dg = [48]
      · have hz : (X.toList == [48]) = true := by rw [hX, hone]; exact str_zero
        have HBD : Hid ((Dig dg ∧ b = true) ∨ (¬Dig dg ∧ b = false)) := Lib.hid (by
          have h1 : Nat10 dg := by rw [hone]; exact ⟨fun c hc => by simp at hc; omega, by simp, fun _ => rfl⟩
          rcases hbb with ⟨_, h⟩ | ⟨h, _⟩
          · exact .inl ⟨h1.dig, h⟩
          · exact absurd h1 h)
        subst h48
        clear hX hsz hget hb hone hbb h45
        go_enter Tryd.func76, Tryd.ntmps76
        go_wp2_with fail
        go_loopw [4] (fun ii wr => ∃ pos : Nat, pos ≤ dg.length ∧ ii = .int .i64 pos ∧ Hid (∀ i, i < pos → 48 ≤ dg.getD i 0 ∧ dg.getD i 0 ≤ 57) ∧ Below w.heap.size w wr) (fun ii _ => dg.length - (RowKit.intOf ii).toNat)
        case atStart => exact ⟨0, by omega, rfl, Lib.hid (fun i hi => by omega), Below.refl _ _⟩
        case round =>
          obtain ⟨pos, hp1, rfl, hall, hB⟩ := hrel
          by_cases hlt : pos < dg.length
          · have hps : pos < X.size := by rw [HXS.out]; exact hlt
            obtain ⟨c, hc⟩ : ∃ c, dg.getD pos 0 = c := ⟨_, rfl⟩
            have hch := HGET.out pos hps
            rw [hc] at hch
            by_cases hdg : 48 ≤ c ∧ c ≤ 57
            · obtain ⟨hc1, hc2⟩ := hdg
              have hall2 : Hid (∀ i, i < pos + 1 → 48 ≤ dg.getD i 0 ∧ dg.getD i 0 ≤ 57) := Lib.hid (fun i hi => by
                by_cases h : i < pos
                · exact hall.out i h
                · obtain rfl : i = pos := by omega
                  rw [hc]; exact ⟨hc1, hc2⟩)
              clear hc
              go_wp2_with fail
              go_roundw
              case rel => exact ⟨pos + 1, by omega, by go_num, hall2, hB⟩
              case measure => simp [RowKit.intOf]; omega
            · have HNB : Hid (b = false) := Lib.hid (by
                rcases HBD.out with ⟨h, _⟩ | ⟨_, h⟩
                · have := h.getD hlt; rw [hc] at this; omega
                · exact h)
              have hcb : c ≤ 255 := by have := HBY.out.getD pos; omega
              clear hc
              by_cases hr1 : c < 48
              · clear hdg
                go_wp2_with fail
                go_ret
                exact ⟨by rw [HNB.out]; rfl, hB⟩
              · have hr2 : 57 < c := by omega
                clear hdg
                go_wp2_with fail
                go_ret
                exact ⟨by rw [HNB.out]; rfl, hB⟩
          · obtain rfl : pos = dg.length := by omega
            have HNB : Hid (b = true) := Lib.hid (by
              rcases HBD.out with ⟨_, h⟩ | ⟨h, _⟩
              · exact h
              · exact absurd (dig_of hall.out) h)
            go_wp2_with fail
            go_ret
            exact ⟨by rw [HNB.out]; rfl, hB⟩
      · have hz : (X.toList == [48]) = false := by rw [hX]; exact not_zero hb hone
        have HNB : Hid (b = false) := Lib.hid (by
          rcases hbb with ⟨h, _⟩ | ⟨_, h⟩
          · exfalso
            have h1 := h.lead (by rw [hc0]; exact h48)
            apply hone
            cases dg with
            | nil => simp at hp
            | cons c cs =>
              simp at hc0 h1
              rw [h1, hc0, h48]
          · exact h)
        subst h48
        clear hX hsz hget hb hone hbb h45
        go_enter Tryd.func76, Tryd.ntmps76
        go_wp2_with fail
        go_ret
        exact ⟨by rw [HNB.out]; rfl, Below.refl _ _⟩
    · have HBD : Hid ((Dig dg ∧ b = true) ∨ (¬Dig dg ∧ b = false)) := Lib.hid (by
        rcases hbb with ⟨h1, h⟩ | ⟨h1, h⟩
        · exact .inl ⟨h1.dig, h⟩
        · exact .inr ⟨fun hd => h1 ⟨hd, hp, fun e => by rw [hc0] at e; exact absurd e h48⟩, h⟩)
      have h48i : ¬(c0 : Int) = 48 := by omega
      clear hX hsz hget hb hbb h45
      go_enter Tryd.func76, Tryd.ntmps76
      go_wp2_with fail
      go_loopw [4] (fun ii wr => ∃ pos : Nat, pos ≤ dg.length ∧ ii = .int .i64 pos ∧ Hid (∀ i, i < pos → 48 ≤ dg.getD i 0 ∧ dg.getD i 0 ≤ 57) ∧ Below w.heap.size w wr) (fun ii _ => dg.length - (RowKit.intOf ii).toNat)
      case atStart => exact ⟨0, by omega, rfl, Lib.hid (fun i hi => by omega), Below.refl _ _⟩
      case round =>
        obtain ⟨pos, hp1, rfl, hall, hB⟩ := hrel
        by_cases hlt : pos < dg.length
        · have hps : pos < X.size := by rw [HXS.out]; exact hlt
          obtain ⟨c, hc⟩ : ∃ c, dg.getD pos 0 = c := ⟨_, rfl⟩
          have hch := HGET.out pos hps
          rw [hc] at hch
          by_cases hdg : 48 ≤ c ∧ c ≤ 57
          · obtain ⟨hc1, hc2⟩ := hdg
            have hall2 : Hid (∀ i, i < pos + 1 → 48 ≤ dg.getD i 0 ∧ dg.getD i 0 ≤ 57) := Lib.hid (fun i hi => by
              by_cases h : i < pos
              · exact hall.out i h
              · obtain rfl : i = pos := by omega
                rw [hc]; exact ⟨hc1, hc2⟩)
            clear hc
            go_wp2_with fail
            go_roundw
            case rel => exact ⟨pos + 1, by omega, by go_num, hall2, hB⟩
            case measure => simp [RowKit.intOf]; omega
          · have HNB : Hid (b = false) := Lib.hid (by
              rcases HBD.out with ⟨h, _⟩ | ⟨_, h⟩
              · have := h.getD hlt; rw [hc] at this; omega
              · exact h)
            have hcb : c ≤ 255 := by have := HBY.out.getD pos; omega
            clear hc
            by_cases hr1 : c < 48
            · clear hdg
              go_wp2_with fail
              go_ret
              exact ⟨by rw [HNB.out]; rfl, hB⟩
            · have hr2 : 57 < c := by omega
              clear hdg
              go_wp2_with fail
              go_ret
              exact ⟨by rw [HNB.out]; rfl, hB⟩
        · obtain rfl : pos = dg.length := by omega
          have HNB : Hid (b = true) := Lib.hid (by
            rcases HBD.out with ⟨_, h⟩ | ⟨h, _⟩
            · exact h
            · exact absurd (dig_of hall.out) h)
          go_wp2_with fail
          go_ret
          exact ⟨by rw [HNB.out]; rfl, hB⟩
  · have hl0 : dg.length = 0 := by omega
    have hszz : (X.size : Int) = 0 := by rw [hsz, hl0]; rfl
    have HNB : Hid (b = false) := Lib.hid (by
      rcases hbb with ⟨h, _⟩ | ⟨_, h⟩
      · have := h.pos; omega
      · exact h)
    clear hX hsz hget hb hbb h45 hszi
    go_enter Tryd.func76, Tryd.ntmps76
    go_wp2_with fail
    go_ret
    exact ⟨by rw [HNB.out]; rfl, Below.refl _ _⟩

set_option maxRecDepth 100000 in
set_option maxHeartbeats 4000000 in
theorem isnum_minus (dg : List Nat) (b : Bool) (w : World) (hb : Byt dg) (hl : dg.length ≤ 100000) (hbb : (Nat10 dg ∧ dg ≠ [48] ∧ b = true) ∨ ((¬Nat10 dg ∨ dg = [48]) ∧ b = false)) :
    Calls Tryd.prog 76 #[.string (str (45 :: dg))] w (GivesB w b) := by
  obtain ⟨s, hs⟩ : ∃ s, s = str (45 :: dg) := ⟨_, rfl⟩
  obtain ⟨X, hX⟩ : ∃ s, s = str dg := ⟨_, rfl⟩
  have hsz : X.size = dg.length := by rw [hX, str_size]
  have hssz : s.size = dg.length + 1 := by rw [hs, str_size]; rfl
  have hget : ∀ (i : Nat) (hi : i < X.size), (X[i]'hi).toNat = dg.getD i 0 := by
    intro i hi
    subst hX
    exact str_get dg i hi (hb.getD i)
  have hs0 : 0 < s.size := by omega
  have hs1 : 1 ≤ s.size := by omega
  have hc45 : (s[0]'hs0).toNat = 45 := by
    subst hs
    exact str_get (45 :: dg) 0 hs0 (by simp)
  have hext : s.extract 1 s.size = X := by rw [hs, hX]; exact str_tail 45 dg
  have hz : (s.toList == [48]) = false := by
    rw [hs]
    refine not_zero ?_ (by simp)
    intro c hc
    rcases List.mem_cons.1 hc with rfl | hc
    · omega
    · exact hb c hc
  have HXS := Lib.hid hsz
  have HGET := Lib.hid hget
  have HBY := Lib.hid hb
  have hszi : (X.size : Int) = (dg.length : Int) := by rw [hsz]
  have hsszi : (s.size : Int) = (dg.length : Int) + 1 := by rw [hssz]; rfl
  rw [← hs]
  by_cases hp : 0 < dg.length
  · have hp0 : 0 < X.size := by rw [hsz]; exact hp
    have hln : ((dg.length : Int) == 0) = false := beq_eq_false_iff_ne.2 (by omega)
    have hdn : ¬dg = [] := by intro e; rw [e] at hp; simp at hp
    have h0 := hget 0 hp0
    obtain ⟨c0, hc0⟩ : ∃ c, dg.getD 0 0 = c := ⟨_, rfl⟩
    rw [hc0] at h0
    by_cases h48 : c0 = 48
    · have HNB : Hid (b = false) := Lib.hid (by
        rcases hbb with ⟨h, h2, _⟩ | ⟨_, h⟩
        · exfalso
          have h1 := h.lead (by rw [hc0]; exact h48)
          apply h2
          cases dg with
          | nil => simp at hp
          | cons c cs =>
            simp at hc0 h1
            rw [h1, hc0, h48]
        · exact h)
      subst h48
      clear hX hs hsz hget hb hbb hssz
      go_enter Tryd.func76, Tryd.ntmps76
      go_wp2_with fail
      go_ret
      exact ⟨by rw [HNB.out]; rfl, Below.refl _ _⟩
    · have HBD : Hid ((Dig dg ∧ b = true) ∨ (¬Dig dg ∧ b = false)) := Lib.hid (by
        rcases hbb with ⟨h1, _, h⟩ | ⟨h1, h⟩
        · exact .inl ⟨h1.dig, h⟩
        · refine .inr ⟨fun hd => ?_, h⟩
          rcases h1 with h1 | h1
          · exact h1 ⟨hd, hp, fun e => by rw [hc0] at e; exact absurd e h48⟩
          · rw [h1] at hc0; simp at hc0; omega)
      have h48i : ¬(c0 : Int) = 48 := by omega
      clear hX hs hsz hget hb hbb hssz
      go_enter Tryd.func76, Tryd.ntmps76
      go_wp2_with fail
      go_loopw [4] (fun ii wr => ∃ pos : Nat, pos ≤ dg.length ∧ ii = .int .i64 pos ∧ Hid (∀ i, i < pos → 48 ≤ dg.getD i 0 ∧ dg.getD i 0 ≤ 57) ∧ Below w.heap.size w wr) (fun ii _ => dg.length - (RowKit.intOf ii).toNat)
      case atStart => exact ⟨0, by omega, rfl, Lib.hid (fun i hi => by omega), Below.refl _ _⟩
      case round =>
        obtain ⟨pos, hp1, rfl, hall, hB⟩ := hrel
        by_cases hlt : pos < dg.length
        · have hps : pos < X.size := by rw [HXS.out]; exact hlt
          obtain ⟨c, hc⟩ : ∃ c, dg.getD pos 0 = c := ⟨_, rfl⟩
          have hch := HGET.out pos hps
          rw [hc] at hch
          by_cases hdg : 48 ≤ c ∧ c ≤ 57
          · obtain ⟨hc1, hc2⟩ := hdg
            have hall2 : Hid (∀ i, i < pos + 1 → 48 ≤ dg.getD i 0 ∧ dg.getD i 0 ≤ 57) := Lib.hid (fun i hi => by
              by_cases h : i < pos
              · exact hall.out i h
              · obtain rfl : i = pos := by omega
                rw [hc]; exact ⟨hc1, hc2⟩)
            clear hc
            go_wp2_with fail
            go_roundw
            case rel => exact ⟨pos + 1, by omega, by go_num, hall2, hB⟩
            case measure => simp [RowKit.intOf]; omega
          · have HNB : Hid (b = false) := Lib.hid (by
              rcases HBD.out with ⟨h, _⟩ | ⟨_, h⟩
              · have := h.getD hlt; rw [hc] at this; omega
              · exact h)
            have hcb : c ≤ 255 := by have := HBY.out.getD pos; omega
            clear hc
            by_cases hr1 : c < 48
            · clear hdg
              go_wp2_with fail
              go_ret
              exact ⟨by rw [HNB.out]; rfl, hB⟩
            · have hr2 : 57 < c := by omega
              clear hdg
              go_wp2_with fail
              go_ret
              exact ⟨by rw [HNB.out]; rfl, hB⟩
        · obtain rfl : pos = dg.length := by omega
          have HNB : Hid (b = true) := Lib.hid (by
            rcases HBD.out with ⟨_, h⟩ | ⟨h, _⟩
            · exact h
            · exact absurd (dig_of hall.out) h)
          go_wp2_with fail
          go_ret
          exact ⟨by rw [HNB.out]; rfl, hB⟩
  · have hl0 : dg.length = 0 := by omega
    have hszz : (X.size : Int) = 0 := by rw [hsz, hl0]; rfl
    have HNB : Hid (b = false) := Lib.hid (by
      rcases hbb with ⟨h, _⟩ | ⟨_, h⟩
      · have := h.pos; omega
      · exact h)
    clear hX hs hsz hget hb hbb hszi hssz
    go_enter Tryd.func76, Tryd.ntmps76
    go_wp2_with fail
    go_ret
    exact ⟨by rw [HNB.out]; rfl, Below.refl _ _⟩

set_option maxRecDepth 100000 in
theorem long_false (l : List Nat) (w : World) (hl : l.length ≤ 2000) :
    Calls Tryd.prog 77 #[.string (str l)] w (GivesB w false) := by
  obtain ⟨X, hX⟩ : ∃ s, s = str l := ⟨_, rfl⟩
  have hszi : (X.size : Int) = (l.length : Int) := by rw [hX, str_size]
  rw [← hX]
  have d1 : decide ((2000 : Int) < (l.length : Int)) = false := decide_eq_false (by omega)
  clear hX
  go_enter Tryd.func77, Tryd.ntmps77
  go_wp2_with fail
  go_ret
  exact ⟨rfl, Below.refl _ _⟩
end Go.Proofs.YtllogjmepflnoaaDoor
