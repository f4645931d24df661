/-
  The reference's canonical sign.
-/
import Derived.Test.YtdpgkegfkobdoaaYS
import Derived.Test.YtdpgkegfkobdoaaYK
import Derived.Test.YtdpgkegfkobdoaaYY
namespace Go.Proofs.Ytdpgkegfkobdoaa
open Go.RowKit Go.Shelf

set_option maxRecDepth 100000 in
set_option maxHeartbeats 1000000 in
theorem rinside_any (a : Option Addr) (n cap : Nat) (xs : List Int) (w : World) (hr : RdI w a cap xs) (hl : xs.length = n) (hn : n ≤ 100000000000000) :
    Calls Try.prog 23 #[.slice a n cap] w fun e w' => e = .returned (.bool (decide (InR xs))) ∧ w = w' := by
  have hc := hr.cells
  have hg := hr.get
  have HL := Lib.hid hl
  have HC := Lib.hid hc
  have HG := Lib.hid hg
  clear hr hl hc hg
  go_enter Try.func23, Try.ntmps23
  go_wp2
  go_loop [7] (fun ii => ∃ i : Nat, i ≤ n ∧ ii = .int .i64 (i : Int) ∧ Hid (∀ c, c < i → -1099511627776 ≤ xs.getD c 0 ∧ xs.getD c 0 ≤ 1099511627776)) (fun ii => n - (intOf ii).toNat)
  case atStart => exact ⟨0, by omega, rfl, fun c hc => by omega⟩
  case round =>
    obtain ⟨i, hin, rfl, hall⟩ := hrel
    by_cases hi : i < n
    · obtain ⟨b, o, rfl, hcell⟩ := HC.out i (by rw [HL.out]; exact hi)
      obtain ⟨x, hx⟩ : ∃ x, x = xs.getD i 0 := ⟨_, rfl⟩
      rw [← hx] at hcell
      have hno : ¬(-1099511627776 ≤ x ∧ x ≤ 1099511627776) → decide (InR xs) = false := fun h => decide_eq_false fun h2 => h (by rw [hx]; exact h2 i (by rw [HL.out]; exact hi))
      have HNO := Lib.hid hno
      have HX := Lib.hid hx
      clear hno hx
      by_cases h1 : x < -1099511627776
      · have d1 : decide (x < -1099511627776) = true := decide_eq_true h1
        have HE : Hid (decide (InR xs) = false) := HNO.out (by omega)
        clear h1
        go_wp2
        go_ret
        exact ⟨by rw [HE.out]; rfl, rfl⟩
      · have d1 : decide (x < -1099511627776) = false := decide_eq_false h1
        by_cases h2 : 1099511627776 < x
        · have d2 : decide (1099511627776 < x) = true := decide_eq_true h2
          have HE : Hid (decide (InR xs) = false) := HNO.out (by omega)
          clear h1 h2
          go_wp2
          go_ret
          exact ⟨by rw [HE.out]; rfl, rfl⟩
        · have d2 : decide (1099511627776 < x) = false := decide_eq_false h2
          have hnx : Hid (∀ c, c < i + 1 → -1099511627776 ≤ xs.getD c 0 ∧ xs.getD c 0 ≤ 1099511627776) := fun c hc => by
            by_cases e : c = i
            · rw [e, ← HX.out]; omega
            · exact hall.out c (by omega)
          clear h1 h2
          go_wp2
          go_round
          case rel => exact ⟨i + 1, by omega, by go_num, hnx⟩
          case measure => simp [intOf]; omega
    · obtain rfl : i = n := by omega
      have HE : Hid (decide (InR xs) = true) := decide_eq_true fun c hc => hall.out c (by rw [← HL.out]; exact hc)
      go_wp2
      go_ret
      exact ⟨by rw [HE.out]; rfl, rfl⟩

theorem sgnL_app (a : List Int) (x : Int) : sgnL (a ++ [x]) = if sgnL a = 0 then (if x = 0 then 0 else if x < 0 then -1 else 1) else sgnL a := by
  induction a with
  | nil => simp [sgnL]
  | cons y r ih =>
    show (if y = 0 then sgnL (r ++ [x]) else if y < 0 then -1 else 1) = if (if y = 0 then sgnL r else if y < 0 then -1 else 1) = 0 then _ else (if y = 0 then sgnL r else if y < 0 then -1 else 1)
    by_cases h : y = 0
    · rw [if_pos h, if_pos h, ih]
    · rw [if_neg h, if_neg h]
      by_cases h2 : y < 0
      · rw [if_pos h2, if_neg (by decide)]
      · rw [if_neg h2, if_neg (by decide)]
theorem take_succ_getD (xs : List Int) (i : Nat) (h : i < xs.length) : xs.take (i + 1) = xs.take i ++ [xs.getD i 0] := by
  rw [List.take_succ_eq_append_getElem h]
  simp [List.getD_eq_getElem?_getD, List.getElem?_eq_getElem h]
theorem sgnL_cases (xs : List Int) : sgnL xs = 0 ∨ sgnL xs = 1 ∨ sgnL xs = -1 := by
  induction xs with
  | nil => exact .inl rfl
  | cons y r ih =>
    show (if y = 0 then sgnL r else if y < 0 then -1 else 1) = 0 ∨ _
    by_cases h : y = 0
    · have e : sgnL (y :: r) = sgnL r := if_pos h
      rw [if_pos h, e]; exact ih
    · have e : sgnL (y :: r) = if y < 0 then -1 else 1 := if_neg h
      rw [if_neg h, e]
      by_cases h2 : y < 0
      · rw [if_pos h2]; exact .inr (.inr rfl)
      · rw [if_neg h2]; exact .inr (.inl rfl)

def mulL (s : Int) (xs : List Int) : List Int := xs.map fun x => s * x
theorem mulL_succ (s : Int) (xs : List Int) (j : Nat) (h : j < xs.length) : mulL s (xs.take (j + 1)) = mulL s (xs.take j) ++ [s * xs.getD j 0] := by
  rw [take_succ_getD xs j h]; simp [mulL]
theorem canonL_mul (xs : List Int) (h : sgnL xs = 1 ∨ sgnL xs = -1) : mulL (sgnL xs) xs = canonL xs := by
  unfold mulL canonL
  rcases h with h | h
  · rw [h, if_neg (by decide)]; simp
  · rw [h, if_pos (by decide)]
    exact List.map_congr_left fun x _ => by omega

theorem canonL_lim {xs : List Int} (h : InR xs) : ∀ y ∈ canonL xs, I64 y := by
  have hx : ∀ y ∈ xs, -1099511627776 ≤ y ∧ y ≤ 1099511627776 := fun y hy => by
    obtain ⟨i, hi, rfl⟩ := List.getElem_of_mem hy
    have := h i hi
    simpa [List.getD_eq_getElem?_getD, List.getElem?_eq_getElem hi] using this
  intro y hy
  unfold canonL at hy
  unfold I64
  split at hy
  · obtain ⟨x, hx', rfl⟩ := List.mem_map.1 hy
    have := hx x hx'
    omega
  · have := hx y hy
    omega

/-- What the reference gives. -/
def GivesRSign (w : World) (xs : List Int) (e : Ending) (w' : World) : Prop :=
  ((sgnL xs ≠ 0 ∧ InR xs ∧ ∃ a c, e = .returned (.tuple #[.slice a xs.length c, .bool true]) ∧ RdI w' a c (canonL xs)) ∨ (¬(sgnL xs ≠ 0 ∧ InR xs) ∧ e = .returned (.tuple #[.slice none 0 0, .bool false]))) ∧ Below w.heap.size w w'
theorem givesRSign_no {w w' : World} {xs : List Int} (h : ¬(sgnL xs ≠ 0 ∧ InR xs)) (hb : Below w.heap.size w w') : GivesRSign w xs (.returned (.tuple #[.slice none 0 0, .bool false])) w' := ⟨.inr ⟨h, rfl⟩, hb⟩

set_option maxRecDepth 100000 in
set_option maxHeartbeats 4000000 in
theorem rsign_any (a : Option Addr) (n cap : Nat) (xs : List Int) (w : World) (hr : RdI w a cap xs) (hl : xs.length = n) (hn : n ≤ 17592186044416) :
    Calls Try.prog 11 #[.slice a n cap] w (GivesRSign w xs) := by
  have HR := Lib.hid hr
  have HL := Lib.hid hl
  clear hr hl
  go_enter Try.func11, Try.ntmps11
  go_wp2_with fail
  refine (rinside_any a n cap xs _ HR.out HL.out (by omega)).mono ?_
  rintro e w1 ⟨rfl, rfl⟩
  by_cases hin : InR xs
  · have hD : Hid (decide (InR xs) = true) := decide_eq_true hin
    rw [hD.out]
    have HIN := Lib.hid hin
    clear hin
    go_wp2_with fail
    go_loop [4, 15] (fun ss ii => ∃ (i : Nat) (s : Int), i ≤ n ∧ ii = .int .i64 (i : Int) ∧ ss = .int .i64 s ∧ Hid (s = sgnL (xs.take i))) (fun _ ii => n - (intOf ii).toNat)
    case atStart => exact ⟨0, 0, by omega, rfl, rfl, rfl⟩
    case round =>
      obtain ⟨i, s, hin, rfl, rfl, hs⟩ := hrel
      by_cases hi : i < n
      · obtain ⟨b, o, rfl, hcell⟩ := HR.out.cells i (by rw [HL.out]; exact hi)
        have hnx := sgnL_app (xs.take i) (xs.getD i 0)
        rw [← take_succ_getD xs i (by rw [HL.out]; exact hi), ← hs.out] at hnx
        obtain ⟨x, hx⟩ : ∃ x, x = xs.getD i 0 := ⟨_, rfl⟩
        rw [← hx] at hcell hnx
        have HNX := Lib.hid hnx
        have hsc := sgnL_cases (xs.take i)
        rw [← hs.out] at hsc
        have hi64 : (i : Int) < (n : Int) := by omega
        clear hnx hx hs
        rcases hsc with rfl | rfl | rfl
        · by_cases h0 : x = 0
          · subst h0
            have hE : Hid (0 = sgnL (xs.take (i + 1))) := by rw [HNX.out]; rfl
            go_wp2
            go_round
            case rel => exact ⟨i + 1, 0, by omega, by go_num, rfl, hE⟩
            case measure => simp [intOf]; omega
          · have d0 : (x != 0) = true := by simpa using h0
            by_cases hneg : x < 0
            · have d1 : decide (x < 0) = true := decide_eq_true hneg
              have hE : Hid (-1 = sgnL (xs.take (i + 1))) := by unfold Hid; rw [HNX.out, if_pos rfl, if_neg h0, if_pos hneg]
              clear h0 hneg
              go_wp2
              go_round
              case rel => exact ⟨i + 1, -1, by omega, by go_num, rfl, hE⟩
              case measure => simp [intOf]; omega
            · have d1 : decide (x < 0) = false := decide_eq_false hneg
              have hE : Hid (1 = sgnL (xs.take (i + 1))) := by unfold Hid; rw [HNX.out, if_pos rfl, if_neg h0, if_neg hneg]
              clear h0 hneg
              go_wp2
              go_round
              case rel => exact ⟨i + 1, 1, by omega, by go_num, rfl, hE⟩
              case measure => simp [intOf]; omega
        · have hE : Hid (1 = sgnL (xs.take (i + 1))) := by unfold Hid; rw [HNX.out, if_neg (by decide)]
          go_wp2
          go_round
          case rel => exact ⟨i + 1, 1, by omega, by go_num, rfl, hE⟩
          case measure => simp [intOf]; omega
        · have hE : Hid (-1 = sgnL (xs.take (i + 1))) := by unfold Hid; rw [HNX.out, if_neg (by decide)]
          go_wp2
          go_round
          case rel => exact ⟨i + 1, -1, by omega, by go_num, rfl, hE⟩
          case measure => simp [intOf]; omega
      · obtain rfl : i = n := by omega
        have hs' : Hid (s = sgnL xs) := by
          unfold Hid; rw [hs.out, ← HL.out, List.take_length]
        have hsc := sgnL_cases xs
        rw [← hs'.out] at hsc
        rcases hsc with rfl | hsc
        · have hno : Hid (¬(sgnL xs ≠ 0 ∧ InR xs)) := fun h => h.1 hs'.out.symm
          go_wp2_with fail
          go_ret2
          exact givesRSign_no hno.out (Below.refl _ _)
        · have d0 : (s == 0) = false := by rcases hsc with rfl | rfl <;> rfl
          have HSC := Lib.hid hsc
          clear hsc hs
          go_wp2_with fail
          go_loopw [7, 32] (fun vv ii wr => ∃ (v : Value) (j : Nat), j ≤ i ∧ v = vv ∧ ii = .int .i64 (j : Int) ∧ Hid (wr.ownsRow w.heap.size 2 1 v j (i64s (mulL s (xs.take j)))) ∧ Hid (Below w.heap.size w wr)) (fun _ ii _ => i - (intOf ii).toNat)
          case atStart => exact ⟨_, 0, by omega, rfl, rfl, ⟨rfl, .inl ⟨rfl, rfl⟩⟩, Below.refl _ _⟩
          case round =>
            obtain ⟨v, j, hjn, rfl, rfl, hO, hB⟩ := hrel
            by_cases hj : j < i
            · obtain ⟨b, o, e1, hcell⟩ := (HR.out.below hB.out).cells j (by rw [HL.out]; exact hj)
              subst e1
              have hlim := HIN.out j (by rw [HL.out]; exact hj)
              have hnx := mulL_succ s xs j (by rw [HL.out]; exact hj)
              obtain ⟨x, hx⟩ : ∃ x, x = xs.getD j 0 := ⟨_, rfl⟩
              rw [← hx] at hcell hlim hnx
              have hsx : -1099511627776 ≤ s * x ∧ s * x ≤ 1099511627776 := by rcases HSC.out with rfl | rfl <;> omega
              have wsx : IntKind.i64.wrap (s * x) = s * x := by rw [IntKind.wrap_i64]; omega
              have hj64 : (j : Int) < (i : Int) := by omega
              obtain ⟨X, hX⟩ : ∃ X, X = wr.alloc (.cells #[.int .i64 (s * x)] 2) := ⟨_, rfl⟩
              have hbX : Below wr.heap.size wr X := by rw [hX]; exact (Below.refl _ _).alloc (Nat.le_refl _) _
              have HXE : Hid (wr.alloc (.cells #[.int .i64 (s * x)] 2) = X) := hX.symm
              have HXR : Hid (RdI X (some ⟨wr.heap.size, 0, none⟩) 1 [s * x]) := by rw [hX]; exact rd_made wr [s * x] (by intro y hy; simp only [List.mem_singleton] at hy; subst hy; unfold I64; omega)
              have HXO : Hid (X.ownsRow w.heap.size 2 1 v j (i64s (mulL s (xs.take j)))) := by rw [hX]; exact hO.out.alloc _
              have HXB : Hid (Below w.heap.size w X) := hB.out.trans (hbX.mono hB.out.size)
              have HNX := Lib.hid hnx
              clear hX hbX hnx hx hsx hO hB hlim
              go_wp2_with (at_builtin; refine wpList_append_i64 rfl _ _ rfl w.heap.size _ j (mulL s (xs.take j)) rfl (HXE.out.symm ▸ HXO.out) _ 1 1 [s * x] rfl (HXE.out.symm ▸ HXR.out) rfl (fun h => by cases h) (by omega) (by rw [HXE.out]; exact HXB.out.size) ?_)
              intro v' w3 hown hgrow
              rw [HXE.out] at hgrow
              rw [← HNX.out] at hown
              have HO3 := Lib.hid hown
              have HB3 : Hid (Below w.heap.size w w3) := HXB.out.grown hgrow HXB.out.size (fun k hk => (HXO.out.lt k hk).1)
              clear hown hgrow
              go_wp2_with fail
              go_roundw
              case rel => exact ⟨v', j + 1, by omega, rfl, by go_num, HO3, HB3⟩
              case measure => simp [intOf]; omega
            · obtain rfl : j = i := by omega
              have hend : mulL s (xs.take j) = canonL xs := by
                rw [← HL.out, List.take_length, hs'.out]
                exact canonL_mul xs (hs'.out ▸ HSC.out)
              obtain ⟨av, cv, rfl, hrv, -, hlv⟩ := rd_ownsRow hO.out (by rw [hend]; exact fun y hy => canonL_lim HIN.out y hy)
              rw [hend] at hrv
              have HRV := Lib.hid hrv
              clear hrv hlv hend hO
              go_wp2_with fail
              go_ret2
              exact ⟨.inl ⟨by have h := HSC.out; rw [← hs'.out]; omega, HIN.out, av, cv, by rw [HL.out]; rfl, HRV.out⟩, hB.out⟩
  · have hD : Hid (decide (InR xs) = false) := decide_eq_false hin
    rw [hD.out]
    have HIN := Lib.hid hin
    clear hin
    go_wp2_with fail
    go_ret2
    exact givesRSign_no (fun h => HIN.out h.2) (Below.refl _ _)
end Go.Proofs.Ytdpgkegfkobdoaa
