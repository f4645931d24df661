/-
  The contract of read.
-/
import Derived.Test.YtdpgkegfkobdoaaYC
namespace Go.Proofs.Ytdpgkegfkobdoaa
open Go.RowKit

/-- The rows are those of a symmetric matrix with 1 to 8 rows and entries below the limit. -/
def ReadOk (hs : List (List Int)) : Prop :=
  (1 ≤ hs.length ∧ hs.length ≤ 8) ∧ (∀ i, i < hs.length → (hs.getD i []).length = hs.length) ∧ ∀ i j, j ≤ i → i < hs.length → ent hs i j = ent hs j i ∧ Small (ent hs i j)

structure RdUpto (hs : List (List Int)) (i0 j0 : Nat) (G : Nat → Int) : Prop where
  done : ∀ i j, j ≤ i → i < hs.length → (i < i0 ∨ (i = i0 ∧ j < j0)) → (ent hs i j = ent hs j i ∧ Small (ent hs i j)) ∧ G (1 + i * 8 + j) = ent hs i j
  size : G 0 = (hs.length : Int)

def GivesRead (w : World) (b : Nat) (hs : List (List Int)) (e : Ending) (w' : World) : Prop :=
  (ReadOk hs ∧ e = .returned (.bool true) ∧ ∃ G, RdUpto hs hs.length 0 G ∧ Stg w' b G ∧ w.grownBy w' (some b)) ∨ (¬ReadOk hs ∧ e = .returned (.bool false) ∧ w.grownBy w' (some b))

theorem RdUpto.row {hs : List (List Int)} {i0 : Nat} {G : Nat → Int} (h : RdUpto hs i0 (i0 + 1) G) : RdUpto hs (i0 + 1) 0 G :=
  ⟨fun i j h1 h2 h3 => h.done i j h1 h2 (by omega), h.size⟩

theorem RdUpto.one {hs : List (List Int)} {i0 j0 : Nat} {G : Nat → Int} (h : RdUpto hs i0 j0 G) (hj : j0 ≤ i0) (hi : i0 < hs.length) (hn : hs.length ≤ 8) (he : ent hs i0 j0 = ent hs j0 i0) (hs' : Small (ent hs i0 j0)) :
    RdUpto hs i0 (j0 + 1) (fun c => if c = 1 + i0 * 8 + j0 then ent hs i0 j0 else G c) := by
  refine ⟨fun i j h1 h2 h3 => ?_, ?_⟩
  · by_cases e : i = i0 ∧ j = j0
    · obtain ⟨rfl, rfl⟩ := e
      exact ⟨⟨he, hs'⟩, if_pos rfl⟩
    · have hne : 1 + i * 8 + j ≠ 1 + i0 * 8 + j0 := by omega
      show _ ∧ (if _ then _ else _) = _
      rw [if_neg hne]
      exact h.done i j h1 h2 (by omega)
  · show (if _ then _ else _) = _
    rw [if_neg (by omega)]
    exact h.size

set_option maxRecDepth 100000 in
set_option maxHeartbeats 2000000 in
theorem read_any (b : Nat) (F : Nat → Int) (a : Option Addr) (n cap : Nat) (hs : List (List Int)) (w w0 : World) (hS : Stg w b F) (h0 : F 0 = (n : Int)) (hl : hs.length = n) (hn : n ≤ 100000000000000)
    (hr : RdM w0 a cap hs) (hB : ∀ wr, w.grownBy wr (some b) → Below w0.heap.size w0 wr) :
    Calls Try.prog 33 #[.pointer (some ⟨b, 0, none⟩), .slice a n cap] w (GivesRead w b hs) := by
  have hsz := hS.size
  rw [h0] at hsz
  have H0 := Lib.hid h0
  have HS := Lib.hid hS
  have HB := Lib.hid hB
  have HL := Lib.hid hl
  clear h0 hS hB hl
  by_cases h1 : n < 1
  · obtain rfl : n = 0 := by omega
    have hno : Hid (¬ReadOk hs) := fun h => by have := h.1.1; rw [HL.out] at this; omega
    go_enter Try.func33, Try.ntmps33
    go_wp2_with fail
    go_ret
    exact .inr ⟨hno.out, rfl, grownBy_refl _ _⟩
  · by_cases h8 : 8 < n
    · have hno : Hid (¬ReadOk hs) := fun h => by have := h.1.2; rw [HL.out] at this; omega
      have d1 : decide ((n : Int) < 1) = false := decide_eq_false (by omega)
      have d2 : decide ((8 : Int) < (n : Int)) = true := decide_eq_true (by omega)
      go_enter Try.func33, Try.ntmps33
      go_wp2_with fail
      go_ret
      exact .inr ⟨hno.out, rfl, grownBy_refl _ _⟩
    · have d1 : decide ((n : Int) < 1) = false := decide_eq_false (by omega)
      have d2 : decide ((8 : Int) < (n : Int)) = false := decide_eq_false (by omega)
      obtain ⟨hb, ho, A, C, rfl, hfix⟩ := hr.fix (by rw [HL.out]; omega)
      have HF := Lib.hid hfix
      clear hr hfix
      go_enter Try.func33, Try.ntmps33
      go_wp2_with fail
      clear d1 d2
      go_loop [25] (fun ii => ∃ i : Nat, i ≤ n ∧ ii = .int .i64 (i : Int) ∧ Hid (∀ c, c < i → (hs.getD c []).length = n)) (fun ii => n - (intOf ii).toNat)
      case atStart => exact ⟨0, by omega, rfl, fun c hc => by omega⟩
      case round =>
        obtain ⟨i, hin, rfl, hlen⟩ := hrel
        by_cases hi : i < n
        · obtain ⟨hc, hri, hli⟩ := HF.out w (HB.out w (grownBy_refl _ _)) i (by rw [HL.out]; exact hi)
          obtain ⟨m, hm⟩ : ∃ m, m = (hs.getD i []).length := ⟨_, rfl⟩
          rw [← hm] at hc hli
          by_cases he : m = n
          · have hnx : Hid (∀ c, c < i + 1 → (hs.getD c []).length = n) := fun c hc => by
              by_cases e : c = i
              · rw [e, ← hm, he]
              · exact hlen.out c (by omega)
            subst he
            clear hm hri hlen
            go_wp2_with fail
            go_round
            case rel => exact ⟨i + 1, by omega, by go_num, hnx⟩
            case measure => simp [intOf]; omega
          · have hne : (((m : Nat) : Int) == (n : Int)) = false := by simp; omega
            have hno : Hid (¬ReadOk hs) := fun h => he (by have := h.2.1 i (by rw [HL.out]; exact hi); rw [hm, this, HL.out])
            clear hm hri hlen he
            go_wp2_with fail
            go_ret
            exact .inr ⟨hno.out, rfl, grownBy_refl _ _⟩
        · obtain rfl : i = n := by omega
          have hsq : Hid (∀ c, c < hs.length → (hs.getD c []).length = i) := fun c hc => hlen.out c (by rw [← HL.out]; exact hc)
          have hst : Hid (RdUpto hs 0 0 F) := ⟨fun i j h1 h2 h3 => by omega, by rw [H0.out, HL.out]⟩
          clear hlen hi
          go_wp2_with fail
          go_loopw [39] (fun ii wr => ∃ (k : Nat) (G : Nat → Int), k ≤ i ∧ ii = .int .i64 (k : Int) ∧ Hid (RdUpto hs k 0 G) ∧ Hid (Stg wr b G) ∧ w.grownBy wr (some b)) (fun ii _ => i - (intOf ii).toNat)
          case atStart => exact ⟨0, F, by omega, rfl, hst, HS, grownBy_refl _ _⟩
          case round =>
            obtain ⟨k, G, hki, rfl, hU, hG, hgr⟩ := hrel
            by_cases hk : k < i
            · obtain ⟨hc, hrk, hlk⟩ := HF.out _ (HB.out _ hgr) k (by rw [HL.out]; exact hk)
              have hlen := hsq.out k (by rw [HL.out]; exact hk)
              obtain ⟨hb2, ho2, hA, _⟩ := hrk.cells 0 (by rw [hlen]; omega)
              have hfit := hrk.fits
              rw [hlen] at hc hfit
              rw [hA] at hc
              obtain ⟨ck, hck⟩ : ∃ c, c = C k := ⟨_, rfl⟩
              rw [← hck] at hc hfit
              have HA := Lib.hid hA
              have HC := Lib.hid hck
              clear hrk hlen hlk hA hck
              go_wp2_with fail
              go_loopw [49] (fun jj wq => ∃ (j : Nat) (G2 : Nat → Int), j ≤ k + 1 ∧ jj = .int .i64 (j : Int) ∧ Hid (RdUpto hs k j G2) ∧ Hid (Stg wq b G2) ∧ w.grownBy wq (some b)) (fun jj _ => k + 1 - (intOf jj).toNat)
              case atStart => exact ⟨0, G, by omega, rfl, hU, hG, hgr⟩
              case round =>
                obtain ⟨j, G2, hjk, rfl, hU2, hG2, hgr2⟩ := hrel
                clear hU hG hc hfit
                by_cases hj : j ≤ k
                · obtain ⟨hc, hrk, hlk⟩ := HF.out _ (HB.out _ hgr2) k (by rw [HL.out]; exact hk)
                  obtain ⟨hcj, hrj, hlj⟩ := HF.out _ (HB.out _ hgr2) j (by rw [HL.out]; omega)
                  have hlenk := hsq.out k (by rw [HL.out]; exact hk)
                  have hlenj := hsq.out j (by rw [HL.out]; omega)
                  obtain ⟨b1, o1, e1, hx1⟩ := hrk.cells j (by rw [hlenk]; omega)
                  rw [HA.out] at e1
                  simp only [Option.some.injEq, Addr.mk.injEq, and_true] at e1
                  obtain ⟨rfl, rfl⟩ := e1
                  obtain ⟨b3, o3, e3, hx3⟩ := hrj.cells k (by rw [hlenj]; omega)
                  rw [hlenj, e3] at hcj
                  have hfree := hG2.out.free (1 + k * 8 + j)
                  have hcell := hG2.out.cell k j (by omega) (by omega)
                  obtain ⟨x, hx⟩ : ∃ x, x = ent hs k j := ⟨_, rfl⟩
                  obtain ⟨y, hy⟩ : ∃ y, y = ent hs j k := ⟨_, rfl⟩
                  have hx' : x = (hs.getD k []).getD j 0 := hx
                  have hy' : y = (hs.getD j []).getD k 0 := hy
                  rw [← hx'] at hx1
                  rw [← hy'] at hx3
                  have HX := Lib.hid hx
                  have HY := Lib.hid hy
                  clear hx hy hx' hy' hrk hrj hlk hlj hlenk hlenj hc e3
                  by_cases hxy : x = y
                  · subst hxy
                    by_cases hsm : Small x
                    · have hdc : decide (Small x) = true := decide_eq_true hsm
                      have hnx : Hid (RdUpto hs k (j + 1) (fun c => if c = 1 + k * 8 + j then x else G2 c)) := by
                        have h := hU2.out.one hj (by rw [HL.out]; exact hk) (by rw [HL.out]; omega) (by rw [← HX.out, ← HY.out]) (by rw [← HX.out]; exact hsm)
                        rw [← HX.out] at h
                        exact h
                      have HD := Lib.hid hdc
                      clear hdc hsm
                      go_wp2_with fail
                      refine (belowLimit_any x _).mono ?_
                      rintro e w1 ⟨rfl, rfl⟩
                      rw [HD.out]
                      go_wp2_with fail
                      go_roundw
                      case rel => exact ⟨j + 1, _, by omega, by go_num, hnx, hG2.out.set (1 + k * 8 + j) x, grownBy_setCell hgr2 _ _⟩
                      case measure => simp [intOf]; omega
                    · have hdc : decide (Small x) = false := decide_eq_false hsm
                      have hno : Hid (¬ReadOk hs) := fun h => hsm (by rw [HX.out]; exact (h.2.2 k j hj (by rw [HL.out]; exact hk)).2)
                      have HD := Lib.hid hdc
                      clear hdc hsm
                      go_wp2_with fail
                      refine (belowLimit_any x _).mono ?_
                      rintro e w1 ⟨rfl, rfl⟩
                      rw [HD.out]
                      go_wp2_with fail
                      go_ret
                      exact .inr ⟨hno.out, rfl, hgr2⟩
                  · have hne : decide (x = y) = false := decide_eq_false hxy
                    have hno : Hid (¬ReadOk hs) := fun h => hxy (by rw [HX.out, HY.out]; exact (h.2.2 k j hj (by rw [HL.out]; exact hk)).1)
                    go_wp2_with fail
                    go_ret
                    exact .inr ⟨hno.out, rfl, hgr2⟩
                · obtain rfl : j = k + 1 := by omega
                  go_wp2_with fail
                  go_roundw
                  case rel => exact ⟨k + 1, G2, by omega, by go_num, hU2.out.row, hG2, hgr2⟩
                  case measure => simp [intOf]; omega
            · obtain rfl : k = i := by omega
              have hyes : Hid (ReadOk hs) := ⟨by rw [HL.out]; omega, fun c hc => by rw [hsq.out c hc, HL.out], fun i j h1 h2 => (hU.out.done i j h1 h2 (by rw [HL.out] at h2; exact .inl h2)).1⟩
              go_wp2_with fail
              go_ret
              exact .inl ⟨hyes.out, rfl, G, by rw [HL.out]; exact hU.out, hG.out, hgr⟩
end Go.Proofs.Ytdpgkegfkobdoaa
