/-
  The contract of SortUnique: the walk.
-/
import Derived.Test.YtdpgkegfkobdoaaYQ
namespace Go.Proofs.Ytdpgkegfkobdoaa
open Go.RowKit Go.Shelf

/-- Item h belongs to the list x. -/
def Belongs (nh : Nat) (hs : List (List Int)) (x : List Int) (h : Item) : Prop := Fine nh hs x h.norm ∧ h.vec = canonL x

/-- The rows out are the list of vectors of ls. -/
def IsList (nh : Nat) (hs ls out : List (List Int)) : Prop :=
  ∃ h : Nat → Item, (∀ i, i < out.length → ∃ c, c < ls.length ∧ Belongs nh hs (ls.getD c []) (h i)) ∧ (∀ c, c < ls.length → ∃ i, i < out.length ∧ Belongs nh hs (ls.getD c []) (h i)) ∧
    (∀ i j, i < j → j < out.length → cfN (h i) (h j) < 0) ∧ ∀ i, i < out.length → out.getD i [] = (h i).vec

/-- h is a reduced form, and each list is one of its vectors that belongs into a list. -/
def AllFine (nh : Nat) (hs ls : List (List Int)) : Prop := IsRed hs ∧ ∀ c, c < ls.length → ∃ m, Fine nh hs (ls.getD c []) m

def GivesList (w : World) (nh : Nat) (hs ls : List (List Int)) (e : Ending) (w' : World) : Prop :=
  ((AllFine nh hs ls ∧ ∃ out a c, e = .returned (.tuple #[.slice a out.length c, .bool true]) ∧ RdM w' a c out ∧ IsList nh hs ls out) ∨
   (¬AllFine nh hs ls ∧ e = .returned (.tuple #[.slice none 0 0, .bool false]))) ∧ Below w.heap.size w w'
theorem givesList_no {w w' : World} {nh : Nat} {hs ls : List (List Int)} (h : ¬AllFine nh hs ls) (hb : Below w.heap.size w w') : GivesList w nh hs ls (.returned (.tuple #[.slice none 0 0, .bool false])) w' := ⟨.inr ⟨h, rfl⟩, hb⟩

/-- What the first loop has built behind i rounds. -/
structure Built (w wr : World) (nh : Nat) (hs ls : List (List Int)) (o : Nat) (v : Value) (i : Nat) (f : Nat → Item) : Prop where
  list : ListAt wr o v
  row : wr.ownsRow w.heap.size 58 2 v i (flatN f i)
  items : ∀ c, c < i → ItOwn wr (f c) ∧ Belongs nh hs (ls.getD c []) (f c)
  below : Below w.heap.size w wr

theorem row_of_heap {w w' : World} {B n : Nat} {v : Value} {xs : List Value} (h : w.ownsRow B 58 2 v n xs) (he : ∀ g, v.ownBlock = some g → w'.heap[g]? = w.heap[g]?) : w'.ownsRow B 58 2 v n xs := by
  refine ⟨h.1, ?_⟩
  rcases h.2 with h0 | ⟨g, cap, cur, hv, hb, hg, hr⟩
  · exact .inl h0
  · exact .inr ⟨g, cap, cur, hv, hb, by rw [he g (by rw [hv]; rfl)]; exact hg, hr⟩

theorem row_below {w w' : World} {B n : Nat} {v : Value} {xs : List Value} (h : w.ownsRow B 58 2 v n xs) (hb : Below w.heap.size w w') : w'.ownsRow B 58 2 v n xs :=
  row_of_heap h fun g hg => hb.block g (h.lt g hg).2

theorem Built.next {w wr w2 X w3 : World} {nh : Nat} {hs ls : List (List Int)} {o i : Nat} {v v' : Value} {f : Nat → Item} (hB : Built w wr nh hs ls o v i f) (hob : w.heap.size ≤ o) (hb2 : Below wr.heap.size wr w2) {x : Item} (hx : ItOwn w2 x) (hbel : Belongs nh hs (ls.getD i []) x)
    (hX : Below w2.heap.size w2 X) (hown : w3.ownsRow w.heap.size 58 2 v' (i + 1) (flatN f i ++ encN x)) (hgrow : X.grownBy w3 v.ownBlock) :
    Built w (w3.setCell ⟨o, 0, none⟩ v') nh hs ls o v' (i + 1) (fun c => if c = i then x else f c) := by
  have hbX : Below wr.heap.size wr X := hb2.trans (hX.mono hb2.size)
  have hrowX := row_below hB.row hbX
  have hlX : ListAt X o v := hB.list.of_heap (hbX.block o hB.list.lt)
  have hl3 : ListAt w3 o v := hlX.of_heap (hgrow.block o hlX.lt (hlX.row_ne hrowX))
  have hset : ∀ k, k ≠ o → (w3.setCell ⟨o, 0, none⟩ v').heap[k]? = w3.heap[k]? := fun k hk => Below.heap_setCell w3 ⟨o, 0, none⟩ v' k hk
  have hfin : ∀ y, ItOwn X y → ItOwn (w3.setCell ⟨o, 0, none⟩ v') y := fun y hy => by
    have h3 := hy.grown hgrow (hy.row_ne hrowX)
    exact h3.of_heap fun g e => hset g (h3.ne hl3 (by decide) g e)
  refine ⟨hl3.set v', ?_, fun c hc => ?_, ?_⟩
  · have e : flatN (fun c => if c = i then x else f c) (i + 1) = flatN f i ++ encN x := by
      rw [flatN_succ, flatN_congr (f' := f) (fun c hc => if_neg (by omega)), if_pos rfl]
    rw [e]
    refine row_of_heap hown fun g hg => hset g fun e => ?_
    exact hl3.row_ne hown (by rw [hg, e])
  · show ItOwn _ (if c = i then x else f c) ∧ Belongs nh hs _ (if c = i then x else f c)
    by_cases e : c = i
    · rw [if_pos e, e]
      exact ⟨hfin x (hx.below hX), hbel⟩
    · rw [if_neg e]
      obtain ⟨h1, h2⟩ := hB.items c (by omega)
      exact ⟨hfin _ (h1.below hbX), h2⟩
  · have h1 : Below w.heap.size w X := hB.below.trans (hbX.mono hB.below.size)
    have h3 : Below w.heap.size w w3 := h1.grown hgrow h1.size (fun k hk => (hrowX.lt k hk).1)
    exact h3.setCell (p := ⟨o, 0, none⟩) hob v'

theorem Belongs.congr {nh : Nat} {hs : List (List Int)} {x : List Int} {h h' : Item} (hb : Belongs nh hs x h) (e : cfN h' h = 0) : Belongs nh hs x h' := by
  obtain ⟨e1, e2⟩ := cfN_eq e
  exact ⟨by rw [e1]; exact hb.1, e2.trans hb.2⟩

theorem row_slice {w : World} {B n : Nat} {v : Value} {xs : List Value} (h : w.ownsRow B 58 2 v n xs) (hn : 0 < n) : ∃ g cap, v = .slice (some ⟨g, 0, none⟩) n cap := by
  rcases h.2 with ⟨_, h0⟩ | ⟨g, cap, cur, hv, _⟩
  · omega
  · exact ⟨g, cap, hv⟩

theorem run_store_func (P : Program) (w : World) (a : Addr) (m : Mode) (f : Fn) (t : Array Value) (b : Array Value) : (store a (.func f t b) m).run P w = stored P w a (.func f t b) m := run_store P w a _ m rfl
attribute [local go_sem] run_store_func

set_option maxRecDepth 100000 in
set_option maxHeartbeats 4000000 in
theorem sortUnique2_any (ah al : Option Addr) (nh caph nl capl : Nat) (hs ls : List (List Int)) (w : World) (hrm : RdM w ah caph hs) (hlm : hs.length = nh) (hnh : nh ≤ 100000000000000) (hrl : RdM w al capl ls) (hll : ls.length = nl) (hn1 : 1 ≤ nl) (hn2 : nl ≤ 1000000) :
    Calls Try.prog 15 #[.slice ah nh caph, .slice al nl capl] w (GivesList w nh hs ls) := by
  obtain ⟨bl, ol, A, C, rfl, hfix⟩ := hrl.fix (by rw [hll]; omega)
  have HF := Lib.hid hfix
  have HRM := Lib.hid hrm
  have HLL := Lib.hid hll
  have HLM := Lib.hid hlm
  obtain ⟨i0, hi, hz0, hz1, hz2⟩ := info_parts infoNormed
  obtain ⟨i1, hi', hy0, hy1, hy2⟩ := info_parts infoRows
  clear hfix hrm hrl hll hlm
  go_enter Try.func15, Try.ntmps15
  go_wp2_with fail
  refine (isReduced_any ah nh caph hs _ HRM.out HLM.out hnh).mono ?_
  rintro e w1 ⟨r, rfl, hrr, hb⟩
  cases r with
  | false =>
    have hno : Hid (¬AllFine nh hs ls) := fun h => by have := hrr.2 h.1; simp at this
    clear hrr
    go_wp2_with fail
    go_ret2
    exact givesList_no hno.out hb
  | true =>
    have HRED : Hid (IsRed hs) := hrr.1 rfl
    obtain ⟨W, hW⟩ : ∃ W, W = w1.alloc (.cells #[.slice none 0 0, .func (.func 28) #[] #[]] 56) := ⟨_, rfl⟩
    have hbW : Below w.heap.size w W := by rw [hW]; exact hb.alloc hb.size _
    have hst : Hid (Built w W nh hs ls w1.heap.size (.slice none 0 0) 0 (fun _ => zI)) := ⟨by rw [hW]; exact heap_alloc_new w1 _, World.ownsRow_nil _ _ _ _, fun c hc => by omega, hbW⟩
    have HWW : Hid (w1.alloc (.cells #[.slice none 0 0, .func (.func 28) #[] #[]] 56) = W) := hW.symm
    have hob := hb.size
    clear hrr hW hbW hb
    go_wp2_with fail
    rw [HWW.out]
    go_loopw [20] (fun ii wr => ∃ (i : Nat) (v : Value) (f : Nat → Item), i ≤ nl ∧ ii = .int .i64 (i : Int) ∧ Hid (Built w wr nh hs ls w1.heap.size v i f)) (fun ii _ => nl - (intOf ii).toNat)
    case atStart => exact ⟨0, _, _, by omega, rfl, hst⟩
    case round =>
      obtain ⟨i, v, f, hin, rfl, hB⟩ := hrel
      clear hst
      by_cases hlt : i < nl
      · obtain ⟨hc, hri, hli⟩ := HF.out _ hB.out.below i (by rw [HLL.out]; exact hlt)
        obtain ⟨xs, hxs⟩ : ∃ xs, xs = ls.getD i [] := ⟨_, rfl⟩
        obtain ⟨ax, hax⟩ : ∃ x, x = A i := ⟨_, rfl⟩
        obtain ⟨cx, hcx⟩ : ∃ x, x = C i := ⟨_, rfl⟩
        rw [← hxs, ← hax, ← hcx] at hc hri
        rw [← hxs] at hli
        have HRI := Lib.hid hri
        have HXS := Lib.hid hxs
        have hrm2 : Hid (RdM wr ah caph hs) := HRM.out.below hB.out.below
        obtain ⟨lx, hlx⟩ : ∃ n, n = xs.length := ⟨_, rfl⟩
        rw [← hlx] at hc hli
        have HLX : Hid (xs.length = lx) := hlx.symm
        clear hxs hax hcx hri hlx
        go_wp2_with fail
        refine (newNormed_any ah ax nh caph lx cx hs xs _ HRED.out hrm2.out HLM.out HRI.out HLX.out hli).mono ?_
        rintro e w2 ⟨(⟨m, g, c, hfine, rfl, hgc, hgg, hown⟩ | ⟨hno, v0, v1, rfl, rfl⟩), hb2⟩
        · have hnx : nh = (canonL xs).length := by rw [length_canonL]; exact hfine.1.1.symm
          obtain ⟨x, hx⟩ : ∃ x : Item, x = ⟨m, canonL xs, some ⟨g, 0, none⟩, c⟩ := ⟨_, rfl⟩
          have hxo : Hid (ItOwn w2 x) := by
            rw [hx]
            refine ⟨⟨g, rfl, hown⟩, ?_, ?_, ?_⟩
            · show (canonL xs).length ≤ c
              omega
            · intro z hz
              show I64 z
              have hin := hfine.1.2
              have hz2 : ∃ k, k < xs.length ∧ (z = xs.getD k 0 ∨ z = -(xs.getD k 0)) := by
                have hz' : z ∈ canonL xs := hz
                unfold canonL at hz'
                split at hz'
                · obtain ⟨y, hy, e⟩ := List.mem_map.1 hz'
                  obtain ⟨k, hk, e2⟩ := List.getElem_of_mem hy
                  exact ⟨k, hk, .inr (by rw [← e, ← e2]; simp [List.getD_eq_getElem?_getD, List.getElem?_eq_getElem hk])⟩
                · obtain ⟨k, hk, e2⟩ := List.getElem_of_mem hz'
                  exact ⟨k, hk, .inl (by rw [← e2]; simp [List.getD_eq_getElem?_getD, List.getElem?_eq_getElem hk])⟩
              obtain ⟨k, hk, e⟩ := hz2
              have := hin k hk
              unfold I64
              rcases e with e | e <;> omega
            · show (canonL xs).length ≤ 100000000000000
              rw [length_canonL, HLX.out]; omega
          have hbel : Hid (Belongs nh hs (ls.getD i []) x) := by rw [hx, ← HXS.out]; exact ⟨hfine, rfl⟩
          have henc : Hid ([.int .i64 m, .slice (some ⟨g, 0, none⟩) nh c] = encN x) := by rw [hx, hnx]; rfl
          obtain ⟨X, hX⟩ : ∃ X, X = (w2.alloc (.cells #[.int .i64 m, .slice (some ⟨g, 0, none⟩) nh c] 58)).alloc (.cells #[.int .i64 m, .slice (some ⟨g, 0, none⟩) nh c] 58) := ⟨_, rfl⟩
          have hXb : Hid (Below w2.heap.size w2 X) := by rw [hX]; exact ((Below.refl _ _).alloc (Nat.le_refl _) _).alloc (by simp) _
          have hXp : Hid (Pr (w2.heap.size + 1) (.int .i64 m) (.slice (some ⟨g, 0, none⟩) nh c) X) := by rw [hX]; exact Pr.made _ _ _ _ (by simp)
          have hbX : Hid (Below wr.heap.size wr X) := hb2.trans (hXb.out.mono hb2.size)
          have hrX : Hid (X.ownsRow w.heap.size 58 2 v i (flatN f i)) := row_below hB.out.row hbX.out
          have hlX : Hid (ListAt X w1.heap.size v) := hB.out.list.of_heap (hbX.out.block _ hB.out.list.lt)
          have hl2 : ListAt w2 w1.heap.size v := hB.out.list.of_heap (hb2.block _ hB.out.list.lt)
          have l0 : (w2.alloc (.cells #[.int .i64 m, .slice (some ⟨g, 0, none⟩) nh c] 58)).cell? ⟨w1.heap.size, 0, none⟩ = some v := by
            rw [((Below.refl w2.heap.size w2).alloc (Nat.le_refl _) _).cell (p := ⟨w1.heap.size, 0, none⟩) hl2.lt]; exact hl2.c0
          have HXX : Hid ((w2.alloc (.cells #[.int .i64 m, .slice (some ⟨g, 0, none⟩) nh c] 58)).alloc (.cells #[.int .i64 m, .slice (some ⟨g, 0, none⟩) nh c] 58) = X) := hX.symm
          have HB2 := Lib.hid hb2
          have hXs : Hid (w.heap.size ≤ X.heap.size) := by have h1 := hB.out.below.size; have h2 := hbX.out.size; unfold Hid; omega
          clear hfine hown hnx hx hX hb2 hc
          go_wp2_with (at_builtin; refine wpList_append_own _ rfl _ _ 54 rfl w.heap.size 58 i0 (.agg #[.int .i64 0, .slice none 0 0]) 2 32 Try.underlying54 hi hz0 hz1 hz2 rfl (by decide) v i (flatN f i) rfl (HXX.out.symm ▸ hrX.out) ⟨w2.heap.size + 1, 0, none⟩ 1 1 [.int .i64 m, .slice (some ⟨g, 0, none⟩) nh c] rfl rfl ?c1 ?c2 ?c3 ?c4 ?c5 ?_)
          case c1 =>
            intro j u hj
            rw [HXX.out]
            rcases (by
              have := (List.getElem?_eq_some_iff.1 hj).1
              simp at this
              omega : j = 0 ∨ j = 1) with rfl | rfl
            · have e : u = .int .i64 m := by simpa using hj.symm
              rw [e]; exact hXp.out.c0
            · have e : u = .slice (some ⟨g, 0, none⟩) nh c := by simpa using hj.symm
              rw [e]; exact hXp.out.c1
          case c2 =>
            intro u hu
            simp only [List.mem_cons, List.not_mem_nil, or_false] at hu
            rcases hu with rfl | rfl <;> rfl
          case c3 => unfold maxLen; omega
          case c4 => omega
          case c5 => rw [HXX.out]; exact hXs.out
          intro v' w3 hown hgrow _
          rw [HXX.out] at hgrow
          rw [henc.out] at hown
          have hnew : Hid (Built w (w3.setCell ⟨w1.heap.size, 0, none⟩ v') nh hs ls w1.heap.size v' (i + 1) (fun c => if c = i then x else f c)) := hB.out.next hob HB2.out hxo.out hbel.out hXb.out hown hgrow
          have hl3 : ListAt w3 w1.heap.size v := hlX.out.of_heap (hgrow.block _ hlX.out.lt (hlX.out.row_ne hrX.out))
          have t0 := hl3.c0
          have t1 := hl3.fr 0
          obtain ⟨g', cap', rfl⟩ := row_slice hown (by omega)
          clear hl2 l0 hown hgrow hl3
          go_wp2_with fail
          go_roundw
          case rel => exact ⟨i + 1, _, _, by omega, by go_num, hnew⟩
          case measure => simp [intOf]; omega
        · have hno2 : Hid (¬AllFine nh hs ls) := fun h => by
            obtain ⟨m, hm⟩ := h.2 i (by rw [HLL.out]; exact hlt)
            rw [← HXS.out] at hm
            exact hno m hm
          have hbw : Hid (Below w.heap.size w (w2.alloc (.cells #[.int .i64 v0, .slice none 0 0] 58))) := (hB.out.below.trans (hb2.mono hB.out.below.size)).alloc (hB.out.below.trans (hb2.mono hB.out.below.size)).size _
          clear hno hc
          go_wp2_with fail
          go_ret2
          exact givesList_no hno2.out hbw.out
      · obtain rfl : i = nl := by omega
        obtain ⟨g, cap, rfl, hnc, hcm, hbg, hoF, cur, hgb⟩ := ownF_of_row hn1 hB.out.row
        have hat : Hid (OrdAt wr w1.heap.size g i cap) := ⟨hB.out.list.c0, hB.out.list.c1, hB.out.list.fr 0⟩
        have hgo : g ≠ w1.heap.size := fun e => by
          have h1 := hB.out.list
          unfold ListAt at h1
          rw [← e, hgb] at h1
          simp only [Option.some.injEq, Obj.cells.injEq] at h1
          exact absurd h1.2.1 (by decide)
        have hfar : Hid (∀ c, c < i → FarN wr g (f c)) := fun c hc => (hB.out.items c hc).1.far hgb (by decide)
        have HOF := Lib.hid hoF
        have HGB : Hid (∃ cur, wr.heap[g]? = some (.cells cur 58 (0, 0))) := ⟨cur, hgb⟩
        clear hoF hgb
        go_wp2_with fail
        refine (sortUnique_any w1.heap.size g i cap f _ hn1 (by omega) hnc hcm hat.out hgo HOF.out hfar.out).mono ?_
        rintro e w2 ⟨rfl, L, h, hL1, hL2, hm1, hm2, hasc, hoF2, hc0, htwo⟩
        have hyes : Hid (AllFine nh hs ls) := ⟨HRED.out, fun c hc => ⟨_, (hB.out.items c (by rw [← HLL.out]; exact hc)).2.1⟩⟩
        have hbe : Hid (∀ t, t < L → ∃ c, c < ls.length ∧ Belongs nh hs (ls.getD c []) (h t)) := fun t ht => by
          obtain ⟨c, hc, e⟩ := hm1 t ht
          exact ⟨c, by rw [HLL.out]; exact hc, by rw [e]; exact (hB.out.items c hc).2⟩
        have hbe2 : Hid (∀ c, c < ls.length → ∃ t, t < L ∧ Belongs nh hs (ls.getD c []) (h t)) := fun c hc => by
          rw [HLL.out] at hc
          obtain ⟨t, ht, e⟩ := hm2 c hc
          exact ⟨t, ht, (hB.out.items c hc).2.congr e⟩
        have hrd : Hid (∀ t, t < L → RdI w2 (h t).a (h t).cap (h t).vec ∧ (h t).vec.length ≤ 17592186044416) := fun t ht => by
          obtain ⟨c, hc, e⟩ := hm1 t ht
          rw [e]
          have hio := (hB.out.items c hc).1
          have hbel := (hB.out.items c hc).2
          obtain ⟨gi, ei, hoi⟩ := hio.at'
          obtain ⟨cur, hgb⟩ := HGB.out
          have n1 := hoi.ne hgb (by decide)
          have n2 := hoi.ne (hB.out.list : wr.heap[w1.heap.size]? = _) (by decide)
          refine ⟨?_, ?_⟩
          · rw [ei]
            exact (hoi.of_heap (htwo.block gi hoi.lt n1 n2)).rd hio.fits hio.lim
          · rw [hbel.2, length_canonL]
            have h1 := hbel.1.1.1
            have h2 := HRED.out.1.1.2
            have h3 := HLM.out
            omega
        have hB2 : Hid (Below w.heap.size w w2) := hB.out.below.trans (htwo.below hbg hob hB.out.below.size)
        have HASC := Lib.hid hasc
        have HO2 := Lib.hid hoF2
        have HTWO := Lib.hid htwo
        have hmk := fun W => run_make_row' (P := Try.prog) 35 22 (.slice none 0 0) 24 Try.underlying35 infoRows rfl .i64 .i64 L (by omega) (by omega) W
        clear hm1 hm2 hasc hoF2 htwo hat hfar HOF HGB
        obtain ⟨W4, hW4⟩ : ∃ W, W = w2.alloc (.cells (madeCells #[.slice none 0 0] L) 22) := ⟨_, rfl⟩
        have hrow4 : Hid (W4.rowIs w2.heap.size 22 L (fun t => if t < 0 then .slice (h t).a (h t).vec.length (h t).cap else .slice none 0 0)) := by
          rw [hW4]
          exact (World.rowIs_made w2 (.slice none 0 0) L 22).congr fun t _ => by rw [if_neg (Nat.not_lt_zero t)]
        have hb4 : Hid (Below w2.heap.size w2 W4) := by rw [hW4]; exact (Below.refl _ _).alloc (Nat.le_refl _) _
        have HW4 : Hid (w2.alloc (.cells (madeCells #[.slice none 0 0] L) 22) = W4) := hW4.symm
        have hc1 : (w2.alloc (.cells (madeCells #[.slice none 0 0] L) 22)).cell? ⟨w1.heap.size, 0, none⟩ = some (.slice (some ⟨g, 0, none⟩) L cap) := by
          rw [← hW4, hb4.out.cell (p := ⟨w1.heap.size, 0, none⟩) (World.block_lt_of_cell? _ _ hc0)]; exact hc0
        have hg2 : g < w2.heap.size := HO2.out.lt hL1
        have hbs := hB2.out.size
        clear hW4
        go_wp2_with fail
        rw [HW4.out]
        clear hc0 hc1 hmk
        go_loopw [47] (fun kk wq => ∃ k : Nat, k ≤ L ∧ kk = .int .i64 (k : Int) ∧ Hid (wq.rowIs w2.heap.size 22 L (fun t => if t < k then .slice (h t).a (h t).vec.length (h t).cap else .slice none 0 0)) ∧ Hid (Below w2.heap.size w2 wq)) (fun kk _ => L - (intOf kk).toNat)
        case atStart => exact ⟨0, by omega, rfl, hrow4, hb4⟩
        case round =>
          obtain ⟨k, hkL, rfl, hrow, hbq⟩ := hrel
          clear hrow4 hb4
          by_cases hk : k < L
          · have hOk := HO2.out.below hbq.out hg2
            have c0 := hOk.c0 k hk
            have c1 := hOk.c1 k hk
            have hcr := hrow.out.cell hk
            rw [if_neg (Nat.lt_irrefl k)] at hcr
            have hfr := hrow.out.frozen k
            obtain ⟨x, hx⟩ : ∃ x, x = h k := ⟨_, rfl⟩
            rw [← hx] at c0 c1
            have hltr := hrow.out.lt
            have e1 : (wr.alloc (.cells #[.int .i64 x.norm, .slice x.a x.vec.length x.cap] 58)).cell? ⟨w2.heap.size, k, none⟩ = some (.slice none 0 0) := by
              rw [((Below.refl wr.heap.size wr).alloc (Nat.le_refl _) _).cell (p := ⟨w2.heap.size, k, none⟩) hltr]; exact hcr
            have e2 : (wr.alloc (.cells #[.int .i64 x.norm, .slice x.a x.vec.length x.cap] 58)).frozen? ⟨w2.heap.size, k, none⟩ = false := by
              rw [((Below.refl wr.heap.size wr).alloc (Nat.le_refl _) _).frozen (p := ⟨w2.heap.size, k, none⟩) hltr]; exact hfr
            have hset : ∀ W : World, W.rowIs w2.heap.size 22 L (fun t => if t < k then .slice (h t).a (h t).vec.length (h t).cap else .slice none 0 0) → Hid ((W.setCell ⟨w2.heap.size, k, none⟩ (.slice x.a x.vec.length x.cap)).rowIs w2.heap.size 22 L (fun t => if t < k + 1 then .slice (h t).a (h t).vec.length (h t).cap else .slice none 0 0)) := fun W hW => by
              refine (hW.set k _).congr fun t ht => ?_
              by_cases e : t = k
              · rw [if_pos e, if_pos (by omega), e, ← hx]
              · rw [if_neg e]
                by_cases e2 : t < k
                · rw [if_pos e2, if_pos (by omega)]
                · rw [if_neg e2, if_neg (by omega)]
            have HSET := Lib.hid hset
            have hkl : (k : Int) < (L : Int) := by omega
            clear hOk hx hset
            go_wp2_with fail
            go_roundw
            case rel =>
              refine ⟨k + 1, by omega, by go_num, ?_, ?_⟩
              · first
                  | exact HSET.out _ (hrow.out.alloc _)
                  | exact (HSET.out _ hrow.out).alloc _
              · first
                  | exact (hbq.out.alloc hbq.out.size _).setCell (p := ⟨w2.heap.size, k, none⟩) (Nat.le_refl _) _
                  | exact (hbq.out.setCell (p := ⟨w2.heap.size, k, none⟩) (Nat.le_refl _) _).alloc (by simpa [World.setCell] using hbq.out.size) _
            case measure => simp [intOf]; omega
          · obtain rfl : k = L := by omega
            obtain ⟨out, hout⟩ : ∃ out, out = (List.range k).map fun t => (h t).vec := ⟨_, rfl⟩
            have hol : out.length = k := by rw [hout]; simp
            have hog : ∀ t, t < k → out.getD t [] = (h t).vec := fun t ht => by rw [hout]; simp [List.getD_eq_getElem?_getD, ht]
            have hend : Hid (GivesList w nh hs ls (.returned (.tuple #[.slice (some ⟨w2.heap.size, 0, none⟩) k k, .bool true])) wr) := by
              refine ⟨.inl ⟨hyes.out, out, some ⟨w2.heap.size, 0, none⟩, k, by rw [hol], ⟨by rw [hol]; exact Nat.le_refl _, fun t ht => ?_⟩, ?_⟩, hB2.out.trans (hbq.out.mono hbs)⟩
              · rw [hol] at ht
                have hc := hrow.out.cell ht
                rw [if_pos ht] at hc
                obtain ⟨h1, h2⟩ := hrd.out t ht
                exact ⟨w2.heap.size, 0, (h t).a, (h t).cap, rfl, by rw [Nat.zero_add, hog t ht]; exact hc, by rw [hog t ht]; exact h1.below hbq.out, by rw [hog t ht]; exact h2⟩
              · refine ⟨h, fun t ht => hbe.out t (by rw [← hol]; exact ht), fun c hc => ?_, fun a b hab hb => HASC.out a b hab (by rw [← hol]; exact hb), fun t ht => hog t (by rw [← hol]; exact ht)⟩
                rw [hol]
                exact hbe2.out c hc
            clear hout hol hog
            go_wp2_with fail
            go_ret2
            exact hend.out
end Go.Proofs.Ytdpgkegfkobdoaa
