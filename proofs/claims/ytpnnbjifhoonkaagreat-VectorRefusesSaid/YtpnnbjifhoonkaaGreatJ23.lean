/-
  Joined texts: YR YT YZ.
-/
import Derived.Test.YtpnnbjifhoonkaaGreatJ22
import Derived.Test.YtpnnbjifhoonkaaGreatJ21
import Derived.Test.YtpnnbjifhoonkaaGreatJ03
import Derived.Laws.AppendOwn
import Derived.Laws.AppendOwnNone
namespace Go.Proofs.YtpnnbjifhoonkaaGreat
open Go.RowKit Go.Shelf

/-- Item h belongs to the list x. -/
def Belongs (nh : Nat) (hs : List (List Int)) (x : List Int) (h : Item) : Prop := Fine nh hs x h.norm ∧ h.vec = canonL x

/-- The rows out are the list of vectors of ls. -/
def IsList (nh : Nat) (hs ls out : List (List Int)) : Prop :=
  ∃ h : Nat → Item, (∀ i, i < out.length → ∃ c, c < ls.length ∧ Belongs nh hs (ls.getD c []) (h i)) ∧ (∀ c, c < ls.length → ∃ i, i < out.length ∧ Belongs nh hs (ls.getD c []) (h i)) ∧
    (∀ i j, i < j → j < out.length → cfN (h i) (h j) < 0) ∧ ∀ i, i < out.length → out.getD i [] = (h i).vec

/-- h is a reduced form, and each list is one of its vectors that belongs into a list. -/
def AllFine (nh : Nat) (hs ls : List (List Int)) : Prop := IsRed hs ∧ ∀ c, c < ls.length → ∃ m, Fine nh hs (ls.getD c []) m

def GivesList (w : World) (nh : Nat) (hs ls : List (List Int)) (e : Ending) (w' : World) : Prop :=
  ((AllFine nh hs ls ∧ ∃ out a c, e = .returned (.tuple #[.slice a out.length c, .bool true]) ∧ RdM w' a c out ∧ IsList nh hs ls out) ∨
   (¬AllFine nh hs ls ∧ e = .returned (.tuple #[.slice none 0 0, .bool false]))) ∧ Below w.heap.size w w'
theorem givesList_no {w w' : World} {nh : Nat} {hs ls : List (List Int)} (h : ¬AllFine nh hs ls) (hb : Below w.heap.size w w') : GivesList w nh hs ls (.returned (.tuple #[.slice none 0 0, .bool false])) w' := ⟨.inr ⟨h, rfl⟩, hb⟩

/-- What the first loop has built behind i rounds. -/
structure Built (w wr : World) (nh : Nat) (hs ls : List (List Int)) (o : Nat) (v : Value) (i : Nat) (f : Nat → Item) : Prop where
  list : ListAt wr o v
  row : wr.ownsRow w.heap.size 62 2 v i (flatN f i)
  items : ∀ c, c < i → ItOwn wr (f c) ∧ Belongs nh hs (ls.getD c []) (f c)
  below : Below w.heap.size w wr

theorem row_of_heap {w w' : World} {B n : Nat} {v : Value} {xs : List Value} (h : w.ownsRow B 62 2 v n xs) (he : ∀ g, v.ownBlock = some g → w'.heap[g]? = w.heap[g]?) : w'.ownsRow B 62 2 v n xs := by
  refine ⟨h.1, ?_⟩
  rcases h.2 with h0 | ⟨g, cap, cur, hv, hb, hg, hr⟩
  · exact .inl h0
  · exact .inr ⟨g, cap, cur, hv, hb, by rw [he g (by rw [hv]; rfl)]; exact hg, hr⟩

theorem row_below {w w' : World} {B n : Nat} {v : Value} {xs : List Value} (h : w.ownsRow B 62 2 v n xs) (hb : Below w.heap.size w w') : w'.ownsRow B 62 2 v n xs :=
  row_of_heap h fun g hg => hb.block g (h.lt g hg).2

theorem Built.next {w wr w2 X w3 : World} {nh : Nat} {hs ls : List (List Int)} {o i : Nat} {v v' : Value} {f : Nat → Item} (hB : Built w wr nh hs ls o v i f) (hob : w.heap.size ≤ o) (hb2 : Below wr.heap.size wr w2) {x : Item} (hx : ItOwn w2 x) (hbel : Belongs nh hs (ls.getD i []) x)
    (hX : Below w2.heap.size w2 X) (hown : w3.ownsRow w.heap.size 62 2 v' (i + 1) (flatN f i ++ encN x)) (hgrow : X.grownBy w3 v.ownBlock) :
    Built w (w3.setCell ⟨o, 0, none⟩ v') nh hs ls o v' (i + 1) (fun c => if c = i then x else f c) := by
  have hbX : Below wr.heap.size wr X := hb2.trans (hX.mono hb2.size)
  have hrowX := row_below hB.row hbX
  have hlX : ListAt X o v := hB.list.of_heap (hbX.block o hB.list.lt)
  have hl3 : ListAt w3 o v := hlX.of_heap (hgrow.block o hlX.lt (hlX.row_ne hrowX))
  have hset : ∀ k, k ≠ o → (w3.setCell ⟨o, 0, none⟩ v').heap[k]? = w3.heap[k]? := fun k hk => Below.heap_setCell w3 ⟨o, 0, none⟩ v' k hk
  have hfin : ∀ y, ItOwn X y → ItOwn (w3.setCell ⟨o, 0, none⟩ v') y := fun y hy => by
    have h3 := hy.grown hgrow (hy.row_ne hrowX)
    exact h3.of_heap fun g e => hset g (h3.ne hl3 (by decide) g e)
  refine ⟨hl3.set v', ?_, fun c hc => ?_, ?_⟩
  · have e : flatN (fun c => if c = i then x else f c) (i + 1) = flatN f i ++ encN x := by
      rw [flatN_succ, flatN_congr (f' := f) (fun c hc => if_neg (by omega)), if_pos rfl]
    rw [e]
    refine row_of_heap hown fun g hg => hset g fun e => ?_
    exact hl3.row_ne hown (by rw [hg, e])
  · show ItOwn _ (if c = i then x else f c) ∧ Belongs nh hs _ (if c = i then x else f c)
    by_cases e : c = i
    · rw [if_pos e, e]
      exact ⟨hfin x (hx.below hX), hbel⟩
    · rw [if_neg e]
      obtain ⟨h1, h2⟩ := hB.items c (by omega)
      exact ⟨hfin _ (h1.below hbX), h2⟩
  · have h1 : Below w.heap.size w X := hB.below.trans (hbX.mono hB.below.size)
    have h3 : Below w.heap.size w w3 := h1.grown hgrow h1.size (fun k hk => (hrowX.lt k hk).1)
    exact h3.setCell (p := ⟨o, 0, none⟩) hob v'

theorem Belongs.congr {nh : Nat} {hs : List (List Int)} {x : List Int} {h h' : Item} (hb : Belongs nh hs x h) (e : cfN h' h = 0) : Belongs nh hs x h' := by
  obtain ⟨e1, e2⟩ := cfN_eq e
  exact ⟨by rw [e1]; exact hb.1, e2.trans hb.2⟩

theorem row_slice {w : World} {B n : Nat} {v : Value} {xs : List Value} (h : w.ownsRow B 62 2 v n xs) (hn : 0 < n) : ∃ g cap, v = .slice (some ⟨g, 0, none⟩) n cap := by
  rcases h.2 with ⟨_, h0⟩ | ⟨g, cap, cur, hv, _⟩
  · omega
  · exact ⟨g, cap, hv⟩

theorem run_store_func (P : Program) (w : World) (a : Addr) (m : Mode) (f : Fn) (t : Array Value) (b : Array Value) : (store a (.func f t b) m).run P w = stored P w a (.func f t b) m := run_store P w a _ m rfl
attribute [local go_sem] run_store_func

set_option maxRecDepth 100000 in
set_option maxHeartbeats 4000000 in
theorem sortUnique2_any (ah al : Option Addr) (nh caph nl capl : Nat) (hs ls : List (List Int)) (w : World) (hrm : RdM w ah caph hs) (hlm : hs.length = nh) (hnh : nh ≤ 100000000000000) (hrl : RdM w al capl ls) (hll : ls.length = nl) (hn1 : 1 ≤ nl) (hn2 : nl ≤ 1000000) :
    Calls Tryz.prog 15 #[.slice ah nh caph, .slice al nl capl] w (GivesList w nh hs ls) := by
  obtain ⟨bl, ol, A, C, rfl, hfix⟩ := hrl.fix (by rw [hll]; omega)
  have HF := Lib.hid hfix
  have HRM := Lib.hid hrm
  have HLL := Lib.hid hll
  have HLM := Lib.hid hlm
  obtain ⟨i0, hi, hz0, hz1, hz2⟩ := info_parts infoNormed
  obtain ⟨i1, hi', hy0, hy1, hy2⟩ := info_parts infoRows
  clear hfix hrm hrl hll hlm
  go_enter Tryz.func15, Tryz.ntmps15
  go_wp2_with fail
  refine (isReduced_any ah nh caph hs _ HRM.out HLM.out hnh).mono ?_
  rintro e w1 ⟨r, rfl, hrr, hb⟩
  cases r with
  | false =>
    have hno : Hid (¬AllFine nh hs ls) := fun h => by have := hrr.2 h.1; simp at this
    clear hrr
    go_wp2_with fail
    go_ret2
    exact givesList_no hno.out hb
  | true =>
    have HRED : Hid (IsRed hs) := hrr.1 rfl
    obtain ⟨W, hW⟩ : ∃ W, W = w1.alloc (.cells #[.slice none 0 0, .func (.func 31) #[] #[]] 60) := ⟨_, rfl⟩
    have hbW : Below w.heap.size w W := by rw [hW]; exact hb.alloc hb.size _
    have hst : Hid (Built w W nh hs ls w1.heap.size (.slice none 0 0) 0 (fun _ => zI)) := ⟨by rw [hW]; exact heap_alloc_new w1 _, World.ownsRow_nil _ _ _ _, fun c hc => by omega, hbW⟩
    have HWW : Hid (w1.alloc (.cells #[.slice none 0 0, .func (.func 31) #[] #[]] 60) = W) := hW.symm
    have hob := hb.size
    clear hrr hW hbW hb
    go_wp2_with fail
    rw [HWW.out]
    go_loopw [20] (fun ii wr => ∃ (i : Nat) (v : Value) (f : Nat → Item), i ≤ nl ∧ ii = .int .i64 (i : Int) ∧ Hid (Built w wr nh hs ls w1.heap.size v i f)) (fun ii _ => nl - (intOf ii).toNat)
    case atStart => exact ⟨0, _, _, by omega, rfl, hst⟩
    case round =>
      obtain ⟨i, v, f, hin, rfl, hB⟩ := hrel
      clear hst
      by_cases hlt : i < nl
      · obtain ⟨hc, hri, hli⟩ := HF.out _ hB.out.below i (by rw [HLL.out]; exact hlt)
        obtain ⟨xs, hxs⟩ : ∃ xs, xs = ls.getD i [] := ⟨_, rfl⟩
        obtain ⟨ax, hax⟩ : ∃ x, x = A i := ⟨_, rfl⟩
        obtain ⟨cx, hcx⟩ : ∃ x, x = C i := ⟨_, rfl⟩
        rw [← hxs, ← hax, ← hcx] at hc hri
        rw [← hxs] at hli
        have HRI := Lib.hid hri
        have HXS := Lib.hid hxs
        have hrm2 : Hid (RdM wr ah caph hs) := HRM.out.below hB.out.below
        obtain ⟨lx, hlx⟩ : ∃ n, n = xs.length := ⟨_, rfl⟩
        rw [← hlx] at hc hli
        have HLX : Hid (xs.length = lx) := hlx.symm
        clear hxs hax hcx hri hlx
        go_wp2_with fail
        refine (newNormed_any ah ax nh caph lx cx hs xs _ HRED.out hrm2.out HLM.out HRI.out HLX.out hli).mono ?_
        rintro e w2 ⟨(⟨m, g, c, hfine, rfl, hgc, hgg, hown⟩ | ⟨hno, v0, v1, rfl, rfl⟩), hb2⟩
        · have hnx : nh = (canonL xs).length := by rw [length_canonL]; exact hfine.1.1.symm
          obtain ⟨x, hx⟩ : ∃ x : Item, x = ⟨m, canonL xs, some ⟨g, 0, none⟩, c⟩ := ⟨_, rfl⟩
          have hxo : Hid (ItOwn w2 x) := by
            rw [hx]
            refine ⟨⟨g, rfl, hown⟩, ?_, ?_, ?_⟩
            · show (canonL xs).length ≤ c
              omega
            · intro z hz
              show I64 z
              have hin := hfine.1.2
              have hz2 : ∃ k, k < xs.length ∧ (z = xs.getD k 0 ∨ z = -(xs.getD k 0)) := by
                have hz' : z ∈ canonL xs := hz
                unfold canonL at hz'
                split at hz'
                · obtain ⟨y, hy, e⟩ := List.mem_map.1 hz'
                  obtain ⟨k, hk, e2⟩ := List.getElem_of_mem hy
                  exact ⟨k, hk, .inr (by rw [← e, ← e2]; simp [List.getD_eq_getElem?_getD, List.getElem?_eq_getElem hk])⟩
                · obtain ⟨k, hk, e2⟩ := List.getElem_of_mem hz'
                  exact ⟨k, hk, .inl (by rw [← e2]; simp [List.getD_eq_getElem?_getD, List.getElem?_eq_getElem hk])⟩
              obtain ⟨k, hk, e⟩ := hz2
              have := hin k hk
              unfold I64
              rcases e with e | e <;> omega
            · show (canonL xs).length ≤ 100000000000000
              rw [length_canonL, HLX.out]; omega
          have hbel : Hid (Belongs nh hs (ls.getD i []) x) := by rw [hx, ← HXS.out]; exact ⟨hfine, rfl⟩
          have henc : Hid ([.int .i64 m, .slice (some ⟨g, 0, none⟩) nh c] = encN x) := by rw [hx, hnx]; rfl
          obtain ⟨X, hX⟩ : ∃ X, X = (w2.alloc (.cells #[.int .i64 m, .slice (some ⟨g, 0, none⟩) nh c] 62)).alloc (.cells #[.int .i64 m, .slice (some ⟨g, 0, none⟩) nh c] 62) := ⟨_, rfl⟩
          have hXb : Hid (Below w2.heap.size w2 X) := by rw [hX]; exact ((Below.refl _ _).alloc (Nat.le_refl _) _).alloc (by simp) _
          have hXp : Hid (Pr (w2.heap.size + 1) (.int .i64 m) (.slice (some ⟨g, 0, none⟩) nh c) X) := by rw [hX]; exact Pr.made _ _ _ _ (by simp)
          have hbX : Hid (Below wr.heap.size wr X) := hb2.trans (hXb.out.mono hb2.size)
          have hrX : Hid (X.ownsRow w.heap.size 62 2 v i (flatN f i)) := row_below hB.out.row hbX.out
          have hlX : Hid (ListAt X w1.heap.size v) := hB.out.list.of_heap (hbX.out.block _ hB.out.list.lt)
          have hl2 : ListAt w2 w1.heap.size v := hB.out.list.of_heap (hb2.block _ hB.out.list.lt)
          have l0 : (w2.alloc (.cells #[.int .i64 m, .slice (some ⟨g, 0, none⟩) nh c] 62)).cell? ⟨w1.heap.size, 0, none⟩ = some v := by
            rw [((Below.refl w2.heap.size w2).alloc (Nat.le_refl _) _).cell (p := ⟨w1.heap.size, 0, none⟩) hl2.lt]; exact hl2.c0
          have HXX : Hid ((w2.alloc (.cells #[.int .i64 m, .slice (some ⟨g, 0, none⟩) nh c] 62)).alloc (.cells #[.int .i64 m, .slice (some ⟨g, 0, none⟩) nh c] 62) = X) := hX.symm
          have HB2 := Lib.hid hb2
          have hXs : Hid (w.heap.size ≤ X.heap.size) := by have h1 := hB.out.below.size; have h2 := hbX.out.size; unfold Hid; omega
          clear hfine hown hnx hx hX hb2 hc
          go_wp2_with (at_builtin; refine wpList_append_own _ rfl _ _ 58 rfl w.heap.size 62 i0 (.agg #[.int .i64 0, .slice none 0 0]) 2 32 Tryz.underlying58 hi hz0 hz1 hz2 rfl (by decide) v i (flatN f i) rfl (HXX.out.symm ▸ hrX.out) ⟨w2.heap.size + 1, 0, none⟩ 1 1 [.int .i64 m, .slice (some ⟨g, 0, none⟩) nh c] rfl rfl ?c1 ?c2 ?c3 ?c4 ?c5 ?_)
          case c1 =>
            intro j u hj
            rw [HXX.out]
            rcases (by
              have := (List.getElem?_eq_some_iff.1 hj).1
              simp at this
              omega : j = 0 ∨ j = 1) with rfl | rfl
            · have e : u = .int .i64 m := by simpa using hj.symm
              rw [e]; exact hXp.out.c0
            · have e : u = .slice (some ⟨g, 0, none⟩) nh c := by simpa using hj.symm
              rw [e]; exact hXp.out.c1
          case c2 =>
            intro u hu
            simp only [List.mem_cons, List.not_mem_nil, or_false] at hu
            rcases hu with rfl | rfl <;> rfl
          case c3 => unfold maxLen; omega
          case c4 => omega
          case c5 => rw [HXX.out]; exact hXs.out
          intro v' w3 hown hgrow _
          rw [HXX.out] at hgrow
          rw [henc.out] at hown
          have hnew : Hid (Built w (w3.setCell ⟨w1.heap.size, 0, none⟩ v') nh hs ls w1.heap.size v' (i + 1) (fun c => if c = i then x else f c)) := hB.out.next hob HB2.out hxo.out hbel.out hXb.out hown hgrow
          have hl3 : ListAt w3 w1.heap.size v := hlX.out.of_heap (hgrow.block _ hlX.out.lt (hlX.out.row_ne hrX.out))
          have t0 := hl3.c0
          have t1 := hl3.fr 0
          obtain ⟨g', cap', rfl⟩ := row_slice hown (by omega)
          clear hl2 l0 hown hgrow hl3
          go_wp2_with fail
          go_roundw
          case rel => exact ⟨i + 1, _, _, by omega, by go_num, hnew⟩
          case measure => simp [intOf]; omega
        · have hno2 : Hid (¬AllFine nh hs ls) := fun h => by
            obtain ⟨m, hm⟩ := h.2 i (by rw [HLL.out]; exact hlt)
            rw [← HXS.out] at hm
            exact hno m hm
          have hbw : Hid (Below w.heap.size w (w2.alloc (.cells #[.int .i64 v0, .slice none 0 0] 62))) := (hB.out.below.trans (hb2.mono hB.out.below.size)).alloc (hB.out.below.trans (hb2.mono hB.out.below.size)).size _
          clear hno hc
          go_wp2_with fail
          go_ret2
          exact givesList_no hno2.out hbw.out
      · obtain rfl : i = nl := by omega
        obtain ⟨g, cap, rfl, hnc, hcm, hbg, hoF, cur, hgb⟩ := ownF_of_row hn1 hB.out.row
        have hat : Hid (OrdAt wr w1.heap.size g i cap) := ⟨hB.out.list.c0, hB.out.list.c1, hB.out.list.fr 0⟩
        have hgo : g ≠ w1.heap.size := fun e => by
          have h1 := hB.out.list
          unfold ListAt at h1
          rw [← e, hgb] at h1
          simp only [Option.some.injEq, Obj.cells.injEq] at h1
          exact absurd h1.2.1 (by decide)
        have hfar : Hid (∀ c, c < i → FarN wr g (f c)) := fun c hc => (hB.out.items c hc).1.far hgb (by decide)
        have HOF := Lib.hid hoF
        have HGB : Hid (∃ cur, wr.heap[g]? = some (.cells cur 62 (0, 0))) := ⟨cur, hgb⟩
        clear hoF hgb
        go_wp2_with fail
        refine (sortUnique_any w1.heap.size g i cap f _ hn1 (by omega) hnc hcm hat.out hgo HOF.out hfar.out).mono ?_
        rintro e w2 ⟨rfl, L, h, hL1, hL2, hm1, hm2, hasc, hoF2, hc0, htwo⟩
        have hyes : Hid (AllFine nh hs ls) := ⟨HRED.out, fun c hc => ⟨_, (hB.out.items c (by rw [← HLL.out]; exact hc)).2.1⟩⟩
        have hbe : Hid (∀ t, t < L → ∃ c, c < ls.length ∧ Belongs nh hs (ls.getD c []) (h t)) := fun t ht => by
          obtain ⟨c, hc, e⟩ := hm1 t ht
          exact ⟨c, by rw [HLL.out]; exact hc, by rw [e]; exact (hB.out.items c hc).2⟩
        have hbe2 : Hid (∀ c, c < ls.length → ∃ t, t < L ∧ Belongs nh hs (ls.getD c []) (h t)) := fun c hc => by
          rw [HLL.out] at hc
          obtain ⟨t, ht, e⟩ := hm2 c hc
          exact ⟨t, ht, (hB.out.items c hc).2.congr e⟩
        have hrd : Hid (∀ t, t < L → RdI w2 (h t).a (h t).cap (h t).vec ∧ (h t).vec.length ≤ 17592186044416) := fun t ht => by
          obtain ⟨c, hc, e⟩ := hm1 t ht
          rw [e]
          have hio := (hB.out.items c hc).1
          have hbel := (hB.out.items c hc).2
          obtain ⟨gi, ei, hoi⟩ := hio.at'
          obtain ⟨cur, hgb⟩ := HGB.out
          have n1 := hoi.ne hgb (by decide)
          have n2 := hoi.ne (hB.out.list : wr.heap[w1.heap.size]? = _) (by decide)
          refine ⟨?_, ?_⟩
          · rw [ei]
            exact (hoi.of_heap (htwo.block gi hoi.lt n1 n2)).rd hio.fits hio.lim
          · rw [hbel.2, length_canonL]
            have h1 := hbel.1.1.1
            have h2 := HRED.out.1.1.2
            have h3 := HLM.out
            omega
        have hB2 : Hid (Below w.heap.size w w2) := hB.out.below.trans (htwo.below hbg hob hB.out.below.size)
        have HASC := Lib.hid hasc
        have HO2 := Lib.hid hoF2
        have HTWO := Lib.hid htwo
        have hmk := fun W => run_make_row' (P := Tryz.prog) 22 23 (.slice none 0 0) 24 Tryz.underlying22 infoRows rfl .i64 .i64 L (by omega) (by omega) W
        clear hm1 hm2 hasc hoF2 htwo hat hfar HOF HGB
        obtain ⟨W4, hW4⟩ : ∃ W, W = w2.alloc (.cells (madeCells #[.slice none 0 0] L) 23) := ⟨_, rfl⟩
        have hrow4 : Hid (W4.rowIs w2.heap.size 23 L (fun t => if t < 0 then .slice (h t).a (h t).vec.length (h t).cap else .slice none 0 0)) := by
          rw [hW4]
          exact (World.rowIs_made w2 (.slice none 0 0) L 23).congr fun t _ => by rw [if_neg (Nat.not_lt_zero t)]
        have hb4 : Hid (Below w2.heap.size w2 W4) := by rw [hW4]; exact (Below.refl _ _).alloc (Nat.le_refl _) _
        have HW4 : Hid (w2.alloc (.cells (madeCells #[.slice none 0 0] L) 23) = W4) := hW4.symm
        have hc1 : (w2.alloc (.cells (madeCells #[.slice none 0 0] L) 23)).cell? ⟨w1.heap.size, 0, none⟩ = some (.slice (some ⟨g, 0, none⟩) L cap) := by
          rw [← hW4, hb4.out.cell (p := ⟨w1.heap.size, 0, none⟩) (World.block_lt_of_cell? _ _ hc0)]; exact hc0
        have hg2 : g < w2.heap.size := HO2.out.lt hL1
        have hbs := hB2.out.size
        clear hW4
        go_wp2_with fail
        rw [HW4.out]
        clear hc0 hc1 hmk
        go_loopw [47] (fun kk wq => ∃ k : Nat, k ≤ L ∧ kk = .int .i64 (k : Int) ∧ Hid (wq.rowIs w2.heap.size 23 L (fun t => if t < k then .slice (h t).a (h t).vec.length (h t).cap else .slice none 0 0)) ∧ Hid (Below w2.heap.size w2 wq)) (fun kk _ => L - (intOf kk).toNat)
        case atStart => exact ⟨0, by omega, rfl, hrow4, hb4⟩
        case round =>
          obtain ⟨k, hkL, rfl, hrow, hbq⟩ := hrel
          clear hrow4 hb4
          by_cases hk : k < L
          · have hOk := HO2.out.below hbq.out hg2
            have c0 := hOk.c0 k hk
            have c1 := hOk.c1 k hk
            have hcr := hrow.out.cell hk
            rw [if_neg (Nat.lt_irrefl k)] at hcr
            have hfr := hrow.out.frozen k
            obtain ⟨x, hx⟩ : ∃ x, x = h k := ⟨_, rfl⟩
            rw [← hx] at c0 c1
            have hltr := hrow.out.lt
            have e1 : (wr.alloc (.cells #[.int .i64 x.norm, .slice x.a x.vec.length x.cap] 62)).cell? ⟨w2.heap.size, k, none⟩ = some (.slice none 0 0) := by
              rw [((Below.refl wr.heap.size wr).alloc (Nat.le_refl _) _).cell (p := ⟨w2.heap.size, k, none⟩) hltr]; exact hcr
            have e2 : (wr.alloc (.cells #[.int .i64 x.norm, .slice x.a x.vec.length x.cap] 62)).frozen? ⟨w2.heap.size, k, none⟩ = false := by
              rw [((Below.refl wr.heap.size wr).alloc (Nat.le_refl _) _).frozen (p := ⟨w2.heap.size, k, none⟩) hltr]; exact hfr
            have hset : ∀ W : World, W.rowIs w2.heap.size 23 L (fun t => if t < k then .slice (h t).a (h t).vec.length (h t).cap else .slice none 0 0) → Hid ((W.setCell ⟨w2.heap.size, k, none⟩ (.slice x.a x.vec.length x.cap)).rowIs w2.heap.size 23 L (fun t => if t < k + 1 then .slice (h t).a (h t).vec.length (h t).cap else .slice none 0 0)) := fun W hW => by
              refine (hW.set k _).congr fun t ht => ?_
              by_cases e : t = k
              · rw [if_pos e, if_pos (by omega), e, ← hx]
              · rw [if_neg e]
                by_cases e2 : t < k
                · rw [if_pos e2, if_pos (by omega)]
                · rw [if_neg e2, if_neg (by omega)]
            have HSET := Lib.hid hset
            have hkl : (k : Int) < (L : Int) := by omega
            clear hOk hx hset
            go_wp2_with fail
            go_roundw
            case rel =>
              refine ⟨k + 1, by omega, by go_num, ?_, ?_⟩
              · first
                  | exact HSET.out _ (hrow.out.alloc _)
                  | exact (HSET.out _ hrow.out).alloc _
              · first
                  | exact (hbq.out.alloc hbq.out.size _).setCell (p := ⟨w2.heap.size, k, none⟩) (Nat.le_refl _) _
                  | exact (hbq.out.setCell (p := ⟨w2.heap.size, k, none⟩) (Nat.le_refl _) _).alloc (by simpa [World.setCell] using hbq.out.size) _
            case measure => simp [intOf]; omega
          · obtain rfl : k = L := by omega
            obtain ⟨out, hout⟩ : ∃ out, out = (List.range k).map fun t => (h t).vec := ⟨_, rfl⟩
            have hol : out.length = k := by rw [hout]; simp
            have hog : ∀ t, t < k → out.getD t [] = (h t).vec := fun t ht => by rw [hout]; simp [List.getD_eq_getElem?_getD, ht]
            have hend : Hid (GivesList w nh hs ls (.returned (.tuple #[.slice (some ⟨w2.heap.size, 0, none⟩) k k, .bool true])) wr) := by
              refine ⟨.inl ⟨hyes.out, out, some ⟨w2.heap.size, 0, none⟩, k, by rw [hol], ⟨by rw [hol]; exact Nat.le_refl _, fun t ht => ?_⟩, ?_⟩, hB2.out.trans (hbq.out.mono hbs)⟩
              · rw [hol] at ht
                have hc := hrow.out.cell ht
                rw [if_pos ht] at hc
                obtain ⟨h1, h2⟩ := hrd.out t ht
                exact ⟨w2.heap.size, 0, (h t).a, (h t).cap, rfl, by rw [Nat.zero_add, hog t ht]; exact hc, by rw [hog t ht]; exact h1.below hbq.out, by rw [hog t ht]; exact h2⟩
              · refine ⟨h, fun t ht => hbe.out t (by rw [← hol]; exact ht), fun c hc => ?_, fun a b hab hb => HASC.out a b hab (by rw [← hol]; exact hb), fun t ht => hog t (by rw [← hol]; exact ht)⟩
                rw [hol]
                exact hbe2.out c hc
            clear hout hol hog
            go_wp2_with fail
            go_ret2
            exact hend.out
end Go.Proofs.YtpnnbjifhoonkaaGreat
namespace Go.Proofs.YtpnnbjifhoonkaaGreat
open Go.RowKit Go.Shelf

/-- Lists laid one behind the other. -/
def layR : World → List (List Int) → World
  | w, [] => w
  | w, r :: rs => layR (w.alloc (.cells (i64s r).toArray 2)) rs
def outerC (b : Nat) : List (List Int) → List Value
  | [] => []
  | r :: rs => .slice (some ⟨b, 0, none⟩) r.length r.length :: outerC (b + 1) rs
def layM (w : World) (rs : List (List Int)) : World := (layR w rs).alloc (.cells (outerC w.heap.size rs).toArray 23)

theorem ownI_made (w : World) (zs : List Int) : OwnI (w.alloc (.cells (i64s zs).toArray 2)) w.heap.size zs :=
  ⟨_, heap_alloc_new w _, by rw [List.take_of_length_le (by simp [length_i64s])]⟩

theorem size_layR : ∀ (rs : List (List Int)) (w : World), (layR w rs).heap.size = w.heap.size + rs.length
  | [], w => rfl
  | r :: rs, w => by
    show (layR (w.alloc _) rs).heap.size = _
    rw [size_layR rs]
    simp
    omega
theorem below_layR : ∀ (rs : List (List Int)) (w : World), Below w.heap.size w (layR w rs)
  | [], w => Below.refl _ _
  | r :: rs, w => by
    have h1 : Below w.heap.size w (w.alloc (.cells (i64s r).toArray 2)) := (Below.refl _ _).alloc (Nat.le_refl _) _
    exact h1.trans ((below_layR rs _).mono h1.size)
theorem own_layR : ∀ (rs : List (List Int)) (w : World) (i : Nat), i < rs.length → OwnI (layR w rs) (w.heap.size + i) (rs.getD i [])
  | [], w, i, h => absurd h (Nat.not_lt_zero _)
  | r :: rs, w, 0, _ => by
    have h1 := ownI_made w r
    exact h1.below (below_layR rs _) h1.lt
  | r :: rs, w, i + 1, h => by
    have := own_layR rs (w.alloc (.cells (i64s r).toArray 2)) i (by simpa using h)
    rw [show (w.alloc (.cells (i64s r).toArray 2)).heap.size + i = w.heap.size + (i + 1) from by simp; omega] at this
    exact this

theorem outerC_get : ∀ (rs : List (List Int)) (b i : Nat), i < rs.length → (outerC b rs)[i]? = some (.slice (some ⟨b + i, 0, none⟩) (rs.getD i []).length (rs.getD i []).length)
  | [], b, i, h => absurd h (Nat.not_lt_zero _)
  | r :: rs, b, 0, _ => rfl
  | r :: rs, b, i + 1, h => by
    have := outerC_get rs (b + 1) i (by simpa using h)
    rw [show b + 1 + i = b + (i + 1) from by omega] at this
    exact this

theorem rd_layM (w : World) (rs : List (List Int)) (hl : ∀ r ∈ rs, (∀ x ∈ r, I64 x) ∧ r.length ≤ 17592186044416) : RdM (layM w rs) (some ⟨w.heap.size + rs.length, 0, none⟩) rs.length rs := by
  refine ⟨Nat.le_refl _, fun i hi => ⟨w.heap.size + rs.length, 0, some ⟨w.heap.size + i, 0, none⟩, (rs.getD i []).length, rfl, ?_, ?_, ?_⟩⟩
  · have hg := heap_alloc_new (layR w rs) (.cells (outerC w.heap.size rs).toArray 23)
    rw [size_layR] at hg
    unfold layM
    rw [cell_of_row _ _ _ _ _ (0, 0) hg, Nat.zero_add]
    simpa using outerC_get rs w.heap.size i hi
  · have ho := own_layR rs w i hi
    have hm : rs.getD i [] ∈ rs := by
      rw [List.getD_eq_getElem?_getD, List.getElem?_eq_getElem hi]
      exact List.getElem_mem hi
    exact (ho.rd (Nat.le_refl _) (hl _ hm).1).below ((Below.refl _ _).alloc (Nat.le_refl _) _)
  · have hm : rs.getD i [] ∈ rs := by
      rw [List.getD_eq_getElem?_getD, List.getElem?_eq_getElem hi]
      exact List.getElem_mem hi
    exact (hl _ hm).2
theorem below_layM (w : World) (rs : List (List Int)) : Below w.heap.size w (layM w rs) := (below_layR rs w).alloc (by rw [size_layR]; omega) _
theorem size_layM (w : World) (rs : List (List Int)) : (layM w rs).heap.size = w.heap.size + rs.length + 1 := by unfold layM; simp [size_layR]

/-- The form of the examples. -/
def exH : List (List Int) := [[2, 1], [1, 2]]
def exL : List (List Int) := [[-1, 1], [0, 2], [1, -1], [1, 0]]
def exO : List (List Int) := [[1, -1], [1, 0], [0, 2]]

theorem exH_ok : ReadOk exH := by
  refine ⟨⟨by decide, by decide⟩, ?_, ?_⟩
  · intro i hi
    have hi' : i < 2 := hi
    rcases (by omega : i = 0 ∨ i = 1) with rfl | rfl <;> rfl
  · intro i j hj hi
    have hi' : i < 2 := hi
    rcases (by omega : (i = 0 ∧ j = 0) ∨ (i = 1 ∧ j = 0) ∨ (i = 1 ∧ j = 1)) with ⟨rfl, rfl⟩ | ⟨rfl, rfl⟩ | ⟨rfl, rfl⟩ <;> exact ⟨rfl, by decide⟩

theorem exH_red : IsRed exH := by
  refine ⟨exH_ok, ?_⟩
  show Red 2 2 0 (cellsOf exH) 1
  refine ⟨⟨by decide, ?_, .inr (by decide)⟩, ?_, ?_⟩
  · intro i h1 h2
    obtain rfl : i = 1 := by omega
    decide
  · intro i j h1 h2 h3
    obtain rfl : i = 1 := by omega
    obtain rfl : j = 1 := by omega
    decide
  · refine ⟨⟨by decide, fun i h1 h2 => by omega, .inl rfl⟩, fun i j h1 h2 h3 => by omega, ?_⟩
    show next 2 (cellsOf exH) 0 1 (1 + 1 * 8 + 1) ≤ 10000
    decide

theorem lim_unique {S m : Int} (h : IsLim S m) (h1 : -4611686018427387904 ≤ S) (h2 : S ≤ 4611686018427387904) : m = S := by
  obtain ⟨a, b, c⟩ := h
  omega
theorem ex_fine (c : Nat) (hc : c < exL.length) : Fine 2 exH (exL.getD c []) (if c = 1 then 8 else 2) := by
  have hc' : c < 4 := hc
  rcases (by omega : c = 0 ∨ c = 1 ∨ c = 2 ∨ c = 3) with rfl | rfl | rfl | rfl
  all_goals exact ⟨⟨rfl, by decide⟩, by unfold IsLim; decide, by decide⟩

theorem ex_norm (c : Nat) (hc : c < exL.length) {m : Int} (h : Fine 2 exH (exL.getD c []) m) : m = if c = 1 then 8 else 2 := by
  have hc' : c < 4 := hc
  rcases (by omega : c = 0 ∨ c = 1 ∨ c = 2 ∨ c = 3) with rfl | rfl | rfl | rfl
  all_goals exact lim_unique h.2.1 (by decide) (by decide)

theorem ex_all : AllFine 2 exH exL := ⟨exH_red, fun c hc => ⟨_, ex_fine c hc⟩⟩

/-- The three items of the example. -/
def exI : Nat → Item
  | 0 => ⟨2, [1, -1], none, 0⟩
  | 1 => ⟨2, [1, 0], none, 0⟩
  | _ => ⟨8, [0, 2], none, 0⟩

theorem cfN_key {x y x' y' : Item} (h1 : x.norm = x'.norm) (h2 : x.vec = x'.vec) (h3 : y.norm = y'.norm) (h4 : y.vec = y'.vec) : cfN x y = cfN x' y' := by
  unfold cfN
  rw [h1, h2, h3, h4]

theorem ex_class (c : Nat) (hc : c < exL.length) {h : Item} (hb : Belongs 2 exH (exL.getD c []) h) : ∃ k, k < 3 ∧ h.norm = (exI k).norm ∧ h.vec = (exI k).vec ∧ (k = if c = 1 then 2 else if c = 3 then 1 else 0) := by
  have hn := ex_norm c hc hb.1
  have hv := hb.2
  have hc' : c < 4 := hc
  rcases (by omega : c = 0 ∨ c = 1 ∨ c = 2 ∨ c = 3) with rfl | rfl | rfl | rfl
  · exact ⟨0, by omega, hn, hv, rfl⟩
  · exact ⟨2, by omega, hn, hv, rfl⟩
  · exact ⟨0, by omega, hn, hv, rfl⟩
  · exact ⟨1, by omega, hn, hv, rfl⟩

theorem exI_lt (a b : Nat) (ha : a < 3) (hb : b < 3) (h : cfN (exI a) (exI b) < 0) : a < b := by
  rcases (by omega : a = 0 ∨ a = 1 ∨ a = 2) with rfl | rfl | rfl <;> rcases (by omega : b = 0 ∨ b = 1 ∨ b = 2) with rfl | rfl | rfl <;> first | omega | exact absurd h (by decide)

theorem ex_out {out : List (List Int)} (h : IsList 2 exH exL out) : out = exO := by
  obtain ⟨g, hA, hB, hC, hD⟩ := h
  have hk : ∀ i, ∃ k, i < out.length → k < 3 ∧ (g i).norm = (exI k).norm ∧ (g i).vec = (exI k).vec := by
    intro i
    by_cases hi : i < out.length
    · obtain ⟨c, hc, hb⟩ := hA i hi
      obtain ⟨k, h1, h2, h3, _⟩ := ex_class c hc hb
      exact ⟨k, fun _ => ⟨h1, h2, h3⟩⟩
    · exact ⟨0, fun h => absurd h hi⟩
  obtain ⟨k, hk⟩ := Classical.axiomOfChoice hk
  have hasc : ∀ i j, i < j → j < out.length → k i < k j := by
    intro i j hij hj
    obtain ⟨a1, a2, a3⟩ := hk i (by omega)
    obtain ⟨b1, b2, b3⟩ := hk j hj
    have := hC i j hij hj
    rw [cfN_key a2 a3 b2 b3] at this
    exact exI_lt _ _ a1 b1 this
  have hsur : ∀ c, c < 4 → ∃ i, i < out.length ∧ k i = if c = 1 then 2 else if c = 3 then 1 else 0 := by
    intro c hc
    obtain ⟨i, hi, hb⟩ := hB c hc
    obtain ⟨k', h1, h2, h3, h4⟩ := ex_class c hc hb
    obtain ⟨a1, a2, a3⟩ := hk i hi
    refine ⟨i, hi, ?_⟩
    rw [← h4]
    have e1 : (exI (k i)).norm = (exI k').norm := by rw [← a2, h2]
    have e2 : (exI (k i)).vec = (exI k').vec := by rw [← a3, h3]
    rcases (by omega : k i = 0 ∨ k i = 1 ∨ k i = 2) with e | e | e <;> rcases (by omega : k' = 0 ∨ k' = 1 ∨ k' = 2) with e' | e' | e' <;> rw [e, e'] at e1 e2 <;> first | omega | exact absurd e1 (by decide) | exact absurd e2 (by decide)
  obtain ⟨i0, h0, e0⟩ := hsur 0 (by omega)
  obtain ⟨i1, h1, e1⟩ := hsur 3 (by omega)
  obtain ⟨i2, h2, e2⟩ := hsur 1 (by omega)
  have f0 : k i0 = 0 := e0
  have f1 : k i1 = 1 := e1
  have f2 : k i2 = 2 := e2
  have l01 : i0 < i1 := by
    rcases Nat.lt_trichotomy i0 i1 with h | h | h
    · exact h
    · subst h; omega
    · have := hasc i1 i0 h h0; omega
  have l12 : i1 < i2 := by
    rcases Nat.lt_trichotomy i1 i2 with h | h | h
    · exact h
    · subst h; omega
    · have := hasc i2 i1 h h1; omega
  have hlen : out.length = 3 := by
    by_cases h : 3 < out.length
    · have a := hasc 0 1 (by omega) (by omega)
      have b := hasc 1 2 (by omega) (by omega)
      have c := hasc 2 3 (by omega) h
      have := (hk 3 h).1
      omega
    · omega
  have a := hasc 0 1 (by omega) (by omega)
  have b := hasc 1 2 (by omega) (by omega)
  have c := (hk 2 (by omega)).1
  have k0 : k 0 = 0 := by omega
  have k1 : k 1 = 1 := by omega
  have k2 : k 2 = 2 := by omega
  have g0 := hD 0 (by omega)
  have g1 := hD 1 (by omega)
  have g2 := hD 2 (by omega)
  rw [(hk 0 (by omega)).2.2, k0] at g0
  rw [(hk 1 (by omega)).2.2, k1] at g1
  rw [(hk 2 (by omega)).2.2, k2] at g2
  match out, hlen with
  | [x, y, z], _ =>
    have g0' : x = [1, -1] := g0
    have g1' : y = [1, 0] := g1
    have g2' : z = [0, 2] := g2
    rw [g0', g1', g2']
    rfl

theorem layM_eq (V : World) (rs : List (List Int)) {b : Nat} (hb : V.heap.size = b) : layM V rs = (layR V rs).alloc (.cells (outerC b rs).toArray 23) := by subst hb; rfl

theorem ex_sign : sgnL [0, -3, 1] ≠ 0 ∧ InR [0, -3, 1] := ⟨by decide, by decide⟩

theorem rd_made (w : World) (zs : List Int) (h : ∀ x ∈ zs, I64 x) : RdI (w.alloc (.cells (i64s zs).toArray 2)) (some ⟨w.heap.size, 0, none⟩) zs.length zs := (ownI_made w zs).rd (Nat.le_refl _) h

theorem small_I64 : (∀ r ∈ exH, (∀ x ∈ r, I64 x) ∧ r.length ≤ 17592186044416) ∧ (∀ r ∈ exL, (∀ x ∈ r, I64 x) ∧ r.length ≤ 17592186044416) ∧ (∀ r ∈ exO, (∀ x ∈ r, I64 x) ∧ r.length ≤ 17592186044416) := by
  refine ⟨?_, ?_, ?_⟩ <;> (unfold I64; decide)

set_option maxRecDepth 100000 in
set_option maxHeartbeats 4000000 in
theorem vawake_any (w : World) : Calls Tryz.prog 8 #[] w fun e w' => e = .returned (.bool true) ∧ Below w.heap.size w w' := by
  have s1 : (layM w exH).heap.size = w.heap.size + 1 + 1 + 1 := size_layM w exH
  obtain ⟨V, hV⟩ : ∃ V, V = layM (layM w exH) exL := ⟨_, rfl⟩
  have HW8 : Hid (((((((((w.alloc (.cells #[.int .i64 2, .int .i64 1] 2)).alloc (.cells #[.int .i64 1, .int .i64 2] 2)).alloc (.cells #[.slice (some ⟨w.heap.size, 0, none⟩) 2 2, .slice (some ⟨w.heap.size + 1, 0, none⟩) 2 2] 23)).alloc
      (.cells #[.int .i64 (-1), .int .i64 1] 2)).alloc (.cells #[.int .i64 0, .int .i64 2] 2)).alloc (.cells #[.int .i64 1, .int .i64 (-1)] 2)).alloc (.cells #[.int .i64 1, .int .i64 0] 2)).alloc
      (.cells #[.slice (some ⟨w.heap.size + 1 + 1 + 1, 0, none⟩) 2 2, .slice (some ⟨w.heap.size + 1 + 1 + 1 + 1, 0, none⟩) 2 2, .slice (some ⟨w.heap.size + 1 + 1 + 1 + 1 + 1, 0, none⟩) 2 2, .slice (some ⟨w.heap.size + 1 + 1 + 1 + 1 + 1 + 1, 0, none⟩) 2 2] 23)) = V) := by
    unfold Hid
    rw [hV, layM_eq _ exL s1]
    rfl
  have hbV : Below w.heap.size w V := by
    rw [hV]
    exact (below_layM w exH).trans ((below_layM _ exL).mono (by rw [s1]; omega))
  have hH : RdM V (some ⟨w.heap.size + 1 + 1, 0, none⟩) 2 exH := by
    rw [hV]
    exact (rd_layM w exH small_I64.1).below (below_layM _ exL)
  have hL : RdM V (some ⟨w.heap.size + 1 + 1 + 1 + 1 + 1 + 1 + 1, 0, none⟩) 4 exL := by
    rw [hV]
    have h := rd_layM (layM w exH) exL small_I64.2.1
    rw [s1] at h
    exact h
  have HH := Lib.hid hH
  have HL := Lib.hid hL
  have HBV := Lib.hid hbV
  clear hV s1 hbV hH hL
  go_enter Tryz.func8, Tryz.ntmps8
  go_wp2_with fail
  rw [HW8.out]
  refine (sortUnique2_any _ _ 2 2 4 4 exH exL V HH.out rfl (by omega) HL.out rfl (by omega) (by omega)).mono ?_
  rintro e w1 ⟨(⟨_, out, ao, co, rfl, hro, hlist⟩ | ⟨hno, _⟩), hb1⟩
  · obtain rfl := ex_out hlist
    have hb1' : Hid (Below w.heap.size w w1) := HBV.out.trans (hb1.mono HBV.out.size)
    obtain ⟨W2, hW2⟩ : ∃ W, W = w1.alloc (.cells #[.int .i64 1, .int .i64 (-1)] 2) := ⟨_, rfl⟩
    have hb2 : Below w1.heap.size w1 W2 := by rw [hW2]; exact (Below.refl _ _).alloc (Nat.le_refl _) _
    have HW2 : Hid (w1.alloc (.cells #[.int .i64 1, .int .i64 (-1)] 2) = W2) := hW2.symm
    have hr2 : Hid (RdI W2 (some ⟨w1.heap.size, 0, none⟩) 2 [1, -1]) := by rw [hW2]; exact rd_made w1 [1, -1] (by unfold I64; decide)
    have hH2 : Hid (RdM W2 (some ⟨w.heap.size + 1 + 1, 0, none⟩) 2 exH) := (HH.out.below hb1).below hb2
    have hO2 : Hid (RdM W2 ao co exO) := hro.below hb2
    have hB2 : Hid (Below w.heap.size w W2) := hb1'.out.trans (hb2.mono hb1'.out.size)
    clear hb1 hro hlist hW2 hb2
    have hlen : exO.length = 3 := rfl
    rw [hlen]
    clear hlen
    go_wp2_with fail
    rw [HW2.out]
    refine (norm_any _ _ 2 2 2 2 exH [1, -1] W2 hH2.out rfl (by omega) hr2.out rfl (by omega)).mono ?_
    rintro e w3 ⟨(⟨m, hp, hm, rfl⟩ | ⟨hno, _⟩), hb3⟩
    · have hm2 : m = 2 := lim_unique (S := innerS exH [1, -1] [1, -1] 2) hm (by decide) (by decide)
      subst hm2
      have hB3 : Hid (Below w.heap.size w w3) := hB2.out.trans (hb3.mono hB2.out.size)
      have hO3 : Hid (RdM w3 ao co exO) := hO2.out.below hb3
      obtain ⟨W4, hW4⟩ : ∃ W, W = w3.alloc (.cells #[.int .i64 0, .int .i64 (-3), .int .i64 1] 2) := ⟨_, rfl⟩
      have hb4 : Below w3.heap.size w3 W4 := by rw [hW4]; exact (Below.refl _ _).alloc (Nat.le_refl _) _
      have HW4 : Hid (w3.alloc (.cells #[.int .i64 0, .int .i64 (-3), .int .i64 1] 2) = W4) := hW4.symm
      have hr4 : Hid (RdI W4 (some ⟨w3.heap.size, 0, none⟩) 3 [0, -3, 1]) := by rw [hW4]; exact rd_made w3 [0, -3, 1] (by unfold I64; decide)
      have hO4 : Hid (RdM W4 ao co exO) := hO3.out.below hb4
      have hB4 : Hid (Below w.heap.size w W4) := hB3.out.trans (hb4.mono hB3.out.size)
      clear hb3 hW4 hb4 hp hm
      go_wp2_with fail
      rw [HW4.out]
      refine (csign_any _ 3 3 [0, -3, 1] W4 hr4.out rfl (by omega)).mono ?_
      rintro e w5 ⟨(⟨_, _, gx, cx, rfl, hcx, _, hox⟩ | ⟨hno, _⟩), hb5⟩
      · have hB5 : Hid (Below w.heap.size w w5) := hB4.out.trans (hb5.mono hB4.out.size)
        have hO5 : Hid (RdM w5 ao co exO) := hO4.out.below hb5
        have hx5 : Hid (RdI w5 (some ⟨gx, 0, none⟩) cx [0, 3, -1]) := by
          have e : canonL [0, -3, 1] = [0, 3, -1] := by decide
          rw [e] at hox
          exact hox.rd hcx (by unfold I64; decide)
        obtain ⟨W6, hW6⟩ : ∃ W, W = layM w5 exO := ⟨_, rfl⟩
        have hb6 : Below w5.heap.size w5 W6 := by rw [hW6]; exact below_layM w5 exO
        have hE6 : Hid (RdM W6 (some ⟨w5.heap.size + 1 + 1 + 1, 0, none⟩) 3 exO) := by rw [hW6]; exact rd_layM w5 exO small_I64.2.2
        have HW6 : Hid ((((w5.alloc (.cells #[.int .i64 1, .int .i64 (-1)] 2)).alloc (.cells #[.int .i64 1, .int .i64 0] 2)).alloc (.cells #[.int .i64 0, .int .i64 2] 2)).alloc
            (.cells #[.slice (some ⟨w5.heap.size, 0, none⟩) 2 2, .slice (some ⟨w5.heap.size + 1, 0, none⟩) 2 2, .slice (some ⟨w5.heap.size + 1 + 1, 0, none⟩) 2 2] 23) = W6) := by
          unfold Hid
          rw [hW6]; rfl
        have hO6 : Hid (RdM W6 ao co exO) := hO5.out.below hb6
        have hx6 : Hid (RdI W6 (some ⟨gx, 0, none⟩) cx [0, 3, -1]) := hx5.out.below hb6
        have hB6 : Hid (Below w.heap.size w W6) := hB5.out.trans (hb6.mono hB5.out.size)
        have hlx : ([0, -3, 1] : List Int).length = 3 := rfl
        rw [hlx]
        clear hlx hb5 hox hcx hW6 hb6
        go_wp2_with fail
        rw [HW6.out]
        refine (rsame_any ao _ 3 co 3 3 exO exO W6 hO6.out rfl hE6.out rfl (by omega) (by omega)).mono ?_
        rintro e w7 ⟨r, rfl, hr, q, rfl⟩
        have hrt : r = true := hr.2 ⟨rfl, fun _ _ => rfl⟩
        subst hrt
        have hx7 : RdI (W6.drewN q) (some ⟨gx, 0, none⟩) cx [0, 3, -1] := hx6.out.below (below_drewN' (Below.refl _ _) q)
        obtain ⟨W8, hW8⟩ : ∃ W, W = (W6.drewN q).alloc (.cells #[.int .i64 0, .int .i64 3, .int .i64 (-1)] 2) := ⟨_, rfl⟩
        have hb8 : Below (W6.drewN q).heap.size (W6.drewN q) W8 := by rw [hW8]; exact (Below.refl _ _).alloc (Nat.le_refl _) _
        have HW8b : Hid ((W6.drewN q).alloc (.cells #[.int .i64 0, .int .i64 3, .int .i64 (-1)] 2) = W8) := hW8.symm
        have hx8 : Hid (RdI W8 (some ⟨gx, 0, none⟩) cx [0, 3, -1]) := hx7.below hb8
        have hy8 : Hid (RdI W8 (some ⟨W6.heap.size, 0, none⟩) 3 [0, 3, -1]) := by rw [hW8]; exact rd_made (W6.drewN q) [0, 3, -1] (by unfold I64; decide)
        have hB8 : Hid (Below w.heap.size w W8) := by
          have h := below_drewN' hB6.out q
          exact h.trans (hb8.mono h.size)
        clear hr hx7 hW8 hb8
        go_wp2_with fail
        rw [HW8b.out]
        refine (rcompare_any _ _ 3 cx 3 3 [0, 3, -1] [0, 3, -1] W8 hx8.out rfl hy8.out rfl (by omega) (by omega)).mono ?_
        rintro e w9 ⟨rfl, q2, rfl⟩
        rw [cmpL_self0]
        have hB9 : Hid (Below w.heap.size w (W8.drewN q2)) := below_drewN' hB8.out q2
        go_wp2_with fail
        go_ret
        exact ⟨rfl, hB9.out⟩
      · exact absurd ex_sign hno
    · exact absurd ⟨⟨exH_red, ⟨rfl, by decide⟩, ⟨rfl, by decide⟩⟩, by unfold IsLim; decide⟩ (hno 2)
  · exact absurd ex_all hno
end Go.Proofs.YtpnnbjifhoonkaaGreat
namespace Go.Proofs.YtpnnbjifhoonkaaGreat
open Go.RowKit Go.Shelf

set_option maxRecDepth 100000 in
set_option maxHeartbeats 1000000 in
theorem rinside_any (a : Option Addr) (n cap : Nat) (xs : List Int) (w : World) (hr : RdI w a cap xs) (hl : xs.length = n) (hn : n ≤ 100000000000000) :
    Calls Tryz.prog 46 #[.slice a n cap] w fun e w' => e = .returned (.bool (decide (InR xs))) ∧ w = w' := by
  have hc := hr.cells
  have hg := hr.get
  have HL := Lib.hid hl
  have HC := Lib.hid hc
  have HG := Lib.hid hg
  clear hr hl hc hg
  go_enter Tryz.func46, Tryz.ntmps46
  go_wp2
  go_loop [7] (fun ii => ∃ i : Nat, i ≤ n ∧ ii = .int .i64 (i : Int) ∧ Hid (∀ c, c < i → -1099511627776 ≤ xs.getD c 0 ∧ xs.getD c 0 ≤ 1099511627776)) (fun ii => n - (intOf ii).toNat)
  case atStart => exact ⟨0, by omega, rfl, fun c hc => by omega⟩
  case round =>
    obtain ⟨i, hin, rfl, hall⟩ := hrel
    by_cases hi : i < n
    · obtain ⟨b, o, rfl, hcell⟩ := HC.out i (by rw [HL.out]; exact hi)
      obtain ⟨x, hx⟩ : ∃ x, x = xs.getD i 0 := ⟨_, rfl⟩
      rw [← hx] at hcell
      have hno : ¬(-1099511627776 ≤ x ∧ x ≤ 1099511627776) → decide (InR xs) = false := fun h => decide_eq_false fun h2 => h (by rw [hx]; exact h2 i (by rw [HL.out]; exact hi))
      have HNO := Lib.hid hno
      have HX := Lib.hid hx
      clear hno hx
      by_cases h1 : x < -1099511627776
      · have d1 : decide (x < -1099511627776) = true := decide_eq_true h1
        have HE : Hid (decide (InR xs) = false) := HNO.out (by omega)
        clear h1
        go_wp2
        go_ret
        exact ⟨by rw [HE.out]; rfl, rfl⟩
      · have d1 : decide (x < -1099511627776) = false := decide_eq_false h1
        by_cases h2 : 1099511627776 < x
        · have d2 : decide (1099511627776 < x) = true := decide_eq_true h2
          have HE : Hid (decide (InR xs) = false) := HNO.out (by omega)
          clear h1 h2
          go_wp2
          go_ret
          exact ⟨by rw [HE.out]; rfl, rfl⟩
        · have d2 : decide (1099511627776 < x) = false := decide_eq_false h2
          have hnx : Hid (∀ c, c < i + 1 → -1099511627776 ≤ xs.getD c 0 ∧ xs.getD c 0 ≤ 1099511627776) := fun c hc => by
            by_cases e : c = i
            · rw [e, ← HX.out]; omega
            · exact hall.out c (by omega)
          clear h1 h2
          go_wp2
          go_round
          case rel => exact ⟨i + 1, by omega, by go_num, hnx⟩
          case measure => simp [intOf]; omega
    · obtain rfl : i = n := by omega
      have HE : Hid (decide (InR xs) = true) := decide_eq_true fun c hc => hall.out c (by rw [← HL.out]; exact hc)
      go_wp2
      go_ret
      exact ⟨by rw [HE.out]; rfl, rfl⟩

end Go.Proofs.YtpnnbjifhoonkaaGreat
