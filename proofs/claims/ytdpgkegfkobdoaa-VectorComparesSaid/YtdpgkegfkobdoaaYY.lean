/-
  The walk of VectorCompares.
-/
import Derived.Test.YtdpgkegfkobdoaaYS
import Derived.Test.YtdpgkegfkobdoaaYT
import Derived.Test.YtdpgkegfkobdoaaYV
import Derived.Laws.AppendOwn
import Derived.Laws.AppendOwnNone
namespace Go.Proofs.Ytdpgkegfkobdoaa
open Go.RowKit Go.Shelf

theorem i64s_app (a b : List Int) : i64s (a ++ b) = i64s a ++ i64s b := by simp [i64s]

/-- 'append' to an own row of numbers: of any list of numbers, nil or not. -/
theorem wpList_append_i64 {w : World} {ops : Array Oper} {rest : List Oper} {o : Oper} {a : Act} {Q : Exit → Act → World → Prop} (hgd : o.guard = none) (s x : Operand)
    (ho : o.op = .call { callee := .builtin .append, args := #[s, x], argTypes := #[22, 22] })
    (base : Nat) (v : Value) (n : Nat) (zs : List Int) (hs : a.eval s = v) (hown : w.ownsRow base 2 1 v n (i64s zs))
    (ad : Option Addr) (m c : Nat) (ys : List Int) (hx : a.eval x = .slice ad m c) (hr : RdI w ad c ys) (hl : ys.length = m) (hc : ad = none → c = 0) (hn : n + m ≤ 17592186044416) (hbase : base ≤ w.heap.size)
    (h : ∀ v' w', w'.ownsRow base 2 1 v' (n + m) (i64s (zs ++ ys)) → w.grownBy w' v.ownBlock → wpList Try.prog ops Q rest (a.put o.dst v') w') : wpList Try.prog ops Q (o :: rest) a w := by
  have hi : ∃ i, Try.prog.info? 2 = some i ∧ (i.zero, i.size, i.bytes) = (some (.int .i64 0), 1, 8) := by
    have h := infoI64
    cases e : Try.prog.info? 2 with
    | none => rw [e] at h; cases h
    | some i => rw [e] at h; exact ⟨i, rfl, by simpa using h⟩
  obtain ⟨i, hi, hz⟩ := hi
  simp only [Prod.mk.injEq] at hz
  cases ad with
  | none =>
    obtain rfl := hc rfl
    have h0 : ys = [] := by
      rcases ys with _ | ⟨y, r⟩
      · rfl
      · obtain ⟨b, o, e, _⟩ := hr.cells 0 (by simp)
        cases e
    subst h0
    obtain rfl : m = 0 := by simpa using hl.symm
    refine wpList_append_own_none hgd s x 22 ho base 2 i 1 Try.underlying22 hi v n (i64s zs) hs hown hx ?_
    refine h v w (by simpa using hown) ⟨rfl, rfl, rfl, Nat.le_refl _, fun _ _ _ => rfl⟩
  | some ad =>
    refine wpList_append_own w hgd s x 22 ho base 2 i (.int .i64 0) 1 8 Try.underlying22 hi hz.1 hz.2.1 hz.2.2 rfl (by decide) v n (i64s zs) hs hown ad m c (i64s ys) hx (by simp [i64s, hl]) ?_ ?_ (by unfold maxLen; omega) (by omega) hbase ?_
    · intro j u hj
      have hjl : j < ys.length := by
        have := (List.getElem?_eq_some_iff.1 hj).1
        simpa [i64s] using this
      obtain ⟨b, o, e, hcell⟩ := hr.cells j hjl
      simp only [Option.some.injEq] at e
      subst e
      rw [i64s_get ys j hjl] at hj
      simp only [Option.some.injEq] at hj
      subst hj
      have hadd : (⟨b, o, none⟩ : Addr).add j = ⟨b, o + j, none⟩ := by unfold Addr.add; split <;> simp_all
      rw [hadd]
      exact hcell
    · intro u hu
      obtain ⟨z, _, rfl⟩ := List.mem_map.1 hu
      rfl
    · intro v' w' h1 h2 _
      exact h v' w' (by rw [i64s_app]; exact h1) h2

theorem rd_ownsRow {w : World} {B n : Nat} {v : Value} {zs : List Int} (h : w.ownsRow B 2 1 v n (i64s zs)) (hlim : ∀ x ∈ zs, I64 x) : ∃ a cap, v = .slice a n cap ∧ RdI w a cap zs ∧ (a = none → cap = 0) ∧ zs.length = n := by
  have hl : zs.length = n := by have := h.1; simpa [i64s] using this
  rcases h.2 with ⟨rfl, rfl⟩ | ⟨g, cap, cur, rfl, hb, hg, hn, hm, hs, ht⟩
  · have : zs = [] := List.length_eq_zero_iff.1 hl
    subst this
    exact ⟨none, 0, rfl, RdI.nil _ _ _, fun _ => rfl, rfl⟩
  · refine ⟨some ⟨g, 0, none⟩, cap, rfl, ?_, (fun h => by cases h), hl⟩
    have ho : OwnI w g zs := ⟨cur, hg, by rw [hl]; simpa using ht⟩
    exact ho.rd (by omega) hlim

set_option maxRecDepth 100000 in
set_option maxHeartbeats 4000000 in
theorem vectorCompares_walk (xa ya : Option Addr) (nx capx ny capy k : Nat) (xs ys : List Int) (w : World) (rx : RdI w xa capx xs) (hlx : xs.length = nx) (hnx : nx ≤ 17592186043904) (hcx : xa = none → capx = 0)
    (ry : RdI w ya capy ys) (hly : ys.length = ny) (hny : ny ≤ 17592186043904) (hcy : ya = none → capy = 0) (hk : k ≤ 255) :
    Calls Try.prog 3 #[.slice xa nx capx, .slice ya ny capy, .int .u8 (k : Int)] w fun e w' => e = .returned (.bool true) ∧ Below w.heap.size w w' := by
  have HX := Lib.hid rx
  have HY := Lib.hid ry
  have HLX := Lib.hid hlx
  have HLY := Lib.hid hly
  obtain ⟨m, hm⟩ : ∃ m : Nat, min (nx : Int) ((k : Int) % 8) = (m : Int) := ⟨min nx (k % 8), by omega⟩
  have hm1 : m ≤ nx := by omega
  have hm2 : m ≤ 7 := by omega
  have hm3 : m ≤ capx := by have := rx.fits; omega
  have HXT : Hid (RdI w xa capx (xs.take m)) := by
    refine ⟨by rw [List.length_take]; omega, fun x hx => rx.lim x (List.mem_of_mem_take hx), fun i hi => ?_⟩
    rw [List.length_take] at hi
    obtain ⟨b, o, e, h⟩ := rx.cells i (by omega)
    refine ⟨b, o, e, ?_⟩
    rw [h]
    simp [List.getD_eq_getElem?_getD, List.getElem?_take, show i < m by omega]
  have HLT : Hid ((xs.take m).length = m) := by unfold Hid; rw [List.length_take]; omega
  clear rx ry hlx hly
  go_enter Try.func3, Try.ntmps3
  go_wp2_with (at_builtin; refine wpList_append_i64 rfl _ _ rfl w.heap.size _ 0 [] rfl ⟨rfl, .inl ⟨rfl, rfl⟩⟩ xa m capx (xs.take m) rfl HXT.out HLT.out hcx (by omega) (Nat.le_refl _) ?_)
  intro v1 w1 hown1 hg1
  have hb1 : Below w.heap.size w w1 := (Below.refl _ _).grown hg1 (Nat.le_refl _) (fun k hk => by simp [Value.ownBlock] at hk)
  have hown1' : w1.ownsRow w.heap.size 2 1 v1 m (i64s (xs.take m)) := by simpa using hown1
  have HO1 := Lib.hid hown1'
  have HB1 := Lib.hid hb1
  have HY1 : Hid (RdI w1 ya capy ys) := HY.out.below hb1
  clear hown1 hg1 hown1' hb1
  go_wp2_with (at_builtin; refine wpList_append_i64 rfl _ _ rfl w.heap.size v1 m (xs.take m) rfl HO1.out ya ny capy ys rfl HY1.out HLY.out hcy (by omega) HB1.out.size ?_)
  intro v2 w2 hown2 hg2
  have hb2 : Below w.heap.size w w2 := HB1.out.grown hg2 HB1.out.size (fun k hk => (HO1.out.lt k hk).1)
  obtain ⟨wa, capw, rfl, hrw, -, hlw⟩ := rd_ownsRow hown2 (fun x hx => (List.mem_append.1 hx).elim (HXT.out.lim x) (HY.out.lim x))
  obtain ⟨ws, hws⟩ : ∃ ws, ws = xs.take m ++ ys := ⟨_, rfl⟩
  rw [← hws] at hrw hlw
  obtain ⟨nw, hnw⟩ : ∃ nw, nw = m + ny := ⟨_, rfl⟩
  rw [← hnw] at hlw
  have hnw2 : nw ≤ 17592186044416 := by omega
  rw [← hnw]
  have HW2 := Lib.hid hrw
  have HLW := Lib.hid hlw
  have HB2 := Lib.hid hb2
  have HX2 : Hid (RdI w2 xa capx xs) := HX.out.below hb2
  have HY2 : Hid (RdI w2 ya capy ys) := HY.out.below hb2
  clear hown2 hg2 hb2 hrw hlw hws hnw HY1 HB1 HO1 HXT HLT
  have hq : ∀ q, Hid (RdI (w2.drewN q) xa capx xs) ∧ Hid (RdI (w2.drewN q) ya capy ys) ∧ Hid (RdI (w2.drewN q) wa capw ws) ∧ Hid (Below w.heap.size w (w2.drewN q)) := fun q =>
    ⟨HX2.out.below (below_drewN' (Below.refl _ _) q), HY2.out.below (below_drewN' (Below.refl _ _) q), HW2.out.below (below_drewN' (Below.refl _ _) q), below_drewN' HB2.out q⟩
  have HQ := Lib.hid hq
  clear hq
  go_wp2_with fail
  refine (compare_any xa ya nx capx ny capy xs ys w2 HX2.out HLX.out HY2.out HLY.out (by omega) (by omega)).mono ?_
  rintro e w3 ⟨rfl, rfl⟩
  obtain ⟨c1, hc1⟩ : ∃ c, c = cmpL xs ys := ⟨_, rfl⟩
  rw [← hc1]
  have HC1 := Lib.hid hc1
  clear hc1
  go_wp2_with fail
  refine (rcompare_any xa ya nx capx ny capy xs ys w3 HX2.out HLX.out HY2.out HLY.out (by omega) (by omega)).mono ?_
  rintro e w4 ⟨rfl, q1, rfl⟩
  rw [← HC1.out]
  have HA := HQ.out q1
  have HXd1 := Lib.hid HA.1.out
  have HYd1 := Lib.hid HA.2.1.out
  clear HA
  go_wp2_with fail
  refine (compare_any ya xa ny capy nx capx ys xs (w3.drewN q1) HYd1.out HLY.out HXd1.out HLX.out (by omega) (by omega)).mono ?_
  rintro e w5 ⟨rfl, rfl⟩
  obtain ⟨c2, hc1⟩ : ∃ c, c = cmpL ys xs := ⟨_, rfl⟩
  rw [← hc1]
  have HC2 := Lib.hid hc1
  clear hc1
  go_wp2_with fail
  refine (rcompare_any ya xa ny capy nx capx ys xs (w3.drewN q1) HYd1.out HLY.out HXd1.out HLX.out (by omega) (by omega)).mono ?_
  rintro e w4 ⟨rfl, r1, rfl⟩
  rw [← HC2.out]
  rw [World.drewN_drewN]
  obtain ⟨q2, hq⟩ : ∃ q, q = q1 + r1 := ⟨_, rfl⟩
  rw [← hq]
  have HA := HQ.out q2
  have HXd2 := Lib.hid HA.1.out
  have HYd2 := Lib.hid HA.2.1.out
  have HWd2 := Lib.hid HA.2.2.1.out
  have HBd2 := Lib.hid HA.2.2.2.out
  clear HA hq
  go_wp2_with fail
  refine (compare_any xa wa nx capx nw capw xs ws (w3.drewN q2) HXd2.out HLX.out HWd2.out HLW.out (by omega) (by omega)).mono ?_
  rintro e w5 ⟨rfl, rfl⟩
  obtain ⟨c3, hc1⟩ : ∃ c, c = cmpL xs ws := ⟨_, rfl⟩
  rw [← hc1]
  have HC3 := Lib.hid hc1
  clear hc1
  go_wp2_with fail
  refine (rcompare_any xa wa nx capx nw capw xs ws (w3.drewN q2) HXd2.out HLX.out HWd2.out HLW.out (by omega) (by omega)).mono ?_
  rintro e w4 ⟨rfl, r2, rfl⟩
  rw [← HC3.out]
  rw [World.drewN_drewN]
  obtain ⟨q3, hq⟩ : ∃ q, q = q2 + r2 := ⟨_, rfl⟩
  rw [← hq]
  have HA := HQ.out q3
  have HXd3 := Lib.hid HA.1.out
  have HYd3 := Lib.hid HA.2.1.out
  have HWd3 := Lib.hid HA.2.2.1.out
  have HBd3 := Lib.hid HA.2.2.2.out
  clear HA hq
  go_wp2_with fail
  refine (compare_any xa xa nx capx nx capx xs xs (w3.drewN q3) HXd3.out HLX.out HXd3.out HLX.out (by omega) (by omega)).mono ?_
  rintro e w5 ⟨rfl, rfl⟩
  rw [cmpL_self0]
  go_wp2_with fail
  refine (vawake_any (w3.drewN q3)).mono ?_
  rintro e w6 ⟨rfl, hb6⟩
  have HB6 : Hid (Below w.heap.size w w6) := HBd3.out.trans (hb6.mono HBd3.out.size)
  clear hb6
  go_wp2_with fail
  go_ret
  exact ⟨rfl, HB6.out⟩
end Go.Proofs.Ytdpgkegfkobdoaa
