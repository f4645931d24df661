/-
  The walk of VectorSigns.
-/
import Derived.Test.YtdpgkegfkobdoaaYZ
import Derived.Test.YtdpgkegfkobdoaaYV
import Derived.Test.YtdpgkegfkobdoaaYT
namespace Go.Proofs.Ytdpgkegfkobdoaa
open Go.RowKit Go.Shelf

/-- What both give, read: the same. -/
theorem sign_read {w w' : World} {xs : List Int} {e : Ending} (h : GivesSign w xs e w') : ∃ a n c ok zs, e = .returned (.tuple #[.slice a n c, .bool ok]) ∧ RdI w' a c zs ∧ zs.length = n ∧ n ≤ xs.length ∧ ok = decide (sgnL xs ≠ 0 ∧ InR xs) ∧ zs = (if sgnL xs ≠ 0 ∧ InR xs then canonL xs else []) ∧ Below w.heap.size w w' := by
  rcases h with ⟨⟨h1, h2, g, c, rfl, hc, _, ho⟩ | ⟨hno, rfl⟩, hb⟩
  · have hyes : sgnL xs ≠ 0 ∧ InR xs := ⟨h1, h2⟩
    exact ⟨some ⟨g, 0, none⟩, xs.length, c, true, canonL xs, rfl, ho.rd (by rw [length_canonL]; exact hc) (canonL_lim h2), length_canonL xs, Nat.le_refl _, (decide_eq_true hyes).symm, (if_pos hyes).symm, hb⟩
  · exact ⟨none, 0, 0, false, [], rfl, RdI.nil _ _ _, rfl, Nat.zero_le _, (decide_eq_false hno).symm, (if_neg hno).symm, hb⟩
theorem rsign_read {w w' : World} {xs : List Int} {e : Ending} (h : GivesRSign w xs e w') : ∃ a n c ok zs, e = .returned (.tuple #[.slice a n c, .bool ok]) ∧ RdI w' a c zs ∧ zs.length = n ∧ n ≤ xs.length ∧ ok = decide (sgnL xs ≠ 0 ∧ InR xs) ∧ zs = (if sgnL xs ≠ 0 ∧ InR xs then canonL xs else []) ∧ Below w.heap.size w w' := by
  rcases h with ⟨⟨h1, h2, a, c, rfl, ho⟩ | ⟨hno, rfl⟩, hb⟩
  · have hyes : sgnL xs ≠ 0 ∧ InR xs := ⟨h1, h2⟩
    exact ⟨a, xs.length, c, true, canonL xs, rfl, ho, length_canonL xs, Nat.le_refl _, (decide_eq_true hyes).symm, (if_pos hyes).symm, hb⟩
  · exact ⟨none, 0, 0, false, [], rfl, RdI.nil _ _ _, rfl, Nat.zero_le _, (decide_eq_false hno).symm, (if_neg hno).symm, hb⟩

theorem tapeL_lim {ks : List Int} {n : Nat} (h : ∀ i, -128 ≤ ks.getD i 0 ∧ ks.getD i 0 ≤ 127) : ∀ x ∈ tapeL ks n, I64 x := by
  intro x hx
  obtain ⟨i, _, rfl⟩ := List.mem_map.1 hx
  have := h i
  unfold I64; omega

set_option maxRecDepth 100000 in
set_option maxHeartbeats 4000000 in
theorem vectorSigns_walk (xa : Option Addr) (nx capx : Nat) (xs : List Int) (al : Option Addr) (nl capl : Nat) (ks : List Int) (k : Nat) (w : World) (rx : RdI w xa capx xs) (hlx : xs.length = nx) (hnx : nx ≤ 17592186043904) (rl : Rd8 w al ks) (hll : ks.length = nl) (hnl : nl ≤ 200000000000000)
    (hk : k ≤ 255) :
    Calls Try.prog 4 #[.slice xa nx capx, .slice al nl capl, .int .u8 (k : Int)] w fun e w' => e = .returned (.bool true) ∧ Below w.heap.size w w' := by
  obtain ⟨n, hn⟩ : ∃ n : Nat, (k : Int) % 10 = (n : Int) := ⟨k % 10, by omega⟩
  have hn9 : n ≤ 9 := by omega
  have hvec := vector_any al nl capl n ks w rl hll hnl (by omega)
  have HVEC := Lib.hid hvec
  have HK := Lib.hid (tapeL_lim (n := n) (fun i => rl.get i))
  have HX := Lib.hid rx
  have HLX := Lib.hid hlx
  clear rx rl hlx hll hvec
  go_enter Try.func4, Try.ntmps4
  go_wp2_with fail
  refine HVEC.out.mono ?_
  rintro e w1 ⟨g, rfl, hg, hown, hb⟩
  have HY1 : Hid (RdI w1 (some ⟨g, 0, none⟩) n (tapeL ks n)) := hown.rd (by rw [length_tapeL]; omega) HK.out
  have HLY : Hid ((tapeL ks n).length = n) := length_tapeL ks n
  have HX1 : Hid (RdI w1 xa capx xs) := HX.out.below hb
  have HB1 : Hid (Below w.heap.size w w1) := hb
  rw [length_tapeL]
  obtain ⟨ts, hts⟩ : ∃ ts, ts = tapeL ks n := ⟨_, rfl⟩
  rw [← hts] at HY1 HLY
  clear hown hb hg hts
  go_wp2_with fail
  refine (sign_any xa nx capx xs w1 HX1.out HLX.out (by omega)).mono ?_
  intro e w2 hs
  obtain ⟨aa, na, ca, ok, ys, rfl, ra, la, na2, hok, has, hb⟩ := sign_read hs
  have HA2 := Lib.hid ra
  have HLA := Lib.hid la
  have HOK := Lib.hid hok
  have HAS := Lib.hid has
  have HNA : na ≤ nx := by rw [← HLX.out]; exact na2
  have HX2 : Hid (RdI w2 xa capx xs) := HX1.out.below hb
  have HY2 : Hid (RdI w2 (some ⟨g, 0, none⟩) n ts) := HY1.out.below hb
  have HB2 : Hid (Below w.heap.size w w2) := HB1.out.trans (hb.mono HB1.out.size)
  clear hs ra la na2 hok has hb HX1 HY1 HB1
  go_wp2_with fail
  refine (rsign_any xa nx capx xs w2 HX2.out HLX.out (by omega)).mono ?_
  intro e w3 hs
  obtain ⟨ab, nb, cb, ok2, bs, rfl, rb, lb, nb2, hok, hbs, hb⟩ := rsign_read hs
  have e1 : ok2 = ok := hok.trans HOK.out.symm
  subst e1
  have e2 : bs = ys := hbs.trans HAS.out.symm
  subst e2
  have e3 : nb = na := by rw [← lb, HLA.out]
  subst e3
  have HA3 : Hid (RdI w3 aa ca bs) := HA2.out.below hb
  have HBB3 := Lib.hid rb
  have HY3 : Hid (RdI w3 (some ⟨g, 0, none⟩) n ts) := HY2.out.below hb
  have HB3 : Hid (Below w.heap.size w w3) := HB2.out.trans (hb.mono HB2.out.size)
  clear hs rb lb nb2 hok hbs hb HX2 HY2 HB2 HA2 HOK HAS
  go_wp2_with fail
  refine (sign_any (some ⟨g, 0, none⟩) n n ts w3 HY3.out HLY.out (by omega)).mono ?_
  intro e w4 hs
  obtain ⟨ac, nc, cc, okc, cs, rfl, rc, lc, nc2, hok, hcs, hb⟩ := sign_read hs
  have HC4 := Lib.hid rc
  have HLC := Lib.hid lc
  have HOK := Lib.hid hok
  have HCS := Lib.hid hcs
  have HNC : nc ≤ n := by rw [← HLY.out]; exact nc2
  have HA4 : Hid (RdI w4 aa ca bs) := HA3.out.below hb
  have HBB4 : Hid (RdI w4 ab cb bs) := HBB3.out.below hb
  have HY4 : Hid (RdI w4 (some ⟨g, 0, none⟩) n ts) := HY3.out.below hb
  have HB4 : Hid (Below w.heap.size w w4) := HB3.out.trans (hb.mono HB3.out.size)
  clear hs rc lc nc2 hok hcs hb HY3 HB3 HA3 HBB3
  go_wp2_with fail
  refine (rsign_any (some ⟨g, 0, none⟩) n n ts w4 HY4.out HLY.out (by omega)).mono ?_
  intro e w5 hs
  obtain ⟨ad, nd, cd, okd, ds, rfl, rd, ld, nd2, hok, hds, hb⟩ := rsign_read hs
  have e1 : okd = okc := hok.trans HOK.out.symm
  subst e1
  have e2 : ds = cs := hds.trans HCS.out.symm
  subst e2
  have e3 : nd = nc := by rw [← ld, HLC.out]
  subst e3
  have HA5 : Hid (RdI w5 aa ca bs) := HA4.out.below hb
  have HBB5 : Hid (RdI w5 ab cb bs) := HBB4.out.below hb
  have HC5 : Hid (RdI w5 ac cc ds) := HC4.out.below hb
  have HD5 := Lib.hid rd
  have HB5 : Hid (Below w.heap.size w w5) := HB4.out.trans (hb.mono HB4.out.size)
  clear hs rd ld nd2 hok hds hb HY4 HB4 HA4 HBB4 HC4 HOK HCS
  go_wp2_with fail
  refine (rcompare_any aa ab nb ca nb cb bs bs w5 HA5.out HLA.out HBB5.out HLA.out (by omega) (by omega)).mono ?_
  rintro e w6 ⟨rfl, q1, rfl⟩
  rw [cmpL_self0]
  have HC6 : Hid (RdI (w5.drewN q1) ac cc ds) := HC5.out.below (below_drewN' (Below.refl _ _) q1)
  have HD6 : Hid (RdI (w5.drewN q1) ad cd ds) := HD5.out.below (below_drewN' (Below.refl _ _) q1)
  have HB6 : Hid (Below w.heap.size w (w5.drewN q1)) := below_drewN' HB5.out q1
  clear HB5 HC5 HD5 HA5 HBB5
  go_wp2_with fail
  refine (rcompare_any ac ad nd cc nd cd ds ds (w5.drewN q1) HC6.out HLC.out HD6.out HLC.out (by omega) (by omega)).mono ?_
  rintro e w7 ⟨rfl, q2, rfl⟩
  rw [cmpL_self0]
  have HB7 : Hid (Below w.heap.size w (w5.drewN (q1 + q2))) := by rw [← World.drewN_drewN]; exact below_drewN' HB6.out q2
  clear HB6 HC6 HD6
  go_wp2_with fail
  refine (vawake_any _).mono ?_
  rintro e w8 ⟨rfl, hb8⟩
  have HB8 : Hid (Below w.heap.size w w8) := HB7.out.trans (hb8.mono HB7.out.size)
  clear hb8 HB7
  go_wp2_with fail
  go_ret
  exact ⟨rfl, HB8.out⟩
end Go.Proofs.Ytdpgkegfkobdoaa
