/-
  Joined texts: US UT.
-/
import Derived.Test.YtfpcfcegdjlggaaGreatJ12
namespace Go.Proofs.YtfpcfcegdjlggaaGreat
open Go.RowKit Minor

/-- 4 (d_(i-1) d_(i+1) + lambda(i, i-1)^2) >= 3 d_i^2. -/
def LovaszZ (M : Nat → Nat → Int) (i : Nat) : Prop := 3 * (detZ M i * detZ M i) ≤ 4 * (detZ M (i - 1) * detZ M (i + 1) + lamZ M i (i - 1) * lamZ M i (i - 1))

section
variable {P : Program} {l : List Oper} {Q : Exit → Act → World → Prop} {S : World → Prop} {t : Nat}
/-- One of two comes next, ahead of number t. -/
theorem two_T {i j : Nat} {oi oj : Oper} {fuel : Nat} {listed : Array Bool} {a : Act} {w : World} (hi : l[i]? = some oi) (hj : l[j]? = some oj) (hr : Region.ready .any l.toArray listed = [i, j])
    (h : ∀ K' : Act → World → Prop, Shut (∀ a w, S w → (S w → wpAnyT P .any l.toArray Q S t fuel (listed.setIfInBounds i true) a w) → K' a w) → if Region.wanted oi (yielded l.toArray a.tmps) = true then Oper.wp P oi a w K' Q else K' (a.put oi.dst undef) w)
    (h' : ∀ K' : Act → World → Prop, Shut (∀ a w, S w → (S w → wpAnyT P .any l.toArray Q S t fuel (listed.setIfInBounds j true) a w) → K' a w) → if Region.wanted oj (yielded l.toArray a.tmps) = true then Oper.wp P oj a w K' Q else K' (a.put oj.dst undef) w) :
    wpAnyT P .any l.toArray Q S t (fuel + 1) listed a w := by
  have hi' : l.toArray[i]? = some oi := by simpa using hi
  have hj' : l.toArray[j]? = some oj := by simpa using hj
  refine ⟨fun h0 => (by rw [hr] at h0; cases h0), fun k hk => ?_⟩
  rw [hr] at hk
  simp only [List.mem_cons, List.not_mem_nil, or_false] at hk
  rcases hk with rfl | rfl
  · exact wpOp_step hi' (fun K' hK => h K' (fun a w hS hW => hK a w ⟨fun _ => hS, hW hS⟩))
  · exact wpOp_step hj' (fun K' hK => h' K' (fun a w hS hW => hK a w ⟨fun _ => hS, hW hS⟩))
end

theorem box_made {V v : World} (_ : Below V.heap.size V v) (u0 u1 : Value) (t : TypeId) : Box v.heap.size u0 u1 (v.alloc (.cells #[u0, u1] t)) := Box.made _ _ rfl _ _ _
theorem two_lm {w : World} {G : Nat} {a : Option Addr} {c : Nat} {zs : List Nat} (h : Lm w a c zs) {u0 : Bool} {p : Option Addr} {n m : Nat} (t0 : w.cell? ⟨G, 0, none⟩ = some (.bool u0)) (t1 : w.cell? ⟨G, 1, none⟩ = some (.slice p n m)) (x y : Value) : Lm ((w.setCell ⟨G, 0, none⟩ x).setCell ⟨G, 1, none⟩ y) a c zs := by
  have e1 : (w.setCell ⟨G, 0, none⟩ x).cell? ⟨G, 1, none⟩ = some (.slice p n m) := by rw [World.cell?_setCell_other _ _ _ _ (by simp)]; exact t1
  exact (h.setO rfl t0 (by simp) _).setO rfl e1 (by simp) _
theorem two_bel {V w : World} {G : Nat} (h : Below V.heap.size V w) (hG : V.heap.size ≤ G) (x y : Value) : Below V.heap.size V ((w.setCell ⟨G, 0, none⟩ x).setCell ⟨G, 1, none⟩ y) := (h.setCell (p := ⟨G, 0, none⟩) hG x).setCell (p := ⟨G, 1, none⟩) hG y

set_option maxRecDepth 100000 in
set_option maxHeartbeats 16000000 in
theorem rlovasz_any (g n cap b c i : Nat) (R : Nat → Nat) (M : Nat → Nat → Int) (w : World) (hM : MatZ w g n n R M) (hR : RowZ w b n (fun k => detZ M (k + 1))) (h2 : n ≤ 8) (hi : i < n) (h0 : 0 < i) (hs : ∀ i j, i < n → j < n → (M i j).natAbs ≤ cB 0) :
    Calls Tryz.prog 104 #[.slice (some ⟨g, 0, none⟩) n cap, .slice (some ⟨b, 0, none⟩) n c, .int .i64 (i : Int)] w fun e w' => ∃ r : Bool, e = .returned (.bool r) ∧ (r = true ↔ LovaszZ M i) ∧ Below w.heap.size w w' := by
  have HM := Lib.hid hM
  have HR := Lib.hid hR
  have HS := Lib.hid hs
  obtain ⟨q, rfl⟩ : ∃ q, i = q + 1 := ⟨i - 1, by omega⟩
  have hqm : wrap64 (((q + 1 : Nat) : Int) - 1) = (q : Int) := by unfold wrap64; omega
  have hqm2 : ((q : Int) + 1 - 1) = (q : Int) := by omega
  have hqp : wrap64 (((q + 1 : Nat) : Int) + 1) = ((q + 2 : Nat) : Int) := by unfold wrap64; omega
  have hqp2 : ((q : Int) + 1 + 1) = ((q + 2 : Nat) : Int) := by omega
  have hw1 : IntKind.i64.wrap (q : Int) = (q : Int) := by rw [IntKind.wrap_i64]; omega
  have hw2 : IntKind.i64.wrap ((q : Int) + 1 + 1) = (q : Int) + 2 := by rw [IntKind.wrap_i64]; omega
  have hw3 : IntKind.i64.wrap ((q : Int) + 2) = (q : Int) + 2 := by rw [IntKind.wrap_i64]; omega
  obtain ⟨t, ht⟩ : ∃ t : Nat, t = 8 := ⟨_, rfl⟩
  have hd : ∀ k, k ≤ n → (detZ M k).natAbs ≤ cB t := fun k hk => Nat.le_trans (detZ_short (by omega) fun a b ha hb => hs a b (by omega) (by omega)) (cB_mono (by omega))
  obtain ⟨l, hl⟩ : ∃ l, l = lamZ M (q + 1) q := ⟨_, rfl⟩
  obtain ⟨dm, hdm⟩ : ∃ d, d = detZ M q := ⟨_, rfl⟩
  obtain ⟨dp, hdp⟩ : ∃ d, d = detZ M (q + 2) := ⟨_, rfl⟩
  obtain ⟨dq, hdq⟩ : ∃ d, d = detZ M (q + 1) := ⟨_, rfl⟩
  have bl : l.natAbs ≤ cB t := by rw [hl]; exact Nat.le_trans (lamZ_short h2 hi (by omega) hs) (cB_mono (by omega))
  have bm : dm.natAbs ≤ cB t := by rw [hdm]; exact hd _ (by omega)
  have bp : dp.natAbs ≤ cB t := by rw [hdp]; exact hd _ (by omega)
  have bq : dq.natAbs ≤ cB t := by rw [hdq]; exact hd _ (by omega)
  have p1 := prod_bound bm bp
  have p2 := prod_bound bl bl
  have p3 := prod_bound bq bq
  have s8 := cB_step t
  have s9 := cB_step (t + 1)
  have o9 : 2 ≤ cB (t + 1) := by 
    have := cB_pos t
    have h1 := Nat.le_mul_of_pos_left (cB t) this
    omega
  have s9' : 4 * cB (t + 1) ≤ cB (t + 1 + 1) := by
    rw [← s9]
    have := Nat.mul_le_mul_right (cB (t + 1)) o9
    omega
  have k1 : Hid ((mg l).length ≤ 1000000) := cB_short (by omega) bl
  have k2 : Hid ((mg dm).length ≤ 1000000) := cB_short (by omega) bm
  have k3 : Hid ((mg dp).length ≤ 1000000) := cB_short (by omega) bp
  have k4 : Hid ((mg dq).length ≤ 1000000) := cB_short (by omega) bq
  have k5 : Hid ((mg (dm * dp)).length ≤ 1000000) := cB_short (k := t + 1) (by omega) (by omega)
  have k6 : Hid ((mg (l * l)).length ≤ 1000000) := cB_short (k := t + 1) (by omega) (by omega)
  have k7 : Hid ((mg (dm * dp + l * l)).length ≤ 1000000) := cB_short (k := t + 1) (by omega) (by omega)
  have k8 : Hid ((mg (4 * (dm * dp + l * l))).length ≤ 1000000) := cB_short (k := t + 1 + 1) (by omega) (by omega)
  have k9 : Hid ((mg (dq * dq)).length ≤ 1000000) := cB_short (k := t + 1) (by omega) (by omega)
  have k10 : Hid ((mg (3 * (dq * dq))).length ≤ 1000000) := cB_short (k := t + 1 + 1) (by omega) (by omega)
  have k11 : Hid ((mg 4).length ≤ 1000000) := by
    unfold Hid
    have : (mg 4).length ≤ 5 := by decide
    omega
  have k12 : Hid ((mg 3).length ≤ 1000000) := by
    unfold Hid
    have : (mg 3).length ≤ 5 := by decide
    omega
  have HL := Lib.hid hl
  have HDM := Lib.hid hdm
  have HDP := Lib.hid hdp
  have HDQ := Lib.hid hdq
  obtain ⟨four, hfour⟩ : ∃ z : Int, z = 4 := ⟨_, rfl⟩
  obtain ⟨three, hthree⟩ : ∃ z : Int, z = 3 := ⟨_, rfl⟩
  rw [← hfour] at k8 k11
  rw [← hthree] at k10 k12
  have HFOUR := Lib.hid hfour
  have HTHREE := Lib.hid hthree
  have hS4 : Hid (∀ w, Calls Tryz.prog 28 #[.int .i64 4] w (GivesZ w four)) := fun w => by rw [hfour]; exact smallZ 4 (by omega) (by omega)
  have hS3 : Hid (∀ w, Calls Tryz.prog 28 #[.int .i64 3] w (GivesZ w three)) := fun w => by rw [hthree]; exact smallZ 3 (by omega) (by omega)
  have hLam : Hid (Calls Tryz.prog 102 #[.slice (some ⟨g, 0, none⟩) n cap, .int .i64 ((q : Int) + 1), .int .i64 (q : Int)] w (GivesZ w l)) := by
    unfold Hid
    rw [hl]
    exact rlambda_any g n cap (q + 1) q R M w HM.out h2 hi (by omega) HS.out
  clear hM hR hs hd hl hdm hdp hdq bl bm bp bq p1 p2 p3 s8 s9 o9 s9' hfour hthree
  go_enter Tryz.func104, Tryz.ntmps104
  go_wp2_with fail
  refine hLam.out.mono ?_
  rintro e w2 ⟨a2, c2, rfl, hr2, hb2⟩
  obtain ⟨V, hV⟩ : ∃ V, V = w2.alloc (.cells #[.bool (sg l), .slice a2 (mg l).length c2] 51) := ⟨_, rfl⟩
  have hbV : Below w2.heap.size w2 V := by rw [hV]; exact (Below.refl _ _).alloc (Nat.le_refl _) _
  have hBx : Hid (Box w2.heap.size (.bool (sg l)) (.slice a2 (mg l).length c2) V) := by rw [hV]; exact Box.made _ _ rfl _ _ _
  have hRl := Lib.hid (hr2.below hbV)
  have hBV : Hid (Below w.heap.size w V) := hb2.trans (hbV.mono hb2.size)
  have hRV : Hid (∀ w', Below V.heap.size V w' → RowZ w' b n (fun k => detZ M (k + 1))) := fun w' h => HR.out.belowU (hBV.out.trans (h.mono hBV.out.size))
  have hLV : Hid (∀ w', Below V.heap.size V w' → Lm w' a2 c2 (mg l)) := fun w' h => hRl.out.below h
  have hMQ : Hid (∀ w', Below V.heap.size V w' → Calls Tryz.prog 103 #[.slice (some ⟨b, 0, none⟩) n c, .int .i64 (q : Int)] w' (GivesZ w' dm)) := fun w' h => by rw [HDM.out]; exact rminor_any b n c q M w' (hRV.out _ h) (by omega) h2
  have hMP : Hid (∀ w', Below V.heap.size V w' → Calls Tryz.prog 103 #[.slice (some ⟨b, 0, none⟩) n c, .int .i64 ((q : Int) + 2)] w' (GivesZ w' dp)) := fun w' h => by rw [HDP.out]; exact rminor_any b n c (q + 2) M w' (hRV.out _ h) (by omega) h2
  have hMM : Hid (∀ w', Below V.heap.size V w' → Calls Tryz.prog 103 #[.slice (some ⟨b, 0, none⟩) n c, .int .i64 ((q : Int) + 1)] w' (GivesZ w' dq)) := fun w' h => by rw [HDQ.out]; exact rminor_any b n c (q + 1) M w' (hRV.out _ h) (by omega) h2
  have hK : Hid (∀ w', Below V.heap.size V w' → w'.cell? ⟨w2.heap.size, 0, none⟩ = some (.bool (sg l)) ∧ w'.cell? ⟨w2.heap.size, 1, none⟩ = some (.slice a2 (mg l).length c2)) := fun w' h => ⟨cell_keep h hBx.out.c0, cell_keep h hBx.out.c1⟩
  have hVV : Hid (w2.alloc (.cells #[.bool (sg l), .slice a2 (mg l).length c2] 51) = V) := hV.symm
  have hVs : w2.heap.size < V.heap.size := hBx.out.size
  have hbD : Below V.heap.size V V.drew := (Below.refl _ _).drew
  clear hr2 hb2 hV hbV
  go_wp2_with fail
  rw [hVV.out]
  go_cut [8] from 14 (fun p wx => ∃ (G : Nat) (a : Option Addr) (c : Nat), p = .pointer (some ⟨G, 0, none⟩) ∧ Box G (.bool (sg (four * (dm * dp + l * l)))) (.slice a (mg (four * (dm * dp + l * l))).length c) wx ∧ Lm wx a c (mg (four * (dm * dp + l * l))) ∧ Below V.heap.size V wx)
  case first =>
    refine begin_T 16 (fun w' => w'.cell? ⟨w2.heap.size, 0, none⟩ = some (.bool (sg l)) ∧ w'.cell? ⟨w2.heap.size, 1, none⟩ = some (.slice a2 (mg l).length c2)) (by kernel_rfl) (hK.out _ hbD) (fun hHeld => ?_)
    refine first_T (i := 1) (v := ?_) rfl (by kernel_rfl) (fun _ _ _ h => h) (by rfl) (fun w hSw => ?_) hHeld ?_
    rotate_left
    · ((try dsimp only at hSw); go_simp; (try with_reducible rfl))
    try simp only [Act.put, List.setIfInBounds_toArray, List.set_cons_zero, List.set_cons_succ]
    refine first_T (i := 2) (v := ?_) rfl (by kernel_rfl) (fun _ _ _ h => h) (by rfl) (fun w hSw => ?_) hHeld ?_
    rotate_left
    · ((try dsimp only at hSw); go_simp; (try with_reducible rfl))
    try simp only [Act.put, List.setIfInBounds_toArray, List.set_cons_zero, List.set_cons_succ]
    refine first_T (i := 3) (v := ?_) rfl (by kernel_rfl) (fun _ _ _ h => h) (by rfl) (fun w hSw => ?_) hHeld ?_
    rotate_left
    · ((try dsimp only at hSw); go_simp; (try with_reducible rfl))
    try simp only [Act.put, List.setIfInBounds_toArray, List.set_cons_zero, List.set_cons_succ]
    refine first_T (i := 5) (v := ?_) rfl (by kernel_rfl) (fun _ _ _ h => h) (by rfl) (fun w hSw => ?_) hHeld ?_
    rotate_left
    · ((try dsimp only at hSw); go_simp; (try with_reducible rfl))
    try simp only [Act.put, List.setIfInBounds_toArray, List.set_cons_zero, List.set_cons_succ]
    refine first_T (i := 6) (v := ?_) rfl (by kernel_rfl) (fun _ _ _ h => h) (by rfl) (fun w hSw => ?_) hHeld ?_
    rotate_left
    · ((try dsimp only at hSw); go_simp; (try with_reducible rfl))
    try simp only [Act.put, List.setIfInBounds_toArray, List.set_cons_zero, List.set_cons_succ]
    refine first_T (i := 7) (v := ?_) rfl (by kernel_rfl) (fun _ _ _ h => h) (by rfl) (fun w hSw => ?_) hHeld ?_
    rotate_left
    · ((try dsimp only at hSw); go_simp; (try with_reducible rfl))
    try simp only [Act.put, List.setIfInBounds_toArray, List.set_cons_zero, List.set_cons_succ]
    refine first_T (i := 10) (v := ?_) rfl (by kernel_rfl) (fun _ _ _ h => h) (by rfl) (fun w hSw => ?_) hHeld ?_
    rotate_left
    · ((try dsimp only at hSw); go_simp; (try with_reducible rfl))
    try simp only [Act.put, List.setIfInBounds_toArray, List.set_cons_zero, List.set_cons_succ]
    refine first_T (i := 11) (v := ?_) rfl (by kernel_rfl) (fun _ _ _ h => h) (by rfl) (fun w hSw => ?_) hHeld ?_
    rotate_left
    · ((try dsimp only at hSw); go_simp; (try with_reducible rfl))
    try simp only [Act.put, List.setIfInBounds_toArray, List.set_cons_zero, List.set_cons_succ]
    have hby := hbD
    refine two_T (i := 0) (j := 15) rfl rfl (by kernel_rfl) (fun K hKK => ?_) (fun K hKK => ?_)
    · skip
      go_simp
      refine (hS4.out _).mono ?_
      rintro e wn ⟨a14, c14, rfl, hr14, hbn⟩
      replace hby := hby.trans (hbn.mono hby.size)
      go_wp2_with fail
      clear hHeld
      refine hKK.out _ _ (hK.out _ hby) (fun hHeld => ?_)
      clear hKK K hbn
      try simp only [Act.put, List.setIfInBounds_toArray, List.set_cons_zero, List.set_cons_succ]
      refine two_T (i := 4) (j := 15) rfl rfl (by kernel_rfl) (fun K hKK => ?_) (fun K hKK => ?_)
      · skip
        go_simp
        refine (hMQ.out _ hby).mono ?_
        rintro e wn ⟨a18, c18, rfl, hr18, hbn⟩
        replace hby := hby.trans (hbn.mono hby.size)
        replace hr14 := hr14.below hbn
        go_wp2_with fail
        clear hHeld
        refine hKK.out _ _ (hK.out _ hby) (fun hHeld => ?_)
        clear hKK K hbn
        try simp only [Act.put, List.setIfInBounds_toArray, List.set_cons_zero, List.set_cons_succ]
        refine two_T (i := 8) (j := 15) rfl rfl (by kernel_rfl) (fun K hKK => ?_) (fun K hKK => ?_)
        · skip
          go_simp
          refine (hMP.out _ hby).mono ?_
          rintro e wn ⟨a22, c22, rfl, hr22, hbn⟩
          replace hby := hby.trans (hbn.mono hby.size)
          replace hr14 := hr14.below hbn
          replace hr18 := hr18.below hbn
          go_wp2_with fail
          clear hHeld
          refine hKK.out _ _ (hK.out _ hby) (fun hHeld => ?_)
          clear hKK K hbn
          try simp only [Act.put, List.setIfInBounds_toArray, List.set_cons_zero, List.set_cons_succ]
          refine two_T (i := 9) (j := 15) rfl rfl (by kernel_rfl) (fun K hKK => ?_) (fun K hKK => ?_)
          · skip
            go_simp
            refine (mulZ (x := dm) (y := dp) hr18 hr22 k2.out k3.out).mono ?_
            rintro e wn ⟨a23, c23, rfl, hr23, hbn⟩
            replace hby := hby.trans (hbn.mono hby.size)
            replace hr14 := hr14.below hbn
            go_wp2_with fail
            clear hHeld hr18 hr22
            refine hKK.out _ _ (hK.out _ hby) (fun hHeld => ?_)
            clear hKK K hbn
            try simp only [Act.put, List.setIfInBounds_toArray, List.set_cons_zero, List.set_cons_succ]
            refine two_T (i := 12) (j := 15) rfl rfl (by kernel_rfl) (fun K hKK => ?_) (fun K hKK => ?_)
            · skip
              go_simp
              refine (mulZ (x := l) (y := l) (hLV.out _ hby) (hLV.out _ hby) k1.out k1.out).mono ?_
              rintro e wn ⟨a26, c26, rfl, hr26, hbn⟩
              replace hby := hby.trans (hbn.mono hby.size)
              replace hr14 := hr14.below hbn
              replace hr23 := hr23.below hbn
              go_wp2_with fail
              clear hHeld
              refine hKK.out _ _ (hK.out _ hby) (fun hHeld => ?_)
              clear hKK K hbn
              try simp only [Act.put, List.setIfInBounds_toArray, List.set_cons_zero, List.set_cons_succ]
              refine two_T (i := 13) (j := 15) rfl rfl (by kernel_rfl) (fun K hKK => ?_) (fun K hKK => ?_)
              · skip
                go_simp
                refine (addZ (x := dm * dp) (y := l * l) hr23 hr26 k5.out k6.out).mono ?_
                rintro e wn ⟨a27, c27, rfl, hr27, hbn⟩
                replace hby := hby.trans (hbn.mono hby.size)
                replace hr14 := hr14.below hbn
                go_wp2_with fail
                clear hHeld hr23 hr26
                refine hKK.out _ _ (hK.out _ hby) (fun hHeld => ?_)
                clear hKK K hbn
                try simp only [Act.put, List.setIfInBounds_toArray, List.set_cons_zero, List.set_cons_succ]
                refine two_T (i := 14) (j := 15) rfl rfl (by kernel_rfl) (fun K hKK => ?_) (fun K hKK => ?_)
                · skip
                  go_simp
                  refine (mulZ (x := four) (y := dm * dp + l * l) hr14 hr27 k11.out k7.out).mono ?_
                  rintro e wn ⟨a28, c28, rfl, hr28, hbn⟩
                  replace hby := hby.trans (hbn.mono hby.size)
                  go_wp2_with fail
                  clear hHeld hr14 hr27
                  refine hKK.out _ _ (hK.out _ hby) (fun hHeld => ?_)
                  clear hKK K hbn
                  try simp only [Act.put, List.setIfInBounds_toArray, List.set_cons_zero, List.set_cons_succ]
                  refine next_T (i := 15) rfl (by kernel_rfl) (fun K hKK => ?_)
                  go_simp
                  refine hKK.out _ _ (hK.out _ (hby.alloc hby.size _)) (fun hHeld2 => ?_)
                  have hGV := hby.size
                  have hG := box_made hby (.bool false) (.slice none 0 0) 51
                  replace hby := hby.alloc hby.size (.cells #[.bool false, .slice none 0 0] 51)
                  replace hr28 := hr28.alloc (.cells #[.bool false, .slice none 0 0] 51)
                  clear hKK K hHeld
                  have hHeld := hHeld2
                  clear hHeld2
                  try simp only [Act.put, List.setIfInBounds_toArray, List.set_cons_zero, List.set_cons_succ]
                  generalize (wn.alloc (.cells #[.bool false, .slice none 0 0] 51)) = wa at hG hby hr28 hHeld ⊢
                  obtain ⟨t0, t1, t2, t3, t4⟩ := hG
                  refine last_T (t := 16) rfl (by kernel_rfl) (by kernel_rfl) (fun K hKK => ?_)
                  go_simp
                  refine hKK.out _ _ ?_
                  have hG2 := Box.stored ⟨t0, t1, t2, t3, t4⟩ (.bool (sg (four * (dm * dp + l * l)))) (.slice a28 (mg (four * (dm * dp + l * l))).length c28)
                  have hL2 := two_lm hr28 t0 t1 (.bool (sg (four * (dm * dp + l * l)))) (.slice a28 (mg (four * (dm * dp + l * l))).length c28)
                  have hB2 := two_bel hby hGV (.bool (sg (four * (dm * dp + l * l)))) (.slice a28 (mg (four * (dm * dp + l * l))).length c28)
                  go_wp2_with fail
                  go_meet
                  exact ⟨_, a28, c28, rfl, hG2, hL2, hB2⟩
                · skip
                  go_simp
                  refine hKK.out _ _ (hK.out _ (hby.alloc hby.size _)) (fun hHeld2 => ?_)
                  have hGV := hby.size
                  have hG := box_made hby (.bool false) (.slice none 0 0) 51
                  replace hby := hby.alloc hby.size (.cells #[.bool false, .slice none 0 0] 51)
                  replace hr14 := hr14.alloc (.cells #[.bool false, .slice none 0 0] 51)
                  replace hr27 := hr27.alloc (.cells #[.bool false, .slice none 0 0] 51)
                  clear hKK K hHeld
                  have hHeld := hHeld2
                  clear hHeld2
                  try simp only [Act.put, List.setIfInBounds_toArray, List.set_cons_zero, List.set_cons_succ]
                  refine next_T (i := 14) rfl (by kernel_rfl) (fun K hKK => ?_)
                  go_simp
                  refine (mulZ (x := four) (y := dm * dp + l * l) hr14 hr27 k11.out k7.out).mono ?_
                  rintro e wn ⟨a28, c28, rfl, hr28, hbn⟩
                  replace hby := hby.trans (hbn.mono hby.size)
                  replace hG := hG.below hbn
                  go_wp2_with fail
                  clear hHeld hr14 hr27
                  refine hKK.out _ _ (hK.out _ hby) (fun hHeld => ?_)
                  clear hKK K hbn
                  try simp only [Act.put, List.setIfInBounds_toArray, List.set_cons_zero, List.set_cons_succ]
                  obtain ⟨t0, t1, t2, t3, t4⟩ := hG
                  refine last_T (t := 16) rfl (by kernel_rfl) (by kernel_rfl) (fun K hKK => ?_)
                  go_simp
                  refine hKK.out _ _ ?_
                  have hG2 := Box.stored ⟨t0, t1, t2, t3, t4⟩ (.bool (sg (four * (dm * dp + l * l)))) (.slice a28 (mg (four * (dm * dp + l * l))).length c28)
                  have hL2 := two_lm hr28 t0 t1 (.bool (sg (four * (dm * dp + l * l)))) (.slice a28 (mg (four * (dm * dp + l * l))).length c28)
                  have hB2 := two_bel hby hGV (.bool (sg (four * (dm * dp + l * l)))) (.slice a28 (mg (four * (dm * dp + l * l))).length c28)
                  go_wp2_with fail
                  go_meet
                  exact ⟨_, a28, c28, rfl, hG2, hL2, hB2⟩
              · skip
                go_simp
                refine hKK.out _ _ (hK.out _ (hby.alloc hby.size _)) (fun hHeld2 => ?_)
                have hGV := hby.size
                have hG := box_made hby (.bool false) (.slice none 0 0) 51
                replace hby := hby.alloc hby.size (.cells #[.bool false, .slice none 0 0] 51)
                replace hr14 := hr14.alloc (.cells #[.bool false, .slice none 0 0] 51)
                replace hr23 := hr23.alloc (.cells #[.bool false, .slice none 0 0] 51)
                replace hr26 := hr26.alloc (.cells #[.bool false, .slice none 0 0] 51)
                clear hKK K hHeld
                have hHeld := hHeld2
                clear hHeld2
                try simp only [Act.put, List.setIfInBounds_toArray, List.set_cons_zero, List.set_cons_succ]
                refine next_T (i := 13) rfl (by kernel_rfl) (fun K hKK => ?_)
                go_simp
                refine (addZ (x := dm * dp) (y := l * l) hr23 hr26 k5.out k6.out).mono ?_
                rintro e wn ⟨a27, c27, rfl, hr27, hbn⟩
                replace hby := hby.trans (hbn.mono hby.size)
                replace hr14 := hr14.below hbn
                replace hG := hG.below hbn
                go_wp2_with fail
                clear hHeld hr23 hr26
                refine hKK.out _ _ (hK.out _ hby) (fun hHeld => ?_)
                clear hKK K hbn
                try simp only [Act.put, List.setIfInBounds_toArray, List.set_cons_zero, List.set_cons_succ]
                refine next_T (i := 14) rfl (by kernel_rfl) (fun K hKK => ?_)
                go_simp
                refine (mulZ (x := four) (y := dm * dp + l * l) hr14 hr27 k11.out k7.out).mono ?_
                rintro e wn ⟨a28, c28, rfl, hr28, hbn⟩
                replace hby := hby.trans (hbn.mono hby.size)
                replace hG := hG.below hbn
                go_wp2_with fail
                clear hHeld hr14 hr27
                refine hKK.out _ _ (hK.out _ hby) (fun hHeld => ?_)
                clear hKK K hbn
                try simp only [Act.put, List.setIfInBounds_toArray, List.set_cons_zero, List.set_cons_succ]
                obtain ⟨t0, t1, t2, t3, t4⟩ := hG
                refine last_T (t := 16) rfl (by kernel_rfl) (by kernel_rfl) (fun K hKK => ?_)
                go_simp
                refine hKK.out _ _ ?_
                have hG2 := Box.stored ⟨t0, t1, t2, t3, t4⟩ (.bool (sg (four * (dm * dp + l * l)))) (.slice a28 (mg (four * (dm * dp + l * l))).length c28)
                have hL2 := two_lm hr28 t0 t1 (.bool (sg (four * (dm * dp + l * l)))) (.slice a28 (mg (four * (dm * dp + l * l))).length c28)
                have hB2 := two_bel hby hGV (.bool (sg (four * (dm * dp + l * l)))) (.slice a28 (mg (four * (dm * dp + l * l))).length c28)
                go_wp2_with fail
                go_meet
                exact ⟨_, a28, c28, rfl, hG2, hL2, hB2⟩
            · skip
              go_simp
              refine hKK.out _ _ (hK.out _ (hby.alloc hby.size _)) (fun hHeld2 => ?_)
              have hGV := hby.size
              have hG := box_made hby (.bool false) (.slice none 0 0) 51
              replace hby := hby.alloc hby.size (.cells #[.bool false, .slice none 0 0] 51)
              replace hr14 := hr14.alloc (.cells #[.bool false, .slice none 0 0] 51)
              replace hr23 := hr23.alloc (.cells #[.bool false, .slice none 0 0] 51)
              clear hKK K hHeld
              have hHeld := hHeld2
              clear hHeld2
              try simp only [Act.put, List.setIfInBounds_toArray, List.set_cons_zero, List.set_cons_succ]
              refine next_T (i := 12) rfl (by kernel_rfl) (fun K hKK => ?_)
              go_simp
              refine (mulZ (x := l) (y := l) (hLV.out _ hby) (hLV.out _ hby) k1.out k1.out).mono ?_
              rintro e wn ⟨a26, c26, rfl, hr26, hbn⟩
              replace hby := hby.trans (hbn.mono hby.size)
              replace hr14 := hr14.below hbn
              replace hr23 := hr23.below hbn
              replace hG := hG.below hbn
              go_wp2_with fail
              clear hHeld
              refine hKK.out _ _ (hK.out _ hby) (fun hHeld => ?_)
              clear hKK K hbn
              try simp only [Act.put, List.setIfInBounds_toArray, List.set_cons_zero, List.set_cons_succ]
              refine next_T (i := 13) rfl (by kernel_rfl) (fun K hKK => ?_)
              go_simp
              refine (addZ (x := dm * dp) (y := l * l) hr23 hr26 k5.out k6.out).mono ?_
              rintro e wn ⟨a27, c27, rfl, hr27, hbn⟩
              replace hby := hby.trans (hbn.mono hby.size)
              replace hr14 := hr14.below hbn
              replace hG := hG.below hbn
              go_wp2_with fail
              clear hHeld hr23 hr26
              refine hKK.out _ _ (hK.out _ hby) (fun hHeld => ?_)
              clear hKK K hbn
              try simp only [Act.put, List.setIfInBounds_toArray, List.set_cons_zero, List.set_cons_succ]
              refine next_T (i := 14) rfl (by kernel_rfl) (fun K hKK => ?_)
              go_simp
              refine (mulZ (x := four) (y := dm * dp + l * l) hr14 hr27 k11.out k7.out).mono ?_
              rintro e wn ⟨a28, c28, rfl, hr28, hbn⟩
              replace hby := hby.trans (hbn.mono hby.size)
              replace hG := hG.below hbn
              go_wp2_with fail
              clear hHeld hr14 hr27
              refine hKK.out _ _ (hK.out _ hby) (fun hHeld => ?_)
              clear hKK K hbn
              try simp only [Act.put, List.setIfInBounds_toArray, List.set_cons_zero, List.set_cons_succ]
              obtain ⟨t0, t1, t2, t3, t4⟩ := hG
              refine last_T (t := 16) rfl (by kernel_rfl) (by kernel_rfl) (fun K hKK => ?_)
              go_simp
              refine hKK.out _ _ ?_
              have hG2 := Box.stored ⟨t0, t1, t2, t3, t4⟩ (.bool (sg (four * (dm * dp + l * l)))) (.slice a28 (mg (four * (dm * dp + l * l))).length c28)
              have hL2 := two_lm hr28 t0 t1 (.bool (sg (four * (dm * dp + l * l)))) (.slice a28 (mg (four * (dm * dp + l * l))).length c28)
              have hB2 := two_bel hby hGV (.bool (sg (four * (dm * dp + l * l)))) (.slice a28 (mg (four * (dm * dp + l * l))).length c28)
              go_wp2_with fail
              go_meet
              exact ⟨_, a28, c28, rfl, hG2, hL2, hB2⟩
          · skip
            go_simp
            refine hKK.out _ _ (hK.out _ (hby.alloc hby.size _)) (fun hHeld2 => ?_)
            have hGV := hby.size
            have hG := box_made hby (.bool false) (.slice none 0 0) 51
            replace hby := hby.alloc hby.size (.cells #[.bool false, .slice none 0 0] 51)
            replace hr14 := hr14.alloc (.cells #[.bool false, .slice none 0 0] 51)
            replace hr18 := hr18.alloc (.cells #[.bool false, .slice none 0 0] 51)
            replace hr22 := hr22.alloc (.cells #[.bool false, .slice none 0 0] 51)
            clear hKK K hHeld
            have hHeld := hHeld2
            clear hHeld2
            try simp only [Act.put, List.setIfInBounds_toArray, List.set_cons_zero, List.set_cons_succ]
            refine next_T (i := 9) rfl (by kernel_rfl) (fun K hKK => ?_)
            go_simp
            refine (mulZ (x := dm) (y := dp) hr18 hr22 k2.out k3.out).mono ?_
            rintro e wn ⟨a23, c23, rfl, hr23, hbn⟩
            replace hby := hby.trans (hbn.mono hby.size)
            replace hr14 := hr14.below hbn
            replace hG := hG.below hbn
            go_wp2_with fail
            clear hHeld hr18 hr22
            refine hKK.out _ _ (hK.out _ hby) (fun hHeld => ?_)
            clear hKK K hbn
            try simp only [Act.put, List.setIfInBounds_toArray, List.set_cons_zero, List.set_cons_succ]
            refine next_T (i := 12) rfl (by kernel_rfl) (fun K hKK => ?_)
            go_simp
            refine (mulZ (x := l) (y := l) (hLV.out _ hby) (hLV.out _ hby) k1.out k1.out).mono ?_
            rintro e wn ⟨a26, c26, rfl, hr26, hbn⟩
            replace hby := hby.trans (hbn.mono hby.size)
            replace hr14 := hr14.below hbn
            replace hr23 := hr23.below hbn
            replace hG := hG.below hbn
            go_wp2_with fail
            clear hHeld
            refine hKK.out _ _ (hK.out _ hby) (fun hHeld => ?_)
            clear hKK K hbn
            try simp only [Act.put, List.setIfInBounds_toArray, List.set_cons_zero, List.set_cons_succ]
            refine next_T (i := 13) rfl (by kernel_rfl) (fun K hKK => ?_)
            go_simp
            refine (addZ (x := dm * dp) (y := l * l) hr23 hr26 k5.out k6.out).mono ?_
            rintro e wn ⟨a27, c27, rfl, hr27, hbn⟩
            replace hby := hby.trans (hbn.mono hby.size)
            replace hr14 := hr14.below hbn
            replace hG := hG.below hbn
            go_wp2_with fail
            clear hHeld hr23 hr26
            refine hKK.out _ _ (hK.out _ hby) (fun hHeld => ?_)
            clear hKK K hbn
            try simp only [Act.put, List.setIfInBounds_toArray, List.set_cons_zero, List.set_cons_succ]
            refine next_T (i := 14) rfl (by kernel_rfl) (fun K hKK => ?_)
            go_simp
            refine (mulZ (x := four) (y := dm * dp + l * l) hr14 hr27 k11.out k7.out).mono ?_
            rintro e wn ⟨a28, c28, rfl, hr28, hbn⟩
            replace hby := hby.trans (hbn.mono hby.size)
            replace hG := hG.below hbn
            go_wp2_with fail
            clear hHeld hr14 hr27
            refine hKK.out _ _ (hK.out _ hby) (fun hHeld => ?_)
            clear hKK K hbn
            try simp only [Act.put, List.setIfInBounds_toArray, List.set_cons_zero, List.set_cons_succ]
            obtain ⟨t0, t1, t2, t3, t4⟩ := hG
            refine last_T (t := 16) rfl (by kernel_rfl) (by kernel_rfl) (fun K hKK => ?_)
            go_simp
            refine hKK.out _ _ ?_
            have hG2 := Box.stored ⟨t0, t1, t2, t3, t4⟩ (.bool (sg (four * (dm * dp + l * l)))) (.slice a28 (mg (four * (dm * dp + l * l))).length c28)
            have hL2 := two_lm hr28 t0 t1 (.bool (sg (four * (dm * dp + l * l)))) (.slice a28 (mg (four * (dm * dp + l * l))).length c28)
            have hB2 := two_bel hby hGV (.bool (sg (four * (dm * dp + l * l)))) (.slice a28 (mg (four * (dm * dp + l * l))).length c28)
            go_wp2_with fail
            go_meet
            exact ⟨_, a28, c28, rfl, hG2, hL2, hB2⟩
        · skip
          go_simp
          refine hKK.out _ _ (hK.out _ (hby.alloc hby.size _)) (fun hHeld2 => ?_)
          have hGV := hby.size
          have hG := box_made hby (.bool false) (.slice none 0 0) 51
          replace hby := hby.alloc hby.size (.cells #[.bool false, .slice none 0 0] 51)
          replace hr14 := hr14.alloc (.cells #[.bool false, .slice none 0 0] 51)
          replace hr18 := hr18.alloc (.cells #[.bool false, .slice none 0 0] 51)
          clear hKK K hHeld
          have hHeld := hHeld2
          clear hHeld2
          try simp only [Act.put, List.setIfInBounds_toArray, List.set_cons_zero, List.set_cons_succ]
          refine next_T (i := 8) rfl (by kernel_rfl) (fun K hKK => ?_)
          go_simp
          refine (hMP.out _ hby).mono ?_
          rintro e wn ⟨a22, c22, rfl, hr22, hbn⟩
          replace hby := hby.trans (hbn.mono hby.size)
          replace hr14 := hr14.below hbn
          replace hr18 := hr18.below hbn
          replace hG := hG.below hbn
          go_wp2_with fail
          clear hHeld
          refine hKK.out _ _ (hK.out _ hby) (fun hHeld => ?_)
          clear hKK K hbn
          try simp only [Act.put, List.setIfInBounds_toArray, List.set_cons_zero, List.set_cons_succ]
          refine next_T (i := 9) rfl (by kernel_rfl) (fun K hKK => ?_)
          go_simp
          refine (mulZ (x := dm) (y := dp) hr18 hr22 k2.out k3.out).mono ?_
          rintro e wn ⟨a23, c23, rfl, hr23, hbn⟩
          replace hby := hby.trans (hbn.mono hby.size)
          replace hr14 := hr14.below hbn
          replace hG := hG.below hbn
          go_wp2_with fail
          clear hHeld hr18 hr22
          refine hKK.out _ _ (hK.out _ hby) (fun hHeld => ?_)
          clear hKK K hbn
          try simp only [Act.put, List.setIfInBounds_toArray, List.set_cons_zero, List.set_cons_succ]
          refine next_T (i := 12) rfl (by kernel_rfl) (fun K hKK => ?_)
          go_simp
          refine (mulZ (x := l) (y := l) (hLV.out _ hby) (hLV.out _ hby) k1.out k1.out).mono ?_
          rintro e wn ⟨a26, c26, rfl, hr26, hbn⟩
          replace hby := hby.trans (hbn.mono hby.size)
          replace hr14 := hr14.below hbn
          replace hr23 := hr23.below hbn
          replace hG := hG.below hbn
          go_wp2_with fail
          clear hHeld
          refine hKK.out _ _ (hK.out _ hby) (fun hHeld => ?_)
          clear hKK K hbn
          try simp only [Act.put, List.setIfInBounds_toArray, List.set_cons_zero, List.set_cons_succ]
          refine next_T (i := 13) rfl (by kernel_rfl) (fun K hKK => ?_)
          go_simp
          refine (addZ (x := dm * dp) (y := l * l) hr23 hr26 k5.out k6.out).mono ?_
          rintro e wn ⟨a27, c27, rfl, hr27, hbn⟩
          replace hby := hby.trans (hbn.mono hby.size)
          replace hr14 := hr14.below hbn
          replace hG := hG.below hbn
          go_wp2_with fail
          clear hHeld hr23 hr26
          refine hKK.out _ _ (hK.out _ hby) (fun hHeld => ?_)
          clear hKK K hbn
          try simp only [Act.put, List.setIfInBounds_toArray, List.set_cons_zero, List.set_cons_succ]
          refine next_T (i := 14) rfl (by kernel_rfl) (fun K hKK => ?_)
          go_simp
          refine (mulZ (x := four) (y := dm * dp + l * l) hr14 hr27 k11.out k7.out).mono ?_
          rintro e wn ⟨a28, c28, rfl, hr28, hbn⟩
          replace hby := hby.trans (hbn.mono hby.size)
          replace hG := hG.below hbn
          go_wp2_with fail
          clear hHeld hr14 hr27
          refine hKK.out _ _ (hK.out _ hby) (fun hHeld => ?_)
          clear hKK K hbn
          try simp only [Act.put, List.setIfInBounds_toArray, List.set_cons_zero, List.set_cons_succ]
          obtain ⟨t0, t1, t2, t3, t4⟩ := hG
          refine last_T (t := 16) rfl (by kernel_rfl) (by kernel_rfl) (fun K hKK => ?_)
          go_simp
          refine hKK.out _ _ ?_
          have hG2 := Box.stored ⟨t0, t1, t2, t3, t4⟩ (.bool (sg (four * (dm * dp + l * l)))) (.slice a28 (mg (four * (dm * dp + l * l))).length c28)
          have hL2 := two_lm hr28 t0 t1 (.bool (sg (four * (dm * dp + l * l)))) (.slice a28 (mg (four * (dm * dp + l * l))).length c28)
          have hB2 := two_bel hby hGV (.bool (sg (four * (dm * dp + l * l)))) (.slice a28 (mg (four * (dm * dp + l * l))).length c28)
          go_wp2_with fail
          go_meet
          exact ⟨_, a28, c28, rfl, hG2, hL2, hB2⟩
      · skip
        go_simp
        refine hKK.out _ _ (hK.out _ (hby.alloc hby.size _)) (fun hHeld2 => ?_)
        have hGV := hby.size
        have hG := box_made hby (.bool false) (.slice none 0 0) 51
        replace hby := hby.alloc hby.size (.cells #[.bool false, .slice none 0 0] 51)
        replace hr14 := hr14.alloc (.cells #[.bool false, .slice none 0 0] 51)
        clear hKK K hHeld
        have hHeld := hHeld2
        clear hHeld2
        try simp only [Act.put, List.setIfInBounds_toArray, List.set_cons_zero, List.set_cons_succ]
        refine next_T (i := 4) rfl (by kernel_rfl) (fun K hKK => ?_)
        go_simp
        refine (hMQ.out _ hby).mono ?_
        rintro e wn ⟨a18, c18, rfl, hr18, hbn⟩
        replace hby := hby.trans (hbn.mono hby.size)
        replace hr14 := hr14.below hbn
        replace hG := hG.below hbn
        go_wp2_with fail
        clear hHeld
        refine hKK.out _ _ (hK.out _ hby) (fun hHeld => ?_)
        clear hKK K hbn
        try simp only [Act.put, List.setIfInBounds_toArray, List.set_cons_zero, List.set_cons_succ]
        refine next_T (i := 8) rfl (by kernel_rfl) (fun K hKK => ?_)
        go_simp
        refine (hMP.out _ hby).mono ?_
        rintro e wn ⟨a22, c22, rfl, hr22, hbn⟩
        replace hby := hby.trans (hbn.mono hby.size)
        replace hr14 := hr14.below hbn
        replace hr18 := hr18.below hbn
        replace hG := hG.below hbn
        go_wp2_with fail
        clear hHeld
        refine hKK.out _ _ (hK.out _ hby) (fun hHeld => ?_)
        clear hKK K hbn
        try simp only [Act.put, List.setIfInBounds_toArray, List.set_cons_zero, List.set_cons_succ]
        refine next_T (i := 9) rfl (by kernel_rfl) (fun K hKK => ?_)
        go_simp
        refine (mulZ (x := dm) (y := dp) hr18 hr22 k2.out k3.out).mono ?_
        rintro e wn ⟨a23, c23, rfl, hr23, hbn⟩
        replace hby := hby.trans (hbn.mono hby.size)
        replace hr14 := hr14.below hbn
        replace hG := hG.below hbn
        go_wp2_with fail
        clear hHeld hr18 hr22
        refine hKK.out _ _ (hK.out _ hby) (fun hHeld => ?_)
        clear hKK K hbn
        try simp only [Act.put, List.setIfInBounds_toArray, List.set_cons_zero, List.set_cons_succ]
        refine next_T (i := 12) rfl (by kernel_rfl) (fun K hKK => ?_)
        go_simp
        refine (mulZ (x := l) (y := l) (hLV.out _ hby) (hLV.out _ hby) k1.out k1.out).mono ?_
        rintro e wn ⟨a26, c26, rfl, hr26, hbn⟩
        replace hby := hby.trans (hbn.mono hby.size)
        replace hr14 := hr14.below hbn
        replace hr23 := hr23.below hbn
        replace hG := hG.below hbn
        go_wp2_with fail
        clear hHeld
        refine hKK.out _ _ (hK.out _ hby) (fun hHeld => ?_)
        clear hKK K hbn
        try simp only [Act.put, List.setIfInBounds_toArray, List.set_cons_zero, List.set_cons_succ]
        refine next_T (i := 13) rfl (by kernel_rfl) (fun K hKK => ?_)
        go_simp
        refine (addZ (x := dm * dp) (y := l * l) hr23 hr26 k5.out k6.out).mono ?_
        rintro e wn ⟨a27, c27, rfl, hr27, hbn⟩
        replace hby := hby.trans (hbn.mono hby.size)
        replace hr14 := hr14.below hbn
        replace hG := hG.below hbn
        go_wp2_with fail
        clear hHeld hr23 hr26
        refine hKK.out _ _ (hK.out _ hby) (fun hHeld => ?_)
        clear hKK K hbn
        try simp only [Act.put, List.setIfInBounds_toArray, List.set_cons_zero, List.set_cons_succ]
        refine next_T (i := 14) rfl (by kernel_rfl) (fun K hKK => ?_)
        go_simp
        refine (mulZ (x := four) (y := dm * dp + l * l) hr14 hr27 k11.out k7.out).mono ?_
        rintro e wn ⟨a28, c28, rfl, hr28, hbn⟩
        replace hby := hby.trans (hbn.mono hby.size)
        replace hG := hG.below hbn
        go_wp2_with fail
        clear hHeld hr14 hr27
        refine hKK.out _ _ (hK.out _ hby) (fun hHeld => ?_)
        clear hKK K hbn
        try simp only [Act.put, List.setIfInBounds_toArray, List.set_cons_zero, List.set_cons_succ]
        obtain ⟨t0, t1, t2, t3, t4⟩ := hG
        refine last_T (t := 16) rfl (by kernel_rfl) (by kernel_rfl) (fun K hKK => ?_)
        go_simp
        refine hKK.out _ _ ?_
        have hG2 := Box.stored ⟨t0, t1, t2, t3, t4⟩ (.bool (sg (four * (dm * dp + l * l)))) (.slice a28 (mg (four * (dm * dp + l * l))).length c28)
        have hL2 := two_lm hr28 t0 t1 (.bool (sg (four * (dm * dp + l * l)))) (.slice a28 (mg (four * (dm * dp + l * l))).length c28)
        have hB2 := two_bel hby hGV (.bool (sg (four * (dm * dp + l * l)))) (.slice a28 (mg (four * (dm * dp + l * l))).length c28)
        go_wp2_with fail
        go_meet
        exact ⟨_, a28, c28, rfl, hG2, hL2, hB2⟩
    · skip
      go_simp
      refine hKK.out _ _ (hK.out _ (hby.alloc hby.size _)) (fun hHeld2 => ?_)
      have hGV := hby.size
      have hG := box_made hby (.bool false) (.slice none 0 0) 51
      replace hG : Box V.heap.size (.bool false) (.slice none 0 0) (V.drew.alloc (.cells #[.bool false, .slice none 0 0] 51)) := hG
      replace hGV : V.heap.size ≤ V.heap.size := Nat.le_refl _
      replace hby := hby.alloc hby.size (.cells #[.bool false, .slice none 0 0] 51)
      clear hKK K hHeld
      have hHeld := hHeld2
      clear hHeld2
      try simp only [Act.put, List.setIfInBounds_toArray, List.set_cons_zero, List.set_cons_succ]
      refine next_T (i := 0) rfl (by kernel_rfl) (fun K hKK => ?_)
      go_simp
      refine (hS4.out _).mono ?_
      rintro e wn ⟨a14, c14, rfl, hr14, hbn⟩
      replace hby := hby.trans (hbn.mono hby.size)
      replace hG := hG.below hbn
      go_wp2_with fail
      clear hHeld
      refine hKK.out _ _ (hK.out _ hby) (fun hHeld => ?_)
      clear hKK K hbn
      try simp only [Act.put, List.setIfInBounds_toArray, List.set_cons_zero, List.set_cons_succ]
      refine next_T (i := 4) rfl (by kernel_rfl) (fun K hKK => ?_)
      go_simp
      refine (hMQ.out _ hby).mono ?_
      rintro e wn ⟨a18, c18, rfl, hr18, hbn⟩
      replace hby := hby.trans (hbn.mono hby.size)
      replace hr14 := hr14.below hbn
      replace hG := hG.below hbn
      go_wp2_with fail
      clear hHeld
      refine hKK.out _ _ (hK.out _ hby) (fun hHeld => ?_)
      clear hKK K hbn
      try simp only [Act.put, List.setIfInBounds_toArray, List.set_cons_zero, List.set_cons_succ]
      refine next_T (i := 8) rfl (by kernel_rfl) (fun K hKK => ?_)
      go_simp
      refine (hMP.out _ hby).mono ?_
      rintro e wn ⟨a22, c22, rfl, hr22, hbn⟩
      replace hby := hby.trans (hbn.mono hby.size)
      replace hr14 := hr14.below hbn
      replace hr18 := hr18.below hbn
      replace hG := hG.below hbn
      go_wp2_with fail
      clear hHeld
      refine hKK.out _ _ (hK.out _ hby) (fun hHeld => ?_)
      clear hKK K hbn
      try simp only [Act.put, List.setIfInBounds_toArray, List.set_cons_zero, List.set_cons_succ]
      refine next_T (i := 9) rfl (by kernel_rfl) (fun K hKK => ?_)
      go_simp
      refine (mulZ (x := dm) (y := dp) hr18 hr22 k2.out k3.out).mono ?_
      rintro e wn ⟨a23, c23, rfl, hr23, hbn⟩
      replace hby := hby.trans (hbn.mono hby.size)
      replace hr14 := hr14.below hbn
      replace hG := hG.below hbn
      go_wp2_with fail
      clear hHeld hr18 hr22
      refine hKK.out _ _ (hK.out _ hby) (fun hHeld => ?_)
      clear hKK K hbn
      try simp only [Act.put, List.setIfInBounds_toArray, List.set_cons_zero, List.set_cons_succ]
      refine next_T (i := 12) rfl (by kernel_rfl) (fun K hKK => ?_)
      go_simp
      refine (mulZ (x := l) (y := l) (hLV.out _ hby) (hLV.out _ hby) k1.out k1.out).mono ?_
      rintro e wn ⟨a26, c26, rfl, hr26, hbn⟩
      replace hby := hby.trans (hbn.mono hby.size)
      replace hr14 := hr14.below hbn
      replace hr23 := hr23.below hbn
      replace hG := hG.below hbn
      go_wp2_with fail
      clear hHeld
      refine hKK.out _ _ (hK.out _ hby) (fun hHeld => ?_)
      clear hKK K hbn
      try simp only [Act.put, List.setIfInBounds_toArray, List.set_cons_zero, List.set_cons_succ]
      refine next_T (i := 13) rfl (by kernel_rfl) (fun K hKK => ?_)
      go_simp
      refine (addZ (x := dm * dp) (y := l * l) hr23 hr26 k5.out k6.out).mono ?_
      rintro e wn ⟨a27, c27, rfl, hr27, hbn⟩
      replace hby := hby.trans (hbn.mono hby.size)
      replace hr14 := hr14.below hbn
      replace hG := hG.below hbn
      go_wp2_with fail
      clear hHeld hr23 hr26
      refine hKK.out _ _ (hK.out _ hby) (fun hHeld => ?_)
      clear hKK K hbn
      try simp only [Act.put, List.setIfInBounds_toArray, List.set_cons_zero, List.set_cons_succ]
      refine next_T (i := 14) rfl (by kernel_rfl) (fun K hKK => ?_)
      go_simp
      refine (mulZ (x := four) (y := dm * dp + l * l) hr14 hr27 k11.out k7.out).mono ?_
      rintro e wn ⟨a28, c28, rfl, hr28, hbn⟩
      replace hby := hby.trans (hbn.mono hby.size)
      replace hG := hG.below hbn
      go_wp2_with fail
      clear hHeld hr14 hr27
      refine hKK.out _ _ (hK.out _ hby) (fun hHeld => ?_)
      clear hKK K hbn
      try simp only [Act.put, List.setIfInBounds_toArray, List.set_cons_zero, List.set_cons_succ]
      obtain ⟨t0, t1, t2, t3, t4⟩ := hG
      refine last_T (t := 16) rfl (by kernel_rfl) (by kernel_rfl) (fun K hKK => ?_)
      go_simp
      refine hKK.out _ _ ?_
      have hG2 := Box.stored ⟨t0, t1, t2, t3, t4⟩ (.bool (sg (four * (dm * dp + l * l)))) (.slice a28 (mg (four * (dm * dp + l * l))).length c28)
      have hL2 := two_lm hr28 t0 t1 (.bool (sg (four * (dm * dp + l * l)))) (.slice a28 (mg (four * (dm * dp + l * l))).length c28)
      have hB2 := two_bel hby hGV (.bool (sg (four * (dm * dp + l * l)))) (.slice a28 (mg (four * (dm * dp + l * l))).length c28)
      go_wp2_with fail
      go_meet
      exact ⟨_, a28, c28, rfl, hG2, hL2, hB2⟩

  case rest =>
    obtain ⟨G, aL, cL, rfl, hG, hLf, hbW⟩ := hcut
    obtain ⟨lf, hlf⟩ : ∃ z, z = four * (dm * dp + l * l) := ⟨_, rfl⟩
    rw [← hlf] at hG hLf
    have k13 : Hid ((mg lf).length ≤ 1000000) := by rw [hlf]; exact k8
    have HLFE := Lib.hid hlf
    have HLF := Lib.hid hLf
    have HBW := Lib.hid hbW
    have hK2 : Hid (∀ w', Below wc.heap.size wc w' → w'.cell? ⟨G, 0, none⟩ = some (.bool (sg lf)) ∧ w'.cell? ⟨G, 1, none⟩ = some (.slice aL (mg lf).length cL)) := fun w' h => ⟨cell_keep h hG.c0, cell_keep h hG.c1⟩
    have hbE : Below wc.heap.size wc wc.drew := (Below.refl _ _).drew
    have hVm : ∀ w', Below wc.heap.size wc w' → Below V.heap.size V w' := fun w' h => HBW.out.trans (h.mono HBW.out.size)
    have HVM := Lib.hid hVm
    clear hlf hLf hbW hVm hK hbD hG
    go_wp2_with fail
    refine begin_T 12 (fun w' => w'.cell? ⟨G, 0, none⟩ = some (.bool (sg lf)) ∧ w'.cell? ⟨G, 1, none⟩ = some (.slice aL (mg lf).length cL)) (by kernel_rfl) (hK2.out _ hbE) (fun hHeld => ?_)
    refine first_T (i := 0) (v := ?_) rfl (by kernel_rfl) (fun _ _ _ h => h) (by rfl) (fun w hSw => ?_) hHeld ?_
    rotate_left
    · ((try dsimp only at hSw); go_simp; (try with_reducible rfl))
    try simp only [Act.put, List.setIfInBounds_toArray, List.set_cons_zero, List.set_cons_succ]
    refine first_T (i := 2) (v := ?_) rfl (by kernel_rfl) (fun _ _ _ h => h) (by rfl) (fun w hSw => ?_) hHeld ?_
    rotate_left
    · ((try dsimp only at hSw); go_simp; (try with_reducible rfl))
    try simp only [Act.put, List.setIfInBounds_toArray, List.set_cons_zero, List.set_cons_succ]
    refine first_T (i := 3) (v := ?_) rfl (by kernel_rfl) (fun _ _ _ h => h) (by rfl) (fun w hSw => ?_) hHeld ?_
    rotate_left
    · ((try dsimp only at hSw); go_simp; (try with_reducible rfl))
    try simp only [Act.put, List.setIfInBounds_toArray, List.set_cons_zero, List.set_cons_succ]
    refine first_T (i := 5) (v := ?_) rfl (by kernel_rfl) (fun _ _ _ h => h) (by rfl) (fun w hSw => ?_) hHeld ?_
    rotate_left
    · ((try dsimp only at hSw); go_simp; (try with_reducible rfl))
    try simp only [Act.put, List.setIfInBounds_toArray, List.set_cons_zero, List.set_cons_succ]
    refine first_T (i := 6) (v := ?_) rfl (by kernel_rfl) (fun _ _ _ h => h) (by rfl) (fun w hSw => ?_) hHeld ?_
    rotate_left
    · ((try dsimp only at hSw); go_simp; (try with_reducible rfl))
    try simp only [Act.put, List.setIfInBounds_toArray, List.set_cons_zero, List.set_cons_succ]
    have hby := hbE
    refine next_T (i := 1) rfl (by kernel_rfl) (fun K hKK => ?_)
    go_simp
    refine (hS3.out _).mono ?_
    rintro e wn ⟨a30, c30, rfl, hr30, hbn⟩
    replace hby := hby.trans (hbn.mono hby.size)
    go_wp2_with fail
    clear hHeld
    refine hKK.out _ _ (hK2.out _ hby) (fun hHeld => ?_)
    clear hKK K hbn
    try simp only [Act.put, List.setIfInBounds_toArray, List.set_cons_zero, List.set_cons_succ]
    refine next_T (i := 4) rfl (by kernel_rfl) (fun K hKK => ?_)
    go_simp
    refine (hMM.out _ (HVM.out _ hby)).mono ?_
    rintro e wn ⟨a33, c33, rfl, hr33, hbn⟩
    replace hby := hby.trans (hbn.mono hby.size)
    replace hr30 := hr30.below hbn
    go_wp2_with fail
    clear hHeld
    refine hKK.out _ _ (hK2.out _ hby) (fun hHeld => ?_)
    clear hKK K hbn
    try simp only [Act.put, List.setIfInBounds_toArray, List.set_cons_zero, List.set_cons_succ]
    refine next_T (i := 7) rfl (by kernel_rfl) (fun K hKK => ?_)
    go_simp
    refine (hMM.out _ (HVM.out _ hby)).mono ?_
    rintro e wn ⟨a36, c36, rfl, hr36, hbn⟩
    replace hby := hby.trans (hbn.mono hby.size)
    replace hr30 := hr30.below hbn
    replace hr33 := hr33.below hbn
    go_wp2_with fail
    clear hHeld
    refine hKK.out _ _ (hK2.out _ hby) (fun hHeld => ?_)
    clear hKK K hbn
    try simp only [Act.put, List.setIfInBounds_toArray, List.set_cons_zero, List.set_cons_succ]
    refine next_T (i := 8) rfl (by kernel_rfl) (fun K hKK => ?_)
    go_simp
    refine (mulZ (x := dq) (y := dq) hr33 hr36 k4.out k4.out).mono ?_
    rintro e wn ⟨a37, c37, rfl, hr37, hbn⟩
    replace hby := hby.trans (hbn.mono hby.size)
    replace hr30 := hr30.below hbn
    go_wp2_with fail
    clear hHeld hr33 hr36
    refine hKK.out _ _ (hK2.out _ hby) (fun hHeld => ?_)
    clear hKK K hbn
    try simp only [Act.put, List.setIfInBounds_toArray, List.set_cons_zero, List.set_cons_succ]
    refine next_T (i := 9) rfl (by kernel_rfl) (fun K hKK => ?_)
    go_simp
    refine (mulZ (x := three) (y := dq * dq) hr30 hr37 k12.out k9.out).mono ?_
    rintro e wn ⟨a38, c38, rfl, hr38, hbn⟩
    replace hby := hby.trans (hbn.mono hby.size)
    go_wp2_with fail
    clear hHeld hr30 hr37
    refine hKK.out _ _ (hK2.out _ hby) (fun hHeld => ?_)
    clear hKK K hbn
    try simp only [Act.put, List.setIfInBounds_toArray, List.set_cons_zero, List.set_cons_succ]
    refine next_T (i := 10) rfl (by kernel_rfl) (fun K hKK => ?_)
    go_simp
    refine (cmpZZ (HLF.out.below hby) hr38 k13.out k10.out).mono ?_
    rintro e wn ⟨rfl, hbn⟩
    replace hby := hby.trans (hbn.mono hby.size)
    go_wp2_with fail
    clear hHeld hr38
    refine hKK.out _ _ (hK2.out _ hby) (fun hHeld => ?_)
    clear hKK K hbn
    try simp only [Act.put, List.setIfInBounds_toArray, List.set_cons_zero, List.set_cons_succ]
    have hcg := cmpZ_ge lf (three * (dq * dq))
    refine next_T (i := 11) rfl (by kernel_rfl) (fun K hKK => ?_)
    go_simp
    refine hKK.out _ _ (hK2.out _ hby) (fun hHeld => ?_)
    clear hKK K
    try simp only [Act.put, List.setIfInBounds_toArray, List.set_cons_zero, List.set_cons_succ]
    refine last_T (t := 12) rfl (by kernel_rfl) (by kernel_rfl) (fun K hKK => ?_)
    go_simp
    refine hKK.out _ _ ?_
    have hBF := Lib.hid (hBV.out.trans ((HVM.out _ hby).mono hBV.out.size))
    clear hKK K hHeld hby hbE
    go_wp2_with fail
    go_ret
    refine ⟨_, rfl, ?_, hBF.out⟩
    rw [decide_eq_true_eq]
    unfold LovaszZ
    rw [HLFE.out, HFOUR.out, HTHREE.out, HL.out, HDM.out, HDP.out, HDQ.out]
    exact Iff.rfl
end Go.Proofs.YtfpcfcegdjlggaaGreat
namespace Go.Proofs.YtfpcfcegdjlggaaGreat
open Go.RowKit Minor

/-- The conditions 3 and 4 of a reduced form, as the reference reckons them, in the rows ahead of i. -/
def RedZ (M : Nat → Nat → Int) (n : Nat) : Prop := ∀ i, i < n → (∀ j, j < i → SizedZ M i j) ∧ (0 < i → LovaszZ M i)

set_option maxRecDepth 100000 in
set_option maxHeartbeats 4000000 in
theorem rreduced_any (g n cap : Nat) (R : Nat → Nat) (M : Nat → Nat → Int) (w : World) (hM : MatZ w g n n R M) (h1 : 1 ≤ n) (h2 : n ≤ 8) (hs : ∀ i j, i < n → j < n → (M i j).natAbs ≤ cB 0) :
    Calls Tryz.prog 72 #[.slice (some ⟨g, 0, none⟩) n cap] w fun e w' => ∃ r : Bool, e = .returned (.bool r) ∧ (r = true ↔ RedZ M n) ∧ Below w.heap.size w w' := by
  have HM := Lib.hid hM
  have HS := Lib.hid hs
  clear hM hs
  go_enter Tryz.func72, Tryz.ntmps72
  go_wp2_with fail
  refine (rleading_any g n cap R M _ HM.out h1 h2 HS.out).mono ?_
  rintro e w1 ⟨b, c, rfl, hr, hb1⟩
  have HR1 : Hid (∀ w', Below w1.heap.size w1 w' → RowZ w' b n (fun k => detZ M (k + 1))) := fun w' h => hr.belowU h
  have HM1 : Hid (∀ w', Below w1.heap.size w1 w' → MatZ w' g n n R M) := fun w' h => HM.out.below (hb1.trans (h.mono hb1.size))
  have HB1 := Lib.hid hb1
  clear hr hb1
  go_wp2_with fail
  go_loopw [14] (fun ii wr => ∃ i : Nat, i ≤ n ∧ ii = .int .i64 (i : Int) ∧ Hid (RedZ M i) ∧ Hid (Below w1.heap.size w1 wr)) (fun ii _ => n - (intOf ii).toNat)
  case atStart => exact ⟨0, by omega, rfl, fun i hi => by omega, Below.refl _ _⟩
  case round =>
    obtain ⟨i, hin, rfl, hY, hB⟩ := hrel
    by_cases hi : i < n
    · go_wp2_with fail
      go_loopw [6] (fun jj wq => ∃ j : Nat, j ≤ i ∧ jj = .int .i64 (j : Int) ∧ Hid (∀ q, q < j → SizedZ M i q) ∧ Hid (Below w1.heap.size w1 wq)) (fun jj _ => i - (intOf jj).toNat)
      case atStart => exact ⟨0, by omega, rfl, fun q hq => by omega, hB⟩
      case round =>
        obtain ⟨j, hji, rfl, hZ, hB2⟩ := hrel
        clear hB
        by_cases hj : j < i
        · go_wp2_with fail
          refine (rsized_any g n cap b c i j R M _ (HM1.out _ hB2.out) (HR1.out _ hB2.out) h2 hi (by omega) HS.out).mono ?_
          rintro e w5 ⟨r, rfl, hsz, hb5⟩
          have hB5 : Hid (Below w1.heap.size w1 w5) := hB2.out.trans (hb5.mono hB2.out.size)
          clear hb5
          cases r with
          | false =>
            have hno : Hid (¬RedZ M n) := fun h => by have := hsz.2 ((h i hi).1 j hj); simp at this
            clear hsz
            go_wp2_with fail
            go_ret
            exact ⟨false, rfl, ⟨fun h => by simp at h, fun h => absurd h hno.out⟩, HB1.out.trans (hB5.out.mono HB1.out.size)⟩
          | true =>
            have hnx : Hid (∀ q, q < j + 1 → SizedZ M i q) := fun q hq => by
              by_cases e : q = j
              · rw [e]; exact hsz.1 rfl
              · exact hZ.out q (by omega)
            clear hsz
            go_wp2_with fail
            go_roundw
            case rel => exact ⟨j + 1, by omega, by go_num, hnx, hB5⟩
            case measure => simp [intOf]; omega
        · obtain rfl : j = i := by omega
          by_cases h0 : 0 < j
          · have hd0 : decide ((0 : Int) < (j : Int)) = true := decide_eq_true (by omega)
            go_wp2_with fail
            refine (rlovasz_any g n cap b c j R M _ (HM1.out _ hB2.out) (HR1.out _ hB2.out) h2 hi h0 HS.out).mono ?_
            rintro e w5 ⟨r, rfl, hlo, hb5⟩
            have hB5 : Hid (Below w1.heap.size w1 w5) := hB2.out.trans (hb5.mono hB2.out.size)
            clear hb5
            cases r with
            | false =>
              have hno : Hid (¬RedZ M n) := fun h => by have := hlo.2 ((h j hi).2 h0); simp at this
              clear hlo
              go_wp2_with fail
              go_ret
              exact ⟨false, rfl, ⟨fun h => by simp at h, fun h => absurd h hno.out⟩, HB1.out.trans (hB5.out.mono HB1.out.size)⟩
            | true =>
              have hnx : Hid (RedZ M (j + 1)) := fun p hp => by
                by_cases e : p = j
                · rw [e]; exact ⟨hZ.out, fun _ => hlo.1 rfl⟩
                · exact hY.out p (by omega)
              clear hlo
              go_wp2_with fail
              go_roundw
              case rel => exact ⟨j + 1, by omega, by go_num, hnx, hB5⟩
              case measure => simp [intOf]; omega
          · obtain rfl : j = 0 := by omega
            have hnx : Hid (RedZ M (0 + 1)) := fun p hp => by
              obtain rfl : p = 0 := by omega
              exact ⟨fun q hq => by omega, fun h => by omega⟩
            go_wp2_with fail
            go_roundw
            case rel => exact ⟨0 + 1, by omega, by go_num, hnx, hB2⟩
            case measure => simp [intOf]; omega
    · obtain rfl : i = n := by omega
      go_wp2_with fail
      go_ret
      exact ⟨true, rfl, ⟨fun _ => hY.out, fun _ => rfl⟩, HB1.out.trans (hB.out.mono HB1.out.size)⟩
end Go.Proofs.YtfpcfcegdjlggaaGreat
