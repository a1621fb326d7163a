import Derived.Test.YtcmjlhcpoajbkaaDoorQFg
namespace Go.Proofs.YtcmjlhcpoajbkaaDoor
set_option maxRecDepth 10000
set_option linter.unusedSimpArgs false
open Go.RowKit
set_option maxHeartbeats 8000000 in
theorem forged_any (w : World) (hT : Tabs KS HS w) (i n : Nat) (hi : i < n) (hn : n ≤ 9223372036854775807) (e : List Int) (pe : Option Addr) (ne ce : Nat) (hne : ne < 140737488355328) (p : Option Addr) (m cap : Nat) (ds : List (List Int)) (o : List Int) (po : Option Addr) (no co : Nat) (hno : no < 140737488355328) (q : Option Addr) (k cap' : Nat) (ds' : List (List Int))
    (hE : In8 w pe ne ce e) (hP' : D32 w p m cap ds) (hO : In8 w po no co o) (hQ : D32 w q k cap' ds') (hlen : ds.length = wayLen i n) (R : List Int) (hR : R = hP (textAt e (leftsP i n) ds (wayLen i n))) :
    Calls Tryd.prog 48 #[.int .i64 i, .int .i64 n, .slice pe ne ce, .slice p m cap, .slice po no co, .slice q k cap', .agg (A8 R)] w fun ex w' => ex = .returned (.bool true) ∧ Below w.heap.size w w' := by
  have hRl : R.length = 32 := by rw [hR]; exact hP_len _
  have hRb : Bytes R := by rw [hR]; exact hP_bytes _
  have HR : Hid (R = hP (textAt e (leftsP i n) ds (wayLen i n))) := hR
  have hb0 : Below w.heap.size w (w.alloc (.cells (A8 R) 25)) := (Below.refl _ _).alloc (Nat.le_refl _) _
  have dR : Hid (Dg (w.alloc (.cells (A8 R) 25)) w.heap.size R) := Dg.boxed w R _ rfl hRl
  have hg1 : ∀ k, k < ds.length → (ds.getD k []).length = 32 := fun k hk => (hP'.get k (by have := hP'.len; omega)).1
  have hg2 : ∀ k, k < ds'.length → (ds'.getD k []).length = 32 := fun k hk => (hQ.get k (by have := hQ.len; omega)).1
  have HL : Hid (ds.length = wayLen i n) := hlen
  have HG1 : Hid (∀ k, k < ds.length → (ds.getD k []).length = 32) := hg1
  have HG2 : Hid (∀ k, k < ds'.length → (ds'.getD k []).length = 32) := hg2
  have qn := fun W => eql_nil none 0 0 W
  clear hg1 hg2 hR hlen
  by_cases hq : ds'.length = wayLen i n
  · have HCl : Hid (climbOut o i n ds' = (hP (textAt o (leftsP i n) ds' (wayLen i n)), 0)) := climbOut_way o i n ds' hi hn hq
    have HQ : Hid (ds'.length = wayLen i n) := hq
    clear hq
    obtain ⟨D, hD⟩ : ∃ D, hP (textAt o (leftsP i n) ds' (wayLen i n)) = D := ⟨_, rfl⟩
    have hDl : D.length = 32 := by rw [← hD]; exact hP_len _
    have hDb : Bytes D := by rw [← hD]; exact hP_bytes _
    have HD : Hid (hP (textAt o (leftsP i n) ds' (wayLen i n)) = D) := hD
    rw [hD] at HCl
    clear hD
    go_enter Tryd.func48, Tryd.ntmps48
    go_wp2_with fail
    refine (annalClimb_any o po no co hno (i : Int) (n : Int) q k cap' ds' _ (hT.below hb0) (hO.below hb0) (hQ.below hb0) (by omega) (by omega)).mono ?_
    rintro ex w1 ⟨rfl, b1⟩
    rw [HCl.out]
    have r1 : Hid (Dg w1 w.heap.size R) := dR.out.next b1
    have B1 : Below w.heap.size w w1 := hb0.trans (b1.mono (by simp))
    have l1 := r1.out.lt
    have n1 : Hid (Dg (w1.alloc (.cells Z8x32 25)) w1.heap.size Z32) := Dg.new w1 _ rfl
    clear b1 dR
    go_wp2_with (first
      | (with_reducible refine atStore 25 ?_
         refine store_D rfl _ _ rfl w1.heap.size D rfl rfl Z32 n1.out hDl ?_
         intro U hU
         refine hideGoal ?_))
    have dU : Hid (Dg U w1.heap.size D) := hU.dg hDl
    have rU : Hid (Dg U w.heap.size R) := (r1.out.alloc _).other hU (by omega)
    have BU : Below w.heap.size w U := hU.below _ _ (by omega) (B1.alloc B1.size _)
    clear hU n1 r1 B1
    generalize w1.heap.size = gd at *
    refine openGoal ?_
    go_wp2_with fail
    refine (clash_any (i : Int) (n : Int) (by omega) (by omega) e pe ne ce hne p m cap ds o po no co hno q k cap' ds' U (hT.below BU) (hE.below BU) (hP'.below BU) (hO.below BU) (hQ.below BU)).mono ?_
    rintro ex w2 ⟨hc, b2⟩
    rcases hc.cases hi HL.out HG1.out HG2.out with ⟨h, rfl⟩ | ⟨_, hnb, X, Y, v1, v2, hXY, rfl, o1, o2, _, hroot⟩
    · obtain ⟨he, hd⟩ : e = o ∧ ds = ds' := by
        rcases h with h | h
        · exact absurd HQ.out h
        · exact h
      have q1 : decide (e = o) = true := decide_eq_true he
      have q2 : decide (ds = ds') = true := decide_eq_true hd
      have Q1 : Hid (decide (e = o) = true) := q1
      have Q2 : Hid (decide (ds = ds') = true) := q2
      clear he hd q1 q2 h hc HR HD HCl
      have d2 : Hid (Dg w2 gd D) := dU.out.next b2
      have r2 : Hid (Dg w2 w.heap.size R) := rU.out.next b2
      have B2 : Below w.heap.size w w2 := BU.trans (b2.mono BU.size)
      clear dU rU BU b2
      go_wp2_with fail
      refine (equalK_any w2 _ _ _ _ _ _ e o (hE.below B2) (hO.below B2)).mono ?_
      rintro ex w2' ⟨rfl, rfl⟩
      rw [Q1.out]
      go_wp2_with fail
      refine (same_keep w2' _ _ _ _ _ _ ds ds' (hP'.below B2) (hQ.below B2)).mono ?_
      rintro ex w3 ⟨rfl, b3⟩
      rw [Q2.out]
      have d3 : Hid (Dg w3 gd D) := d2.out.next b3
      have r3 : Hid (Dg w3 w.heap.size R) := r2.out.next b3
      have B3 : Below w.heap.size w w3 := B2.trans (b3.mono B2.size)
      go_wp2_with fail
      go_ret
      exact ⟨rfl, B3⟩
    · obtain ⟨g1, c1, rfl, _, _, i1⟩ := o1.in8
      obtain ⟨g2, c2, rfl, _, _, i2⟩ := o2.in8
      have I1 : Hid (In8 w2 (some ⟨g1, 0, none⟩) X.length c1 X) := i1
      have I2 : Hid (In8 w2 (some ⟨g2, 0, none⟩) Y.length c2 Y) := i2
      have hXl : X.length < 9223372036854775807 := by have := i1.small; have := i1.len; omega
      rw [HD.out, ← HR.out] at hroot
      have HRT : Hid (decide (hP X = hP Y) = decide (D = R)) := hroot
      have hxy : decide (X = Y) = false := decide_eq_false hXY
      have HXY : Hid (decide (X = Y) = false) := hxy
      have hh1 := hP_len X
      have hh2 := hP_len Y
      have hc1 := hP_bytes X
      have hc2 := hP_bytes Y
      have hand : (decide (e = o) && decide (ds = ds')) = false := by
        cases hx : (decide (e = o) && decide (ds = ds')) with
        | false => rfl
        | true => simp at hx; exact absurd hx hnb
      clear hc HR HD HCl hXY hxy o1 o2 i1 i2 hroot hnb
      obtain ⟨H1, hH1⟩ : ∃ H1, hP X = H1 := ⟨_, rfl⟩
      obtain ⟨H2, hH2⟩ : ∃ H2, hP Y = H2 := ⟨_, rfl⟩
      have G1 : Hid (hP X = H1) := hH1
      have G2 : Hid (hP Y = H2) := hH2
      rw [hH1] at hh1 hc1 HRT ⊢
      rw [hH2] at hh2 hc2 HRT ⊢
      clear hH1 hH2
      have d2 : Hid (Dg w2 gd D) := dU.out.next b2
      have r2 : Hid (Dg w2 w.heap.size R) := rU.out.next b2
      have B2 : Below w.heap.size w w2 := BU.trans (b2.mono BU.size)
      clear dU rU BU b2
      go_wp2_with fail
      refine (equalK_any w2 _ _ _ _ _ _ e o (hE.below B2) (hO.below B2)).mono ?_
      rintro ex w2' ⟨rfl, rfl⟩
      go_wp2_with fail
      refine (same_keep w2' _ _ _ _ _ _ ds ds' (hP'.below B2) (hQ.below B2)).mono ?_
      rintro ex w3 ⟨rfl, b3⟩
      have d3 : Hid (Dg w3 gd D) := d2.out.next b3
      have r3 : Hid (Dg w3 w.heap.size R) := r2.out.next b3
      have B3 : Below w.heap.size w w3 := B2.trans (b3.mono B2.size)
      have I3 : Hid (In8 w3 (some ⟨g1, 0, none⟩) X.length c1 X) := I1.out.below b3
      have I4 : Hid (In8 w3 (some ⟨g2, 0, none⟩) Y.length c2 Y) := I2.out.below b3
      clear I1 I2 b3 d2 r2 B2
      have n1 := neq_nil (some ⟨g1, 0, none⟩) X.length c1
      have n2 := neq_nil (some ⟨g2, 0, none⟩) Y.length c2
      generalize decide (e = o) = E1 at *
      generalize decide (ds = ds') = E2 at *
      have hE12 : (E1 = false) ∨ (E1 = true ∧ E2 = false) := by
        cases E1
        · exact .inl rfl
        · cases E2
          · exact .inr ⟨rfl, rfl⟩
          · cases hand
      clear hand
      rcases hE12 with rfl | ⟨rfl, rfl⟩
      · go_wp2_with fail
        have hc5 := annalHash_any KS HS w3 (hT.below B3) _ _ _ X I3.out
        rw [show hashP KS HS X = H1 from G1.out] at hc5
        refine Calls.mono hc5 ?_
        rintro ex w4 ⟨rfl, b4⟩
        have d4 : Hid (Dg w4 gd D) := d3.out.next b4
        have r4 : Hid (Dg w4 w.heap.size R) := r3.out.next b4
        have B4 : Below w.heap.size w w4 := B3.trans (b4.mono B3.size)
        have I5 : Hid (In8 w4 (some ⟨g1, 0, none⟩) X.length c1 X) := I3.out.below b4
        have I6 : Hid (In8 w4 (some ⟨g2, 0, none⟩) Y.length c2 Y) := I4.out.below b4
        have n4 : Hid (Dg (w4.alloc (.cells Z8x32 25)) w4.heap.size Z32) := Dg.new w4 _ rfl
        have l4 := d4.out.lt
        have l4' := r4.out.lt
        clear hc5 b4 d3 r3 I3 I4 B3
        go_wp2_with (first
          | (with_reducible refine atStore 25 ?_
             refine store_D rfl _ _ rfl w4.heap.size H1 rfl rfl Z32 n4.out hh1 ?_
             intro U4 hU
             refine hideGoal ?_))
        have bU : Below w4.heap.size w4 U4 := hU.below _ _ (Nat.le_refl _) ((Below.refl _ _).alloc (Nat.le_refl _) _)
        have x5 : Hid (Dg U4 w4.heap.size H1) := hU.dg hh1
        have d5 : Hid (Dg U4 gd D) := d4.out.next bU
        have r5 : Hid (Dg U4 w.heap.size R) := r4.out.next bU
        have B5 : Below w.heap.size w U4 := B4.trans (bU.mono B4.size)
        have I7 : Hid (In8 U4 (some ⟨g1, 0, none⟩) X.length c1 X) := I5.out.below bU
        have I8 : Hid (In8 U4 (some ⟨g2, 0, none⟩) Y.length c2 Y) := I6.out.below bU
        clear hU n4 d4 r4 I5 I6 B4 bU
        generalize w4.heap.size = gx at *
        refine openGoal ?_
        go_wp2_with fail
        have hc6 := annalHash_any KS HS U4 (hT.below B5) _ _ _ Y I8.out
        rw [show hashP KS HS Y = H2 from G2.out] at hc6
        refine Calls.mono hc6 ?_
        rintro ex w6 ⟨rfl, b6⟩
        have x6 : Hid (Dg w6 gx H1) := x5.out.next b6
        have d6 : Hid (Dg w6 gd D) := d5.out.next b6
        have r6 : Hid (Dg w6 w.heap.size R) := r5.out.next b6
        have B6 : Below w.heap.size w w6 := B5.trans (b6.mono B5.size)
        have I9 : Hid (In8 w6 (some ⟨g1, 0, none⟩) X.length c1 X) := I7.out.below b6
        have I10 : Hid (In8 w6 (some ⟨g2, 0, none⟩) Y.length c2 Y) := I8.out.below b6
        have n6 : Hid (Dg (w6.alloc (.cells Z8x32 25)) w6.heap.size Z32) := Dg.new w6 _ rfl
        clear hc6 b6 x5 d5 r5 I7 I8 B5
        go_wp2_with (first
          | (with_reducible refine atStore 25 ?_
             refine store_D rfl _ _ rfl w6.heap.size H2 rfl rfl Z32 n6.out hh2 ?_
             intro U6 hU
             refine hideGoal ?_))
        have bU : Below w6.heap.size w6 U6 := hU.below _ _ (Nat.le_refl _) ((Below.refl _ _).alloc (Nat.le_refl _) _)
        have y7 : Hid (Dg U6 w6.heap.size H2) := hU.dg hh2
        have x7 : Hid (Dg U6 gx H1) := x6.out.next bU
        have d7 : Hid (Dg U6 gd D) := d6.out.next bU
        have r7 : Hid (Dg U6 w.heap.size R) := r6.out.next bU
        have B7 : Below w.heap.size w U6 := B6.trans (bU.mono B6.size)
        have I11 : Hid (In8 U6 (some ⟨g1, 0, none⟩) X.length c1 X) := I9.out.below bU
        have I12 : Hid (In8 U6 (some ⟨g2, 0, none⟩) Y.length c2 Y) := I10.out.below bU
        clear hU n6 x6 d6 r6 I9 I10 B6 bU
        generalize w6.heap.size = gy at *
        refine openGoal ?_
        go_wp2_with fail
        refine (equalK_any U6 _ _ _ _ _ _ X Y I11.out I12.out).mono ?_
        rintro ex w8 ⟨rfl, rfl⟩
        rw [HXY.out]
        obtain ⟨DD, hDD⟩ : ∃ DD, decide (H1 = H2) = DD := ⟨_, rfl⟩
        have HDR : Hid (decide (D = R) = DD) := by show _ = _; rw [← HRT.out, hDD]
        have HDD : Hid (decide (H1 = H2) = DD) := hDD
        rw [hDD]
        clear hDD I11 I12 HRT
        have hbb : (DD == DD) = true := by cases DD <;> rfl
        go_wp2_with (first
          | (with_reducible refine atLoad 25 ?_
             first
               | refine load_D rfl (.tmp 22) rfl gx rfl H1 x7.out ?_
               | refine load_D rfl (.tmp 23) rfl gy rfl H2 y7.out ?_
               | refine load_D rfl (.tmp 15) rfl gd rfl D d7.out ?_
               | refine load_D rfl (.tmp 13) rfl w.heap.size rfl R r7.out ?_)
          | (with_reducible refine atBin .eql 25 25 ?_
             first
               | (refine wpList_eql rfl (.tmp 87) (.tmp 88) rfl H1 H2 hh1 hc1 hh2 hc2 rfl rfl ?_
                  rw [HDD.out])
               | (refine wpList_eql rfl (.tmp 94) (.tmp 95) rfl D R hDl hDb hRl hRb rfl rfl ?_
                  rw [HDR.out])))
        go_ret
        exact ⟨rfl, B7⟩
      · go_wp2_with fail
        have hc5 := annalHash_any KS HS w3 (hT.below B3) _ _ _ X I3.out
        rw [show hashP KS HS X = H1 from G1.out] at hc5
        refine Calls.mono hc5 ?_
        rintro ex w4 ⟨rfl, b4⟩
        have d4 : Hid (Dg w4 gd D) := d3.out.next b4
        have r4 : Hid (Dg w4 w.heap.size R) := r3.out.next b4
        have B4 : Below w.heap.size w w4 := B3.trans (b4.mono B3.size)
        have I5 : Hid (In8 w4 (some ⟨g1, 0, none⟩) X.length c1 X) := I3.out.below b4
        have I6 : Hid (In8 w4 (some ⟨g2, 0, none⟩) Y.length c2 Y) := I4.out.below b4
        have n4 : Hid (Dg (w4.alloc (.cells Z8x32 25)) w4.heap.size Z32) := Dg.new w4 _ rfl
        have l4 := d4.out.lt
        have l4' := r4.out.lt
        clear hc5 b4 d3 r3 I3 I4 B3
        go_wp2_with (first
          | (with_reducible refine atStore 25 ?_
             refine store_D rfl _ _ rfl w4.heap.size H1 rfl rfl Z32 n4.out hh1 ?_
             intro U4 hU
             refine hideGoal ?_))
        have bU : Below w4.heap.size w4 U4 := hU.below _ _ (Nat.le_refl _) ((Below.refl _ _).alloc (Nat.le_refl _) _)
        have x5 : Hid (Dg U4 w4.heap.size H1) := hU.dg hh1
        have d5 : Hid (Dg U4 gd D) := d4.out.next bU
        have r5 : Hid (Dg U4 w.heap.size R) := r4.out.next bU
        have B5 : Below w.heap.size w U4 := B4.trans (bU.mono B4.size)
        have I7 : Hid (In8 U4 (some ⟨g1, 0, none⟩) X.length c1 X) := I5.out.below bU
        have I8 : Hid (In8 U4 (some ⟨g2, 0, none⟩) Y.length c2 Y) := I6.out.below bU
        clear hU n4 d4 r4 I5 I6 B4 bU
        generalize w4.heap.size = gx at *
        refine openGoal ?_
        go_wp2_with fail
        have hc6 := annalHash_any KS HS U4 (hT.below B5) _ _ _ Y I8.out
        rw [show hashP KS HS Y = H2 from G2.out] at hc6
        refine Calls.mono hc6 ?_
        rintro ex w6 ⟨rfl, b6⟩
        have x6 : Hid (Dg w6 gx H1) := x5.out.next b6
        have d6 : Hid (Dg w6 gd D) := d5.out.next b6
        have r6 : Hid (Dg w6 w.heap.size R) := r5.out.next b6
        have B6 : Below w.heap.size w w6 := B5.trans (b6.mono B5.size)
        have I9 : Hid (In8 w6 (some ⟨g1, 0, none⟩) X.length c1 X) := I7.out.below b6
        have I10 : Hid (In8 w6 (some ⟨g2, 0, none⟩) Y.length c2 Y) := I8.out.below b6
        have n6 : Hid (Dg (w6.alloc (.cells Z8x32 25)) w6.heap.size Z32) := Dg.new w6 _ rfl
        clear hc6 b6 x5 d5 r5 I7 I8 B5
        go_wp2_with (first
          | (with_reducible refine atStore 25 ?_
             refine store_D rfl _ _ rfl w6.heap.size H2 rfl rfl Z32 n6.out hh2 ?_
             intro U6 hU
             refine hideGoal ?_))
        have bU : Below w6.heap.size w6 U6 := hU.below _ _ (Nat.le_refl _) ((Below.refl _ _).alloc (Nat.le_refl _) _)
        have y7 : Hid (Dg U6 w6.heap.size H2) := hU.dg hh2
        have x7 : Hid (Dg U6 gx H1) := x6.out.next bU
        have d7 : Hid (Dg U6 gd D) := d6.out.next bU
        have r7 : Hid (Dg U6 w.heap.size R) := r6.out.next bU
        have B7 : Below w.heap.size w U6 := B6.trans (bU.mono B6.size)
        have I11 : Hid (In8 U6 (some ⟨g1, 0, none⟩) X.length c1 X) := I9.out.below bU
        have I12 : Hid (In8 U6 (some ⟨g2, 0, none⟩) Y.length c2 Y) := I10.out.below bU
        clear hU n6 x6 d6 r6 I9 I10 B6 bU
        generalize w6.heap.size = gy at *
        refine openGoal ?_
        go_wp2_with fail
        refine (equalK_any U6 _ _ _ _ _ _ X Y I11.out I12.out).mono ?_
        rintro ex w8 ⟨rfl, rfl⟩
        rw [HXY.out]
        obtain ⟨DD, hDD⟩ : ∃ DD, decide (H1 = H2) = DD := ⟨_, rfl⟩
        have HDR : Hid (decide (D = R) = DD) := by show _ = _; rw [← HRT.out, hDD]
        have HDD : Hid (decide (H1 = H2) = DD) := hDD
        rw [hDD]
        clear hDD I11 I12 HRT
        have hbb : (DD == DD) = true := by cases DD <;> rfl
        go_wp2_with (first
          | (with_reducible refine atLoad 25 ?_
             first
               | refine load_D rfl (.tmp 22) rfl gx rfl H1 x7.out ?_
               | refine load_D rfl (.tmp 23) rfl gy rfl H2 y7.out ?_
               | refine load_D rfl (.tmp 15) rfl gd rfl D d7.out ?_
               | refine load_D rfl (.tmp 13) rfl w.heap.size rfl R r7.out ?_)
          | (with_reducible refine atBin .eql 25 25 ?_
             first
               | (refine wpList_eql rfl (.tmp 87) (.tmp 88) rfl H1 H2 hh1 hc1 hh2 hc2 rfl rfl ?_
                  rw [HDD.out])
               | (refine wpList_eql rfl (.tmp 94) (.tmp 95) rfl D R hDl hDb hRl hRb rfl rfl ?_
                  rw [HDR.out])))
        go_ret
        exact ⟨rfl, B7⟩
  · have HCl : Hid (climbOut o i n ds' = (Z32, 1)) := climbOut_no o i n ds' hi hn hq
    have HQ : Hid (¬ ds'.length = wayLen i n) := hq
    clear hq
    have hDl : Z32.length = 32 := rfl
    go_enter Tryd.func48, Tryd.ntmps48
    go_wp2_with fail
    refine (annalClimb_any o po no co hno (i : Int) (n : Int) q k cap' ds' _ (hT.below hb0) (hO.below hb0) (hQ.below hb0) (by omega) (by omega)).mono ?_
    rintro ex w1 ⟨rfl, b1⟩
    rw [HCl.out]
    have r1 : Hid (Dg w1 w.heap.size R) := dR.out.next b1
    have B1 : Below w.heap.size w w1 := hb0.trans (b1.mono (by simp))
    have l1 := r1.out.lt
    have n1 : Hid (Dg (w1.alloc (.cells Z8x32 25)) w1.heap.size Z32) := Dg.new w1 _ rfl
    clear b1 dR
    go_wp2_with (first
      | (with_reducible refine atStore 25 ?_
         refine store_D rfl _ _ rfl w1.heap.size Z32 rfl rfl Z32 n1.out hDl ?_
         intro U hU
         refine hideGoal ?_))
    have dU : Hid (Dg U w1.heap.size Z32) := hU.dg hDl
    have rU : Hid (Dg U w.heap.size R) := (r1.out.alloc _).other hU (by omega)
    have BU : Below w.heap.size w U := hU.below _ _ (by omega) (B1.alloc B1.size _)
    clear hU n1 r1 B1
    generalize w1.heap.size = gd at *
    refine openGoal ?_
    go_wp2_with fail
    refine (clash_any (i : Int) (n : Int) (by omega) (by omega) e pe ne ce hne p m cap ds o po no co hno q k cap' ds' U (hT.below BU) (hE.below BU) (hP'.below BU) (hO.below BU) (hQ.below BU)).mono ?_
    rintro ex w2 ⟨hc, b2⟩
    rcases hc.cases hi HL.out HG1.out HG2.out with ⟨h, rfl⟩ | ⟨h, _⟩
    · clear h hc HR HCl
      have B2 : Below w.heap.size w w2 := BU.trans (b2.mono BU.size)
      clear dU rU BU b2
      go_wp2_with fail
      refine (equalK_any w2 _ _ _ _ _ _ e o (hE.below B2) (hO.below B2)).mono ?_
      rintro ex w2' ⟨rfl, rfl⟩
      go_wp2_with fail
      refine (same_keep w2' _ _ _ _ _ _ ds ds' (hP'.below B2) (hQ.below B2)).mono ?_
      rintro ex w3 ⟨rfl, b3⟩
      have B3 : Below w.heap.size w w3 := B2.trans (b3.mono B2.size)
      generalize decide (e = o) = E1 at *
      generalize decide (ds = ds') = E2 at *
      go_wp2_with fail
      go_ret
      exact ⟨rfl, B3⟩
    · exact absurd h HQ.out
end Go.Proofs.YtcmjlhcpoajbkaaDoor
