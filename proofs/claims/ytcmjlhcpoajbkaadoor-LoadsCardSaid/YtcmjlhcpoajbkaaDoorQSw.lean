import Derived.Test.YtcmjlhcpoajbkaaDoorQFo
import Derived.Test.YtcmjlhcpoajbkaaDoorQLp
import Derived.Test.YtcmjlhcpoajbkaaDoorQGw
namespace Go.Proofs.YtcmjlhcpoajbkaaDoor
set_option maxRecDepth 10000
set_option linter.unusedSimpArgs false
open Go.RowKit
theorem wpList_neq {ops : Array Oper} {rest : List Oper} {o : Oper} {a : Act} {w : World} {Q : Exit → Act → World → Prop} (hw : Region.wanted o (yielded ops a.tmps) = true) (x y : Operand) (ho : o.op = .binOp .neq 25 x y 25) (D E : List Int) (hl : D.length = 32) (hb : Bytes D) (hl' : E.length = 32) (hb' : Bytes E)
    (hx : a.eval x = .agg (A8 D)) (hy : a.eval y = .agg (A8 E)) (h : wpList Tryd.prog ops Q rest (a.put o.dst (.bool (!decide (D = E)))) w) : wpList Tryd.prog ops Q (o :: rest) a w := by
  have e := neq_D D E hl hb hl' hb' w
  have g := run_eqGuard_agg (P := Tryd.prog) w .neq 25 x y (A8 D) (A8 E) (by kernel_rfl)
  refine wpList_w hw fun _ hK => ?_
  unfold Oper.wp execOp
  simp only [ho, hx, hy, Sem.run_bind, g, e, Result.andThen_ok, Sem.run_pure]
  exact hK _ _ h
theorem path_way (E : List (List Int)) (N I : Nat) (hI : I < N) (hN : N ≤ E.length) (hE : E.length ≤ 1000) :
    (pathP I (E.take N)).length = wayLen I N ∧ rootP (E.take N) = hP (textAt (E.getD I []) (leftsP I N) (pathP I (E.take N)) (wayLen I N)) ∧ climbOut (E.getD I []) I N (pathP I (E.take N)) = (rootP (E.take N), 0) := by
  have hl : (E.take N).length = N := by rw [List.length_take]; omega
  have hg : (E.take N).getD I [] = E.getD I [] := by rw [List.getD_eq_getElem?_getD, List.getElem?_take, if_pos hI, ← List.getD_eq_getElem?_getD]
  have hc := climb_path N I (E.take N) (by omega) (by omega) (by omega)
  rw [hl, hg] at hc
  obtain ⟨h1, h2⟩ := climb_up (E.getD I []) 63 I N (pathP I (E.take N)) hI (by omega) (by omega)
  rw [hc] at h1 h2
  have h3 : (pathP I (E.take N)).length = (leftsF 63 I N).length := of_decide_eq_true h1.symm
  have h4 : (pathP I (E.take N)).length = wayLen I N := h3
  refine ⟨h4, ?_, ?_⟩
  · have h5 := h2 h3
    rw [h3] at h5
    exact h5
  · unfold climbOut
    rw [if_neg (by omega), Int.toNat_natCast, Int.toNat_natCast, hc]
    rfl
theorem pathOut_in (I N : Nat) (E : List (List Int)) (hI : I < N) (hN : N ≤ E.length) : pathOut I N E = (pathP I (E.take N), 0) := by
  unfold pathOut
  rw [if_neg (by omega), Int.toNat_natCast, Int.toNat_natCast]
set_option maxHeartbeats 20000000 in
theorem shown_any (w : World) (hT : Tabs KS HS w) (kp : Option Addr) (kn kc : Nat) (key : List Int) (hk : In8 w kp kn kc key) (p : Option Addr) (n c : Nat) (es : List (List Int)) (he : EN w p n c es)
    (nn i_ : Int) (po : Option Addr) (no co : Nat) (oth : List Int) (hO : In8 w po no co oth) (hno : no < 140737488355328) (at_ by_ : Int) (hn1 : -9223372036854775808 ≤ nn) (hn2 : nn ≤ 9223372036854775807) (hi1 : -9223372036854775808 ≤ i_) (hi2 : i_ ≤ 9223372036854775807) (ha1 : -9223372036854775808 ≤ at_) (ha2 : at_ ≤ 9223372036854775807) (hy1 : 0 ≤ by_) (hy2 : by_ ≤ 255) :
    Calls Tryd.prog 10 #[.slice kp kn kc, .slice p n c, .int .i64 nn, .int .i64 i_, .slice po no co, .int .i64 at_, .int .u8 by_] w fun e w' => e = .returned (.bool true) ∧ Below w.heap.size w w' := by
  have HTb : Hid (Tabs KS HS w) := hT
  clear hT
  go_enter Tryd.func10, Tryd.ntmps10
  go_wp2_with fail
  refine (made_any w HTb.out kp kn kc key hk p n c es he).mono ?_
  rintro e w1 ⟨g, ev, rfl, hL, b1⟩
  have hEl := madeP_len es
  have HEnt : Hid (∀ i, i < (madeP es).length → (madeP es).getD i [] = entryP es i) := fun i h => entryP_made es i h
  obtain ⟨E, hE⟩ : ∃ E, madeP es = E := ⟨_, rfl⟩
  rw [hE] at hEl hL HEnt ⊢
  have HL1 : Hid (LogAt w1 w.heap.size g ev (key.take 100) E) := hL
  have hE1 : 1 ≤ E.length := by omega
  have hE2 : E.length ≤ 41 := by omega
  clear hE hEl hL hk
  generalize key.take 100 = K at *
  go_wp2_with fail
  refine (pick_any w1 nn (E.length : Int) hn1 hn2 (by omega) (by omega)).mono ?_
  rintro e w1 ⟨rfl, rfl⟩
  obtain ⟨N, hN, hNE, hN1, hN2⟩ : ∃ N : Nat, 1 + pickP nn (E.length : Int) = (N : Int) ∧ N ≤ E.length ∧ 1 ≤ N ∧ pickP nn (E.length : Int) = (N : Int) - 1 := by
    have h1 := pickP_lo nn (E.length : Int) (by omega)
    have h2 := pickP_hi nn (E.length : Int) (by omega)
    exact ⟨(1 + pickP nn (E.length : Int)).toNat, by omega, by omega, by omega, by omega⟩
  rw [hN2]
  have hNw : (1 : Int) + ((N : Int) - 1) = N := by omega
  clear hN hN2
  go_wp2_with fail
  refine (pick_any w1 i_ (N : Int) hi1 hi2 (by omega) (by omega)).mono ?_
  rintro e w1 ⟨rfl, rfl⟩
  obtain ⟨I, hI, hIN⟩ : ∃ I : Nat, pickP i_ (N : Int) = I ∧ I < N := by
    have h1 := pickP_lo i_ (N : Int) (by omega)
    have h2 := pickP_hi i_ (N : Int) (by omega)
    exact ⟨(pickP i_ (N : Int)).toNat, by omega, by omega⟩
  rw [hI]
  clear hI hi1 hi2 hn1 hn2 hNw
  go_wp2_with fail
  refine (entry_any w1 p n c es (he.below b1) I (by omega)).mono ?_
  rintro e w2 ⟨pe, ne, ce, rfl, hI2, hne, b2⟩
  rw [← HEnt.out I (by omega)] at hI2
  have HI2 : Hid (In8 w2 pe ne ce (E.getD I [])) := hI2
  have HL2 : Hid (LogAt w2 w.heap.size g ev K E) := HL1.out.below b2
  have B2 : Below w.heap.size w w2 := b1.trans (b2.mono b1.size)
  clear hI2 b1 b2 HL1 HEnt he
  go_wp2_with fail
  refine (logRoot_any w2 g K E N (HTb.out.below B2) HL2.out.read).mono ?_
  rw [rootOut_in N E (by omega)]
  rintro e w3 ⟨rfl, b3⟩
  obtain ⟨hPl, hPr, hPc⟩ := path_way E N I hIN hNE (by omega)
  have hRl := (rootP_ok (E.take N)).1
  have hRb := (rootP_ok (E.take N)).2
  obtain ⟨R, hR⟩ : ∃ R, rootP (E.take N) = R := ⟨_, rfl⟩
  rw [hR] at hPr hPc hRl hRb ⊢
  have HRr : Hid (R = hP (textAt (E.getD I []) (leftsP I N) (pathP I (E.take N)) (wayLen I N))) := hPr
  have HPc : Hid (climbOut (E.getD I []) I N (pathP I (E.take N)) = (R, 0)) := hPc
  have HPl : Hid ((pathP I (E.take N)).length = wayLen I N) := hPl
  have h63 : Hid (wayLen I N ≤ 63) := leftsP_len I N
  clear hR hPr hPc hPl
  have I3 : Hid (In8 w3 pe ne ce (E.getD I [])) := HI2.out.below b3
  have HL3 : Hid (LogAt w3 w.heap.size g ev K E) := HL2.out.below b3
  have B3 : Below w.heap.size w w3 := B2.trans (b3.mono B2.size)
  have n3 : Hid (Dg (w3.alloc (.cells Z8x32 25)) w3.heap.size Z32) := Dg.new w3 _ rfl
  clear HI2 HL2 b3 B2
  go_wp2_with (first
    | (with_reducible refine atStore 25 ?_
       refine store_D rfl _ _ rfl w3.heap.size R rfl rfl Z32 n3.out hRl ?_
       intro U hU
       refine hideGoal ?_))
  have bU : Below w3.heap.size w3 U := hU.below _ _ (Nat.le_refl _) ((Below.refl _ _).alloc (Nat.le_refl _) _)
  have R4 : Hid (Dg U w3.heap.size R) := hU.dg hRl
  have I4 : Hid (In8 U pe ne ce (E.getD I [])) := I3.out.below bU
  have HL4 : Hid (LogAt U w.heap.size g ev K E) := HL3.out.below bU
  have B4 : Below w.heap.size w U := B3.trans (bU.mono B3.size)
  have hg18 := B3.size
  clear hU n3 I3 HL3 B3 bU
  generalize w3.heap.size = g18 at *
  refine openGoal ?_
  go_wp2_with fail
  refine (logPath_any U g K E I N (HTb.out.below B4) HL4.out.read).mono ?_
  rw [pathOut_in I N E hIN hNE]
  rintro e V ⟨v, rfl, hOw, b5⟩
  have hOw : Own V U.heap.size v (pathP I (E.take N)) := hOw
  have hall : ∀ d ∈ pathP I (E.take N), d.length = 32 ∧ Bytes d := pathP_ok I (E.take N)
  obtain ⟨L, hL⟩ : ∃ L, pathP I (E.take N) = L := ⟨_, rfl⟩
  rw [hL] at HRr HPc HPl hOw hall
  clear hL
  obtain ⟨pl, cl, rfl, hD5⟩ := hOw.view hall
  have hL63 : L.length ≤ 63 := by rw [HPl.out]; exact h63.out
  have HO5 : Hid (Own V U.heap.size (.slice pl L.length cl) L) := hOw
  have R5 : Hid (Dg V g18 R) := R4.out.next b5
  have I5 : Hid (In8 V pe ne ce (E.getD I [])) := I4.out.below b5
  have B5 : Below w.heap.size w V := B4.trans (b5.mono B4.size)
  have hD5' : Hid (D32 V pl L.length cl L) := hD5
  have hfc := hD5.fits
  have hrc := hD5.room
  clear hOw hD5 R4 I4 B4 b5 HL4 h63
  generalize E.getD I [] = EN_ at *
  show _
  go_wp2_with fail
  refine (annalClimb_any EN_ pe ne ce (by omega) (I : Int) (N : Int) pl L.length cl L V (HTb.out.below B5) I5.out hD5'.out (by omega) (by omega)).mono ?_
  rw [HPc.out]
  rintro e w6 ⟨rfl, b6⟩
  have R6 : Hid (Dg w6 g18 R) := R5.out.next b6
  have I6 : Hid (In8 w6 pe ne ce EN_) := I5.out.below b6
  have B6 : Below w.heap.size w w6 := B5.trans (b6.mono B5.size)
  have D6 : Hid (D32 w6 pl L.length cl L) := hD5'.out.below b6
  have n6 : Hid (Dg (w6.alloc (.cells Z8x32 25)) w6.heap.size Z32) := Dg.new w6 _ rfl
  have l6 := R6.out.lt
  clear b6 R5 I5 B5 hD5' HO5 HPc
  go_wp2_with (first
    | (with_reducible refine atStore 25 ?_
       refine store_D rfl _ _ rfl w6.heap.size R rfl rfl Z32 n6.out hRl ?_
       intro X hX
       refine hideGoal ?_))
  have bX : Below w6.heap.size w6 X := hX.below _ _ (Nat.le_refl _) ((Below.refl _ _).alloc (Nat.le_refl _) _)
  have C8 : Hid (Dg X w6.heap.size R) := hX.dg hRl
  have R8 : Hid (Dg X g18 R) := R6.out.next bX
  have I8 : Hid (In8 X pe ne ce EN_) := I6.out.below bX
  have B8 : Below w.heap.size w X := B6.trans (bX.mono B6.size)
  have D8 : Hid (D32 X pl L.length cl L) := D6.out.below bX
  clear hX n6 R6 I6 D6 B6 bX
  generalize w6.heap.size = g22 at *
  have hRR : (!decide (R = R)) = false := by simp
  have HRR : Hid ((!decide (R = R)) = false) := hRR
  clear hRR
  refine openGoal ?_
  by_cases hL0 : L.length = 0
  · have HL0 : Hid (L.length = 0) := hL0
    have hLn : L = [] := List.length_eq_zero_iff.1 hL0
    subst hLn
    clear hL0
    have D80 : Hid (D32 X pl 0 cl []) := D8.out
    have DN : Hid (D32 X none 0 0 []) := ⟨rfl, fun d hd => (by cases hd), Nat.le_refl _, by omega, fun h => by omega⟩
    simp only [List.length_nil]
    clear D8
    go_wp2_with (first
      | (with_reducible refine atLoad 25 ?_
         first
           | refine load_D rfl (.tmp 22) rfl g22 rfl R C8.out ?_
           | refine load_D rfl (.tmp 18) rfl g18 rfl R R8.out ?_)
      | (with_reducible refine atBin .neq 25 25 ?_
         refine wpList_neq rfl (.tmp 78) (.tmp 79) rfl R R hRl hRb hRl hRb rfl rfl ?_
         rw [HRR.out])
      | (at_builtin
         refine wpList_app25_none rfl (.tmp 82) (.tmp 83) rfl pl cl rfl rfl ?_))
    refine (forged_any X (HTb.out.below B8) I N hIN (by omega) EN_ pe ne ce (by omega) pl 0 cl [] oth po no co hno pl 0 cl [] I8.out D80.out (hO.below B8) D80.out HPl.out R HRr.out).mono ?_
    rintro e w9 ⟨rfl, b9⟩
    have R9 : Hid (Dg w9 g18 R) := R8.out.next b9
    have I9 : Hid (In8 w9 pe ne ce EN_) := I8.out.below b9
    have B9 : Below w.heap.size w w9 := B8.trans (b9.mono B8.size)
    have D9 : Hid (D32 w9 pl 0 cl []) := D80.out.below b9
    have DN9 : Hid (D32 w9 none 0 0 []) := DN.out.below b9
    clear R8 I8 C8 D80 DN b9 B8
    go_wp2_with (first
      | (with_reducible refine atLoad 25 ?_
         refine load_D rfl (.tmp 18) rfl g18 rfl R R9.out ?_))
    refine (forged_any w9 (HTb.out.below B9) I N hIN (by omega) EN_ pe ne ce (by omega) pl 0 cl [] EN_ pe ne ce (by omega) none 0 0 [] I9.out D9.out I9.out DN9.out HPl.out R HRr.out).mono ?_
    rintro e w10 ⟨rfl, b10⟩
    have B10 : Below w.heap.size w w10 := B9.trans (b10.mono B9.size)
    clear R9 I9 D9 DN9 b10 B9
    go_wp2_with fail
    go_ret
    exact ⟨rfl, B10⟩
  · obtain ⟨ad, rfl, hadl, hadc⟩ := D8.out.lies (by omega)
    have h32 : ∀ d ∈ L, d.length = 32 := fun d hd => (hall d hd).1
    have hcs : Hid (∀ k, k < L.length → ∀ j, j < 32 → X.cell? (ad.add (k * 32 + j)) = some (.int .u8 ((L.getD k []).getD j 0))) := hadc
    clear hadc
    go_wp2_with (first
      | (with_reducible refine atLoad 25 ?_
         first
           | refine load_D rfl (.tmp 22) rfl g22 rfl R C8.out ?_
           | refine load_D rfl (.tmp 18) rfl g18 rfl R R8.out ?_)
      | (with_reducible refine atBin .neq 25 25 ?_
         refine wpList_neq rfl (.tmp 78) (.tmp 79) rfl R R hRl hRb hRl hRb rfl rfl ?_
         rw [HRR.out])
      | (at_builtin
         refine wpList_app25 rfl (.tmp 82) (.tmp 83) rfl X.heap.size (.slice none 0 0) [] 0 rfl ⟨rfl, .inl ⟨rfl, rfl⟩⟩ ad L.length cl L rfl rfl h32 hcs.out (by omega) (by omega) (Nat.le_refl _) ?_
         intro v9 w9 ho9 hs9 hb9
         refine hideGoal ?_))
    rw [Nat.zero_add, List.nil_append] at ho9
    obtain ⟨gt, capt, rfl, hgt, hgt9, hct, hmt, _, hct2⟩ := owns25 ho9.out h32 (by omega)
    have hct3 : capt ≤ 9223372036854775807 := by unfold maxLen at hmt; omega
    have b9 : Below X.heap.size X w9 := hb9 X (Below.refl _ _)
    have HXs : w.heap.size ≤ X.heap.size := B8.size
    have B9 : Below w.heap.size w w9 := B8.trans (b9.mono B8.size)
    clear hb9 hcs hadl C8
    refine openGoal ?_
    go_wp2_with fail
    refine (pick_any _ at_ (L.length : Int) ha1 ha2 (by omega) (by omega)).mono ?_
    rintro e W9 ⟨rfl, hW9⟩
    subst hW9
    obtain ⟨ii, hI, hi32⟩ : ∃ ii : Nat, pickP at_ 32 = ii ∧ ii < 32 := by
      have h1 := pickP_lo at_ 32 (by omega)
      have h2 := pickP_hi at_ 32 (by omega)
      exact ⟨(pickP at_ 32).toNat, by omega, by omega⟩
    obtain ⟨J, hJ, hJl⟩ : ∃ J : Nat, pickP at_ (L.length : Int) = J ∧ J < L.length := by
      have h1 := pickP_lo at_ (L.length : Int) (by omega)
      have h2 := pickP_hi at_ (L.length : Int) (by omega)
      exact ⟨(pickP at_ (L.length : Int)).toNat, by omega, by omega⟩
    rw [hJ]
    have hcJ : Hid (W9.cell? ⟨gt, J * 32 + ii, none⟩ = some (.int .u8 ((L.getD J []).getD ii 0))) := hct2 J hJl ii hi32
    have hfJ : W9.drew.frozen? ⟨gt, J * 32 + ii, none⟩ = false := by
      obtain ⟨_, ⟨h2, _⟩ | ⟨g', cap', cur, hv, _, hh, _⟩⟩ := ho9.out
      · cases h2
      · cases hv
        exact frozen_of_row W9 gt _ _ _ hh
    have hDJ := hall (L.getD J []) (by rw [List.getD_eq_getElem?_getD, List.getElem?_eq_getElem hJl]; exact List.getElem_mem hJl)
    obtain ⟨hdj0, hdj1⟩ := hDJ.2 ii
    have HA2 : Hid (∀ d ∈ L.set J ((L.getD J []).set ii (bits .xor .u8 ((L.getD J []).getD ii 0) by_)), d.length = 32 ∧ Bytes d) := fun d hd => by
      rcases List.mem_or_eq_of_mem_set hd with h1 | h1
      · exact hall d h1
      · subst h1
        refine ⟨by rw [List.length_set]; exact hDJ.1, fun j => ?_⟩
        by_cases hj : j = ii
        · subst hj
          rw [List.getD_eq_getElem?_getD, List.getElem?_set_self (by omega)]
          exact xor_byte _ by_ hdj0 hdj1 hy1 (by omega)
        · rw [List.getD_eq_getElem?_getD, List.getElem?_set_ne (Ne.symm hj), ← List.getD_eq_getElem?_getD]
          exact hDJ.2 j
    have HO10 : Hid ((W9.drew.setCell ⟨gt, J * 32 + ii, none⟩ (.int .u8 (bits .xor .u8 ((L.getD J []).getD ii 0) by_))).ownsRow X.heap.size 25 32 (.slice (some ⟨gt, 0, none⟩) L.length capt) L.length (F8 (L.set J ((L.getD J []).set ii (bits .xor .u8 ((L.getD J []).getD ii 0) by_))))) :=
      Own.set (w := W9.drew) ho9.out h32 rfl J ii hJl hi32 _
    have HLen2 : (L.set J ((L.getD J []).set ii (bits .xor .u8 ((L.getD J []).getD ii 0) by_))).length = L.length := List.length_set ..
    obtain ⟨L2, hL2⟩ : ∃ L2, L.set J ((L.getD J []).set ii (bits .xor .u8 ((L.getD J []).getD ii 0) by_)) = L2 := ⟨_, rfl⟩
    rw [hL2] at HA2 HO10 HLen2
    clear hL2 hDJ hct2 ho9
    generalize (L.getD J []).getD ii 0 = y0 at *
    have hiT : ∀ W : World, (Instr.indexAt 31 (.slice (some ⟨gt, 0, none⟩) L.length capt) (.int .i64 J)).run Tryd.prog W = .ok (.pointer (some ⟨gt, J * 32, none⟩)) W := fun W => by
      have := index_at ⟨gt, 0, none⟩ L.length capt J hJl W
      rw [addr_add, Nat.zero_add] at this
      exact this
    have hiI : ∀ W : World, (Instr.indexAt 25 (.pointer (some ⟨gt, J * 32, none⟩)) (.int .i64 ii)).run Tryd.prog W = .ok (.pointer (some ⟨gt, J * 32 + ii, none⟩)) W := fun W => by
      have h1 : (ii : Int) < 32 := by omega
      go_simp
    have hcD : W9.drew.cell? ⟨gt, J * 32 + ii, none⟩ = some (.int .u8 y0) := hcJ.out
    go_wp2_with fail
    refine wp_region_noPanic ?_
    refine wp_region_held (S := fun _ => True) follows ?_
    refine wpAnyH_take (i := 0) (v := .slice (some ⟨gt, 0, none⟩) L.length capt) rfl (by kernel_rfl) (by kernel_rfl) (by kernel_rfl) (fun _ _ _ h => h) (.inl ⟨rfl, fun W _ => by go_simp⟩) trivial ?_
    simp only [Act.put, List.getElem_toArray, List.getElem_cons_zero, List.getElem_cons_succ, List.setIfInBounds_toArray, List.set_cons_zero, List.set_cons_succ]
    refine wpAnyH_take (i := 1) (v := .int .i64 J) rfl (by kernel_rfl) (by kernel_rfl) (by kernel_rfl) (fun _ _ _ h => h) (.inl ⟨rfl, fun W _ => by go_simp⟩) trivial ?_
    simp only [Act.put, List.getElem_toArray, List.getElem_cons_zero, List.getElem_cons_succ, List.setIfInBounds_toArray, List.set_cons_zero, List.set_cons_succ]
    refine wpAnyH_take (i := 2) (v := .int .i64 at_) rfl (by kernel_rfl) (by kernel_rfl) (by kernel_rfl) (fun _ _ _ h => h) (.inl ⟨rfl, fun W _ => by go_simp⟩) trivial ?_
    simp only [Act.put, List.getElem_toArray, List.getElem_cons_zero, List.getElem_cons_succ, List.setIfInBounds_toArray, List.set_cons_zero, List.set_cons_succ]
    refine wpAnyH_take (i := 4) (v := .slice (some ⟨gt, 0, none⟩) L.length capt) rfl (by kernel_rfl) (by kernel_rfl) (by kernel_rfl) (fun _ _ _ h => h) (.inl ⟨rfl, fun W _ => by go_simp⟩) trivial ?_
    simp only [Act.put, List.getElem_toArray, List.getElem_cons_zero, List.getElem_cons_succ, List.setIfInBounds_toArray, List.set_cons_zero, List.set_cons_succ]
    refine wpAnyH_take (i := 5) (v := .int .i64 J) rfl (by kernel_rfl) (by kernel_rfl) (by kernel_rfl) (fun _ _ _ h => h) (.inl ⟨rfl, fun W _ => by go_simp⟩) trivial ?_
    simp only [Act.put, List.getElem_toArray, List.getElem_cons_zero, List.getElem_cons_succ, List.setIfInBounds_toArray, List.set_cons_zero, List.set_cons_succ]
    refine wpAnyH_take (i := 6) (v := .int .i64 at_) rfl (by kernel_rfl) (by kernel_rfl) (by kernel_rfl) (fun _ _ _ h => h) (.inl ⟨rfl, fun W _ => by go_simp⟩) trivial ?_
    simp only [Act.put, List.getElem_toArray, List.getElem_cons_zero, List.getElem_cons_succ, List.setIfInBounds_toArray, List.set_cons_zero, List.set_cons_succ]
    refine wpAnyH_take (i := 11) (v := .int .u8 by_) rfl (by kernel_rfl) (by kernel_rfl) (by kernel_rfl) (fun _ _ _ h => h) (.inl ⟨rfl, fun W _ => by go_simp⟩) trivial ?_
    simp only [Act.put, List.getElem_toArray, List.getElem_cons_zero, List.getElem_cons_succ, List.setIfInBounds_toArray, List.set_cons_zero, List.set_cons_succ]
    refine wpAnyH_take (i := 8) (v := .pointer (some ⟨gt, J * 32, none⟩)) rfl (by kernel_rfl) (by kernel_rfl) (by kernel_rfl) (fun _ _ _ h => h) (.inl ⟨rfl, fun W _ => by have e := hiT W; go_simp⟩) trivial ?_
    simp only [Act.put, List.getElem_toArray, List.getElem_cons_zero, List.getElem_cons_succ, List.setIfInBounds_toArray, List.set_cons_zero, List.set_cons_succ]
    refine wpAnyH_take (i := 13) (v := .pointer (some ⟨gt, J * 32, none⟩)) rfl (by kernel_rfl) (by kernel_rfl) (by kernel_rfl) (fun _ _ _ h => h) (.inl ⟨rfl, fun W _ => by have e := hiT W; go_simp⟩) trivial ?_
    simp only [Act.put, List.getElem_toArray, List.getElem_cons_zero, List.getElem_cons_succ, List.setIfInBounds_toArray, List.set_cons_zero, List.set_cons_succ]
    refine relist #[true, true, true, false, true, true, true, false, true, false, false, true, false, true, false, false] (by kernel_rfl) ?_
    refine any_one (i := 3) (by kernel_rfl) ?_
    refine wpOp_call (f := 44) (args := #[.int .i64 at_, .int .i64 32]) rfl rfl (by go_simp) ?_
    refine (pick_any _ at_ 32 ha1 ha2 (by omega) (by omega)).mono ?_
    rintro e W10 ⟨rfl, hW10⟩
    subst hW10
    rw [hI]
    refine ⟨_, rfl, trivial, ?_⟩
    simp only [Act.put, List.getElem_toArray, List.getElem_cons_zero, List.getElem_cons_succ, List.setIfInBounds_toArray, List.set_cons_zero, List.set_cons_succ]
    refine relist #[true, true, true, true, true, true, true, false, true, false, false, true, false, true, false, false] (by kernel_rfl) ?_
    refine any_one (i := 7) (by kernel_rfl) ?_
    refine wpOp_call (f := 44) (args := #[.int .i64 at_, .int .i64 32]) rfl rfl (by go_simp) ?_
    refine (pick_any _ at_ 32 ha1 ha2 (by omega) (by omega)).mono ?_
    rintro e W10 ⟨rfl, hW10⟩
    subst hW10
    rw [hI]
    refine ⟨_, rfl, trivial, ?_⟩
    simp only [Act.put, List.getElem_toArray, List.getElem_cons_zero, List.getElem_cons_succ, List.setIfInBounds_toArray, List.set_cons_zero, List.set_cons_succ]
    refine wpAnyH_take (i := 9) (v := .pointer (some ⟨gt, J * 32 + ii, none⟩)) rfl (by kernel_rfl) (by kernel_rfl) (by kernel_rfl) (fun _ _ _ h => h) (.inl ⟨rfl, fun W _ => by have e := hiI W; go_simp⟩) trivial ?_
    simp only [Act.put, List.getElem_toArray, List.getElem_cons_zero, List.getElem_cons_succ, List.setIfInBounds_toArray, List.set_cons_zero, List.set_cons_succ]
    refine relist #[true, true, true, true, true, true, true, true, true, true, false, true, false, true, false, false] (by kernel_rfl) ?_
    refine any_one (i := 10) (by kernel_rfl) ?_
    refine wpOp_val (v := .int .u8 y0) (w' := W9.drew) rfl rfl (by have e := hcD; go_simp) ?_
    refine ⟨trivial, ?_⟩
    simp only [Act.put, List.getElem_toArray, List.getElem_cons_zero, List.getElem_cons_succ, List.setIfInBounds_toArray, List.set_cons_zero, List.set_cons_succ]
    refine wpAnyH_take (i := 12) (v := .int .u8 (bits .xor .u8 y0 by_)) rfl (by kernel_rfl) (by kernel_rfl) (by kernel_rfl) (fun _ _ _ h => h) (.inl ⟨rfl, fun W _ => by go_simp⟩) trivial ?_
    simp only [Act.put, List.getElem_toArray, List.getElem_cons_zero, List.getElem_cons_succ, List.setIfInBounds_toArray, List.set_cons_zero, List.set_cons_succ]
    refine wpAnyH_take (i := 14) (v := .pointer (some ⟨gt, J * 32 + ii, none⟩)) rfl (by kernel_rfl) (by kernel_rfl) (by kernel_rfl) (fun _ _ _ h => h) (.inl ⟨rfl, fun W _ => by have e := hiI W; go_simp⟩) trivial ?_
    simp only [Act.put, List.getElem_toArray, List.getElem_cons_zero, List.getElem_cons_succ, List.setIfInBounds_toArray, List.set_cons_zero, List.set_cons_succ]
    refine relist #[true, true, true, true, true, true, true, true, true, true, true, true, true, true, true, false] (by kernel_rfl) ?_
    refine any_one (i := 15) (by kernel_rfl) ?_
    refine wpOp_skip (w' := W9.drew.setCell ⟨gt, J * 32 + ii, none⟩ (.int .u8 (bits .xor .u8 y0 by_))) rfl rfl (by have e := hcD; have f := hfJ; go_simp) ?_
    refine ⟨trivial, ?_⟩
    simp only [Act.put, List.getElem_toArray, List.getElem_cons_zero, List.getElem_cons_succ, List.setIfInBounds_toArray, List.set_cons_zero, List.set_cons_succ]
    refine wpAnyH_done (by kernel_rfl) ?_ _
    refine NoPanic.normal ?_
    have hs9d : W9.drew.heap.size = W9.heap.size := rfl
    have b10 : Below X.heap.size X (W9.drew.setCell ⟨gt, J * 32 + ii, none⟩ (.int .u8 (bits .xor .u8 y0 by_))) := (b9.drew).setCell (by show X.heap.size ≤ gt; omega) _
    have k10 : Kp (fun k => k = gt) W9 (W9.drew.setCell ⟨gt, J * 32 + ii, none⟩ (.int .u8 (bits .xor .u8 y0 by_))) := ⟨rfl, rfl, rfl, by simp [World.setCell], fun k _ hne => (Below.heap_setCell _ _ _ _ hne)⟩
    have hs8 := B9.size
    have B10 : Below w.heap.size w (W9.drew.setCell ⟨gt, J * 32 + ii, none⟩ (.int .u8 (bits .xor .u8 y0 by_))) := k10.below (fun k hk => by rw [hk]; omega) B9.size B9
    have HOT10 : Hid (Own (W9.drew.setCell ⟨gt, J * 32 + ii, none⟩ (.int .u8 (bits .xor .u8 y0 by_))) X.heap.size (.slice (some ⟨gt, 0, none⟩) L.length capt) L2) := by
      have h := HO10.out
      show Own _ _ _ _
      unfold Own
      rw [HLen2]; exact h
    clear k10 HO10 hcD hfJ hcJ hiT hiI b9 hs9d
    generalize W9.drew.setCell ⟨gt, J * 32 + ii, none⟩ (.int .u8 (bits .xor .u8 y0 by_)) = W10 at *
    obtain ⟨p2, c2, hv2, hD10⟩ := HOT10.out.view HA2.out
    rw [HLen2] at hv2 hD10
    cases hv2
    have R10 : Hid (Dg W10 g18 R) := R8.out.next b10
    have I10 : Hid (In8 W10 pe ne ce EN_) := I8.out.below b10
    have D10 : Hid (D32 W10 (some ad) L.length cl L) := D8.out.below b10
    have T10 : Hid (D32 W10 (some ⟨gt, 0, none⟩) L.length capt L2) := hD10
    clear R8 I8 D8 b10 hD10 HOT10
    go_wp2_with (first
      | (with_reducible refine atLoad 25 ?_
         refine load_D rfl (.tmp 18) rfl g18 rfl R R10.out ?_))
    refine (forged_any W10 (HTb.out.below B10) I N hIN (by omega) EN_ pe ne ce (by omega) _ L.length cl L oth po no co hno _ L.length cl L I10.out D10.out (hO.below B10) D10.out HPl.out R HRr.out).mono ?_
    rintro e w11 ⟨rfl, b11⟩
    have R11 : Hid (Dg w11 g18 R) := R10.out.next b11
    have I11 : Hid (In8 w11 pe ne ce EN_) := I10.out.below b11
    have D11 : Hid (D32 w11 (some ad) L.length cl L) := D10.out.below b11
    have T11 : Hid (D32 w11 (some ⟨gt, 0, none⟩) L.length capt L2) := T10.out.below b11
    have B11 : Below w.heap.size w w11 := B10.trans (b11.mono B10.size)
    clear R10 I10 D10 T10 b11 B10
    go_wp2_with (first
      | (with_reducible refine atLoad 25 ?_
         refine load_D rfl (.tmp 18) rfl g18 rfl R R11.out ?_))
    refine (forged_any w11 (HTb.out.below B11) I N hIN (by omega) EN_ pe ne ce (by omega) _ L.length cl L EN_ pe ne ce (by omega) _ L.length capt L2 I11.out D11.out I11.out T11.out HPl.out R HRr.out).mono ?_
    rintro e w12 ⟨rfl, b12⟩
    have B12 : Below w.heap.size w w12 := B11.trans (b12.mono B11.size)
    clear R11 I11 D11 T11 b12 B11
    go_wp2_with fail
    go_ret
    exact ⟨rfl, B12⟩
end Go.Proofs.YtcmjlhcpoajbkaaDoor
