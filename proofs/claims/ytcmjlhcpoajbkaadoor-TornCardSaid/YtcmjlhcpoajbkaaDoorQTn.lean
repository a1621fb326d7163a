import Derived.Test.YtcmjlhcpoajbkaaDoorQTm
namespace Go.Proofs.YtcmjlhcpoajbkaaDoor
set_option maxRecDepth 10000
set_option linter.unusedSimpArgs false
open Go.RowKit
set_option maxHeartbeats 20000000 in
theorem torn_any (w : World) (hT : Tabs KS HS w) (kp : Option Addr) (kn kc : Nat) (key : List Int) (hk : In8 w kp kn kc key) (p : Option Addr) (n c : Nat) (es : List (List Int)) (he : EN w p n c es)
    (i_ : Int) (hi1 : -9223372036854775808 ≤ i_) (hi2 : i_ ≤ 9223372036854775807) (b_ : Int) :
    Calls Tryd.prog 12 #[.slice kp kn kc, .slice p n c, .int .i64 i_, .int .u8 b_] w fun e w' => e = .returned (.bool true) ∧ Below w.heap.size w w' := by
  have HTb : Hid (Tabs KS HS w) := hT
  have HE : Hid (EN w p n c es) := he
  clear hT he
  go_enter Tryd.func12, Tryd.ntmps12
  go_wp2_with fail
  refine (short_any w kp kn kc 100 key hk (by omega)).mono ?_
  rintro e w' ⟨km, rfl, hkm, hk1, rfl⟩
  have hkt := take_short key 100
  obtain ⟨K, hK⟩ : ∃ K, key.take 100 = K := ⟨_, rfl⟩
  rw [hK] at hkt hk1
  have HK : Hid (In8 w' kp km kc K) := hk1
  have HKT : Hid (K.take 100 = K) := hkt
  clear hk hk1 hkt hK
  obtain ⟨w, hw⟩ : ∃ w, w' = w := ⟨_, rfl⟩
  rw [hw] at HTb HE HK ⊢
  have HWW : Hid (w' = w) := hw
  clear hw
  go_wp2_with fail
  refine (made_any w HTb.out kp km kc K HK.out p n c es HE.out).mono ?_
  rintro e w1 ⟨g, ev, rfl, hL, B1⟩
  rw [HKT.out] at hL
  have HL1 : Hid (LogAt w1 w.heap.size g ev K (madeP es)) := hL
  have HN : Hid (∀ k, k < (madeP es).length → (madeP es).take k ++ [entryP es k] = (madeP es).take (k + 1)) := take_next es
  have hEl := madeP_len es
  have HF : Hid (Fit (madeP es)) := hL.fit
  clear hL HKT
  obtain ⟨E, hE⟩ : ∃ E, madeP es = E := ⟨_, rfl⟩
  rw [hE] at HL1 hEl HF HN ⊢
  have hE1 : 1 ≤ E.length := by omega
  have hE2 : E.length ≤ 41 := by omega
  clear hEl hE
  go_wp2_with fail
  refine (save_any w1 (HTb.out.below B1) g K E HL1.out.read hE1).mono ?_
  rintro e w2 ⟨rfl, b2⟩
  have B2 : Below w.heap.size w w2 := B1.trans (b2.mono B1.size)
  have HL2 : Hid (LogAt w2 w.heap.size g ev K E) := HL1.out.below b2
  have hSl : (toU (saveP K E)).length ≤ 13776 := by
    rw [toU_len]
    have h := saveU_len K E (fun k => (HF.out.2 k).1) E.length
    have : E.length * 336 ≤ 41 * 336 := Nat.mul_le_mul_right _ hE2
    show (saveU K E E.length).length ≤ _
    omega
  have hS0 : 0 < (toU (saveP K E)).length := by
    rw [toU_len]
    have h := save_long K E E.length
    show 0 < (saveU K E E.length).length
    omega
  have HW : Hid (loadP K (toU (saveP K E)) = (E, 0, (toU (saveP K E)).length)) := by show _ = _; rw [toU_len]; exact load_whole K E HF.out
  have HC : Hid (∀ k, k < (toU (saveP K E)).length → ∃ j pl m, CutAt K E (toU (saveP K E)) k j pl m) := cut_at K E HF.out
  have HR : Hid (loadP K (toU (saveP K E) ++ toU [0, b_]) = (E, 3, (toU (saveP K E)).length)) := by show _ = _; rw [toU_len]; exact load_more K E HF.out (toU [0, b_]) (by simp [toU]) (by simp [toU])
  have HSV : Hid (saveP K E = saveP K E ∧ ∀ E', toU (saveP K E') = toU (saveP K E')) := ⟨rfl, fun _ => rfl⟩
  obtain ⟨SS, hSS⟩ : ∃ SS, toU (saveP K E) = SS := ⟨_, rfl⟩
  have HSS : Hid (toU (saveP K E) = SS) := hSS
  rw [hSS] at hSl hS0 HW HC HR ⊢
  have hsz : (ByteArray.mk SS.toArray).size = SS.length := by show SS.toArray.size = _; simp
  clear HL1 b2 B1 HF HSV hSS
  go_wp2_with fail
  refine (load_b w2 (HTb.out.below B2) kp km kc K (HK.out.below B2) hkm _ SS rfl (by omega) _ HW.out).mono ?_
  intro e w3 hO
  obtain ⟨gx, ex, rfl, b3, hX⟩ := loadOut_some hO (.inl rfl)
  have B3 : Below w.heap.size w w3 := B2.trans (b3.mono B2.size)
  have HL3 : Hid (LogAt w3 w.heap.size g ev K E) := HL2.out.below b3
  have HX3 : Hid (LogAt w3 w2.heap.size gx ex K E) := hX
  clear hO hX b3 HL2 HW B2
  have hss : (SS == SS) = true := by simp
  go_wp2_with fail
  refine (logHead_any w3 gx K E (HTb.out.below B3) HX3.out.read).mono ?_
  rintro e w4 ⟨rfl, b4⟩
  have B4 : Below w.heap.size w w4 := B3.trans (b4.mono B3.size)
  have HL4 : Hid (LogAt w4 w.heap.size g ev K E) := HL3.out.below b4
  have HX4 : Hid (LogAt w4 w2.heap.size gx ex K E) := HX3.out.below b4
  clear HL3 HX3 b4 B3
  go_wp2_with fail
  refine (logHead_any w4 g K E (HTb.out.below B4) HL4.out.read).mono ?_
  rintro e w5 ⟨rfl, b5⟩
  have B5 : Below w.heap.size w w5 := B4.trans (b5.mono B4.size)
  have HL5 : Hid (LogAt w5 w.heap.size g ev K E) := HL4.out.below b5
  have HX5 : Hid (LogAt w5 w2.heap.size gx ex K E) := HX4.out.below b5
  have hq0 : ∀ W : World, (Op.equalIn 10000 42 (.agg (headP K E)) (.agg (headP K E))).run Tryd.prog W = .ok true W := fun W => by rw [eq_heads K E E rfl W, decide_eq_true rfl]
  clear HL4 HX4 b5 B4
  go_wp2_with (first
    | (with_reducible refine atBin .neq 42 42 ?_
       refine wpList_neqH rfl (.tmp 61) (.tmp 63) rfl (headP K E) (headP K E) true hq0 rfl rfl ?_))
  refine (save_any w5 (HTb.out.below B5) gx K E HX5.out.read hE1).mono ?_
  rintro e w6 ⟨rfl, b6⟩
  rw [HSS.out]
  have B6 : Below w.heap.size w w6 := B5.trans (b6.mono B5.size)
  have HL6 : Hid (LogAt w6 w.heap.size g ev K E) := HL5.out.below b6
  clear HL5 HX5 b6 B5
  go_wp2_with fail
  refine (pick_any w6 i_ (SS.length : Int) hi1 hi2 (by omega) (by omega)).mono ?_
  rintro e w6' ⟨rfl, rfl⟩
  obtain ⟨k, hk, hkS⟩ : ∃ I : Nat, pickP i_ (SS.length : Int) = I ∧ I < SS.length := by
    have h1 := pickP_lo i_ (SS.length : Int) (by omega)
    have h2 := pickP_hi i_ (SS.length : Int) (by omega)
    exact ⟨(pickP i_ (SS.length : Int)).toNat, by omega, by omega⟩
  rw [hk]
  clear hk hi1 hi2
  have hfr : ∀ W : World, (Instr.sliceAt 9 (.string ⟨SS.toArray⟩) none (some (.int .i64 (k : Int))) none).run Tryd.prog W = .ok (.string ⟨(SS.take k).toArray⟩) W := str_front SS k (by omega)
  obtain ⟨j, pl, m, hCut⟩ := HC.out k hkS
  obtain ⟨hjE, hld, hpl, hhow, hsv⟩ := hCut
  have HSP : Hid (toU (saveP K (E.take j)) = SS.take pl) := hsv
  have HLD : Hid (loadP K (SS.take k) = (E.take j, m, pl)) := hld
  have HHow : Hid (m = 0 ∧ pl = k ∨ m = 3 ∧ pl < k) := hhow
  clear hsv hld hhow HC
  obtain ⟨wk, hwk⟩ : ∃ wk, w6' = wk := ⟨_, rfl⟩
  rw [hwk] at B6 HL6 ⊢
  clear hwk
  go_wp2_with fail
  refine (load_b wk (HTb.out.below B6) kp km kc K (HK.out.below B6) hkm _ (SS.take k) rfl (by rw [List.length_take]; omega) _ HLD.out).mono ?_
  intro e w7 hO
  obtain ⟨gy, ey, rfl, b7, hY⟩ := loadOut_some hO (by rcases HHow.out with h | h; exact .inl h.1; exact .inr h.1)
  have HY7 : Hid (LogAt w7 wk.heap.size gy ey K (E.take j)) := hY
  have B7 : Below w.heap.size w w7 := B6.trans (b7.mono B6.size)
  have HBK : Hid (Below wk.heap.size wk w7) := b7
  clear hO hY b7 HLD hfr
  go_upto_region 11 with fail
  have hpi : ¬ (k : Int) < pl := by omega
  go_cut [107] (fun s107 wc => s107 = .bool false ∧ wc = w7)
  case first =>
    rcases HHow.out with ⟨rfl, hp⟩ | ⟨rfl, hp⟩
    · have hp' : ((pl : Int) == k) = true := by simp; omega
      clear hp HHow
      go_wp2_with fail
      go_meet
      case rel => exact ⟨rfl, rfl⟩
    · have hp' : ((pl : Int) == k) = false := by simp; omega
      clear hp HHow
      go_wp2_with fail
      go_meet
      case rel => exact ⟨rfl, rfl⟩
  case rest =>
    obtain ⟨rfl, hwc⟩ := hcut
    subst hwc
    clear HHow hpi
    have hjl : (E.take j).length = j := by rw [List.length_take]; omega
    obtain ⟨EJ, hEJ⟩ : ∃ EJ, E.take j = EJ := ⟨_, rfl⟩
    have HEJ : Hid (E.take j = EJ) := hEJ
    rw [hEJ] at hjl HY7 HSP
    clear hEJ
    go_wp2_with fail
    refine (logHead_any wc gy K EJ (HTb.out.below B7) HY7.out.read).mono ?_
    rintro e w8 ⟨rfl, b8⟩
    have HB8 : Hid (Below wk.heap.size wk w8) := HBK.out.trans (b8.mono HBK.out.size)
    have HY8 : Hid (LogAt w8 wk.heap.size gy ey K EJ) := HY7.out.below b8
    have hs8 : wk.heap.size ≤ w8.heap.size := HB8.out.size
    clear HBK HY7 b8 B7
    obtain ⟨hRl, hRb⟩ := rootP_ok EJ
    have hTl := signP_len K EJ.length (rootP EJ)
    have HH : Hid (headP K EJ = headCells j (rootP EJ) (signP K EJ.length (rootP EJ))) := by show headCells (EJ.length : Nat) _ _ = _; rw [hjl]
    have HRO : Hid (rootOut (j : Int) E = (rootP EJ, 0)) := by show _ = _; rw [rootOut_take E j (by omega), HEJ.out]
    rw [HH.out]
    clear HH
    generalize signP K (EJ.length : Int) (rootP EJ) = T at *
    generalize rootP EJ = R at *
    have hC := headCells_size (j : Int) R T hRl hTl
    have h1 := head_one (j : Int) R T
    have h5 := heapN w8 (.cells (headCells 0 Z32 Z32) 42) _ rfl
    go_wp2_with (first
      | (with_reducible refine atStore 42 ?_
         refine store_H rfl _ _ rfl w8.heap.size (headCells (j : Int) R T) (headCells 0 Z32 Z32) rfl rfl h5 hC zeroHead h1 ?_
         intro U hU
         refine hideGoal ?_))
    have bU : Below w8.heap.size w8 U := hU.below _ _ (Nat.le_refl _) ((Below.refl _ _).alloc (Nat.le_refl _) _)
    have HBU : Hid (Below wk.heap.size wk U) := HB8.out.trans (bU.mono HB8.out.size)
    have HYU : Hid (LogAt U wk.heap.size gy ey K EJ) := HY8.out.below bU
    have HdU : Hid (Hd U w8.heap.size (j : Int) R T) := hd_of hRl hTl hU.here
    have hc0 := HdU.out.size
    clear hU h5 bU HB8 HY8 h1 hC
    generalize w8.heap.size = gh at *
    have HLU : Hid (LogAt U w.heap.size g ev K E) := HL6.out.below HBU.out
    have BUw : Below w.heap.size w U := B6.trans (HBU.out.mono B6.size)
    refine openGoal ?_
    go_wp2_with fail
    refine (logRoot_any U g K E (j : Int) (HTb.out.below BUw) HLU.out.read).mono ?_
    rintro e w9 ⟨rfl, b9⟩
    rw [HRO.out]
    have HB9 : Hid (Below wk.heap.size wk w9) := HBU.out.trans (b9.mono HBU.out.size)
    have HY9 : Hid (LogAt w9 wk.heap.size gy ey K EJ) := HYU.out.below b9
    have Hd9 : Hid (Hd w9 gh (j : Int) R T) := HdU.out.below b9
    have n9 : Hid (Dg (w9.alloc (.cells Z8x32 25)) w9.heap.size Z32) := Dg.new w9 _ rfl
    clear HBU HYU HdU hc0 HLU BUw b9 HRO
    go_wp2_with (first
      | (with_reducible refine atStore 25 ?_
         refine store_D rfl _ _ rfl w9.heap.size R rfl rfl Z32 n9.out hRl ?_
         intro X hX
         refine hideGoal ?_))
    have bX : Below w9.heap.size w9 X := hX.below _ _ (Nat.le_refl _) ((Below.refl _ _).alloc (Nat.le_refl _) _)
    have HBX : Hid (Below wk.heap.size wk X) := HB9.out.trans (bX.mono HB9.out.size)
    have HYX : Hid (LogAt X wk.heap.size gy ey K EJ) := HY9.out.below bX
    have HdX : Hid (Hd X gh (j : Int) R T) := Hd9.out.below bX
    have DX : Hid (Dg X w9.heap.size R) := hX.dg hRl
    clear hX n9 bX HB9 HY9 Hd9
    generalize w9.heap.size = gr at *
    refine openGoal ?_
    have hfp : ∀ W : World, (Instr.sliceAt 9 (.string ⟨SS.toArray⟩) none (some (.int .i64 (pl : Int))) none).run Tryd.prog W = .ok (.string ⟨(SS.take pl).toArray⟩) W := str_front SS pl (by omega)
    have hge : ¬ (E.length : Int) ≤ j := by omega
    have hsp : (SS.take pl == SS.take pl) = true := by simp
    go_upto_region 15 with fail
    have HdD : Hd X.drew gh (j : Int) R T := ⟨HdX.out.size, HdX.out.root, HdX.out.tag⟩
    have S0 : X.drew.cell? ⟨gh, 0, none⟩ = some (.int .i64 (j : Int)) ∧ At8 X.drew ⟨gh, 1, none⟩ R ∧ Dg X.drew gr R := ⟨HdD.size, HdD.root, ⟨DX.out.len, DX.out.here⟩⟩
    have hsD : (Below X.heap.size X X.drew) := (Below.refl _ _).drew
    have BXd : Below wk.heap.size wk X.drew := HBX.out.drew
    have BWd : Below w.heap.size w X.drew := B6.trans (BXd.mono B6.size)
    have HYd : LogAt X.drew wk.heap.size gy ey K EJ := HYX.out.below hsD
    refine wp_region_noPanic ?_
    refine wp_region_held (S := fun W => W.cell? ⟨gh, 0, none⟩ = some (.int .i64 (j : Int)) ∧ At8 W ⟨gh, 1, none⟩ R ∧ Dg W gr R) follows ?_
    refine wpAnyH_take (i := 0) (v := .int .i64 0) rfl (by kernel_rfl) (by kernel_rfl) (by kernel_rfl) (fun _ _ _ h => h) (.inl ⟨rfl, fun W _ => by go_simp⟩) S0 ?_
    simp only [Act.put, List.getElem_toArray, List.getElem_cons_zero, List.getElem_cons_succ, List.setIfInBounds_toArray, List.set_cons_zero, List.set_cons_succ]
    refine wpAnyH_take (i := 1) (v := .bool false) rfl (by kernel_rfl) (by kernel_rfl) (by kernel_rfl) (fun _ _ _ h => h) (.inl ⟨rfl, fun W _ => by go_simp⟩) S0 ?_
    simp only [Act.put, List.getElem_toArray, List.getElem_cons_zero, List.getElem_cons_succ, List.setIfInBounds_toArray, List.set_cons_zero, List.set_cons_succ]
    refine wpAnyH_take (i := 2) (v := .bool false) rfl (by kernel_rfl) (by kernel_rfl) (by kernel_rfl) (fun _ _ _ h => h) (.inl ⟨rfl, fun W _ => by go_simp⟩) S0 ?_
    simp only [Act.put, List.getElem_toArray, List.getElem_cons_zero, List.getElem_cons_succ, List.setIfInBounds_toArray, List.set_cons_zero, List.set_cons_succ]
    refine wpAnyH_take (i := 3) (v := .pointer (some ⟨gh, 0, none⟩)) rfl (by kernel_rfl) (by kernel_rfl) (by kernel_rfl) (fun _ _ _ h => h) (.inl ⟨rfl, fun W _ => by go_simp⟩) S0 ?_
    simp only [Act.put, List.getElem_toArray, List.getElem_cons_zero, List.getElem_cons_succ, List.setIfInBounds_toArray, List.set_cons_zero, List.set_cons_succ]
    refine wpAnyH_take (i := 4) (v := .int .i64 (j : Int)) rfl (by kernel_rfl) (by kernel_rfl) (by kernel_rfl) (fun _ _ _ h => h) (.inl ⟨rfl, fun W hW => by have e := hW.1; go_simp⟩) S0 ?_
    simp only [Act.put, List.getElem_toArray, List.getElem_cons_zero, List.getElem_cons_succ, List.setIfInBounds_toArray, List.set_cons_zero, List.set_cons_succ]
    refine wpAnyH_take (i := 5) (v := .int .i64 (E.length : Int)) rfl (by kernel_rfl) (by kernel_rfl) (by kernel_rfl) (fun _ _ _ h => h) (.inl ⟨rfl, fun W _ => by go_simp⟩) S0 ?_
    simp only [Act.put, List.getElem_toArray, List.getElem_cons_zero, List.getElem_cons_succ, List.setIfInBounds_toArray, List.set_cons_zero, List.set_cons_succ]
    refine wpAnyH_take (i := 6) (v := .bool false) rfl (by kernel_rfl) (by kernel_rfl) (by kernel_rfl) (fun _ _ _ h => h) (.inl ⟨rfl, fun W _ => by go_simp⟩) S0 ?_
    simp only [Act.put, List.getElem_toArray, List.getElem_cons_zero, List.getElem_cons_succ, List.setIfInBounds_toArray, List.set_cons_zero, List.set_cons_succ]
    refine wpAnyH_take (i := 7) (v := .bool false) rfl (by kernel_rfl) (by kernel_rfl) (by kernel_rfl) (fun _ _ _ h => h) (.inl ⟨rfl, fun W _ => by go_simp⟩) S0 ?_
    simp only [Act.put, List.getElem_toArray, List.getElem_cons_zero, List.getElem_cons_succ, List.setIfInBounds_toArray, List.set_cons_zero, List.set_cons_succ]
    refine wpAnyH_take (i := 8) (v := .bool false) rfl (by kernel_rfl) (by kernel_rfl) (by kernel_rfl) (fun _ _ _ h => h) (.inl ⟨rfl, fun W _ => by go_simp⟩) S0 ?_
    simp only [Act.put, List.getElem_toArray, List.getElem_cons_zero, List.getElem_cons_succ, List.setIfInBounds_toArray, List.set_cons_zero, List.set_cons_succ]
    refine wpAnyH_take (i := 9) (v := .pointer (some ⟨gh, 1, none⟩)) rfl (by kernel_rfl) (by kernel_rfl) (by kernel_rfl) (fun _ _ _ h => h) (.inl ⟨rfl, fun W _ => by go_simp⟩) S0 ?_
    simp only [Act.put, List.getElem_toArray, List.getElem_cons_zero, List.getElem_cons_succ, List.setIfInBounds_toArray, List.set_cons_zero, List.set_cons_succ]
    refine wpAnyH_take (i := 10) (v := .agg (A8 R)) rfl (by kernel_rfl) (by kernel_rfl) (by kernel_rfl) (fun _ _ _ h => h) (yields_at rfl (.tmp 126) rfl ⟨gh, 1, none⟩ rfl R hRl (fun W hW => hW.2.1)) S0 ?_
    simp only [Act.put, List.getElem_toArray, List.getElem_cons_zero, List.getElem_cons_succ, List.setIfInBounds_toArray, List.set_cons_zero, List.set_cons_succ]
    refine wpAnyH_take (i := 11) (v := .agg (A8 R)) rfl (by kernel_rfl) (by kernel_rfl) (by kernel_rfl) (fun _ _ _ h => h) (yields_D rfl (.tmp 20) rfl gr rfl R hRl (fun W hW => hW.2.2)) S0 ?_
    simp only [Act.put, List.getElem_toArray, List.getElem_cons_zero, List.getElem_cons_succ, List.setIfInBounds_toArray, List.set_cons_zero, List.set_cons_succ]
    refine wpAnyH_take (i := 12) (v := .bool (!decide (R = R))) rfl (by kernel_rfl) (by kernel_rfl) (by kernel_rfl) (fun _ _ _ h => h) (yields_neq rfl (.tmp 127) (.tmp 128) rfl R R hRl hRb hRl hRb rfl rfl) S0 ?_
    simp only [Act.put, List.getElem_toArray, List.getElem_cons_zero, List.getElem_cons_succ, List.setIfInBounds_toArray, List.set_cons_zero, List.set_cons_succ]
    refine wpAnyH_take (i := 13) (v := .bool false) rfl (by kernel_rfl) (by kernel_rfl) (by kernel_rfl) (fun _ _ _ h => h) (.inl ⟨rfl, fun W _ => by go_simp⟩) S0 ?_
    simp only [Act.put, List.getElem_toArray, List.getElem_cons_zero, List.getElem_cons_succ, List.setIfInBounds_toArray, List.set_cons_zero, List.set_cons_succ]
    refine wpAnyH_take (i := 14) (v := .bool false) rfl (by kernel_rfl) (by kernel_rfl) (by kernel_rfl) (fun _ _ _ h => h) (.inl ⟨rfl, fun W _ => by go_simp⟩) S0 ?_
    simp only [Act.put, List.getElem_toArray, List.getElem_cons_zero, List.getElem_cons_succ, List.setIfInBounds_toArray, List.set_cons_zero, List.set_cons_succ]
    refine wpAnyH_take (i := 15) (v := .pointer (some ⟨gy, 0, none⟩)) rfl (by kernel_rfl) (by kernel_rfl) (by kernel_rfl) (fun _ _ _ h => h) (.inl ⟨rfl, fun W _ => by go_simp⟩) S0 ?_
    simp only [Act.put, List.getElem_toArray, List.getElem_cons_zero, List.getElem_cons_succ, List.setIfInBounds_toArray, List.set_cons_zero, List.set_cons_succ]
    refine wpAnyH_take (i := 17) (v := .string ⟨SS.toArray⟩) rfl (by kernel_rfl) (by kernel_rfl) (by kernel_rfl) (fun _ _ _ h => h) (.inl ⟨rfl, fun W _ => by go_simp⟩) S0 ?_
    simp only [Act.put, List.getElem_toArray, List.getElem_cons_zero, List.getElem_cons_succ, List.setIfInBounds_toArray, List.set_cons_zero, List.set_cons_succ]
    refine wpAnyH_take (i := 18) (v := .int .i64 (pl : Int)) rfl (by kernel_rfl) (by kernel_rfl) (by kernel_rfl) (fun _ _ _ h => h) (.inl ⟨rfl, fun W _ => by go_simp⟩) S0 ?_
    simp only [Act.put, List.getElem_toArray, List.getElem_cons_zero, List.getElem_cons_succ, List.setIfInBounds_toArray, List.set_cons_zero, List.set_cons_succ]
    refine wpAnyH_take (i := 19) (v := .string ⟨(SS.take pl).toArray⟩) rfl (by kernel_rfl) (by kernel_rfl) (by kernel_rfl) (fun _ _ _ h => h) (.inl ⟨rfl, fun W _ => by have e := hfp W; go_simp⟩) S0 ?_
    simp only [Act.put, List.getElem_toArray, List.getElem_cons_zero, List.getElem_cons_succ, List.setIfInBounds_toArray, List.set_cons_zero, List.set_cons_succ]
    refine relist #[true, true, true, true, true, true, true, true, true, true, true, true, true, true, true, true, false, true, true, true, false, false] (by kernel_rfl) ?_
    refine any_one (i := 16) (by kernel_rfl) ?_
    refine wpOp_callG (f := 39) (args := #[.pointer (some ⟨gy, 0, none⟩)]) rfl rfl (by go_simp) ?_
    refine (save_all X.drew (HTb.out.below BWd) gy K EJ HYd.read).mono ?_
    rintro e y1 ⟨rfl, c1⟩
    rw [HSP.out]
    have S1 : y1.cell? ⟨gh, 0, none⟩ = some (.int .i64 (j : Int)) ∧ At8 y1 ⟨gh, 1, none⟩ R ∧ Dg y1 gr R := ⟨(HdD.below c1).size, (HdD.below c1).root, Dg.next (w := X.drew) S0.2.2 c1⟩
    have HBy : Hid (Below wk.heap.size wk y1) := BXd.trans (c1.mono BXd.size)
    have HYy : Hid (LogAt y1 wk.heap.size gy ey K EJ) := HYd.below c1
    refine ⟨_, rfl, S1, ?_⟩
    simp only [Act.put, List.getElem_toArray, List.getElem_cons_zero, List.getElem_cons_succ, List.setIfInBounds_toArray, List.set_cons_zero, List.set_cons_succ]
    refine wpAnyH_take (i := 20) (v := .bool false) rfl (by kernel_rfl) (by kernel_rfl) (by kernel_rfl) (fun _ _ _ h => h) (.inl ⟨rfl, fun W _ => by go_simp⟩) S1 ?_
    simp only [Act.put, List.getElem_toArray, List.getElem_cons_zero, List.getElem_cons_succ, List.setIfInBounds_toArray, List.set_cons_zero, List.set_cons_succ]
    refine wpAnyH_take (i := 21) (v := .bool false) rfl (by kernel_rfl) (by kernel_rfl) (by kernel_rfl) (fun _ _ _ h => h) (.inl ⟨rfl, fun W _ => by go_simp⟩) S1 ?_
    simp only [Act.put, List.getElem_toArray, List.getElem_cons_zero, List.getElem_cons_succ, List.setIfInBounds_toArray, List.set_cons_zero, List.set_cons_succ]
    refine wpAnyH_done (by kernel_rfl) ?_ _
    refine NoPanic.normal ?_
    have hcj := S1.1
    clear S0 S1 HdD hsD BXd BWd HYd c1 HBX HYX HdX DX hfp
    go_wp2_with fail
    go_loopw [22] (fun i wr => ∃ (q : Nat) (e' : Value), j ≤ q ∧ q ≤ E.length ∧ i = .int .i64 q ∧ LogAt wr wk.heap.size gy e' K (E.take q) ∧ Below wk.heap.size wk wr) (fun i _ => E.length - (intOf i).toNat)
    case atStart => exact ⟨j, ey, by omega, by omega, rfl, by rw [HEJ.out]; exact HYy.out, HBy.out⟩
    case round =>
      obtain ⟨q, e', hjq, hqE, rfl, hY, hB⟩ := hrel
      have HY : Hid (LogAt wr wk.heap.size gy e' K (E.take q)) := hY
      have HB : Hid (Below wk.heap.size wk wr) := hB
      clear hY hB HYy HBy hcj
      have hql : (E.take q).length = q := by rw [List.length_take]; omega
      have BW : Below w.heap.size w wr := B6.trans (HB.out.mono B6.size)
      by_cases hlt : q < E.length
      · have hlt' : (q : Int) < E.length := by omega
        have HNq : Hid (E.take q ++ [entryP es q] = E.take (q + 1)) := HN.out q hlt
        go_wp2_with fail
        refine (entry_any wr p n c es (HE.out.below BW) q (by omega)).mono ?_
        rintro e w8 ⟨qp, qm, qc, rfl, hI, hqm, b8⟩
        have HI : Hid (In8 w8 qp qm qc (entryP es q)) := hI
        have HY8 : Hid (LogAt w8 wk.heap.size gy e' K (E.take q)) := HY.out.below b8
        have HB8 : Hid (Below wk.heap.size wk w8) := HB.out.trans (b8.mono HB.out.size)
        clear hI b8 HY HB BW
        go_wp2_with fail
        refine (append_any w8 wk.heap.size gy e' K (E.take q) qp qm qc (entryP es q) HY8.out HI.out (by omega) (by rw [hql]; omega)).mono ?_
        rintro e w9 ⟨e2, rfl, hY9, k9⟩
        rw [HNq.out] at hY9
        rw [hql]
        have HY9 : Hid (LogAt w9 wk.heap.size gy e2 K (E.take (q + 1))) := hY9
        have HB9 : Hid (Below wk.heap.size wk w9) := k9.below (fun z hz => by
          rcases hz with hz | hz
          · rw [hz]; exact HY8.out.base
          · exact (HY8.out.rowlt z hz).1) HB8.out.size HB8.out
        clear hY9 k9 HY8 HB8 HI
        go_wp2_with fail
        go_roundw
        case rel => exact ⟨q + 1, e2, by omega, by omega, by go_num, HY9.out, HB9.out⟩
        case measure => simp [intOf]; omega
      · have hlt' : ¬ (q : Int) < E.length := by omega
        have eq0 : q = E.length := by omega
        have HYE : Hid (LogAt wr wk.heap.size gy e' K E) := by
          have h := HY.out
          rw [eq0, List.take_length] at h
          exact h
        have HLr : Hid (LogAt wr w.heap.size g ev K E) := HL6.out.below HB.out
        have hcv := conv_two b_ wr
        have hsb : (ByteArray.mk (toU [0, b_]).toArray).size = 2 := by show (toU [0, b_]).toArray.size = _; simp [toU]
        have hap : (ByteArray.mk SS.toArray) ++ (ByteArray.mk (toU [0, b_]).toArray) = ByteArray.mk (SS ++ toU [0, b_]).toArray := ByteArray.mk_append_mk SS (toU [0, b_])
        have bA : Below wr.heap.size wr (wr.alloc (.cells #[.int .u8 0, .int .u8 b_] 5)) := (Below.refl _ _).alloc (Nat.le_refl _) _
        have HLA : Hid (LogAt (wr.alloc (.cells #[.int .u8 0, .int .u8 b_] 5)) w.heap.size g ev K E) := HLr.out.below bA
        have HYA : Hid (LogAt (wr.alloc (.cells #[.int .u8 0, .int .u8 b_] 5)) wk.heap.size gy e' K E) := HYE.out.below bA
        have BA : Below w.heap.size w (wr.alloc (.cells #[.int .u8 0, .int .u8 b_] 5)) := BW.trans (bA.mono BW.size)
        have hRl2 : (SS ++ toU [0, b_]).length ≤ 140737488355328 := by rw [List.length_append, toU_len]; simp; omega
        clear HLr HYE bA BW HB HY
        generalize toU [0, b_] = BB at *
        go_wp2_with fail
        refine (load_b _ (HTb.out.below BA) kp km kc K (HK.out.below BA) hkm _ (SS ++ BB) rfl hRl2 _ HR.out).mono ?_
        intro e w8 hO
        obtain ⟨gz, ez, rfl, b8, _⟩ := loadOut_some hO (.inr rfl)
        have B8 : Below w.heap.size w w8 := BA.trans (b8.mono BA.size)
        have HL8 : Hid (LogAt w8 w.heap.size g ev K E) := HLA.out.below b8
        have HY8 : Hid (LogAt w8 wk.heap.size gy e' K E) := HYA.out.below b8
        clear hO b8 HLA HYA BA HR hcv hap hsb hRl2
        go_wp2_with fail
        refine (logHead_any w8 gy K E (HTb.out.below B8) HY8.out.read).mono ?_
        rintro e w9 ⟨rfl, b9⟩
        have B9 : Below w.heap.size w w9 := B8.trans (b9.mono B8.size)
        have HL9 : Hid (LogAt w9 w.heap.size g ev K E) := HL8.out.below b9
        clear b9 HL8 HY8 B8
        go_wp2_with fail
        refine (logHead_any w9 g K E (HTb.out.below B9) HL9.out.read).mono ?_
        rintro e w10 ⟨rfl, b10⟩
        have B10 : Below w.heap.size w w10 := B9.trans (b10.mono B9.size)
        clear b10 HL9 B9
        go_wp2_with (first
          | (with_reducible refine atBin .eql 42 42 ?_
             refine wpList_eqlH rfl (.tmp 173) (.tmp 175) rfl (headP K E) (headP K E) true hq0 rfl rfl ?_))
        go_ret
        exact ⟨rfl, by rw [HWW.out]; exact B10⟩
end Go.Proofs.YtcmjlhcpoajbkaaDoor
