import Derived.Test.YtcmjlhcpoajbkaaDoorQKx
namespace Go.Proofs.YtcmjlhcpoajbkaaDoor
set_option maxRecDepth 10000
set_option linter.unusedSimpArgs false
open Go.RowKit
theorem wpList_neqS {ops : Array Oper} {rest : List Oper} {o : Oper} {a : Act} {w : World} {Q : Exit → Act → World → Prop} (hw : Region.wanted o (yielded ops a.tmps) = true) (x y : Operand) (ho : o.op = .binOp .neq 25 x y 25) (D : List Int) (hl : D.length = 32) (hb : Bytes D)
    (hx : a.eval x = .agg (A8 D)) (hy : a.eval y = .agg (A8 D)) (h : wpList Tryd.prog ops Q rest (a.put o.dst (.bool false)) w) : wpList Tryd.prog ops Q (o :: rest) a w :=
  wpList_neq hw x y ho D D hl hb hl hb hx hy (by rw [decide_eq_true rfl]; exact h)
theorem make32 (W : World) : (Instr.makeSlice 22 (.int .i64 32) (.int .i64 32)).run Tryd.prog W = .ok (.slice (some ⟨W.heap.size, 0, none⟩) 32 32) (W.alloc (.cells Z8x32 5)) := by
  obtain ⟨i5, hi5, hz5, hs5, hy5⟩ := info5'
  have h := run_make_row (P := Tryd.prog) 22 5 i5 (.int .u8 0) Tryd.underlying22 hi5 hz5 hs5 rfl .i64 .i64 32 (by rw [hy5]; omega) (by omega) W
  rw [made8] at h
  exact h
set_option maxHeartbeats 20000000 in
theorem keyed_any (w : World) (hT : Tabs KS HS w) (kp : Option Addr) (kn kc : Nat) (key : List Int) (hk : In8 w kp kn kc key) (op : Option Addr) (on oc : Nat) (other : List Int) (ho : In8 w op on oc other) (p : Option Addr) (n c : Nat) (es : List (List Int)) (he : EN w p n c es) :
    Calls Tryd.prog 13 #[.slice kp kn kc, .slice op on oc, .slice p n c] w fun e w' => e = .returned (.bool true) ∧ Below w.heap.size w w' := by
  have HTb : Hid (Tabs KS HS w) := hT
  have HE : Hid (EN w p n c es) := he
  have HO : Hid (In8 w op on oc other) := ho
  clear hT he ho
  go_enter Tryd.func13, Tryd.ntmps13
  go_wp2_with fail
  refine (short_any w kp kn kc 100 key hk (by omega)).mono ?_
  rintro e w' ⟨km, rfl, hkm, hk1, rfl⟩
  have HK : Hid (In8 w' kp km kc (key.take 100)) := hk1
  clear hk hk1
  go_wp2_with fail
  refine (short_any w' op on oc 100 other HO.out (by omega)).mono ?_
  rintro e w ⟨om, rfl, hom, ho1, rfl⟩
  have HM : Hid (In8 w op om oc (other.take 100)) := ho1
  clear HO ho1
  have hkt := take_short key 100
  have hot := take_short other 100
  obtain ⟨K, hK⟩ : ∃ K, key.take 100 = K := ⟨_, rfl⟩
  obtain ⟨M, hM⟩ : ∃ M, other.take 100 = M := ⟨_, rfl⟩
  rw [hK] at HK hkt
  rw [hM] at HM hot
  have HKT : Hid (K.take 100 = K) := hkt
  have HMT : Hid (M.take 100 = M) := hot
  clear hkt hot hK hM
  go_wp2_with fail
  refine (made_any w HTb.out kp km kc K HK.out p n c es HE.out).mono ?_
  rintro e w1 ⟨g, ev, rfl, hL, b1⟩
  rw [HKT.out] at hL
  have HL1 : Hid (LogAt w1 w.heap.size g ev K (madeP es)) := hL
  have hE0 : Hid (entryP es 0 = (madeP es).getD 0 []) := (entryP_made es 0 (by rw [madeP_len]; omega)).symm
  have hEl := madeP_len es
  have HF : Hid (Fit (madeP es)) := hL.fit
  clear hL
  obtain ⟨E, hE⟩ : ∃ E, madeP es = E := ⟨_, rfl⟩
  have HEE : Hid (madeP es = E) := hE
  rw [hE] at HL1 hEl hE0 HF ⊢
  have hE1 : 1 ≤ E.length := by omega
  have hE2 : E.length ≤ 41 := by omega
  clear hEl hE
  go_wp2_with fail
  refine (made_any w1 (HTb.out.below b1) op om oc M (HM.out.below b1) p n c es (HE.out.below b1)).mono ?_
  rintro e w2 ⟨g', ev', rfl, hL, b2⟩
  rw [HEE.out, HMT.out] at hL
  rw [HEE.out]
  have HL2 : Hid (LogAt w2 w.heap.size g ev K E) := HL1.out.below b2
  have HM2 : Hid (LogAt w2 w1.heap.size g' ev' M E) := hL
  have B2 : Below w.heap.size w w2 := b1.trans (b2.mono b1.size)
  clear hL HL1 b2 b1
  have hnn : ((E.length : Int) != (E.length : Int)) = false := by simp
  go_wp2_with fail
  refine (logHead_any w2 g K E (HTb.out.below B2) HL2.out.read).mono ?_
  rintro e w3 ⟨rfl, b3⟩
  have B3 : Below w.heap.size w w3 := B2.trans (b3.mono B2.size)
  have HL3 : Hid (LogAt w3 w.heap.size g ev K E) := HL2.out.below b3
  have HM3 : Hid (LogAt w3 w1.heap.size g' ev' M E) := HM2.out.below b3
  clear HL2 HM2 b3 B2 hnn
  obtain ⟨hRl, hRb⟩ := rootP_ok E
  have hTl := signP_len K E.length (rootP E)
  have hTb := signP_bytes K E.length (rootP E)
  have hUl := signP_len M E.length (rootP E)
  have hUb := signP_bytes M E.length (rootP E)
  have HS1 : Hid (signedP M E.length (rootP E) (signP K E.length (rootP E)) = decide (signP K E.length (rootP E) = signP M E.length (rootP E))) := signed_eq M E.length _ _
  have HS2 : Hid (signedP K E.length (rootP E) (signP M E.length (rootP E)) = decide (signP M E.length (rootP E) = signP K E.length (rootP E))) := signed_eq K E.length _ _
  have HH : Hid (headP K E = headCells E.length (rootP E) (signP K E.length (rootP E))) := rfl
  have HH' : Hid (headP M E = headCells E.length (rootP E) (signP M E.length (rootP E))) := rfl
  rw [HH.out]
  generalize rootP E = R at *
  generalize signP K (E.length : Int) R = T at *
  generalize signP M (E.length : Int) R = T' at *
  have hC := headCells_size (E.length : Int) R T hRl hTl
  have hC' := headCells_size (E.length : Int) R T' hRl hUl
  have h1 := head_one (E.length : Int) R T
  have h1' := head_one (E.length : Int) R T'
  have h5 := heapN w3 (.cells (headCells 0 Z32 Z32) 42) _ rfl
  have hs3 := B3.size
  go_wp2_with (first
    | (with_reducible refine atStore 42 ?_
       refine store_H rfl _ _ rfl w3.heap.size (headCells (E.length : Int) R T) (headCells 0 Z32 Z32) rfl rfl h5 hC zeroHead h1 ?_
       intro U hU
       refine hideGoal ?_))
  have hU0 := hU.here
  have BU : Below w.heap.size w U := hU.below _ _ hs3 (B3.alloc hs3 _)
  have bU : Below w3.heap.size w3 U := hU.below _ _ (Nat.le_refl _) ((Below.refl _ _).alloc (Nat.le_refl _) _)
  have HL4 : Hid (LogAt U w.heap.size g ev K E) := HL3.out.below bU
  have HM4 : Hid (LogAt U w1.heap.size g' ev' M E) := HM3.out.below bU
  clear hU h5 HL3 HM3 bU B3 h1
  generalize w3.heap.size = gh at *
  refine openGoal ?_
  go_wp2_with fail
  refine (logHead_any U g' M E (HTb.out.below BU) HM4.out.read).mono ?_
  rintro e w4 ⟨rfl, b4⟩
  rw [HH'.out]
  have B4 : Below w.heap.size w w4 := BU.trans (b4.mono BU.size)
  have HL5 : Hid (LogAt w4 w.heap.size g ev K E) := HL4.out.below b4
  have h40 : w4.heap[gh]? = some (.cells (headCells (E.length : Int) R T) 42) := (b4.block gh (row_lt hU0)).trans hU0
  have h5 := heapN w4 (.cells (headCells 0 Z32 Z32) 42) _ rfl
  have hs4 := B4.size
  clear HL4 HM4 b4 hU0 BU
  go_wp2_with (first
    | (with_reducible refine atStore 42 ?_
       refine store_H rfl _ _ rfl w4.heap.size (headCells (E.length : Int) R T') (headCells 0 Z32 Z32) rfl rfl h5 hC' zeroHead h1' ?_
       intro X hX
       refine hideGoal ?_))
  have hX0 := hX.here
  have BX : Below w.heap.size w X := hX.below _ _ hs4 (B4.alloc hs4 _)
  have bX : Below w4.heap.size w4 X := hX.below _ _ (Nat.le_refl _) ((Below.refl _ _).alloc (Nat.le_refl _) _)
  have HL6 : Hid (LogAt X w.heap.size g ev K E) := HL5.out.below bX
  have hXh : X.heap[gh]? = some (.cells (headCells (E.length : Int) R T) 42) := (bX.block gh (row_lt h40)).trans h40
  clear hX h5 HL5 bX B4 h1' h40
  generalize w4.heap.size = gi at *
  refine openGoal ?_
  go_wp2_with (first
    | (with_reducible refine atLoad 42 ?_
       refine load_H rfl (.tmp 11) rfl gh rfl (headCells (E.length : Int) R T) hC hXh ?_))
  refine (signed_any X (HTb.out.below BX) op om oc M (HM.out.below BX) (E.length : Int) (by omega) R T hRl hRb hTl hTb).mono ?_
  rintro e w5 ⟨rfl, b5⟩
  rw [HS1.out]
  have B5 : Below w.heap.size w w5 := BX.trans (b5.mono BX.size)
  have HL7 : Hid (LogAt w5 w.heap.size g ev K E) := HL6.out.below b5
  have h5h : w5.heap[gh]? = some (.cells (headCells (E.length : Int) R T) 42) := (b5.block gh (row_lt hXh)).trans hXh
  have h5i : w5.heap[gi]? = some (.cells (headCells (E.length : Int) R T') 42) := (b5.block gi (row_lt hX0)).trans hX0
  clear HL6 b5 hXh hX0 BX
  go_wp2_with (first
    | (with_reducible refine atLoad 42 ?_
       refine load_H rfl (.tmp 12) rfl gi rfl (headCells (E.length : Int) R T') hC' h5i ?_))
  refine (signed_any w5 (HTb.out.below B5) kp km kc K (HK.out.below B5) (E.length : Int) (by omega) R T' hRl hRb hUl hUb).mono ?_
  rintro e w6 ⟨rfl, b6⟩
  rw [HS2.out]
  have B6 : Below w.heap.size w w6 := B5.trans (b6.mono B5.size)
  have HL8 : Hid (LogAt w6 w.heap.size g ev K E) := HL7.out.below b6
  have h6h : w6.heap[gh]? = some (.cells (headCells (E.length : Int) R T) 42) := (b6.block gh (row_lt h5h)).trans h5h
  have h6i : w6.heap[gi]? = some (.cells (headCells (E.length : Int) R T') 42) := (b6.block gi (row_lt h5i)).trans h5i
  clear HL7 b6 h5h h5i B5
  have hsw : decide (T' = T) = decide (T = T') := by
    by_cases h : T = T'
    · rw [decide_eq_true h, decide_eq_true h.symm]
    · rw [decide_eq_false h, decide_eq_false (fun e => h e.symm)]
  rw [hsw]
  clear hsw
  go_wp2_with fail
  refine (save_any w6 (HTb.out.below B6) g K E HL8.out.read hE1).mono ?_
  rintro e w7 ⟨rfl, b7⟩
  have B7 : Below w.heap.size w w7 := B6.trans (b7.mono B6.size)
  have h7h : w7.heap[gh]? = some (.cells (headCells (E.length : Int) R T) 42) := (b7.block gh (row_lt h6h)).trans h6h
  have h7i : w7.heap[gi]? = some (.cells (headCells (E.length : Int) R T') 42) := (b7.block gi (row_lt h6i)).trans h6i
  have hSl : (toU (saveP K E)).length ≤ 140737488355328 := by
    rw [toU_len]
    have h := saveU_len K E (fun k => (HF.out.2 k).1) E.length
    have : E.length * 336 ≤ 41 * 336 := Nat.mul_le_mul_right _ hE2
    show (saveU K E E.length).length ≤ _
    omega
  have HLK : Hid ((loadP M (toU (saveP K E))).2.1 = 0 ∨ (loadP M (toU (saveP K E))).2.1 = 4) := load_keyed K M E HF.out
  have HLF : Hid (sealP K Z32 (E.getD 0 []) ≠ sealP M Z32 (E.getD 0 []) → loadP M (toU (saveP K E)) = ([], 4, 0)) := load_first K M E HF.out (by omega)
  generalize toU (saveP K E) = SS at *
  clear HL8 b7 h6h h6i B6
  go_wp2_with fail
  refine (load_any w7 (HTb.out.below B7) op om oc M (HM.out.below B7) hom SS hSl).mono ?_
  rintro e w8 ⟨xv, rfl, b8, hx1, hx2⟩
  have B8 : Below w.heap.size w w8 := B7.trans (b8.mono B7.size)
  have h8h : w8.heap[gh]? = some (.cells (headCells (E.length : Int) R T) 42) := (b8.block gh (row_lt h7h)).trans h7h
  have h8i : w8.heap[gi]? = some (.cells (headCells (E.length : Int) R T') 42) := (b8.block gi (row_lt h7i)).trans h7i
  have H8h : Hid (Hd w8 gh E.length R T) := hd_of hRl hTl h8h
  have H8i : Hid (Hd w8 gi E.length R T') := hd_of hRl hUl h8i
  have HX2 : Hid (¬ ((loadP M SS).2.1 = 0 ∨ (loadP M SS).2.1 = 3) → xv = .pointer none) := hx2
  clear b8 h7h h7i h8h h8i B7 hx1 hx2
  obtain ⟨em, hem⟩ : ∃ em, (loadP M SS).2.1 = em := ⟨_, rfl⟩
  obtain ⟨pm, hpm⟩ : ∃ pm, (loadP M SS).2.2 = pm := ⟨_, rfl⟩
  have HEM : Hid ((loadP M SS).2.1 = em) := hem
  have HPM : Hid ((loadP M SS).2.2 = pm) := hpm
  rw [hem, hpm]
  clear hem hpm
  have hbb : ∀ b : Bool, (b != b) = false := fun b => by simp
  generalize hdd : decide (T = T') = dd at *
  go_wp2_with (first
    | (with_reducible refine atLoad 25 ?_
       first
         | refine load_at rfl (.tmp 65) rfl ⟨gh, 1, none⟩ rfl R hRl H8h.out.root ?_
         | refine load_at rfl (.tmp 67) rfl ⟨gi, 1, none⟩ rfl R hRl H8i.out.root ?_
         | refine load_at rfl (.tmp 72) rfl ⟨gh, 33, none⟩ rfl T hTl H8h.out.tag ?_
         | refine load_at rfl (.tmp 74) rfl ⟨gi, 33, none⟩ rfl T' hUl H8i.out.tag ?_)
    | (with_reducible refine atBin .neq 25 25 ?_
       refine wpList_neqS rfl (.tmp 66) (.tmp 68) rfl R hRl hRb rfl rfl ?_)
    | (with_reducible refine atBin .eql 25 25 ?_
       refine wpList_eql rfl (.tmp 73) (.tmp 75) rfl T T' hTl hTb hUl hUb rfl rfl ?_
       rw [hdd]))
  -- THE TAGS
  have hE0' := hE0.out
  obtain ⟨TG, hTG⟩ : ∃ TG, sealP K Z32 (E.getD 0 []) = TG := ⟨_, rfl⟩
  obtain ⟨TH, hTH⟩ : ∃ TH, sealP M Z32 (E.getD 0 []) = TH := ⟨_, rfl⟩
  have HTG : Hid (tagP KS HS K (Z32 ++ entryP es 0) = TG) := by show _ = _; rw [hE0']; exact hTG
  have HTH : Hid (tagP KS HS M (Z32 ++ entryP es 0) = TH) := by show _ = _; rw [hE0']; exact hTH
  have hTGl : TG.length = 32 := by rw [← hTG]; exact sealP_len _ _ _
  have hTGb : Bytes TG := by rw [← hTG]; exact sealP_bytes _ _ _
  have hTHl : TH.length = 32 := by rw [← hTH]; exact sealP_len _ _ _
  have hTHb : Bytes TH := by rw [← hTH]; exact sealP_bytes _ _ _
  rw [hTG, hTH] at HLF
  clear hTG hTH hE0'
  have HTc : Hid (Tabs KS HS w8) := HTb.out.below B8
  have HEc : Hid (EN w8 p n c es) := HE.out.below B8
  have HKc : Hid (In8 w8 kp km kc K) := HK.out.below B8
  have HMc : Hid (In8 w8 op om oc M) := HM.out.below B8
  have HB8 : Hid (Below w.heap.size w w8) := B8
  clear H8h H8i HS1 HS2 hC hC' HH HH' B8 hTl hTb hUl hUb hRl hRb hSl
  go_cut [18] (fun s18 wc => ∃ gd, s18 = .pointer (some ⟨gd, 0, none⟩) ∧ Dg wc gd TG ∧ Below w8.heap.size w8 wc)
  case first =>
    refine wp_region_noPanic ?_
    refine wp_region_held (S := fun _ => True) follows ?_
    refine wpAnyH_take (i := 0) (v := .slice kp km kc) rfl (by kernel_rfl) (by kernel_rfl) (by kernel_rfl) (fun _ _ _ h => h) (.inl ⟨rfl, fun W _ => by go_simp⟩) trivial ?_
    simp only [Act.put, List.getElem_toArray, List.getElem_cons_zero, List.getElem_cons_succ, List.setIfInBounds_toArray, List.set_cons_zero, List.set_cons_succ]
    refine wpAnyH_take (i := 2) (v := .slice p n c) rfl (by kernel_rfl) (by kernel_rfl) (by kernel_rfl) (fun _ _ _ h => h) (.inl ⟨rfl, fun W _ => by go_simp⟩) trivial ?_
    simp only [Act.put, List.getElem_toArray, List.getElem_cons_zero, List.getElem_cons_succ, List.setIfInBounds_toArray, List.set_cons_zero, List.set_cons_succ]
    have By0 : Below w8.heap.size w8 w8.drew := (Below.refl _ _).drew
    obtain ⟨y0, ey0⟩ : ∃ W, w8.drew = W := ⟨_, rfl⟩
    refine reworld (w' := w8.drew) rfl ?_
    rw [ey0] at By0 ⊢
    clear ey0
    refine relist #[true, false, true, false, false, false, false, false] (by kernel_rfl) ?_
    refine any_three (i := 1) (j := 3) (l := 6) (by kernel_rfl) ?_ ?_ ?_
    · refine wpOp_val (v := .slice (some ⟨y0.heap.size, 0, none⟩) 32 32) (w' := y0.alloc (.cells Z8x32 5)) rfl rfl (by have e := make32 y0; go_simp) ?_
      have by1 : Below y0.heap.size y0 (y0.alloc (.cells Z8x32 5)) := (Below.refl _ _).alloc (Nat.le_refl _) _
      have hy1 := heapN y0 (.cells Z8x32 5) _ rfl
      refine ⟨trivial, ?_⟩
      simp only [Act.put, List.getElem_toArray, List.getElem_cons_zero, List.getElem_cons_succ, List.setIfInBounds_toArray, List.set_cons_zero, List.set_cons_succ]
      obtain ⟨y1, ey1⟩ : ∃ W, y0.alloc (.cells Z8x32 5) = W := ⟨_, rfl⟩
      obtain ⟨gm, egm⟩ : ∃ gm, y0.heap.size = gm := ⟨_, rfl⟩
      rw [ey1] at by1 hy1
      rw [egm] at hy1
      have By1 : Below w8.heap.size w8 y1 := By0.trans (by1.mono By0.size)
      have I1y1 : In8 y1 (some ⟨gm, 0, none⟩) 32 32 Z32 := in8_blk (xs := Z32) rfl Z32_bytes (by omega) hy1
      rw [ey1, egm]
      clear ey1 egm by1 hy1
      refine relist #[true, true, true, false, false, false, false, false] (by kernel_rfl) ?_
      refine any_two (i := 3) (j := 6) (by kernel_rfl) ?_ ?_
      · refine wpOp_call (f := 45) (args := #[.slice p n c, .int .i64 0]) rfl rfl (by go_simp) ?_
        refine (entry_any y1 p n c es (HEc.out.below By1) 0 (by omega)).mono ?_
        rintro e y2 ⟨q, m, d, rfl, I3y2, hm3, by2⟩
        have By2 : Below w8.heap.size w8 y2 := By1.trans (by2.mono By1.size)
        have I1y2 := I1y1.below by2
        clear by2
        refine ⟨_, rfl, trivial, ?_⟩
        simp only [Act.put, List.getElem_toArray, List.getElem_cons_zero, List.getElem_cons_succ, List.setIfInBounds_toArray, List.set_cons_zero, List.set_cons_succ]
        refine relist #[true, true, true, true, false, false, false, false] (by kernel_rfl) ?_
        refine any_two (i := 4) (j := 6) (by kernel_rfl) ?_ ?_
        · obtain ⟨p4, n4, c4, y3, hr, I4y3, by3⟩ := app_full y2 gm Z32 I1y2 q m d (entryP es 0) I3y2 (by omega) 22
          refine wpOp_app rfl rfl (.tmp 85) (.tmp 87) 22 22 rfl (.slice (some ⟨gm, 0, none⟩) 32 32) (.slice q m d) rfl rfl hr ?_
          have By3 : Below w8.heap.size w8 y3 := By2.trans (by3.mono By2.size)
          clear by3 hr
          refine ⟨trivial, ?_⟩
          simp only [Act.put, List.getElem_toArray, List.getElem_cons_zero, List.getElem_cons_succ, List.setIfInBounds_toArray, List.set_cons_zero, List.set_cons_succ]
          refine relist #[true, true, true, true, true, false, false, false] (by kernel_rfl) ?_
          refine any_two (i := 5) (j := 6) (by kernel_rfl) ?_ ?_
          · refine wpOp_call (f := 17) (args := #[.slice kp km kc, .slice p4 n4 c4]) rfl rfl (by go_simp) ?_
            refine (annalTag_any KS HS y3 (HTc.out.below By3) kp p4 km kc n4 c4 K (Z32 ++ entryP es 0) (HKc.out.below By3) I4y3).mono ?_
            rintro e y4 ⟨rfl, by4⟩
            rw [HTG.out]
            have By4 : Below w8.heap.size w8 y4 := By3.trans (by4.mono By3.size)
            clear by4
            refine ⟨_, rfl, trivial, ?_⟩
            simp only [Act.put, List.getElem_toArray, List.getElem_cons_zero, List.getElem_cons_succ, List.setIfInBounds_toArray, List.set_cons_zero, List.set_cons_succ]
            refine relist #[true, true, true, true, true, true, false, false] (by kernel_rfl) ?_
            refine any_one (i := 6) (by kernel_rfl) ?_
            refine wpOp_val (v := .pointer (some ⟨y4.heap.size, 0, none⟩)) (w' := y4.alloc (.cells Z8x32 25)) rfl rfl (by unfold Z8x32; go_simp <;> rfl) ?_
            have by5 : Below y4.heap.size y4 (y4.alloc (.cells Z8x32 25)) := (Below.refl _ _).alloc (Nat.le_refl _) _
            have D6y5 : Dg (y4.alloc (.cells Z8x32 25)) y4.heap.size Z32 := Dg.new _ _ rfl
            have h6 : w8.heap.size ≤ y4.heap.size := By4.size
            refine ⟨trivial, ?_⟩
            simp only [Act.put, List.getElem_toArray, List.getElem_cons_zero, List.getElem_cons_succ, List.setIfInBounds_toArray, List.set_cons_zero, List.set_cons_succ]
            obtain ⟨y5, ey5⟩ : ∃ W, y4.alloc (.cells Z8x32 25) = W := ⟨_, rfl⟩
            obtain ⟨gd, egd⟩ : ∃ gd, y4.heap.size = gd := ⟨_, rfl⟩
            rw [ey5] at by5 D6y5
            rw [egd] at D6y5 h6
            have By5 : Below w8.heap.size w8 y5 := By4.trans (by5.mono By4.size)
            rw [ey5, egd]
            clear ey5 egd by5
            refine relist #[true, true, true, true, true, true, true, false] (by kernel_rfl) ?_
            refine any_one (i := 7) (by kernel_rfl) ?_
            refine wpOp_store_D rfl rfl (.tmp 18) (.tmp 89) rfl gd TG rfl rfl Z32 D6y5 hTGl ?_
            intro X hX
            have xD : Hid (Dg X gd TG) := hX.dg hTGl
            have xB : Hid (Below w8.heap.size w8 X) := hX.below _ _ h6 By5
            refine ⟨trivial, ?_⟩
            simp only [Act.put, List.getElem_toArray, List.getElem_cons_zero, List.getElem_cons_succ, List.setIfInBounds_toArray, List.set_cons_zero, List.set_cons_succ]
            refine wpAnyH_done (by kernel_rfl) ?_ _
            refine NoPanic.normal ?_
            clear hX D6y5 By5
            go_wp2_with fail
            go_meet
            case rel => exact ⟨gd, rfl, xD.out, xB.out⟩
          · refine wpOp_val (v := .pointer (some ⟨y3.heap.size, 0, none⟩)) (w' := y3.alloc (.cells Z8x32 25)) rfl rfl (by unfold Z8x32; go_simp <;> rfl) ?_
            have by7 : Below y3.heap.size y3 (y3.alloc (.cells Z8x32 25)) := (Below.refl _ _).alloc (Nat.le_refl _) _
            have D6y7 : Dg (y3.alloc (.cells Z8x32 25)) y3.heap.size Z32 := Dg.new _ _ rfl
            have h6 : w8.heap.size ≤ y3.heap.size := By3.size
            refine ⟨trivial, ?_⟩
            simp only [Act.put, List.getElem_toArray, List.getElem_cons_zero, List.getElem_cons_succ, List.setIfInBounds_toArray, List.set_cons_zero, List.set_cons_succ]
            obtain ⟨y7, ey7⟩ : ∃ W, y3.alloc (.cells Z8x32 25) = W := ⟨_, rfl⟩
            obtain ⟨gd, egd⟩ : ∃ gd, y3.heap.size = gd := ⟨_, rfl⟩
            rw [ey7] at by7 D6y7
            rw [egd] at D6y7 h6
            have By7 : Below w8.heap.size w8 y7 := By3.trans (by7.mono By3.size)
            have I4y7 := I4y3.below by7
            rw [ey7, egd]
            clear ey7 egd by7
            refine relist #[true, true, true, true, true, false, true, false] (by kernel_rfl) ?_
            refine any_one (i := 5) (by kernel_rfl) ?_
            refine wpOp_call (f := 17) (args := #[.slice kp km kc, .slice p4 n4 c4]) rfl rfl (by go_simp) ?_
            refine (annalTag_any KS HS y7 (HTc.out.below By7) kp p4 km kc n4 c4 K (Z32 ++ entryP es 0) (HKc.out.below By7) I4y7).mono ?_
            rintro e y8 ⟨rfl, by8⟩
            rw [HTG.out]
            have By8 : Below w8.heap.size w8 y8 := By7.trans (by8.mono By7.size)
            have D6y8 := D6y7.next by8
            clear by8
            refine ⟨_, rfl, trivial, ?_⟩
            simp only [Act.put, List.getElem_toArray, List.getElem_cons_zero, List.getElem_cons_succ, List.setIfInBounds_toArray, List.set_cons_zero, List.set_cons_succ]
            refine relist #[true, true, true, true, true, true, true, false] (by kernel_rfl) ?_
            refine any_one (i := 7) (by kernel_rfl) ?_
            refine wpOp_store_D rfl rfl (.tmp 18) (.tmp 89) rfl gd TG rfl rfl Z32 D6y8 hTGl ?_
            intro X hX
            have xD : Hid (Dg X gd TG) := hX.dg hTGl
            have xB : Hid (Below w8.heap.size w8 X) := hX.below _ _ h6 By8
            refine ⟨trivial, ?_⟩
            simp only [Act.put, List.getElem_toArray, List.getElem_cons_zero, List.getElem_cons_succ, List.setIfInBounds_toArray, List.set_cons_zero, List.set_cons_succ]
            refine wpAnyH_done (by kernel_rfl) ?_ _
            refine NoPanic.normal ?_
            clear hX D6y8 By8
            go_wp2_with fail
            go_meet
            case rel => exact ⟨gd, rfl, xD.out, xB.out⟩
        · refine wpOp_val (v := .pointer (some ⟨y2.heap.size, 0, none⟩)) (w' := y2.alloc (.cells Z8x32 25)) rfl rfl (by unfold Z8x32; go_simp <;> rfl) ?_
          have by10 : Below y2.heap.size y2 (y2.alloc (.cells Z8x32 25)) := (Below.refl _ _).alloc (Nat.le_refl _) _
          have D6y10 : Dg (y2.alloc (.cells Z8x32 25)) y2.heap.size Z32 := Dg.new _ _ rfl
          have h6 : w8.heap.size ≤ y2.heap.size := By2.size
          refine ⟨trivial, ?_⟩
          simp only [Act.put, List.getElem_toArray, List.getElem_cons_zero, List.getElem_cons_succ, List.setIfInBounds_toArray, List.set_cons_zero, List.set_cons_succ]
          obtain ⟨y10, ey10⟩ : ∃ W, y2.alloc (.cells Z8x32 25) = W := ⟨_, rfl⟩
          obtain ⟨gd, egd⟩ : ∃ gd, y2.heap.size = gd := ⟨_, rfl⟩
          rw [ey10] at by10 D6y10
          rw [egd] at D6y10 h6
          have By10 : Below w8.heap.size w8 y10 := By2.trans (by10.mono By2.size)
          have I1y10 := I1y2.below by10
          have I3y10 := I3y2.below by10
          rw [ey10, egd]
          clear ey10 egd by10
          refine relist #[true, true, true, true, false, false, true, false] (by kernel_rfl) ?_
          refine any_one (i := 4) (by kernel_rfl) ?_
          obtain ⟨p4, n4, c4, y11, hr, I4y11, by11⟩ := app_full y10 gm Z32 I1y10 q m d (entryP es 0) I3y10 (by omega) 22
          refine wpOp_app rfl rfl (.tmp 85) (.tmp 87) 22 22 rfl (.slice (some ⟨gm, 0, none⟩) 32 32) (.slice q m d) rfl rfl hr ?_
          have By11 : Below w8.heap.size w8 y11 := By10.trans (by11.mono By10.size)
          have D6y11 := D6y10.next by11
          clear by11 hr
          refine ⟨trivial, ?_⟩
          simp only [Act.put, List.getElem_toArray, List.getElem_cons_zero, List.getElem_cons_succ, List.setIfInBounds_toArray, List.set_cons_zero, List.set_cons_succ]
          refine relist #[true, true, true, true, true, false, true, false] (by kernel_rfl) ?_
          refine any_one (i := 5) (by kernel_rfl) ?_
          refine wpOp_call (f := 17) (args := #[.slice kp km kc, .slice p4 n4 c4]) rfl rfl (by go_simp) ?_
          refine (annalTag_any KS HS y11 (HTc.out.below By11) kp p4 km kc n4 c4 K (Z32 ++ entryP es 0) (HKc.out.below By11) I4y11).mono ?_
          rintro e y12 ⟨rfl, by12⟩
          rw [HTG.out]
          have By12 : Below w8.heap.size w8 y12 := By11.trans (by12.mono By11.size)
          have D6y12 := D6y11.next by12
          clear by12
          refine ⟨_, rfl, trivial, ?_⟩
          simp only [Act.put, List.getElem_toArray, List.getElem_cons_zero, List.getElem_cons_succ, List.setIfInBounds_toArray, List.set_cons_zero, List.set_cons_succ]
          refine relist #[true, true, true, true, true, true, true, false] (by kernel_rfl) ?_
          refine any_one (i := 7) (by kernel_rfl) ?_
          refine wpOp_store_D rfl rfl (.tmp 18) (.tmp 89) rfl gd TG rfl rfl Z32 D6y12 hTGl ?_
          intro X hX
          have xD : Hid (Dg X gd TG) := hX.dg hTGl
          have xB : Hid (Below w8.heap.size w8 X) := hX.below _ _ h6 By12
          refine ⟨trivial, ?_⟩
          simp only [Act.put, List.getElem_toArray, List.getElem_cons_zero, List.getElem_cons_succ, List.setIfInBounds_toArray, List.set_cons_zero, List.set_cons_succ]
          refine wpAnyH_done (by kernel_rfl) ?_ _
          refine NoPanic.normal ?_
          clear hX D6y12 By12
          go_wp2_with fail
          go_meet
          case rel => exact ⟨gd, rfl, xD.out, xB.out⟩
      · refine wpOp_val (v := .pointer (some ⟨y1.heap.size, 0, none⟩)) (w' := y1.alloc (.cells Z8x32 25)) rfl rfl (by unfold Z8x32; go_simp <;> rfl) ?_
        have by14 : Below y1.heap.size y1 (y1.alloc (.cells Z8x32 25)) := (Below.refl _ _).alloc (Nat.le_refl _) _
        have D6y14 : Dg (y1.alloc (.cells Z8x32 25)) y1.heap.size Z32 := Dg.new _ _ rfl
        have h6 : w8.heap.size ≤ y1.heap.size := By1.size
        refine ⟨trivial, ?_⟩
        simp only [Act.put, List.getElem_toArray, List.getElem_cons_zero, List.getElem_cons_succ, List.setIfInBounds_toArray, List.set_cons_zero, List.set_cons_succ]
        obtain ⟨y14, ey14⟩ : ∃ W, y1.alloc (.cells Z8x32 25) = W := ⟨_, rfl⟩
        obtain ⟨gd, egd⟩ : ∃ gd, y1.heap.size = gd := ⟨_, rfl⟩
        rw [ey14] at by14 D6y14
        rw [egd] at D6y14 h6
        have By14 : Below w8.heap.size w8 y14 := By1.trans (by14.mono By1.size)
        have I1y14 := I1y1.below by14
        rw [ey14, egd]
        clear ey14 egd by14
        refine relist #[true, true, true, false, false, false, true, false] (by kernel_rfl) ?_
        refine any_one (i := 3) (by kernel_rfl) ?_
        refine wpOp_call (f := 45) (args := #[.slice p n c, .int .i64 0]) rfl rfl (by go_simp) ?_
        refine (entry_any y14 p n c es (HEc.out.below By14) 0 (by omega)).mono ?_
        rintro e y15 ⟨q, m, d, rfl, I3y15, hm3, by15⟩
        have By15 : Below w8.heap.size w8 y15 := By14.trans (by15.mono By14.size)
        have I1y15 := I1y14.below by15
        have D6y15 := D6y14.next by15
        clear by15
        refine ⟨_, rfl, trivial, ?_⟩
        simp only [Act.put, List.getElem_toArray, List.getElem_cons_zero, List.getElem_cons_succ, List.setIfInBounds_toArray, List.set_cons_zero, List.set_cons_succ]
        refine relist #[true, true, true, true, false, false, true, false] (by kernel_rfl) ?_
        refine any_one (i := 4) (by kernel_rfl) ?_
        obtain ⟨p4, n4, c4, y16, hr, I4y16, by16⟩ := app_full y15 gm Z32 I1y15 q m d (entryP es 0) I3y15 (by omega) 22
        refine wpOp_app rfl rfl (.tmp 85) (.tmp 87) 22 22 rfl (.slice (some ⟨gm, 0, none⟩) 32 32) (.slice q m d) rfl rfl hr ?_
        have By16 : Below w8.heap.size w8 y16 := By15.trans (by16.mono By15.size)
        have D6y16 := D6y15.next by16
        clear by16 hr
        refine ⟨trivial, ?_⟩
        simp only [Act.put, List.getElem_toArray, List.getElem_cons_zero, List.getElem_cons_succ, List.setIfInBounds_toArray, List.set_cons_zero, List.set_cons_succ]
        refine relist #[true, true, true, true, true, false, true, false] (by kernel_rfl) ?_
        refine any_one (i := 5) (by kernel_rfl) ?_
        refine wpOp_call (f := 17) (args := #[.slice kp km kc, .slice p4 n4 c4]) rfl rfl (by go_simp) ?_
        refine (annalTag_any KS HS y16 (HTc.out.below By16) kp p4 km kc n4 c4 K (Z32 ++ entryP es 0) (HKc.out.below By16) I4y16).mono ?_
        rintro e y17 ⟨rfl, by17⟩
        rw [HTG.out]
        have By17 : Below w8.heap.size w8 y17 := By16.trans (by17.mono By16.size)
        have D6y17 := D6y16.next by17
        clear by17
        refine ⟨_, rfl, trivial, ?_⟩
        simp only [Act.put, List.getElem_toArray, List.getElem_cons_zero, List.getElem_cons_succ, List.setIfInBounds_toArray, List.set_cons_zero, List.set_cons_succ]
        refine relist #[true, true, true, true, true, true, true, false] (by kernel_rfl) ?_
        refine any_one (i := 7) (by kernel_rfl) ?_
        refine wpOp_store_D rfl rfl (.tmp 18) (.tmp 89) rfl gd TG rfl rfl Z32 D6y17 hTGl ?_
        intro X hX
        have xD : Hid (Dg X gd TG) := hX.dg hTGl
        have xB : Hid (Below w8.heap.size w8 X) := hX.below _ _ h6 By17
        refine ⟨trivial, ?_⟩
        simp only [Act.put, List.getElem_toArray, List.getElem_cons_zero, List.getElem_cons_succ, List.setIfInBounds_toArray, List.set_cons_zero, List.set_cons_succ]
        refine wpAnyH_done (by kernel_rfl) ?_ _
        refine NoPanic.normal ?_
        clear hX D6y17 By17
        go_wp2_with fail
        go_meet
        case rel => exact ⟨gd, rfl, xD.out, xB.out⟩
    · refine wpOp_call (f := 45) (args := #[.slice p n c, .int .i64 0]) rfl rfl (by go_simp) ?_
      refine (entry_any y0 p n c es (HEc.out.below By0) 0 (by omega)).mono ?_
      rintro e y19 ⟨q, m, d, rfl, I3y19, hm3, by19⟩
      have By19 : Below w8.heap.size w8 y19 := By0.trans (by19.mono By0.size)
      clear by19
      refine ⟨_, rfl, trivial, ?_⟩
      simp only [Act.put, List.getElem_toArray, List.getElem_cons_zero, List.getElem_cons_succ, List.setIfInBounds_toArray, List.set_cons_zero, List.set_cons_succ]
      refine relist #[true, false, true, true, false, false, false, false] (by kernel_rfl) ?_
      refine any_two (i := 1) (j := 6) (by kernel_rfl) ?_ ?_
      · refine wpOp_val (v := .slice (some ⟨y19.heap.size, 0, none⟩) 32 32) (w' := y19.alloc (.cells Z8x32 5)) rfl rfl (by have e := make32 y19; go_simp) ?_
        have by20 : Below y19.heap.size y19 (y19.alloc (.cells Z8x32 5)) := (Below.refl _ _).alloc (Nat.le_refl _) _
        have hy20 := heapN y19 (.cells Z8x32 5) _ rfl
        refine ⟨trivial, ?_⟩
        simp only [Act.put, List.getElem_toArray, List.getElem_cons_zero, List.getElem_cons_succ, List.setIfInBounds_toArray, List.set_cons_zero, List.set_cons_succ]
        obtain ⟨y20, ey20⟩ : ∃ W, y19.alloc (.cells Z8x32 5) = W := ⟨_, rfl⟩
        obtain ⟨gm, egm⟩ : ∃ gm, y19.heap.size = gm := ⟨_, rfl⟩
        rw [ey20] at by20 hy20
        rw [egm] at hy20
        have By20 : Below w8.heap.size w8 y20 := By19.trans (by20.mono By19.size)
        have I3y20 := I3y19.below by20
        have I1y20 : In8 y20 (some ⟨gm, 0, none⟩) 32 32 Z32 := in8_blk (xs := Z32) rfl Z32_bytes (by omega) hy20
        rw [ey20, egm]
        clear ey20 egm by20 hy20
        refine relist #[true, true, true, true, false, false, false, false] (by kernel_rfl) ?_
        refine any_two (i := 4) (j := 6) (by kernel_rfl) ?_ ?_
        · obtain ⟨p4, n4, c4, y21, hr, I4y21, by21⟩ := app_full y20 gm Z32 I1y20 q m d (entryP es 0) I3y20 (by omega) 22
          refine wpOp_app rfl rfl (.tmp 85) (.tmp 87) 22 22 rfl (.slice (some ⟨gm, 0, none⟩) 32 32) (.slice q m d) rfl rfl hr ?_
          have By21 : Below w8.heap.size w8 y21 := By20.trans (by21.mono By20.size)
          clear by21 hr
          refine ⟨trivial, ?_⟩
          simp only [Act.put, List.getElem_toArray, List.getElem_cons_zero, List.getElem_cons_succ, List.setIfInBounds_toArray, List.set_cons_zero, List.set_cons_succ]
          refine relist #[true, true, true, true, true, false, false, false] (by kernel_rfl) ?_
          refine any_two (i := 5) (j := 6) (by kernel_rfl) ?_ ?_
          · refine wpOp_call (f := 17) (args := #[.slice kp km kc, .slice p4 n4 c4]) rfl rfl (by go_simp) ?_
            refine (annalTag_any KS HS y21 (HTc.out.below By21) kp p4 km kc n4 c4 K (Z32 ++ entryP es 0) (HKc.out.below By21) I4y21).mono ?_
            rintro e y22 ⟨rfl, by22⟩
            rw [HTG.out]
            have By22 : Below w8.heap.size w8 y22 := By21.trans (by22.mono By21.size)
            clear by22
            refine ⟨_, rfl, trivial, ?_⟩
            simp only [Act.put, List.getElem_toArray, List.getElem_cons_zero, List.getElem_cons_succ, List.setIfInBounds_toArray, List.set_cons_zero, List.set_cons_succ]
            refine relist #[true, true, true, true, true, true, false, false] (by kernel_rfl) ?_
            refine any_one (i := 6) (by kernel_rfl) ?_
            refine wpOp_val (v := .pointer (some ⟨y22.heap.size, 0, none⟩)) (w' := y22.alloc (.cells Z8x32 25)) rfl rfl (by unfold Z8x32; go_simp <;> rfl) ?_
            have by23 : Below y22.heap.size y22 (y22.alloc (.cells Z8x32 25)) := (Below.refl _ _).alloc (Nat.le_refl _) _
            have D6y23 : Dg (y22.alloc (.cells Z8x32 25)) y22.heap.size Z32 := Dg.new _ _ rfl
            have h6 : w8.heap.size ≤ y22.heap.size := By22.size
            refine ⟨trivial, ?_⟩
            simp only [Act.put, List.getElem_toArray, List.getElem_cons_zero, List.getElem_cons_succ, List.setIfInBounds_toArray, List.set_cons_zero, List.set_cons_succ]
            obtain ⟨y23, ey23⟩ : ∃ W, y22.alloc (.cells Z8x32 25) = W := ⟨_, rfl⟩
            obtain ⟨gd, egd⟩ : ∃ gd, y22.heap.size = gd := ⟨_, rfl⟩
            rw [ey23] at by23 D6y23
            rw [egd] at D6y23 h6
            have By23 : Below w8.heap.size w8 y23 := By22.trans (by23.mono By22.size)
            rw [ey23, egd]
            clear ey23 egd by23
            refine relist #[true, true, true, true, true, true, true, false] (by kernel_rfl) ?_
            refine any_one (i := 7) (by kernel_rfl) ?_
            refine wpOp_store_D rfl rfl (.tmp 18) (.tmp 89) rfl gd TG rfl rfl Z32 D6y23 hTGl ?_
            intro X hX
            have xD : Hid (Dg X gd TG) := hX.dg hTGl
            have xB : Hid (Below w8.heap.size w8 X) := hX.below _ _ h6 By23
            refine ⟨trivial, ?_⟩
            simp only [Act.put, List.getElem_toArray, List.getElem_cons_zero, List.getElem_cons_succ, List.setIfInBounds_toArray, List.set_cons_zero, List.set_cons_succ]
            refine wpAnyH_done (by kernel_rfl) ?_ _
            refine NoPanic.normal ?_
            clear hX D6y23 By23
            go_wp2_with fail
            go_meet
            case rel => exact ⟨gd, rfl, xD.out, xB.out⟩
          · refine wpOp_val (v := .pointer (some ⟨y21.heap.size, 0, none⟩)) (w' := y21.alloc (.cells Z8x32 25)) rfl rfl (by unfold Z8x32; go_simp <;> rfl) ?_
            have by25 : Below y21.heap.size y21 (y21.alloc (.cells Z8x32 25)) := (Below.refl _ _).alloc (Nat.le_refl _) _
            have D6y25 : Dg (y21.alloc (.cells Z8x32 25)) y21.heap.size Z32 := Dg.new _ _ rfl
            have h6 : w8.heap.size ≤ y21.heap.size := By21.size
            refine ⟨trivial, ?_⟩
            simp only [Act.put, List.getElem_toArray, List.getElem_cons_zero, List.getElem_cons_succ, List.setIfInBounds_toArray, List.set_cons_zero, List.set_cons_succ]
            obtain ⟨y25, ey25⟩ : ∃ W, y21.alloc (.cells Z8x32 25) = W := ⟨_, rfl⟩
            obtain ⟨gd, egd⟩ : ∃ gd, y21.heap.size = gd := ⟨_, rfl⟩
            rw [ey25] at by25 D6y25
            rw [egd] at D6y25 h6
            have By25 : Below w8.heap.size w8 y25 := By21.trans (by25.mono By21.size)
            have I4y25 := I4y21.below by25
            rw [ey25, egd]
            clear ey25 egd by25
            refine relist #[true, true, true, true, true, false, true, false] (by kernel_rfl) ?_
            refine any_one (i := 5) (by kernel_rfl) ?_
            refine wpOp_call (f := 17) (args := #[.slice kp km kc, .slice p4 n4 c4]) rfl rfl (by go_simp) ?_
            refine (annalTag_any KS HS y25 (HTc.out.below By25) kp p4 km kc n4 c4 K (Z32 ++ entryP es 0) (HKc.out.below By25) I4y25).mono ?_
            rintro e y26 ⟨rfl, by26⟩
            rw [HTG.out]
            have By26 : Below w8.heap.size w8 y26 := By25.trans (by26.mono By25.size)
            have D6y26 := D6y25.next by26
            clear by26
            refine ⟨_, rfl, trivial, ?_⟩
            simp only [Act.put, List.getElem_toArray, List.getElem_cons_zero, List.getElem_cons_succ, List.setIfInBounds_toArray, List.set_cons_zero, List.set_cons_succ]
            refine relist #[true, true, true, true, true, true, true, false] (by kernel_rfl) ?_
            refine any_one (i := 7) (by kernel_rfl) ?_
            refine wpOp_store_D rfl rfl (.tmp 18) (.tmp 89) rfl gd TG rfl rfl Z32 D6y26 hTGl ?_
            intro X hX
            have xD : Hid (Dg X gd TG) := hX.dg hTGl
            have xB : Hid (Below w8.heap.size w8 X) := hX.below _ _ h6 By26
            refine ⟨trivial, ?_⟩
            simp only [Act.put, List.getElem_toArray, List.getElem_cons_zero, List.getElem_cons_succ, List.setIfInBounds_toArray, List.set_cons_zero, List.set_cons_succ]
            refine wpAnyH_done (by kernel_rfl) ?_ _
            refine NoPanic.normal ?_
            clear hX D6y26 By26
            go_wp2_with fail
            go_meet
            case rel => exact ⟨gd, rfl, xD.out, xB.out⟩
        · refine wpOp_val (v := .pointer (some ⟨y20.heap.size, 0, none⟩)) (w' := y20.alloc (.cells Z8x32 25)) rfl rfl (by unfold Z8x32; go_simp <;> rfl) ?_
          have by28 : Below y20.heap.size y20 (y20.alloc (.cells Z8x32 25)) := (Below.refl _ _).alloc (Nat.le_refl _) _
          have D6y28 : Dg (y20.alloc (.cells Z8x32 25)) y20.heap.size Z32 := Dg.new _ _ rfl
          have h6 : w8.heap.size ≤ y20.heap.size := By20.size
          refine ⟨trivial, ?_⟩
          simp only [Act.put, List.getElem_toArray, List.getElem_cons_zero, List.getElem_cons_succ, List.setIfInBounds_toArray, List.set_cons_zero, List.set_cons_succ]
          obtain ⟨y28, ey28⟩ : ∃ W, y20.alloc (.cells Z8x32 25) = W := ⟨_, rfl⟩
          obtain ⟨gd, egd⟩ : ∃ gd, y20.heap.size = gd := ⟨_, rfl⟩
          rw [ey28] at by28 D6y28
          rw [egd] at D6y28 h6
          have By28 : Below w8.heap.size w8 y28 := By20.trans (by28.mono By20.size)
          have I1y28 := I1y20.below by28
          have I3y28 := I3y20.below by28
          rw [ey28, egd]
          clear ey28 egd by28
          refine relist #[true, true, true, true, false, false, true, false] (by kernel_rfl) ?_
          refine any_one (i := 4) (by kernel_rfl) ?_
          obtain ⟨p4, n4, c4, y29, hr, I4y29, by29⟩ := app_full y28 gm Z32 I1y28 q m d (entryP es 0) I3y28 (by omega) 22
          refine wpOp_app rfl rfl (.tmp 85) (.tmp 87) 22 22 rfl (.slice (some ⟨gm, 0, none⟩) 32 32) (.slice q m d) rfl rfl hr ?_
          have By29 : Below w8.heap.size w8 y29 := By28.trans (by29.mono By28.size)
          have D6y29 := D6y28.next by29
          clear by29 hr
          refine ⟨trivial, ?_⟩
          simp only [Act.put, List.getElem_toArray, List.getElem_cons_zero, List.getElem_cons_succ, List.setIfInBounds_toArray, List.set_cons_zero, List.set_cons_succ]
          refine relist #[true, true, true, true, true, false, true, false] (by kernel_rfl) ?_
          refine any_one (i := 5) (by kernel_rfl) ?_
          refine wpOp_call (f := 17) (args := #[.slice kp km kc, .slice p4 n4 c4]) rfl rfl (by go_simp) ?_
          refine (annalTag_any KS HS y29 (HTc.out.below By29) kp p4 km kc n4 c4 K (Z32 ++ entryP es 0) (HKc.out.below By29) I4y29).mono ?_
          rintro e y30 ⟨rfl, by30⟩
          rw [HTG.out]
          have By30 : Below w8.heap.size w8 y30 := By29.trans (by30.mono By29.size)
          have D6y30 := D6y29.next by30
          clear by30
          refine ⟨_, rfl, trivial, ?_⟩
          simp only [Act.put, List.getElem_toArray, List.getElem_cons_zero, List.getElem_cons_succ, List.setIfInBounds_toArray, List.set_cons_zero, List.set_cons_succ]
          refine relist #[true, true, true, true, true, true, true, false] (by kernel_rfl) ?_
          refine any_one (i := 7) (by kernel_rfl) ?_
          refine wpOp_store_D rfl rfl (.tmp 18) (.tmp 89) rfl gd TG rfl rfl Z32 D6y30 hTGl ?_
          intro X hX
          have xD : Hid (Dg X gd TG) := hX.dg hTGl
          have xB : Hid (Below w8.heap.size w8 X) := hX.below _ _ h6 By30
          refine ⟨trivial, ?_⟩
          simp only [Act.put, List.getElem_toArray, List.getElem_cons_zero, List.getElem_cons_succ, List.setIfInBounds_toArray, List.set_cons_zero, List.set_cons_succ]
          refine wpAnyH_done (by kernel_rfl) ?_ _
          refine NoPanic.normal ?_
          clear hX D6y30 By30
          go_wp2_with fail
          go_meet
          case rel => exact ⟨gd, rfl, xD.out, xB.out⟩
      · refine wpOp_val (v := .pointer (some ⟨y19.heap.size, 0, none⟩)) (w' := y19.alloc (.cells Z8x32 25)) rfl rfl (by unfold Z8x32; go_simp <;> rfl) ?_
        have by32 : Below y19.heap.size y19 (y19.alloc (.cells Z8x32 25)) := (Below.refl _ _).alloc (Nat.le_refl _) _
        have D6y32 : Dg (y19.alloc (.cells Z8x32 25)) y19.heap.size Z32 := Dg.new _ _ rfl
        have h6 : w8.heap.size ≤ y19.heap.size := By19.size
        refine ⟨trivial, ?_⟩
        simp only [Act.put, List.getElem_toArray, List.getElem_cons_zero, List.getElem_cons_succ, List.setIfInBounds_toArray, List.set_cons_zero, List.set_cons_succ]
        obtain ⟨y32, ey32⟩ : ∃ W, y19.alloc (.cells Z8x32 25) = W := ⟨_, rfl⟩
        obtain ⟨gd, egd⟩ : ∃ gd, y19.heap.size = gd := ⟨_, rfl⟩
        rw [ey32] at by32 D6y32
        rw [egd] at D6y32 h6
        have By32 : Below w8.heap.size w8 y32 := By19.trans (by32.mono By19.size)
        have I3y32 := I3y19.below by32
        rw [ey32, egd]
        clear ey32 egd by32
        refine relist #[true, false, true, true, false, false, true, false] (by kernel_rfl) ?_
        refine any_one (i := 1) (by kernel_rfl) ?_
        refine wpOp_val (v := .slice (some ⟨y32.heap.size, 0, none⟩) 32 32) (w' := y32.alloc (.cells Z8x32 5)) rfl rfl (by have e := make32 y32; go_simp) ?_
        have by33 : Below y32.heap.size y32 (y32.alloc (.cells Z8x32 5)) := (Below.refl _ _).alloc (Nat.le_refl _) _
        have hy33 := heapN y32 (.cells Z8x32 5) _ rfl
        refine ⟨trivial, ?_⟩
        simp only [Act.put, List.getElem_toArray, List.getElem_cons_zero, List.getElem_cons_succ, List.setIfInBounds_toArray, List.set_cons_zero, List.set_cons_succ]
        obtain ⟨y33, ey33⟩ : ∃ W, y32.alloc (.cells Z8x32 5) = W := ⟨_, rfl⟩
        obtain ⟨gm, egm⟩ : ∃ gm, y32.heap.size = gm := ⟨_, rfl⟩
        rw [ey33] at by33 hy33
        rw [egm] at hy33
        have By33 : Below w8.heap.size w8 y33 := By32.trans (by33.mono By32.size)
        have I3y33 := I3y32.below by33
        have D6y33 := D6y32.next by33
        have I1y33 : In8 y33 (some ⟨gm, 0, none⟩) 32 32 Z32 := in8_blk (xs := Z32) rfl Z32_bytes (by omega) hy33
        rw [ey33, egm]
        clear ey33 egm by33 hy33
        refine relist #[true, true, true, true, false, false, true, false] (by kernel_rfl) ?_
        refine any_one (i := 4) (by kernel_rfl) ?_
        obtain ⟨p4, n4, c4, y34, hr, I4y34, by34⟩ := app_full y33 gm Z32 I1y33 q m d (entryP es 0) I3y33 (by omega) 22
        refine wpOp_app rfl rfl (.tmp 85) (.tmp 87) 22 22 rfl (.slice (some ⟨gm, 0, none⟩) 32 32) (.slice q m d) rfl rfl hr ?_
        have By34 : Below w8.heap.size w8 y34 := By33.trans (by34.mono By33.size)
        have D6y34 := D6y33.next by34
        clear by34 hr
        refine ⟨trivial, ?_⟩
        simp only [Act.put, List.getElem_toArray, List.getElem_cons_zero, List.getElem_cons_succ, List.setIfInBounds_toArray, List.set_cons_zero, List.set_cons_succ]
        refine relist #[true, true, true, true, true, false, true, false] (by kernel_rfl) ?_
        refine any_one (i := 5) (by kernel_rfl) ?_
        refine wpOp_call (f := 17) (args := #[.slice kp km kc, .slice p4 n4 c4]) rfl rfl (by go_simp) ?_
        refine (annalTag_any KS HS y34 (HTc.out.below By34) kp p4 km kc n4 c4 K (Z32 ++ entryP es 0) (HKc.out.below By34) I4y34).mono ?_
        rintro e y35 ⟨rfl, by35⟩
        rw [HTG.out]
        have By35 : Below w8.heap.size w8 y35 := By34.trans (by35.mono By34.size)
        have D6y35 := D6y34.next by35
        clear by35
        refine ⟨_, rfl, trivial, ?_⟩
        simp only [Act.put, List.getElem_toArray, List.getElem_cons_zero, List.getElem_cons_succ, List.setIfInBounds_toArray, List.set_cons_zero, List.set_cons_succ]
        refine relist #[true, true, true, true, true, true, true, false] (by kernel_rfl) ?_
        refine any_one (i := 7) (by kernel_rfl) ?_
        refine wpOp_store_D rfl rfl (.tmp 18) (.tmp 89) rfl gd TG rfl rfl Z32 D6y35 hTGl ?_
        intro X hX
        have xD : Hid (Dg X gd TG) := hX.dg hTGl
        have xB : Hid (Below w8.heap.size w8 X) := hX.below _ _ h6 By35
        refine ⟨trivial, ?_⟩
        simp only [Act.put, List.getElem_toArray, List.getElem_cons_zero, List.getElem_cons_succ, List.setIfInBounds_toArray, List.set_cons_zero, List.set_cons_succ]
        refine wpAnyH_done (by kernel_rfl) ?_ _
        refine NoPanic.normal ?_
        clear hX D6y35 By35
        go_wp2_with fail
        go_meet
        case rel => exact ⟨gd, rfl, xD.out, xB.out⟩
    · refine wpOp_val (v := .pointer (some ⟨y0.heap.size, 0, none⟩)) (w' := y0.alloc (.cells Z8x32 25)) rfl rfl (by unfold Z8x32; go_simp <;> rfl) ?_
      have by37 : Below y0.heap.size y0 (y0.alloc (.cells Z8x32 25)) := (Below.refl _ _).alloc (Nat.le_refl _) _
      have D6y37 : Dg (y0.alloc (.cells Z8x32 25)) y0.heap.size Z32 := Dg.new _ _ rfl
      have h6 : w8.heap.size ≤ y0.heap.size := By0.size
      refine ⟨trivial, ?_⟩
      simp only [Act.put, List.getElem_toArray, List.getElem_cons_zero, List.getElem_cons_succ, List.setIfInBounds_toArray, List.set_cons_zero, List.set_cons_succ]
      obtain ⟨y37, ey37⟩ : ∃ W, y0.alloc (.cells Z8x32 25) = W := ⟨_, rfl⟩
      obtain ⟨gd, egd⟩ : ∃ gd, y0.heap.size = gd := ⟨_, rfl⟩
      rw [ey37] at by37 D6y37
      rw [egd] at D6y37 h6
      have By37 : Below w8.heap.size w8 y37 := By0.trans (by37.mono By0.size)
      rw [ey37, egd]
      clear ey37 egd by37
      refine relist #[true, false, true, false, false, false, true, false] (by kernel_rfl) ?_
      refine any_two (i := 1) (j := 3) (by kernel_rfl) ?_ ?_
      · refine wpOp_val (v := .slice (some ⟨y37.heap.size, 0, none⟩) 32 32) (w' := y37.alloc (.cells Z8x32 5)) rfl rfl (by have e := make32 y37; go_simp) ?_
        have by38 : Below y37.heap.size y37 (y37.alloc (.cells Z8x32 5)) := (Below.refl _ _).alloc (Nat.le_refl _) _
        have hy38 := heapN y37 (.cells Z8x32 5) _ rfl
        refine ⟨trivial, ?_⟩
        simp only [Act.put, List.getElem_toArray, List.getElem_cons_zero, List.getElem_cons_succ, List.setIfInBounds_toArray, List.set_cons_zero, List.set_cons_succ]
        obtain ⟨y38, ey38⟩ : ∃ W, y37.alloc (.cells Z8x32 5) = W := ⟨_, rfl⟩
        obtain ⟨gm, egm⟩ : ∃ gm, y37.heap.size = gm := ⟨_, rfl⟩
        rw [ey38] at by38 hy38
        rw [egm] at hy38
        have By38 : Below w8.heap.size w8 y38 := By37.trans (by38.mono By37.size)
        have D6y38 := D6y37.next by38
        have I1y38 : In8 y38 (some ⟨gm, 0, none⟩) 32 32 Z32 := in8_blk (xs := Z32) rfl Z32_bytes (by omega) hy38
        rw [ey38, egm]
        clear ey38 egm by38 hy38
        refine relist #[true, true, true, false, false, false, true, false] (by kernel_rfl) ?_
        refine any_one (i := 3) (by kernel_rfl) ?_
        refine wpOp_call (f := 45) (args := #[.slice p n c, .int .i64 0]) rfl rfl (by go_simp) ?_
        refine (entry_any y38 p n c es (HEc.out.below By38) 0 (by omega)).mono ?_
        rintro e y39 ⟨q, m, d, rfl, I3y39, hm3, by39⟩
        have By39 : Below w8.heap.size w8 y39 := By38.trans (by39.mono By38.size)
        have I1y39 := I1y38.below by39
        have D6y39 := D6y38.next by39
        clear by39
        refine ⟨_, rfl, trivial, ?_⟩
        simp only [Act.put, List.getElem_toArray, List.getElem_cons_zero, List.getElem_cons_succ, List.setIfInBounds_toArray, List.set_cons_zero, List.set_cons_succ]
        refine relist #[true, true, true, true, false, false, true, false] (by kernel_rfl) ?_
        refine any_one (i := 4) (by kernel_rfl) ?_
        obtain ⟨p4, n4, c4, y40, hr, I4y40, by40⟩ := app_full y39 gm Z32 I1y39 q m d (entryP es 0) I3y39 (by omega) 22
        refine wpOp_app rfl rfl (.tmp 85) (.tmp 87) 22 22 rfl (.slice (some ⟨gm, 0, none⟩) 32 32) (.slice q m d) rfl rfl hr ?_
        have By40 : Below w8.heap.size w8 y40 := By39.trans (by40.mono By39.size)
        have D6y40 := D6y39.next by40
        clear by40 hr
        refine ⟨trivial, ?_⟩
        simp only [Act.put, List.getElem_toArray, List.getElem_cons_zero, List.getElem_cons_succ, List.setIfInBounds_toArray, List.set_cons_zero, List.set_cons_succ]
        refine relist #[true, true, true, true, true, false, true, false] (by kernel_rfl) ?_
        refine any_one (i := 5) (by kernel_rfl) ?_
        refine wpOp_call (f := 17) (args := #[.slice kp km kc, .slice p4 n4 c4]) rfl rfl (by go_simp) ?_
        refine (annalTag_any KS HS y40 (HTc.out.below By40) kp p4 km kc n4 c4 K (Z32 ++ entryP es 0) (HKc.out.below By40) I4y40).mono ?_
        rintro e y41 ⟨rfl, by41⟩
        rw [HTG.out]
        have By41 : Below w8.heap.size w8 y41 := By40.trans (by41.mono By40.size)
        have D6y41 := D6y40.next by41
        clear by41
        refine ⟨_, rfl, trivial, ?_⟩
        simp only [Act.put, List.getElem_toArray, List.getElem_cons_zero, List.getElem_cons_succ, List.setIfInBounds_toArray, List.set_cons_zero, List.set_cons_succ]
        refine relist #[true, true, true, true, true, true, true, false] (by kernel_rfl) ?_
        refine any_one (i := 7) (by kernel_rfl) ?_
        refine wpOp_store_D rfl rfl (.tmp 18) (.tmp 89) rfl gd TG rfl rfl Z32 D6y41 hTGl ?_
        intro X hX
        have xD : Hid (Dg X gd TG) := hX.dg hTGl
        have xB : Hid (Below w8.heap.size w8 X) := hX.below _ _ h6 By41
        refine ⟨trivial, ?_⟩
        simp only [Act.put, List.getElem_toArray, List.getElem_cons_zero, List.getElem_cons_succ, List.setIfInBounds_toArray, List.set_cons_zero, List.set_cons_succ]
        refine wpAnyH_done (by kernel_rfl) ?_ _
        refine NoPanic.normal ?_
        clear hX D6y41 By41
        go_wp2_with fail
        go_meet
        case rel => exact ⟨gd, rfl, xD.out, xB.out⟩
      · refine wpOp_call (f := 45) (args := #[.slice p n c, .int .i64 0]) rfl rfl (by go_simp) ?_
        refine (entry_any y37 p n c es (HEc.out.below By37) 0 (by omega)).mono ?_
        rintro e y43 ⟨q, m, d, rfl, I3y43, hm3, by43⟩
        have By43 : Below w8.heap.size w8 y43 := By37.trans (by43.mono By37.size)
        have D6y43 := D6y37.next by43
        clear by43
        refine ⟨_, rfl, trivial, ?_⟩
        simp only [Act.put, List.getElem_toArray, List.getElem_cons_zero, List.getElem_cons_succ, List.setIfInBounds_toArray, List.set_cons_zero, List.set_cons_succ]
        refine relist #[true, false, true, true, false, false, true, false] (by kernel_rfl) ?_
        refine any_one (i := 1) (by kernel_rfl) ?_
        refine wpOp_val (v := .slice (some ⟨y43.heap.size, 0, none⟩) 32 32) (w' := y43.alloc (.cells Z8x32 5)) rfl rfl (by have e := make32 y43; go_simp) ?_
        have by44 : Below y43.heap.size y43 (y43.alloc (.cells Z8x32 5)) := (Below.refl _ _).alloc (Nat.le_refl _) _
        have hy44 := heapN y43 (.cells Z8x32 5) _ rfl
        refine ⟨trivial, ?_⟩
        simp only [Act.put, List.getElem_toArray, List.getElem_cons_zero, List.getElem_cons_succ, List.setIfInBounds_toArray, List.set_cons_zero, List.set_cons_succ]
        obtain ⟨y44, ey44⟩ : ∃ W, y43.alloc (.cells Z8x32 5) = W := ⟨_, rfl⟩
        obtain ⟨gm, egm⟩ : ∃ gm, y43.heap.size = gm := ⟨_, rfl⟩
        rw [ey44] at by44 hy44
        rw [egm] at hy44
        have By44 : Below w8.heap.size w8 y44 := By43.trans (by44.mono By43.size)
        have I3y44 := I3y43.below by44
        have D6y44 := D6y43.next by44
        have I1y44 : In8 y44 (some ⟨gm, 0, none⟩) 32 32 Z32 := in8_blk (xs := Z32) rfl Z32_bytes (by omega) hy44
        rw [ey44, egm]
        clear ey44 egm by44 hy44
        refine relist #[true, true, true, true, false, false, true, false] (by kernel_rfl) ?_
        refine any_one (i := 4) (by kernel_rfl) ?_
        obtain ⟨p4, n4, c4, y45, hr, I4y45, by45⟩ := app_full y44 gm Z32 I1y44 q m d (entryP es 0) I3y44 (by omega) 22
        refine wpOp_app rfl rfl (.tmp 85) (.tmp 87) 22 22 rfl (.slice (some ⟨gm, 0, none⟩) 32 32) (.slice q m d) rfl rfl hr ?_
        have By45 : Below w8.heap.size w8 y45 := By44.trans (by45.mono By44.size)
        have D6y45 := D6y44.next by45
        clear by45 hr
        refine ⟨trivial, ?_⟩
        simp only [Act.put, List.getElem_toArray, List.getElem_cons_zero, List.getElem_cons_succ, List.setIfInBounds_toArray, List.set_cons_zero, List.set_cons_succ]
        refine relist #[true, true, true, true, true, false, true, false] (by kernel_rfl) ?_
        refine any_one (i := 5) (by kernel_rfl) ?_
        refine wpOp_call (f := 17) (args := #[.slice kp km kc, .slice p4 n4 c4]) rfl rfl (by go_simp) ?_
        refine (annalTag_any KS HS y45 (HTc.out.below By45) kp p4 km kc n4 c4 K (Z32 ++ entryP es 0) (HKc.out.below By45) I4y45).mono ?_
        rintro e y46 ⟨rfl, by46⟩
        rw [HTG.out]
        have By46 : Below w8.heap.size w8 y46 := By45.trans (by46.mono By45.size)
        have D6y46 := D6y45.next by46
        clear by46
        refine ⟨_, rfl, trivial, ?_⟩
        simp only [Act.put, List.getElem_toArray, List.getElem_cons_zero, List.getElem_cons_succ, List.setIfInBounds_toArray, List.set_cons_zero, List.set_cons_succ]
        refine relist #[true, true, true, true, true, true, true, false] (by kernel_rfl) ?_
        refine any_one (i := 7) (by kernel_rfl) ?_
        refine wpOp_store_D rfl rfl (.tmp 18) (.tmp 89) rfl gd TG rfl rfl Z32 D6y46 hTGl ?_
        intro X hX
        have xD : Hid (Dg X gd TG) := hX.dg hTGl
        have xB : Hid (Below w8.heap.size w8 X) := hX.below _ _ h6 By46
        refine ⟨trivial, ?_⟩
        simp only [Act.put, List.getElem_toArray, List.getElem_cons_zero, List.getElem_cons_succ, List.setIfInBounds_toArray, List.set_cons_zero, List.set_cons_succ]
        refine wpAnyH_done (by kernel_rfl) ?_ _
        refine NoPanic.normal ?_
        clear hX D6y46 By46
        go_wp2_with fail
        go_meet
        case rel => exact ⟨gd, rfl, xD.out, xB.out⟩
  case rest =>
    obtain ⟨gd1, rfl, dC, bC⟩ := hcut
    have dC' : Hid (Dg wc gd1 TG) := dC
    have HEd : Hid (EN wc p n c es) := HEc.out.below bC
    have HTd : Hid (Tabs KS HS wc) := HTc.out.below bC
    have HMd : Hid (In8 wc op om oc M) := HMc.out.below bC
    have HB9 : Hid (Below w.heap.size w wc) := HB8.out.trans (bC.mono HB8.out.size)
    clear dC bC HEc HTc HKc HMc HB8
    have HEc := HEd
    have HTc := HTd
    obtain ⟨wA, hwA⟩ : ∃ wA, wc = wA := ⟨_, rfl⟩
    rw [hwA] at dC' HEc HTc HMd HB9 ⊢
    clear hwA HEd HTd
    go_wp2_with fail
    go_cut [19] (fun s19 wd => ∃ gd, s19 = .pointer (some ⟨gd, 0, none⟩) ∧ Dg wd gd TH ∧ Below wA.heap.size wA wd)
    case first =>
      refine wp_region_noPanic ?_
      refine wp_region_held (S := fun _ => True) follows ?_
      refine wpAnyH_take (i := 0) (v := .slice op om oc) rfl (by kernel_rfl) (by kernel_rfl) (by kernel_rfl) (fun _ _ _ h => h) (.inl ⟨rfl, fun W _ => by go_simp⟩) trivial ?_
      simp only [Act.put, List.getElem_toArray, List.getElem_cons_zero, List.getElem_cons_succ, List.setIfInBounds_toArray, List.set_cons_zero, List.set_cons_succ]
      refine wpAnyH_take (i := 2) (v := .slice p n c) rfl (by kernel_rfl) (by kernel_rfl) (by kernel_rfl) (fun _ _ _ h => h) (.inl ⟨rfl, fun W _ => by go_simp⟩) trivial ?_
      simp only [Act.put, List.getElem_toArray, List.getElem_cons_zero, List.getElem_cons_succ, List.setIfInBounds_toArray, List.set_cons_zero, List.set_cons_succ]
      have By0 : Below wA.heap.size wA wA.drew := (Below.refl _ _).drew
      obtain ⟨y0, ey0⟩ : ∃ W, wA.drew = W := ⟨_, rfl⟩
      refine reworld (w' := wA.drew) rfl ?_
      rw [ey0] at By0 ⊢
      clear ey0
      refine relist #[true, false, true, false, false, false, false, false] (by kernel_rfl) ?_
      refine any_three (i := 1) (j := 3) (l := 6) (by kernel_rfl) ?_ ?_ ?_
      · refine wpOp_val (v := .slice (some ⟨y0.heap.size, 0, none⟩) 32 32) (w' := y0.alloc (.cells Z8x32 5)) rfl rfl (by have e := make32 y0; go_simp) ?_
        have by1 : Below y0.heap.size y0 (y0.alloc (.cells Z8x32 5)) := (Below.refl _ _).alloc (Nat.le_refl _) _
        have hy1 := heapN y0 (.cells Z8x32 5) _ rfl
        refine ⟨trivial, ?_⟩
        simp only [Act.put, List.getElem_toArray, List.getElem_cons_zero, List.getElem_cons_succ, List.setIfInBounds_toArray, List.set_cons_zero, List.set_cons_succ]
        obtain ⟨y1, ey1⟩ : ∃ W, y0.alloc (.cells Z8x32 5) = W := ⟨_, rfl⟩
        obtain ⟨gm, egm⟩ : ∃ gm, y0.heap.size = gm := ⟨_, rfl⟩
        rw [ey1] at by1 hy1
        rw [egm] at hy1
        have By1 : Below wA.heap.size wA y1 := By0.trans (by1.mono By0.size)
        have I1y1 : In8 y1 (some ⟨gm, 0, none⟩) 32 32 Z32 := in8_blk (xs := Z32) rfl Z32_bytes (by omega) hy1
        rw [ey1, egm]
        clear ey1 egm by1 hy1
        refine relist #[true, true, true, false, false, false, false, false] (by kernel_rfl) ?_
        refine any_two (i := 3) (j := 6) (by kernel_rfl) ?_ ?_
        · refine wpOp_call (f := 45) (args := #[.slice p n c, .int .i64 0]) rfl rfl (by go_simp) ?_
          refine (entry_any y1 p n c es (HEc.out.below By1) 0 (by omega)).mono ?_
          rintro e y2 ⟨q, m, d, rfl, I3y2, hm3, by2⟩
          have By2 : Below wA.heap.size wA y2 := By1.trans (by2.mono By1.size)
          have I1y2 := I1y1.below by2
          clear by2
          refine ⟨_, rfl, trivial, ?_⟩
          simp only [Act.put, List.getElem_toArray, List.getElem_cons_zero, List.getElem_cons_succ, List.setIfInBounds_toArray, List.set_cons_zero, List.set_cons_succ]
          refine relist #[true, true, true, true, false, false, false, false] (by kernel_rfl) ?_
          refine any_two (i := 4) (j := 6) (by kernel_rfl) ?_ ?_
          · obtain ⟨p4, n4, c4, y3, hr, I4y3, by3⟩ := app_full y2 gm Z32 I1y2 q m d (entryP es 0) I3y2 (by omega) 22
            refine wpOp_app rfl rfl (.tmp 91) (.tmp 93) 22 22 rfl (.slice (some ⟨gm, 0, none⟩) 32 32) (.slice q m d) rfl rfl hr ?_
            have By3 : Below wA.heap.size wA y3 := By2.trans (by3.mono By2.size)
            clear by3 hr
            refine ⟨trivial, ?_⟩
            simp only [Act.put, List.getElem_toArray, List.getElem_cons_zero, List.getElem_cons_succ, List.setIfInBounds_toArray, List.set_cons_zero, List.set_cons_succ]
            refine relist #[true, true, true, true, true, false, false, false] (by kernel_rfl) ?_
            refine any_two (i := 5) (j := 6) (by kernel_rfl) ?_ ?_
            · refine wpOp_call (f := 17) (args := #[.slice op om oc, .slice p4 n4 c4]) rfl rfl (by go_simp) ?_
              refine (annalTag_any KS HS y3 (HTc.out.below By3) op p4 om oc n4 c4 M (Z32 ++ entryP es 0) (HMd.out.below By3) I4y3).mono ?_
              rintro e y4 ⟨rfl, by4⟩
              rw [HTH.out]
              have By4 : Below wA.heap.size wA y4 := By3.trans (by4.mono By3.size)
              clear by4
              refine ⟨_, rfl, trivial, ?_⟩
              simp only [Act.put, List.getElem_toArray, List.getElem_cons_zero, List.getElem_cons_succ, List.setIfInBounds_toArray, List.set_cons_zero, List.set_cons_succ]
              refine relist #[true, true, true, true, true, true, false, false] (by kernel_rfl) ?_
              refine any_one (i := 6) (by kernel_rfl) ?_
              refine wpOp_val (v := .pointer (some ⟨y4.heap.size, 0, none⟩)) (w' := y4.alloc (.cells Z8x32 25)) rfl rfl (by unfold Z8x32; go_simp <;> rfl) ?_
              have by5 : Below y4.heap.size y4 (y4.alloc (.cells Z8x32 25)) := (Below.refl _ _).alloc (Nat.le_refl _) _
              have D6y5 : Dg (y4.alloc (.cells Z8x32 25)) y4.heap.size Z32 := Dg.new _ _ rfl
              have h6 : wA.heap.size ≤ y4.heap.size := By4.size
              refine ⟨trivial, ?_⟩
              simp only [Act.put, List.getElem_toArray, List.getElem_cons_zero, List.getElem_cons_succ, List.setIfInBounds_toArray, List.set_cons_zero, List.set_cons_succ]
              obtain ⟨y5, ey5⟩ : ∃ W, y4.alloc (.cells Z8x32 25) = W := ⟨_, rfl⟩
              obtain ⟨gd, egd⟩ : ∃ gd, y4.heap.size = gd := ⟨_, rfl⟩
              rw [ey5] at by5 D6y5
              rw [egd] at D6y5 h6
              have By5 : Below wA.heap.size wA y5 := By4.trans (by5.mono By4.size)
              rw [ey5, egd]
              clear ey5 egd by5
              refine relist #[true, true, true, true, true, true, true, false] (by kernel_rfl) ?_
              refine any_one (i := 7) (by kernel_rfl) ?_
              refine wpOp_store_D rfl rfl (.tmp 19) (.tmp 95) rfl gd TH rfl rfl Z32 D6y5 hTHl ?_
              intro X hX
              have xD : Hid (Dg X gd TH) := hX.dg hTHl
              have xB : Hid (Below wA.heap.size wA X) := hX.below _ _ h6 By5
              refine ⟨trivial, ?_⟩
              simp only [Act.put, List.getElem_toArray, List.getElem_cons_zero, List.getElem_cons_succ, List.setIfInBounds_toArray, List.set_cons_zero, List.set_cons_succ]
              refine wpAnyH_done (by kernel_rfl) ?_ _
              refine NoPanic.normal ?_
              clear hX D6y5 By5
              go_wp2_with fail
              go_meet
              case rel => exact ⟨gd, rfl, xD.out, xB.out⟩
            · refine wpOp_val (v := .pointer (some ⟨y3.heap.size, 0, none⟩)) (w' := y3.alloc (.cells Z8x32 25)) rfl rfl (by unfold Z8x32; go_simp <;> rfl) ?_
              have by7 : Below y3.heap.size y3 (y3.alloc (.cells Z8x32 25)) := (Below.refl _ _).alloc (Nat.le_refl _) _
              have D6y7 : Dg (y3.alloc (.cells Z8x32 25)) y3.heap.size Z32 := Dg.new _ _ rfl
              have h6 : wA.heap.size ≤ y3.heap.size := By3.size
              refine ⟨trivial, ?_⟩
              simp only [Act.put, List.getElem_toArray, List.getElem_cons_zero, List.getElem_cons_succ, List.setIfInBounds_toArray, List.set_cons_zero, List.set_cons_succ]
              obtain ⟨y7, ey7⟩ : ∃ W, y3.alloc (.cells Z8x32 25) = W := ⟨_, rfl⟩
              obtain ⟨gd, egd⟩ : ∃ gd, y3.heap.size = gd := ⟨_, rfl⟩
              rw [ey7] at by7 D6y7
              rw [egd] at D6y7 h6
              have By7 : Below wA.heap.size wA y7 := By3.trans (by7.mono By3.size)
              have I4y7 := I4y3.below by7
              rw [ey7, egd]
              clear ey7 egd by7
              refine relist #[true, true, true, true, true, false, true, false] (by kernel_rfl) ?_
              refine any_one (i := 5) (by kernel_rfl) ?_
              refine wpOp_call (f := 17) (args := #[.slice op om oc, .slice p4 n4 c4]) rfl rfl (by go_simp) ?_
              refine (annalTag_any KS HS y7 (HTc.out.below By7) op p4 om oc n4 c4 M (Z32 ++ entryP es 0) (HMd.out.below By7) I4y7).mono ?_
              rintro e y8 ⟨rfl, by8⟩
              rw [HTH.out]
              have By8 : Below wA.heap.size wA y8 := By7.trans (by8.mono By7.size)
              have D6y8 := D6y7.next by8
              clear by8
              refine ⟨_, rfl, trivial, ?_⟩
              simp only [Act.put, List.getElem_toArray, List.getElem_cons_zero, List.getElem_cons_succ, List.setIfInBounds_toArray, List.set_cons_zero, List.set_cons_succ]
              refine relist #[true, true, true, true, true, true, true, false] (by kernel_rfl) ?_
              refine any_one (i := 7) (by kernel_rfl) ?_
              refine wpOp_store_D rfl rfl (.tmp 19) (.tmp 95) rfl gd TH rfl rfl Z32 D6y8 hTHl ?_
              intro X hX
              have xD : Hid (Dg X gd TH) := hX.dg hTHl
              have xB : Hid (Below wA.heap.size wA X) := hX.below _ _ h6 By8
              refine ⟨trivial, ?_⟩
              simp only [Act.put, List.getElem_toArray, List.getElem_cons_zero, List.getElem_cons_succ, List.setIfInBounds_toArray, List.set_cons_zero, List.set_cons_succ]
              refine wpAnyH_done (by kernel_rfl) ?_ _
              refine NoPanic.normal ?_
              clear hX D6y8 By8
              go_wp2_with fail
              go_meet
              case rel => exact ⟨gd, rfl, xD.out, xB.out⟩
          · refine wpOp_val (v := .pointer (some ⟨y2.heap.size, 0, none⟩)) (w' := y2.alloc (.cells Z8x32 25)) rfl rfl (by unfold Z8x32; go_simp <;> rfl) ?_
            have by10 : Below y2.heap.size y2 (y2.alloc (.cells Z8x32 25)) := (Below.refl _ _).alloc (Nat.le_refl _) _
            have D6y10 : Dg (y2.alloc (.cells Z8x32 25)) y2.heap.size Z32 := Dg.new _ _ rfl
            have h6 : wA.heap.size ≤ y2.heap.size := By2.size
            refine ⟨trivial, ?_⟩
            simp only [Act.put, List.getElem_toArray, List.getElem_cons_zero, List.getElem_cons_succ, List.setIfInBounds_toArray, List.set_cons_zero, List.set_cons_succ]
            obtain ⟨y10, ey10⟩ : ∃ W, y2.alloc (.cells Z8x32 25) = W := ⟨_, rfl⟩
            obtain ⟨gd, egd⟩ : ∃ gd, y2.heap.size = gd := ⟨_, rfl⟩
            rw [ey10] at by10 D6y10
            rw [egd] at D6y10 h6
            have By10 : Below wA.heap.size wA y10 := By2.trans (by10.mono By2.size)
            have I1y10 := I1y2.below by10
            have I3y10 := I3y2.below by10
            rw [ey10, egd]
            clear ey10 egd by10
            refine relist #[true, true, true, true, false, false, true, false] (by kernel_rfl) ?_
            refine any_one (i := 4) (by kernel_rfl) ?_
            obtain ⟨p4, n4, c4, y11, hr, I4y11, by11⟩ := app_full y10 gm Z32 I1y10 q m d (entryP es 0) I3y10 (by omega) 22
            refine wpOp_app rfl rfl (.tmp 91) (.tmp 93) 22 22 rfl (.slice (some ⟨gm, 0, none⟩) 32 32) (.slice q m d) rfl rfl hr ?_
            have By11 : Below wA.heap.size wA y11 := By10.trans (by11.mono By10.size)
            have D6y11 := D6y10.next by11
            clear by11 hr
            refine ⟨trivial, ?_⟩
            simp only [Act.put, List.getElem_toArray, List.getElem_cons_zero, List.getElem_cons_succ, List.setIfInBounds_toArray, List.set_cons_zero, List.set_cons_succ]
            refine relist #[true, true, true, true, true, false, true, false] (by kernel_rfl) ?_
            refine any_one (i := 5) (by kernel_rfl) ?_
            refine wpOp_call (f := 17) (args := #[.slice op om oc, .slice p4 n4 c4]) rfl rfl (by go_simp) ?_
            refine (annalTag_any KS HS y11 (HTc.out.below By11) op p4 om oc n4 c4 M (Z32 ++ entryP es 0) (HMd.out.below By11) I4y11).mono ?_
            rintro e y12 ⟨rfl, by12⟩
            rw [HTH.out]
            have By12 : Below wA.heap.size wA y12 := By11.trans (by12.mono By11.size)
            have D6y12 := D6y11.next by12
            clear by12
            refine ⟨_, rfl, trivial, ?_⟩
            simp only [Act.put, List.getElem_toArray, List.getElem_cons_zero, List.getElem_cons_succ, List.setIfInBounds_toArray, List.set_cons_zero, List.set_cons_succ]
            refine relist #[true, true, true, true, true, true, true, false] (by kernel_rfl) ?_
            refine any_one (i := 7) (by kernel_rfl) ?_
            refine wpOp_store_D rfl rfl (.tmp 19) (.tmp 95) rfl gd TH rfl rfl Z32 D6y12 hTHl ?_
            intro X hX
            have xD : Hid (Dg X gd TH) := hX.dg hTHl
            have xB : Hid (Below wA.heap.size wA X) := hX.below _ _ h6 By12
            refine ⟨trivial, ?_⟩
            simp only [Act.put, List.getElem_toArray, List.getElem_cons_zero, List.getElem_cons_succ, List.setIfInBounds_toArray, List.set_cons_zero, List.set_cons_succ]
            refine wpAnyH_done (by kernel_rfl) ?_ _
            refine NoPanic.normal ?_
            clear hX D6y12 By12
            go_wp2_with fail
            go_meet
            case rel => exact ⟨gd, rfl, xD.out, xB.out⟩
        · refine wpOp_val (v := .pointer (some ⟨y1.heap.size, 0, none⟩)) (w' := y1.alloc (.cells Z8x32 25)) rfl rfl (by unfold Z8x32; go_simp <;> rfl) ?_
          have by14 : Below y1.heap.size y1 (y1.alloc (.cells Z8x32 25)) := (Below.refl _ _).alloc (Nat.le_refl _) _
          have D6y14 : Dg (y1.alloc (.cells Z8x32 25)) y1.heap.size Z32 := Dg.new _ _ rfl
          have h6 : wA.heap.size ≤ y1.heap.size := By1.size
          refine ⟨trivial, ?_⟩
          simp only [Act.put, List.getElem_toArray, List.getElem_cons_zero, List.getElem_cons_succ, List.setIfInBounds_toArray, List.set_cons_zero, List.set_cons_succ]
          obtain ⟨y14, ey14⟩ : ∃ W, y1.alloc (.cells Z8x32 25) = W := ⟨_, rfl⟩
          obtain ⟨gd, egd⟩ : ∃ gd, y1.heap.size = gd := ⟨_, rfl⟩
          rw [ey14] at by14 D6y14
          rw [egd] at D6y14 h6
          have By14 : Below wA.heap.size wA y14 := By1.trans (by14.mono By1.size)
          have I1y14 := I1y1.below by14
          rw [ey14, egd]
          clear ey14 egd by14
          refine relist #[true, true, true, false, false, false, true, false] (by kernel_rfl) ?_
          refine any_one (i := 3) (by kernel_rfl) ?_
          refine wpOp_call (f := 45) (args := #[.slice p n c, .int .i64 0]) rfl rfl (by go_simp) ?_
          refine (entry_any y14 p n c es (HEc.out.below By14) 0 (by omega)).mono ?_
          rintro e y15 ⟨q, m, d, rfl, I3y15, hm3, by15⟩
          have By15 : Below wA.heap.size wA y15 := By14.trans (by15.mono By14.size)
          have I1y15 := I1y14.below by15
          have D6y15 := D6y14.next by15
          clear by15
          refine ⟨_, rfl, trivial, ?_⟩
          simp only [Act.put, List.getElem_toArray, List.getElem_cons_zero, List.getElem_cons_succ, List.setIfInBounds_toArray, List.set_cons_zero, List.set_cons_succ]
          refine relist #[true, true, true, true, false, false, true, false] (by kernel_rfl) ?_
          refine any_one (i := 4) (by kernel_rfl) ?_
          obtain ⟨p4, n4, c4, y16, hr, I4y16, by16⟩ := app_full y15 gm Z32 I1y15 q m d (entryP es 0) I3y15 (by omega) 22
          refine wpOp_app rfl rfl (.tmp 91) (.tmp 93) 22 22 rfl (.slice (some ⟨gm, 0, none⟩) 32 32) (.slice q m d) rfl rfl hr ?_
          have By16 : Below wA.heap.size wA y16 := By15.trans (by16.mono By15.size)
          have D6y16 := D6y15.next by16
          clear by16 hr
          refine ⟨trivial, ?_⟩
          simp only [Act.put, List.getElem_toArray, List.getElem_cons_zero, List.getElem_cons_succ, List.setIfInBounds_toArray, List.set_cons_zero, List.set_cons_succ]
          refine relist #[true, true, true, true, true, false, true, false] (by kernel_rfl) ?_
          refine any_one (i := 5) (by kernel_rfl) ?_
          refine wpOp_call (f := 17) (args := #[.slice op om oc, .slice p4 n4 c4]) rfl rfl (by go_simp) ?_
          refine (annalTag_any KS HS y16 (HTc.out.below By16) op p4 om oc n4 c4 M (Z32 ++ entryP es 0) (HMd.out.below By16) I4y16).mono ?_
          rintro e y17 ⟨rfl, by17⟩
          rw [HTH.out]
          have By17 : Below wA.heap.size wA y17 := By16.trans (by17.mono By16.size)
          have D6y17 := D6y16.next by17
          clear by17
          refine ⟨_, rfl, trivial, ?_⟩
          simp only [Act.put, List.getElem_toArray, List.getElem_cons_zero, List.getElem_cons_succ, List.setIfInBounds_toArray, List.set_cons_zero, List.set_cons_succ]
          refine relist #[true, true, true, true, true, true, true, false] (by kernel_rfl) ?_
          refine any_one (i := 7) (by kernel_rfl) ?_
          refine wpOp_store_D rfl rfl (.tmp 19) (.tmp 95) rfl gd TH rfl rfl Z32 D6y17 hTHl ?_
          intro X hX
          have xD : Hid (Dg X gd TH) := hX.dg hTHl
          have xB : Hid (Below wA.heap.size wA X) := hX.below _ _ h6 By17
          refine ⟨trivial, ?_⟩
          simp only [Act.put, List.getElem_toArray, List.getElem_cons_zero, List.getElem_cons_succ, List.setIfInBounds_toArray, List.set_cons_zero, List.set_cons_succ]
          refine wpAnyH_done (by kernel_rfl) ?_ _
          refine NoPanic.normal ?_
          clear hX D6y17 By17
          go_wp2_with fail
          go_meet
          case rel => exact ⟨gd, rfl, xD.out, xB.out⟩
      · refine wpOp_call (f := 45) (args := #[.slice p n c, .int .i64 0]) rfl rfl (by go_simp) ?_
        refine (entry_any y0 p n c es (HEc.out.below By0) 0 (by omega)).mono ?_
        rintro e y19 ⟨q, m, d, rfl, I3y19, hm3, by19⟩
        have By19 : Below wA.heap.size wA y19 := By0.trans (by19.mono By0.size)
        clear by19
        refine ⟨_, rfl, trivial, ?_⟩
        simp only [Act.put, List.getElem_toArray, List.getElem_cons_zero, List.getElem_cons_succ, List.setIfInBounds_toArray, List.set_cons_zero, List.set_cons_succ]
        refine relist #[true, false, true, true, false, false, false, false] (by kernel_rfl) ?_
        refine any_two (i := 1) (j := 6) (by kernel_rfl) ?_ ?_
        · refine wpOp_val (v := .slice (some ⟨y19.heap.size, 0, none⟩) 32 32) (w' := y19.alloc (.cells Z8x32 5)) rfl rfl (by have e := make32 y19; go_simp) ?_
          have by20 : Below y19.heap.size y19 (y19.alloc (.cells Z8x32 5)) := (Below.refl _ _).alloc (Nat.le_refl _) _
          have hy20 := heapN y19 (.cells Z8x32 5) _ rfl
          refine ⟨trivial, ?_⟩
          simp only [Act.put, List.getElem_toArray, List.getElem_cons_zero, List.getElem_cons_succ, List.setIfInBounds_toArray, List.set_cons_zero, List.set_cons_succ]
          obtain ⟨y20, ey20⟩ : ∃ W, y19.alloc (.cells Z8x32 5) = W := ⟨_, rfl⟩
          obtain ⟨gm, egm⟩ : ∃ gm, y19.heap.size = gm := ⟨_, rfl⟩
          rw [ey20] at by20 hy20
          rw [egm] at hy20
          have By20 : Below wA.heap.size wA y20 := By19.trans (by20.mono By19.size)
          have I3y20 := I3y19.below by20
          have I1y20 : In8 y20 (some ⟨gm, 0, none⟩) 32 32 Z32 := in8_blk (xs := Z32) rfl Z32_bytes (by omega) hy20
          rw [ey20, egm]
          clear ey20 egm by20 hy20
          refine relist #[true, true, true, true, false, false, false, false] (by kernel_rfl) ?_
          refine any_two (i := 4) (j := 6) (by kernel_rfl) ?_ ?_
          · obtain ⟨p4, n4, c4, y21, hr, I4y21, by21⟩ := app_full y20 gm Z32 I1y20 q m d (entryP es 0) I3y20 (by omega) 22
            refine wpOp_app rfl rfl (.tmp 91) (.tmp 93) 22 22 rfl (.slice (some ⟨gm, 0, none⟩) 32 32) (.slice q m d) rfl rfl hr ?_
            have By21 : Below wA.heap.size wA y21 := By20.trans (by21.mono By20.size)
            clear by21 hr
            refine ⟨trivial, ?_⟩
            simp only [Act.put, List.getElem_toArray, List.getElem_cons_zero, List.getElem_cons_succ, List.setIfInBounds_toArray, List.set_cons_zero, List.set_cons_succ]
            refine relist #[true, true, true, true, true, false, false, false] (by kernel_rfl) ?_
            refine any_two (i := 5) (j := 6) (by kernel_rfl) ?_ ?_
            · refine wpOp_call (f := 17) (args := #[.slice op om oc, .slice p4 n4 c4]) rfl rfl (by go_simp) ?_
              refine (annalTag_any KS HS y21 (HTc.out.below By21) op p4 om oc n4 c4 M (Z32 ++ entryP es 0) (HMd.out.below By21) I4y21).mono ?_
              rintro e y22 ⟨rfl, by22⟩
              rw [HTH.out]
              have By22 : Below wA.heap.size wA y22 := By21.trans (by22.mono By21.size)
              clear by22
              refine ⟨_, rfl, trivial, ?_⟩
              simp only [Act.put, List.getElem_toArray, List.getElem_cons_zero, List.getElem_cons_succ, List.setIfInBounds_toArray, List.set_cons_zero, List.set_cons_succ]
              refine relist #[true, true, true, true, true, true, false, false] (by kernel_rfl) ?_
              refine any_one (i := 6) (by kernel_rfl) ?_
              refine wpOp_val (v := .pointer (some ⟨y22.heap.size, 0, none⟩)) (w' := y22.alloc (.cells Z8x32 25)) rfl rfl (by unfold Z8x32; go_simp <;> rfl) ?_
              have by23 : Below y22.heap.size y22 (y22.alloc (.cells Z8x32 25)) := (Below.refl _ _).alloc (Nat.le_refl _) _
              have D6y23 : Dg (y22.alloc (.cells Z8x32 25)) y22.heap.size Z32 := Dg.new _ _ rfl
              have h6 : wA.heap.size ≤ y22.heap.size := By22.size
              refine ⟨trivial, ?_⟩
              simp only [Act.put, List.getElem_toArray, List.getElem_cons_zero, List.getElem_cons_succ, List.setIfInBounds_toArray, List.set_cons_zero, List.set_cons_succ]
              obtain ⟨y23, ey23⟩ : ∃ W, y22.alloc (.cells Z8x32 25) = W := ⟨_, rfl⟩
              obtain ⟨gd, egd⟩ : ∃ gd, y22.heap.size = gd := ⟨_, rfl⟩
              rw [ey23] at by23 D6y23
              rw [egd] at D6y23 h6
              have By23 : Below wA.heap.size wA y23 := By22.trans (by23.mono By22.size)
              rw [ey23, egd]
              clear ey23 egd by23
              refine relist #[true, true, true, true, true, true, true, false] (by kernel_rfl) ?_
              refine any_one (i := 7) (by kernel_rfl) ?_
              refine wpOp_store_D rfl rfl (.tmp 19) (.tmp 95) rfl gd TH rfl rfl Z32 D6y23 hTHl ?_
              intro X hX
              have xD : Hid (Dg X gd TH) := hX.dg hTHl
              have xB : Hid (Below wA.heap.size wA X) := hX.below _ _ h6 By23
              refine ⟨trivial, ?_⟩
              simp only [Act.put, List.getElem_toArray, List.getElem_cons_zero, List.getElem_cons_succ, List.setIfInBounds_toArray, List.set_cons_zero, List.set_cons_succ]
              refine wpAnyH_done (by kernel_rfl) ?_ _
              refine NoPanic.normal ?_
              clear hX D6y23 By23
              go_wp2_with fail
              go_meet
              case rel => exact ⟨gd, rfl, xD.out, xB.out⟩
            · refine wpOp_val (v := .pointer (some ⟨y21.heap.size, 0, none⟩)) (w' := y21.alloc (.cells Z8x32 25)) rfl rfl (by unfold Z8x32; go_simp <;> rfl) ?_
              have by25 : Below y21.heap.size y21 (y21.alloc (.cells Z8x32 25)) := (Below.refl _ _).alloc (Nat.le_refl _) _
              have D6y25 : Dg (y21.alloc (.cells Z8x32 25)) y21.heap.size Z32 := Dg.new _ _ rfl
              have h6 : wA.heap.size ≤ y21.heap.size := By21.size
              refine ⟨trivial, ?_⟩
              simp only [Act.put, List.getElem_toArray, List.getElem_cons_zero, List.getElem_cons_succ, List.setIfInBounds_toArray, List.set_cons_zero, List.set_cons_succ]
              obtain ⟨y25, ey25⟩ : ∃ W, y21.alloc (.cells Z8x32 25) = W := ⟨_, rfl⟩
              obtain ⟨gd, egd⟩ : ∃ gd, y21.heap.size = gd := ⟨_, rfl⟩
              rw [ey25] at by25 D6y25
              rw [egd] at D6y25 h6
              have By25 : Below wA.heap.size wA y25 := By21.trans (by25.mono By21.size)
              have I4y25 := I4y21.below by25
              rw [ey25, egd]
              clear ey25 egd by25
              refine relist #[true, true, true, true, true, false, true, false] (by kernel_rfl) ?_
              refine any_one (i := 5) (by kernel_rfl) ?_
              refine wpOp_call (f := 17) (args := #[.slice op om oc, .slice p4 n4 c4]) rfl rfl (by go_simp) ?_
              refine (annalTag_any KS HS y25 (HTc.out.below By25) op p4 om oc n4 c4 M (Z32 ++ entryP es 0) (HMd.out.below By25) I4y25).mono ?_
              rintro e y26 ⟨rfl, by26⟩
              rw [HTH.out]
              have By26 : Below wA.heap.size wA y26 := By25.trans (by26.mono By25.size)
              have D6y26 := D6y25.next by26
              clear by26
              refine ⟨_, rfl, trivial, ?_⟩
              simp only [Act.put, List.getElem_toArray, List.getElem_cons_zero, List.getElem_cons_succ, List.setIfInBounds_toArray, List.set_cons_zero, List.set_cons_succ]
              refine relist #[true, true, true, true, true, true, true, false] (by kernel_rfl) ?_
              refine any_one (i := 7) (by kernel_rfl) ?_
              refine wpOp_store_D rfl rfl (.tmp 19) (.tmp 95) rfl gd TH rfl rfl Z32 D6y26 hTHl ?_
              intro X hX
              have xD : Hid (Dg X gd TH) := hX.dg hTHl
              have xB : Hid (Below wA.heap.size wA X) := hX.below _ _ h6 By26
              refine ⟨trivial, ?_⟩
              simp only [Act.put, List.getElem_toArray, List.getElem_cons_zero, List.getElem_cons_succ, List.setIfInBounds_toArray, List.set_cons_zero, List.set_cons_succ]
              refine wpAnyH_done (by kernel_rfl) ?_ _
              refine NoPanic.normal ?_
              clear hX D6y26 By26
              go_wp2_with fail
              go_meet
              case rel => exact ⟨gd, rfl, xD.out, xB.out⟩
          · refine wpOp_val (v := .pointer (some ⟨y20.heap.size, 0, none⟩)) (w' := y20.alloc (.cells Z8x32 25)) rfl rfl (by unfold Z8x32; go_simp <;> rfl) ?_
            have by28 : Below y20.heap.size y20 (y20.alloc (.cells Z8x32 25)) := (Below.refl _ _).alloc (Nat.le_refl _) _
            have D6y28 : Dg (y20.alloc (.cells Z8x32 25)) y20.heap.size Z32 := Dg.new _ _ rfl
            have h6 : wA.heap.size ≤ y20.heap.size := By20.size
            refine ⟨trivial, ?_⟩
            simp only [Act.put, List.getElem_toArray, List.getElem_cons_zero, List.getElem_cons_succ, List.setIfInBounds_toArray, List.set_cons_zero, List.set_cons_succ]
            obtain ⟨y28, ey28⟩ : ∃ W, y20.alloc (.cells Z8x32 25) = W := ⟨_, rfl⟩
            obtain ⟨gd, egd⟩ : ∃ gd, y20.heap.size = gd := ⟨_, rfl⟩
            rw [ey28] at by28 D6y28
            rw [egd] at D6y28 h6
            have By28 : Below wA.heap.size wA y28 := By20.trans (by28.mono By20.size)
            have I1y28 := I1y20.below by28
            have I3y28 := I3y20.below by28
            rw [ey28, egd]
            clear ey28 egd by28
            refine relist #[true, true, true, true, false, false, true, false] (by kernel_rfl) ?_
            refine any_one (i := 4) (by kernel_rfl) ?_
            obtain ⟨p4, n4, c4, y29, hr, I4y29, by29⟩ := app_full y28 gm Z32 I1y28 q m d (entryP es 0) I3y28 (by omega) 22
            refine wpOp_app rfl rfl (.tmp 91) (.tmp 93) 22 22 rfl (.slice (some ⟨gm, 0, none⟩) 32 32) (.slice q m d) rfl rfl hr ?_
            have By29 : Below wA.heap.size wA y29 := By28.trans (by29.mono By28.size)
            have D6y29 := D6y28.next by29
            clear by29 hr
            refine ⟨trivial, ?_⟩
            simp only [Act.put, List.getElem_toArray, List.getElem_cons_zero, List.getElem_cons_succ, List.setIfInBounds_toArray, List.set_cons_zero, List.set_cons_succ]
            refine relist #[true, true, true, true, true, false, true, false] (by kernel_rfl) ?_
            refine any_one (i := 5) (by kernel_rfl) ?_
            refine wpOp_call (f := 17) (args := #[.slice op om oc, .slice p4 n4 c4]) rfl rfl (by go_simp) ?_
            refine (annalTag_any KS HS y29 (HTc.out.below By29) op p4 om oc n4 c4 M (Z32 ++ entryP es 0) (HMd.out.below By29) I4y29).mono ?_
            rintro e y30 ⟨rfl, by30⟩
            rw [HTH.out]
            have By30 : Below wA.heap.size wA y30 := By29.trans (by30.mono By29.size)
            have D6y30 := D6y29.next by30
            clear by30
            refine ⟨_, rfl, trivial, ?_⟩
            simp only [Act.put, List.getElem_toArray, List.getElem_cons_zero, List.getElem_cons_succ, List.setIfInBounds_toArray, List.set_cons_zero, List.set_cons_succ]
            refine relist #[true, true, true, true, true, true, true, false] (by kernel_rfl) ?_
            refine any_one (i := 7) (by kernel_rfl) ?_
            refine wpOp_store_D rfl rfl (.tmp 19) (.tmp 95) rfl gd TH rfl rfl Z32 D6y30 hTHl ?_
            intro X hX
            have xD : Hid (Dg X gd TH) := hX.dg hTHl
            have xB : Hid (Below wA.heap.size wA X) := hX.below _ _ h6 By30
            refine ⟨trivial, ?_⟩
            simp only [Act.put, List.getElem_toArray, List.getElem_cons_zero, List.getElem_cons_succ, List.setIfInBounds_toArray, List.set_cons_zero, List.set_cons_succ]
            refine wpAnyH_done (by kernel_rfl) ?_ _
            refine NoPanic.normal ?_
            clear hX D6y30 By30
            go_wp2_with fail
            go_meet
            case rel => exact ⟨gd, rfl, xD.out, xB.out⟩
        · refine wpOp_val (v := .pointer (some ⟨y19.heap.size, 0, none⟩)) (w' := y19.alloc (.cells Z8x32 25)) rfl rfl (by unfold Z8x32; go_simp <;> rfl) ?_
          have by32 : Below y19.heap.size y19 (y19.alloc (.cells Z8x32 25)) := (Below.refl _ _).alloc (Nat.le_refl _) _
          have D6y32 : Dg (y19.alloc (.cells Z8x32 25)) y19.heap.size Z32 := Dg.new _ _ rfl
          have h6 : wA.heap.size ≤ y19.heap.size := By19.size
          refine ⟨trivial, ?_⟩
          simp only [Act.put, List.getElem_toArray, List.getElem_cons_zero, List.getElem_cons_succ, List.setIfInBounds_toArray, List.set_cons_zero, List.set_cons_succ]
          obtain ⟨y32, ey32⟩ : ∃ W, y19.alloc (.cells Z8x32 25) = W := ⟨_, rfl⟩
          obtain ⟨gd, egd⟩ : ∃ gd, y19.heap.size = gd := ⟨_, rfl⟩
          rw [ey32] at by32 D6y32
          rw [egd] at D6y32 h6
          have By32 : Below wA.heap.size wA y32 := By19.trans (by32.mono By19.size)
          have I3y32 := I3y19.below by32
          rw [ey32, egd]
          clear ey32 egd by32
          refine relist #[true, false, true, true, false, false, true, false] (by kernel_rfl) ?_
          refine any_one (i := 1) (by kernel_rfl) ?_
          refine wpOp_val (v := .slice (some ⟨y32.heap.size, 0, none⟩) 32 32) (w' := y32.alloc (.cells Z8x32 5)) rfl rfl (by have e := make32 y32; go_simp) ?_
          have by33 : Below y32.heap.size y32 (y32.alloc (.cells Z8x32 5)) := (Below.refl _ _).alloc (Nat.le_refl _) _
          have hy33 := heapN y32 (.cells Z8x32 5) _ rfl
          refine ⟨trivial, ?_⟩
          simp only [Act.put, List.getElem_toArray, List.getElem_cons_zero, List.getElem_cons_succ, List.setIfInBounds_toArray, List.set_cons_zero, List.set_cons_succ]
          obtain ⟨y33, ey33⟩ : ∃ W, y32.alloc (.cells Z8x32 5) = W := ⟨_, rfl⟩
          obtain ⟨gm, egm⟩ : ∃ gm, y32.heap.size = gm := ⟨_, rfl⟩
          rw [ey33] at by33 hy33
          rw [egm] at hy33
          have By33 : Below wA.heap.size wA y33 := By32.trans (by33.mono By32.size)
          have I3y33 := I3y32.below by33
          have D6y33 := D6y32.next by33
          have I1y33 : In8 y33 (some ⟨gm, 0, none⟩) 32 32 Z32 := in8_blk (xs := Z32) rfl Z32_bytes (by omega) hy33
          rw [ey33, egm]
          clear ey33 egm by33 hy33
          refine relist #[true, true, true, true, false, false, true, false] (by kernel_rfl) ?_
          refine any_one (i := 4) (by kernel_rfl) ?_
          obtain ⟨p4, n4, c4, y34, hr, I4y34, by34⟩ := app_full y33 gm Z32 I1y33 q m d (entryP es 0) I3y33 (by omega) 22
          refine wpOp_app rfl rfl (.tmp 91) (.tmp 93) 22 22 rfl (.slice (some ⟨gm, 0, none⟩) 32 32) (.slice q m d) rfl rfl hr ?_
          have By34 : Below wA.heap.size wA y34 := By33.trans (by34.mono By33.size)
          have D6y34 := D6y33.next by34
          clear by34 hr
          refine ⟨trivial, ?_⟩
          simp only [Act.put, List.getElem_toArray, List.getElem_cons_zero, List.getElem_cons_succ, List.setIfInBounds_toArray, List.set_cons_zero, List.set_cons_succ]
          refine relist #[true, true, true, true, true, false, true, false] (by kernel_rfl) ?_
          refine any_one (i := 5) (by kernel_rfl) ?_
          refine wpOp_call (f := 17) (args := #[.slice op om oc, .slice p4 n4 c4]) rfl rfl (by go_simp) ?_
          refine (annalTag_any KS HS y34 (HTc.out.below By34) op p4 om oc n4 c4 M (Z32 ++ entryP es 0) (HMd.out.below By34) I4y34).mono ?_
          rintro e y35 ⟨rfl, by35⟩
          rw [HTH.out]
          have By35 : Below wA.heap.size wA y35 := By34.trans (by35.mono By34.size)
          have D6y35 := D6y34.next by35
          clear by35
          refine ⟨_, rfl, trivial, ?_⟩
          simp only [Act.put, List.getElem_toArray, List.getElem_cons_zero, List.getElem_cons_succ, List.setIfInBounds_toArray, List.set_cons_zero, List.set_cons_succ]
          refine relist #[true, true, true, true, true, true, true, false] (by kernel_rfl) ?_
          refine any_one (i := 7) (by kernel_rfl) ?_
          refine wpOp_store_D rfl rfl (.tmp 19) (.tmp 95) rfl gd TH rfl rfl Z32 D6y35 hTHl ?_
          intro X hX
          have xD : Hid (Dg X gd TH) := hX.dg hTHl
          have xB : Hid (Below wA.heap.size wA X) := hX.below _ _ h6 By35
          refine ⟨trivial, ?_⟩
          simp only [Act.put, List.getElem_toArray, List.getElem_cons_zero, List.getElem_cons_succ, List.setIfInBounds_toArray, List.set_cons_zero, List.set_cons_succ]
          refine wpAnyH_done (by kernel_rfl) ?_ _
          refine NoPanic.normal ?_
          clear hX D6y35 By35
          go_wp2_with fail
          go_meet
          case rel => exact ⟨gd, rfl, xD.out, xB.out⟩
      · refine wpOp_val (v := .pointer (some ⟨y0.heap.size, 0, none⟩)) (w' := y0.alloc (.cells Z8x32 25)) rfl rfl (by unfold Z8x32; go_simp <;> rfl) ?_
        have by37 : Below y0.heap.size y0 (y0.alloc (.cells Z8x32 25)) := (Below.refl _ _).alloc (Nat.le_refl _) _
        have D6y37 : Dg (y0.alloc (.cells Z8x32 25)) y0.heap.size Z32 := Dg.new _ _ rfl
        have h6 : wA.heap.size ≤ y0.heap.size := By0.size
        refine ⟨trivial, ?_⟩
        simp only [Act.put, List.getElem_toArray, List.getElem_cons_zero, List.getElem_cons_succ, List.setIfInBounds_toArray, List.set_cons_zero, List.set_cons_succ]
        obtain ⟨y37, ey37⟩ : ∃ W, y0.alloc (.cells Z8x32 25) = W := ⟨_, rfl⟩
        obtain ⟨gd, egd⟩ : ∃ gd, y0.heap.size = gd := ⟨_, rfl⟩
        rw [ey37] at by37 D6y37
        rw [egd] at D6y37 h6
        have By37 : Below wA.heap.size wA y37 := By0.trans (by37.mono By0.size)
        rw [ey37, egd]
        clear ey37 egd by37
        refine relist #[true, false, true, false, false, false, true, false] (by kernel_rfl) ?_
        refine any_two (i := 1) (j := 3) (by kernel_rfl) ?_ ?_
        · refine wpOp_val (v := .slice (some ⟨y37.heap.size, 0, none⟩) 32 32) (w' := y37.alloc (.cells Z8x32 5)) rfl rfl (by have e := make32 y37; go_simp) ?_
          have by38 : Below y37.heap.size y37 (y37.alloc (.cells Z8x32 5)) := (Below.refl _ _).alloc (Nat.le_refl _) _
          have hy38 := heapN y37 (.cells Z8x32 5) _ rfl
          refine ⟨trivial, ?_⟩
          simp only [Act.put, List.getElem_toArray, List.getElem_cons_zero, List.getElem_cons_succ, List.setIfInBounds_toArray, List.set_cons_zero, List.set_cons_succ]
          obtain ⟨y38, ey38⟩ : ∃ W, y37.alloc (.cells Z8x32 5) = W := ⟨_, rfl⟩
          obtain ⟨gm, egm⟩ : ∃ gm, y37.heap.size = gm := ⟨_, rfl⟩
          rw [ey38] at by38 hy38
          rw [egm] at hy38
          have By38 : Below wA.heap.size wA y38 := By37.trans (by38.mono By37.size)
          have D6y38 := D6y37.next by38
          have I1y38 : In8 y38 (some ⟨gm, 0, none⟩) 32 32 Z32 := in8_blk (xs := Z32) rfl Z32_bytes (by omega) hy38
          rw [ey38, egm]
          clear ey38 egm by38 hy38
          refine relist #[true, true, true, false, false, false, true, false] (by kernel_rfl) ?_
          refine any_one (i := 3) (by kernel_rfl) ?_
          refine wpOp_call (f := 45) (args := #[.slice p n c, .int .i64 0]) rfl rfl (by go_simp) ?_
          refine (entry_any y38 p n c es (HEc.out.below By38) 0 (by omega)).mono ?_
          rintro e y39 ⟨q, m, d, rfl, I3y39, hm3, by39⟩
          have By39 : Below wA.heap.size wA y39 := By38.trans (by39.mono By38.size)
          have I1y39 := I1y38.below by39
          have D6y39 := D6y38.next by39
          clear by39
          refine ⟨_, rfl, trivial, ?_⟩
          simp only [Act.put, List.getElem_toArray, List.getElem_cons_zero, List.getElem_cons_succ, List.setIfInBounds_toArray, List.set_cons_zero, List.set_cons_succ]
          refine relist #[true, true, true, true, false, false, true, false] (by kernel_rfl) ?_
          refine any_one (i := 4) (by kernel_rfl) ?_
          obtain ⟨p4, n4, c4, y40, hr, I4y40, by40⟩ := app_full y39 gm Z32 I1y39 q m d (entryP es 0) I3y39 (by omega) 22
          refine wpOp_app rfl rfl (.tmp 91) (.tmp 93) 22 22 rfl (.slice (some ⟨gm, 0, none⟩) 32 32) (.slice q m d) rfl rfl hr ?_
          have By40 : Below wA.heap.size wA y40 := By39.trans (by40.mono By39.size)
          have D6y40 := D6y39.next by40
          clear by40 hr
          refine ⟨trivial, ?_⟩
          simp only [Act.put, List.getElem_toArray, List.getElem_cons_zero, List.getElem_cons_succ, List.setIfInBounds_toArray, List.set_cons_zero, List.set_cons_succ]
          refine relist #[true, true, true, true, true, false, true, false] (by kernel_rfl) ?_
          refine any_one (i := 5) (by kernel_rfl) ?_
          refine wpOp_call (f := 17) (args := #[.slice op om oc, .slice p4 n4 c4]) rfl rfl (by go_simp) ?_
          refine (annalTag_any KS HS y40 (HTc.out.below By40) op p4 om oc n4 c4 M (Z32 ++ entryP es 0) (HMd.out.below By40) I4y40).mono ?_
          rintro e y41 ⟨rfl, by41⟩
          rw [HTH.out]
          have By41 : Below wA.heap.size wA y41 := By40.trans (by41.mono By40.size)
          have D6y41 := D6y40.next by41
          clear by41
          refine ⟨_, rfl, trivial, ?_⟩
          simp only [Act.put, List.getElem_toArray, List.getElem_cons_zero, List.getElem_cons_succ, List.setIfInBounds_toArray, List.set_cons_zero, List.set_cons_succ]
          refine relist #[true, true, true, true, true, true, true, false] (by kernel_rfl) ?_
          refine any_one (i := 7) (by kernel_rfl) ?_
          refine wpOp_store_D rfl rfl (.tmp 19) (.tmp 95) rfl gd TH rfl rfl Z32 D6y41 hTHl ?_
          intro X hX
          have xD : Hid (Dg X gd TH) := hX.dg hTHl
          have xB : Hid (Below wA.heap.size wA X) := hX.below _ _ h6 By41
          refine ⟨trivial, ?_⟩
          simp only [Act.put, List.getElem_toArray, List.getElem_cons_zero, List.getElem_cons_succ, List.setIfInBounds_toArray, List.set_cons_zero, List.set_cons_succ]
          refine wpAnyH_done (by kernel_rfl) ?_ _
          refine NoPanic.normal ?_
          clear hX D6y41 By41
          go_wp2_with fail
          go_meet
          case rel => exact ⟨gd, rfl, xD.out, xB.out⟩
        · refine wpOp_call (f := 45) (args := #[.slice p n c, .int .i64 0]) rfl rfl (by go_simp) ?_
          refine (entry_any y37 p n c es (HEc.out.below By37) 0 (by omega)).mono ?_
          rintro e y43 ⟨q, m, d, rfl, I3y43, hm3, by43⟩
          have By43 : Below wA.heap.size wA y43 := By37.trans (by43.mono By37.size)
          have D6y43 := D6y37.next by43
          clear by43
          refine ⟨_, rfl, trivial, ?_⟩
          simp only [Act.put, List.getElem_toArray, List.getElem_cons_zero, List.getElem_cons_succ, List.setIfInBounds_toArray, List.set_cons_zero, List.set_cons_succ]
          refine relist #[true, false, true, true, false, false, true, false] (by kernel_rfl) ?_
          refine any_one (i := 1) (by kernel_rfl) ?_
          refine wpOp_val (v := .slice (some ⟨y43.heap.size, 0, none⟩) 32 32) (w' := y43.alloc (.cells Z8x32 5)) rfl rfl (by have e := make32 y43; go_simp) ?_
          have by44 : Below y43.heap.size y43 (y43.alloc (.cells Z8x32 5)) := (Below.refl _ _).alloc (Nat.le_refl _) _
          have hy44 := heapN y43 (.cells Z8x32 5) _ rfl
          refine ⟨trivial, ?_⟩
          simp only [Act.put, List.getElem_toArray, List.getElem_cons_zero, List.getElem_cons_succ, List.setIfInBounds_toArray, List.set_cons_zero, List.set_cons_succ]
          obtain ⟨y44, ey44⟩ : ∃ W, y43.alloc (.cells Z8x32 5) = W := ⟨_, rfl⟩
          obtain ⟨gm, egm⟩ : ∃ gm, y43.heap.size = gm := ⟨_, rfl⟩
          rw [ey44] at by44 hy44
          rw [egm] at hy44
          have By44 : Below wA.heap.size wA y44 := By43.trans (by44.mono By43.size)
          have I3y44 := I3y43.below by44
          have D6y44 := D6y43.next by44
          have I1y44 : In8 y44 (some ⟨gm, 0, none⟩) 32 32 Z32 := in8_blk (xs := Z32) rfl Z32_bytes (by omega) hy44
          rw [ey44, egm]
          clear ey44 egm by44 hy44
          refine relist #[true, true, true, true, false, false, true, false] (by kernel_rfl) ?_
          refine any_one (i := 4) (by kernel_rfl) ?_
          obtain ⟨p4, n4, c4, y45, hr, I4y45, by45⟩ := app_full y44 gm Z32 I1y44 q m d (entryP es 0) I3y44 (by omega) 22
          refine wpOp_app rfl rfl (.tmp 91) (.tmp 93) 22 22 rfl (.slice (some ⟨gm, 0, none⟩) 32 32) (.slice q m d) rfl rfl hr ?_
          have By45 : Below wA.heap.size wA y45 := By44.trans (by45.mono By44.size)
          have D6y45 := D6y44.next by45
          clear by45 hr
          refine ⟨trivial, ?_⟩
          simp only [Act.put, List.getElem_toArray, List.getElem_cons_zero, List.getElem_cons_succ, List.setIfInBounds_toArray, List.set_cons_zero, List.set_cons_succ]
          refine relist #[true, true, true, true, true, false, true, false] (by kernel_rfl) ?_
          refine any_one (i := 5) (by kernel_rfl) ?_
          refine wpOp_call (f := 17) (args := #[.slice op om oc, .slice p4 n4 c4]) rfl rfl (by go_simp) ?_
          refine (annalTag_any KS HS y45 (HTc.out.below By45) op p4 om oc n4 c4 M (Z32 ++ entryP es 0) (HMd.out.below By45) I4y45).mono ?_
          rintro e y46 ⟨rfl, by46⟩
          rw [HTH.out]
          have By46 : Below wA.heap.size wA y46 := By45.trans (by46.mono By45.size)
          have D6y46 := D6y45.next by46
          clear by46
          refine ⟨_, rfl, trivial, ?_⟩
          simp only [Act.put, List.getElem_toArray, List.getElem_cons_zero, List.getElem_cons_succ, List.setIfInBounds_toArray, List.set_cons_zero, List.set_cons_succ]
          refine relist #[true, true, true, true, true, true, true, false] (by kernel_rfl) ?_
          refine any_one (i := 7) (by kernel_rfl) ?_
          refine wpOp_store_D rfl rfl (.tmp 19) (.tmp 95) rfl gd TH rfl rfl Z32 D6y46 hTHl ?_
          intro X hX
          have xD : Hid (Dg X gd TH) := hX.dg hTHl
          have xB : Hid (Below wA.heap.size wA X) := hX.below _ _ h6 By46
          refine ⟨trivial, ?_⟩
          simp only [Act.put, List.getElem_toArray, List.getElem_cons_zero, List.getElem_cons_succ, List.setIfInBounds_toArray, List.set_cons_zero, List.set_cons_succ]
          refine wpAnyH_done (by kernel_rfl) ?_ _
          refine NoPanic.normal ?_
          clear hX D6y46 By46
          go_wp2_with fail
          go_meet
          case rel => exact ⟨gd, rfl, xD.out, xB.out⟩
    case rest =>
      obtain ⟨gd2, rfl, dD, bD⟩ := hcut
      have d1 : Hid (Dg wc gd1 TG) := dC'.out.next bD
      have d2 : Hid (Dg wc gd2 TH) := dD
      have BE : Hid (Below w.heap.size w wc) := HB9.out.trans (bD.mono HB9.out.size)
      clear dD bD dC' HB9 HEc HTc HMd
      by_cases htt : TG = TH
      · have HD : Hid ((!decide (TG = TH)) = false) := by show _ = _; rw [decide_eq_true htt]; rfl
        have hem : em = 0 ∨ em = 4 := by have h := HLK.out; rw [HEM.out] at h; exact h
        clear htt HLF HLK HX2 HEM HPM
        rcases hem with rfl | rfl
        all_goals (go_wp2_with (first
          | (with_reducible refine atLoad 25 ?_
             first
               | refine load_D rfl (.tmp 18) rfl gd1 rfl TG d1.out ?_
               | refine load_D rfl (.tmp 19) rfl gd2 rfl TH d2.out ?_)
          | (with_reducible refine atBin .neq 25 25 ?_
             refine wpList_neq rfl (.tmp 96) (.tmp 97) rfl TG TH hTGl hTGb hTHl hTHb rfl rfl ?_
             rw [HD.out])))
        all_goals go_ret
        all_goals exact ⟨rfl, BE.out⟩
      · have HD : Hid ((!decide (TG = TH)) = true) := by show _ = _; rw [decide_eq_false htt]; rfl
        have hlp := HLF.out htt
        have hem : em = 4 := by rw [← HEM.out, hlp]
        have hpm : pm = 0 := by rw [← HPM.out, hlp]
        have hxv : xv = .pointer none := HX2.out (by rw [hlp]; decide)
        subst hem
        subst hpm
        subst hxv
        clear htt HLF HLK HX2 HEM HPM hlp
        go_wp2_with (first
          | (with_reducible refine atLoad 25 ?_
             first
               | refine load_D rfl (.tmp 18) rfl gd1 rfl TG d1.out ?_
               | refine load_D rfl (.tmp 19) rfl gd2 rfl TH d2.out ?_)
          | (with_reducible refine atBin .neq 25 25 ?_
             refine wpList_neq rfl (.tmp 96) (.tmp 97) rfl TG TH hTGl hTGb hTHl hTHb rfl rfl ?_
             rw [HD.out]))
        go_ret
        exact ⟨rfl, BE.out⟩
end Go.Proofs.YtcmjlhcpoajbkaaDoor
