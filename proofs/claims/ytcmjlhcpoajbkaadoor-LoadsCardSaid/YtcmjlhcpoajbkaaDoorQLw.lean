import Derived.Test.YtcmjlhcpoajbkaaDoorQRw
import Derived.Test.YtcmjlhcpoajbkaaDoorQLs
namespace Go.Proofs.YtcmjlhcpoajbkaaDoor
set_option maxRecDepth 10000
set_option linter.unusedSimpArgs false
open Go.RowKit
theorem ix22 (g n c k : Nat) (hk : k < n) (W : World) : (Instr.indexAt 22 (.slice (some ⟨g, 0, none⟩) n c) (.int .i64 k)).run Tryd.prog W = .ok (.pointer (some ⟨g, k, none⟩)) W := by
  have h1 : (k : Int) < n := by omega
  go_simp
set_option maxHeartbeats 20000000 in
theorem loads_any (v0 : Value) (xs : List Int) (f : List UInt8) (w : World) (hT : Tabs KS HS w) (h0 : Arg w v0 xs) (hf : f.length ≤ 140737488355328) :
    Calls Tryd.prog 8 #[v0, .string ⟨f.toArray⟩] w fun e w' => e = .returned (.bool true) ∧ Below w.heap.size w w' := by
  have hsm := h0.small
  have hxb := h0.bytes
  have H0 : Hid (Arg w v0 xs) := h0
  have HTb : Hid (Tabs KS HS w) := hT
  clear h0 hT
  go_enter Tryd.func8, Tryd.ntmps8
  go_wp2_with fail
  refine (alive_any _ HTb.out).mono ?_
  rintro e w1 ⟨rfl, b1⟩
  have B1 : Below w.heap.size w w1 := b1
  clear b1
  go_wp2_with fail
  refine (roomyW_any (H0.out.below B1)).mono ?_
  rintro e w2 ⟨p, n, cap, rfl, b2, hP, hI, hR⟩
  have B2 := B1.trans (b2.mono B1.size)
  have HP : Hid (Pair w2 v0 p n cap xs) := hP
  have HI : Hid (In8 w2 p n cap xs) := hI
  have HR : Hid (Rowy w2 w1.heap.size p n) := hR
  have hIl := hI.len
  have hIf := hI.fits
  have hIr := hI.room
  have hs1 := B1.size
  have hpl : Hid (∀ k, Of p k → w1.heap.size ≤ k ∧ k < w2.heap.size) := fun k hk => hR.of hk
  clear hP hI hR b2 B1
  obtain ⟨LP, hLP⟩ : ∃ LP, loadQ xs f = LP := ⟨_, rfl⟩
  have HLP : Hid (loadQ xs f = LP) := hLP
  have HE4 : Hid (LP.2.1 = 0 ∨ LP.2.1 = 2 ∨ LP.2.1 = 3 ∨ LP.2.1 = 4) := by rw [← hLP]; exact loadQ_err _ _
  have HFt : Hid (Fit LP.1) := by rw [← hLP]; exact loadQ_fit _ _
  have HSh : Hid ((LP.2.1 = 0 ∨ LP.2.1 = 3) → xs.length ≤ 100) := by rw [← hLP]; exact loadQ_short _ _
  clear hLP
  obtain ⟨E, m, pl⟩ := LP
  have HE4' : Hid (m = 0 ∨ m = 2 ∨ m = 3 ∨ m = 4) := HE4.out
  have HF : Hid (Fit E) := HFt.out
  have HS' : Hid ((m = 0 ∨ m = 3) → xs.length ≤ 100) := HSh.out
  clear HE4 HFt HSh
  go_wp2_with fail
  have hLd := loadQ_any w2 (HTb.out.below B2) p n cap xs HI.out f hf
  rw [HLP.out] at hLd
  refine hLd.mono ?_
  rintro e w3 ⟨lv, rfl, b3, hl1, hl2⟩
  have B3 := B2.trans (b3.mono B2.size)
  have HL1 : Hid ((m = 0 ∨ m = 3) → ∃ g ev, lv = .pointer (some ⟨g, 0, none⟩) ∧ LogAt w3 w2.heap.size g ev xs E) := hl1
  have HL2 : Hid (¬ (m = 0 ∨ m = 3) → lv = .pointer none) := hl2
  have HP3 : Hid (Pair w3 v0 p n cap xs) := HP.out.below b3
  have HR3 : Hid (Rowy w3 w1.heap.size p n) := HR.out.below b3
  have c3 := (H0.out.below B3).conv
  have hs2 : w2.heap.size ≤ w3.heap.size := b3.size
  clear hl1 hl2 hLd HI HP HR b3 B2
  go_wp2_with fail
  have hRd := refLoadQ_any w3 (toU xs) xs (toI_toU xs hxb) (by rw [toU_len]; omega) f hf
  rw [HLP.out] at hRd
  refine hRd.mono ?_
  rintro e w4 ⟨mv, rfl, b4, hm1⟩
  have B4 := B3.trans (b4.mono B3.size)
  have HM1 : Hid ((m = 0 ∨ m = 3) → w4.ownsRow w3.heap.size 9 1 mv E.length (E.map strV)) := hm1
  have HL4 : Hid ((m = 0 ∨ m = 3) → ∃ g ev, lv = .pointer (some ⟨g, 0, none⟩) ∧ LogAt w4 w2.heap.size g ev xs E) := fun h => by
    obtain ⟨g, ev, h1, h2⟩ := HL1.out h
    exact ⟨g, ev, h1, h2.below b4⟩
  have HP4 : Hid (Pair w4 v0 p n cap xs) := HP3.out.below b4
  have HR4 : Hid (Rowy w4 w1.heap.size p n) := HR3.out.below b4
  have hs3 : w3.heap.size ≤ w4.heap.size := b4.size
  clear hm1 hRd HL1 HP3 HR3 b4 B3 c3 HLP
  go_wp2_with fail
  refine (kept_any HP4.out).mono ?_
  rintro e w5 ⟨rfl, hw5⟩
  rw [hw5]
  clear hw5 w5
  go_wp2_with fail
  go_loopw [14] (fun i wr => ∃ j : Nat, j ≤ n ∧ i = .int .i64 j ∧ Kp (Of p) w4 wr ∧ Rowy wr w1.heap.size p n) (fun i _ => n - (intOf i).toNat)
  case atStart => exact ⟨0, by omega, rfl, ⟨rfl, rfl, rfl, Nat.le_refl _, fun _ _ _ => rfl⟩, HR4.out⟩
  case round =>
    obtain ⟨j, hj, rfl, hkp, hrw⟩ := hrel
    by_cases hjl : j < n
    · have hjl' : (j : Int) < n := by omega
      obtain ⟨g, cur, rfl, hg, hch, hcz⟩ := hrw.resolve_left (fun h => by omega)
      have hcj : wr.cell? ⟨g, j, none⟩ = some (cur[j]'(by omega)) := by rw [cell_of_row _ _ _ _ _ _ hch]; simp
      have hfj := frozen_of_row wr g j _ _ hch
      have hix := ix22 g n cap j hjl
      clear hrw
      go_wp2_with fail
      go_roundw
      case rel =>
        refine ⟨j + 1, by omega, by go_num, ⟨hkp.os, hkp.tape, hkp.output, by simpa using hkp.size, fun k hk hx => ?_⟩, .inr ⟨g, cur.setIfInBounds j (.int .u8 35), rfl, hg, heap_setCell_same wr g j _ _ _ hch, by simpa using hcz⟩⟩
        rw [Below.heap_setCell _ _ _ _ (by intro he; exact hx ⟨_, rfl, he.symm⟩)]
        exact hkp.block k hk hx
      case measure => first | (simp [intOf]; done) | (simp [intOf]; omega)
    · have ej : n = j := by omega
      subst ej
      have hjl' : ¬ (n : Int) < n := by omega
      have BK : Below w.heap.size w wr := hkp.below (fun k hk => by have := (hpl.out k hk).1; omega) B4.size B4
      have HLr : Hid ((m = 0 ∨ m = 3) → ∃ g ev, lv = .pointer (some ⟨g, 0, none⟩) ∧ LogAt wr w2.heap.size g ev xs E) := fun h => by
        obtain ⟨g, ev, h1, h2⟩ := HL4.out h
        exact ⟨g, ev, h1, h2.kp hkp (fun k hk => (hpl.out k hk).2)⟩
      have HMr : Hid ((m = 0 ∨ m = 3) → wr.ownsRow w3.heap.size 9 1 mv E.length (E.map strV)) := fun h =>
        owns_kp (HM1.out h) hkp (fun g hg hx => by
          have h1 := ((HM1.out h).lt g hg).1
          have h2 := (hpl.out g hx).2
          omega)
      clear HL4 HM1 HP4 HR4 hrw hkp B4 hpl
      go_upto_region 10 with fail
      go_cut [15] (fun s15 wc => s15 = .bool (decide (m = 0 ∨ m = 3)) ∧ wc = wr)
      case first =>
        rcases HE4'.out with h | h | h | h
        all_goals subst h
        all_goals (go_wp2_with fail)
        all_goals go_meet
        all_goals exact ⟨rfl, rfl⟩
      case rest =>
        obtain ⟨rfl, hwc⟩ := hcut
        subst hwc
        by_cases hm : m = 0 ∨ m = 3
        · rw [decide_eq_true hm]
          obtain ⟨g, ev, rfl, hLg⟩ := HLr.out hm
          have hO := HMr.out hm
          obtain ⟨mp, mc, rfl, hS⟩ := s59_of hO HF.out
          have hxl := HS'.out hm
          have HLg : Hid (LogAt wc w2.heap.size g ev xs E) := hLg
          have HS : Hid (S59 wc mp E.length mc E) := hS
          have hfit := hS.fits
          have hroom := hS.room
          have hfew := HF.out.1
          clear HLr HMr hLg hO hS HL2 hm HE4' HS'
          go_wp2_with fail
          refine (num_any m wc).mono ?_
          rintro e w6 ⟨rfl, hw6⟩
          rw [hw6]
          clear hw6 w6
          have cK := (H0.out.below BK).conv
          go_upto_region 16 with fail
          have bA : Below wc.heap.size wc (wc.alloc (.cells #[.string ⟨(toU xs).toArray⟩, .slice mp E.length mc] 61)) := (Below.refl _ _).alloc (Nat.le_refl _) _
          have hA := heapN wc (.cells #[.string ⟨(toU xs).toArray⟩, .slice mp E.length mc] 61) _ rfl
          have HLA : Hid (LogAt (wc.alloc (.cells #[.string ⟨(toU xs).toArray⟩, .slice mp E.length mc] 61)) w2.heap.size g ev xs E) := HLg.out.below bA
          have HSA : Hid (S59 (wc.alloc (.cells #[.string ⟨(toU xs).toArray⟩, .slice mp E.length mc] 61)) mp E.length mc E) := HS.out.below bA
          have BA : Below w.heap.size w (wc.alloc (.cells #[.string ⟨(toU xs).toArray⟩, .slice mp E.length mc] 61)) := BK.trans (bA.mono BK.size)
          have hcy : (wc.alloc (.cells #[.string ⟨(toU xs).toArray⟩, .slice mp E.length mc] 61)).cell? ⟨wc.heap.size, 0, none⟩ = some (.string ⟨(toU xs).toArray⟩) := by rw [cell_of_row _ _ _ _ _ _ hA]; rfl
          have hey : (wc.alloc (.cells #[.string ⟨(toU xs).toArray⟩, .slice mp E.length mc] 61)).cell? ⟨wc.heap.size, 1, none⟩ = some (.slice mp E.length mc) := by rw [cell_of_row _ _ _ _ _ _ hA]; rfl
          generalize wc.alloc (.cells #[.string ⟨(toU xs).toArray⟩, .slice mp E.length mc] 61) = V at *
          generalize wc.heap.size = gy at *
          have bD : Below V.heap.size V V.drew := (Below.refl _ _).drew
          have HLD : LogAt V.drew w2.heap.size g ev xs E := HLA.out.below bD
          have BD : Below w.heap.size w V.drew := BA.drew
          have S0 : V.drew.cell? ⟨gy, 0, none⟩ = some (.string ⟨(toU xs).toArray⟩) ∧ V.drew.cell? ⟨gy, 1, none⟩ = some (.slice mp E.length mc) := ⟨hcy, hey⟩
          have hrd : Hid (∀ W : World, Below V.heap.size V W → RefR W gy (toU xs) E) := fun W hW =>
            ⟨by rw [hW.cell (block_lt_of_cell hcy)]; exact hcy, ⟨mp, mc, by rw [hW.cell (block_lt_of_cell hey)]; exact hey, HSA.out.below hW⟩, hfew⟩
          have hss : (toU (saveP xs E) == toU (saveP xs E)) = true := by simp
          clear cK BK HLg HS bA hA
          refine wp_region_noPanic ?_
          refine wp_region_held (S := fun W => W.cell? ⟨gy, 0, none⟩ = some (.string ⟨(toU xs).toArray⟩) ∧ W.cell? ⟨gy, 1, none⟩ = some (.slice mp E.length mc)) follows ?_
          refine wpAnyH_take (i := 0) (v := .pointer (some ⟨g, 0, none⟩)) rfl (by kernel_rfl) (by kernel_rfl) (by kernel_rfl) (fun _ _ _ h => h) (.inl ⟨rfl, fun W _ => by go_simp⟩) S0 ?_
          simp only [Act.put, List.getElem_toArray, List.getElem_cons_zero, List.getElem_cons_succ, List.setIfInBounds_toArray, List.set_cons_zero, List.set_cons_succ]
          refine wpAnyH_take (i := 2) (v := .pointer (some ⟨gy, 0, none⟩)) rfl (by kernel_rfl) (by kernel_rfl) (by kernel_rfl) (fun _ _ _ h => h) (.inl ⟨rfl, fun W _ => by go_simp⟩) S0 ?_
          simp only [Act.put, List.getElem_toArray, List.getElem_cons_zero, List.getElem_cons_succ, List.setIfInBounds_toArray, List.set_cons_zero, List.set_cons_succ]
          refine relist #[true, false, true, false, false, false, false, false, false, false, false, false, false, false, false, false, false] (by kernel_rfl) ?_
          refine any_one (i := 1) (by kernel_rfl) ?_
          refine wpOp_call (f := 35) (args := #[.pointer (some ⟨g, 0, none⟩)]) rfl rfl (by go_simp) ?_
          refine (logHead_any V.drew g xs E (HTb.out.below BD) HLD.read).mono ?_
          rintro e y1 ⟨rfl, c1⟩
          have C1 : Below V.heap.size V y1 := bD.trans c1
          have HL1 : LogAt y1 w2.heap.size g ev xs E := HLA.out.below C1
          have S1 : y1.cell? ⟨gy, 0, none⟩ = some (.string ⟨(toU xs).toArray⟩) ∧ y1.cell? ⟨gy, 1, none⟩ = some (.slice mp E.length mc) := ⟨by rw [C1.cell (block_lt_of_cell hcy)]; exact hcy, by rw [C1.cell (block_lt_of_cell hey)]; exact hey⟩
          refine ⟨_, rfl, S1, ?_⟩
          simp only [Act.put, List.getElem_toArray, List.getElem_cons_zero, List.getElem_cons_succ, List.setIfInBounds_toArray, List.set_cons_zero, List.set_cons_succ]
          refine relist #[true, true, true, false, false, false, false, false, false, false, false, false, false, false, false, false, false] (by kernel_rfl) ?_
          refine any_one (i := 3) (by kernel_rfl) ?_
          refine wpOp_call (f := 36) (args := #[.pointer (some ⟨gy, 0, none⟩)]) rfl rfl (by go_simp) ?_
          refine (refHead_any y1 gy (toU xs) xs (toI_toU xs hxb) (by rw [toU_len]; omega) E (hrd.out _ C1)).mono ?_
          rintro e y2 ⟨rfl, c2⟩
          have C2 : Below V.heap.size V y2 := C1.trans (c2.mono C1.size)
          have HL2 : LogAt y2 w2.heap.size g ev xs E := HLA.out.below C2
          have B2' : Below w.heap.size w y2 := BA.trans (C2.mono BA.size)
          have S2 : y2.cell? ⟨gy, 0, none⟩ = some (.string ⟨(toU xs).toArray⟩) ∧ y2.cell? ⟨gy, 1, none⟩ = some (.slice mp E.length mc) := ⟨by rw [C2.cell (block_lt_of_cell hcy)]; exact hcy, by rw [C2.cell (block_lt_of_cell hey)]; exact hey⟩
          refine ⟨_, rfl, S2, ?_⟩
          simp only [Act.put, List.getElem_toArray, List.getElem_cons_zero, List.getElem_cons_succ, List.setIfInBounds_toArray, List.set_cons_zero, List.set_cons_succ]
          refine wpAnyH_take (i := 4) (v := .bool true) rfl (by kernel_rfl) (by kernel_rfl) (by kernel_rfl) (fun _ _ _ h => h) (yields_eqlH rfl (.tmp 84) (.tmp 86) rfl (headP xs E) (headP xs E) true (eq_head xs E) rfl rfl) S2 ?_
          simp only [Act.put, List.getElem_toArray, List.getElem_cons_zero, List.getElem_cons_succ, List.setIfInBounds_toArray, List.set_cons_zero, List.set_cons_succ]
          refine wpAnyH_take (i := 5) (v := .bool true) rfl (by kernel_rfl) (by kernel_rfl) (by kernel_rfl) (fun _ _ _ h => h) (.inl ⟨rfl, fun W _ => by go_simp⟩) S2 ?_
          simp only [Act.put, List.getElem_toArray, List.getElem_cons_zero, List.getElem_cons_succ, List.setIfInBounds_toArray, List.set_cons_zero, List.set_cons_succ]
          refine wpAnyH_take (i := 6) (v := .pointer (some ⟨g, 0, none⟩)) rfl (by kernel_rfl) (by kernel_rfl) (by kernel_rfl) (fun _ _ _ h => h) (.inl ⟨rfl, fun W _ => by go_simp⟩) S2 ?_
          simp only [Act.put, List.getElem_toArray, List.getElem_cons_zero, List.getElem_cons_succ, List.setIfInBounds_toArray, List.set_cons_zero, List.set_cons_succ]
          refine wpAnyH_take (i := 8) (v := .pointer (some ⟨gy, 0, none⟩)) rfl (by kernel_rfl) (by kernel_rfl) (by kernel_rfl) (fun _ _ _ h => h) (.inl ⟨rfl, fun W _ => by go_simp⟩) S2 ?_
          simp only [Act.put, List.getElem_toArray, List.getElem_cons_zero, List.getElem_cons_succ, List.setIfInBounds_toArray, List.set_cons_zero, List.set_cons_succ]
          refine wpAnyH_take (i := 9) (v := .pointer (some ⟨gy, 0, none⟩)) rfl (by kernel_rfl) (by kernel_rfl) (by kernel_rfl) (fun _ _ _ h => h) (.inl ⟨rfl, fun W _ => by go_simp⟩) S2 ?_
          simp only [Act.put, List.getElem_toArray, List.getElem_cons_zero, List.getElem_cons_succ, List.setIfInBounds_toArray, List.set_cons_zero, List.set_cons_succ]
          refine wpAnyH_take (i := 10) (v := .pointer (some ⟨gy, 0, none⟩)) rfl (by kernel_rfl) (by kernel_rfl) (by kernel_rfl) (fun _ _ _ h => h) (.inl ⟨rfl, fun W _ => by go_simp⟩) S2 ?_
          simp only [Act.put, List.getElem_toArray, List.getElem_cons_zero, List.getElem_cons_succ, List.setIfInBounds_toArray, List.set_cons_zero, List.set_cons_succ]
          refine wpAnyH_take (i := 11) (v := .string ⟨(toU xs).toArray⟩) rfl (by kernel_rfl) (by kernel_rfl) (by kernel_rfl) (fun _ _ _ h => h) (.inl ⟨rfl, fun W hW => by have e := hW.1; go_simp⟩) S2 ?_
          simp only [Act.put, List.getElem_toArray, List.getElem_cons_zero, List.getElem_cons_succ, List.setIfInBounds_toArray, List.set_cons_zero, List.set_cons_succ]
          refine wpAnyH_take (i := 12) (v := .slice mp E.length mc) rfl (by kernel_rfl) (by kernel_rfl) (by kernel_rfl) (fun _ _ _ h => h) (.inl ⟨rfl, fun W _ => by go_simp⟩) S2 ?_
          simp only [Act.put, List.getElem_toArray, List.getElem_cons_zero, List.getElem_cons_succ, List.setIfInBounds_toArray, List.set_cons_zero, List.set_cons_succ]
          refine relist #[true, true, true, true, true, true, true, false, true, true, true, true, true, false, false, false, false] (by kernel_rfl) ?_
          refine any_one (i := 7) (by kernel_rfl) ?_
          refine wpOp_callG (f := 39) (args := #[.pointer (some ⟨g, 0, none⟩)]) rfl rfl (by go_simp) ?_
          refine (save_all y2 (HTb.out.below B2') g xs E HL2.read).mono ?_
          rintro e y3 ⟨rfl, c3⟩
          have C3 : Below V.heap.size V y3 := C2.trans (c3.mono C2.size)
          have S3 : y3.cell? ⟨gy, 0, none⟩ = some (.string ⟨(toU xs).toArray⟩) ∧ y3.cell? ⟨gy, 1, none⟩ = some (.slice mp E.length mc) := ⟨by rw [C3.cell (block_lt_of_cell hcy)]; exact hcy, by rw [C3.cell (block_lt_of_cell hey)]; exact hey⟩
          refine ⟨_, rfl, S3, ?_⟩
          simp only [Act.put, List.getElem_toArray, List.getElem_cons_zero, List.getElem_cons_succ, List.setIfInBounds_toArray, List.set_cons_zero, List.set_cons_succ]
          refine relist #[true, true, true, true, true, true, true, true, true, true, true, true, true, false, false, false, false] (by kernel_rfl) ?_
          refine any_one (i := 13) (by kernel_rfl) ?_
          refine wpOp_callG (f := 40) (args := #[.string ⟨(toU xs).toArray⟩, .slice mp E.length mc]) rfl rfl (by go_simp) ?_
          refine (refSave_any y3 (toU xs) xs (toI_toU xs hxb) (by rw [toU_len]; omega) mp E.length mc E (HSA.out.below C3) hfew).mono ?_
          rintro e y4 ⟨rfl, c4⟩
          have C4 : Below V.heap.size V y4 := C3.trans (c4.mono C3.size)
          have HB4 : Hid (Below w.heap.size w y4) := BA.trans (C4.mono BA.size)
          have S4 : y4.cell? ⟨gy, 0, none⟩ = some (.string ⟨(toU xs).toArray⟩) ∧ y4.cell? ⟨gy, 1, none⟩ = some (.slice mp E.length mc) := ⟨by rw [C4.cell (block_lt_of_cell hcy)]; exact hcy, by rw [C4.cell (block_lt_of_cell hey)]; exact hey⟩
          refine ⟨_, rfl, S4, ?_⟩
          simp only [Act.put, List.getElem_toArray, List.getElem_cons_zero, List.getElem_cons_succ, List.setIfInBounds_toArray, List.set_cons_zero, List.set_cons_succ]
          refine wpAnyH_take (i := 14) (v := .bool true) rfl (by kernel_rfl) (by kernel_rfl) (by kernel_rfl) (fun _ _ _ h => h) (.inl ⟨rfl, fun W _ => by go_simp⟩) S4 ?_
          simp only [Act.put, List.getElem_toArray, List.getElem_cons_zero, List.getElem_cons_succ, List.setIfInBounds_toArray, List.set_cons_zero, List.set_cons_succ]
          refine wpAnyH_take (i := 15) (v := .bool true) rfl (by kernel_rfl) (by kernel_rfl) (by kernel_rfl) (fun _ _ _ h => h) (.inl ⟨rfl, fun W _ => by go_simp⟩) S4 ?_
          simp only [Act.put, List.getElem_toArray, List.getElem_cons_zero, List.getElem_cons_succ, List.setIfInBounds_toArray, List.set_cons_zero, List.set_cons_succ]
          refine wpAnyH_take (i := 16) (v := .bool true) rfl (by kernel_rfl) (by kernel_rfl) (by kernel_rfl) (fun _ _ _ h => h) (.inl ⟨rfl, fun W _ => by go_simp⟩) S4 ?_
          simp only [Act.put, List.getElem_toArray, List.getElem_cons_zero, List.getElem_cons_succ, List.setIfInBounds_toArray, List.set_cons_zero, List.set_cons_succ]
          refine wpAnyH_done (by kernel_rfl) ?_ _
          refine NoPanic.normal ?_
          clear S0 S1 S2 S3 S4 C1 C2 C3 C4 HL1 HL2 HLD c1 c2 c3 c4 hss hrd HSA HLA BA B2' BD bD
          go_wp2_with fail
          go_ret
          exact ⟨rfl, HB4.out⟩
        · rw [decide_eq_false hm]
          have hlv := HL2.out hm
          subst hlv
          clear HLr HMr HL2 hm HE4' HS'
          go_wp2_with fail
          refine (num_any m wc).mono ?_
          rintro e w6 ⟨rfl, hw6⟩
          rw [hw6]
          clear hw6 w6
          go_wp2_with fail
          go_ret
          exact ⟨rfl, BK⟩
end Go.Proofs.YtcmjlhcpoajbkaaDoor
