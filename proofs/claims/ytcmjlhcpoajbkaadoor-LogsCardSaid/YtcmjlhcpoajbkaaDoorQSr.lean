import Derived.Test.YtcmjlhcpoajbkaaDoorQSp
namespace Go.Proofs.YtcmjlhcpoajbkaaDoor
set_option maxRecDepth 10000
set_option linter.unusedSimpArgs false
open Go.RowKit
set_option maxHeartbeats 16000000 in
theorem step_root (w : World) (hT : Tabs KS HS w) (F G : Nat → Prop) (gp gx gy gb n : Nat) (ev yv kv blv : Value) (key : List Int) (es : List (List Int)) (hP : PairAt w F gp gx gy ev yv kv key es) (hB : BookAt w G gb blv n) (a i m : Int) (bv : Value) :
    Calls Tryd.prog 33 #[.pointer (some ⟨gp, 0, none⟩), opV 2 a i m bv, .pointer (some ⟨gb, 0, none⟩)] w (StepOut w F G gp gy gb n kv key) := by
  have HB : Hid (BookAt w G gb blv n) := hB
  have HP : Hid (PairAt w F gp gx gy ev yv kv key es) := hP
  have HTb : Hid (Tabs KS HS w) := hT
  clear hP hB hT
  have b0 : Below w.heap.size w (w.alloc (.cells #[.int .i64 2, .int .i64 a, .int .i64 i, .int .i64 m, bv] 66)) := (Below.refl _ _).alloc (Nat.le_refl _) _
  have hV := heapN w (.cells #[.int .i64 2, .int .i64 a, .int .i64 i, .int .i64 m, bv] 66) _ rfl
  unfold opV
  go_enter Tryd.func33, Tryd.ntmps33
  go_upto_region 13 with fail
  generalize w.alloc (.cells #[.int .i64 2, .int .i64 a, .int .i64 i, .int .i64 m, bv] 66) = V at *
  have PV := HP.out.below b0
  have cN : V.cell? ⟨w.heap.size, 3, none⟩ = some (.int .i64 m) := by rw [cell_of_row _ _ _ _ _ _ hV]; rfl
  have hc : Hid (∀ W : World, Below V.heap.size V W → (W.cell? ⟨gp, 0, none⟩ = some (.pointer (some ⟨gx, 0, none⟩)) ∧ W.cell? ⟨gp, 1, none⟩ = some (.pointer (some ⟨gy, 0, none⟩))) ∧ W.cell? ⟨w.heap.size, 3, none⟩ = some (.int .i64 m)) := fun W hW => ⟨⟨(PV.below hW).c0, (PV.below hW).c1⟩, by rw [hW.cell (block_lt_of_cell cN)]; exact cN⟩
  have HPV : Hid (PairAt V F gp gx gy ev yv kv key es) := PV
  have hTV : Hid (Tabs KS HS V) := HTb.out.below b0
  have HB0 : Hid (Below w.heap.size w V) := b0
  obtain ⟨hDl, hDb⟩ := rootOut_ok m es
  obtain ⟨DD, hDD⟩ : ∃ DD, (rootOut m es).1 = DD := ⟨_, rfl⟩
  obtain ⟨ER, hER⟩ : ∃ ER, (rootOut m es).2 = ER := ⟨_, rfl⟩
  have HRO : Hid (rootOut m es = (DD, ER)) := by show _ = _; rw [← hDD, ← hER]
  rw [hDD] at hDl hDb
  obtain ⟨gO, hgO⟩ : ∃ gO, gO = w.heap.size := ⟨_, rfl⟩
  rw [← hgO] at hc ⊢
  clear hgO hDD hER PV cN hV b0
  go_cut [14, 15] (fun s14 s15 wc => ∃ gd, s14 = .pointer (some ⟨gd, 0, none⟩) ∧ s15 = .int .i64 ER ∧ Dg wc gd DD ∧ Below V.heap.size V wc)
  case first =>
    have bD : Below V.heap.size V V.drew := (Below.refl V.heap.size V).drew
    have S0 := hc.out _ bD
    refine wp_region_noPanic ?_
    refine wp_region_held (S := fun W => (W.cell? ⟨gp, 0, none⟩ = some (.pointer (some ⟨gx, 0, none⟩)) ∧ W.cell? ⟨gp, 1, none⟩ = some (.pointer (some ⟨gy, 0, none⟩))) ∧ W.cell? ⟨gO, 3, none⟩ = some (.int .i64 m)) follows ?_
    refine wpAnyH_take (i := 0) (v := .pointer (some ⟨gp, 0, none⟩)) rfl (by kernel_rfl) (by kernel_rfl) (by kernel_rfl) (fun _ _ _ h => h) (.inl ⟨rfl, fun W _ => by go_simp⟩) S0 ?_
    simp only [Act.put, List.getElem_toArray, List.getElem_cons_zero, List.getElem_cons_succ, List.setIfInBounds_toArray, List.set_cons_zero, List.set_cons_succ]
    refine wpAnyH_take (i := 1) (v := .pointer (some ⟨gp, 0, none⟩)) rfl (by kernel_rfl) (by kernel_rfl) (by kernel_rfl) (fun _ _ _ h => h) (.inl ⟨rfl, fun W _ => by go_simp⟩) S0 ?_
    simp only [Act.put, List.getElem_toArray, List.getElem_cons_zero, List.getElem_cons_succ, List.setIfInBounds_toArray, List.set_cons_zero, List.set_cons_succ]
    refine wpAnyH_take (i := 2) (v := .pointer (some ⟨gp, 0, none⟩)) rfl (by kernel_rfl) (by kernel_rfl) (by kernel_rfl) (fun _ _ _ h => h) (.inl ⟨rfl, fun W _ => by go_simp⟩) S0 ?_
    simp only [Act.put, List.getElem_toArray, List.getElem_cons_zero, List.getElem_cons_succ, List.setIfInBounds_toArray, List.set_cons_zero, List.set_cons_succ]
    refine wpAnyH_take (i := 3) (v := .pointer (some ⟨gx, 0, none⟩)) rfl (by kernel_rfl) (by kernel_rfl) (by kernel_rfl) (fun _ _ _ h => h) (.inl ⟨rfl, fun W hW => by have e := hW.1.1; go_simp⟩) S0 ?_
    simp only [Act.put, List.getElem_toArray, List.getElem_cons_zero, List.getElem_cons_succ, List.setIfInBounds_toArray, List.set_cons_zero, List.set_cons_succ]
    refine wpAnyH_take (i := 4) (v := .pointer (some ⟨gO, 3, none⟩)) rfl (by kernel_rfl) (by kernel_rfl) (by kernel_rfl) (fun _ _ _ h => h) (.inl ⟨rfl, fun W _ => by go_simp⟩) S0 ?_
    simp only [Act.put, List.getElem_toArray, List.getElem_cons_zero, List.getElem_cons_succ, List.setIfInBounds_toArray, List.set_cons_zero, List.set_cons_succ]
    refine wpAnyH_take (i := 5) (v := .int .i64 m) rfl (by kernel_rfl) (by kernel_rfl) (by kernel_rfl) (fun _ _ _ h => h) (.inl ⟨rfl, fun W hW => by have e := hW.2; go_simp⟩) S0 ?_
    simp only [Act.put, List.getElem_toArray, List.getElem_cons_zero, List.getElem_cons_succ, List.setIfInBounds_toArray, List.set_cons_zero, List.set_cons_succ]
    obtain ⟨y0, ey0⟩ : ∃ W, V.drew = W := ⟨_, rfl⟩
    refine reworld (w' := V.drew) rfl ?_
    rw [ey0] at bD S0 ⊢
    clear ey0
    refine relist #[true, true, true, true, true, true, false, false, false, false, false, false, false] (by kernel_rfl) ?_
    refine any_two (i := 6) (j := 10) (by kernel_rfl) ?_ ?_
    · refine wpOp_call (f := 46) (args := #[.pointer (some ⟨gx, 0, none⟩), .int .i64 m]) rfl rfl (by go_simp) ?_
      refine (logRoot_any y0 gx key es m (hTV.out.below bD) (HPV.out.below bD).log.read).mono ?_
      rintro e y1 ⟨rfl, c1⟩
      rw [HRO.out]
      have C1 : Below V.heap.size V y1 := bD.trans (c1.mono bD.size)
      refine ⟨_, rfl, hc.out _ C1, ?_⟩
      simp only [Act.put, List.getElem_toArray, List.getElem_cons_zero, List.getElem_cons_succ, List.setIfInBounds_toArray, List.set_cons_zero, List.set_cons_succ]
      refine wpAnyH_take (i := 7) (v := .tuple #[.agg (A8 DD), .int .i64 ER]) rfl (by kernel_rfl) (by kernel_rfl) (by kernel_rfl) (fun _ _ _ h => h) (.inl ⟨rfl, fun W _ => by go_simp⟩) (hc.out _ C1) ?_
      simp only [Act.put, List.getElem_toArray, List.getElem_cons_zero, List.getElem_cons_succ, List.setIfInBounds_toArray, List.set_cons_zero, List.set_cons_succ]
      refine wpAnyH_take (i := 8) (v := .agg (A8 DD)) rfl (by kernel_rfl) (by kernel_rfl) (by kernel_rfl) (fun _ _ _ h => h) (.inl ⟨rfl, fun W _ => by go_simp⟩) (hc.out _ C1) ?_
      simp only [Act.put, List.getElem_toArray, List.getElem_cons_zero, List.getElem_cons_succ, List.setIfInBounds_toArray, List.set_cons_zero, List.set_cons_succ]
      refine wpAnyH_take (i := 9) (v := .int .i64 ER) rfl (by kernel_rfl) (by kernel_rfl) (by kernel_rfl) (fun _ _ _ h => h) (.inl ⟨rfl, fun W _ => by go_simp⟩) (hc.out _ C1) ?_
      simp only [Act.put, List.getElem_toArray, List.getElem_cons_zero, List.getElem_cons_succ, List.setIfInBounds_toArray, List.set_cons_zero, List.set_cons_succ]
      refine relist #[true, true, true, true, true, true, true, true, true, true, false, false, false] (by kernel_rfl) ?_
      refine any_one (i := 10) (by kernel_rfl) ?_
      refine wpOp_val (v := .pointer (some ⟨y1.heap.size, 0, none⟩)) (w' := y1.alloc (.cells Z8x32 25)) rfl rfl (by unfold Z8x32; go_simp <;> rfl) ?_
      have C2 : Below V.heap.size V (y1.alloc (.cells Z8x32 25)) := C1.alloc C1.size _
      have d2 : Dg (y1.alloc (.cells Z8x32 25)) y1.heap.size Z32 := Dg.new _ _ rfl
      have hgd : V.heap.size ≤ y1.heap.size := C1.size
      refine ⟨hc.out _ C2, ?_⟩
      simp only [Act.put, List.getElem_toArray, List.getElem_cons_zero, List.getElem_cons_succ, List.setIfInBounds_toArray, List.set_cons_zero, List.set_cons_succ]
      generalize y1.alloc (.cells Z8x32 25) = y2 at *
      generalize y1.heap.size = gd at *
      refine relist #[true, true, true, true, true, true, true, true, true, true, true, false, false] (by kernel_rfl) ?_
      refine any_one (i := 11) (by kernel_rfl) ?_
      refine wpOp_store_D rfl rfl (.tmp 14) (.tmp 96) rfl gd DD rfl rfl Z32 d2 hDl ?_
      intro X hX
      have xD : Hid (Dg X gd DD) := hX.dg hDl
      have xB : Hid (Below V.heap.size V X) := hX.below _ _ hgd C2
      refine ⟨hc.out _ xB.out, ?_⟩
      simp only [Act.put, List.getElem_toArray, List.getElem_cons_zero, List.getElem_cons_succ, List.setIfInBounds_toArray, List.set_cons_zero, List.set_cons_succ]
      refine wpAnyH_take (i := 12) (v := .int .i64 ER) rfl (by kernel_rfl) (by kernel_rfl) (by kernel_rfl) (fun _ _ _ h => h) (.inl ⟨rfl, fun W _ => by go_simp⟩) (hc.out _ xB.out) ?_
      simp only [Act.put, List.getElem_toArray, List.getElem_cons_zero, List.getElem_cons_succ, List.setIfInBounds_toArray, List.set_cons_zero, List.set_cons_succ]
      refine wpAnyH_done (by kernel_rfl) ?_ _
      refine NoPanic.normal ?_
      clear hX d2 C2
      go_wp2_with fail
      go_meet
      case rel => exact ⟨gd, rfl, rfl, xD.out, xB.out⟩
    · refine wpOp_val (v := .pointer (some ⟨y0.heap.size, 0, none⟩)) (w' := y0.alloc (.cells Z8x32 25)) rfl rfl (by unfold Z8x32; go_simp <;> rfl) ?_
      have C1 : Below V.heap.size V (y0.alloc (.cells Z8x32 25)) := bD.alloc bD.size _
      have d1 : Dg (y0.alloc (.cells Z8x32 25)) y0.heap.size Z32 := Dg.new _ _ rfl
      have hgd : V.heap.size ≤ y0.heap.size := bD.size
      refine ⟨hc.out _ C1, ?_⟩
      simp only [Act.put, List.getElem_toArray, List.getElem_cons_zero, List.getElem_cons_succ, List.setIfInBounds_toArray, List.set_cons_zero, List.set_cons_succ]
      generalize y0.alloc (.cells Z8x32 25) = y1 at *
      generalize y0.heap.size = gd at *
      refine relist #[true, true, true, true, true, true, false, false, false, false, true, false, false] (by kernel_rfl) ?_
      refine any_one (i := 6) (by kernel_rfl) ?_
      refine wpOp_call (f := 46) (args := #[.pointer (some ⟨gx, 0, none⟩), .int .i64 m]) rfl rfl (by go_simp) ?_
      refine (logRoot_any y1 gx key es m (hTV.out.below C1) (HPV.out.below C1).log.read).mono ?_
      rintro e y2 ⟨rfl, c2⟩
      rw [HRO.out]
      have C2 : Below V.heap.size V y2 := C1.trans (c2.mono C1.size)
      have d2 := d1.next c2
      refine ⟨_, rfl, hc.out _ C2, ?_⟩
      simp only [Act.put, List.getElem_toArray, List.getElem_cons_zero, List.getElem_cons_succ, List.setIfInBounds_toArray, List.set_cons_zero, List.set_cons_succ]
      refine wpAnyH_take (i := 7) (v := .tuple #[.agg (A8 DD), .int .i64 ER]) rfl (by kernel_rfl) (by kernel_rfl) (by kernel_rfl) (fun _ _ _ h => h) (.inl ⟨rfl, fun W _ => by go_simp⟩) (hc.out _ C2) ?_
      simp only [Act.put, List.getElem_toArray, List.getElem_cons_zero, List.getElem_cons_succ, List.setIfInBounds_toArray, List.set_cons_zero, List.set_cons_succ]
      refine wpAnyH_take (i := 8) (v := .agg (A8 DD)) rfl (by kernel_rfl) (by kernel_rfl) (by kernel_rfl) (fun _ _ _ h => h) (.inl ⟨rfl, fun W _ => by go_simp⟩) (hc.out _ C2) ?_
      simp only [Act.put, List.getElem_toArray, List.getElem_cons_zero, List.getElem_cons_succ, List.setIfInBounds_toArray, List.set_cons_zero, List.set_cons_succ]
      refine wpAnyH_take (i := 9) (v := .int .i64 ER) rfl (by kernel_rfl) (by kernel_rfl) (by kernel_rfl) (fun _ _ _ h => h) (.inl ⟨rfl, fun W _ => by go_simp⟩) (hc.out _ C2) ?_
      simp only [Act.put, List.getElem_toArray, List.getElem_cons_zero, List.getElem_cons_succ, List.setIfInBounds_toArray, List.set_cons_zero, List.set_cons_succ]
      refine relist #[true, true, true, true, true, true, true, true, true, true, true, false, false] (by kernel_rfl) ?_
      refine any_one (i := 11) (by kernel_rfl) ?_
      refine wpOp_store_D rfl rfl (.tmp 14) (.tmp 96) rfl gd DD rfl rfl Z32 d2 hDl ?_
      intro X hX
      have xD : Hid (Dg X gd DD) := hX.dg hDl
      have xB : Hid (Below V.heap.size V X) := hX.below _ _ hgd C2
      refine ⟨hc.out _ xB.out, ?_⟩
      simp only [Act.put, List.getElem_toArray, List.getElem_cons_zero, List.getElem_cons_succ, List.setIfInBounds_toArray, List.set_cons_zero, List.set_cons_succ]
      refine wpAnyH_take (i := 12) (v := .int .i64 ER) rfl (by kernel_rfl) (by kernel_rfl) (by kernel_rfl) (fun _ _ _ h => h) (.inl ⟨rfl, fun W _ => by go_simp⟩) (hc.out _ xB.out) ?_
      simp only [Act.put, List.getElem_toArray, List.getElem_cons_zero, List.getElem_cons_succ, List.setIfInBounds_toArray, List.set_cons_zero, List.set_cons_succ]
      refine wpAnyH_done (by kernel_rfl) ?_ _
      refine NoPanic.normal ?_
      clear hX d2 C2
      go_wp2_with fail
      go_meet
      case rel => exact ⟨gd, rfl, rfl, xD.out, xB.out⟩
  case rest =>
    obtain ⟨gd1, rfl, rfl, dC, bC⟩ := hcut
    have D1 : Hid (Dg wc gd1 DD) := dC
    have BC : Below V.heap.size V wc := bC
    clear dC bC
    obtain ⟨wA, hwA⟩ : ∃ wA, wc = wA := ⟨_, rfl⟩
    rw [hwA] at D1 BC ⊢
    clear hwA
    go_upto_region 14 with fail
    go_cut [16, 17] (fun s16 s17 wd => ∃ gd, s16 = .pointer (some ⟨gd, 0, none⟩) ∧ s17 = .int .i64 ER ∧ Dg wd gd DD ∧ Below wA.heap.size wA wd ∧ Below V.heap.size V wd)
    case first =>
      have bD : Below V.heap.size V wA.drew := BC.drew
      have aD : Below wA.heap.size wA wA.drew := (Below.refl _ _).drew
      have S0 := hc.out _ bD
      refine wp_region_noPanic ?_
      refine wp_region_held (S := fun W => (W.cell? ⟨gp, 0, none⟩ = some (.pointer (some ⟨gx, 0, none⟩)) ∧ W.cell? ⟨gp, 1, none⟩ = some (.pointer (some ⟨gy, 0, none⟩))) ∧ W.cell? ⟨gO, 3, none⟩ = some (.int .i64 m)) follows ?_
      refine wpAnyH_take (i := 0) (v := .pointer (some ⟨gp, 0, none⟩)) rfl (by kernel_rfl) (by kernel_rfl) (by kernel_rfl) (fun _ _ _ h => h) (.inl ⟨rfl, fun W _ => by go_simp⟩) S0 ?_
      simp only [Act.put, List.getElem_toArray, List.getElem_cons_zero, List.getElem_cons_succ, List.setIfInBounds_toArray, List.set_cons_zero, List.set_cons_succ]
      refine wpAnyH_take (i := 1) (v := .pointer (some ⟨gp, 0, none⟩)) rfl (by kernel_rfl) (by kernel_rfl) (by kernel_rfl) (fun _ _ _ h => h) (.inl ⟨rfl, fun W _ => by go_simp⟩) S0 ?_
      simp only [Act.put, List.getElem_toArray, List.getElem_cons_zero, List.getElem_cons_succ, List.setIfInBounds_toArray, List.set_cons_zero, List.set_cons_succ]
      refine wpAnyH_take (i := 2) (v := .pointer (some ⟨gp, 1, none⟩)) rfl (by kernel_rfl) (by kernel_rfl) (by kernel_rfl) (fun _ _ _ h => h) (.inl ⟨rfl, fun W _ => by go_simp⟩) S0 ?_
      simp only [Act.put, List.getElem_toArray, List.getElem_cons_zero, List.getElem_cons_succ, List.setIfInBounds_toArray, List.set_cons_zero, List.set_cons_succ]
      refine wpAnyH_take (i := 3) (v := .pointer (some ⟨gy, 0, none⟩)) rfl (by kernel_rfl) (by kernel_rfl) (by kernel_rfl) (fun _ _ _ h => h) (.inl ⟨rfl, fun W hW => by have e := hW.1.2; go_simp⟩) S0 ?_
      simp only [Act.put, List.getElem_toArray, List.getElem_cons_zero, List.getElem_cons_succ, List.setIfInBounds_toArray, List.set_cons_zero, List.set_cons_succ]
      refine wpAnyH_take (i := 4) (v := .pointer (some ⟨gO, 3, none⟩)) rfl (by kernel_rfl) (by kernel_rfl) (by kernel_rfl) (fun _ _ _ h => h) (.inl ⟨rfl, fun W _ => by go_simp⟩) S0 ?_
      simp only [Act.put, List.getElem_toArray, List.getElem_cons_zero, List.getElem_cons_succ, List.setIfInBounds_toArray, List.set_cons_zero, List.set_cons_succ]
      refine wpAnyH_take (i := 5) (v := .int .i64 m) rfl (by kernel_rfl) (by kernel_rfl) (by kernel_rfl) (fun _ _ _ h => h) (.inl ⟨rfl, fun W hW => by have e := hW.2; go_simp⟩) S0 ?_
      simp only [Act.put, List.getElem_toArray, List.getElem_cons_zero, List.getElem_cons_succ, List.setIfInBounds_toArray, List.set_cons_zero, List.set_cons_succ]
      obtain ⟨y0, ey0⟩ : ∃ W, wA.drew = W := ⟨_, rfl⟩
      refine reworld (w' := wA.drew) rfl ?_
      rw [ey0] at bD aD S0 ⊢
      clear ey0
      refine relist #[true, true, true, true, true, true, false, false, false, false, false, false, false] (by kernel_rfl) ?_
      refine any_two (i := 6) (j := 10) (by kernel_rfl) ?_ ?_
      · refine wpOp_call (f := 71) (args := #[.pointer (some ⟨gy, 0, none⟩), .int .i64 m]) rfl rfl (by go_simp) ?_
        refine (refRootM_any y0 gy yv (toU key) es m (HPV.out.below bD).ref).mono ?_
        rintro e y1 ⟨rfl, c1⟩
        rw [HRO.out]
        have C1 : Below V.heap.size V y1 := bD.trans (c1.mono bD.size)
        have A1 : Below wA.heap.size wA y1 := aD.trans (c1.mono aD.size)
        refine ⟨_, rfl, hc.out _ C1, ?_⟩
        simp only [Act.put, List.getElem_toArray, List.getElem_cons_zero, List.getElem_cons_succ, List.setIfInBounds_toArray, List.set_cons_zero, List.set_cons_succ]
        refine wpAnyH_take (i := 7) (v := .tuple #[.agg (A8 DD), .int .i64 ER]) rfl (by kernel_rfl) (by kernel_rfl) (by kernel_rfl) (fun _ _ _ h => h) (.inl ⟨rfl, fun W _ => by go_simp⟩) (hc.out _ C1) ?_
        simp only [Act.put, List.getElem_toArray, List.getElem_cons_zero, List.getElem_cons_succ, List.setIfInBounds_toArray, List.set_cons_zero, List.set_cons_succ]
        refine wpAnyH_take (i := 8) (v := .agg (A8 DD)) rfl (by kernel_rfl) (by kernel_rfl) (by kernel_rfl) (fun _ _ _ h => h) (.inl ⟨rfl, fun W _ => by go_simp⟩) (hc.out _ C1) ?_
        simp only [Act.put, List.getElem_toArray, List.getElem_cons_zero, List.getElem_cons_succ, List.setIfInBounds_toArray, List.set_cons_zero, List.set_cons_succ]
        refine wpAnyH_take (i := 9) (v := .int .i64 ER) rfl (by kernel_rfl) (by kernel_rfl) (by kernel_rfl) (fun _ _ _ h => h) (.inl ⟨rfl, fun W _ => by go_simp⟩) (hc.out _ C1) ?_
        simp only [Act.put, List.getElem_toArray, List.getElem_cons_zero, List.getElem_cons_succ, List.setIfInBounds_toArray, List.set_cons_zero, List.set_cons_succ]
        refine relist #[true, true, true, true, true, true, true, true, true, true, false, false, false] (by kernel_rfl) ?_
        refine any_one (i := 10) (by kernel_rfl) ?_
        refine wpOp_val (v := .pointer (some ⟨y1.heap.size, 0, none⟩)) (w' := y1.alloc (.cells Z8x32 25)) rfl rfl (by unfold Z8x32; go_simp <;> rfl) ?_
        have C2 : Below V.heap.size V (y1.alloc (.cells Z8x32 25)) := C1.alloc C1.size _
        have A2 : Below wA.heap.size wA (y1.alloc (.cells Z8x32 25)) := A1.alloc A1.size _
        have hga : wA.heap.size ≤ y1.heap.size := A1.size
        have d2 : Dg (y1.alloc (.cells Z8x32 25)) y1.heap.size Z32 := Dg.new _ _ rfl
        have hgd : V.heap.size ≤ y1.heap.size := C1.size
        refine ⟨hc.out _ C2, ?_⟩
        simp only [Act.put, List.getElem_toArray, List.getElem_cons_zero, List.getElem_cons_succ, List.setIfInBounds_toArray, List.set_cons_zero, List.set_cons_succ]
        generalize y1.alloc (.cells Z8x32 25) = y2 at *
        generalize y1.heap.size = gd at *
        refine relist #[true, true, true, true, true, true, true, true, true, true, true, false, false] (by kernel_rfl) ?_
        refine any_one (i := 11) (by kernel_rfl) ?_
        refine wpOp_store_D rfl rfl (.tmp 16) (.tmp 106) rfl gd DD rfl rfl Z32 d2 hDl ?_
        intro X hX
        have xD : Hid (Dg X gd DD) := hX.dg hDl
        have xB : Hid (Below V.heap.size V X) := hX.below _ _ hgd C2
        have xA : Hid (Below wA.heap.size wA X) := hX.below _ _ hga A2
        refine ⟨hc.out _ xB.out, ?_⟩
        simp only [Act.put, List.getElem_toArray, List.getElem_cons_zero, List.getElem_cons_succ, List.setIfInBounds_toArray, List.set_cons_zero, List.set_cons_succ]
        refine wpAnyH_take (i := 12) (v := .int .i64 ER) rfl (by kernel_rfl) (by kernel_rfl) (by kernel_rfl) (fun _ _ _ h => h) (.inl ⟨rfl, fun W _ => by go_simp⟩) (hc.out _ xB.out) ?_
        simp only [Act.put, List.getElem_toArray, List.getElem_cons_zero, List.getElem_cons_succ, List.setIfInBounds_toArray, List.set_cons_zero, List.set_cons_succ]
        refine wpAnyH_done (by kernel_rfl) ?_ _
        refine NoPanic.normal ?_
        clear hX d2 C2 A2
        go_wp2_with fail
        go_meet
        case rel => exact ⟨gd, rfl, rfl, xD.out, xA.out, xB.out⟩
      · refine wpOp_val (v := .pointer (some ⟨y0.heap.size, 0, none⟩)) (w' := y0.alloc (.cells Z8x32 25)) rfl rfl (by unfold Z8x32; go_simp <;> rfl) ?_
        have C1 : Below V.heap.size V (y0.alloc (.cells Z8x32 25)) := bD.alloc bD.size _
        have A1 : Below wA.heap.size wA (y0.alloc (.cells Z8x32 25)) := aD.alloc aD.size _
        have hga : wA.heap.size ≤ y0.heap.size := aD.size
        have d1 : Dg (y0.alloc (.cells Z8x32 25)) y0.heap.size Z32 := Dg.new _ _ rfl
        have hgd : V.heap.size ≤ y0.heap.size := bD.size
        refine ⟨hc.out _ C1, ?_⟩
        simp only [Act.put, List.getElem_toArray, List.getElem_cons_zero, List.getElem_cons_succ, List.setIfInBounds_toArray, List.set_cons_zero, List.set_cons_succ]
        generalize y0.alloc (.cells Z8x32 25) = y1 at *
        generalize y0.heap.size = gd at *
        refine relist #[true, true, true, true, true, true, false, false, false, false, true, false, false] (by kernel_rfl) ?_
        refine any_one (i := 6) (by kernel_rfl) ?_
        refine wpOp_call (f := 71) (args := #[.pointer (some ⟨gy, 0, none⟩), .int .i64 m]) rfl rfl (by go_simp) ?_
        refine (refRootM_any y1 gy yv (toU key) es m (HPV.out.below C1).ref).mono ?_
        rintro e y2 ⟨rfl, c2⟩
        rw [HRO.out]
        have C2 : Below V.heap.size V y2 := C1.trans (c2.mono C1.size)
        have A2 : Below wA.heap.size wA y2 := A1.trans (c2.mono A1.size)
        have d2 := d1.next c2
        refine ⟨_, rfl, hc.out _ C2, ?_⟩
        simp only [Act.put, List.getElem_toArray, List.getElem_cons_zero, List.getElem_cons_succ, List.setIfInBounds_toArray, List.set_cons_zero, List.set_cons_succ]
        refine wpAnyH_take (i := 7) (v := .tuple #[.agg (A8 DD), .int .i64 ER]) rfl (by kernel_rfl) (by kernel_rfl) (by kernel_rfl) (fun _ _ _ h => h) (.inl ⟨rfl, fun W _ => by go_simp⟩) (hc.out _ C2) ?_
        simp only [Act.put, List.getElem_toArray, List.getElem_cons_zero, List.getElem_cons_succ, List.setIfInBounds_toArray, List.set_cons_zero, List.set_cons_succ]
        refine wpAnyH_take (i := 8) (v := .agg (A8 DD)) rfl (by kernel_rfl) (by kernel_rfl) (by kernel_rfl) (fun _ _ _ h => h) (.inl ⟨rfl, fun W _ => by go_simp⟩) (hc.out _ C2) ?_
        simp only [Act.put, List.getElem_toArray, List.getElem_cons_zero, List.getElem_cons_succ, List.setIfInBounds_toArray, List.set_cons_zero, List.set_cons_succ]
        refine wpAnyH_take (i := 9) (v := .int .i64 ER) rfl (by kernel_rfl) (by kernel_rfl) (by kernel_rfl) (fun _ _ _ h => h) (.inl ⟨rfl, fun W _ => by go_simp⟩) (hc.out _ C2) ?_
        simp only [Act.put, List.getElem_toArray, List.getElem_cons_zero, List.getElem_cons_succ, List.setIfInBounds_toArray, List.set_cons_zero, List.set_cons_succ]
        refine relist #[true, true, true, true, true, true, true, true, true, true, true, false, false] (by kernel_rfl) ?_
        refine any_one (i := 11) (by kernel_rfl) ?_
        refine wpOp_store_D rfl rfl (.tmp 16) (.tmp 106) rfl gd DD rfl rfl Z32 d2 hDl ?_
        intro X hX
        have xD : Hid (Dg X gd DD) := hX.dg hDl
        have xB : Hid (Below V.heap.size V X) := hX.below _ _ hgd C2
        have xA : Hid (Below wA.heap.size wA X) := hX.below _ _ hga A2
        refine ⟨hc.out _ xB.out, ?_⟩
        simp only [Act.put, List.getElem_toArray, List.getElem_cons_zero, List.getElem_cons_succ, List.setIfInBounds_toArray, List.set_cons_zero, List.set_cons_succ]
        refine wpAnyH_take (i := 12) (v := .int .i64 ER) rfl (by kernel_rfl) (by kernel_rfl) (by kernel_rfl) (fun _ _ _ h => h) (.inl ⟨rfl, fun W _ => by go_simp⟩) (hc.out _ xB.out) ?_
        simp only [Act.put, List.getElem_toArray, List.getElem_cons_zero, List.getElem_cons_succ, List.setIfInBounds_toArray, List.set_cons_zero, List.set_cons_succ]
        refine wpAnyH_done (by kernel_rfl) ?_ _
        refine NoPanic.normal ?_
        clear hX d2 C2 A2
        go_wp2_with fail
        go_meet
        case rel => exact ⟨gd, rfl, rfl, xD.out, xA.out, xB.out⟩
    case rest =>
      obtain ⟨gd2, rfl, rfl, dD, bA, bV⟩ := hcut
      have D2 : Hid (Dg wc gd2 DD) := dD
      have D1' : Hid (Dg wc gd1 DD) := D1.out.next bA
      have HBE : Hid (Below V.heap.size V wc) := bV
      clear dD bA bV D1 BC hc
      go_wp2_with (first
        | (with_reducible refine atLoad 25 ?_
           first
             | refine load_D rfl (.tmp 14) rfl gd1 rfl DD D1'.out ?_
             | refine load_D rfl (.tmp 16) rfl gd2 rfl DD D2.out ?_)
        | (with_reducible refine atBin .eql 25 25 ?_
           refine wpList_eql rfl (.tmp 108) (.tmp 109) rfl DD DD hDl hDb hDl hDb rfl rfl ?_
           rw [decide_eq_true rfl]))
      refine (num_any ER wc).mono ?_
      rintro e w5 ⟨rfl, hw5⟩
      rw [hw5]
      clear hw5 w5
      go_wp2_with fail
      go_ret
      exact stepOut_same HP.out HB.out (HB0.out.trans (HBE.out.mono HB0.out.size))
end Go.Proofs.YtcmjlhcpoajbkaaDoor
