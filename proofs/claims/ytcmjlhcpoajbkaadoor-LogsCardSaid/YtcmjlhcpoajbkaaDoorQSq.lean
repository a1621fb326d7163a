import Derived.Test.YtcmjlhcpoajbkaaDoorQSp
import Derived.Test.YtcmjlhcpoajbkaaDoorQBn
import Derived.Test.YtcmjlhcpoajbkaaDoorQLp
namespace Go.Proofs.YtcmjlhcpoajbkaaDoor
set_option maxRecDepth 10000
set_option linter.unusedSimpArgs false
open Go.RowKit
theorem own_view {w : World} {B : Nat} {v : Value} {ds : List (List Int)} (h : Own w B v ds) (hall : ∀ d ∈ ds, d.length = 32 ∧ Bytes d) (h0 : 0 < ds.length) : ∃ g c, v = .slice (some ⟨g, 0, none⟩) ds.length c ∧ D32 w (some ⟨g, 0, none⟩) ds.length c ds := by
  obtain ⟨g, cap, hv, _, hgl, hc, hm, _, hcs⟩ := owns25 h (fun d hd => (hall d hd).1) h0
  exact ⟨g, cap, hv, ⟨rfl, hall, hc, by unfold maxLen at hm; omega, fun _ => ⟨⟨g, 0, none⟩, rfl, hgl, fun k hk j hj => by rw [addr_add, Nat.zero_add]; exact hcs k hk j hj⟩⟩⟩
set_option maxHeartbeats 1000000 in
theorem same_zero (w : World) (p q : Option Addr) (c c' : Nat) : Calls Tryd.prog 64 #[.slice p 0 c, .slice q 0 c'] w fun e w' => e = .returned (.bool true) ∧ Below w.heap.size w w' := by
  go_enter Tryd.func64, Tryd.ntmps64
  go_wp2_with fail
  go_loopw [5] (fun i wr => i = .int .i64 0 ∧ Below w.heap.size w wr) (fun i _ => 0)
  case atStart => exact ⟨rfl, Below.refl _ _⟩
  case round =>
    obtain ⟨rfl, hb⟩ := hrel
    go_wp2_with fail
    go_ret
    exact ⟨rfl, hb⟩
theorem same_own (w : World) (B B' : Nat) (v v' : Value) (ds : List (List Int)) (h : Own w B v ds) (h' : Own w B' v' ds) (hall : ∀ d ∈ ds, d.length = 32 ∧ Bytes d) : Calls Tryd.prog 64 #[v, v'] w fun e w' => e = .returned (.bool true) ∧ Below w.heap.size w w' := by
  rcases Nat.eq_zero_or_pos ds.length with h0 | h0
  · obtain ⟨p, c, rfl, _⟩ := owns_shape h
    obtain ⟨q, c', rfl, _⟩ := owns_shape h'
    rw [h0]
    exact same_zero w p q c c'
  · obtain ⟨g, c, rfl, hd⟩ := own_view h hall h0
    obtain ⟨g', c', rfl, hd'⟩ := own_view h' hall h0
    exact same_any w _ _ _ _ _ ds hd hd'
theorem pathOut_ok (i n : Int) (es : List (List Int)) (hf : es.length ≤ 64) : (∀ d ∈ (pathOut i n es).1, d.length = 32 ∧ Bytes d) ∧ (pathOut i n es).1.length ≤ 1000 := by
  unfold pathOut
  split
  · exact ⟨fun d hd => by simp at hd, by simp⟩
  · exact ⟨pathP_ok _ _, by have := pathP_len i.toNat (es.take n.toNat); rw [List.length_take] at this; show (pathP _ _).length ≤ _; omega⟩
theorem linkOut_ok (i n : Int) (es : List (List Int)) (hf : es.length ≤ 64) : (∀ d ∈ (linkOut i n es).1, d.length = 32 ∧ Bytes d) ∧ (linkOut i n es).1.length ≤ 1000 := by
  unfold linkOut
  split
  · exact ⟨fun d hd => by simp at hd, by simp⟩
  · show (∀ d ∈ linkP i.toNat (es.take n.toNat), _) ∧ (linkP i.toNat (es.take n.toNat)).length ≤ 1000
    unfold linkP
    split
    · exact ⟨fun d hd => by simp at hd, by simp⟩
    · exact ⟨subP_ok _ _ _, by have := subP_len i.toNat (es.take n.toNat) true; rw [List.length_take] at this; omega⟩
set_option maxHeartbeats 16000000 in
theorem step_path (w : World) (hT : Tabs KS HS w) (F G : Nat → Prop) (gp gx gy gb n : Nat) (ev yv kv blv : Value) (key : List Int) (es : List (List Int)) (hP : PairAt w F gp gx gy ev yv kv key es) (hB : BookAt w G gb blv n) (hF : ∀ k, F k → k < w.heap.size) (hG : ∀ k, G k → k < w.heap.size) (hFG : ∀ k, F k → ¬ G k) (hn : n ≤ 4398046511104) (a i m : Int) (bv : Value) :
    Calls Tryd.prog 33 #[.pointer (some ⟨gp, 0, none⟩), opV 4 a i m bv, .pointer (some ⟨gb, 0, none⟩)] w (StepOut w F G gp gy gb n kv key) := by
  have HB : Hid (BookAt w G gb blv n) := hB
  have HP : Hid (PairAt w F gp gx gy ev yv kv key es) := hP
  have HTb : Hid (Tabs KS HS w) := hT
  have HF : Hid (∀ k, F k → k < w.heap.size) := hF
  have HG : Hid (∀ k, G k → k < w.heap.size) := hG
  have HFG : Hid (∀ k, F k → ¬ G k) := hFG
  have hfew := hP.ref.fit.1
  clear hP hB hT hF hG hFG
  have b0 : Below w.heap.size w (w.alloc (.cells #[.int .i64 4, .int .i64 a, .int .i64 i, .int .i64 m, bv] 66)) := (Below.refl _ _).alloc (Nat.le_refl _) _
  have hV := heapN w (.cells #[.int .i64 4, .int .i64 a, .int .i64 i, .int .i64 m, bv] 66) _ rfl
  unfold opV
  go_enter Tryd.func33, Tryd.ntmps33
  go_upto_region 19 with fail
  generalize w.alloc (.cells #[.int .i64 4, .int .i64 a, .int .i64 i, .int .i64 m, bv] 66) = V at *
  have PV := HP.out.below b0
  have cI : V.cell? ⟨w.heap.size, 2, none⟩ = some (.int .i64 i) := by rw [cell_of_row _ _ _ _ _ _ hV]; rfl
  have cN : V.cell? ⟨w.heap.size, 3, none⟩ = some (.int .i64 m) := by rw [cell_of_row _ _ _ _ _ _ hV]; rfl
  have hc : Hid (∀ W : World, Below V.heap.size V W → (W.cell? ⟨gp, 0, none⟩ = some (.pointer (some ⟨gx, 0, none⟩)) ∧ W.cell? ⟨gp, 1, none⟩ = some (.pointer (some ⟨gy, 0, none⟩))) ∧ W.cell? ⟨w.heap.size, 2, none⟩ = some (.int .i64 i) ∧ W.cell? ⟨w.heap.size, 3, none⟩ = some (.int .i64 m)) := fun W hW => ⟨⟨(PV.below hW).c0, (PV.below hW).c1⟩, by rw [hW.cell (block_lt_of_cell cI)]; exact cI, by rw [hW.cell (block_lt_of_cell cN)]; exact cN⟩
  have HPV : Hid (PairAt V F gp gx gy ev yv kv key es) := PV
  have HBV : Hid (BookAt V G gb blv n) := HB.out.below b0
  have hTV : Hid (Tabs KS HS V) := HTb.out.below b0
  have hVs := b0.size
  obtain ⟨hOK, hOL⟩ := pathOut_ok i m es hfew
  obtain ⟨DS, hDS⟩ : ∃ DS, (pathOut i m es).1 = DS := ⟨_, rfl⟩
  obtain ⟨ER, hER⟩ : ∃ ER, (pathOut i m es).2 = ER := ⟨_, rfl⟩
  have HDS : Hid ((pathOut i m es).1 = DS) := hDS
  have HER : Hid ((pathOut i m es).2 = ER) := hER
  rw [hDS] at hOK hOL
  clear hDS hER PV cI cN hV
  obtain ⟨gO, hgO⟩ : ∃ gO, gO = w.heap.size := ⟨_, rfl⟩
  rw [← hgO] at hc ⊢
  clear hgO
  have bD : Below V.heap.size V V.drew := (Below.refl _ _).drew
  have S0 := hc.out _ bD
  refine wp_region_noPanic ?_
  refine wp_region_held (S := fun W => (W.cell? ⟨gp, 0, none⟩ = some (.pointer (some ⟨gx, 0, none⟩)) ∧ W.cell? ⟨gp, 1, none⟩ = some (.pointer (some ⟨gy, 0, none⟩))) ∧ W.cell? ⟨gO, 2, none⟩ = some (.int .i64 i) ∧ W.cell? ⟨gO, 3, none⟩ = some (.int .i64 m)) follows ?_
  refine wpAnyH_take (i := 0) (v := .pointer (some ⟨gp, 0, none⟩)) rfl (by kernel_rfl) (by kernel_rfl) (by kernel_rfl) (fun _ _ _ h => h) (.inl ⟨rfl, fun W _ => by go_simp⟩) S0 ?_
  simp only [Act.put, List.getElem_toArray, List.getElem_cons_zero, List.getElem_cons_succ, List.setIfInBounds_toArray, List.set_cons_zero, List.set_cons_succ]
  refine wpAnyH_take (i := 1) (v := .pointer (some ⟨gp, 0, none⟩)) rfl (by kernel_rfl) (by kernel_rfl) (by kernel_rfl) (fun _ _ _ h => h) (.inl ⟨rfl, fun W _ => by go_simp⟩) S0 ?_
  simp only [Act.put, List.getElem_toArray, List.getElem_cons_zero, List.getElem_cons_succ, List.setIfInBounds_toArray, List.set_cons_zero, List.set_cons_succ]
  refine wpAnyH_take (i := 2) (v := .pointer (some ⟨gp, 0, none⟩)) rfl (by kernel_rfl) (by kernel_rfl) (by kernel_rfl) (fun _ _ _ h => h) (.inl ⟨rfl, fun W _ => by go_simp⟩) S0 ?_
  simp only [Act.put, List.getElem_toArray, List.getElem_cons_zero, List.getElem_cons_succ, List.setIfInBounds_toArray, List.set_cons_zero, List.set_cons_succ]
  refine wpAnyH_take (i := 3) (v := .pointer (some ⟨gx, 0, none⟩)) rfl (by kernel_rfl) (by kernel_rfl) (by kernel_rfl) (fun _ _ _ h => h) (.inl ⟨rfl, fun W hW => by have e := hW.1.1; go_simp⟩) S0 ?_
  simp only [Act.put, List.getElem_toArray, List.getElem_cons_zero, List.getElem_cons_succ, List.setIfInBounds_toArray, List.set_cons_zero, List.set_cons_succ]
  refine wpAnyH_take (i := 4) (v := .pointer (some ⟨gO, 2, none⟩)) rfl (by kernel_rfl) (by kernel_rfl) (by kernel_rfl) (fun _ _ _ h => h) (.inl ⟨rfl, fun W _ => by go_simp⟩) S0 ?_
  simp only [Act.put, List.getElem_toArray, List.getElem_cons_zero, List.getElem_cons_succ, List.setIfInBounds_toArray, List.set_cons_zero, List.set_cons_succ]
  refine wpAnyH_take (i := 5) (v := .int .i64 i) rfl (by kernel_rfl) (by kernel_rfl) (by kernel_rfl) (fun _ _ _ h => h) (.inl ⟨rfl, fun W hW => by have e := hW.2.1; go_simp⟩) S0 ?_
  simp only [Act.put, List.getElem_toArray, List.getElem_cons_zero, List.getElem_cons_succ, List.setIfInBounds_toArray, List.set_cons_zero, List.set_cons_succ]
  refine wpAnyH_take (i := 6) (v := .pointer (some ⟨gO, 3, none⟩)) rfl (by kernel_rfl) (by kernel_rfl) (by kernel_rfl) (fun _ _ _ h => h) (.inl ⟨rfl, fun W _ => by go_simp⟩) S0 ?_
  simp only [Act.put, List.getElem_toArray, List.getElem_cons_zero, List.getElem_cons_succ, List.setIfInBounds_toArray, List.set_cons_zero, List.set_cons_succ]
  refine wpAnyH_take (i := 7) (v := .int .i64 m) rfl (by kernel_rfl) (by kernel_rfl) (by kernel_rfl) (fun _ _ _ h => h) (.inl ⟨rfl, fun W hW => by have e := hW.2.2; go_simp⟩) S0 ?_
  simp only [Act.put, List.getElem_toArray, List.getElem_cons_zero, List.getElem_cons_succ, List.setIfInBounds_toArray, List.set_cons_zero, List.set_cons_succ]
  refine relist #[true, true, true, true, true, true, true, true, false, false, false, false, false, false] (by kernel_rfl) ?_
  refine any_one (i := 8) (by kernel_rfl) ?_
  refine wpOp_call (f := 47) (args := #[.pointer (some ⟨gx, 0, none⟩), .int .i64 i, .int .i64 m]) rfl rfl (by go_simp) ?_
  refine (logPath_any V.drew gx key es i m (hTV.out.below bD) (HPV.out.below bD).log.read).mono ?_
  rintro e y1 ⟨v1, rfl, hO1, c1⟩
  rw [HDS.out] at hO1
  rw [HER.out]
  have C1 : Below V.heap.size V y1 := bD.trans c1
  have HO1 : Hid (Own y1 V.heap.size v1 DS) := hO1
  refine ⟨_, rfl, hc.out _ C1, ?_⟩
  simp only [Act.put, List.getElem_toArray, List.getElem_cons_zero, List.getElem_cons_succ, List.setIfInBounds_toArray, List.set_cons_zero, List.set_cons_succ]
  refine wpAnyH_take (i := 9) (v := .tuple #[v1, .int .i64 ER]) rfl (by kernel_rfl) (by kernel_rfl) (by kernel_rfl) (fun _ _ _ h => h) (.inl ⟨rfl, fun W _ => by go_simp⟩) (hc.out _ C1) ?_
  simp only [Act.put, List.getElem_toArray, List.getElem_cons_zero, List.getElem_cons_succ, List.setIfInBounds_toArray, List.set_cons_zero, List.set_cons_succ]
  refine wpAnyH_take (i := 10) (v := v1) rfl (by kernel_rfl) (by kernel_rfl) (by kernel_rfl) (fun _ _ _ h => h) (.inl ⟨rfl, fun W _ => by go_simp⟩) (hc.out _ C1) ?_
  simp only [Act.put, List.getElem_toArray, List.getElem_cons_zero, List.getElem_cons_succ, List.setIfInBounds_toArray, List.set_cons_zero, List.set_cons_succ]
  refine wpAnyH_take (i := 11) (v := .int .i64 ER) rfl (by kernel_rfl) (by kernel_rfl) (by kernel_rfl) (fun _ _ _ h => h) (.inl ⟨rfl, fun W _ => by go_simp⟩) (hc.out _ C1) ?_
  simp only [Act.put, List.getElem_toArray, List.getElem_cons_zero, List.getElem_cons_succ, List.setIfInBounds_toArray, List.set_cons_zero, List.set_cons_succ]
  refine wpAnyH_take (i := 12) (v := v1) rfl (by kernel_rfl) (by kernel_rfl) (by kernel_rfl) (fun _ _ _ h => h) (.inl ⟨rfl, fun W _ => by go_simp⟩) (hc.out _ C1) ?_
  simp only [Act.put, List.getElem_toArray, List.getElem_cons_zero, List.getElem_cons_succ, List.setIfInBounds_toArray, List.set_cons_zero, List.set_cons_succ]
  refine wpAnyH_take (i := 13) (v := .int .i64 ER) rfl (by kernel_rfl) (by kernel_rfl) (by kernel_rfl) (fun _ _ _ h => h) (.inl ⟨rfl, fun W _ => by go_simp⟩) (hc.out _ C1) ?_
  simp only [Act.put, List.getElem_toArray, List.getElem_cons_zero, List.getElem_cons_succ, List.setIfInBounds_toArray, List.set_cons_zero, List.set_cons_succ]
  refine wpAnyH_done (by kernel_rfl) ?_ _
  refine NoPanic.normal ?_
  clear S0 bD hO1 c1
  go_upto_region 20 with fail
  have bD : Below V.heap.size V y1.drew := C1.drew
  have S0 := hc.out _ bD
  have HO1d : Hid (Own y1.drew V.heap.size v1 DS) := HO1.out.below (Below.refl _ _).drew
  refine wp_region_noPanic ?_
  refine wp_region_held (S := fun W => (W.cell? ⟨gp, 0, none⟩ = some (.pointer (some ⟨gx, 0, none⟩)) ∧ W.cell? ⟨gp, 1, none⟩ = some (.pointer (some ⟨gy, 0, none⟩))) ∧ W.cell? ⟨gO, 2, none⟩ = some (.int .i64 i) ∧ W.cell? ⟨gO, 3, none⟩ = some (.int .i64 m)) follows ?_
  refine wpAnyH_take (i := 0) (v := .pointer (some ⟨gp, 0, none⟩)) rfl (by kernel_rfl) (by kernel_rfl) (by kernel_rfl) (fun _ _ _ h => h) (.inl ⟨rfl, fun W _ => by go_simp⟩) S0 ?_
  simp only [Act.put, List.getElem_toArray, List.getElem_cons_zero, List.getElem_cons_succ, List.setIfInBounds_toArray, List.set_cons_zero, List.set_cons_succ]
  refine wpAnyH_take (i := 1) (v := .pointer (some ⟨gp, 0, none⟩)) rfl (by kernel_rfl) (by kernel_rfl) (by kernel_rfl) (fun _ _ _ h => h) (.inl ⟨rfl, fun W _ => by go_simp⟩) S0 ?_
  simp only [Act.put, List.getElem_toArray, List.getElem_cons_zero, List.getElem_cons_succ, List.setIfInBounds_toArray, List.set_cons_zero, List.set_cons_succ]
  refine wpAnyH_take (i := 2) (v := .pointer (some ⟨gp, 1, none⟩)) rfl (by kernel_rfl) (by kernel_rfl) (by kernel_rfl) (fun _ _ _ h => h) (.inl ⟨rfl, fun W _ => by go_simp⟩) S0 ?_
  simp only [Act.put, List.getElem_toArray, List.getElem_cons_zero, List.getElem_cons_succ, List.setIfInBounds_toArray, List.set_cons_zero, List.set_cons_succ]
  refine wpAnyH_take (i := 3) (v := .pointer (some ⟨gy, 0, none⟩)) rfl (by kernel_rfl) (by kernel_rfl) (by kernel_rfl) (fun _ _ _ h => h) (.inl ⟨rfl, fun W hW => by have e := hW.1.2; go_simp⟩) S0 ?_
  simp only [Act.put, List.getElem_toArray, List.getElem_cons_zero, List.getElem_cons_succ, List.setIfInBounds_toArray, List.set_cons_zero, List.set_cons_succ]
  refine wpAnyH_take (i := 4) (v := .pointer (some ⟨gO, 2, none⟩)) rfl (by kernel_rfl) (by kernel_rfl) (by kernel_rfl) (fun _ _ _ h => h) (.inl ⟨rfl, fun W _ => by go_simp⟩) S0 ?_
  simp only [Act.put, List.getElem_toArray, List.getElem_cons_zero, List.getElem_cons_succ, List.setIfInBounds_toArray, List.set_cons_zero, List.set_cons_succ]
  refine wpAnyH_take (i := 5) (v := .int .i64 i) rfl (by kernel_rfl) (by kernel_rfl) (by kernel_rfl) (fun _ _ _ h => h) (.inl ⟨rfl, fun W hW => by have e := hW.2.1; go_simp⟩) S0 ?_
  simp only [Act.put, List.getElem_toArray, List.getElem_cons_zero, List.getElem_cons_succ, List.setIfInBounds_toArray, List.set_cons_zero, List.set_cons_succ]
  refine wpAnyH_take (i := 6) (v := .pointer (some ⟨gO, 3, none⟩)) rfl (by kernel_rfl) (by kernel_rfl) (by kernel_rfl) (fun _ _ _ h => h) (.inl ⟨rfl, fun W _ => by go_simp⟩) S0 ?_
  simp only [Act.put, List.getElem_toArray, List.getElem_cons_zero, List.getElem_cons_succ, List.setIfInBounds_toArray, List.set_cons_zero, List.set_cons_succ]
  refine wpAnyH_take (i := 7) (v := .int .i64 m) rfl (by kernel_rfl) (by kernel_rfl) (by kernel_rfl) (fun _ _ _ h => h) (.inl ⟨rfl, fun W hW => by have e := hW.2.2; go_simp⟩) S0 ?_
  simp only [Act.put, List.getElem_toArray, List.getElem_cons_zero, List.getElem_cons_succ, List.setIfInBounds_toArray, List.set_cons_zero, List.set_cons_succ]
  refine relist #[true, true, true, true, true, true, true, true, false, false, false, false, false, false] (by kernel_rfl) ?_
  refine any_one (i := 8) (by kernel_rfl) ?_
  refine wpOp_call (f := 72) (args := #[.pointer (some ⟨gy, 0, none⟩), .int .i64 i, .int .i64 m]) rfl rfl (by go_simp) ?_
  refine (refPathM_any y1.drew gy yv (toU key) es i m (HPV.out.below bD).ref).mono ?_
  rintro e y2 ⟨v2, rfl, hO2, c2⟩
  rw [HDS.out] at hO2
  rw [HER.out]
  have C2 : Below V.heap.size V y2 := bD.trans (c2.mono bD.size)
  have HO2 : Hid (Own y2 y1.drew.heap.size v2 DS) := hO2
  have HO12 : Hid (Own y2 V.heap.size v1 DS) := HO1d.out.below c2
  refine ⟨_, rfl, hc.out _ C2, ?_⟩
  simp only [Act.put, List.getElem_toArray, List.getElem_cons_zero, List.getElem_cons_succ, List.setIfInBounds_toArray, List.set_cons_zero, List.set_cons_succ]
  refine wpAnyH_take (i := 9) (v := .tuple #[v2, .int .i64 ER]) rfl (by kernel_rfl) (by kernel_rfl) (by kernel_rfl) (fun _ _ _ h => h) (.inl ⟨rfl, fun W _ => by go_simp⟩) (hc.out _ C2) ?_
  simp only [Act.put, List.getElem_toArray, List.getElem_cons_zero, List.getElem_cons_succ, List.setIfInBounds_toArray, List.set_cons_zero, List.set_cons_succ]
  refine wpAnyH_take (i := 10) (v := v2) rfl (by kernel_rfl) (by kernel_rfl) (by kernel_rfl) (fun _ _ _ h => h) (.inl ⟨rfl, fun W _ => by go_simp⟩) (hc.out _ C2) ?_
  simp only [Act.put, List.getElem_toArray, List.getElem_cons_zero, List.getElem_cons_succ, List.setIfInBounds_toArray, List.set_cons_zero, List.set_cons_succ]
  refine wpAnyH_take (i := 11) (v := .int .i64 ER) rfl (by kernel_rfl) (by kernel_rfl) (by kernel_rfl) (fun _ _ _ h => h) (.inl ⟨rfl, fun W _ => by go_simp⟩) (hc.out _ C2) ?_
  simp only [Act.put, List.getElem_toArray, List.getElem_cons_zero, List.getElem_cons_succ, List.setIfInBounds_toArray, List.set_cons_zero, List.set_cons_succ]
  refine wpAnyH_take (i := 12) (v := v2) rfl (by kernel_rfl) (by kernel_rfl) (by kernel_rfl) (fun _ _ _ h => h) (.inl ⟨rfl, fun W _ => by go_simp⟩) (hc.out _ C2) ?_
  simp only [Act.put, List.getElem_toArray, List.getElem_cons_zero, List.getElem_cons_succ, List.setIfInBounds_toArray, List.set_cons_zero, List.set_cons_succ]
  refine wpAnyH_take (i := 13) (v := .int .i64 ER) rfl (by kernel_rfl) (by kernel_rfl) (by kernel_rfl) (fun _ _ _ h => h) (.inl ⟨rfl, fun W _ => by go_simp⟩) (hc.out _ C2) ?_
  simp only [Act.put, List.getElem_toArray, List.getElem_cons_zero, List.getElem_cons_succ, List.setIfInBounds_toArray, List.set_cons_zero, List.set_cons_succ]
  refine wpAnyH_done (by kernel_rfl) ?_ _
  refine NoPanic.normal ?_
  clear S0 bD hO2 c2 HO1 HO1d C1 hc
  go_wp2_with fail
  refine (same_own y2 _ _ v1 v2 DS HO12.out HO2.out hOK).mono ?_
  rintro e y3 ⟨rfl, c3⟩
  have C3 : Below V.heap.size V y3 := C2.trans (c3.mono C2.size)
  have HO3 : Hid (Own y3 V.heap.size v1 DS) := HO12.out.below c3
  clear c3 HO12 HO2 C2
  go_wp2_with fail
  refine (keep_any y3 G V.heap.size gb n blv v1 DS (HBV.out.below C3) (fun k hk => by have := HG.out k hk; omega) C3.size HO3.out hOL hn).mono ?_
  rintro e y4 ⟨rfl, blv', hB4, hK4⟩
  have HB4 : Hid (BookAt y4 (fun k => G k ∨ V.heap.size ≤ k) gb blv' (n + 1)) := hB4
  have HP4 : Hid (PairAt y4 F gp gx gy ev yv kv key es) := (HPV.out.below C3).frame hK4 (fun k hk hx => by
    rcases hx with hx | hx
    · exact HFG.out k hk hx
    · have := HF.out k hk; omega)
  have HK4 : Hid (Kp (fun k => F k ∨ G k) w y4) := ⟨hK4.os.trans (C3.os.trans b0.os), hK4.tape.trans (C3.tape.trans b0.tape), hK4.output.trans (C3.output.trans b0.output), Nat.le_trans (Nat.le_trans b0.size C3.size) hK4.size, fun k hk hx => (hK4.block k (Nat.lt_of_lt_of_le hk (Nat.le_trans b0.size C3.size)) (fun hx' => by
      rcases hx' with h | h
      · exact hx (.inr h)
      · have := b0.size; omega)).trans ((C3.block k (Nat.lt_of_lt_of_le hk b0.size)).trans (b0.block k (by omega)))⟩
  clear hB4 hK4 C3 HO3
  go_wp2_with fail
  refine (num_any ER y4).mono ?_
  rintro e y5 ⟨rfl, hy5⟩
  rw [hy5]
  clear hy5 y5
  go_wp2_with fail
  go_ret
  exact ⟨rfl, false, gx, ev, yv, es, blv', n + 1, HP4.out.mono (fun k hk => .inl hk), HB4.out.mono (fun k hk => by
    rcases hk with h | h
    · exact .inl h
    · exact .inr ⟨rfl, by omega⟩), Nat.le_refl _, HK4.out⟩
set_option maxHeartbeats 16000000 in
theorem step_link (w : World) (hT : Tabs KS HS w) (F G : Nat → Prop) (gp gx gy gb n : Nat) (ev yv kv blv : Value) (key : List Int) (es : List (List Int)) (hP : PairAt w F gp gx gy ev yv kv key es) (hB : BookAt w G gb blv n) (hF : ∀ k, F k → k < w.heap.size) (hG : ∀ k, G k → k < w.heap.size) (hFG : ∀ k, F k → ¬ G k) (hn : n ≤ 4398046511104) (a i m : Int) (bv : Value) :
    Calls Tryd.prog 33 #[.pointer (some ⟨gp, 0, none⟩), opV 5 a i m bv, .pointer (some ⟨gb, 0, none⟩)] w (StepOut w F G gp gy gb n kv key) := by
  have HB : Hid (BookAt w G gb blv n) := hB
  have HP : Hid (PairAt w F gp gx gy ev yv kv key es) := hP
  have HTb : Hid (Tabs KS HS w) := hT
  have HF : Hid (∀ k, F k → k < w.heap.size) := hF
  have HG : Hid (∀ k, G k → k < w.heap.size) := hG
  have HFG : Hid (∀ k, F k → ¬ G k) := hFG
  have hfew := hP.ref.fit.1
  clear hP hB hT hF hG hFG
  have b0 : Below w.heap.size w (w.alloc (.cells #[.int .i64 5, .int .i64 a, .int .i64 i, .int .i64 m, bv] 66)) := (Below.refl _ _).alloc (Nat.le_refl _) _
  have hV := heapN w (.cells #[.int .i64 5, .int .i64 a, .int .i64 i, .int .i64 m, bv] 66) _ rfl
  unfold opV
  go_enter Tryd.func33, Tryd.ntmps33
  go_upto_region 25 with fail
  generalize w.alloc (.cells #[.int .i64 5, .int .i64 a, .int .i64 i, .int .i64 m, bv] 66) = V at *
  have PV := HP.out.below b0
  have cI : V.cell? ⟨w.heap.size, 2, none⟩ = some (.int .i64 i) := by rw [cell_of_row _ _ _ _ _ _ hV]; rfl
  have cN : V.cell? ⟨w.heap.size, 3, none⟩ = some (.int .i64 m) := by rw [cell_of_row _ _ _ _ _ _ hV]; rfl
  have hc : Hid (∀ W : World, Below V.heap.size V W → (W.cell? ⟨gp, 0, none⟩ = some (.pointer (some ⟨gx, 0, none⟩)) ∧ W.cell? ⟨gp, 1, none⟩ = some (.pointer (some ⟨gy, 0, none⟩))) ∧ W.cell? ⟨w.heap.size, 2, none⟩ = some (.int .i64 i) ∧ W.cell? ⟨w.heap.size, 3, none⟩ = some (.int .i64 m)) := fun W hW => ⟨⟨(PV.below hW).c0, (PV.below hW).c1⟩, by rw [hW.cell (block_lt_of_cell cI)]; exact cI, by rw [hW.cell (block_lt_of_cell cN)]; exact cN⟩
  have HPV : Hid (PairAt V F gp gx gy ev yv kv key es) := PV
  have HBV : Hid (BookAt V G gb blv n) := HB.out.below b0
  have hTV : Hid (Tabs KS HS V) := HTb.out.below b0
  have hVs := b0.size
  obtain ⟨hOK, hOL⟩ := linkOut_ok i m es hfew
  obtain ⟨DS, hDS⟩ : ∃ DS, (linkOut i m es).1 = DS := ⟨_, rfl⟩
  obtain ⟨ER, hER⟩ : ∃ ER, (linkOut i m es).2 = ER := ⟨_, rfl⟩
  have HDS : Hid ((linkOut i m es).1 = DS) := hDS
  have HER : Hid ((linkOut i m es).2 = ER) := hER
  rw [hDS] at hOK hOL
  clear hDS hER PV cI cN hV
  obtain ⟨gO, hgO⟩ : ∃ gO, gO = w.heap.size := ⟨_, rfl⟩
  rw [← hgO] at hc ⊢
  clear hgO
  have bD : Below V.heap.size V V.drew := (Below.refl _ _).drew
  have S0 := hc.out _ bD
  refine wp_region_noPanic ?_
  refine wp_region_held (S := fun W => (W.cell? ⟨gp, 0, none⟩ = some (.pointer (some ⟨gx, 0, none⟩)) ∧ W.cell? ⟨gp, 1, none⟩ = some (.pointer (some ⟨gy, 0, none⟩))) ∧ W.cell? ⟨gO, 2, none⟩ = some (.int .i64 i) ∧ W.cell? ⟨gO, 3, none⟩ = some (.int .i64 m)) follows ?_
  refine wpAnyH_take (i := 0) (v := .pointer (some ⟨gp, 0, none⟩)) rfl (by kernel_rfl) (by kernel_rfl) (by kernel_rfl) (fun _ _ _ h => h) (.inl ⟨rfl, fun W _ => by go_simp⟩) S0 ?_
  simp only [Act.put, List.getElem_toArray, List.getElem_cons_zero, List.getElem_cons_succ, List.setIfInBounds_toArray, List.set_cons_zero, List.set_cons_succ]
  refine wpAnyH_take (i := 1) (v := .pointer (some ⟨gp, 0, none⟩)) rfl (by kernel_rfl) (by kernel_rfl) (by kernel_rfl) (fun _ _ _ h => h) (.inl ⟨rfl, fun W _ => by go_simp⟩) S0 ?_
  simp only [Act.put, List.getElem_toArray, List.getElem_cons_zero, List.getElem_cons_succ, List.setIfInBounds_toArray, List.set_cons_zero, List.set_cons_succ]
  refine wpAnyH_take (i := 2) (v := .pointer (some ⟨gp, 0, none⟩)) rfl (by kernel_rfl) (by kernel_rfl) (by kernel_rfl) (fun _ _ _ h => h) (.inl ⟨rfl, fun W _ => by go_simp⟩) S0 ?_
  simp only [Act.put, List.getElem_toArray, List.getElem_cons_zero, List.getElem_cons_succ, List.setIfInBounds_toArray, List.set_cons_zero, List.set_cons_succ]
  refine wpAnyH_take (i := 3) (v := .pointer (some ⟨gx, 0, none⟩)) rfl (by kernel_rfl) (by kernel_rfl) (by kernel_rfl) (fun _ _ _ h => h) (.inl ⟨rfl, fun W hW => by have e := hW.1.1; go_simp⟩) S0 ?_
  simp only [Act.put, List.getElem_toArray, List.getElem_cons_zero, List.getElem_cons_succ, List.setIfInBounds_toArray, List.set_cons_zero, List.set_cons_succ]
  refine wpAnyH_take (i := 4) (v := .pointer (some ⟨gO, 2, none⟩)) rfl (by kernel_rfl) (by kernel_rfl) (by kernel_rfl) (fun _ _ _ h => h) (.inl ⟨rfl, fun W _ => by go_simp⟩) S0 ?_
  simp only [Act.put, List.getElem_toArray, List.getElem_cons_zero, List.getElem_cons_succ, List.setIfInBounds_toArray, List.set_cons_zero, List.set_cons_succ]
  refine wpAnyH_take (i := 5) (v := .int .i64 i) rfl (by kernel_rfl) (by kernel_rfl) (by kernel_rfl) (fun _ _ _ h => h) (.inl ⟨rfl, fun W hW => by have e := hW.2.1; go_simp⟩) S0 ?_
  simp only [Act.put, List.getElem_toArray, List.getElem_cons_zero, List.getElem_cons_succ, List.setIfInBounds_toArray, List.set_cons_zero, List.set_cons_succ]
  refine wpAnyH_take (i := 6) (v := .pointer (some ⟨gO, 3, none⟩)) rfl (by kernel_rfl) (by kernel_rfl) (by kernel_rfl) (fun _ _ _ h => h) (.inl ⟨rfl, fun W _ => by go_simp⟩) S0 ?_
  simp only [Act.put, List.getElem_toArray, List.getElem_cons_zero, List.getElem_cons_succ, List.setIfInBounds_toArray, List.set_cons_zero, List.set_cons_succ]
  refine wpAnyH_take (i := 7) (v := .int .i64 m) rfl (by kernel_rfl) (by kernel_rfl) (by kernel_rfl) (fun _ _ _ h => h) (.inl ⟨rfl, fun W hW => by have e := hW.2.2; go_simp⟩) S0 ?_
  simp only [Act.put, List.getElem_toArray, List.getElem_cons_zero, List.getElem_cons_succ, List.setIfInBounds_toArray, List.set_cons_zero, List.set_cons_succ]
  refine relist #[true, true, true, true, true, true, true, true, false, false, false, false, false, false] (by kernel_rfl) ?_
  refine any_one (i := 8) (by kernel_rfl) ?_
  refine wpOp_call (f := 49) (args := #[.pointer (some ⟨gx, 0, none⟩), .int .i64 i, .int .i64 m]) rfl rfl (by go_simp) ?_
  refine (logLink_any V.drew gx key es i m (hTV.out.below bD) (HPV.out.below bD).log.read).mono ?_
  rintro e y1 ⟨v1, rfl, hO1, c1⟩
  rw [HDS.out] at hO1
  rw [HER.out]
  have C1 : Below V.heap.size V y1 := bD.trans c1
  have HO1 : Hid (Own y1 V.heap.size v1 DS) := hO1
  refine ⟨_, rfl, hc.out _ C1, ?_⟩
  simp only [Act.put, List.getElem_toArray, List.getElem_cons_zero, List.getElem_cons_succ, List.setIfInBounds_toArray, List.set_cons_zero, List.set_cons_succ]
  refine wpAnyH_take (i := 9) (v := .tuple #[v1, .int .i64 ER]) rfl (by kernel_rfl) (by kernel_rfl) (by kernel_rfl) (fun _ _ _ h => h) (.inl ⟨rfl, fun W _ => by go_simp⟩) (hc.out _ C1) ?_
  simp only [Act.put, List.getElem_toArray, List.getElem_cons_zero, List.getElem_cons_succ, List.setIfInBounds_toArray, List.set_cons_zero, List.set_cons_succ]
  refine wpAnyH_take (i := 10) (v := v1) rfl (by kernel_rfl) (by kernel_rfl) (by kernel_rfl) (fun _ _ _ h => h) (.inl ⟨rfl, fun W _ => by go_simp⟩) (hc.out _ C1) ?_
  simp only [Act.put, List.getElem_toArray, List.getElem_cons_zero, List.getElem_cons_succ, List.setIfInBounds_toArray, List.set_cons_zero, List.set_cons_succ]
  refine wpAnyH_take (i := 11) (v := .int .i64 ER) rfl (by kernel_rfl) (by kernel_rfl) (by kernel_rfl) (fun _ _ _ h => h) (.inl ⟨rfl, fun W _ => by go_simp⟩) (hc.out _ C1) ?_
  simp only [Act.put, List.getElem_toArray, List.getElem_cons_zero, List.getElem_cons_succ, List.setIfInBounds_toArray, List.set_cons_zero, List.set_cons_succ]
  refine wpAnyH_take (i := 12) (v := v1) rfl (by kernel_rfl) (by kernel_rfl) (by kernel_rfl) (fun _ _ _ h => h) (.inl ⟨rfl, fun W _ => by go_simp⟩) (hc.out _ C1) ?_
  simp only [Act.put, List.getElem_toArray, List.getElem_cons_zero, List.getElem_cons_succ, List.setIfInBounds_toArray, List.set_cons_zero, List.set_cons_succ]
  refine wpAnyH_take (i := 13) (v := .int .i64 ER) rfl (by kernel_rfl) (by kernel_rfl) (by kernel_rfl) (fun _ _ _ h => h) (.inl ⟨rfl, fun W _ => by go_simp⟩) (hc.out _ C1) ?_
  simp only [Act.put, List.getElem_toArray, List.getElem_cons_zero, List.getElem_cons_succ, List.setIfInBounds_toArray, List.set_cons_zero, List.set_cons_succ]
  refine wpAnyH_done (by kernel_rfl) ?_ _
  refine NoPanic.normal ?_
  clear S0 bD hO1 c1
  go_upto_region 26 with fail
  have bD : Below V.heap.size V y1.drew := C1.drew
  have S0 := hc.out _ bD
  have HO1d : Hid (Own y1.drew V.heap.size v1 DS) := HO1.out.below (Below.refl _ _).drew
  refine wp_region_noPanic ?_
  refine wp_region_held (S := fun W => (W.cell? ⟨gp, 0, none⟩ = some (.pointer (some ⟨gx, 0, none⟩)) ∧ W.cell? ⟨gp, 1, none⟩ = some (.pointer (some ⟨gy, 0, none⟩))) ∧ W.cell? ⟨gO, 2, none⟩ = some (.int .i64 i) ∧ W.cell? ⟨gO, 3, none⟩ = some (.int .i64 m)) follows ?_
  refine wpAnyH_take (i := 0) (v := .pointer (some ⟨gp, 0, none⟩)) rfl (by kernel_rfl) (by kernel_rfl) (by kernel_rfl) (fun _ _ _ h => h) (.inl ⟨rfl, fun W _ => by go_simp⟩) S0 ?_
  simp only [Act.put, List.getElem_toArray, List.getElem_cons_zero, List.getElem_cons_succ, List.setIfInBounds_toArray, List.set_cons_zero, List.set_cons_succ]
  refine wpAnyH_take (i := 1) (v := .pointer (some ⟨gp, 0, none⟩)) rfl (by kernel_rfl) (by kernel_rfl) (by kernel_rfl) (fun _ _ _ h => h) (.inl ⟨rfl, fun W _ => by go_simp⟩) S0 ?_
  simp only [Act.put, List.getElem_toArray, List.getElem_cons_zero, List.getElem_cons_succ, List.setIfInBounds_toArray, List.set_cons_zero, List.set_cons_succ]
  refine wpAnyH_take (i := 2) (v := .pointer (some ⟨gp, 1, none⟩)) rfl (by kernel_rfl) (by kernel_rfl) (by kernel_rfl) (fun _ _ _ h => h) (.inl ⟨rfl, fun W _ => by go_simp⟩) S0 ?_
  simp only [Act.put, List.getElem_toArray, List.getElem_cons_zero, List.getElem_cons_succ, List.setIfInBounds_toArray, List.set_cons_zero, List.set_cons_succ]
  refine wpAnyH_take (i := 3) (v := .pointer (some ⟨gy, 0, none⟩)) rfl (by kernel_rfl) (by kernel_rfl) (by kernel_rfl) (fun _ _ _ h => h) (.inl ⟨rfl, fun W hW => by have e := hW.1.2; go_simp⟩) S0 ?_
  simp only [Act.put, List.getElem_toArray, List.getElem_cons_zero, List.getElem_cons_succ, List.setIfInBounds_toArray, List.set_cons_zero, List.set_cons_succ]
  refine wpAnyH_take (i := 4) (v := .pointer (some ⟨gO, 2, none⟩)) rfl (by kernel_rfl) (by kernel_rfl) (by kernel_rfl) (fun _ _ _ h => h) (.inl ⟨rfl, fun W _ => by go_simp⟩) S0 ?_
  simp only [Act.put, List.getElem_toArray, List.getElem_cons_zero, List.getElem_cons_succ, List.setIfInBounds_toArray, List.set_cons_zero, List.set_cons_succ]
  refine wpAnyH_take (i := 5) (v := .int .i64 i) rfl (by kernel_rfl) (by kernel_rfl) (by kernel_rfl) (fun _ _ _ h => h) (.inl ⟨rfl, fun W hW => by have e := hW.2.1; go_simp⟩) S0 ?_
  simp only [Act.put, List.getElem_toArray, List.getElem_cons_zero, List.getElem_cons_succ, List.setIfInBounds_toArray, List.set_cons_zero, List.set_cons_succ]
  refine wpAnyH_take (i := 6) (v := .pointer (some ⟨gO, 3, none⟩)) rfl (by kernel_rfl) (by kernel_rfl) (by kernel_rfl) (fun _ _ _ h => h) (.inl ⟨rfl, fun W _ => by go_simp⟩) S0 ?_
  simp only [Act.put, List.getElem_toArray, List.getElem_cons_zero, List.getElem_cons_succ, List.setIfInBounds_toArray, List.set_cons_zero, List.set_cons_succ]
  refine wpAnyH_take (i := 7) (v := .int .i64 m) rfl (by kernel_rfl) (by kernel_rfl) (by kernel_rfl) (fun _ _ _ h => h) (.inl ⟨rfl, fun W hW => by have e := hW.2.2; go_simp⟩) S0 ?_
  simp only [Act.put, List.getElem_toArray, List.getElem_cons_zero, List.getElem_cons_succ, List.setIfInBounds_toArray, List.set_cons_zero, List.set_cons_succ]
  refine relist #[true, true, true, true, true, true, true, true, false, false, false, false, false, false] (by kernel_rfl) ?_
  refine any_one (i := 8) (by kernel_rfl) ?_
  refine wpOp_call (f := 74) (args := #[.pointer (some ⟨gy, 0, none⟩), .int .i64 i, .int .i64 m]) rfl rfl (by go_simp) ?_
  refine (refLinkM_any y1.drew gy yv (toU key) es i m (HPV.out.below bD).ref).mono ?_
  rintro e y2 ⟨v2, rfl, hO2, c2⟩
  rw [HDS.out] at hO2
  rw [HER.out]
  have C2 : Below V.heap.size V y2 := bD.trans (c2.mono bD.size)
  have HO2 : Hid (Own y2 y1.drew.heap.size v2 DS) := hO2
  have HO12 : Hid (Own y2 V.heap.size v1 DS) := HO1d.out.below c2
  refine ⟨_, rfl, hc.out _ C2, ?_⟩
  simp only [Act.put, List.getElem_toArray, List.getElem_cons_zero, List.getElem_cons_succ, List.setIfInBounds_toArray, List.set_cons_zero, List.set_cons_succ]
  refine wpAnyH_take (i := 9) (v := .tuple #[v2, .int .i64 ER]) rfl (by kernel_rfl) (by kernel_rfl) (by kernel_rfl) (fun _ _ _ h => h) (.inl ⟨rfl, fun W _ => by go_simp⟩) (hc.out _ C2) ?_
  simp only [Act.put, List.getElem_toArray, List.getElem_cons_zero, List.getElem_cons_succ, List.setIfInBounds_toArray, List.set_cons_zero, List.set_cons_succ]
  refine wpAnyH_take (i := 10) (v := v2) rfl (by kernel_rfl) (by kernel_rfl) (by kernel_rfl) (fun _ _ _ h => h) (.inl ⟨rfl, fun W _ => by go_simp⟩) (hc.out _ C2) ?_
  simp only [Act.put, List.getElem_toArray, List.getElem_cons_zero, List.getElem_cons_succ, List.setIfInBounds_toArray, List.set_cons_zero, List.set_cons_succ]
  refine wpAnyH_take (i := 11) (v := .int .i64 ER) rfl (by kernel_rfl) (by kernel_rfl) (by kernel_rfl) (fun _ _ _ h => h) (.inl ⟨rfl, fun W _ => by go_simp⟩) (hc.out _ C2) ?_
  simp only [Act.put, List.getElem_toArray, List.getElem_cons_zero, List.getElem_cons_succ, List.setIfInBounds_toArray, List.set_cons_zero, List.set_cons_succ]
  refine wpAnyH_take (i := 12) (v := v2) rfl (by kernel_rfl) (by kernel_rfl) (by kernel_rfl) (fun _ _ _ h => h) (.inl ⟨rfl, fun W _ => by go_simp⟩) (hc.out _ C2) ?_
  simp only [Act.put, List.getElem_toArray, List.getElem_cons_zero, List.getElem_cons_succ, List.setIfInBounds_toArray, List.set_cons_zero, List.set_cons_succ]
  refine wpAnyH_take (i := 13) (v := .int .i64 ER) rfl (by kernel_rfl) (by kernel_rfl) (by kernel_rfl) (fun _ _ _ h => h) (.inl ⟨rfl, fun W _ => by go_simp⟩) (hc.out _ C2) ?_
  simp only [Act.put, List.getElem_toArray, List.getElem_cons_zero, List.getElem_cons_succ, List.setIfInBounds_toArray, List.set_cons_zero, List.set_cons_succ]
  refine wpAnyH_done (by kernel_rfl) ?_ _
  refine NoPanic.normal ?_
  clear S0 bD hO2 c2 HO1 HO1d C1 hc
  go_wp2_with fail
  refine (same_own y2 _ _ v1 v2 DS HO12.out HO2.out hOK).mono ?_
  rintro e y3 ⟨rfl, c3⟩
  have C3 : Below V.heap.size V y3 := C2.trans (c3.mono C2.size)
  have HO3 : Hid (Own y3 V.heap.size v1 DS) := HO12.out.below c3
  clear c3 HO12 HO2 C2
  go_wp2_with fail
  refine (keep_any y3 G V.heap.size gb n blv v1 DS (HBV.out.below C3) (fun k hk => by have := HG.out k hk; omega) C3.size HO3.out hOL hn).mono ?_
  rintro e y4 ⟨rfl, blv', hB4, hK4⟩
  have HB4 : Hid (BookAt y4 (fun k => G k ∨ V.heap.size ≤ k) gb blv' (n + 1)) := hB4
  have HP4 : Hid (PairAt y4 F gp gx gy ev yv kv key es) := (HPV.out.below C3).frame hK4 (fun k hk hx => by
    rcases hx with hx | hx
    · exact HFG.out k hk hx
    · have := HF.out k hk; omega)
  have HK4 : Hid (Kp (fun k => F k ∨ G k) w y4) := ⟨hK4.os.trans (C3.os.trans b0.os), hK4.tape.trans (C3.tape.trans b0.tape), hK4.output.trans (C3.output.trans b0.output), Nat.le_trans (Nat.le_trans b0.size C3.size) hK4.size, fun k hk hx => (hK4.block k (Nat.lt_of_lt_of_le hk (Nat.le_trans b0.size C3.size)) (fun hx' => by
      rcases hx' with h | h
      · exact hx (.inr h)
      · have := b0.size; omega)).trans ((C3.block k (Nat.lt_of_lt_of_le hk b0.size)).trans (b0.block k (by omega)))⟩
  clear hB4 hK4 C3 HO3
  go_wp2_with fail
  refine (num_any ER y4).mono ?_
  rintro e y5 ⟨rfl, hy5⟩
  rw [hy5]
  clear hy5 y5
  go_wp2_with fail
  go_ret
  exact ⟨rfl, false, gx, ev, yv, es, blv', n + 1, HP4.out.mono (fun k hk => .inl hk), HB4.out.mono (fun k hk => by
    rcases hk with h | h
    · exact .inl h
    · exact .inr ⟨rfl, by omega⟩), Nat.le_refl _, HK4.out⟩
end Go.Proofs.YtcmjlhcpoajbkaaDoor
