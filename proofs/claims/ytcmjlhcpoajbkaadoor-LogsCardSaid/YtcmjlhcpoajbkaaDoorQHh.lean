import Derived.Test.YtcmjlhcpoajbkaaDoorQAp
import Derived.Test.YtcmjlhcpoajbkaaDoorQLs
import Derived.Test.YtcmjlhcpoajbkaaDoorQTx
namespace Go.Proofs.YtcmjlhcpoajbkaaDoor
set_option maxRecDepth 10000
set_option linter.unusedSimpArgs false
open Go.RowKit
theorem zeroHead : (headCells 0 Z32 Z32).size = 65 := headCells_size 0 Z32 Z32 rfl rfl
theorem head_one (n : Int) (R T : List Int) : (headCells n R T).all (·.oneCell') = true := by
  simp [headCells, Value.oneCell']
section
variable {ops : Array Oper} {o : Oper} {a : Act} {w : World} {Q : Exit → Act → World → Prop} {S : World → Prop}
theorem yields_build_head (hw : Region.wanted o (yielded ops a.tmps) = true) (x y z : Operand) (ho : o.op = .build 42 #[(0, x), (1, y), (2, z)])
    (n : Int) (R T : List Int) (hx : a.eval x = .int .i64 n) (hy : a.eval y = .agg (A8 R)) (hz : a.eval z = .agg (A8 T)) (hR : R.length = 32) (hT : T.length = 32) : YieldsIf Tryd.prog ops S o (.agg (headCells n R T)) a :=
  .inl ⟨hw, fun w _ => by
    have hr := build_head n R T hR hT w
    unfold execOp
    simp only [ho, Sem.run_bind, Sem.run_pure, Result.andThen_ok, List.map_toArray, List.map_cons, List.map_nil, hx, hy, hz, hr]⟩
theorem wpOp_store_H {i : Nat} {K : Act → World → Prop} (hi : ops[i]? = some o) (hgd : o.guard = none) (x y : Operand) (ho : o.op = .store 42 x y) (g : Nat) (C C0 : Array Value) (hx : a.eval x = .pointer (some ⟨g, 0, none⟩)) (hy : a.eval y = .agg C) (h0 : w.heap[g]? = some (.cells C0 42))
    (hC : C.size = 65) (hC0 : C0.size = 65) (h1 : C.all (·.oneCell') = true) (h : ∀ W, Stored w W g C 42 → K (a.put o.dst undef) W) : wpOp Tryd.prog ops Q i K a w :=
  wpOp_store_W hi hgd 42 x y ho g C hx hy 42 C0 h0 (by rw [info42, hC]) (by rw [hC0, hC]) h1 h
end
/-- The head of a log. -/
def headP (key : List Int) (es : List (List Int)) : Array Value := headCells es.length (rootP es) (signP key es.length (rootP es))
set_option maxHeartbeats 4000000 in
theorem logHead_any (w : World) (g : Nat) (key : List Int) (es : List (List Int)) (hT : Tabs KS HS w) (hL : LogR w g key es) :
    Calls Tryd.prog 35 #[.pointer (some ⟨g, 0, none⟩)] w fun e w' => e = .returned (.agg (headP key es)) ∧ Below w.heap.size w w' := by
  obtain ⟨⟨kp, kn, kc, hk, hI⟩, ⟨ep, ec, he, hE, hnil⟩, hfew⟩ := hL
  have hb0 : Below w.heap.size w (w.alloc (.cells (headCells 0 Z32 Z32) 42)) := (Below.refl _ _).alloc (Nat.le_refl _) _
  have hz0 := heapN w (.cells (headCells 0 Z32 Z32) 42) _ rfl
  obtain ⟨V, hV⟩ : ∃ V, V = w.alloc (.cells (headCells 0 Z32 Z32) 42) := ⟨_, rfl⟩
  have hkV : V.cell? ⟨g, 0, none⟩ = some (.slice kp kn kc) := by rw [hV]; exact cell_alloc hk _
  have heV : V.cell? ⟨g, 1, none⟩ = some (.slice ep es.length ec) := by rw [hV]; exact cell_alloc he _
  rw [← hV] at hb0 hz0
  have hgl : g < w.heap.size := block_lt_of_cell hk
  have lV := row_lt hz0
  have hTV := hT.below hb0
  have hEV := hE.below hb0
  have hIV := hI.below hb0
  clear hk he hE hI
  obtain ⟨hRl, hRb⟩ := rootP_ok es
  have HH : Hid (headP key es = headCells es.length (rootP es) (signP key es.length (rootP es))) := rfl
  go_enter Tryd.func35, Tryd.ntmps35
  go_wp2_with fail
  go_cut [3, 4] (fun s3 s4 wc => ∃ gd, s3 = .int .i64 es.length ∧ s4 = .pointer (some ⟨gd, 0, none⟩) ∧ Dg wc gd (rootP es) ∧ V.heap.size ≤ gd ∧ Below V.heap.size V wc)
  case first =>
    have S0 : V.drew.cell? ⟨g, 1, none⟩ = some (.slice ep es.length ec) := heV
    have bV : Below V.heap.size V V.drew := (Below.refl _ _).drew
    have eR : Hid (∀ W : World, Below V.heap.size V W → Calls Tryd.prog 76 #[.slice ep es.length ec] W fun e w' => e = .returned (.agg (A8 (rootP es))) ∧ Below W.heap.size W w') := fun W hW => troot_any es.length ep ec es W (hTV.below hW) (hEV.below hW)
    have hc : Hid (∀ W : World, Below V.heap.size V W → W.cell? ⟨g, 1, none⟩ = some (.slice ep es.length ec)) := fun W hW => by rw [hW.cell (p := ⟨g, 1, none⟩) (by simp; omega)]; exact heV
    generalize rootP es = R at *
    refine wp_region_noPanic ?_
    refine wp_region_held (S := fun W => W.cell? ⟨g, 1, none⟩ = some (.slice ep es.length ec)) follows ?_
    rw [hV] at S0
    refine wpAnyH_take (i := 0) (v := .pointer (some ⟨g, 0, none⟩)) rfl (by kernel_rfl) (by kernel_rfl) (by kernel_rfl) (fun _ _ _ h => h) (.inl ⟨rfl, fun W _ => by go_simp⟩) S0 ?_
    simp only [Act.put, List.getElem_toArray, List.getElem_cons_zero, List.getElem_cons_succ, List.setIfInBounds_toArray, List.set_cons_zero, List.set_cons_succ]
    refine wpAnyH_take (i := 1) (v := .pointer (some ⟨g, 0, none⟩)) rfl (by kernel_rfl) (by kernel_rfl) (by kernel_rfl) (fun _ _ _ h => h) (.inl ⟨rfl, fun W _ => by go_simp⟩) S0 ?_
    simp only [Act.put, List.getElem_toArray, List.getElem_cons_zero, List.getElem_cons_succ, List.setIfInBounds_toArray, List.set_cons_zero, List.set_cons_succ]
    refine wpAnyH_take (i := 2) (v := .pointer (some ⟨g, 1, none⟩)) rfl (by kernel_rfl) (by kernel_rfl) (by kernel_rfl) (fun _ _ _ h => h) (.inl ⟨rfl, fun W _ => by go_simp⟩) S0 ?_
    simp only [Act.put, List.getElem_toArray, List.getElem_cons_zero, List.getElem_cons_succ, List.setIfInBounds_toArray, List.set_cons_zero, List.set_cons_succ]
    refine wpAnyH_take (i := 3) (v := .slice ep es.length ec) rfl (by kernel_rfl) (by kernel_rfl) (by kernel_rfl) (fun _ _ _ h => h) (.inl ⟨rfl, fun W hW => by have e : W.cell? ⟨g, 1, none⟩ = some (.slice ep es.length ec) := hW; go_simp⟩) S0 ?_
    simp only [Act.put, List.getElem_toArray, List.getElem_cons_zero, List.getElem_cons_succ, List.setIfInBounds_toArray, List.set_cons_zero, List.set_cons_succ]
    refine wpAnyH_take (i := 4) (v := .int .i64 es.length) rfl (by kernel_rfl) (by kernel_rfl) (by kernel_rfl) (fun _ _ _ h => h) (.inl ⟨rfl, fun W _ => by go_simp⟩) S0 ?_
    simp only [Act.put, List.getElem_toArray, List.getElem_cons_zero, List.getElem_cons_succ, List.setIfInBounds_toArray, List.set_cons_zero, List.set_cons_succ]
    refine wpAnyH_take (i := 5) (v := .pointer (some ⟨g, 0, none⟩)) rfl (by kernel_rfl) (by kernel_rfl) (by kernel_rfl) (fun _ _ _ h => h) (.inl ⟨rfl, fun W _ => by go_simp⟩) S0 ?_
    simp only [Act.put, List.getElem_toArray, List.getElem_cons_zero, List.getElem_cons_succ, List.setIfInBounds_toArray, List.set_cons_zero, List.set_cons_succ]
    refine wpAnyH_take (i := 6) (v := .pointer (some ⟨g, 0, none⟩)) rfl (by kernel_rfl) (by kernel_rfl) (by kernel_rfl) (fun _ _ _ h => h) (.inl ⟨rfl, fun W _ => by go_simp⟩) S0 ?_
    simp only [Act.put, List.getElem_toArray, List.getElem_cons_zero, List.getElem_cons_succ, List.setIfInBounds_toArray, List.set_cons_zero, List.set_cons_succ]
    refine wpAnyH_take (i := 7) (v := .pointer (some ⟨g, 1, none⟩)) rfl (by kernel_rfl) (by kernel_rfl) (by kernel_rfl) (fun _ _ _ h => h) (.inl ⟨rfl, fun W _ => by go_simp⟩) S0 ?_
    simp only [Act.put, List.getElem_toArray, List.getElem_cons_zero, List.getElem_cons_succ, List.setIfInBounds_toArray, List.set_cons_zero, List.set_cons_succ]
    refine wpAnyH_take (i := 8) (v := .slice ep es.length ec) rfl (by kernel_rfl) (by kernel_rfl) (by kernel_rfl) (fun _ _ _ h => h) (.inl ⟨rfl, fun W hW => by have e : W.cell? ⟨g, 1, none⟩ = some (.slice ep es.length ec) := hW; go_simp⟩) S0 ?_
    simp only [Act.put, List.getElem_toArray, List.getElem_cons_zero, List.getElem_cons_succ, List.setIfInBounds_toArray, List.set_cons_zero, List.set_cons_succ]
    refine relist #[true, true, true, true, true, true, true, true, true, false, false, false, false] (by kernel_rfl) ?_
    rw [← hV] at S0
    refine reworld (w' := V.drew) (by rw [hV]; rfl) ?_
    refine any_two (i := 9) (j := 10) (by kernel_rfl) ?_ ?_
    · refine wpOp_call (f := 76) (args := #[.slice ep es.length ec]) rfl rfl (by go_simp) ?_
      refine (eR.out _ bV).mono ?_
      rintro e y1 ⟨rfl, b1⟩
      have B1 : Below V.heap.size V y1 := bV.trans b1
      have h1 := B1.size
      refine ⟨_, rfl, hc.out _ B1, ?_⟩
      simp only [Act.put, List.getElem_toArray, List.getElem_cons_zero, List.getElem_cons_succ, List.setIfInBounds_toArray, List.set_cons_zero, List.set_cons_succ]
      refine relist #[true, true, true, true, true, true, true, true, true, true, false, false, false] (by kernel_rfl) ?_
      refine any_one (i := 10) (by kernel_rfl) ?_
      refine wpOp_val (v := .pointer (some ⟨y1.heap.size, 0, none⟩)) (w' := y1.alloc (.cells Z8x32 25)) rfl rfl (by unfold Z8x32; go_simp) ?_
      have B2 : Below V.heap.size V (y1.alloc (.cells Z8x32 25)) := B1.alloc h1 _
      have d2 : Dg (y1.alloc (.cells Z8x32 25)) y1.heap.size Z32 := Dg.new _ _ rfl
      refine ⟨hc.out _ B2, ?_⟩
      simp only [Act.put, List.getElem_toArray, List.getElem_cons_zero, List.getElem_cons_succ, List.setIfInBounds_toArray, List.set_cons_zero, List.set_cons_succ]
      refine wpAnyH_take (i := 11) (v := .int .i64 es.length) rfl (by kernel_rfl) (by kernel_rfl) (by kernel_rfl) (fun _ _ _ h => h) (.inl ⟨rfl, fun W _ => by go_simp⟩) (hc.out _ B2) ?_
      simp only [Act.put, List.getElem_toArray, List.getElem_cons_zero, List.getElem_cons_succ, List.setIfInBounds_toArray, List.set_cons_zero, List.set_cons_succ]
      refine relist #[true, true, true, true, true, true, true, true, true, true, true, true, false] (by kernel_rfl) ?_
      generalize y1.alloc (.cells Z8x32 25) = y2 at *
      generalize y1.heap.size = gd at *
      refine any_one (i := 12) (by kernel_rfl) ?_
      refine wpOp_store_D rfl rfl (.tmp 4) (.tmp 14) rfl gd R rfl rfl Z32 d2 hRl ?_
      intro X hX
      have xD : Hid (Dg X gd R) := hX.dg hRl
      have xB : Hid (Below V.heap.size V X) := hX.below _ _ h1 B2
      refine ⟨hc.out _ xB.out, ?_⟩
      simp only [Act.put, List.getElem_toArray, List.getElem_cons_zero, List.getElem_cons_succ, List.setIfInBounds_toArray, List.set_cons_zero, List.set_cons_succ]
      refine wpAnyH_done (by kernel_rfl) ?_ _
      refine NoPanic.normal ?_
      clear hX d2 B2 B1 b1 S0
      go_wp2_with fail
      go_meet
      case rel => exact ⟨gd, rfl, rfl, xD.out, h1, xB.out⟩
    · refine wpOp_val (v := .pointer (some ⟨V.drew.heap.size, 0, none⟩)) (w' := V.drew.alloc (.cells Z8x32 25)) rfl rfl (by unfold Z8x32; go_simp) ?_
      have B1 : Below V.heap.size V (V.drew.alloc (.cells Z8x32 25)) := bV.alloc (Nat.le_refl _) _
      have d1 : Dg (V.drew.alloc (.cells Z8x32 25)) V.drew.heap.size Z32 := Dg.new _ _ rfl
      have h1 : V.heap.size ≤ V.drew.heap.size := Nat.le_refl _
      refine ⟨hc.out _ B1, ?_⟩
      simp only [Act.put, List.getElem_toArray, List.getElem_cons_zero, List.getElem_cons_succ, List.setIfInBounds_toArray, List.set_cons_zero, List.set_cons_succ]
      refine relist #[true, true, true, true, true, true, true, true, true, false, true, false, false] (by kernel_rfl) ?_
      generalize V.drew.alloc (.cells Z8x32 25) = y1 at *
      generalize V.drew.heap.size = gd at *
      refine any_one (i := 9) (by kernel_rfl) ?_
      refine wpOp_call (f := 76) (args := #[.slice ep es.length ec]) rfl rfl (by go_simp) ?_
      refine (eR.out _ B1).mono ?_
      rintro e y2 ⟨rfl, b2⟩
      have B2 : Below V.heap.size V y2 := B1.trans (b2.mono B1.size)
      have d2 := d1.next b2
      refine ⟨_, rfl, hc.out _ B2, ?_⟩
      simp only [Act.put, List.getElem_toArray, List.getElem_cons_zero, List.getElem_cons_succ, List.setIfInBounds_toArray, List.set_cons_zero, List.set_cons_succ]
      refine wpAnyH_take (i := 11) (v := .int .i64 es.length) rfl (by kernel_rfl) (by kernel_rfl) (by kernel_rfl) (fun _ _ _ h => h) (.inl ⟨rfl, fun W _ => by go_simp⟩) (hc.out _ B2) ?_
      simp only [Act.put, List.getElem_toArray, List.getElem_cons_zero, List.getElem_cons_succ, List.setIfInBounds_toArray, List.set_cons_zero, List.set_cons_succ]
      refine relist #[true, true, true, true, true, true, true, true, true, true, true, true, false] (by kernel_rfl) ?_
      refine any_one (i := 12) (by kernel_rfl) ?_
      refine wpOp_store_D rfl rfl (.tmp 4) (.tmp 14) rfl gd R rfl rfl Z32 d2 hRl ?_
      intro X hX
      have xD : Hid (Dg X gd R) := hX.dg hRl
      have xB : Hid (Below V.heap.size V X) := hX.below _ _ h1 B2
      refine ⟨hc.out _ xB.out, ?_⟩
      simp only [Act.put, List.getElem_toArray, List.getElem_cons_zero, List.getElem_cons_succ, List.setIfInBounds_toArray, List.set_cons_zero, List.set_cons_succ]
      refine wpAnyH_done (by kernel_rfl) ?_ _
      refine NoPanic.normal ?_
      clear hX d1 d2 B2 B1 b2 S0
      go_wp2_with fail
      go_meet
      case rel => exact ⟨gd, rfl, rfl, xD.out, h1, xB.out⟩
  case rest =>
    obtain ⟨gd, rfl, rfl, dC, hgd, bC⟩ := hcut
    have kC : wc.drew.cell? ⟨g, 0, none⟩ = some (.slice kp kn kc) := by
      have : wc.cell? ⟨g, 0, none⟩ = some (.slice kp kn kc) := by rw [bC.cell (p := ⟨g, 0, none⟩) (by simp; omega)]; exact hkV
      exact this
    have zC : wc.heap[w.heap.size]? = some (.cells (headCells 0 Z32 Z32) 42) := (bC.block _ lV).trans hz0
    have BC : Below w.heap.size w wc.drew := (hb0.trans (bC.mono hb0.size)).drew
    have hIC : In8 wc.drew kp kn kc key := hIV.below bC.drew
    have hTC : Tabs KS HS wc.drew := hTV.below bC.drew
    have dD : Dg wc.drew gd (rootP es) := ⟨dC.len, dC.here⟩
    have lg := dC.lt
    clear hkV heV hTV hEV hIV dC
    have hkl := signP_len key es.length (rootP es)
    generalize rootP es = R at *
    go_wp2_with fail
    have SX := And.intro kC dD
    refine wp_region_noPanic ?_
    refine wp_region_held (S := fun W => W.cell? ⟨g, 0, none⟩ = some (.slice kp kn kc) ∧ Dg W gd R) follows ?_
    refine wpAnyH_take (i := 0) (v := .int .i64 es.length) rfl (by kernel_rfl) (by kernel_rfl) (by kernel_rfl) (fun _ _ _ h => h) (.inl ⟨rfl, fun W _ => by go_simp⟩) SX ?_
    simp only [Act.put, List.getElem_toArray, List.getElem_cons_zero, List.getElem_cons_succ, List.setIfInBounds_toArray, List.set_cons_zero, List.set_cons_succ]
    refine wpAnyH_take (i := 1) (v := .agg (A8 R)) rfl (by kernel_rfl) (by kernel_rfl) (by kernel_rfl) (fun _ _ _ h => h) (yields_D rfl (.tmp 4) rfl gd rfl R hRl (fun W hW => hW.2)) SX ?_
    simp only [Act.put, List.getElem_toArray, List.getElem_cons_zero, List.getElem_cons_succ, List.setIfInBounds_toArray, List.set_cons_zero, List.set_cons_succ]
    refine wpAnyH_take (i := 2) (v := .pointer (some ⟨g, 0, none⟩)) rfl (by kernel_rfl) (by kernel_rfl) (by kernel_rfl) (fun _ _ _ h => h) (.inl ⟨rfl, fun W _ => by go_simp⟩) SX ?_
    simp only [Act.put, List.getElem_toArray, List.getElem_cons_zero, List.getElem_cons_succ, List.setIfInBounds_toArray, List.set_cons_zero, List.set_cons_succ]
    refine wpAnyH_take (i := 3) (v := .pointer (some ⟨g, 0, none⟩)) rfl (by kernel_rfl) (by kernel_rfl) (by kernel_rfl) (fun _ _ _ h => h) (.inl ⟨rfl, fun W _ => by go_simp⟩) SX ?_
    simp only [Act.put, List.getElem_toArray, List.getElem_cons_zero, List.getElem_cons_succ, List.setIfInBounds_toArray, List.set_cons_zero, List.set_cons_succ]
    refine wpAnyH_take (i := 4) (v := .pointer (some ⟨g, 0, none⟩)) rfl (by kernel_rfl) (by kernel_rfl) (by kernel_rfl) (fun _ _ _ h => h) (.inl ⟨rfl, fun W _ => by go_simp⟩) SX ?_
    simp only [Act.put, List.getElem_toArray, List.getElem_cons_zero, List.getElem_cons_succ, List.setIfInBounds_toArray, List.set_cons_zero, List.set_cons_succ]
    refine wpAnyH_take (i := 5) (v := .slice kp kn kc) rfl (by kernel_rfl) (by kernel_rfl) (by kernel_rfl) (fun _ _ _ h => h) (.inl ⟨rfl, fun W hW => by have e : W.cell? ⟨g, 0, none⟩ = some (.slice kp kn kc) := hW.1; go_simp⟩) SX ?_
    simp only [Act.put, List.getElem_toArray, List.getElem_cons_zero, List.getElem_cons_succ, List.setIfInBounds_toArray, List.set_cons_zero, List.set_cons_succ]
    refine wpAnyH_take (i := 6) (v := .int .i64 es.length) rfl (by kernel_rfl) (by kernel_rfl) (by kernel_rfl) (fun _ _ _ h => h) (.inl ⟨rfl, fun W _ => by go_simp⟩) SX ?_
    simp only [Act.put, List.getElem_toArray, List.getElem_cons_zero, List.getElem_cons_succ, List.setIfInBounds_toArray, List.set_cons_zero, List.set_cons_succ]
    refine wpAnyH_take (i := 7) (v := .agg (A8 R)) rfl (by kernel_rfl) (by kernel_rfl) (by kernel_rfl) (fun _ _ _ h => h) (yields_D rfl (.tmp 4) rfl gd rfl R hRl (fun W hW => hW.2)) SX ?_
    simp only [Act.put, List.getElem_toArray, List.getElem_cons_zero, List.getElem_cons_succ, List.setIfInBounds_toArray, List.set_cons_zero, List.set_cons_succ]
    refine relist #[true, true, true, true, true, true, true, true, false, false, false] (by kernel_rfl) ?_
    refine any_one (i := 8) (by kernel_rfl) ?_
    refine wpOp_call (f := 66) (args := #[.slice kp kn kc, .int .i64 es.length, .agg (A8 R)]) rfl rfl (by go_simp) ?_
    refine (headTag_any _ hTC kp kn kc key hIC es.length (by omega) (by omega) R hRl hRb).mono ?_
    rintro e w2 ⟨rfl, b2⟩
    have B2 : Below w.heap.size w w2 := BC.trans (b2.mono BC.size)
    have S2 : w2.cell? ⟨g, 0, none⟩ = some (.slice kp kn kc) ∧ Dg w2 gd R := ⟨by rw [b2.cell (block_lt_of_cell kC)]; exact kC, dD.next b2⟩
    have z2 : w2.heap[w.heap.size]? = some (.cells (headCells 0 Z32 Z32) 42) := (b2.block _ (row_lt (w := wc.drew) zC)).trans zC
    obtain ⟨D, hD⟩ : ∃ D, signP key es.length R = D := ⟨_, rfl⟩
    rw [hD] at hkl HH ⊢
    clear hD
    refine ⟨_, rfl, S2, ?_⟩
    simp only [Act.put, List.getElem_toArray, List.getElem_cons_zero, List.getElem_cons_succ, List.setIfInBounds_toArray, List.set_cons_zero, List.set_cons_succ]
    refine wpAnyH_take (i := 9) (v := .agg (headCells es.length R D)) rfl (by kernel_rfl) (by kernel_rfl) (by kernel_rfl) (fun _ _ _ h => h) (yields_build_head rfl (.tmp 15) (.tmp 16) (.tmp 23) rfl es.length R D rfl rfl rfl hRl hkl) S2 ?_
    simp only [Act.put, List.getElem_toArray, List.getElem_cons_zero, List.getElem_cons_succ, List.setIfInBounds_toArray, List.set_cons_zero, List.set_cons_succ]
    refine relist #[true, true, true, true, true, true, true, true, true, true, false] (by kernel_rfl) ?_
    refine any_one (i := 10) (by kernel_rfl) ?_
    refine wpOp_store_H rfl rfl (.tmp 2) (.tmp 24) rfl w.heap.size (headCells es.length R D) (headCells 0 Z32 Z32) rfl rfl z2 (headCells_size _ _ _ hRl hkl) zeroHead (head_one _ _ _) ?_
    intro X hX
    have xH : Hid (X.heap[w.heap.size]? = some (.cells (headCells es.length R D) 42)) := hX.here
    have xB : Hid (Below w.heap.size w X) := hX.below _ _ (Nat.le_refl _) B2
    have e0 : X.heap[g]? = w2.heap[g]? := hX.other g (by omega)
    refine ⟨⟨by rw [World.cell?_of_block (w := w2) e0]; exact S2.1, S2.2.other hX (by omega)⟩, ?_⟩
    simp only [Act.put, List.getElem_toArray, List.getElem_cons_zero, List.getElem_cons_succ, List.setIfInBounds_toArray, List.set_cons_zero, List.set_cons_succ]
    refine wpAnyH_done (by kernel_rfl) ?_ _
    refine NoPanic.normal ?_
    have hsz := headCells_size es.length R D hRl hkl
    obtain ⟨fs, hfs⟩ := und42
    clear hX S2 SX z2 B2 b2 zC kC BC hIC hTC dD
    go_wp2_with fail
    exact bodyPost_ret (v := .agg (headCells es.length R D)) (results_cell_row rfl _ _ w.heap.size 42 _ (0, 0) (.struct fs) rfl xH.out hfs rfl (by rw [info42, hsz])) rfl ⟨by rw [HH.out], xB.out⟩
end Go.Proofs.YtcmjlhcpoajbkaaDoor
