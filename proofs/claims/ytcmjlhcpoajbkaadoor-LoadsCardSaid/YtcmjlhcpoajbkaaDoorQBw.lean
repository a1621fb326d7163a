import Derived.Test.YtcmjlhcpoajbkaaDoorQRg
import Derived.Test.YtcmjlhcpoajbkaaDoorQAbc
import Derived.Test.YtcmjlhcpoajbkaaDoorQRl
import Derived.Shelf.Strings.Builder1
namespace Go.Proofs.YtcmjlhcpoajbkaaDoor
set_option maxRecDepth 10000
set_option linter.unusedSimpArgs false
open Go.RowKit
theorem zeroHead : (headCells 0 Z32 Z32).size = 65 := headCells_size 0 Z32 Z32 rfl rfl
theorem head_one (n : Int) (R T : List Int) : (headCells n R T).all (·.oneCell') = true := by
  simp [headCells, Value.oneCell']
section
variable {ops : Array Oper} {o : Oper} {a : Act} {w : World} {Q : Exit → Act → World → Prop} {S : World → Prop}
theorem yields_build_head (hw : Region.wanted o (yielded ops a.tmps) = true) (x y z : Operand) (ho : o.op = .build 42 #[(0, x), (1, y), (2, z)])
    (n : Int) (R T : List Int) (hx : a.eval x = .int .i64 n) (hy : a.eval y = .agg (A8 R)) (hz : a.eval z = .agg (A8 T)) (hR : R.length = 32) (hT : T.length = 32) : YieldsIf Tryd.prog ops S o (.agg (headCells n R T)) a :=
  .inl ⟨hw, fun w _ => by
    have hr := build_head n R T hR hT w
    unfold execOp
    simp only [ho, Sem.run_bind, Sem.run_pure, Result.andThen_ok, List.map_toArray, List.map_cons, List.map_nil, hx, hy, hz, hr]⟩
theorem wpOp_store_H {i : Nat} {K : Act → World → Prop} (hi : ops[i]? = some o) (hgd : o.guard = none) (x y : Operand) (ho : o.op = .store 42 x y) (g : Nat) (C C0 : Array Value) (hx : a.eval x = .pointer (some ⟨g, 0, none⟩)) (hy : a.eval y = .agg C) (h0 : w.heap[g]? = some (.cells C0 42))
    (hC : C.size = 65) (hC0 : C0.size = 65) (h1 : C.all (·.oneCell') = true) (h : ∀ W, Stored w W g C 42 → K (a.put o.dst undef) W) : wpOp Tryd.prog ops Q i K a w :=
  wpOp_store_W hi hgd 42 x y ho g C hx hy 42 C0 h0 (by rw [info42, hC]) (by rw [hC0, hC]) h1 h
end
/-- The head of a log. -/
def headP (key : List Int) (es : List (List Int)) : Array Value := headCells es.length (rootP es) (signP key es.length (rootP es))
set_option maxHeartbeats 4000000 in
theorem logHead_any (w : World) (g : Nat) (key : List Int) (es : List (List Int)) (hT : Tabs KS HS w) (hL : LogR w g key es) :
    Calls Tryd.prog 35 #[.pointer (some ⟨g, 0, none⟩)] w fun e w' => e = .returned (.agg (headP key es)) ∧ Below w.heap.size w w' := by
  obtain ⟨⟨kp, kn, kc, hk, hI⟩, ⟨ep, ec, he, hE, hnil⟩, hfew⟩ := hL
  have hb0 : Below w.heap.size w (w.alloc (.cells (headCells 0 Z32 Z32) 42)) := (Below.refl _ _).alloc (Nat.le_refl _) _
  have hz0 := heapN w (.cells (headCells 0 Z32 Z32) 42) _ rfl
  obtain ⟨V, hV⟩ : ∃ V, V = w.alloc (.cells (headCells 0 Z32 Z32) 42) := ⟨_, rfl⟩
  have hkV : V.cell? ⟨g, 0, none⟩ = some (.slice kp kn kc) := by rw [hV]; exact cell_alloc hk _
  have heV : V.cell? ⟨g, 1, none⟩ = some (.slice ep es.length ec) := by rw [hV]; exact cell_alloc he _
  rw [← hV] at hb0 hz0
  have hgl : g < w.heap.size := block_lt_of_cell hk
  have lV := row_lt hz0
  have hTV := hT.below hb0
  have hEV := hE.below hb0
  have hIV := hI.below hb0
  clear hk he hE hI
  obtain ⟨hRl, hRb⟩ := rootP_ok es
  have HH : Hid (headP key es = headCells es.length (rootP es) (signP key es.length (rootP es))) := rfl
  go_enter Tryd.func35, Tryd.ntmps35
  go_wp2_with fail
  go_cut [3, 4] (fun s3 s4 wc => ∃ gd, s3 = .int .i64 es.length ∧ s4 = .pointer (some ⟨gd, 0, none⟩) ∧ Dg wc gd (rootP es) ∧ V.heap.size ≤ gd ∧ Below V.heap.size V wc)
  case first =>
    have S0 : V.drew.cell? ⟨g, 1, none⟩ = some (.slice ep es.length ec) := heV
    have bV : Below V.heap.size V V.drew := (Below.refl _ _).drew
    have eR : Hid (∀ W : World, Below V.heap.size V W → Calls Tryd.prog 76 #[.slice ep es.length ec] W fun e w' => e = .returned (.agg (A8 (rootP es))) ∧ Below W.heap.size W w') := fun W hW => troot_any es.length ep ec es W (hTV.below hW) (hEV.below hW)
    have hc : Hid (∀ W : World, Below V.heap.size V W → W.cell? ⟨g, 1, none⟩ = some (.slice ep es.length ec)) := fun W hW => by rw [hW.cell (p := ⟨g, 1, none⟩) (by simp; omega)]; exact heV
    generalize rootP es = R at *
    refine wp_region_noPanic ?_
    refine wp_region_held (S := fun W => W.cell? ⟨g, 1, none⟩ = some (.slice ep es.length ec)) follows ?_
    rw [hV] at S0
    refine wpAnyH_take (i := 0) (v := .pointer (some ⟨g, 0, none⟩)) rfl (by kernel_rfl) (by kernel_rfl) (by kernel_rfl) (fun _ _ _ h => h) (.inl ⟨rfl, fun W _ => by go_simp⟩) S0 ?_
    simp only [Act.put, List.getElem_toArray, List.getElem_cons_zero, List.getElem_cons_succ, List.setIfInBounds_toArray, List.set_cons_zero, List.set_cons_succ]
    refine wpAnyH_take (i := 1) (v := .pointer (some ⟨g, 0, none⟩)) rfl (by kernel_rfl) (by kernel_rfl) (by kernel_rfl) (fun _ _ _ h => h) (.inl ⟨rfl, fun W _ => by go_simp⟩) S0 ?_
    simp only [Act.put, List.getElem_toArray, List.getElem_cons_zero, List.getElem_cons_succ, List.setIfInBounds_toArray, List.set_cons_zero, List.set_cons_succ]
    refine wpAnyH_take (i := 2) (v := .pointer (some ⟨g, 1, none⟩)) rfl (by kernel_rfl) (by kernel_rfl) (by kernel_rfl) (fun _ _ _ h => h) (.inl ⟨rfl, fun W _ => by go_simp⟩) S0 ?_
    simp only [Act.put, List.getElem_toArray, List.getElem_cons_zero, List.getElem_cons_succ, List.setIfInBounds_toArray, List.set_cons_zero, List.set_cons_succ]
    refine wpAnyH_take (i := 3) (v := .slice ep es.length ec) rfl (by kernel_rfl) (by kernel_rfl) (by kernel_rfl) (fun _ _ _ h => h) (.inl ⟨rfl, fun W hW => by have e : W.cell? ⟨g, 1, none⟩ = some (.slice ep es.length ec) := hW; go_simp⟩) S0 ?_
    simp only [Act.put, List.getElem_toArray, List.getElem_cons_zero, List.getElem_cons_succ, List.setIfInBounds_toArray, List.set_cons_zero, List.set_cons_succ]
    refine wpAnyH_take (i := 4) (v := .int .i64 es.length) rfl (by kernel_rfl) (by kernel_rfl) (by kernel_rfl) (fun _ _ _ h => h) (.inl ⟨rfl, fun W _ => by go_simp⟩) S0 ?_
    simp only [Act.put, List.getElem_toArray, List.getElem_cons_zero, List.getElem_cons_succ, List.setIfInBounds_toArray, List.set_cons_zero, List.set_cons_succ]
    refine wpAnyH_take (i := 5) (v := .pointer (some ⟨g, 0, none⟩)) rfl (by kernel_rfl) (by kernel_rfl) (by kernel_rfl) (fun _ _ _ h => h) (.inl ⟨rfl, fun W _ => by go_simp⟩) S0 ?_
    simp only [Act.put, List.getElem_toArray, List.getElem_cons_zero, List.getElem_cons_succ, List.setIfInBounds_toArray, List.set_cons_zero, List.set_cons_succ]
    refine wpAnyH_take (i := 6) (v := .pointer (some ⟨g, 0, none⟩)) rfl (by kernel_rfl) (by kernel_rfl) (by kernel_rfl) (fun _ _ _ h => h) (.inl ⟨rfl, fun W _ => by go_simp⟩) S0 ?_
    simp only [Act.put, List.getElem_toArray, List.getElem_cons_zero, List.getElem_cons_succ, List.setIfInBounds_toArray, List.set_cons_zero, List.set_cons_succ]
    refine wpAnyH_take (i := 7) (v := .pointer (some ⟨g, 1, none⟩)) rfl (by kernel_rfl) (by kernel_rfl) (by kernel_rfl) (fun _ _ _ h => h) (.inl ⟨rfl, fun W _ => by go_simp⟩) S0 ?_
    simp only [Act.put, List.getElem_toArray, List.getElem_cons_zero, List.getElem_cons_succ, List.setIfInBounds_toArray, List.set_cons_zero, List.set_cons_succ]
    refine wpAnyH_take (i := 8) (v := .slice ep es.length ec) rfl (by kernel_rfl) (by kernel_rfl) (by kernel_rfl) (fun _ _ _ h => h) (.inl ⟨rfl, fun W hW => by have e : W.cell? ⟨g, 1, none⟩ = some (.slice ep es.length ec) := hW; go_simp⟩) S0 ?_
    simp only [Act.put, List.getElem_toArray, List.getElem_cons_zero, List.getElem_cons_succ, List.setIfInBounds_toArray, List.set_cons_zero, List.set_cons_succ]
    refine relist #[true, true, true, true, true, true, true, true, true, false, false, false, false] (by kernel_rfl) ?_
    rw [← hV] at S0
    refine reworld (w' := V.drew) (by rw [hV]; rfl) ?_
    refine any_two (i := 9) (j := 10) (by kernel_rfl) ?_ ?_
    · refine wpOp_call (f := 76) (args := #[.slice ep es.length ec]) rfl rfl (by go_simp) ?_
      refine (eR.out _ bV).mono ?_
      rintro e y1 ⟨rfl, b1⟩
      have B1 : Below V.heap.size V y1 := bV.trans b1
      have h1 := B1.size
      refine ⟨_, rfl, hc.out _ B1, ?_⟩
      simp only [Act.put, List.getElem_toArray, List.getElem_cons_zero, List.getElem_cons_succ, List.setIfInBounds_toArray, List.set_cons_zero, List.set_cons_succ]
      refine relist #[true, true, true, true, true, true, true, true, true, true, false, false, false] (by kernel_rfl) ?_
      refine any_one (i := 10) (by kernel_rfl) ?_
      refine wpOp_val (v := .pointer (some ⟨y1.heap.size, 0, none⟩)) (w' := y1.alloc (.cells Z8x32 25)) rfl rfl (by unfold Z8x32; go_simp) ?_
      have B2 : Below V.heap.size V (y1.alloc (.cells Z8x32 25)) := B1.alloc h1 _
      have d2 : Dg (y1.alloc (.cells Z8x32 25)) y1.heap.size Z32 := Dg.new _ _ rfl
      refine ⟨hc.out _ B2, ?_⟩
      simp only [Act.put, List.getElem_toArray, List.getElem_cons_zero, List.getElem_cons_succ, List.setIfInBounds_toArray, List.set_cons_zero, List.set_cons_succ]
      refine wpAnyH_take (i := 11) (v := .int .i64 es.length) rfl (by kernel_rfl) (by kernel_rfl) (by kernel_rfl) (fun _ _ _ h => h) (.inl ⟨rfl, fun W _ => by go_simp⟩) (hc.out _ B2) ?_
      simp only [Act.put, List.getElem_toArray, List.getElem_cons_zero, List.getElem_cons_succ, List.setIfInBounds_toArray, List.set_cons_zero, List.set_cons_succ]
      refine relist #[true, true, true, true, true, true, true, true, true, true, true, true, false] (by kernel_rfl) ?_
      generalize y1.alloc (.cells Z8x32 25) = y2 at *
      generalize y1.heap.size = gd at *
      refine any_one (i := 12) (by kernel_rfl) ?_
      refine wpOp_store_D rfl rfl (.tmp 4) (.tmp 14) rfl gd R rfl rfl Z32 d2 hRl ?_
      intro X hX
      have xD : Hid (Dg X gd R) := hX.dg hRl
      have xB : Hid (Below V.heap.size V X) := hX.below _ _ h1 B2
      refine ⟨hc.out _ xB.out, ?_⟩
      simp only [Act.put, List.getElem_toArray, List.getElem_cons_zero, List.getElem_cons_succ, List.setIfInBounds_toArray, List.set_cons_zero, List.set_cons_succ]
      refine wpAnyH_done (by kernel_rfl) ?_ _
      refine NoPanic.normal ?_
      clear hX d2 B2 B1 b1 S0
      go_wp2_with fail
      go_meet
      case rel => exact ⟨gd, rfl, rfl, xD.out, h1, xB.out⟩
    · refine wpOp_val (v := .pointer (some ⟨V.drew.heap.size, 0, none⟩)) (w' := V.drew.alloc (.cells Z8x32 25)) rfl rfl (by unfold Z8x32; go_simp) ?_
      have B1 : Below V.heap.size V (V.drew.alloc (.cells Z8x32 25)) := bV.alloc (Nat.le_refl _) _
      have d1 : Dg (V.drew.alloc (.cells Z8x32 25)) V.drew.heap.size Z32 := Dg.new _ _ rfl
      have h1 : V.heap.size ≤ V.drew.heap.size := Nat.le_refl _
      refine ⟨hc.out _ B1, ?_⟩
      simp only [Act.put, List.getElem_toArray, List.getElem_cons_zero, List.getElem_cons_succ, List.setIfInBounds_toArray, List.set_cons_zero, List.set_cons_succ]
      refine relist #[true, true, true, true, true, true, true, true, true, false, true, false, false] (by kernel_rfl) ?_
      generalize V.drew.alloc (.cells Z8x32 25) = y1 at *
      generalize V.drew.heap.size = gd at *
      refine any_one (i := 9) (by kernel_rfl) ?_
      refine wpOp_call (f := 76) (args := #[.slice ep es.length ec]) rfl rfl (by go_simp) ?_
      refine (eR.out _ B1).mono ?_
      rintro e y2 ⟨rfl, b2⟩
      have B2 : Below V.heap.size V y2 := B1.trans (b2.mono B1.size)
      have d2 := d1.next b2
      refine ⟨_, rfl, hc.out _ B2, ?_⟩
      simp only [Act.put, List.getElem_toArray, List.getElem_cons_zero, List.getElem_cons_succ, List.setIfInBounds_toArray, List.set_cons_zero, List.set_cons_succ]
      refine wpAnyH_take (i := 11) (v := .int .i64 es.length) rfl (by kernel_rfl) (by kernel_rfl) (by kernel_rfl) (fun _ _ _ h => h) (.inl ⟨rfl, fun W _ => by go_simp⟩) (hc.out _ B2) ?_
      simp only [Act.put, List.getElem_toArray, List.getElem_cons_zero, List.getElem_cons_succ, List.setIfInBounds_toArray, List.set_cons_zero, List.set_cons_succ]
      refine relist #[true, true, true, true, true, true, true, true, true, true, true, true, false] (by kernel_rfl) ?_
      refine any_one (i := 12) (by kernel_rfl) ?_
      refine wpOp_store_D rfl rfl (.tmp 4) (.tmp 14) rfl gd R rfl rfl Z32 d2 hRl ?_
      intro X hX
      have xD : Hid (Dg X gd R) := hX.dg hRl
      have xB : Hid (Below V.heap.size V X) := hX.below _ _ h1 B2
      refine ⟨hc.out _ xB.out, ?_⟩
      simp only [Act.put, List.getElem_toArray, List.getElem_cons_zero, List.getElem_cons_succ, List.setIfInBounds_toArray, List.set_cons_zero, List.set_cons_succ]
      refine wpAnyH_done (by kernel_rfl) ?_ _
      refine NoPanic.normal ?_
      clear hX d1 d2 B2 B1 b2 S0
      go_wp2_with fail
      go_meet
      case rel => exact ⟨gd, rfl, rfl, xD.out, h1, xB.out⟩
  case rest =>
    obtain ⟨gd, rfl, rfl, dC, hgd, bC⟩ := hcut
    have kC : wc.drew.cell? ⟨g, 0, none⟩ = some (.slice kp kn kc) := by
      have : wc.cell? ⟨g, 0, none⟩ = some (.slice kp kn kc) := by rw [bC.cell (p := ⟨g, 0, none⟩) (by simp; omega)]; exact hkV
      exact this
    have zC : wc.heap[w.heap.size]? = some (.cells (headCells 0 Z32 Z32) 42) := (bC.block _ lV).trans hz0
    have BC : Below w.heap.size w wc.drew := (hb0.trans (bC.mono hb0.size)).drew
    have hIC : In8 wc.drew kp kn kc key := hIV.below bC.drew
    have hTC : Tabs KS HS wc.drew := hTV.below bC.drew
    have dD : Dg wc.drew gd (rootP es) := ⟨dC.len, dC.here⟩
    have lg := dC.lt
    clear hkV heV hTV hEV hIV dC
    have hkl := signP_len key es.length (rootP es)
    generalize rootP es = R at *
    go_wp2_with fail
    have SX := And.intro kC dD
    refine wp_region_noPanic ?_
    refine wp_region_held (S := fun W => W.cell? ⟨g, 0, none⟩ = some (.slice kp kn kc) ∧ Dg W gd R) follows ?_
    refine wpAnyH_take (i := 0) (v := .int .i64 es.length) rfl (by kernel_rfl) (by kernel_rfl) (by kernel_rfl) (fun _ _ _ h => h) (.inl ⟨rfl, fun W _ => by go_simp⟩) SX ?_
    simp only [Act.put, List.getElem_toArray, List.getElem_cons_zero, List.getElem_cons_succ, List.setIfInBounds_toArray, List.set_cons_zero, List.set_cons_succ]
    refine wpAnyH_take (i := 1) (v := .agg (A8 R)) rfl (by kernel_rfl) (by kernel_rfl) (by kernel_rfl) (fun _ _ _ h => h) (yields_D rfl (.tmp 4) rfl gd rfl R hRl (fun W hW => hW.2)) SX ?_
    simp only [Act.put, List.getElem_toArray, List.getElem_cons_zero, List.getElem_cons_succ, List.setIfInBounds_toArray, List.set_cons_zero, List.set_cons_succ]
    refine wpAnyH_take (i := 2) (v := .pointer (some ⟨g, 0, none⟩)) rfl (by kernel_rfl) (by kernel_rfl) (by kernel_rfl) (fun _ _ _ h => h) (.inl ⟨rfl, fun W _ => by go_simp⟩) SX ?_
    simp only [Act.put, List.getElem_toArray, List.getElem_cons_zero, List.getElem_cons_succ, List.setIfInBounds_toArray, List.set_cons_zero, List.set_cons_succ]
    refine wpAnyH_take (i := 3) (v := .pointer (some ⟨g, 0, none⟩)) rfl (by kernel_rfl) (by kernel_rfl) (by kernel_rfl) (fun _ _ _ h => h) (.inl ⟨rfl, fun W _ => by go_simp⟩) SX ?_
    simp only [Act.put, List.getElem_toArray, List.getElem_cons_zero, List.getElem_cons_succ, List.setIfInBounds_toArray, List.set_cons_zero, List.set_cons_succ]
    refine wpAnyH_take (i := 4) (v := .pointer (some ⟨g, 0, none⟩)) rfl (by kernel_rfl) (by kernel_rfl) (by kernel_rfl) (fun _ _ _ h => h) (.inl ⟨rfl, fun W _ => by go_simp⟩) SX ?_
    simp only [Act.put, List.getElem_toArray, List.getElem_cons_zero, List.getElem_cons_succ, List.setIfInBounds_toArray, List.set_cons_zero, List.set_cons_succ]
    refine wpAnyH_take (i := 5) (v := .slice kp kn kc) rfl (by kernel_rfl) (by kernel_rfl) (by kernel_rfl) (fun _ _ _ h => h) (.inl ⟨rfl, fun W hW => by have e : W.cell? ⟨g, 0, none⟩ = some (.slice kp kn kc) := hW.1; go_simp⟩) SX ?_
    simp only [Act.put, List.getElem_toArray, List.getElem_cons_zero, List.getElem_cons_succ, List.setIfInBounds_toArray, List.set_cons_zero, List.set_cons_succ]
    refine wpAnyH_take (i := 6) (v := .int .i64 es.length) rfl (by kernel_rfl) (by kernel_rfl) (by kernel_rfl) (fun _ _ _ h => h) (.inl ⟨rfl, fun W _ => by go_simp⟩) SX ?_
    simp only [Act.put, List.getElem_toArray, List.getElem_cons_zero, List.getElem_cons_succ, List.setIfInBounds_toArray, List.set_cons_zero, List.set_cons_succ]
    refine wpAnyH_take (i := 7) (v := .agg (A8 R)) rfl (by kernel_rfl) (by kernel_rfl) (by kernel_rfl) (fun _ _ _ h => h) (yields_D rfl (.tmp 4) rfl gd rfl R hRl (fun W hW => hW.2)) SX ?_
    simp only [Act.put, List.getElem_toArray, List.getElem_cons_zero, List.getElem_cons_succ, List.setIfInBounds_toArray, List.set_cons_zero, List.set_cons_succ]
    refine relist #[true, true, true, true, true, true, true, true, false, false, false] (by kernel_rfl) ?_
    refine any_one (i := 8) (by kernel_rfl) ?_
    refine wpOp_call (f := 66) (args := #[.slice kp kn kc, .int .i64 es.length, .agg (A8 R)]) rfl rfl (by go_simp) ?_
    refine (headTag_any _ hTC kp kn kc key hIC es.length (by omega) (by omega) R hRl hRb).mono ?_
    rintro e w2 ⟨rfl, b2⟩
    have B2 : Below w.heap.size w w2 := BC.trans (b2.mono BC.size)
    have S2 : w2.cell? ⟨g, 0, none⟩ = some (.slice kp kn kc) ∧ Dg w2 gd R := ⟨by rw [b2.cell (block_lt_of_cell kC)]; exact kC, dD.next b2⟩
    have z2 : w2.heap[w.heap.size]? = some (.cells (headCells 0 Z32 Z32) 42) := (b2.block _ (row_lt (w := wc.drew) zC)).trans zC
    obtain ⟨D, hD⟩ : ∃ D, signP key es.length R = D := ⟨_, rfl⟩
    rw [hD] at hkl HH ⊢
    clear hD
    refine ⟨_, rfl, S2, ?_⟩
    simp only [Act.put, List.getElem_toArray, List.getElem_cons_zero, List.getElem_cons_succ, List.setIfInBounds_toArray, List.set_cons_zero, List.set_cons_succ]
    refine wpAnyH_take (i := 9) (v := .agg (headCells es.length R D)) rfl (by kernel_rfl) (by kernel_rfl) (by kernel_rfl) (fun _ _ _ h => h) (yields_build_head rfl (.tmp 15) (.tmp 16) (.tmp 23) rfl es.length R D rfl rfl rfl hRl hkl) S2 ?_
    simp only [Act.put, List.getElem_toArray, List.getElem_cons_zero, List.getElem_cons_succ, List.setIfInBounds_toArray, List.set_cons_zero, List.set_cons_succ]
    refine relist #[true, true, true, true, true, true, true, true, true, true, false] (by kernel_rfl) ?_
    refine any_one (i := 10) (by kernel_rfl) ?_
    refine wpOp_store_H rfl rfl (.tmp 2) (.tmp 24) rfl w.heap.size (headCells es.length R D) (headCells 0 Z32 Z32) rfl rfl z2 (headCells_size _ _ _ hRl hkl) zeroHead (head_one _ _ _) ?_
    intro X hX
    have xH : Hid (X.heap[w.heap.size]? = some (.cells (headCells es.length R D) 42)) := hX.here
    have xB : Hid (Below w.heap.size w X) := hX.below _ _ (Nat.le_refl _) B2
    have e0 : X.heap[g]? = w2.heap[g]? := hX.other g (by omega)
    refine ⟨⟨by rw [World.cell?_of_block (w := w2) e0]; exact S2.1, S2.2.other hX (by omega)⟩, ?_⟩
    simp only [Act.put, List.getElem_toArray, List.getElem_cons_zero, List.getElem_cons_succ, List.setIfInBounds_toArray, List.set_cons_zero, List.set_cons_succ]
    refine wpAnyH_done (by kernel_rfl) ?_ _
    refine NoPanic.normal ?_
    have hsz := headCells_size es.length R D hRl hkl
    obtain ⟨fs, hfs⟩ := und42
    clear hX S2 SX z2 B2 b2 zC kC BC hIC hTC dD
    go_wp2_with fail
    exact bodyPost_ret (v := .agg (headCells es.length R D)) (results_cell_row rfl _ _ w.heap.size 42 _ (0, 0) (.struct fs) rfl xH.out hfs rfl (by rw [info42, hsz])) rfl ⟨by rw [HH.out], xB.out⟩
end Go.Proofs.YtcmjlhcpoajbkaaDoor
namespace Go.Proofs.YtcmjlhcpoajbkaaDoor
set_option maxRecDepth 10000
set_option linter.unusedSimpArgs false
open Go.RowKit
/-- Bytes as a string. -/
def strV (T : List Int) : Value := .string ⟨(toU T).toArray⟩
theorem bytes_app {a b : List Int} (ha : Bytes a) (hb : Bytes b) : Bytes (a ++ b) := by
  refine .of fun y hy => ?_
  rcases List.mem_append.1 hy with e | e
  · exact ha.mem y e
  · exact hb.mem y e
theorem info9' : ∃ i, Tryd.prog.info? 9 = some i ∧ i.zero = some (.string ⟨#[]⟩) ∧ i.size = 1 ∧ i.bytes = 16 := ⟨_, rfl, by kernel_rfl, by kernel_rfl, by kernel_rfl⟩
theorem str_size (T : List Int) : (ByteArray.mk (toU T).toArray).size = T.length := by show (toU T).toArray.size = _; simp [toU_len]
end Go.Proofs.YtcmjlhcpoajbkaaDoor
namespace Go.Proofs.YtcmjlhcpoajbkaaDoor
set_option maxRecDepth 10000
set_option linter.unusedSimpArgs false
open Go.RowKit
/-- A slice of entries as strings. -/
structure S59 (w : World) (p : Option Addr) (n cap : Nat) (es : List (List Int)) : Prop where
  len : es.length = n
  fits : n ≤ cap
  room : cap ≤ 9223372036854775807
  each : ∀ i, (es.getD i []).length ≤ 300 ∧ Bytes (es.getD i [])
  lies : 0 < n → ∃ b o, p = some ⟨b, o, none⟩ ∧ b < w.heap.size ∧ ∀ i, i < n → w.cell? ⟨b, o + i, none⟩ = some (strV (es.getD i []))
theorem S59.below {w w' : World} {p : Option Addr} {n cap : Nat} {es : List (List Int)} (h : S59 w p n cap es) (hb : Below w.heap.size w w') : S59 w' p n cap es :=
  ⟨h.len, h.fits, h.room, h.each, fun h0 => by
    obtain ⟨b, o, hp, hl, hc⟩ := h.lies h0
    exact ⟨b, o, hp, Nat.lt_of_lt_of_le hl hb.size, fun i hi => by rw [hb.cell (p := ⟨b, o + i, none⟩) hl]; exact hc i hi⟩⟩
theorem getD_take {es : List (List Int)} {k i : Nat} (hi : i < k) : (es.take k).getD i [] = es.getD i [] := by
  rw [List.getD_eq_getElem?_getD, List.getElem?_take, if_pos hi, ← List.getD_eq_getElem?_getD]
theorem getD_take_out {es : List (List Int)} {k i : Nat} (hi : ¬ i < k) : (es.take k).getD i [] = [] := by
  rw [List.getD_eq_getElem?_getD, List.getElem?_take, if_neg hi]; rfl
theorem getD_drop {es : List (List Int)} {k i : Nat} : (es.drop k).getD i [] = es.getD (k + i) [] := by
  rw [List.getD_eq_getElem?_getD, List.getElem?_drop, ← List.getD_eq_getElem?_getD]
theorem S59.front {w : World} {p : Option Addr} {n cap : Nat} {es : List (List Int)} (h : S59 w p n cap es) (k : Nat) (hk : k ≤ n) : S59 w p k cap (es.take k) :=
  ⟨by rw [List.length_take, h.len]; omega, by have := h.fits; omega, h.room, fun i => by
    by_cases hi : i < k
    · rw [getD_take hi]; exact h.each i
    · rw [getD_take_out hi]; exact ⟨by simp, fun j => by simp⟩, fun h0 => by
    obtain ⟨b, o, hp, hl, hc⟩ := h.lies (by omega)
    exact ⟨b, o, hp, hl, fun i hi => by rw [getD_take hi]; exact hc i (by omega)⟩⟩
theorem S59.back {w : World} {b o : Nat} {n cap : Nat} {es : List (List Int)} (h : S59 w (some ⟨b, o, none⟩) n cap es) (k : Nat) (hk : k < n) : S59 w (some ⟨b, o + k, none⟩) (n - k) (cap - k) (es.drop k) :=
  ⟨by rw [List.length_drop, h.len], by have := h.fits; omega, by have := h.room; omega, fun i => by rw [getD_drop]; exact h.each _, fun h0 => by
    obtain ⟨b', o', hp, hl, hc⟩ := h.lies (by omega)
    cases hp
    exact ⟨b, o + k, rfl, hl, fun i hi => by rw [getD_drop, Nat.add_assoc]; exact hc (k + i) (by omega)⟩⟩
theorem sslice_front (ad : Addr) (n c m : Nat) (hm : m ≤ n) (hn : n ≤ c) (W : World) :
    (Instr.sliceAt 59 (.slice (some ad) n c) none (some (.int .i64 m)) none).run Tryd.prog W = .ok (.slice (some ad) m c) W := by
  have h1 : (m : Int) ≤ c := by omega
  go_simp
theorem sslice_back (b o n c m : Nat) (hm : m < n) (hn : n ≤ c) (W : World) :
    (Instr.sliceAt 59 (.slice (some ⟨b, o, none⟩) n c) (some (.int .i64 m)) none none).run Tryd.prog W = .ok (.slice (some ⟨b, o + m, none⟩) (n - m) (c - m)) W := by
  have h1 : (m : Int) ≤ n := by omega
  have h2 : ¬ c = m := by omega
  have h3 : (⟨b, o, none⟩ : Addr).add m = ⟨b, o + m, none⟩ := addr_add _ _ _
  go_simp
theorem sindex_at (b o n c k : Nat) (hk : k < n) (W : World) : (Instr.indexAt 59 (.slice (some ⟨b, o, none⟩) n c) (.int .i64 k)).run Tryd.prog W = .ok (.pointer (some ⟨b, o + k, none⟩)) W := by
  have h1 : (k : Int) < n := by omega
  have h3 : (⟨b, o, none⟩ : Addr).add k = ⟨b, o + k, none⟩ := addr_add _ _ _
  go_simp
set_option maxHeartbeats 2000000 in
theorem refRoot_any : ∀ (n : Nat) (p : Option Addr) (cap : Nat) (es : List (List Int)) (w : World), S59 w p n cap es →
    Calls Tryd.prog 77 #[.slice p n cap] w fun e w' => e = .returned (.agg (A8 (rootP es))) ∧ Below w.heap.size w w' := by
  intro n
  induction n using Nat.strongRecOn with
  | ind n ih =>
    intro p cap es w hE
    have hb0 : Below w.heap.size w (w.alloc (.cells Z8x32 25)) := (Below.refl _ _).alloc (Nat.le_refl _) _
    have d0 : Hid (Dg (w.alloc (.cells Z8x32 25)) w.heap.size Z32) := Dg.new w _ rfl
    have hf := hE.fits
    have hr := hE.room
    have hlen := hE.len
    by_cases h0 : n = 0
    · subst h0
      have he : es = [] := List.length_eq_zero_iff.1 hlen
      subst he
      go_enter Tryd.func77, Tryd.ntmps77
      go_wp2_with fail
      refine (ref_any _ [] [] rfl rfl _ (by simp)).mono ?_
      rintro e w1 ⟨rfl, b1⟩
      have d1 : Hid (Dg w1 w.heap.size Z32) := d0.out.next b1
      have B1 : Below w.heap.size w w1 := hb0.trans (b1.mono (by simp))
      have hl := hP_len []
      clear b1 d0
      have e0 : Hid (rootP [] = hP []) := rfl
      obtain ⟨D, hD⟩ : ∃ D, hP [] = D := ⟨_, rfl⟩
      rw [hD] at hl e0 ⊢
      clear hD
      go_wp2_with (first
        | (with_reducible refine atStore 25 ?_
           refine store_D rfl _ _ rfl w.heap.size D rfl rfl Z32 d1.out hl ?_
           intro U hU))
      exact bodyPost_ret (results_D rfl _ _ w.heap.size D rfl (hU.dg hl)) rfl ⟨by rw [e0.out], hU.below _ _ (Nat.le_refl _) B1⟩
    · obtain ⟨b, o, rfl, hbl, hcs⟩ := hE.lies (by omega)
      by_cases h1 : n = 1
      · subst h1
        have hc1 := hcs 0 (by omega)
        obtain ⟨hx3, hxb⟩ := hE.each 0
        rw [Nat.add_zero] at hc1
        have hc0 : ∀ ob, (w.alloc ob).cell? ⟨b, o, none⟩ = some (strV (es.getD 0 [])) := fun ob => by
          rw [((Below.refl w.heap.size w).alloc (Nat.le_refl _) ob).cell (p := ⟨b, o, none⟩) hbl]; exact hc1
        have hix : ∀ W : World, (Instr.indexAt 59 (.slice (some ⟨b, o, none⟩) 1 cap) (.int .i64 0)).run Tryd.prog W = .ok (.pointer (some ⟨b, o, none⟩)) W := fun W => sindex_at b o 1 cap 0 (by omega) W
        clear hcs hc1
        have hx : es = [es.getD 0 []] := by
          match es, hlen with
          | [e], _ => rfl
        have HX : Hid (rootP es = leafP (es.getD 0 [])) := by
          show rootP es = _
          rw [hx]; rfl
        generalize es.getD 0 [] = x at *
        have hul := toU_len x
        unfold strV at hc0
        go_enter Tryd.func77, Tryd.ntmps77
        go_wp2_with fail
        refine (refLeaf_any _ (toU x) x (toI_toU x hxb) (by omega)).mono ?_
        rintro e w1 ⟨rfl, b1⟩
        have d1 : Hid (Dg w1 w.heap.size Z32) := d0.out.next b1
        have B1 : Below w.heap.size w w1 := hb0.trans (b1.mono (by simp))
        have hl := leafP_len x
        clear b1 d0 hc0
        obtain ⟨D, hD⟩ : ∃ D, leafP x = D := ⟨_, rfl⟩
        rw [hD] at hl HX ⊢
        clear hD
        go_wp2_with (first
          | (with_reducible refine atStore 25 ?_
             refine store_D rfl _ _ rfl w.heap.size D rfl rfl Z32 d1.out hl ?_
             intro U hU))
        exact bodyPost_ret (results_D rfl _ _ w.heap.size D rfl (hU.dg hl)) rfl ⟨by rw [HX.out], hU.below _ _ (Nat.le_refl _) B1⟩
      · have h0' : ¬ (n : Int) = 0 := by omega
        have h1' : ¬ (n : Int) = 1 := by omega
        obtain ⟨hk1, hk2, hk3⟩ := halfN_spec n (by omega) (by omega)
        have HX : Hid (rootP es = knotP (rootP (es.take (halfN n))) (rootP (es.drop (halfN n)))) := by
          show rootP es = _
          have := rootP_more es (by omega) (by omega)
          rw [hlen] at this
          exact this
        have hs1 := fun W => sslice_front ⟨b, o, none⟩ n cap (halfN n) (by omega) hf W
        have hs2 := fun W => sslice_back b o n cap (halfN n) hk1 hf W
        have HE : Hid (S59 w (some ⟨b, o, none⟩) n cap es) := hE
        clear hcs hE
        go_enter Tryd.func77, Tryd.ntmps77
        go_wp2_with fail
        refine (half_any n _ (by omega) (by omega)).mono ?_
        rintro e w1 ⟨rfl, rfl⟩
        generalize halfN n = k at *
        go_wp2_with fail
        refine (ih k (by omega) _ cap (es.take k) _ ((HE.out.front k (by omega)).below hb0)).mono ?_
        rintro e w2 ⟨rfl, b2⟩
        have d2 : Hid (Dg w2 w.heap.size Z32) := d0.out.next b2
        have B2 : Below w.heap.size w w2 := hb0.trans (b2.mono hb0.size)
        obtain ⟨hLl, hLb⟩ := rootP_ok (es.take k)
        clear b2 d0
        generalize rootP (es.take k) = L at *
        have dn : Hid (Dg (w2.alloc (.cells Z8x32 25)) w2.heap.size Z32) := Dg.new w2 _ rfl
        have hs2' := B2.size
        go_wp2_with (first
          | (with_reducible refine atStore 25 ?_
             refine store_D rfl _ _ rfl w2.heap.size L rfl rfl Z32 dn.out hLl ?_
             intro U hU
             refine hideGoal ?_))
        have bU : Below w2.heap.size w2 U := hU.below _ _ (Nat.le_refl _) ((Below.refl _ _).alloc (Nat.le_refl _) _)
        have dU : Hid (Dg U w.heap.size Z32) := d2.out.next bU
        have eU : Hid (Dg U w2.heap.size L) := hU.dg hLl
        have BU : Below w.heap.size w U := B2.trans (bU.mono B2.size)
        clear hU dn bU d2 B2 hs2'
        generalize w2.heap.size = gl at *
        refine openGoal ?_
        go_wp2_with fail
        refine (ih (n - k) (by omega) _ (cap - k) (es.drop k) U ((HE.out.back k hk1).below BU)).mono ?_
        rintro e w3 ⟨rfl, b3⟩
        have d3 : Hid (Dg w3 w.heap.size Z32) := dU.out.next b3
        have e3 : Hid (Dg w3 gl L) := eU.out.next b3
        have B3 : Below w.heap.size w w3 := BU.trans (b3.mono BU.size)
        obtain ⟨hRl, hRb⟩ := rootP_ok (es.drop k)
        clear b3 dU eU BU
        generalize rootP (es.drop k) = R at *
        have dn : Hid (Dg (w3.alloc (.cells Z8x32 25)) w3.heap.size Z32) := Dg.new w3 _ rfl
        have hs2' := B3.size
        go_wp2_with (first
          | (with_reducible refine atStore 25 ?_
             refine store_D rfl _ _ rfl w3.heap.size R rfl rfl Z32 dn.out hRl ?_
             intro X hX
             refine hideGoal ?_))
        have bX : Below w3.heap.size w3 X := hX.below _ _ (Nat.le_refl _) ((Below.refl _ _).alloc (Nat.le_refl _) _)
        have dX : Hid (Dg X w.heap.size Z32) := d3.out.next bX
        have eX : Hid (Dg X gl L) := e3.out.next bX
        have fX : Hid (Dg X w3.heap.size R) := hX.dg hRl
        have BX : Below w.heap.size w X := B3.trans (bX.mono B3.size)
        clear hX dn bX d3 e3 B3 hs2'
        generalize w3.heap.size = gr at *
        refine openGoal ?_
        go_wp2_with (first
          | (with_reducible refine atLoad 25 ?_
             first
               | refine load_D rfl (.tmp 4) rfl gl rfl L eX.out ?_
               | refine load_D rfl (.tmp 5) rfl gr rfl R fX.out ?_))
        refine (refKnot_any X L R hLl hRl hLb hRb).mono ?_
        rintro e w4 ⟨rfl, b4⟩
        have d4 : Hid (Dg w4 w.heap.size Z32) := dX.out.next b4
        have B4 : Below w.heap.size w w4 := BX.trans (b4.mono BX.size)
        have hl := knotP_len L R
        clear b4 dX BX
        obtain ⟨D, hD⟩ : ∃ D, knotP L R = D := ⟨_, rfl⟩
        rw [hD] at hl HX ⊢
        clear hD
        go_wp2_with (first
          | (with_reducible refine atStore 25 ?_
             refine store_D rfl _ _ rfl w.heap.size D rfl rfl Z32 d4.out hl ?_
             intro V hV))
        exact bodyPost_ret (results_D rfl _ _ w.heap.size D rfl (hV.dg hl)) rfl ⟨by rw [HX.out], hV.below _ _ (Nat.le_refl _) B4⟩
end Go.Proofs.YtcmjlhcpoajbkaaDoor
namespace Go.Proofs.YtcmjlhcpoajbkaaDoor
set_option maxRecDepth 100000
set_option linter.unusedSimpArgs false
open Go.RowKit
/-- A builder: its own address (or none yet), its bytes in a row of one's own, beyond B. -/
structure Bld (w : World) (B g : Nat) (xs : List Int) : Prop where
  base : g < B
  size : B ≤ w.heap.size
  bytes : Bytes xs
  at_ : ∃ ad v, w.heap[g]? = some (.cells #[ad, v] 132) ∧ (ad = .pointer none ∨ ad = .pointer (some ⟨g, 0, none⟩)) ∧ w.ownsRow B 5 1 v xs.length (xs.map (Value.int .u8))
theorem sizeBld : ∃ j, Tryd.prog.info? 132 = some j ∧ j.size = 2 := ⟨_, rfl, by kernel_rfl⟩
theorem copyCheck_fresh (w : World) (g : Nat) (v : Value) (h : w.heap[g]? = some (.cells #[.pointer none, v] 132)) :
    Calls Tryd.prog 105 #[.pointer (some ⟨g, 0, none⟩)] w fun e w' => e = .returned (.tuple #[]) ∧ w' = w.setCell ⟨g, 0, none⟩ (.pointer (some ⟨g, 0, none⟩)) := by
  have hc : w.cell? ⟨g, 0, none⟩ = some (.pointer none) := by rw [cell_of_row _ _ _ _ _ _ h]; rfl
  have hf := frozen_of_row w g 0 _ _ h
  obtain ⟨j, hj, hjs⟩ := sizeBld
  have hsh : w.shape? g = some (132, 2) := by simp [World.shape?, h]
  have c1 : (convert 130 178 (.pointer (some ⟨g, 0, none⟩))).run Tryd.prog w = .ok (.pointer (some ⟨g, 0, none⟩)) w := Lib.run_to_unsafe w ⟨g, 0, none⟩ Tryd.underlying130 Tryd.underlying178 hj (by rw [hjs]; decide) hsh (Nat.zero_lt_succ 1)
  have c2 : (convert 178 130 (.pointer (some ⟨g, 0, none⟩))).run Tryd.prog w = .ok (.pointer (some ⟨g, 0, none⟩)) w := Lib.run_from_unsafe w ⟨g, 0, none⟩ Tryd.underlying178 Tryd.underlying130 hj hsh (by kernel_rfl)
  go_enter Tryd.func105, Tryd.ntmps105
  go_wp2_with fail
  rw [run_callFunc_extern Tryd.func122 (by kernel_rfl) (by kernel_rfl) (by kernel_rfl) (e := Extern.AbiNoEscape.same) (by kernel_rfl)]
  rw [Lib.run_noEscape]
  simp only [Result.andThen]
  rw [Oper.upon_value]
  go_wp2_with fail
  go_end0
  exact ⟨rfl, rfl⟩
theorem copyCheck_used (w : World) (g : Nat) (v : Value) (h : w.heap[g]? = some (.cells #[.pointer (some ⟨g, 0, none⟩), v] 132)) :
    Calls Tryd.prog 105 #[.pointer (some ⟨g, 0, none⟩)] w fun e w' => e = .returned (.tuple #[]) ∧ w' = w := by
  have hc : w.cell? ⟨g, 0, none⟩ = some (.pointer (some ⟨g, 0, none⟩)) := by rw [cell_of_row _ _ _ _ _ _ h]; rfl
  obtain ⟨j, hj, hjs⟩ := sizeBld
  go_enter Tryd.func105, Tryd.ntmps105
  go_wp2_with fail
  rw [Lib.run_neq_ptr_same w _ Tryd.underlying130 hj]
  go_wp2_with fail
  go_end0
  exact ⟨rfl, rfl⟩
/-- Nothing below B has changed but the block g. -/
def KpG (B g : Nat) (w w' : World) : Prop := Kp (fun k => k = g ∨ B ≤ k) w w'
theorem Bld.below {w w' : World} {B g : Nat} {xs : List Int} (h : Bld w B g xs) (hb : Below w.heap.size w w') : Bld w' B g xs := by
  obtain ⟨h1, h2, h3, ad, v, h4, h5, h6⟩ := h
  refine ⟨h1, Nat.le_trans h2 hb.size, h3, ad, v, (hb.block g (row_lt h4)).trans h4, h5, ?_⟩
  obtain ⟨e1, e2 | ⟨q, cap, cur, hv, hg, hh, r⟩⟩ := h6
  · exact ⟨e1, .inl e2⟩
  · exact ⟨e1, .inr ⟨q, cap, cur, hv, hg, (hb.block q (row_lt hh)).trans hh, r⟩⟩
theorem Bld.used {w : World} {B g : Nat} {xs : List Int} (h : Bld w B g xs) :
    Calls Tryd.prog 105 #[.pointer (some ⟨g, 0, none⟩)] w fun e w' => e = .returned (.tuple #[]) ∧ Kp (fun k => k = g) w w' ∧ B ≤ w'.heap.size ∧ ∃ v, w'.heap[g]? = some (.cells #[.pointer (some ⟨g, 0, none⟩), v] 132) ∧ w'.ownsRow B 5 1 v xs.length (xs.map (Value.int .u8)) := by
  obtain ⟨h1, h2, h3, ad, v, h4, h5 | h5, h6⟩ := h
  · subst h5
    refine (copyCheck_fresh w g v h4).mono ?_
    rintro e w' ⟨rfl, rfl⟩
    refine ⟨rfl, ⟨rfl, rfl, rfl, by simp [World.setCell], fun k hk hx => Below.heap_setCell _ _ _ _ (fun e => hx e)⟩, by simpa [World.setCell] using h2, v, ?_, ?_⟩
    · have := heap_setCell_same w g 0 _ _ (.pointer (some ⟨g, 0, none⟩)) h4
      simpa using this
    · obtain ⟨e1, e2 | ⟨q, cap, cur, hv, hg, hh, r⟩⟩ := h6
      · exact ⟨e1, .inl e2⟩
      · exact ⟨e1, .inr ⟨q, cap, cur, hv, hg, (Below.heap_setCell _ _ _ _ (by show q ≠ g; omega)).trans hh, r⟩⟩
  · subst h5
    refine (copyCheck_used w g v h4).mono ?_
    rintro e w' ⟨rfl, rfl⟩
    exact ⟨rfl, ⟨rfl, rfl, rfl, Nat.le_refl _, fun _ _ _ => rfl⟩, h2, v, h4, h6⟩
end Go.Proofs.YtcmjlhcpoajbkaaDoor
namespace Go.Proofs.YtcmjlhcpoajbkaaDoor
set_option maxRecDepth 100000
set_option linter.unusedSimpArgs false
open Go.RowKit
theorem two_cell1 {w : World} {g : Nat} {a v : Value} {t : TypeId} (h : w.heap[g]? = some (.cells #[a, v] t)) : w.cell? ⟨g, 1, none⟩ = some v := by rw [cell_of_row _ _ _ _ _ _ h]; rfl
/-- What append does to a row, of this many bytes more. -/
theorem app8_world (w : World) (B : Nat) (v : Value) (xs : List Int) (hown : w.ownsRow B 5 1 v xs.length (xs.map (Value.int .u8))) (hB : B ≤ w.heap.size) (p : Option Addr) (n c : Nat) (ys : List Int) (hi : In8 w p n c ys) (hlen : xs.length + n ≤ 1000000) :
    ∃ v' w', (Builtin.append_ #[22, 22] 22 #[v, .slice p n c]).run Tryd.prog w = .ok v' w' ∧ w'.ownsRow B 5 1 v' (xs ++ ys).length ((xs ++ ys).map (Value.int .u8)) ∧ w.heap.size ≤ w'.heap.size ∧ (∀ k, k < B → w'.heap[k]? = w.heap[k]?) ∧ w'.os = w.os ∧ w'.tape = w.tape ∧ w'.output = w.output ∧ (∃ q m d, v' = .slice q m d) := by
  have hl := hi.len
  obtain ⟨i5, hi5, hz, hsz, hby⟩ := info5'
  rcases Nat.eq_zero_or_pos n with h0 | h0
  · subst h0
    have : ys = [] := List.length_eq_zero_iff.1 hl
    subst this
    rw [List.append_nil]
    obtain ⟨q, cap, rfl, hf, _⟩ := owns_shape hown
    refine ⟨.slice q xs.length cap, w, ?_, hown, Nat.le_refl _, fun _ _ => rfl, rfl, rfl, rfl, _, _, _, rfl⟩
    rcases hown.2 with ⟨h, h'⟩ | ⟨g, cap', cur, h, _, _, hcc, _⟩
    · rw [h'] at h ⊢
      simp only [Value.slice.injEq] at h
      obtain ⟨rfl, _, rfl⟩ := h
      cases p <;> simp [Builtin.append_, run_underlying Tryd.underlying22, sizeOf, typeInfo, hi5, Builtin.lenOf, Builtin.firstCells, storeCells, loadCells, loadCellsFrom]
    · cases h
      cases p <;> simp [Builtin.append_, run_underlying Tryd.underlying22, sizeOf, typeInfo, hi5, Builtin.lenOf, Builtin.firstCells, storeCells, loadCells, loadCellsFrom, hf]
  · obtain ⟨gs, off, rfl, hgs, hcs⟩ := hi.lies (by omega)
    obtain ⟨ga, cap, w3, hr, ho3, hgr, hwh, hga⟩ := run_append_lies (P := Tryd.prog) w 22 22 B 5 i5 (.int .u8 0) 1 1 Tryd.underlying22 hi5 hz hsz hby rfl (by omega) v xs.length (xs.map (Value.int .u8)) hown
      ⟨gs, off, none⟩ n c (ys.map (Value.int .u8)) (by simp [hl]) (fun j u hu => by
        have hj : j < ys.length := by
          have := (List.getElem?_eq_some_iff.1 hu).1
          simpa using this
        rw [addr_add, hcs j hj]
        rw [List.getElem?_map, List.getElem?_eq_getElem hj] at hu
        simp only [Option.map_some, Option.some.injEq] at hu
        rw [← hu, List.getD_eq_getElem?_getD, List.getElem?_eq_getElem hj]; rfl) (fun u hu => by simp only [List.mem_map] at hu; obtain ⟨y, _, rfl⟩ := hu; rfl) h0 (by unfold maxLen; omega) (by omega) hB _ rfl
    refine ⟨_, w3, hr, ?_, hgr.size, fun k hk => hgr.block k (by omega) (fun e => ?_), hgr.os, hgr.tape, hgr.output, _, _, _, rfl⟩
    · rw [List.length_append, List.map_append, hl]; exact ho3
    · rcases hown.2 with ⟨rfl, _⟩ | ⟨g', c', cur, rfl, hg', _⟩
      · cases e
      · simp only [Value.ownBlock, Option.some.injEq] at e; omega
theorem wpList_appRun {P : Program} {ops : Array Oper} {rest : List Oper} {o : Oper} {a : Act} {Q : Exit → Act → World → Prop} {w w' : World} {v : Value} (hgd : o.guard = none) (s x : Operand) (t t' : TypeId)
    (ho : o.op = .call { callee := .builtin .append, args := #[s, x], argTypes := #[t, t'] }) (vs vx : Value) (hs : a.eval s = vs) (hx : a.eval x = vx)
    (hr : (Builtin.append_ #[t, t'] o.type #[vs, vx]).run P w = .ok v w') (h : wpList P ops Q rest (a.put o.dst v) w') : wpList P ops Q (o :: rest) a w := by
  refine wpList_plain hgd fun _ hK => ?_
  unfold Oper.wp execOp
  simp only [ho, resolve, invoke, builtin, Sem.run_bind, Sem.run_pure, Result.andThen_ok, List.map_toArray, List.map_cons, List.map_nil, hs, hx, hr]
  exact hK _ _ h
set_option maxHeartbeats 2000000 in
theorem write_any (w : World) (B g : Nat) (xs : List Int) (h : Bld w B g xs) (p : Option Addr) (n c : Nat) (ys : List Int) (hi : In8 w p n c ys) (hp : 0 < n → ∀ ad, p = some ad → ad.block ≠ g) (hlen : xs.length + n ≤ 1000000) :
    Calls Tryd.prog 80 #[.pointer (some ⟨g, 0, none⟩), .slice p n c] w fun e w' => (∃ v, e = .returned v) ∧ Bld w' B g (xs ++ ys) ∧ KpG B g w w' := by
  have hbase := h.base
  have hxb := h.bytes
  have HB : Hid (Bld w B g xs) := h
  clear h
  go_enter Tryd.func80, Tryd.ntmps80
  go_wp2_with fail
  refine Calls.mono HB.out.used ?_
  rintro e w1 ⟨rfl, k1, hs1, v, hg, ho⟩
  have hi1 : In8 w1 p n c ys := by
    rcases Nat.eq_zero_or_pos n with hz | hz
    · exact ⟨hi.len, hi.bytes, hi.fits, hi.room, hi.small, fun h0 => by have := hi.len; omega⟩
    · exact hi.same k1.size (fun ad ha hl => k1.block _ hl (fun hx => hp hz ad ha hx))
  obtain ⟨v', w2, hr, ho2, hs2, hblk, hos, htp, hou, q', m', d', rfl⟩ := app8_world w1 B v xs ho hs1 p n c ys hi1 hlen
  obtain ⟨q0, cap0, rfl, _, _⟩ := owns_shape ho
  have hg2 : w2.heap[g]? = some (.cells #[.pointer (some ⟨g, 0, none⟩), .slice q0 xs.length cap0] 132) := (hblk g hbase).trans hg
  have hc1 := two_cell1 hg
  have hc2 := two_cell1 hg2
  have hf2 := frozen_of_row w2 g 1 _ _ hg2
  have hyb := hi.bytes
  have HBF : Hid (Bld (w2.setCell ⟨g, 1, none⟩ (.slice q' m' d')) B g (xs ++ ys)) := by
    refine ⟨hbase, by have : B ≤ w2.heap.size := Nat.le_trans hs1 hs2; simpa [World.setCell] using this, .of fun y hy => ?_, .pointer (some ⟨g, 0, none⟩), .slice q' m' d', two_setCell hg2, .inr rfl, ?_⟩
    · rcases List.mem_append.1 hy with e | e
      · exact hxb.mem y e
      · exact hyb.mem y e
    · obtain ⟨e1, e2 | ⟨q, cap, cur, hv, hgq, hh, r⟩⟩ := ho2
      · exact ⟨e1, .inl e2⟩
      · exact ⟨e1, .inr ⟨q, cap, cur, hv, hgq, (Below.heap_setCell _ _ _ _ (by show q ≠ g; omega)).trans hh, r⟩⟩
  have HK : Hid (KpG B g w (w2.setCell ⟨g, 1, none⟩ (.slice q' m' d'))) := by
    refine ⟨hos.trans k1.os, htp.trans k1.tape, hou.trans k1.output, ?_, fun k hk hx => ?_⟩
    · have : w.heap.size ≤ w2.heap.size := Nat.le_trans k1.size hs2
      simpa [World.setCell] using this
    · rw [Below.heap_setCell _ _ _ _ (fun e => hx (.inl e)), hblk k (by rcases Nat.lt_or_ge k B with h | h; exact h; exact absurd (.inr h) hx)]
      exact k1.block k hk (fun e => hx (.inl e))
  clear ho ho2 hblk hg hg2 HB k1 hi hi1
  go_wp2_with (first
    | (at_builtin
       refine wpList_appRun rfl (.tmp 12) (.tmp 13) 22 22 rfl _ _ rfl rfl hr ?_))
  go_ret2
  exact ⟨⟨_, rfl⟩, HBF.out, HK.out⟩
theorem cells5 : Tryd.prog.cellsOf 5 = 1 := by kernel_rfl
set_option maxHeartbeats 2000000 in
/-- What String tells (of at least one byte). -/
theorem string_any (w : World) (B g : Nat) (xs : List Int) (h : Bld w B g xs) (h0 : 0 < xs.length) (hs : xs.length ≤ 1000000) (B0 : Nat) (hB0 : B0 ≤ B) :
    Calls Tryd.prog 82 #[.pointer (some ⟨g, 0, none⟩)] w fun e w' => e = .returned (.string ⟨(toU xs).toArray⟩) ∧ Below B0 w w' := by
  obtain ⟨h1, h2, h3, ad, v, h4, _, h6⟩ := h
  obtain ⟨q, cap, cur, rfl, hg, hh, hnc, hcm, hcs, htake⟩ := h6.2.resolve_left (fun h => by omega)
  have c0 := two_cell1 h4
  have c1 : w.drew.cell? ⟨g, 1, none⟩ = some (.slice (some ⟨q, 0, none⟩) xs.length cap) := c0
  have hul : (toU xs).length = xs.length := toU_len xs
  have hSD : (Builtin.unsafeSliceData_ #[22] 164 #[.slice (some ⟨q, 0, none⟩) xs.length cap]).run Tryd.prog w.drew = .ok (.pointer (some ⟨q, 0, none⟩)) w.drew := Lib.run_unsafeSliceData_row _ _ _ _ _ _ (by omega)
  obtain ⟨_, _, hv8, _, hq2, _, _, _, hcells⟩ := owns8 h6 h0
  cases hv8
  have hUS : (Builtin.unsafeString_ #[164, 3] 9 #[.pointer (some ⟨q, 0, none⟩), .int .i64 xs.length]).run Tryd.prog w.drew = .ok (.string ⟨(toU xs).toArray⟩) (w.drew.freeze ⟨q, 0, none⟩ xs.length) := by
    have h := Lib.run_unsafeString_row (P := Tryd.prog) w.drew 164 3 9 5 Tryd.underlying164 cells5 q cur.size (by have hg' : w.drew.heap[q]? = some (.cells cur 5 (0, 0)) := hh; simp [World.shape?, hg']) (toU xs) (fun e => by rw [e] at hul; simp at hul; omega) (by rw [hul]; omega) (by rw [hul]; omega) (fun j x hx => by
      have hj : j < xs.length := by have := (List.getElem?_eq_some_iff.1 hx).1; omega
      have hc := hcells j hj
      have hx' : (x.toNat : Int) = xs.getD j 0 := by
        have e := toI_toU xs h3
        have e2 : (toI (toU xs)).getD j 0 = xs.getD j 0 := by rw [e]
        rw [← e2, toI_get (toU xs) j (by omega)]
        rw [List.getElem?_eq_getElem (by omega)] at hx
        simp only [Option.some.injEq] at hx
        rw [hx]
      rw [addr_add, Nat.zero_add, hx']
      exact hc)
    rw [hul] at h
    exact h
  have hbf : Below B0 w (w.drew.freeze ⟨q, 0, none⟩ xs.length) := Lib.below_freeze (Below.drew (Below.refl B0 w)) (p := ⟨q, 0, none⟩) (by show B0 ≤ q; omega) _
  have HBF : Hid (Below B0 w (w.drew.freeze ⟨q, 0, none⟩ xs.length)) := hbf
  clear hcells hbf htake hh h6 h4
  go_enter Tryd.func82, Tryd.ntmps82
  go_wp2_with fail
  go_region
  all_goals (go_wp2_with fail)
  all_goals go_ret
  all_goals exact ⟨rfl, HBF.out⟩
end Go.Proofs.YtcmjlhcpoajbkaaDoor
