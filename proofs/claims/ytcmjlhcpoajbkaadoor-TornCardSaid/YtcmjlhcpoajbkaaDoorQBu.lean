import Derived.Test.YtcmjlhcpoajbkaaDoorQLo
import Derived.Deep.DeepCutAuto
import Derived.Test.YtcmjlhcpoajbkaaDoorQLs
import Derived.Test.YtcmjlhcpoajbkaaDoorQKnot
import Derived.Shelf.Strings.Builder1
namespace Go.Proofs.YtcmjlhcpoajbkaaDoor
set_option maxRecDepth 10000
set_option linter.unusedSimpArgs false
open Go.RowKit
theorem reworld {P : Program} {ops : Array Oper} {Q : Exit → Act → World → Prop} {md : Region.Mode} {S : World → Prop} {fuel : Nat} {listed : Array Bool} {a : Act} {w w' : World} (hw : w = w')
    (h : wpAnyH P md ops Q S fuel listed a w') : wpAnyH P md ops Q S fuel listed a w := by subst hw; exact h
end Go.Proofs.YtcmjlhcpoajbkaaDoor
namespace Go.Proofs.YtcmjlhcpoajbkaaDoor
set_option maxRecDepth 10000
set_option linter.unusedSimpArgs false
open Go.RowKit
theorem zeroHead : (headCells 0 Z32 Z32).size = 65 := headCells_size 0 Z32 Z32 rfl rfl
theorem head_one (n : Int) (R T : List Int) : (headCells n R T).all (·.oneCell') = true := by
  simp [headCells, Value.oneCell']
section
variable {ops : Array Oper} {o : Oper} {a : Act} {w : World} {Q : Exit → Act → World → Prop} {S : World → Prop}
theorem yields_build_head (hw : Region.wanted o (yielded ops a.tmps) = true) (x y z : Operand) (ho : o.op = .build 42 #[(0, x), (1, y), (2, z)])
    (n : Int) (R T : List Int) (hx : a.eval x = .int .i64 n) (hy : a.eval y = .agg (A8 R)) (hz : a.eval z = .agg (A8 T)) (hR : R.length = 32) (hT : T.length = 32) : YieldsIf Tryd.prog ops S o (.agg (headCells n R T)) a :=
  .inl ⟨hw, fun w _ => by
    have hr := build_head n R T hR hT w
    unfold execOp
    simp only [ho, Sem.run_bind, Sem.run_pure, Result.andThen_ok, List.map_toArray, List.map_cons, List.map_nil, hx, hy, hz, hr]⟩
theorem wpOp_store_H {i : Nat} {K : Act → World → Prop} (hi : ops[i]? = some o) (hgd : o.guard = none) (x y : Operand) (ho : o.op = .store 42 x y) (g : Nat) (C C0 : Array Value) (hx : a.eval x = .pointer (some ⟨g, 0, none⟩)) (hy : a.eval y = .agg C) (h0 : w.heap[g]? = some (.cells C0 42))
    (hC : C.size = 65) (hC0 : C0.size = 65) (h1 : C.all (·.oneCell') = true) (h : ∀ W, Stored w W g C 42 → K (a.put o.dst undef) W) : wpOp Tryd.prog ops Q i K a w :=
  wpOp_store_W hi hgd 42 x y ho g C hx hy 42 C0 h0 (by rw [info42, hC]) (by rw [hC0, hC]) h1 h
end
/-- The head of a log. -/
def headP (key : List Int) (es : List (List Int)) : Array Value := headCells es.length (rootP es) (signP key es.length (rootP es))
set_option maxHeartbeats 4000000 in
theorem logHead_any (w : World) (g : Nat) (key : List Int) (es : List (List Int)) (hT : Tabs KS HS w) (hL : LogR w g key es) :
    Calls Tryd.prog 35 #[.pointer (some ⟨g, 0, none⟩)] w fun e w' => e = .returned (.agg (headP key es)) ∧ Below w.heap.size w w' := by
  obtain ⟨⟨kp, kn, kc, hk, hI⟩, ⟨ep, ec, he, hE, hnil⟩, hfew⟩ := hL
  have hb0 : Below w.heap.size w (w.alloc (.cells (headCells 0 Z32 Z32) 42)) := (Below.refl _ _).alloc (Nat.le_refl _) _
  have hz0 := heapN w (.cells (headCells 0 Z32 Z32) 42) _ rfl
  obtain ⟨V, hV⟩ : ∃ V, V = w.alloc (.cells (headCells 0 Z32 Z32) 42) := ⟨_, rfl⟩
  have hkV : V.cell? ⟨g, 0, none⟩ = some (.slice kp kn kc) := by rw [hV]; exact cell_alloc hk _
  have heV : V.cell? ⟨g, 1, none⟩ = some (.slice ep es.length ec) := by rw [hV]; exact cell_alloc he _
  rw [← hV] at hb0 hz0
  have hgl : g < w.heap.size := block_lt_of_cell hk
  have lV := row_lt hz0
  have hTV := hT.below hb0
  have hEV := hE.below hb0
  have hIV := hI.below hb0
  clear hk he hE hI
  obtain ⟨hRl, hRb⟩ := rootP_ok es
  have HH : Hid (headP key es = headCells es.length (rootP es) (signP key es.length (rootP es))) := rfl
  go_enter Tryd.func35, Tryd.ntmps35
  go_wp2_with fail
  go_cut [3, 4] (fun s3 s4 wc => ∃ gd, s3 = .int .i64 es.length ∧ s4 = .pointer (some ⟨gd, 0, none⟩) ∧ Dg wc gd (rootP es) ∧ V.heap.size ≤ gd ∧ Below V.heap.size V wc)
  case first =>
    have S0 : V.drew.cell? ⟨g, 1, none⟩ = some (.slice ep es.length ec) := heV
    have bV : Below V.heap.size V V.drew := (Below.refl _ _).drew
    have eR : Hid (∀ W : World, Below V.heap.size V W → Calls Tryd.prog 76 #[.slice ep es.length ec] W fun e w' => e = .returned (.agg (A8 (rootP es))) ∧ Below W.heap.size W w') := fun W hW => troot_any es.length ep ec es W (hTV.below hW) (hEV.below hW)
    have hc : Hid (∀ W : World, Below V.heap.size V W → W.cell? ⟨g, 1, none⟩ = some (.slice ep es.length ec)) := fun W hW => by rw [hW.cell (p := ⟨g, 1, none⟩) (by simp; omega)]; exact heV
    generalize rootP es = R at *
    refine wp_region_noPanic ?_
    refine wp_region_held (S := fun W => W.cell? ⟨g, 1, none⟩ = some (.slice ep es.length ec)) follows ?_
    rw [hV] at S0
    refine wpAnyH_take (i := 0) (v := .pointer (some ⟨g, 0, none⟩)) rfl (by kernel_rfl) (by kernel_rfl) (by kernel_rfl) (fun _ _ _ h => h) (.inl ⟨rfl, fun W _ => by go_simp⟩) S0 ?_
    simp only [Act.put, List.getElem_toArray, List.getElem_cons_zero, List.getElem_cons_succ, List.setIfInBounds_toArray, List.set_cons_zero, List.set_cons_succ]
    refine wpAnyH_take (i := 1) (v := .pointer (some ⟨g, 0, none⟩)) rfl (by kernel_rfl) (by kernel_rfl) (by kernel_rfl) (fun _ _ _ h => h) (.inl ⟨rfl, fun W _ => by go_simp⟩) S0 ?_
    simp only [Act.put, List.getElem_toArray, List.getElem_cons_zero, List.getElem_cons_succ, List.setIfInBounds_toArray, List.set_cons_zero, List.set_cons_succ]
    refine wpAnyH_take (i := 2) (v := .pointer (some ⟨g, 1, none⟩)) rfl (by kernel_rfl) (by kernel_rfl) (by kernel_rfl) (fun _ _ _ h => h) (.inl ⟨rfl, fun W _ => by go_simp⟩) S0 ?_
    simp only [Act.put, List.getElem_toArray, List.getElem_cons_zero, List.getElem_cons_succ, List.setIfInBounds_toArray, List.set_cons_zero, List.set_cons_succ]
    refine wpAnyH_take (i := 3) (v := .slice ep es.length ec) rfl (by kernel_rfl) (by kernel_rfl) (by kernel_rfl) (fun _ _ _ h => h) (.inl ⟨rfl, fun W hW => by have e : W.cell? ⟨g, 1, none⟩ = some (.slice ep es.length ec) := hW; go_simp⟩) S0 ?_
    simp only [Act.put, List.getElem_toArray, List.getElem_cons_zero, List.getElem_cons_succ, List.setIfInBounds_toArray, List.set_cons_zero, List.set_cons_succ]
    refine wpAnyH_take (i := 4) (v := .int .i64 es.length) rfl (by kernel_rfl) (by kernel_rfl) (by kernel_rfl) (fun _ _ _ h => h) (.inl ⟨rfl, fun W _ => by go_simp⟩) S0 ?_
    simp only [Act.put, List.getElem_toArray, List.getElem_cons_zero, List.getElem_cons_succ, List.setIfInBounds_toArray, List.set_cons_zero, List.set_cons_succ]
    refine wpAnyH_take (i := 5) (v := .pointer (some ⟨g, 0, none⟩)) rfl (by kernel_rfl) (by kernel_rfl) (by kernel_rfl) (fun _ _ _ h => h) (.inl ⟨rfl, fun W _ => by go_simp⟩) S0 ?_
    simp only [Act.put, List.getElem_toArray, List.getElem_cons_zero, List.getElem_cons_succ, List.setIfInBounds_toArray, List.set_cons_zero, List.set_cons_succ]
    refine wpAnyH_take (i := 6) (v := .pointer (some ⟨g, 0, none⟩)) rfl (by kernel_rfl) (by kernel_rfl) (by kernel_rfl) (fun _ _ _ h => h) (.inl ⟨rfl, fun W _ => by go_simp⟩) S0 ?_
    simp only [Act.put, List.getElem_toArray, List.getElem_cons_zero, List.getElem_cons_succ, List.setIfInBounds_toArray, List.set_cons_zero, List.set_cons_succ]
    refine wpAnyH_take (i := 7) (v := .pointer (some ⟨g, 1, none⟩)) rfl (by kernel_rfl) (by kernel_rfl) (by kernel_rfl) (fun _ _ _ h => h) (.inl ⟨rfl, fun W _ => by go_simp⟩) S0 ?_
    simp only [Act.put, List.getElem_toArray, List.getElem_cons_zero, List.getElem_cons_succ, List.setIfInBounds_toArray, List.set_cons_zero, List.set_cons_succ]
    refine wpAnyH_take (i := 8) (v := .slice ep es.length ec) rfl (by kernel_rfl) (by kernel_rfl) (by kernel_rfl) (fun _ _ _ h => h) (.inl ⟨rfl, fun W hW => by have e : W.cell? ⟨g, 1, none⟩ = some (.slice ep es.length ec) := hW; go_simp⟩) S0 ?_
    simp only [Act.put, List.getElem_toArray, List.getElem_cons_zero, List.getElem_cons_succ, List.setIfInBounds_toArray, List.set_cons_zero, List.set_cons_succ]
    refine relist #[true, true, true, true, true, true, true, true, true, false, false, false, false] (by kernel_rfl) ?_
    rw [← hV] at S0
    refine reworld (w' := V.drew) (by rw [hV]; rfl) ?_
    refine any_two (i := 9) (j := 10) (by kernel_rfl) ?_ ?_
    · refine wpOp_call (f := 76) (args := #[.slice ep es.length ec]) rfl rfl (by go_simp) ?_
      refine (eR.out _ bV).mono ?_
      rintro e y1 ⟨rfl, b1⟩
      have B1 : Below V.heap.size V y1 := bV.trans b1
      have h1 := B1.size
      refine ⟨_, rfl, hc.out _ B1, ?_⟩
      simp only [Act.put, List.getElem_toArray, List.getElem_cons_zero, List.getElem_cons_succ, List.setIfInBounds_toArray, List.set_cons_zero, List.set_cons_succ]
      refine relist #[true, true, true, true, true, true, true, true, true, true, false, false, false] (by kernel_rfl) ?_
      refine any_one (i := 10) (by kernel_rfl) ?_
      refine wpOp_val (v := .pointer (some ⟨y1.heap.size, 0, none⟩)) (w' := y1.alloc (.cells Z8x32 25)) rfl rfl (by unfold Z8x32; go_simp) ?_
      have B2 : Below V.heap.size V (y1.alloc (.cells Z8x32 25)) := B1.alloc h1 _
      have d2 : Dg (y1.alloc (.cells Z8x32 25)) y1.heap.size Z32 := Dg.new _ _ rfl
      refine ⟨hc.out _ B2, ?_⟩
      simp only [Act.put, List.getElem_toArray, List.getElem_cons_zero, List.getElem_cons_succ, List.setIfInBounds_toArray, List.set_cons_zero, List.set_cons_succ]
      refine wpAnyH_take (i := 11) (v := .int .i64 es.length) rfl (by kernel_rfl) (by kernel_rfl) (by kernel_rfl) (fun _ _ _ h => h) (.inl ⟨rfl, fun W _ => by go_simp⟩) (hc.out _ B2) ?_
      simp only [Act.put, List.getElem_toArray, List.getElem_cons_zero, List.getElem_cons_succ, List.setIfInBounds_toArray, List.set_cons_zero, List.set_cons_succ]
      refine relist #[true, true, true, true, true, true, true, true, true, true, true, true, false] (by kernel_rfl) ?_
      generalize y1.alloc (.cells Z8x32 25) = y2 at *
      generalize y1.heap.size = gd at *
      refine any_one (i := 12) (by kernel_rfl) ?_
      refine wpOp_store_D rfl rfl (.tmp 4) (.tmp 14) rfl gd R rfl rfl Z32 d2 hRl ?_
      intro X hX
      have xD : Hid (Dg X gd R) := hX.dg hRl
      have xB : Hid (Below V.heap.size V X) := hX.below _ _ h1 B2
      refine ⟨hc.out _ xB.out, ?_⟩
      simp only [Act.put, List.getElem_toArray, List.getElem_cons_zero, List.getElem_cons_succ, List.setIfInBounds_toArray, List.set_cons_zero, List.set_cons_succ]
      refine wpAnyH_done (by kernel_rfl) ?_ _
      refine NoPanic.normal ?_
      clear hX d2 B2 B1 b1 S0
      go_wp2_with fail
      go_meet
      case rel => exact ⟨gd, rfl, rfl, xD.out, h1, xB.out⟩
    · refine wpOp_val (v := .pointer (some ⟨V.drew.heap.size, 0, none⟩)) (w' := V.drew.alloc (.cells Z8x32 25)) rfl rfl (by unfold Z8x32; go_simp) ?_
      have B1 : Below V.heap.size V (V.drew.alloc (.cells Z8x32 25)) := bV.alloc (Nat.le_refl _) _
      have d1 : Dg (V.drew.alloc (.cells Z8x32 25)) V.drew.heap.size Z32 := Dg.new _ _ rfl
      have h1 : V.heap.size ≤ V.drew.heap.size := Nat.le_refl _
      refine ⟨hc.out _ B1, ?_⟩
      simp only [Act.put, List.getElem_toArray, List.getElem_cons_zero, List.getElem_cons_succ, List.setIfInBounds_toArray, List.set_cons_zero, List.set_cons_succ]
      refine relist #[true, true, true, true, true, true, true, true, true, false, true, false, false] (by kernel_rfl) ?_
      generalize V.drew.alloc (.cells Z8x32 25) = y1 at *
      generalize V.drew.heap.size = gd at *
      refine any_one (i := 9) (by kernel_rfl) ?_
      refine wpOp_call (f := 76) (args := #[.slice ep es.length ec]) rfl rfl (by go_simp) ?_
      refine (eR.out _ B1).mono ?_
      rintro e y2 ⟨rfl, b2⟩
      have B2 : Below V.heap.size V y2 := B1.trans (b2.mono B1.size)
      have d2 := d1.next b2
      refine ⟨_, rfl, hc.out _ B2, ?_⟩
      simp only [Act.put, List.getElem_toArray, List.getElem_cons_zero, List.getElem_cons_succ, List.setIfInBounds_toArray, List.set_cons_zero, List.set_cons_succ]
      refine wpAnyH_take (i := 11) (v := .int .i64 es.length) rfl (by kernel_rfl) (by kernel_rfl) (by kernel_rfl) (fun _ _ _ h => h) (.inl ⟨rfl, fun W _ => by go_simp⟩) (hc.out _ B2) ?_
      simp only [Act.put, List.getElem_toArray, List.getElem_cons_zero, List.getElem_cons_succ, List.setIfInBounds_toArray, List.set_cons_zero, List.set_cons_succ]
      refine relist #[true, true, true, true, true, true, true, true, true, true, true, true, false] (by kernel_rfl) ?_
      refine any_one (i := 12) (by kernel_rfl) ?_
      refine wpOp_store_D rfl rfl (.tmp 4) (.tmp 14) rfl gd R rfl rfl Z32 d2 hRl ?_
      intro X hX
      have xD : Hid (Dg X gd R) := hX.dg hRl
      have xB : Hid (Below V.heap.size V X) := hX.below _ _ h1 B2
      refine ⟨hc.out _ xB.out, ?_⟩
      simp only [Act.put, List.getElem_toArray, List.getElem_cons_zero, List.getElem_cons_succ, List.setIfInBounds_toArray, List.set_cons_zero, List.set_cons_succ]
      refine wpAnyH_done (by kernel_rfl) ?_ _
      refine NoPanic.normal ?_
      clear hX d1 d2 B2 B1 b2 S0
      go_wp2_with fail
      go_meet
      case rel => exact ⟨gd, rfl, rfl, xD.out, h1, xB.out⟩
  case rest =>
    obtain ⟨gd, rfl, rfl, dC, hgd, bC⟩ := hcut
    have kC : wc.drew.cell? ⟨g, 0, none⟩ = some (.slice kp kn kc) := by
      have : wc.cell? ⟨g, 0, none⟩ = some (.slice kp kn kc) := by rw [bC.cell (p := ⟨g, 0, none⟩) (by simp; omega)]; exact hkV
      exact this
    have zC : wc.heap[w.heap.size]? = some (.cells (headCells 0 Z32 Z32) 42) := (bC.block _ lV).trans hz0
    have BC : Below w.heap.size w wc.drew := (hb0.trans (bC.mono hb0.size)).drew
    have hIC : In8 wc.drew kp kn kc key := hIV.below bC.drew
    have hTC : Tabs KS HS wc.drew := hTV.below bC.drew
    have dD : Dg wc.drew gd (rootP es) := ⟨dC.len, dC.here⟩
    have lg := dC.lt
    clear hkV heV hTV hEV hIV dC
    have hkl := signP_len key es.length (rootP es)
    generalize rootP es = R at *
    go_wp2_with fail
    have SX := And.intro kC dD
    refine wp_region_noPanic ?_
    refine wp_region_held (S := fun W => W.cell? ⟨g, 0, none⟩ = some (.slice kp kn kc) ∧ Dg W gd R) follows ?_
    refine wpAnyH_take (i := 0) (v := .int .i64 es.length) rfl (by kernel_rfl) (by kernel_rfl) (by kernel_rfl) (fun _ _ _ h => h) (.inl ⟨rfl, fun W _ => by go_simp⟩) SX ?_
    simp only [Act.put, List.getElem_toArray, List.getElem_cons_zero, List.getElem_cons_succ, List.setIfInBounds_toArray, List.set_cons_zero, List.set_cons_succ]
    refine wpAnyH_take (i := 1) (v := .agg (A8 R)) rfl (by kernel_rfl) (by kernel_rfl) (by kernel_rfl) (fun _ _ _ h => h) (yields_D rfl (.tmp 4) rfl gd rfl R hRl (fun W hW => hW.2)) SX ?_
    simp only [Act.put, List.getElem_toArray, List.getElem_cons_zero, List.getElem_cons_succ, List.setIfInBounds_toArray, List.set_cons_zero, List.set_cons_succ]
    refine wpAnyH_take (i := 2) (v := .pointer (some ⟨g, 0, none⟩)) rfl (by kernel_rfl) (by kernel_rfl) (by kernel_rfl) (fun _ _ _ h => h) (.inl ⟨rfl, fun W _ => by go_simp⟩) SX ?_
    simp only [Act.put, List.getElem_toArray, List.getElem_cons_zero, List.getElem_cons_succ, List.setIfInBounds_toArray, List.set_cons_zero, List.set_cons_succ]
    refine wpAnyH_take (i := 3) (v := .pointer (some ⟨g, 0, none⟩)) rfl (by kernel_rfl) (by kernel_rfl) (by kernel_rfl) (fun _ _ _ h => h) (.inl ⟨rfl, fun W _ => by go_simp⟩) SX ?_
    simp only [Act.put, List.getElem_toArray, List.getElem_cons_zero, List.getElem_cons_succ, List.setIfInBounds_toArray, List.set_cons_zero, List.set_cons_succ]
    refine wpAnyH_take (i := 4) (v := .pointer (some ⟨g, 0, none⟩)) rfl (by kernel_rfl) (by kernel_rfl) (by kernel_rfl) (fun _ _ _ h => h) (.inl ⟨rfl, fun W _ => by go_simp⟩) SX ?_
    simp only [Act.put, List.getElem_toArray, List.getElem_cons_zero, List.getElem_cons_succ, List.setIfInBounds_toArray, List.set_cons_zero, List.set_cons_succ]
    refine wpAnyH_take (i := 5) (v := .slice kp kn kc) rfl (by kernel_rfl) (by kernel_rfl) (by kernel_rfl) (fun _ _ _ h => h) (.inl ⟨rfl, fun W hW => by have e : W.cell? ⟨g, 0, none⟩ = some (.slice kp kn kc) := hW.1; go_simp⟩) SX ?_
    simp only [Act.put, List.getElem_toArray, List.getElem_cons_zero, List.getElem_cons_succ, List.setIfInBounds_toArray, List.set_cons_zero, List.set_cons_succ]
    refine wpAnyH_take (i := 6) (v := .int .i64 es.length) rfl (by kernel_rfl) (by kernel_rfl) (by kernel_rfl) (fun _ _ _ h => h) (.inl ⟨rfl, fun W _ => by go_simp⟩) SX ?_
    simp only [Act.put, List.getElem_toArray, List.getElem_cons_zero, List.getElem_cons_succ, List.setIfInBounds_toArray, List.set_cons_zero, List.set_cons_succ]
    refine wpAnyH_take (i := 7) (v := .agg (A8 R)) rfl (by kernel_rfl) (by kernel_rfl) (by kernel_rfl) (fun _ _ _ h => h) (yields_D rfl (.tmp 4) rfl gd rfl R hRl (fun W hW => hW.2)) SX ?_
    simp only [Act.put, List.getElem_toArray, List.getElem_cons_zero, List.getElem_cons_succ, List.setIfInBounds_toArray, List.set_cons_zero, List.set_cons_succ]
    refine relist #[true, true, true, true, true, true, true, true, false, false, false] (by kernel_rfl) ?_
    refine any_one (i := 8) (by kernel_rfl) ?_
    refine wpOp_call (f := 66) (args := #[.slice kp kn kc, .int .i64 es.length, .agg (A8 R)]) rfl rfl (by go_simp) ?_
    refine (headTag_any _ hTC kp kn kc key hIC es.length (by omega) (by omega) R hRl hRb).mono ?_
    rintro e w2 ⟨rfl, b2⟩
    have B2 : Below w.heap.size w w2 := BC.trans (b2.mono BC.size)
    have S2 : w2.cell? ⟨g, 0, none⟩ = some (.slice kp kn kc) ∧ Dg w2 gd R := ⟨by rw [b2.cell (block_lt_of_cell kC)]; exact kC, dD.next b2⟩
    have z2 : w2.heap[w.heap.size]? = some (.cells (headCells 0 Z32 Z32) 42) := (b2.block _ (row_lt (w := wc.drew) zC)).trans zC
    obtain ⟨D, hD⟩ : ∃ D, signP key es.length R = D := ⟨_, rfl⟩
    rw [hD] at hkl HH ⊢
    clear hD
    refine ⟨_, rfl, S2, ?_⟩
    simp only [Act.put, List.getElem_toArray, List.getElem_cons_zero, List.getElem_cons_succ, List.setIfInBounds_toArray, List.set_cons_zero, List.set_cons_succ]
    refine wpAnyH_take (i := 9) (v := .agg (headCells es.length R D)) rfl (by kernel_rfl) (by kernel_rfl) (by kernel_rfl) (fun _ _ _ h => h) (yields_build_head rfl (.tmp 15) (.tmp 16) (.tmp 23) rfl es.length R D rfl rfl rfl hRl hkl) S2 ?_
    simp only [Act.put, List.getElem_toArray, List.getElem_cons_zero, List.getElem_cons_succ, List.setIfInBounds_toArray, List.set_cons_zero, List.set_cons_succ]
    refine relist #[true, true, true, true, true, true, true, true, true, true, false] (by kernel_rfl) ?_
    refine any_one (i := 10) (by kernel_rfl) ?_
    refine wpOp_store_H rfl rfl (.tmp 2) (.tmp 24) rfl w.heap.size (headCells es.length R D) (headCells 0 Z32 Z32) rfl rfl z2 (headCells_size _ _ _ hRl hkl) zeroHead (head_one _ _ _) ?_
    intro X hX
    have xH : Hid (X.heap[w.heap.size]? = some (.cells (headCells es.length R D) 42)) := hX.here
    have xB : Hid (Below w.heap.size w X) := hX.below _ _ (Nat.le_refl _) B2
    have e0 : X.heap[g]? = w2.heap[g]? := hX.other g (by omega)
    refine ⟨⟨by rw [World.cell?_of_block (w := w2) e0]; exact S2.1, S2.2.other hX (by omega)⟩, ?_⟩
    simp only [Act.put, List.getElem_toArray, List.getElem_cons_zero, List.getElem_cons_succ, List.setIfInBounds_toArray, List.set_cons_zero, List.set_cons_succ]
    refine wpAnyH_done (by kernel_rfl) ?_ _
    refine NoPanic.normal ?_
    have hsz := headCells_size es.length R D hRl hkl
    obtain ⟨fs, hfs⟩ := und42
    clear hX S2 SX z2 B2 b2 zC kC BC hIC hTC dD
    go_wp2_with fail
    exact bodyPost_ret (v := .agg (headCells es.length R D)) (results_cell_row rfl _ _ w.heap.size 42 _ (0, 0) (.struct fs) rfl xH.out hfs rfl (by rw [info42, hsz])) rfl ⟨by rw [HH.out], xB.out⟩
end Go.Proofs.YtcmjlhcpoajbkaaDoor
namespace Go.Proofs.YtcmjlhcpoajbkaaDoor
set_option maxRecDepth 10000
set_option linter.unusedSimpArgs false
open Go.RowKit
theorem bslice_more (ad : Addr) (n c k : Nat) (hn : n ≤ c) (hk : k ≤ n) (W : World) :
    (Instr.sliceAt 22 (.slice (some ad) n c) none (some (.int .i64 (k : Int))) none).run Tryd.prog W = .ok (.slice (some ad) k c) W := by
  have h1 : (k : Int) ≤ c := by omega
  have h2 : ¬ (k : Int) < 0 := by omega
  go_simp
theorem Bytes.take {xs : List Int} (h : Bytes xs) (k : Nat) : Bytes (xs.take k) := fun j => by
  by_cases hj : j < k
  · have e : (xs.take k).getD j 0 = xs.getD j 0 := by simp only [List.getD, List.getElem?_take, if_pos hj]
    rw [e]; exact h j
  · have e : (xs.take k).getD j 0 = 0 := by simp only [List.getD, List.getElem?_take, if_neg hj, Option.getD_none]
    rw [e]; omega
theorem In8.take {w : World} {p : Option Addr} {n c : Nat} {xs : List Int} (h : In8 w p n c xs) (k : Nat) (hk : k ≤ n) : In8 w p k c (xs.take k) :=
  ⟨by rw [List.length_take, h.len]; omega, Bytes.take h.bytes k, Nat.le_trans hk h.fits, h.room, Nat.le_trans hk h.small, fun h0 => by
    have hl := h.len
    rw [List.length_take] at h0
    obtain ⟨b, o, hp, hb, hc⟩ := h.lies (by omega)
    refine ⟨b, o, hp, hb, fun j hj => ?_⟩
    rw [List.length_take] at hj
    have e : (xs.take k).getD j 0 = xs.getD j 0 := by simp only [List.getD, List.getElem?_take, if_pos (show j < k by omega)]
    rw [e]; exact hc j (by omega)⟩
set_option maxHeartbeats 1000000 in
theorem short_any (w : World) (p : Option Addr) (n c k : Nat) (xs : List Int) (hi : In8 w p n c xs) (hk : k ≤ 1000) :
    Calls Tryd.prog 52 #[.slice p n c, .int .i64 (k : Int)] w fun e w' => ∃ m, e = .returned (.slice p m c) ∧ m ≤ k ∧ In8 w p m c (xs.take k) ∧ w' = w := by
  have hl := hi.len
  have hf := hi.fits
  have hr := hi.room
  by_cases h : k < n
  · obtain ⟨b, o, hp, _, _⟩ := hi.lies (by omega)
    have HI := hi.take k (by omega)
    have HK : Hid (In8 w p k c (xs.take k)) := HI
    subst hp
    have hs : ∀ W : World, (Instr.sliceAt 22 (.slice (some ⟨b, o, none⟩) n c) none (some (.int .i64 (k : Int))) none).run Tryd.prog W = .ok (.slice (some ⟨b, o, none⟩) k c) W := fun W => bslice_more _ n c k hf (by omega) W
    clear hi HI
    go_enter Tryd.func52, Tryd.ntmps52
    go_wp2_with fail
    go_ret
    exact ⟨k, rfl, by omega, HK.out, rfl⟩
  · have HK : Hid (In8 w p n c (xs.take k)) := by
      show In8 w p n c (xs.take k)
      rw [List.take_of_length_le (by omega)]; exact hi
    clear hi
    go_enter Tryd.func52, Tryd.ntmps52
    go_wp2_with fail
    go_ret
    exact ⟨n, rfl, by omega, HK.out, rfl⟩
def pickP (c n : Int) : Int := (if c < 0 then -(c + 1) else c) % n
theorem pickP_lo (c n : Int) (hn : 0 < n) : 0 ≤ pickP c n := Int.emod_nonneg _ (by omega)
theorem pickP_hi (c n : Int) (hn : 0 < n) : pickP c n < n := Int.emod_lt_of_pos _ hn
set_option maxHeartbeats 1000000 in
theorem pick_any (w : World) (c n : Int) (h1 : -9223372036854775808 ≤ c) (h2 : c ≤ 9223372036854775807) (h3 : 0 < n) (h4 : n ≤ 9223372036854775807) :
    Calls Tryd.prog 44 #[.int .i64 c, .int .i64 n] w fun e w' => e = .returned (.int .i64 (pickP c n)) ∧ w' = w := by
  have hz : ¬ n = 0 := by omega
  by_cases h : c < 0
  · have e : pickP c n = -(c + 1).tmod n := by
      unfold pickP; rw [if_pos h, ← Int.neg_tmod, Int.tmod_eq_emod_of_nonneg (by omega)]
    have hlo := pickP_lo c n h3
    have hhi := pickP_hi c n h3
    rw [e] at hlo hhi ⊢
    go_enter Tryd.func44, Tryd.ntmps44
    go_wp2_with fail
    go_ret
    exact ⟨rfl, rfl⟩
  · have e : pickP c n = c % n := by
      unfold pickP; rw [if_neg h]
    have hlo := pickP_lo c n h3
    have hhi := pickP_hi c n h3
    rw [e] at hlo hhi ⊢
    go_enter Tryd.func44, Tryd.ntmps44
    go_wp2_with fail
    go_ret
    exact ⟨rfl, rfl⟩
/-- Entries as they are handed in: of any length. -/
structure EN (w : World) (p : Option Addr) (n cap : Nat) (es : List (List Int)) : Prop where
  len : es.length = n
  fits : n ≤ cap
  room : cap ≤ 9223372036854775807
  lies : 0 < n → ∃ b o, p = some ⟨b, o, none⟩ ∧ b < w.heap.size ∧ ∀ i, i < n → ∃ p' n' c', w.cell? ⟨b, o + i, none⟩ = some (.slice p' n' c') ∧ In8 w p' n' c' (es.getD i [])
theorem EN.below {w w' : World} {p : Option Addr} {n cap : Nat} {es : List (List Int)} (h : EN w p n cap es) (hb : Below w.heap.size w w') : EN w' p n cap es :=
  ⟨h.len, h.fits, h.room, fun h0 => by
    obtain ⟨b, o, hp, hl, hc⟩ := h.lies h0
    refine ⟨b, o, hp, Nat.lt_of_lt_of_le hl hb.size, fun i hi => ?_⟩
    obtain ⟨p', n', c', h1, h2⟩ := hc i hi
    exact ⟨p', n', c', by rw [hb.cell (block_lt_of_cell h1)]; exact h1, h2.below hb⟩⟩
def END : List Int := [101, 110, 100]
theorem END_bytes : Bytes END := .of fun x hx => by simp only [END, List.mem_cons, List.not_mem_nil, or_false] at hx; omega
/-- The entries of a log that was made, but the last one. -/
def cutP (es : List (List Int)) : List (List Int) := (es.take 40).map (·.take 300)
def madeP (es : List (List Int)) : List (List Int) := cutP es ++ [END]
theorem cutP_len (es : List (List Int)) : (cutP es).length = min 40 es.length := by simp [cutP]
theorem madeP_len (es : List (List Int)) : (madeP es).length = min 40 es.length + 1 := by simp [madeP, cutP]
theorem cut_step (es : List (List Int)) (k : Nat) (hk : k < es.length) : (es.take (k + 1)).map (·.take 300) = (es.take k).map (·.take 300) ++ [(es.getD k []).take 300] := by
  rw [List.take_add_one, List.map_append]
  congr 1
  simp [List.getD, List.getElem?_eq_getElem hk]
section
variable {ops : Array Oper} {rest : List Oper} {o : Oper} {a : Act} {w : World} {Q : Exit → Act → World → Prop} {S : World → Prop}
theorem store_H (hgd : o.guard = none) (x y : Operand) (ho : o.op = .store 42 x y) (g : Nat) (C C0 : Array Value) (hx : a.eval x = .pointer (some ⟨g, 0, none⟩)) (hy : a.eval y = .agg C) (h0 : w.heap[g]? = some (.cells C0 42))
    (hC : C.size = 65) (hC0 : C0.size = 65) (h1 : C.all (·.oneCell') = true) (h : ∀ W, Stored w W g C 42 → wpList Tryd.prog ops Q rest (a.put o.dst undef) W) : wpList Tryd.prog ops Q (o :: rest) a w :=
  wpList_store_W hgd 42 x y ho g C hx hy 42 C0 h0 (by rw [info42, hC]) (by rw [hC0, hC]) h1 h
theorem yields_H (hw : Region.wanted o (yielded ops a.tmps) = true) (x : Operand) (ho : o.op = .load 42 x) (g : Nat) (hx : a.eval x = .pointer (some ⟨g, 0, none⟩)) (C : Array Value) (hC : C.size = 65) (hS : ∀ w, S w → w.heap[g]? = some (.cells C 42)) : YieldsIf Tryd.prog ops S o (.agg C) a := by
  obtain ⟨fs, hfs⟩ := und42
  exact yieldsIf_rowG hw 42 x ho g hx 42 C (0, 0) (.struct fs) hS hfs rfl (by rw [info42, hC])
end
theorem eindex_at (b o n c k : Nat) (hk : k < n) (W : World) : (Instr.indexAt 47 (.slice (some ⟨b, o, none⟩) n c) (.int .i64 k)).run Tryd.prog W = .ok (.pointer (some ⟨b, o + k, none⟩)) W := by
  have h1 : (k : Int) < n := by omega
  go_simp
set_option maxHeartbeats 4000000 in
theorem made_any (w : World) (hT : Tabs KS HS w) (kp : Option Addr) (kn kc : Nat) (key : List Int) (hk : In8 w kp kn kc key) (p : Option Addr) (n c : Nat) (es : List (List Int)) (he : EN w p n c es) :
    Calls Tryd.prog 43 #[.slice kp kn kc, .slice p n c] w fun e w' => ∃ g ev, e = .returned (.tuple #[.pointer (some ⟨g, 0, none⟩), .int .i64 ((madeP es).length : Int)]) ∧ LogAt w' w.heap.size g ev (key.take 100) (madeP es) ∧ Below w.heap.size w w' := by
  have hn := he.len
  have hf := he.fits
  have hr := he.room
  have HE : Hid (EN w p n c es) := he
  clear he
  go_enter Tryd.func43, Tryd.ntmps43
  go_wp2_with fail
  refine (short_any w kp kn kc 100 key hk (by omega)).mono ?_
  rintro e w' ⟨m, rfl, hm, hk1, rfl⟩
  go_wp2_with fail
  refine (new_any w' kp m kc (key.take 100) hk1 hm).mono ?_
  rintro e w1 ⟨g, rfl, hL1, b1⟩
  have HL1 : Hid (LogAt w1 w'.heap.size g (.slice none 0 0) (key.take 100) []) := hL1
  clear hL1
  go_wp2_with fail
  go_loopw [8, 9] (fun v i wr => ∃ k : Nat, k ≤ n ∧ k ≤ 40 ∧ i = .int .i64 k ∧ v = .int .i64 k ∧ Below w'.heap.size w' wr ∧ ∃ ev, LogAt wr w'.heap.size g ev (key.take 100) ((es.take k).map (·.take 300))) (fun _ i _ => 40 - (intOf i).toNat)
  case atStart => exact ⟨0, by omega, by omega, rfl, rfl, b1, _, HL1.out⟩
  case round =>
    obtain ⟨k, hkn, hk40, rfl, rfl, hb, ev, hL⟩ := hrel
    have HL : Hid _ := hL
    clear hL HL1 b1
    by_cases hlt : k < n ∧ k < 40
    · obtain ⟨h1, h2⟩ := hlt
      obtain ⟨b, o, rfl, hbl, hc⟩ := (HE.out.below hb).lies (by omega)
      obtain ⟨q, qn, qc, hcell, hq⟩ := hc k h1
      have HQ : Hid (In8 wr q qn qc (es.getD k [])) := hq
      have hix : ∀ W : World, (Instr.indexAt 47 (.slice (some ⟨b, o, none⟩) n c) (.int .i64 k)).run Tryd.prog W = .ok (.pointer (some ⟨b, o + k, none⟩)) W := fun W => eindex_at b o n c k h1 W
      clear hc hq
      go_wp2_with fail
      refine (short_any wr q qn qc 300 _ HQ.out (by omega)).mono ?_
      rintro e w2 ⟨r, rfl, hr3, hq1, rfl⟩
      have HQ1 : Hid (In8 w2 q r qc ((es.getD k []).take 300)) := hq1
      have el : ((es.take k).map (·.take 300)).length = k := by simp; omega
      clear hq1
      go_wp2_with fail
      refine (append_any w2 w'.heap.size g ev (key.take 100) _ q r qc _ HL.out HQ1.out hr3 (by rw [el]; omega)).mono ?_
      rintro e w3 ⟨ev', rfl, hL3, hk3⟩
      rw [el]
      have B3 : Below w'.heap.size w' w3 := hk3.below (fun j hj => by
        rcases hj with hj | hj
        · rw [hj]; exact HL.out.base
        · exact (HL.out.rowlt j hj).1) hb.size hb
      have HL3 : Hid (LogAt w3 w'.heap.size g ev' (key.take 100) ((es.take (k + 1)).map (·.take 300))) := by
        show LogAt _ _ _ _ _ _
        rw [cut_step es k (by omega)]; exact hL3
      clear hL3 hk3 hb hcell hix
      go_wp2_with fail
      go_roundw
      case rel => exact ⟨k + 1, by omega, by omega, by go_num, by go_num, B3, ev', HL3.out⟩
      case measure => simp [intOf]; omega
    · have hcv := Lib.run_convert_bytes_const (P := Tryd.prog) wr 22 5 #[.int .u8 101, .int .u8 110, .int .u8 100] 3 3 Tryd.underlying22 Tryd.underlying5
      have el : (cutP es).length = k := by rw [cutP_len]; omega
      have ec : (es.take k).map (·.take 300) = cutP es := by
        unfold cutP
        rcases Nat.lt_or_ge k 40 with h | h
        · rw [List.take_of_length_le (i := k) (by omega), List.take_of_length_le (i := 40) (by omega)]
        · have : k = 40 := by omega
          rw [this]
      rw [ec] at HL
      clear ec
      by_cases hkn1 : k < n
      · have hk1 : ¬ k < 40 := by omega
        go_wp2_with fail
        have h3 := heapN wr (.cells #[.int .u8 101, .int .u8 110, .int .u8 100] 5 (3, 4)) _ rfl
        have hI3 : In8 (wr.alloc (.cells #[.int .u8 101, .int .u8 110, .int .u8 100] 5 (3, 4))) (some ⟨wr.heap.size, 0, none⟩) 3 3 END := in8_lit _ _ _ _ END END_bytes (by simp [END]) h3
        have b3 : Below wr.heap.size wr (wr.alloc (.cells #[.int .u8 101, .int .u8 110, .int .u8 100] 5 (3, 4))) := (Below.refl _ _).alloc (Nat.le_refl _) _
        have hL3 := HL.out.below b3
        refine (append_any _ w'.heap.size g ev (key.take 100) _ _ 3 3 END hL3 hI3 (by omega) (by rw [el]; omega)).mono ?_
        rintro e w3 ⟨ev', rfl, hL4, hk4⟩
        rw [el]
        have B3 : Below w'.heap.size w' w3 := hk4.below (fun j hj => by
          rcases hj with hj | hj
          · rw [hj]; exact hL3.base
          · exact (hL3.rowlt j hj).1) (Nat.le_trans hb.size b3.size) (hb.trans (b3.mono hb.size))
        have HL4 : Hid (LogAt w3 w'.heap.size g ev' (key.take 100) (madeP es)) := hL4
        have hML : (madeP es).length = k + 1 := by rw [madeP, List.length_append, el]; rfl
        clear hL4 hk4 hL3 hI3 h3 b3 hcv HL hb
        go_wp2_with fail
        refine (logHead_any w3 g (key.take 100) (madeP es) (hT.below B3) HL4.out.read).mono ?_
        rintro e w4 ⟨rfl, b4⟩
        have B4 : Below w'.heap.size w' w4 := B3.trans (b4.mono B3.size)
        have HL5 : Hid (LogAt w4 w'.heap.size g ev' (key.take 100) (madeP es)) := HL4.out.below b4
        obtain ⟨hRl, hRb⟩ := rootP_ok (madeP es)
        have hTl := signP_len (key.take 100) (madeP es).length (rootP (madeP es))
        have hTb := signP_bytes (key.take 100) (madeP es).length (rootP (madeP es))
        have HS1 : Hid (signedP (key.take 100) (madeP es).length (rootP (madeP es)) (signP (key.take 100) (madeP es).length (rootP (madeP es))) = true) := by
          show _ = _
          unfold signedP; rw [if_pos (by omega)]; simp
        unfold headP
        generalize rootP (madeP es) = R at *
        rw [hML] at hTl hTb HS1 ⊢
        generalize signP (key.take 100) ((k + 1 : Nat) : Int) R = T at *
        have hC := headCells_size ((k + 1 : Nat) : Int) R T hRl hTl
        have h1 := head_one ((k + 1 : Nat) : Int) R T
        have h5 := heapN w4 (.cells (headCells 0 Z32 Z32) 42) _ rfl
        have hs4 := B4.size
        clear b4 HL4 B3
        go_wp2_with (first
          | (with_reducible refine atStore 42 ?_
             refine store_H rfl _ _ rfl w4.heap.size (headCells ((k + 1 : Nat) : Int) R T) (headCells 0 Z32 Z32) rfl rfl h5 hC zeroHead h1 ?_
             intro U hU
             refine hideGoal ?_))
        have hU0 := hU.here
        have BU : Below w'.heap.size w' U := hU.below _ _ hs4 (B4.alloc hs4 _)
        have bU : Below w4.heap.size w4 U := hU.below _ _ (Nat.le_refl _) ((Below.refl _ _).alloc (Nat.le_refl _) _)
        have HL6 : Hid (LogAt U w'.heap.size g ev' (key.take 100) (madeP es)) := HL5.out.below bU
        clear hU h5 HL5 bU B4 h1
        generalize w4.heap.size = gh at *
        refine openGoal ?_
        go_wp2_with fail
        refine wp_region_noPanic ?_
        refine wp_region_held (S := fun W => W.heap[gh]? = some (.cells (headCells ((k + 1 : Nat) : Int) R T) 42)) follows ?_
        have hUd : U.drew.heap[gh]? = some (.cells (headCells ((k + 1 : Nat) : Int) R T) 42) := hU0
        refine wpAnyH_take (i := 0) (v := .slice kp kn kc) rfl (by kernel_rfl) (by kernel_rfl) (by kernel_rfl) (fun _ _ _ h => h) (.inl ⟨rfl, fun W _ => by go_simp⟩) hUd ?_
        simp only [Act.put, List.getElem_toArray, List.getElem_cons_zero, List.getElem_cons_succ, List.setIfInBounds_toArray, List.set_cons_zero, List.set_cons_succ]
        refine wpAnyH_take (i := 2) (v := .agg (headCells ((k + 1 : Nat) : Int) R T)) rfl (by kernel_rfl) (by kernel_rfl) (by kernel_rfl) (fun _ _ _ h => h) (yields_H rfl (.tmp 14) rfl gh rfl _ hC (fun W hW => hW)) hUd ?_
        simp only [Act.put, List.getElem_toArray, List.getElem_cons_zero, List.getElem_cons_succ, List.setIfInBounds_toArray, List.set_cons_zero, List.set_cons_succ]
        refine relist #[true, false, true, false, false] (by kernel_rfl) ?_
        refine any_one (i := 1) (by kernel_rfl) ?_
        refine wpOp_call (f := 52) (args := #[.slice kp kn kc, .int .i64 100]) rfl rfl (by go_simp) ?_
        have BD : Below w'.heap.size w' U.drew := BU.drew
        refine (short_any _ kp kn kc 100 key (hk.below BD) (by omega)).mono ?_
        rintro e V ⟨r, rfl, hr5, hI5, rfl⟩
        refine ⟨_, rfl, hUd, ?_⟩
        simp only [Act.put, List.getElem_toArray, List.getElem_cons_zero, List.getElem_cons_succ, List.setIfInBounds_toArray, List.set_cons_zero, List.set_cons_succ]
        refine relist #[true, true, true, false, false] (by kernel_rfl) ?_
        refine any_one (i := 3) (by kernel_rfl) ?_
        refine wpOp_call (f := 28) (args := #[.slice kp r kc, .agg (headCells ((k + 1 : Nat) : Int) R T)]) rfl rfl (by go_simp) ?_
        refine (signed_any _ (hT.below BD) kp r kc (key.take 100) hI5 ((k + 1 : Nat) : Int) (by omega) R T hRl hRb hTl hTb).mono ?_
        rintro e V ⟨rfl, b7⟩
        have hL0 : LogAt U.drew w'.heap.size g ev' (key.take 100) (madeP es) := HL6.out.below (Below.refl _ _).drew
        have HL7 : Hid (LogAt V w'.heap.size g ev' (key.take 100) (madeP es)) := hL0.below b7
        have hV0 : V.heap[gh]? = some (.cells (headCells ((k + 1 : Nat) : Int) R T) 42) := (b7.block gh (row_lt hUd)).trans hUd
        have BV : Hid (Below w'.heap.size w' V) := BD.trans (b7.mono BD.size)
        rw [HS1.out]
        refine ⟨_, rfl, hV0, ?_⟩
        simp only [Act.put, List.getElem_toArray, List.getElem_cons_zero, List.getElem_cons_succ, List.setIfInBounds_toArray, List.set_cons_zero, List.set_cons_succ]
        refine wpAnyH_take (i := 4) (v := .bool true) rfl (by kernel_rfl) (by kernel_rfl) (by kernel_rfl) (fun _ _ _ h => h) (.inl ⟨rfl, fun W _ => by go_simp⟩) hV0 ?_
        simp only [Act.put, List.getElem_toArray, List.getElem_cons_zero, List.getElem_cons_succ, List.setIfInBounds_toArray, List.set_cons_zero, List.set_cons_succ]
        refine wpAnyH_done (by kernel_rfl) ?_ _
        refine NoPanic.normal ?_
        have hc0 : V.cell? ⟨gh, 0, none⟩ = some (.int .i64 ((k + 1 : Nat) : Int)) := by rw [cell_of_row _ _ _ _ _ _ hV0]; rfl
        clear hV0 hUd hU0 BD BU HL6 hL0 b7 hI5 HS1 hC hTb
        go_wp2_with fail
        go_ret2
        exact ⟨g, ev', by rw [hML]; rfl, HL7.out, BV.out⟩
      · have hk1 : ¬ k < n := hkn1
        go_wp2_with fail
        have h3 := heapN wr (.cells #[.int .u8 101, .int .u8 110, .int .u8 100] 5 (3, 4)) _ rfl
        have hI3 : In8 (wr.alloc (.cells #[.int .u8 101, .int .u8 110, .int .u8 100] 5 (3, 4))) (some ⟨wr.heap.size, 0, none⟩) 3 3 END := in8_lit _ _ _ _ END END_bytes (by simp [END]) h3
        have b3 : Below wr.heap.size wr (wr.alloc (.cells #[.int .u8 101, .int .u8 110, .int .u8 100] 5 (3, 4))) := (Below.refl _ _).alloc (Nat.le_refl _) _
        have hL3 := HL.out.below b3
        refine (append_any _ w'.heap.size g ev (key.take 100) _ _ 3 3 END hL3 hI3 (by omega) (by rw [el]; omega)).mono ?_
        rintro e w3 ⟨ev', rfl, hL4, hk4⟩
        rw [el]
        have B3 : Below w'.heap.size w' w3 := hk4.below (fun j hj => by
          rcases hj with hj | hj
          · rw [hj]; exact hL3.base
          · exact (hL3.rowlt j hj).1) (Nat.le_trans hb.size b3.size) (hb.trans (b3.mono hb.size))
        have HL4 : Hid (LogAt w3 w'.heap.size g ev' (key.take 100) (madeP es)) := hL4
        have hML : (madeP es).length = k + 1 := by rw [madeP, List.length_append, el]; rfl
        clear hL4 hk4 hL3 hI3 h3 b3 hcv HL hb
        go_wp2_with fail
        refine (logHead_any w3 g (key.take 100) (madeP es) (hT.below B3) HL4.out.read).mono ?_
        rintro e w4 ⟨rfl, b4⟩
        have B4 : Below w'.heap.size w' w4 := B3.trans (b4.mono B3.size)
        have HL5 : Hid (LogAt w4 w'.heap.size g ev' (key.take 100) (madeP es)) := HL4.out.below b4
        obtain ⟨hRl, hRb⟩ := rootP_ok (madeP es)
        have hTl := signP_len (key.take 100) (madeP es).length (rootP (madeP es))
        have hTb := signP_bytes (key.take 100) (madeP es).length (rootP (madeP es))
        have HS1 : Hid (signedP (key.take 100) (madeP es).length (rootP (madeP es)) (signP (key.take 100) (madeP es).length (rootP (madeP es))) = true) := by
          show _ = _
          unfold signedP; rw [if_pos (by omega)]; simp
        unfold headP
        generalize rootP (madeP es) = R at *
        rw [hML] at hTl hTb HS1 ⊢
        generalize signP (key.take 100) ((k + 1 : Nat) : Int) R = T at *
        have hC := headCells_size ((k + 1 : Nat) : Int) R T hRl hTl
        have h1 := head_one ((k + 1 : Nat) : Int) R T
        have h5 := heapN w4 (.cells (headCells 0 Z32 Z32) 42) _ rfl
        have hs4 := B4.size
        clear b4 HL4 B3
        go_wp2_with (first
          | (with_reducible refine atStore 42 ?_
             refine store_H rfl _ _ rfl w4.heap.size (headCells ((k + 1 : Nat) : Int) R T) (headCells 0 Z32 Z32) rfl rfl h5 hC zeroHead h1 ?_
             intro U hU
             refine hideGoal ?_))
        have hU0 := hU.here
        have BU : Below w'.heap.size w' U := hU.below _ _ hs4 (B4.alloc hs4 _)
        have bU : Below w4.heap.size w4 U := hU.below _ _ (Nat.le_refl _) ((Below.refl _ _).alloc (Nat.le_refl _) _)
        have HL6 : Hid (LogAt U w'.heap.size g ev' (key.take 100) (madeP es)) := HL5.out.below bU
        clear hU h5 HL5 bU B4 h1
        generalize w4.heap.size = gh at *
        refine openGoal ?_
        go_wp2_with fail
        refine wp_region_noPanic ?_
        refine wp_region_held (S := fun W => W.heap[gh]? = some (.cells (headCells ((k + 1 : Nat) : Int) R T) 42)) follows ?_
        have hUd : U.drew.heap[gh]? = some (.cells (headCells ((k + 1 : Nat) : Int) R T) 42) := hU0
        refine wpAnyH_take (i := 0) (v := .slice kp kn kc) rfl (by kernel_rfl) (by kernel_rfl) (by kernel_rfl) (fun _ _ _ h => h) (.inl ⟨rfl, fun W _ => by go_simp⟩) hUd ?_
        simp only [Act.put, List.getElem_toArray, List.getElem_cons_zero, List.getElem_cons_succ, List.setIfInBounds_toArray, List.set_cons_zero, List.set_cons_succ]
        refine wpAnyH_take (i := 2) (v := .agg (headCells ((k + 1 : Nat) : Int) R T)) rfl (by kernel_rfl) (by kernel_rfl) (by kernel_rfl) (fun _ _ _ h => h) (yields_H rfl (.tmp 14) rfl gh rfl _ hC (fun W hW => hW)) hUd ?_
        simp only [Act.put, List.getElem_toArray, List.getElem_cons_zero, List.getElem_cons_succ, List.setIfInBounds_toArray, List.set_cons_zero, List.set_cons_succ]
        refine relist #[true, false, true, false, false] (by kernel_rfl) ?_
        refine any_one (i := 1) (by kernel_rfl) ?_
        refine wpOp_call (f := 52) (args := #[.slice kp kn kc, .int .i64 100]) rfl rfl (by go_simp) ?_
        have BD : Below w'.heap.size w' U.drew := BU.drew
        refine (short_any _ kp kn kc 100 key (hk.below BD) (by omega)).mono ?_
        rintro e V ⟨r, rfl, hr5, hI5, rfl⟩
        refine ⟨_, rfl, hUd, ?_⟩
        simp only [Act.put, List.getElem_toArray, List.getElem_cons_zero, List.getElem_cons_succ, List.setIfInBounds_toArray, List.set_cons_zero, List.set_cons_succ]
        refine relist #[true, true, true, false, false] (by kernel_rfl) ?_
        refine any_one (i := 3) (by kernel_rfl) ?_
        refine wpOp_call (f := 28) (args := #[.slice kp r kc, .agg (headCells ((k + 1 : Nat) : Int) R T)]) rfl rfl (by go_simp) ?_
        refine (signed_any _ (hT.below BD) kp r kc (key.take 100) hI5 ((k + 1 : Nat) : Int) (by omega) R T hRl hRb hTl hTb).mono ?_
        rintro e V ⟨rfl, b7⟩
        have hL0 : LogAt U.drew w'.heap.size g ev' (key.take 100) (madeP es) := HL6.out.below (Below.refl _ _).drew
        have HL7 : Hid (LogAt V w'.heap.size g ev' (key.take 100) (madeP es)) := hL0.below b7
        have hV0 : V.heap[gh]? = some (.cells (headCells ((k + 1 : Nat) : Int) R T) 42) := (b7.block gh (row_lt hUd)).trans hUd
        have BV : Hid (Below w'.heap.size w' V) := BD.trans (b7.mono BD.size)
        rw [HS1.out]
        refine ⟨_, rfl, hV0, ?_⟩
        simp only [Act.put, List.getElem_toArray, List.getElem_cons_zero, List.getElem_cons_succ, List.setIfInBounds_toArray, List.set_cons_zero, List.set_cons_succ]
        refine wpAnyH_take (i := 4) (v := .bool true) rfl (by kernel_rfl) (by kernel_rfl) (by kernel_rfl) (fun _ _ _ h => h) (.inl ⟨rfl, fun W _ => by go_simp⟩) hV0 ?_
        simp only [Act.put, List.getElem_toArray, List.getElem_cons_zero, List.getElem_cons_succ, List.setIfInBounds_toArray, List.set_cons_zero, List.set_cons_succ]
        refine wpAnyH_done (by kernel_rfl) ?_ _
        refine NoPanic.normal ?_
        have hc0 : V.cell? ⟨gh, 0, none⟩ = some (.int .i64 ((k + 1 : Nat) : Int)) := by rw [cell_of_row _ _ _ _ _ _ hV0]; rfl
        clear hV0 hUd hU0 BD BU HL6 hL0 b7 hI5 HS1 hC hTb
        go_wp2_with fail
        go_ret2
        exact ⟨g, ev', by rw [hML]; rfl, HL7.out, BV.out⟩
end Go.Proofs.YtcmjlhcpoajbkaaDoor
namespace Go.Proofs.YtcmjlhcpoajbkaaDoor
set_option maxRecDepth 10000
set_option linter.unusedSimpArgs false
open Go.RowKit
theorem in8_nil (w : World) : In8 w none 0 0 [] := ⟨rfl, fun j => by simp, by omega, by omega, by omega, fun h => by simp at h⟩
end Go.Proofs.YtcmjlhcpoajbkaaDoor
namespace Go.Proofs.YtcmjlhcpoajbkaaDoor
set_option maxRecDepth 100000
open Go.ChangeShapes Go.WideShapes Go.ChangeAt Go.RowKit
theorem cells22 : Tryd.prog.cellsOf 22 = 1 := by kernel_rfl
theorem spot_of {w : World} {a : Addr} {v : Value} (h : w.cell? (a.add 0) = some v) : a = ⟨a.block, a.off, none⟩ := by
  cases a with
  | mk b o s =>
    cases s with
    | none => rfl
    | some s =>
      unfold Addr.add World.cell? at h
      split at h <;> simp at h
/-- Bytes that were read, as the walk takes them. -/
theorem in8_of {H : Type} {enc : TypeId × Value → H} {W : World} {fuel : Nat} {v : Value} {d : DataW H} {pl : List MemPlace}
    (hf : DataW.trod enc Tryd.prog W 0 (fun _ => true) true fuel 22 [v] = some (d, pl)) (hsz : ∀ n ∈ d.weights Tryd.prog 22, n ≤ reachBytes) : ∃ p n c xs, v = .slice p n c ∧ In8 W p n c xs := by
  rcases open_ints Tryd.underlying22 Tryd.underlying5 (by kernel_rfl) hf with ⟨hcs, _⟩ | ⟨x, l, c, zs, hcs, _, hl, hm, hz, hx, hcell, hwz⟩
  · simp at hcs
    exact ⟨none, 0, 0, [], hcs, in8_nil W⟩
  · simp at hcs
    have hz' : zs.length = c := by simpa using hz
    simp only [Prod.mk.injEq] at hx
    have hs : (l + (c - l)) * Tryd.prog.bytesOf 5 ≤ reachBytes := by
      refine hsz _ ?_
      rw [hx.1]
      simp only [DataW.weights, Tryd.underlying22, lits, List.length_map, List.length_take, List.length_drop, hz', Nat.min_eq_left hl]
      exact List.mem_cons_self
    rw [bytes5] at hs
    simp only [reachBytes] at hs
    refine ⟨some x, l, c, zs.take l, hcs, ⟨by rw [List.length_take]; omega, Bytes.of fun y hy => ?_, hl, by unfold maxLen at hm; omega, by omega, fun h0 => ?_⟩⟩
    · have := bounds_u8 (hwz y (List.mem_of_mem_take hy))
      omega
    · rw [List.length_take] at h0
      have e0 := spot_of (hcell 0 (by omega))
      refine ⟨x.block, x.off, by rw [← e0], ?_, fun j hj => ?_⟩
      · have := block_lt_of_cell (hcell 0 (by omega))
        rwa [addr_block] at this
      · rw [List.length_take] at hj
        have e1 := hcell j (by omega)
        rw [e0, addr_add] at e1
        rw [e1, List.getD_eq_getElem?_getD, List.getD_eq_getElem?_getD, List.getElem?_take, if_pos (by omega)]
theorem weights_all {H : Type} {P : Program} {e : TypeId} : ∀ {l : List (DataW H)} {d : DataW H}, d ∈ l → ∀ n ∈ d.weights P e, n ∈ DataW.weightsAll P e l
  | x :: r, d, hd, n, hn => by
    rw [DataW.weightsAll, List.mem_append]
    rcases List.mem_cons.1 hd with h | h
    · subst h; exact .inl hn
    · exact .inr (weights_all h n hn)
/-- Entries that were read, as the walk takes them. -/
theorem earg_of {H : Type} {enc : TypeId × Value → H} {W : World} {v : Value} {d : DataW H} {p : List MemPlace} {ts : List TypeId} {ds : List (DataW H)} {base j : Nat}
    (hv : Value.okWide Tryd.prog W .any base 47 v) (h : DataW.Trod enc Tryd.prog W 0 (fun _ => true) true 47 v d p) (hsz : (DataW.weightsEach Tryd.prog ts ds).all (· ≤ reachBytes) = true)
    (ht : ts[j]? = some 47) (hd : ds[j]? = some d) : ∃ q n c es, v = .slice q n c ∧ EN W q n c es := by
  obtain ⟨a0, len0, cap0, rfl⟩ := okWide_slice Tryd.underlying47 hv
  obtain ⟨fuel, hf⟩ := h
  rcases Deep.open_slice Tryd.underlying47 hf with ⟨hcs, _⟩ | ⟨a, l, c, m, n, Df, Pl, hcs, _, hl, hm, hmm, hx, hcell⟩
  · simp [Value.cells] at hcs
    obtain ⟨rfl, rfl, rfl⟩ := hcs
    exact ⟨none, 0, 0, [], rfl, ⟨rfl, by omega, by omega, fun h => by omega⟩⟩
  · simp [Value.cells] at hcs
    obtain ⟨rfl, rfl, rfl⟩ := hcs
    simp only [Prod.mk.injEq] at hx
    simp only [if_true] at hmm
    subst hmm
    have key : ∀ i, i < len0 → ∃ z : (Option Addr × Nat × Nat) × List Int, W.cell? (a.add i) = some (.slice z.1.1 z.1.2.1 z.1.2.2) ∧ In8 W z.1.1 z.1.2.1 z.1.2.2 z.2 := fun i hi => by
      obtain ⟨cs', hc, ht'⟩ := hcell i (by omega)
      rw [cells22, Nat.mul_one] at hc
      have hc2 := World.cells?_some hc
      have e := hc2.2.2 0 (by omega)
      rw [Deep.add_add, Nat.add_zero] at e
      have hl1 : cs'.length = 1 := hc2.2.1
      match cs', hl1 with
      | [u], _ =>
        obtain ⟨q, n', c', xs, rfl, hI⟩ := in8_of ht' (fun k hk => by
          have hmem : k ∈ DataW.weightsEach Tryd.prog ts ds := DataW.weights_mem_each ht hd k (by
            rw [hx.1]
            simp only [DataW.weights, Tryd.underlying47]
            refine List.mem_cons_of_mem _ (List.mem_append.2 (.inl (weights_all (d := Df i) (List.mem_map.2 ⟨i, List.mem_range.2 hi, rfl⟩) k hk))))
          simpa using List.all_eq_true.1 hsz k hmem)
        exact ⟨((q, n', c'), xs), by rw [e]; rfl, hI⟩
    obtain ⟨f, hf⟩ := Deep.choose_lt (α := (Option Addr × Nat × Nat) × List Int) (p := fun i z => W.cell? (a.add i) = some (.slice z.1.1 z.1.2.1 z.1.2.2) ∧ In8 W z.1.1 z.1.2.1 z.1.2.2 z.2) key
    refine ⟨some a, len0, _, (List.range len0).map fun i => (f i).2, rfl, ⟨by simp, hl, by unfold maxLen at hm; omega, fun h0 => ?_⟩⟩
    have e0 := spot_of (hf 0 h0).1
    refine ⟨a.block, a.off, by rw [← e0], ?_, fun i hi => ?_⟩
    · have := block_lt_of_cell (hf 0 h0).1
      rwa [addr_block] at this
    · have e1 := (hf i hi).1
      rw [e0, addr_add] at e1
      refine ⟨_, _, _, e1, ?_⟩
      have e2 : ((List.range len0).map fun i => (f i).2).getD i [] = (f i).2 := by simp [List.getD_eq_getElem?_getD, hi]
      rw [e2]; exact (hf i hi).2
end Go.Proofs.YtcmjlhcpoajbkaaDoor
namespace Go.Proofs.YtcmjlhcpoajbkaaDoor
set_option maxRecDepth 100000
open Go.ChangeShapes Go.WideShapes Go.ChangeAt Go.RowKit
/-- Bytes that were read, as the walk takes them. -/
theorem in8_small {H : Type} {enc : TypeId × Value → H} {W : World} {fuel : Nat} {v : Value} {d : DataW H} {pl : List MemPlace}
    (hf : DataW.trod enc Tryd.prog W 0 (fun _ => true) true fuel 22 [v] = some (d, pl)) (hsz : ∀ n ∈ d.weights Tryd.prog 22, n ≤ reachBytes) : ∃ p n c xs, v = .slice p n c ∧ In8 W p n c xs ∧ n ≤ 140737488351232 := by
  rcases open_ints Tryd.underlying22 Tryd.underlying5 (by kernel_rfl) hf with ⟨hcs, _⟩ | ⟨x, l, c, zs, hcs, _, hl, hm, hz, hx, hcell, hwz⟩
  · simp at hcs
    exact ⟨none, 0, 0, [], hcs, in8_nil W, by omega⟩
  · simp at hcs
    have hz' : zs.length = c := by simpa using hz
    simp only [Prod.mk.injEq] at hx
    have hs : (l + (c - l)) * Tryd.prog.bytesOf 5 ≤ reachBytes := by
      refine hsz _ ?_
      rw [hx.1]
      simp only [DataW.weights, Tryd.underlying22, lits, List.length_map, List.length_take, List.length_drop, hz', Nat.min_eq_left hl]
      exact List.mem_cons_self
    rw [bytes5] at hs
    simp only [reachBytes] at hs
    refine ⟨some x, l, c, zs.take l, hcs, ⟨by rw [List.length_take]; omega, Bytes.of fun y hy => ?_, hl, by unfold maxLen at hm; omega, by omega, fun h0 => ?_⟩, by omega⟩
    · have := bounds_u8 (hwz y (List.mem_of_mem_take hy))
      omega
    · rw [List.length_take] at h0
      have e0 := spot_of (hcell 0 (by omega))
      refine ⟨x.block, x.off, by rw [← e0], ?_, fun j hj => ?_⟩
      · have := block_lt_of_cell (hcell 0 (by omega))
        rwa [addr_block] at this
      · rw [List.length_take] at hj
        have e1 := hcell j (by omega)
        rw [e0, addr_add] at e1
        rw [e1, List.getD_eq_getElem?_getD, List.getD_eq_getElem?_getD, List.getElem?_take, if_pos (by omega)]
theorem key_small {H : Type} {enc : TypeId × Value → H} {W : World} {v : Value} {d : DataW H} {p : List MemPlace} {ts : List TypeId} {ds : List (DataW H)} {base j : Nat}
    (hv : Value.okWide Tryd.prog W .any base 22 v) (h : DataW.Trod enc Tryd.prog W 0 (fun _ => true) true 22 v d p) (hsz : (DataW.weightsEach Tryd.prog ts ds).all (· ≤ reachBytes) = true)
    (ht : ts[j]? = some 22) (hd : ds[j]? = some d) : ∃ q n c xs, v = .slice q n c ∧ In8 W q n c xs ∧ n ≤ 140737488351232 := by
  obtain ⟨a0, len0, cap0, rfl⟩ := okWide_slice Tryd.underlying22 hv
  obtain ⟨fuel, hf⟩ := h
  exact in8_small hf (fun k hk => by simpa using List.all_eq_true.1 hsz k (DataW.weights_mem_each ht hd k hk))
end Go.Proofs.YtcmjlhcpoajbkaaDoor
namespace Go.Proofs.YtcmjlhcpoajbkaaDoor
set_option maxRecDepth 100000
set_option linter.unusedSimpArgs false
open Go.RowKit
/-- A builder: its own address (or none yet), its bytes in a row of one's own, beyond B. -/
structure Bld (w : World) (B g : Nat) (xs : List Int) : Prop where
  base : g < B
  size : B ≤ w.heap.size
  bytes : Bytes xs
  at_ : ∃ ad v, w.heap[g]? = some (.cells #[ad, v] 132) ∧ (ad = .pointer none ∨ ad = .pointer (some ⟨g, 0, none⟩)) ∧ w.ownsRow B 5 1 v xs.length (xs.map (Value.int .u8))
theorem sizeBld : ∃ j, Tryd.prog.info? 132 = some j ∧ j.size = 2 := ⟨_, rfl, by kernel_rfl⟩
theorem copyCheck_fresh (w : World) (g : Nat) (v : Value) (h : w.heap[g]? = some (.cells #[.pointer none, v] 132)) :
    Calls Tryd.prog 105 #[.pointer (some ⟨g, 0, none⟩)] w fun e w' => e = .returned (.tuple #[]) ∧ w' = w.setCell ⟨g, 0, none⟩ (.pointer (some ⟨g, 0, none⟩)) := by
  have hc : w.cell? ⟨g, 0, none⟩ = some (.pointer none) := by rw [cell_of_row _ _ _ _ _ _ h]; rfl
  have hf := frozen_of_row w g 0 _ _ h
  obtain ⟨j, hj, hjs⟩ := sizeBld
  have hsh : w.shape? g = some (132, 2) := by simp [World.shape?, h]
  have c1 : (convert 130 178 (.pointer (some ⟨g, 0, none⟩))).run Tryd.prog w = .ok (.pointer (some ⟨g, 0, none⟩)) w := Lib.run_to_unsafe w ⟨g, 0, none⟩ Tryd.underlying130 Tryd.underlying178 hj (by rw [hjs]; decide) hsh (Nat.zero_lt_succ 1)
  have c2 : (convert 178 130 (.pointer (some ⟨g, 0, none⟩))).run Tryd.prog w = .ok (.pointer (some ⟨g, 0, none⟩)) w := Lib.run_from_unsafe w ⟨g, 0, none⟩ Tryd.underlying178 Tryd.underlying130 hj hsh (by kernel_rfl)
  go_enter Tryd.func105, Tryd.ntmps105
  go_wp2_with fail
  rw [run_callFunc_extern Tryd.func122 (by kernel_rfl) (by kernel_rfl) (by kernel_rfl) (e := Extern.AbiNoEscape.same) (by kernel_rfl)]
  rw [Lib.run_noEscape]
  simp only [Result.andThen]
  rw [Oper.upon_value]
  go_wp2_with fail
  go_end0
  exact ⟨rfl, rfl⟩
theorem copyCheck_used (w : World) (g : Nat) (v : Value) (h : w.heap[g]? = some (.cells #[.pointer (some ⟨g, 0, none⟩), v] 132)) :
    Calls Tryd.prog 105 #[.pointer (some ⟨g, 0, none⟩)] w fun e w' => e = .returned (.tuple #[]) ∧ w' = w := by
  have hc : w.cell? ⟨g, 0, none⟩ = some (.pointer (some ⟨g, 0, none⟩)) := by rw [cell_of_row _ _ _ _ _ _ h]; rfl
  obtain ⟨j, hj, hjs⟩ := sizeBld
  go_enter Tryd.func105, Tryd.ntmps105
  go_wp2_with fail
  rw [Lib.run_neq_ptr_same w _ Tryd.underlying130 hj]
  go_wp2_with fail
  go_end0
  exact ⟨rfl, rfl⟩
/-- Nothing below B has changed but the block g. -/
def KpG (B g : Nat) (w w' : World) : Prop := Kp (fun k => k = g ∨ B ≤ k) w w'
theorem Bld.below {w w' : World} {B g : Nat} {xs : List Int} (h : Bld w B g xs) (hb : Below w.heap.size w w') : Bld w' B g xs := by
  obtain ⟨h1, h2, h3, ad, v, h4, h5, h6⟩ := h
  refine ⟨h1, Nat.le_trans h2 hb.size, h3, ad, v, (hb.block g (row_lt h4)).trans h4, h5, ?_⟩
  obtain ⟨e1, e2 | ⟨q, cap, cur, hv, hg, hh, r⟩⟩ := h6
  · exact ⟨e1, .inl e2⟩
  · exact ⟨e1, .inr ⟨q, cap, cur, hv, hg, (hb.block q (row_lt hh)).trans hh, r⟩⟩
theorem Bld.used {w : World} {B g : Nat} {xs : List Int} (h : Bld w B g xs) :
    Calls Tryd.prog 105 #[.pointer (some ⟨g, 0, none⟩)] w fun e w' => e = .returned (.tuple #[]) ∧ Kp (fun k => k = g) w w' ∧ B ≤ w'.heap.size ∧ ∃ v, w'.heap[g]? = some (.cells #[.pointer (some ⟨g, 0, none⟩), v] 132) ∧ w'.ownsRow B 5 1 v xs.length (xs.map (Value.int .u8)) := by
  obtain ⟨h1, h2, h3, ad, v, h4, h5 | h5, h6⟩ := h
  · subst h5
    refine (copyCheck_fresh w g v h4).mono ?_
    rintro e w' ⟨rfl, rfl⟩
    refine ⟨rfl, ⟨rfl, rfl, rfl, by simp [World.setCell], fun k hk hx => Below.heap_setCell _ _ _ _ (fun e => hx e)⟩, by simpa [World.setCell] using h2, v, ?_, ?_⟩
    · have := heap_setCell_same w g 0 _ _ (.pointer (some ⟨g, 0, none⟩)) h4
      simpa using this
    · obtain ⟨e1, e2 | ⟨q, cap, cur, hv, hg, hh, r⟩⟩ := h6
      · exact ⟨e1, .inl e2⟩
      · exact ⟨e1, .inr ⟨q, cap, cur, hv, hg, (Below.heap_setCell _ _ _ _ (by show q ≠ g; omega)).trans hh, r⟩⟩
  · subst h5
    refine (copyCheck_used w g v h4).mono ?_
    rintro e w' ⟨rfl, rfl⟩
    exact ⟨rfl, ⟨rfl, rfl, rfl, Nat.le_refl _, fun _ _ _ => rfl⟩, h2, v, h4, h6⟩
end Go.Proofs.YtcmjlhcpoajbkaaDoor
