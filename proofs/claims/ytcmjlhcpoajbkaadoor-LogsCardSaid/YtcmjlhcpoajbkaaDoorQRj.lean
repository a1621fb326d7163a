import Derived.Test.YtcmjlhcpoajbkaaDoorQRr
import Derived.Test.YtcmjlhcpoajbkaaDoorQHh
namespace Go.Proofs.YtcmjlhcpoajbkaaDoor
set_option maxRecDepth 10000
set_option linter.unusedSimpArgs false
open Go.RowKit
/-- The document's log, as it is read. -/
structure RefR (w : World) (g : Nat) (l : List UInt8) (es : List (List Int)) : Prop where
  key : w.cell? ⟨g, 0, none⟩ = some (.string ⟨l.toArray⟩)
  ent : ∃ p c, w.cell? ⟨g, 1, none⟩ = some (.slice p es.length c) ∧ S59 w p es.length c es
  few : es.length ≤ 64
set_option maxHeartbeats 4000000 in
theorem refHead_any (w : World) (g : Nat) (l : List UInt8) (key : List Int) (hkey : toI l = key) (hlk : l.length ≤ 1000) (es : List (List Int)) (hL : RefR w g l es) :
    Calls Tryd.prog 36 #[.pointer (some ⟨g, 0, none⟩)] w fun e w' => e = .returned (.agg (headP key es)) ∧ Below w.heap.size w w' := by
  obtain ⟨hk, ⟨ep, ec, he, hE⟩, hfew⟩ := hL
  have hfit := hE.fits
  have hroom := hE.room
  have hb0 : Below w.heap.size w (w.alloc (.cells (headCells 0 Z32 Z32) 42)) := (Below.refl _ _).alloc (Nat.le_refl _) _
  have hz0 := heapN w (.cells (headCells 0 Z32 Z32) 42) _ rfl
  obtain ⟨V, hV⟩ : ∃ V, V = w.alloc (.cells (headCells 0 Z32 Z32) 42) := ⟨_, rfl⟩
  have hkV : V.cell? ⟨g, 0, none⟩ = some (.string ⟨l.toArray⟩) := by rw [hV]; exact cell_alloc hk _
  have heV : V.cell? ⟨g, 1, none⟩ = some (.slice ep es.length ec) := by rw [hV]; exact cell_alloc he _
  have heW := fun ob => cell_alloc he ob
  rw [← hV] at hb0 hz0
  have hgl : g < w.heap.size := block_lt_of_cell hk
  have lV := row_lt hz0
  have HEV : Hid (S59 V ep es.length ec es) := hE.below hb0
  clear hk he hE
  obtain ⟨hRl, hRb⟩ := rootP_ok es
  have HH : Hid (headP key es = headCells es.length (rootP es) (signP key es.length (rootP es))) := rfl
  go_enter Tryd.func36, Tryd.ntmps36
  go_wp2_with fail
  have hwV : w.alloc (.cells Tryd.zeroCells42 42) = V := by rw [hV]; rfl
  rw [hwV]
  clear hwV heW
  refine (refRoot_any es.length ep ec es V HEV.out).mono ?_
  rintro e w1 ⟨rfl, b1⟩
  have B1 : Below w.heap.size w w1 := hb0.trans (b1.mono hb0.size)
  have k1 : w1.cell? ⟨g, 0, none⟩ = some (.string ⟨l.toArray⟩) := by rw [b1.cell (block_lt_of_cell hkV)]; exact hkV
  have e1 : w1.cell? ⟨g, 1, none⟩ = some (.slice ep es.length ec) := by rw [b1.cell (block_lt_of_cell heV)]; exact heV
  have z1 : Hid (w1.heap[w.heap.size]? = some (.cells (headCells 0 Z32 Z32) 42)) := (b1.block _ lV).trans hz0
  have lz := row_lt z1.out
  have hs1 := B1.size
  have n1 : Hid (Dg (w1.alloc (.cells Z8x32 25)) w1.heap.size Z32) := Dg.new w1 _ rfl
  have hkl := signP_len key es.length (rootP es)
  clear b1 HEV hz0 hkV heV lV hb0 hV
  generalize rootP es = R at *
  go_wp2_with (first
    | (with_reducible refine atStore 25 ?_
       refine store_D rfl _ _ rfl w1.heap.size R rfl rfl Z32 n1.out hRl ?_
       intro U hU
       refine hideGoal ?_))
  have bU : Below w1.heap.size w1 U := hU.below _ _ (Nat.le_refl _) ((Below.refl _ _).alloc (Nat.le_refl _) _)
  have dU : Hid (Dg U w1.heap.size R) := hU.dg hRl
  have BU : Below w.heap.size w U := B1.trans (bU.mono B1.size)
  have kU : U.cell? ⟨g, 0, none⟩ = some (.string ⟨l.toArray⟩) := by rw [bU.cell (block_lt_of_cell k1)]; exact k1
  have eU : U.cell? ⟨g, 1, none⟩ = some (.slice ep es.length ec) := by rw [bU.cell (block_lt_of_cell e1)]; exact e1
  have zU : Hid (U.heap[w.heap.size]? = some (.cells (headCells 0 Z32 Z32) 42)) := (bU.block _ (row_lt z1.out)).trans z1.out
  clear hU n1 bU B1 k1 e1 z1
  generalize w1.heap.size = gd at *
  refine openGoal ?_
  go_wp2_with fail
  have BD : Below w.heap.size w U.drew := BU.drew
  have S0 : U.drew.cell? ⟨g, 0, none⟩ = some (.string ⟨l.toArray⟩) ∧ U.drew.cell? ⟨g, 1, none⟩ = some (.slice ep es.length ec) ∧ Dg U.drew gd R := ⟨kU, eU, ⟨dU.out.len, dU.out.here⟩⟩
  refine wp_region_noPanic ?_
  refine wp_region_held (S := fun W => W.cell? ⟨g, 0, none⟩ = some (.string ⟨l.toArray⟩) ∧ W.cell? ⟨g, 1, none⟩ = some (.slice ep es.length ec) ∧ Dg W gd R) follows ?_
  refine wpAnyH_take (i := 0) (v := .pointer (some ⟨g, 0, none⟩)) rfl (by kernel_rfl) (by kernel_rfl) (by kernel_rfl) (fun _ _ _ h => h) (.inl ⟨rfl, fun W _ => by go_simp⟩) S0 ?_
  simp only [Act.put, List.getElem_toArray, List.getElem_cons_zero, List.getElem_cons_succ, List.setIfInBounds_toArray, List.set_cons_zero, List.set_cons_succ]
  refine wpAnyH_take (i := 1) (v := .pointer (some ⟨g, 0, none⟩)) rfl (by kernel_rfl) (by kernel_rfl) (by kernel_rfl) (fun _ _ _ h => h) (.inl ⟨rfl, fun W _ => by go_simp⟩) S0 ?_
  simp only [Act.put, List.getElem_toArray, List.getElem_cons_zero, List.getElem_cons_succ, List.setIfInBounds_toArray, List.set_cons_zero, List.set_cons_succ]
  refine wpAnyH_take (i := 2) (v := .pointer (some ⟨g, 1, none⟩)) rfl (by kernel_rfl) (by kernel_rfl) (by kernel_rfl) (fun _ _ _ h => h) (.inl ⟨rfl, fun W _ => by go_simp⟩) S0 ?_
  simp only [Act.put, List.getElem_toArray, List.getElem_cons_zero, List.getElem_cons_succ, List.setIfInBounds_toArray, List.set_cons_zero, List.set_cons_succ]
  refine wpAnyH_take (i := 3) (v := .slice ep es.length ec) rfl (by kernel_rfl) (by kernel_rfl) (by kernel_rfl) (fun _ _ _ h => h) (.inl ⟨rfl, fun W hW => by have e := hW.2.1; go_simp⟩) S0 ?_
  simp only [Act.put, List.getElem_toArray, List.getElem_cons_zero, List.getElem_cons_succ, List.setIfInBounds_toArray, List.set_cons_zero, List.set_cons_succ]
  refine wpAnyH_take (i := 4) (v := .int .i64 es.length) rfl (by kernel_rfl) (by kernel_rfl) (by kernel_rfl) (fun _ _ _ h => h) (.inl ⟨rfl, fun W _ => by go_simp⟩) S0 ?_
  simp only [Act.put, List.getElem_toArray, List.getElem_cons_zero, List.getElem_cons_succ, List.setIfInBounds_toArray, List.set_cons_zero, List.set_cons_succ]
  refine wpAnyH_take (i := 5) (v := .agg (A8 R)) rfl (by kernel_rfl) (by kernel_rfl) (by kernel_rfl) (fun _ _ _ h => h) (yields_D rfl (.tmp 3) rfl gd rfl R hRl (fun W hW => hW.2.2)) S0 ?_
  simp only [Act.put, List.getElem_toArray, List.getElem_cons_zero, List.getElem_cons_succ, List.setIfInBounds_toArray, List.set_cons_zero, List.set_cons_succ]
  refine wpAnyH_take (i := 6) (v := .pointer (some ⟨g, 0, none⟩)) rfl (by kernel_rfl) (by kernel_rfl) (by kernel_rfl) (fun _ _ _ h => h) (.inl ⟨rfl, fun W _ => by go_simp⟩) S0 ?_
  simp only [Act.put, List.getElem_toArray, List.getElem_cons_zero, List.getElem_cons_succ, List.setIfInBounds_toArray, List.set_cons_zero, List.set_cons_succ]
  refine wpAnyH_take (i := 7) (v := .pointer (some ⟨g, 0, none⟩)) rfl (by kernel_rfl) (by kernel_rfl) (by kernel_rfl) (fun _ _ _ h => h) (.inl ⟨rfl, fun W _ => by go_simp⟩) S0 ?_
  simp only [Act.put, List.getElem_toArray, List.getElem_cons_zero, List.getElem_cons_succ, List.setIfInBounds_toArray, List.set_cons_zero, List.set_cons_succ]
  refine wpAnyH_take (i := 8) (v := .pointer (some ⟨g, 0, none⟩)) rfl (by kernel_rfl) (by kernel_rfl) (by kernel_rfl) (fun _ _ _ h => h) (.inl ⟨rfl, fun W _ => by go_simp⟩) S0 ?_
  simp only [Act.put, List.getElem_toArray, List.getElem_cons_zero, List.getElem_cons_succ, List.setIfInBounds_toArray, List.set_cons_zero, List.set_cons_succ]
  refine wpAnyH_take (i := 9) (v := .string ⟨l.toArray⟩) rfl (by kernel_rfl) (by kernel_rfl) (by kernel_rfl) (fun _ _ _ h => h) (.inl ⟨rfl, fun W hW => by have e := hW.1; go_simp⟩) S0 ?_
  simp only [Act.put, List.getElem_toArray, List.getElem_cons_zero, List.getElem_cons_succ, List.setIfInBounds_toArray, List.set_cons_zero, List.set_cons_succ]
  refine wpAnyH_take (i := 10) (v := .pointer (some ⟨g, 0, none⟩)) rfl (by kernel_rfl) (by kernel_rfl) (by kernel_rfl) (fun _ _ _ h => h) (.inl ⟨rfl, fun W _ => by go_simp⟩) S0 ?_
  simp only [Act.put, List.getElem_toArray, List.getElem_cons_zero, List.getElem_cons_succ, List.setIfInBounds_toArray, List.set_cons_zero, List.set_cons_succ]
  refine wpAnyH_take (i := 11) (v := .pointer (some ⟨g, 0, none⟩)) rfl (by kernel_rfl) (by kernel_rfl) (by kernel_rfl) (fun _ _ _ h => h) (.inl ⟨rfl, fun W _ => by go_simp⟩) S0 ?_
  simp only [Act.put, List.getElem_toArray, List.getElem_cons_zero, List.getElem_cons_succ, List.setIfInBounds_toArray, List.set_cons_zero, List.set_cons_succ]
  refine wpAnyH_take (i := 12) (v := .pointer (some ⟨g, 1, none⟩)) rfl (by kernel_rfl) (by kernel_rfl) (by kernel_rfl) (fun _ _ _ h => h) (.inl ⟨rfl, fun W _ => by go_simp⟩) S0 ?_
  simp only [Act.put, List.getElem_toArray, List.getElem_cons_zero, List.getElem_cons_succ, List.setIfInBounds_toArray, List.set_cons_zero, List.set_cons_succ]
  refine wpAnyH_take (i := 13) (v := .slice ep es.length ec) rfl (by kernel_rfl) (by kernel_rfl) (by kernel_rfl) (fun _ _ _ h => h) (.inl ⟨rfl, fun W hW => by have e := hW.2.1; go_simp⟩) S0 ?_
  simp only [Act.put, List.getElem_toArray, List.getElem_cons_zero, List.getElem_cons_succ, List.setIfInBounds_toArray, List.set_cons_zero, List.set_cons_succ]
  refine wpAnyH_take (i := 14) (v := .int .i64 es.length) rfl (by kernel_rfl) (by kernel_rfl) (by kernel_rfl) (fun _ _ _ h => h) (.inl ⟨rfl, fun W _ => by go_simp⟩) S0 ?_
  simp only [Act.put, List.getElem_toArray, List.getElem_cons_zero, List.getElem_cons_succ, List.setIfInBounds_toArray, List.set_cons_zero, List.set_cons_succ]
  refine wpAnyH_take (i := 15) (v := .agg (A8 R)) rfl (by kernel_rfl) (by kernel_rfl) (by kernel_rfl) (fun _ _ _ h => h) (yields_D rfl (.tmp 3) rfl gd rfl R hRl (fun W hW => hW.2.2)) S0 ?_
  simp only [Act.put, List.getElem_toArray, List.getElem_cons_zero, List.getElem_cons_succ, List.setIfInBounds_toArray, List.set_cons_zero, List.set_cons_succ]
  refine relist #[true, true, true, true, true, true, true, true, true, true, true, true, true, true, true, true, false, false, false] (by kernel_rfl) ?_
  refine any_one (i := 16) (by kernel_rfl) ?_
  refine wpOp_call (f := 27) (args := #[.string ⟨l.toArray⟩, .int .i64 es.length, .agg (A8 R)]) rfl rfl (by go_simp) ?_
  refine (refSign_any _ l key hkey (by omega) es.length R hRl hRb).mono ?_
  rintro e w2 ⟨rfl, b2⟩
  have B2 : Below w.heap.size w w2 := BD.trans (b2.mono BD.size)
  have S2 : w2.cell? ⟨g, 0, none⟩ = some (.string ⟨l.toArray⟩) ∧ w2.cell? ⟨g, 1, none⟩ = some (.slice ep es.length ec) ∧ Dg w2 gd R := ⟨by rw [b2.cell (block_lt_of_cell S0.1)]; exact S0.1, by rw [b2.cell (block_lt_of_cell S0.2.1)]; exact S0.2.1, Dg.next (w := U.drew) S0.2.2 b2⟩
  have z2 : w2.heap[w.heap.size]? = some (.cells (headCells 0 Z32 Z32) 42) := (b2.block _ (row_lt (w := U.drew) zU.out)).trans zU.out
  obtain ⟨D, hD⟩ : ∃ D, signP key es.length R = D := ⟨_, rfl⟩
  rw [hD] at hkl HH ⊢
  clear hD
  refine ⟨_, rfl, S2, ?_⟩
  simp only [Act.put, List.getElem_toArray, List.getElem_cons_zero, List.getElem_cons_succ, List.setIfInBounds_toArray, List.set_cons_zero, List.set_cons_succ]
  refine wpAnyH_take (i := 17) (v := .agg (headCells es.length R D)) rfl (by kernel_rfl) (by kernel_rfl) (by kernel_rfl) (fun _ _ _ h => h) (yields_build_head rfl (.tmp 13) (.tmp 14) (.tmp 25) rfl es.length R D rfl rfl rfl hRl hkl) S2 ?_
  simp only [Act.put, List.getElem_toArray, List.getElem_cons_zero, List.getElem_cons_succ, List.setIfInBounds_toArray, List.set_cons_zero, List.set_cons_succ]
  refine relist #[true, true, true, true, true, true, true, true, true, true, true, true, true, true, true, true, true, true, false] (by kernel_rfl) ?_
  refine any_one (i := 18) (by kernel_rfl) ?_
  refine wpOp_store_H rfl rfl (.tmp 2) (.tmp 26) rfl w.heap.size (headCells es.length R D) (headCells 0 Z32 Z32) rfl rfl z2 (headCells_size _ _ _ hRl hkl) zeroHead (head_one _ _ _) ?_
  intro X hX
  have xH : Hid (X.heap[w.heap.size]? = some (.cells (headCells es.length R D) 42)) := hX.here
  have xB : Hid (Below w.heap.size w X) := hX.below _ _ (Nat.le_refl _) B2
  have e0 : X.heap[g]? = w2.heap[g]? := hX.other g (by omega)
  refine ⟨⟨by rw [World.cell?_of_block (w := w2) e0]; exact S2.1, by rw [World.cell?_of_block (w := w2) e0]; exact S2.2.1, S2.2.2.other hX (by omega)⟩, ?_⟩
  simp only [Act.put, List.getElem_toArray, List.getElem_cons_zero, List.getElem_cons_succ, List.setIfInBounds_toArray, List.set_cons_zero, List.set_cons_succ]
  refine wpAnyH_done (by kernel_rfl) ?_ _
  refine NoPanic.normal ?_
  have hsz := headCells_size es.length R D hRl hkl
  obtain ⟨fs, hfs⟩ := und42
  clear hX S2 S0 z2 B2 b2 zU kU eU BU dU BD
  go_wp2_with fail
  exact bodyPost_ret (v := .agg (headCells es.length R D)) (results_cell_row rfl _ _ w.heap.size 42 _ (0, 0) (.struct fs) rfl xH.out hfs rfl (by rw [info42, hsz])) rfl ⟨by rw [HH.out], xB.out⟩
end Go.Proofs.YtcmjlhcpoajbkaaDoor
