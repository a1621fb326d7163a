import Derived.Test.YtcmjlhcpoajbkaaDoorQBl
import Derived.Test.YtcmjlhcpoajbkaaDoorQOe
namespace Go.Proofs.YtcmjlhcpoajbkaaDoor
set_option maxRecDepth 10000
set_option linter.unusedSimpArgs false
open Go.RowKit
/-- A log of the program's beside the document's, in blocks of F. -/
structure PairAt (w : World) (F : Nat → Prop) (gp gx gy : Nat) (ev yv kv : Value) (key : List Int) (es : List (List Int)) : Prop where
  blk : w.heap[gp]? = some (.cells #[.pointer (some ⟨gx, 0, none⟩), .pointer (some ⟨gy, 0, none⟩), kv] 63)
  fgp : F gp
  log : LogAt w 0 gx ev key es
  flog : ∀ k, Blk w gx ev es.length k → F k
  ref : RefAt w gy yv (toU key) es
  fgy : F gy
  frow : ∀ k, yv.ownBlock = some k → F k
  apart : ∀ k, Blk w gx ev es.length k → k ≠ gp ∧ k ≠ gy ∧ yv.ownBlock ≠ some k
  klen : key.length ≤ 100
  kbytes : Bytes key
theorem PairAt.frame {X F : Nat → Prop} {w w' : World} {gp gx gy : Nat} {ev yv kv : Value} {key : List Int} {es : List (List Int)} (h : PairAt w F gp gx gy ev yv kv key es) (hk : Kp X w w') (hX : ∀ k, F k → ¬ X k) : PairAt w' F gp gx gy ev yv kv key es := by
  obtain ⟨h1, h2, h3, h4, h5, h6, h7, h10, h8, h9⟩ := h
  obtain ⟨a, b⟩ := h3.frame hk (fun k hb => hX k (h4 k hb))
  exact ⟨(hk.block gp (row_lt h1) (hX gp h2)).trans h1, h2, a, fun k hb => h4 k (b k hb), h5.frame hk (hX gy h6) (fun k hb => hX k (h7 k hb)), h6, h7, fun k hb => h10 k (b k hb), h8, h9⟩
theorem PairAt.mono {F F' : Nat → Prop} {w : World} {gp gx gy : Nat} {ev yv kv : Value} {key : List Int} {es : List (List Int)} (h : PairAt w F gp gx gy ev yv kv key es) (hF : ∀ k, F k → F' k) : PairAt w F' gp gx gy ev yv kv key es :=
  ⟨h.blk, hF _ h.fgp, h.log, fun k hb => hF k (h.flog k hb), h.ref, hF _ h.fgy, fun k hb => hF k (h.frow k hb), h.apart, h.klen, h.kbytes⟩
theorem PairAt.below {F : Nat → Prop} {w w' : World} {gp gx gy : Nat} {ev yv kv : Value} {key : List Int} {es : List (List Int)} (h : PairAt w F gp gx gy ev yv kv key es) (hb : Below w.heap.size w w') : PairAt w' F gp gx gy ev yv kv key es :=
  h.frame (kp_of hb rfl) (fun _ _ x => x)
theorem PairAt.c0 {F : Nat → Prop} {w : World} {gp gx gy : Nat} {ev yv kv : Value} {key : List Int} {es : List (List Int)} (h : PairAt w F gp gx gy ev yv kv key es) : w.cell? ⟨gp, 0, none⟩ = some (.pointer (some ⟨gx, 0, none⟩)) := by rw [cell_of_row _ _ _ _ _ _ h.blk]; rfl
theorem PairAt.c1 {F : Nat → Prop} {w : World} {gp gx gy : Nat} {ev yv kv : Value} {key : List Int} {es : List (List Int)} (h : PairAt w F gp gx gy ev yv kv key es) : w.cell? ⟨gp, 1, none⟩ = some (.pointer (some ⟨gy, 0, none⟩)) := by rw [cell_of_row _ _ _ _ _ _ h.blk]; rfl
theorem PairAt.c2 {F : Nat → Prop} {w : World} {gp gx gy : Nat} {ev yv kv : Value} {key : List Int} {es : List (List Int)} (h : PairAt w F gp gx gy ev yv kv key es) : w.cell? ⟨gp, 2, none⟩ = some kv := by rw [cell_of_row _ _ _ _ _ _ h.blk]; rfl
theorem PairAt.toI {F : Nat → Prop} {w : World} {gp gx gy : Nat} {ev yv kv : Value} {key : List Int} {es : List (List Int)} (h : PairAt w F gp gx gy ev yv kv key es) : toI (toU key) = key := toI_toU key h.kbytes
/-- An operation of a script. -/
def opV (k a i n : Int) (bv : Value) : Value := .agg #[.int .i64 k, .int .i64 a, .int .i64 i, .int .i64 n, bv]
/-- What a step comes to. -/
def StepOut (w : World) (F G : Nat → Prop) (gp gy gb n : Nat) (kv : Value) (key : List Int) (e : Ending) (w' : World) : Prop :=
  e = .returned (.bool true) ∧ ∃ (t : Bool) (gx : Nat) (ev yv : Value) (es : List (List Int)) (blv : Value) (n' : Nat), PairAt w' (fun k => F k ∨ (t = true ∧ w.heap.size ≤ k)) gp gx gy ev yv kv key es ∧ BookAt w' (fun k => G k ∨ (t = false ∧ w.heap.size ≤ k)) gb blv n' ∧ n' ≤ n + 1 ∧ Kp (fun k => F k ∨ G k) w w'
theorem stepOut_same {w w' : World} {F G : Nat → Prop} {gp gx gy gb n : Nat} {ev yv kv blv : Value} {key : List Int} {es : List (List Int)} (hP : PairAt w F gp gx gy ev yv kv key es) (hB : BookAt w G gb blv n) (hb : Below w.heap.size w w') : StepOut w F G gp gy gb n kv key (.returned (.bool true)) w' :=
  ⟨rfl, true, gx, ev, yv, es, blv, n, (hP.below hb).mono (fun k hk => .inl hk), (hB.below hb).mono (fun k hk => .inl hk), by omega, ⟨hb.os, hb.tape, hb.output, hb.size, fun k hk _ => hb.block k hk⟩⟩
set_option maxHeartbeats 4000000 in
/-- Any other kind does nothing. -/
theorem step_other (w : World) (F G : Nat → Prop) (gp gx gy gb n : Nat) (ev yv kv blv : Value) (key : List Int) (es : List (List Int)) (hP : PairAt w F gp gx gy ev yv kv key es) (hB : BookAt w G gb blv n) (k a i m : Int) (bv : Value)
    (h1 : k ≠ 1) (h2 : k ≠ 2) (h3 : k ≠ 3) (h4 : k ≠ 4) (h5 : k ≠ 5) (h6 : k ≠ 6) (h7 : k ≠ 7) :
    Calls Tryd.prog 33 #[.pointer (some ⟨gp, 0, none⟩), opV k a i m bv, .pointer (some ⟨gb, 0, none⟩)] w (StepOut w F G gp gy gb n kv key) := by
  have HB : Hid (BookAt w G gb blv n) := hB
  have HP : Hid (PairAt w F gp gx gy ev yv kv key es) := hP
  clear hP hB
  have e1 : (k == 1) = false := by simpa using h1
  have e2 : (k == 2) = false := by simpa using h2
  have e3 : (k == 3) = false := by simpa using h3
  have e4 : (k == 4) = false := by simpa using h4
  have e5 : (k == 5) = false := by simpa using h5
  have e6 : (k == 6) = false := by simpa using h6
  have e7 : (k == 7) = false := by simpa using h7
  unfold opV
  go_enter Tryd.func33, Tryd.ntmps33
  go_wp2_with fail
  go_ret
  exact stepOut_same HP.out HB.out ((Below.refl _ _).alloc (Nat.le_refl _) _)
set_option maxHeartbeats 8000000 in
theorem step_head (w : World) (hT : Tabs KS HS w) (F G : Nat → Prop) (gp gx gy gb n : Nat) (ev yv kv blv : Value) (key : List Int) (es : List (List Int)) (hP : PairAt w F gp gx gy ev yv kv key es) (hB : BookAt w G gb blv n) (a i m : Int) (bv : Value) :
    Calls Tryd.prog 33 #[.pointer (some ⟨gp, 0, none⟩), opV 3 a i m bv, .pointer (some ⟨gb, 0, none⟩)] w (StepOut w F G gp gy gb n kv key) := by
  have HB : Hid (BookAt w G gb blv n) := hB
  have HP : Hid (PairAt w F gp gx gy ev yv kv key es) := hP
  have HTb : Hid (Tabs KS HS w) := hT
  clear hP hB hT
  have b0 : Below w.heap.size w (w.alloc (.cells #[.int .i64 3, .int .i64 a, .int .i64 i, .int .i64 m, bv] 66)) := (Below.refl _ _).alloc (Nat.le_refl _) _
  unfold opV
  go_enter Tryd.func33, Tryd.ntmps33
  go_upto_region 17 with fail
  generalize w.alloc (.cells #[.int .i64 3, .int .i64 a, .int .i64 i, .int .i64 m, bv] 66) = V at *
  have BD : Below w.heap.size w V.drew := b0.drew
  have PD := HP.out.below BD
  have hc : Hid (∀ W : World, Below w.heap.size w W → W.cell? ⟨gp, 0, none⟩ = some (.pointer (some ⟨gx, 0, none⟩)) ∧ W.cell? ⟨gp, 1, none⟩ = some (.pointer (some ⟨gy, 0, none⟩))) := fun W hW => ⟨(HP.out.below hW).c0, (HP.out.below hW).c1⟩
  have S0 := hc.out _ BD
  refine wp_region_noPanic ?_
  refine wp_region_held (S := fun W => W.cell? ⟨gp, 0, none⟩ = some (.pointer (some ⟨gx, 0, none⟩)) ∧ W.cell? ⟨gp, 1, none⟩ = some (.pointer (some ⟨gy, 0, none⟩))) follows ?_
  refine wpAnyH_take (i := 0) (v := .pointer (some ⟨gp, 0, none⟩)) rfl (by kernel_rfl) (by kernel_rfl) (by kernel_rfl) (fun _ _ _ h => h) (.inl ⟨rfl, fun W _ => by go_simp⟩) S0 ?_
  simp only [Act.put, List.getElem_toArray, List.getElem_cons_zero, List.getElem_cons_succ, List.setIfInBounds_toArray, List.set_cons_zero, List.set_cons_succ]
  refine wpAnyH_take (i := 1) (v := .pointer (some ⟨gp, 0, none⟩)) rfl (by kernel_rfl) (by kernel_rfl) (by kernel_rfl) (fun _ _ _ h => h) (.inl ⟨rfl, fun W _ => by go_simp⟩) S0 ?_
  simp only [Act.put, List.getElem_toArray, List.getElem_cons_zero, List.getElem_cons_succ, List.setIfInBounds_toArray, List.set_cons_zero, List.set_cons_succ]
  refine wpAnyH_take (i := 2) (v := .pointer (some ⟨gp, 0, none⟩)) rfl (by kernel_rfl) (by kernel_rfl) (by kernel_rfl) (fun _ _ _ h => h) (.inl ⟨rfl, fun W _ => by go_simp⟩) S0 ?_
  simp only [Act.put, List.getElem_toArray, List.getElem_cons_zero, List.getElem_cons_succ, List.setIfInBounds_toArray, List.set_cons_zero, List.set_cons_succ]
  refine wpAnyH_take (i := 3) (v := .pointer (some ⟨gx, 0, none⟩)) rfl (by kernel_rfl) (by kernel_rfl) (by kernel_rfl) (fun _ _ _ h => h) (.inl ⟨rfl, fun W hW => by have e := hW.1; go_simp⟩) S0 ?_
  simp only [Act.put, List.getElem_toArray, List.getElem_cons_zero, List.getElem_cons_succ, List.setIfInBounds_toArray, List.set_cons_zero, List.set_cons_succ]
  refine wpAnyH_take (i := 5) (v := .pointer (some ⟨gp, 0, none⟩)) rfl (by kernel_rfl) (by kernel_rfl) (by kernel_rfl) (fun _ _ _ h => h) (.inl ⟨rfl, fun W _ => by go_simp⟩) S0 ?_
  simp only [Act.put, List.getElem_toArray, List.getElem_cons_zero, List.getElem_cons_succ, List.setIfInBounds_toArray, List.set_cons_zero, List.set_cons_succ]
  refine wpAnyH_take (i := 6) (v := .pointer (some ⟨gp, 0, none⟩)) rfl (by kernel_rfl) (by kernel_rfl) (by kernel_rfl) (fun _ _ _ h => h) (.inl ⟨rfl, fun W _ => by go_simp⟩) S0 ?_
  simp only [Act.put, List.getElem_toArray, List.getElem_cons_zero, List.getElem_cons_succ, List.setIfInBounds_toArray, List.set_cons_zero, List.set_cons_succ]
  refine wpAnyH_take (i := 7) (v := .pointer (some ⟨gp, 1, none⟩)) rfl (by kernel_rfl) (by kernel_rfl) (by kernel_rfl) (fun _ _ _ h => h) (.inl ⟨rfl, fun W _ => by go_simp⟩) S0 ?_
  simp only [Act.put, List.getElem_toArray, List.getElem_cons_zero, List.getElem_cons_succ, List.setIfInBounds_toArray, List.set_cons_zero, List.set_cons_succ]
  refine wpAnyH_take (i := 8) (v := .pointer (some ⟨gy, 0, none⟩)) rfl (by kernel_rfl) (by kernel_rfl) (by kernel_rfl) (fun _ _ _ h => h) (.inl ⟨rfl, fun W hW => by have e := hW.2; go_simp⟩) S0 ?_
  simp only [Act.put, List.getElem_toArray, List.getElem_cons_zero, List.getElem_cons_succ, List.setIfInBounds_toArray, List.set_cons_zero, List.set_cons_succ]
  refine relist #[true, true, true, true, false, true, true, true, true, false, false, false] (by kernel_rfl) ?_
  refine any_one (i := 4) (by kernel_rfl) ?_
  refine wpOp_call (f := 35) (args := #[.pointer (some ⟨gx, 0, none⟩)]) rfl rfl (by go_simp) ?_
  refine (logHead_any V.drew gx key es (HTb.out.below BD) PD.log.read).mono ?_
  rintro e y1 ⟨rfl, c1⟩
  have C1 : Below w.heap.size w y1 := BD.trans (c1.mono BD.size)
  refine ⟨_, rfl, hc.out _ C1, ?_⟩
  simp only [Act.put, List.getElem_toArray, List.getElem_cons_zero, List.getElem_cons_succ, List.setIfInBounds_toArray, List.set_cons_zero, List.set_cons_succ]
  refine relist #[true, true, true, true, true, true, true, true, true, false, false, false] (by kernel_rfl) ?_
  refine any_one (i := 9) (by kernel_rfl) ?_
  refine wpOp_call (f := 36) (args := #[.pointer (some ⟨gy, 0, none⟩)]) rfl rfl (by go_simp) ?_
  refine (refHead_any y1 gy (toU key) key HP.out.toI (by rw [toU_len]; have := HP.out.klen; omega) es (HP.out.below C1).ref.refR).mono ?_
  rintro e y2 ⟨rfl, c2⟩
  have C2 : Below w.heap.size w y2 := C1.trans (c2.mono C1.size)
  refine ⟨_, rfl, hc.out _ C2, ?_⟩
  simp only [Act.put, List.getElem_toArray, List.getElem_cons_zero, List.getElem_cons_succ, List.setIfInBounds_toArray, List.set_cons_zero, List.set_cons_succ]
  refine wpAnyH_take (i := 10) (v := .bool true) rfl (by kernel_rfl) (by kernel_rfl) (by kernel_rfl) (fun _ _ _ h => h) (yields_eqlH rfl (.tmp 123) (.tmp 128) rfl (headP key es) (headP key es) true (eq_head key es) rfl rfl) (hc.out _ C2) ?_
  simp only [Act.put, List.getElem_toArray, List.getElem_cons_zero, List.getElem_cons_succ, List.setIfInBounds_toArray, List.set_cons_zero, List.set_cons_succ]
  refine wpAnyH_take (i := 11) (v := .bool true) rfl (by kernel_rfl) (by kernel_rfl) (by kernel_rfl) (fun _ _ _ h => h) (.inl ⟨rfl, fun W _ => by go_simp⟩) (hc.out _ C2) ?_
  simp only [Act.put, List.getElem_toArray, List.getElem_cons_zero, List.getElem_cons_succ, List.setIfInBounds_toArray, List.set_cons_zero, List.set_cons_succ]
  refine wpAnyH_done (by kernel_rfl) ?_ _
  refine NoPanic.normal ?_
  have HC2 : Hid _ := C2
  clear S0 PD BD C1 C2 c1 c2 b0 hc
  go_wp2_with fail
  go_ret
  exact stepOut_same HP.out HB.out HC2.out
set_option maxHeartbeats 8000000 in
theorem step_save (w : World) (hT : Tabs KS HS w) (F G : Nat → Prop) (gp gx gy gb n : Nat) (ev yv kv blv : Value) (key : List Int) (es : List (List Int)) (hP : PairAt w F gp gx gy ev yv kv key es) (hB : BookAt w G gb blv n) (a i m : Int) (bv : Value) :
    Calls Tryd.prog 33 #[.pointer (some ⟨gp, 0, none⟩), opV 6 a i m bv, .pointer (some ⟨gb, 0, none⟩)] w (StepOut w F G gp gy gb n kv key) := by
  have HB : Hid (BookAt w G gb blv n) := hB
  have HP : Hid (PairAt w F gp gx gy ev yv kv key es) := hP
  have HTb : Hid (Tabs KS HS w) := hT
  obtain ⟨yp, yc, hyc, hyS, _, hfew⟩ := hP.ref.read
  have hfit := hyS.fits
  have hroom := hyS.room
  have HYS : Hid (S59 w yp es.length yc es) := hyS
  have hkey := hP.klen
  have hyk : w.cell? ⟨gy, 0, none⟩ = some (.string ⟨(toU key).toArray⟩) := by rw [cell_of_row _ _ _ _ _ _ hP.ref.blk]; rfl
  have b0 : Below w.heap.size w (w.alloc (.cells #[.int .i64 6, .int .i64 a, .int .i64 i, .int .i64 m, bv] 66)) := (Below.refl _ _).alloc (Nat.le_refl _) _
  have hc : Hid (∀ W : World, Below w.heap.size w W → (W.cell? ⟨gp, 0, none⟩ = some (.pointer (some ⟨gx, 0, none⟩)) ∧ W.cell? ⟨gp, 1, none⟩ = some (.pointer (some ⟨gy, 0, none⟩))) ∧ W.cell? ⟨gy, 0, none⟩ = some (.string ⟨(toU key).toArray⟩) ∧ W.cell? ⟨gy, 1, none⟩ = some (.slice yp es.length yc)) := fun W hW => ⟨⟨(hP.below hW).c0, (hP.below hW).c1⟩, by rw [hW.cell (block_lt_of_cell hyk)]; exact hyk, by rw [hW.cell (block_lt_of_cell hyc)]; exact hyc⟩
  clear hP hB hT hyc hyS hyk
  have hss : (toU (saveP key es) == toU (saveP key es)) = true := by simp
  unfold opV
  go_enter Tryd.func33, Tryd.ntmps33
  go_upto_region 31 with fail
  generalize w.alloc (.cells #[.int .i64 6, .int .i64 a, .int .i64 i, .int .i64 m, bv] 66) = V at *
  have BD : Below w.heap.size w V.drew := b0.drew
  have S0 := hc.out _ BD
  refine wp_region_noPanic ?_
  refine wp_region_held (S := fun W => (W.cell? ⟨gp, 0, none⟩ = some (.pointer (some ⟨gx, 0, none⟩)) ∧ W.cell? ⟨gp, 1, none⟩ = some (.pointer (some ⟨gy, 0, none⟩))) ∧ W.cell? ⟨gy, 0, none⟩ = some (.string ⟨(toU key).toArray⟩) ∧ W.cell? ⟨gy, 1, none⟩ = some (.slice yp es.length yc)) follows ?_
  refine wpAnyH_take (i := 0) (v := .pointer (some ⟨gp, 0, none⟩)) rfl (by kernel_rfl) (by kernel_rfl) (by kernel_rfl) (fun _ _ _ h => h) (.inl ⟨rfl, fun W _ => by go_simp⟩) S0 ?_
  simp only [Act.put, List.getElem_toArray, List.getElem_cons_zero, List.getElem_cons_succ, List.setIfInBounds_toArray, List.set_cons_zero, List.set_cons_succ]
  refine wpAnyH_take (i := 1) (v := .pointer (some ⟨gp, 0, none⟩)) rfl (by kernel_rfl) (by kernel_rfl) (by kernel_rfl) (fun _ _ _ h => h) (.inl ⟨rfl, fun W _ => by go_simp⟩) S0 ?_
  simp only [Act.put, List.getElem_toArray, List.getElem_cons_zero, List.getElem_cons_succ, List.setIfInBounds_toArray, List.set_cons_zero, List.set_cons_succ]
  refine wpAnyH_take (i := 2) (v := .pointer (some ⟨gp, 0, none⟩)) rfl (by kernel_rfl) (by kernel_rfl) (by kernel_rfl) (fun _ _ _ h => h) (.inl ⟨rfl, fun W _ => by go_simp⟩) S0 ?_
  simp only [Act.put, List.getElem_toArray, List.getElem_cons_zero, List.getElem_cons_succ, List.setIfInBounds_toArray, List.set_cons_zero, List.set_cons_succ]
  refine wpAnyH_take (i := 3) (v := .pointer (some ⟨gx, 0, none⟩)) rfl (by kernel_rfl) (by kernel_rfl) (by kernel_rfl) (fun _ _ _ h => h) (.inl ⟨rfl, fun W hW => by have e := hW.1.1; go_simp⟩) S0 ?_
  simp only [Act.put, List.getElem_toArray, List.getElem_cons_zero, List.getElem_cons_succ, List.setIfInBounds_toArray, List.set_cons_zero, List.set_cons_succ]
  refine wpAnyH_take (i := 5) (v := .pointer (some ⟨gp, 0, none⟩)) rfl (by kernel_rfl) (by kernel_rfl) (by kernel_rfl) (fun _ _ _ h => h) (.inl ⟨rfl, fun W _ => by go_simp⟩) S0 ?_
  simp only [Act.put, List.getElem_toArray, List.getElem_cons_zero, List.getElem_cons_succ, List.setIfInBounds_toArray, List.set_cons_zero, List.set_cons_succ]
  refine wpAnyH_take (i := 6) (v := .pointer (some ⟨gp, 0, none⟩)) rfl (by kernel_rfl) (by kernel_rfl) (by kernel_rfl) (fun _ _ _ h => h) (.inl ⟨rfl, fun W _ => by go_simp⟩) S0 ?_
  simp only [Act.put, List.getElem_toArray, List.getElem_cons_zero, List.getElem_cons_succ, List.setIfInBounds_toArray, List.set_cons_zero, List.set_cons_succ]
  refine wpAnyH_take (i := 7) (v := .pointer (some ⟨gp, 1, none⟩)) rfl (by kernel_rfl) (by kernel_rfl) (by kernel_rfl) (fun _ _ _ h => h) (.inl ⟨rfl, fun W _ => by go_simp⟩) S0 ?_
  simp only [Act.put, List.getElem_toArray, List.getElem_cons_zero, List.getElem_cons_succ, List.setIfInBounds_toArray, List.set_cons_zero, List.set_cons_succ]
  refine wpAnyH_take (i := 8) (v := .pointer (some ⟨gy, 0, none⟩)) rfl (by kernel_rfl) (by kernel_rfl) (by kernel_rfl) (fun _ _ _ h => h) (.inl ⟨rfl, fun W hW => by have e := hW.1.2; go_simp⟩) S0 ?_
  simp only [Act.put, List.getElem_toArray, List.getElem_cons_zero, List.getElem_cons_succ, List.setIfInBounds_toArray, List.set_cons_zero, List.set_cons_succ]
  refine wpAnyH_take (i := 9) (v := .pointer (some ⟨gy, 0, none⟩)) rfl (by kernel_rfl) (by kernel_rfl) (by kernel_rfl) (fun _ _ _ h => h) (.inl ⟨rfl, fun W _ => by go_simp⟩) S0 ?_
  simp only [Act.put, List.getElem_toArray, List.getElem_cons_zero, List.getElem_cons_succ, List.setIfInBounds_toArray, List.set_cons_zero, List.set_cons_succ]
  refine wpAnyH_take (i := 10) (v := .pointer (some ⟨gy, 0, none⟩)) rfl (by kernel_rfl) (by kernel_rfl) (by kernel_rfl) (fun _ _ _ h => h) (.inl ⟨rfl, fun W _ => by go_simp⟩) S0 ?_
  simp only [Act.put, List.getElem_toArray, List.getElem_cons_zero, List.getElem_cons_succ, List.setIfInBounds_toArray, List.set_cons_zero, List.set_cons_succ]
  refine wpAnyH_take (i := 11) (v := .string ⟨(toU key).toArray⟩) rfl (by kernel_rfl) (by kernel_rfl) (by kernel_rfl) (fun _ _ _ h => h) (.inl ⟨rfl, fun W hW => by have e := hW.2.1; go_simp⟩) S0 ?_
  simp only [Act.put, List.getElem_toArray, List.getElem_cons_zero, List.getElem_cons_succ, List.setIfInBounds_toArray, List.set_cons_zero, List.set_cons_succ]
  refine wpAnyH_take (i := 12) (v := .pointer (some ⟨gp, 0, none⟩)) rfl (by kernel_rfl) (by kernel_rfl) (by kernel_rfl) (fun _ _ _ h => h) (.inl ⟨rfl, fun W _ => by go_simp⟩) S0 ?_
  simp only [Act.put, List.getElem_toArray, List.getElem_cons_zero, List.getElem_cons_succ, List.setIfInBounds_toArray, List.set_cons_zero, List.set_cons_succ]
  refine wpAnyH_take (i := 13) (v := .pointer (some ⟨gp, 0, none⟩)) rfl (by kernel_rfl) (by kernel_rfl) (by kernel_rfl) (fun _ _ _ h => h) (.inl ⟨rfl, fun W _ => by go_simp⟩) S0 ?_
  simp only [Act.put, List.getElem_toArray, List.getElem_cons_zero, List.getElem_cons_succ, List.setIfInBounds_toArray, List.set_cons_zero, List.set_cons_succ]
  refine wpAnyH_take (i := 14) (v := .pointer (some ⟨gp, 1, none⟩)) rfl (by kernel_rfl) (by kernel_rfl) (by kernel_rfl) (fun _ _ _ h => h) (.inl ⟨rfl, fun W _ => by go_simp⟩) S0 ?_
  simp only [Act.put, List.getElem_toArray, List.getElem_cons_zero, List.getElem_cons_succ, List.setIfInBounds_toArray, List.set_cons_zero, List.set_cons_succ]
  refine wpAnyH_take (i := 15) (v := .pointer (some ⟨gy, 0, none⟩)) rfl (by kernel_rfl) (by kernel_rfl) (by kernel_rfl) (fun _ _ _ h => h) (.inl ⟨rfl, fun W hW => by have e := hW.1.2; go_simp⟩) S0 ?_
  simp only [Act.put, List.getElem_toArray, List.getElem_cons_zero, List.getElem_cons_succ, List.setIfInBounds_toArray, List.set_cons_zero, List.set_cons_succ]
  refine wpAnyH_take (i := 16) (v := .pointer (some ⟨gy, 0, none⟩)) rfl (by kernel_rfl) (by kernel_rfl) (by kernel_rfl) (fun _ _ _ h => h) (.inl ⟨rfl, fun W _ => by go_simp⟩) S0 ?_
  simp only [Act.put, List.getElem_toArray, List.getElem_cons_zero, List.getElem_cons_succ, List.setIfInBounds_toArray, List.set_cons_zero, List.set_cons_succ]
  refine wpAnyH_take (i := 17) (v := .pointer (some ⟨gy, 1, none⟩)) rfl (by kernel_rfl) (by kernel_rfl) (by kernel_rfl) (fun _ _ _ h => h) (.inl ⟨rfl, fun W _ => by go_simp⟩) S0 ?_
  simp only [Act.put, List.getElem_toArray, List.getElem_cons_zero, List.getElem_cons_succ, List.setIfInBounds_toArray, List.set_cons_zero, List.set_cons_succ]
  refine wpAnyH_take (i := 18) (v := .slice yp es.length yc) rfl (by kernel_rfl) (by kernel_rfl) (by kernel_rfl) (fun _ _ _ h => h) (.inl ⟨rfl, fun W hW => by have e := hW.2.2; go_simp⟩) S0 ?_
  simp only [Act.put, List.getElem_toArray, List.getElem_cons_zero, List.getElem_cons_succ, List.setIfInBounds_toArray, List.set_cons_zero, List.set_cons_succ]
  refine relist #[true, true, true, true, false, true, true, true, true, true, true, true, true, true, true, true, true, true, true, false, false, false] (by kernel_rfl) ?_
  refine any_one (i := 4) (by kernel_rfl) ?_
  refine wpOp_call (f := 39) (args := #[.pointer (some ⟨gx, 0, none⟩)]) rfl rfl (by go_simp) ?_
  refine (save_all V.drew (HTb.out.below BD) gx key es (HP.out.below BD).log.read).mono ?_
  rintro e y1 ⟨rfl, c1⟩
  have C1 : Below w.heap.size w y1 := BD.trans (c1.mono BD.size)
  refine ⟨_, rfl, hc.out _ C1, ?_⟩
  simp only [Act.put, List.getElem_toArray, List.getElem_cons_zero, List.getElem_cons_succ, List.setIfInBounds_toArray, List.set_cons_zero, List.set_cons_succ]
  refine relist #[true, true, true, true, true, true, true, true, true, true, true, true, true, true, true, true, true, true, true, false, false, false] (by kernel_rfl) ?_
  refine any_one (i := 19) (by kernel_rfl) ?_
  refine wpOp_call (f := 40) (args := #[.string ⟨(toU key).toArray⟩, .slice yp es.length yc]) rfl rfl (by go_simp) ?_
  refine (refSave_any y1 (toU key) key HP.out.toI (by rw [toU_len]; omega) yp es.length yc es (HYS.out.below C1) hfew).mono ?_
  rintro e y2 ⟨rfl, c2⟩
  have C2 : Below w.heap.size w y2 := C1.trans (c2.mono C1.size)
  refine ⟨_, rfl, hc.out _ C2, ?_⟩
  simp only [Act.put, List.getElem_toArray, List.getElem_cons_zero, List.getElem_cons_succ, List.setIfInBounds_toArray, List.set_cons_zero, List.set_cons_succ]
  refine wpAnyH_take (i := 20) (v := .bool true) rfl (by kernel_rfl) (by kernel_rfl) (by kernel_rfl) (fun _ _ _ h => h) (.inl ⟨rfl, fun W _ => by go_simp⟩) (hc.out _ C2) ?_
  simp only [Act.put, List.getElem_toArray, List.getElem_cons_zero, List.getElem_cons_succ, List.setIfInBounds_toArray, List.set_cons_zero, List.set_cons_succ]
  refine wpAnyH_take (i := 21) (v := .bool true) rfl (by kernel_rfl) (by kernel_rfl) (by kernel_rfl) (fun _ _ _ h => h) (.inl ⟨rfl, fun W _ => by go_simp⟩) (hc.out _ C2) ?_
  simp only [Act.put, List.getElem_toArray, List.getElem_cons_zero, List.getElem_cons_succ, List.setIfInBounds_toArray, List.set_cons_zero, List.set_cons_succ]
  refine wpAnyH_done (by kernel_rfl) ?_ _
  refine NoPanic.normal ?_
  have HC2 : Hid _ := C2
  clear S0 BD C1 C2 c1 c2 b0 hc hss
  go_wp2_with fail
  go_ret
  exact stepOut_same HP.out HB.out HC2.out
end Go.Proofs.YtcmjlhcpoajbkaaDoor
