import Derived.Test.YtcmjlhcpoajbkaaDoorQNu
import Derived.Lib.BufferWrite
import Derived.Lib.ConvBytes
namespace Go.Proofs.YtcmjlhcpoajbkaaDoor
set_option maxRecDepth 10000
set_option linter.unusedSimpArgs false
open Go.RowKit
/-- copy of the first 32 bytes of a string that has them, over a block of 32. -/
theorem copy32 (w : World) (g : Nat) (f : List UInt8) (hf : 32 ≤ f.length) (D : List Int) (h : Dg w g D) :
    ∃ W, (Builtin.copy_ #[22, 9] 3 #[.slice (some ⟨g, 0, none⟩) 32 32, .string ⟨f.toArray⟩]).run Tryd.prog w = .ok (.int .i64 32) W ∧ Stored w W g (A8 (toI (f.take 32))) 25 := by
  obtain ⟨i5, hi5, hz, hsz, hby⟩ := info5'
  have hl : (toI (f.take 32)).length = 32 := by rw [toI_len, List.length_take]; omega
  have hst := run_storeCells_at Tryd.prog g 0 25 ((toI (f.take 32)).map (Value.int .u8)) 0 (A8 D) w h.here (by rw [A8_size, h.len, List.length_map, hl]; omega) (fun v hv => by obtain ⟨y, _, rfl⟩ := List.mem_map.1 hv; rfl)
  have hmin : Nat.min (ByteArray.mk f.toArray).size 32 = 32 := by
    have : (ByteArray.mk f.toArray).size = f.length := by show f.toArray.size = _; simp
    rw [this]; exact Nat.min_eq_right hf
  have htk : List.take 32 (List.map (fun b : UInt8 => Value.int IntKind.u8 (b.toNat : Int)) f) = (toI (f.take 32)).map (Value.int .u8) := by
    simp [toI, List.map_take]
    rfl
  have hrow : (List.take (0 + 0) (A8 D).toList ++ List.map (Value.int IntKind.u8) (toI (f.take 32)) ++ List.drop (0 + 0 + (List.map (Value.int IntKind.u8) (toI (f.take 32))).length) (A8 D).toList).toArray = A8 (toI (f.take 32)) := by
    have hd : List.drop (0 + 0 + (List.map (Value.int IntKind.u8) (toI (f.take 32))).length) (A8 D).toList = [] := List.drop_of_length_le (by have := h.len; simp [A8, hl]; omega)
    rw [hd]
    simp [A8]
  rw [hrow] at hst
  refine ⟨w.setRow g (A8 (toI (f.take 32))), ?_, ⟨setRow_heap _ _ _ _ _ _ h.here, fun _ hk => setRow_other _ _ _ _ hk, setRow_size _ _ _, fun _ _ hB hb => below_setRow hb hB _⟩⟩
  simp [Builtin.copy_, run_underlying Tryd.underlying22, Builtin.lenOf, Builtin.firstCells, sizeOf, typeInfo, hi5, hsz, hmin]
  rw [htk, hst]
  simp [Result.andThen]
  rfl
set_option maxHeartbeats 4000000 in
theorem first_short (f : List UInt8) (a : Nat) (w : World) (h : f.length < 4) :
    Calls Tryd.prog 78 #[.string ⟨f.toArray⟩, .int .i64 a] w fun e w' => e = .returned (.tuple #[.slice none 0 0, .agg (A8 Z32), .int .i64 3]) ∧ Below w.heap.size w w' := by
  have hb0 : Below w.heap.size w (w.alloc (.cells Z8x32 25)) := (Below.refl _ _).alloc (Nat.le_refl _) _
  have d0 : Dg (w.alloc (.cells Z8x32 25)) w.heap.size Z32 := Dg.new w _ rfl
  have hsz : (ByteArray.mk f.toArray).size = f.length := by show f.toArray.size = _; simp
  have h' : (f.length : Int) < 4 := by omega
  have d0d : Dg (w.alloc (.cells Z8x32 25)).drew w.heap.size Z32 := ⟨d0.len, d0.here⟩
  go_enter Tryd.func78, Tryd.ntmps78
  go_wp2_with fail
  refine wp_region_noPanic ?_
  refine wp_region_held (S := fun _ => True) follows ?_
  refine wpAnyH_take (i := 1) (v := .slice none 0 0) rfl (by kernel_rfl) (by kernel_rfl) (by kernel_rfl) (fun _ _ _ h => h) (.inl ⟨rfl, fun W _ => by go_simp⟩) trivial ?_
  simp only [Act.put, List.getElem_toArray, List.getElem_cons_zero, List.getElem_cons_succ, List.setIfInBounds_toArray, List.set_cons_zero, List.set_cons_succ]
  refine relist #[false, true, false, false] (by kernel_rfl) ?_
  refine any_one (i := 0) (by kernel_rfl) ?_
  refine wpOp_load_D rfl rfl (.tmp 5) rfl w.heap.size rfl Z32 d0d ?_
  refine ⟨trivial, ?_⟩
  simp only [Act.put, List.getElem_toArray, List.getElem_cons_zero, List.getElem_cons_succ, List.setIfInBounds_toArray, List.set_cons_zero, List.set_cons_succ]
  refine relist #[true, true, false, false] (by kernel_rfl) ?_
  refine any_one (i := 2) (by kernel_rfl) ?_
  refine wpOp_store_D rfl rfl (.tmp 5) (.tmp 13) rfl w.heap.size Z32 rfl rfl Z32 d0d rfl ?_
  intro U hU
  refine ⟨trivial, ?_⟩
  simp only [Act.put, List.getElem_toArray, List.getElem_cons_zero, List.getElem_cons_succ, List.setIfInBounds_toArray, List.set_cons_zero, List.set_cons_succ]
  refine wpAnyH_take (i := 3) (v := .int .i64 3) rfl (by kernel_rfl) (by kernel_rfl) (by kernel_rfl) (fun _ _ _ h => h) (.inl ⟨rfl, fun W _ => by go_simp⟩) trivial ?_
  simp only [Act.put, List.getElem_toArray, List.getElem_cons_zero, List.getElem_cons_succ, List.setIfInBounds_toArray, List.set_cons_zero, List.set_cons_succ]
  refine wpAnyH_done (by kernel_rfl) ?_ _
  refine NoPanic.normal ?_
  have dU : Hid (Dg U w.heap.size Z32) := hU.dg rfl
  have bU : Hid (Below w.heap.size w U) := hU.below _ _ (Nat.le_refl _) hb0.drew
  clear hU d0 d0d hb0
  go_wp2_with fail
  exact bodyPost_ret (results_TDT rfl _ _ w.heap.size Z32 rfl dU.out) rfl ⟨rfl, bU.out⟩
set_option maxHeartbeats 4000000 in
theorem first_long (f : List UInt8) (a : Nat) (w : World) (h : 4 ≤ f.length) (hL : 300 < numN (f.take 4)) :
    Calls Tryd.prog 78 #[.string ⟨f.toArray⟩, .int .i64 a] w fun e w' => e = .returned (.tuple #[.slice none 0 0, .agg (A8 Z32), .int .i64 2]) ∧ Below w.heap.size w w' := by
  have hb00 : Below w.heap.size w (w.alloc (.cells Z8x32 25)) := (Below.refl _ _).alloc (Nat.le_refl _) _
  have d00 : Dg (w.alloc (.cells Z8x32 25)) w.heap.size Z32 := Dg.new w _ rfl
  have hsz : (ByteArray.mk f.toArray).size = f.length := by show f.toArray.size = _; simp
  have h' : ¬ (f.length : Int) < 4 := by omega
  have s1 : ∀ W : World, (Instr.sliceAt 9 (.string ⟨f.toArray⟩) none (some (.int .i64 4)) none).run Tryd.prog W = .ok (.string ⟨(f.take 4).toArray⟩) W := fun W => str_front f 4 h W
  have s2 : ∀ W : World, (Instr.sliceAt 9 (.string ⟨f.toArray⟩) (some (.int .i64 4)) none none).run Tryd.prog W = .ok (.string ⟨(f.drop 4).toArray⟩) W := fun W => str_back f 4 h W
  have hdl : (ByteArray.mk (f.drop 4).toArray).size = f.length - 4 := by show (f.drop 4).toArray.size = _; simp
  have hL' : (300 : Int) < numN (f.take 4) := by omega
  go_enter Tryd.func78, Tryd.ntmps78
  go_wp2_with fail
  have hb0 : Below w.heap.size w (w.alloc (.cells Z8x32 25)).drew := hb00.drew
  have d0 : Dg (w.alloc (.cells Z8x32 25)).drew w.heap.size Z32 := ⟨d00.len, d00.here⟩
  refine wp_region_noPanic ?_
  refine wp_region_held (S := fun _ => True) follows ?_
  refine wpAnyH_take (i := 0) (v := .string ⟨f.toArray⟩) rfl (by kernel_rfl) (by kernel_rfl) (by kernel_rfl) (fun _ _ _ h => h) (.inl ⟨rfl, fun W _ => by go_simp⟩) trivial ?_
  simp only [Act.put, List.getElem_toArray, List.getElem_cons_zero, List.getElem_cons_succ, List.setIfInBounds_toArray, List.set_cons_zero, List.set_cons_succ]
  refine wpAnyH_take (i := 3) (v := .string ⟨f.toArray⟩) rfl (by kernel_rfl) (by kernel_rfl) (by kernel_rfl) (fun _ _ _ h => h) (.inl ⟨rfl, fun W _ => by go_simp⟩) trivial ?_
  simp only [Act.put, List.getElem_toArray, List.getElem_cons_zero, List.getElem_cons_succ, List.setIfInBounds_toArray, List.set_cons_zero, List.set_cons_succ]
  refine wpAnyH_take (i := 1) (v := .string ⟨(f.take 4).toArray⟩) rfl (by kernel_rfl) (by kernel_rfl) (by kernel_rfl) (fun _ _ _ h => h) (.inl ⟨rfl, fun W _ => by have e := s1 W; go_simp⟩) trivial ?_
  simp only [Act.put, List.getElem_toArray, List.getElem_cons_zero, List.getElem_cons_succ, List.setIfInBounds_toArray, List.set_cons_zero, List.set_cons_succ]
  refine wpAnyH_take (i := 4) (v := .string ⟨(f.drop 4).toArray⟩) rfl (by kernel_rfl) (by kernel_rfl) (by kernel_rfl) (fun _ _ _ h => h) (.inl ⟨rfl, fun W _ => by have e := s2 W; go_simp⟩) trivial ?_
  simp only [Act.put, List.getElem_toArray, List.getElem_cons_zero, List.getElem_cons_succ, List.setIfInBounds_toArray, List.set_cons_zero, List.set_cons_succ]
  refine relist #[true, true, false, true, true, false, false] (by kernel_rfl) ?_
  refine any_one (i := 2) (by kernel_rfl) ?_
  refine wpOp_call (f := 104) (args := #[.string ⟨(f.take 4).toArray⟩]) rfl rfl (by go_simp) ?_
  refine (number_any (f.take 4) (by rw [List.length_take]; omega) _).mono ?_
  rintro e W ⟨rfl, hW⟩
  subst hW
  refine ⟨_, rfl, trivial, ?_⟩
  simp only [Act.put, List.getElem_toArray, List.getElem_cons_zero, List.getElem_cons_succ, List.setIfInBounds_toArray, List.set_cons_zero, List.set_cons_succ]
  refine wpAnyH_take (i := 5) (v := .int .u64 (numN (f.take 4))) rfl (by kernel_rfl) (by kernel_rfl) (by kernel_rfl) (fun _ _ _ h => h) (.inl ⟨rfl, fun W _ => by go_simp⟩) trivial ?_
  simp only [Act.put, List.getElem_toArray, List.getElem_cons_zero, List.getElem_cons_succ, List.setIfInBounds_toArray, List.set_cons_zero, List.set_cons_succ]
  refine wpAnyH_take (i := 6) (v := .string ⟨(f.drop 4).toArray⟩) rfl (by kernel_rfl) (by kernel_rfl) (by kernel_rfl) (fun _ _ _ h => h) (.inl ⟨rfl, fun W _ => by go_simp⟩) trivial ?_
  simp only [Act.put, List.getElem_toArray, List.getElem_cons_zero, List.getElem_cons_succ, List.setIfInBounds_toArray, List.set_cons_zero, List.set_cons_succ]
  refine wpAnyH_done (by kernel_rfl) ?_ _
  refine NoPanic.normal ?_
  clear s1 s2 d00 hb00
  generalize numN (f.take 4) = NN at *
  have d0d : Dg (w.alloc (.cells Z8x32 25)).drew.drew w.heap.size Z32 := ⟨d0.len, d0.here⟩
  go_wp2_with fail
  refine wp_region_noPanic ?_
  refine wp_region_held (S := fun _ => True) follows ?_
  refine wpAnyH_take (i := 1) (v := .slice none 0 0) rfl (by kernel_rfl) (by kernel_rfl) (by kernel_rfl) (fun _ _ _ h => h) (.inl ⟨rfl, fun W _ => by go_simp⟩) trivial ?_
  simp only [Act.put, List.getElem_toArray, List.getElem_cons_zero, List.getElem_cons_succ, List.setIfInBounds_toArray, List.set_cons_zero, List.set_cons_succ]
  refine relist #[false, true, false, false] (by kernel_rfl) ?_
  refine any_one (i := 0) (by kernel_rfl) ?_
  refine wpOp_load_D rfl rfl (.tmp 5) rfl w.heap.size rfl Z32 d0d ?_
  refine ⟨trivial, ?_⟩
  simp only [Act.put, List.getElem_toArray, List.getElem_cons_zero, List.getElem_cons_succ, List.setIfInBounds_toArray, List.set_cons_zero, List.set_cons_succ]
  refine relist #[true, true, false, false] (by kernel_rfl) ?_
  refine any_one (i := 2) (by kernel_rfl) ?_
  refine wpOp_store_D rfl rfl (.tmp 5) (.tmp 25) rfl w.heap.size Z32 rfl rfl Z32 d0d rfl ?_
  intro U hU
  refine ⟨trivial, ?_⟩
  simp only [Act.put, List.getElem_toArray, List.getElem_cons_zero, List.getElem_cons_succ, List.setIfInBounds_toArray, List.set_cons_zero, List.set_cons_succ]
  refine wpAnyH_take (i := 3) (v := .int .i64 2) rfl (by kernel_rfl) (by kernel_rfl) (by kernel_rfl) (fun _ _ _ h => h) (.inl ⟨rfl, fun W _ => by go_simp⟩) trivial ?_
  simp only [Act.put, List.getElem_toArray, List.getElem_cons_zero, List.getElem_cons_succ, List.setIfInBounds_toArray, List.set_cons_zero, List.set_cons_succ]
  refine wpAnyH_done (by kernel_rfl) ?_ _
  refine NoPanic.normal ?_
  have dU : Hid (Dg U w.heap.size Z32) := hU.dg rfl
  have bU : Hid (Below w.heap.size w U) := hU.below _ _ (Nat.le_refl _) hb0.drew
  clear hU d0 d0d hb0
  go_wp2_with fail
  exact bodyPost_ret (results_TDT rfl _ _ w.heap.size Z32 rfl dU.out) rfl ⟨rfl, bU.out⟩
set_option maxHeartbeats 4000000 in
theorem first_many (f : List UInt8) (a : Nat) (w : World) (h : 4 ≤ f.length) (hL : numN (f.take 4) ≤ 300) (ha : 64 ≤ a) :
    Calls Tryd.prog 78 #[.string ⟨f.toArray⟩, .int .i64 a] w fun e w' => e = .returned (.tuple #[.slice none 0 0, .agg (A8 Z32), .int .i64 2]) ∧ Below w.heap.size w w' := by
  have hb00 : Below w.heap.size w (w.alloc (.cells Z8x32 25)) := (Below.refl _ _).alloc (Nat.le_refl _) _
  have d00 : Dg (w.alloc (.cells Z8x32 25)) w.heap.size Z32 := Dg.new w _ rfl
  have hsz : (ByteArray.mk f.toArray).size = f.length := by show f.toArray.size = _; simp
  have h' : ¬ (f.length : Int) < 4 := by omega
  have s1 : ∀ W : World, (Instr.sliceAt 9 (.string ⟨f.toArray⟩) none (some (.int .i64 4)) none).run Tryd.prog W = .ok (.string ⟨(f.take 4).toArray⟩) W := fun W => str_front f 4 h W
  have s2 : ∀ W : World, (Instr.sliceAt 9 (.string ⟨f.toArray⟩) (some (.int .i64 4)) none none).run Tryd.prog W = .ok (.string ⟨(f.drop 4).toArray⟩) W := fun W => str_back f 4 h W
  have hdl : (ByteArray.mk (f.drop 4).toArray).size = f.length - 4 := by show (f.drop 4).toArray.size = _; simp
  have hL' : ¬ (300 : Int) < numN (f.take 4) := by omega
  have ha' : (64 : Int) ≤ a := by omega
  go_enter Tryd.func78, Tryd.ntmps78
  go_wp2_with fail
  have hb0 : Below w.heap.size w (w.alloc (.cells Z8x32 25)).drew := hb00.drew
  have d0 : Dg (w.alloc (.cells Z8x32 25)).drew w.heap.size Z32 := ⟨d00.len, d00.here⟩
  refine wp_region_noPanic ?_
  refine wp_region_held (S := fun _ => True) follows ?_
  refine wpAnyH_take (i := 0) (v := .string ⟨f.toArray⟩) rfl (by kernel_rfl) (by kernel_rfl) (by kernel_rfl) (fun _ _ _ h => h) (.inl ⟨rfl, fun W _ => by go_simp⟩) trivial ?_
  simp only [Act.put, List.getElem_toArray, List.getElem_cons_zero, List.getElem_cons_succ, List.setIfInBounds_toArray, List.set_cons_zero, List.set_cons_succ]
  refine wpAnyH_take (i := 3) (v := .string ⟨f.toArray⟩) rfl (by kernel_rfl) (by kernel_rfl) (by kernel_rfl) (fun _ _ _ h => h) (.inl ⟨rfl, fun W _ => by go_simp⟩) trivial ?_
  simp only [Act.put, List.getElem_toArray, List.getElem_cons_zero, List.getElem_cons_succ, List.setIfInBounds_toArray, List.set_cons_zero, List.set_cons_succ]
  refine wpAnyH_take (i := 1) (v := .string ⟨(f.take 4).toArray⟩) rfl (by kernel_rfl) (by kernel_rfl) (by kernel_rfl) (fun _ _ _ h => h) (.inl ⟨rfl, fun W _ => by have e := s1 W; go_simp⟩) trivial ?_
  simp only [Act.put, List.getElem_toArray, List.getElem_cons_zero, List.getElem_cons_succ, List.setIfInBounds_toArray, List.set_cons_zero, List.set_cons_succ]
  refine wpAnyH_take (i := 4) (v := .string ⟨(f.drop 4).toArray⟩) rfl (by kernel_rfl) (by kernel_rfl) (by kernel_rfl) (fun _ _ _ h => h) (.inl ⟨rfl, fun W _ => by have e := s2 W; go_simp⟩) trivial ?_
  simp only [Act.put, List.getElem_toArray, List.getElem_cons_zero, List.getElem_cons_succ, List.setIfInBounds_toArray, List.set_cons_zero, List.set_cons_succ]
  refine relist #[true, true, false, true, true, false, false] (by kernel_rfl) ?_
  refine any_one (i := 2) (by kernel_rfl) ?_
  refine wpOp_call (f := 104) (args := #[.string ⟨(f.take 4).toArray⟩]) rfl rfl (by go_simp) ?_
  refine (number_any (f.take 4) (by rw [List.length_take]; omega) _).mono ?_
  rintro e W ⟨rfl, hW⟩
  subst hW
  refine ⟨_, rfl, trivial, ?_⟩
  simp only [Act.put, List.getElem_toArray, List.getElem_cons_zero, List.getElem_cons_succ, List.setIfInBounds_toArray, List.set_cons_zero, List.set_cons_succ]
  refine wpAnyH_take (i := 5) (v := .int .u64 (numN (f.take 4))) rfl (by kernel_rfl) (by kernel_rfl) (by kernel_rfl) (fun _ _ _ h => h) (.inl ⟨rfl, fun W _ => by go_simp⟩) trivial ?_
  simp only [Act.put, List.getElem_toArray, List.getElem_cons_zero, List.getElem_cons_succ, List.setIfInBounds_toArray, List.set_cons_zero, List.set_cons_succ]
  refine wpAnyH_take (i := 6) (v := .string ⟨(f.drop 4).toArray⟩) rfl (by kernel_rfl) (by kernel_rfl) (by kernel_rfl) (fun _ _ _ h => h) (.inl ⟨rfl, fun W _ => by go_simp⟩) trivial ?_
  simp only [Act.put, List.getElem_toArray, List.getElem_cons_zero, List.getElem_cons_succ, List.setIfInBounds_toArray, List.set_cons_zero, List.set_cons_succ]
  refine wpAnyH_done (by kernel_rfl) ?_ _
  refine NoPanic.normal ?_
  clear s1 s2 d00 hb00
  generalize numN (f.take 4) = NN at *
  have d0d : Dg (w.alloc (.cells Z8x32 25)).drew.drew w.heap.size Z32 := ⟨d0.len, d0.here⟩
  go_wp2_with fail
  refine wp_region_noPanic ?_
  refine wp_region_held (S := fun _ => True) follows ?_
  refine wpAnyH_take (i := 1) (v := .slice none 0 0) rfl (by kernel_rfl) (by kernel_rfl) (by kernel_rfl) (fun _ _ _ h => h) (.inl ⟨rfl, fun W _ => by go_simp⟩) trivial ?_
  simp only [Act.put, List.getElem_toArray, List.getElem_cons_zero, List.getElem_cons_succ, List.setIfInBounds_toArray, List.set_cons_zero, List.set_cons_succ]
  refine relist #[false, true, false, false] (by kernel_rfl) ?_
  refine any_one (i := 0) (by kernel_rfl) ?_
  refine wpOp_load_D rfl rfl (.tmp 5) rfl w.heap.size rfl Z32 d0d ?_
  refine ⟨trivial, ?_⟩
  simp only [Act.put, List.getElem_toArray, List.getElem_cons_zero, List.getElem_cons_succ, List.setIfInBounds_toArray, List.set_cons_zero, List.set_cons_succ]
  refine relist #[true, true, false, false] (by kernel_rfl) ?_
  refine any_one (i := 2) (by kernel_rfl) ?_
  refine wpOp_store_D rfl rfl (.tmp 5) (.tmp 25) rfl w.heap.size Z32 rfl rfl Z32 d0d rfl ?_
  intro U hU
  refine ⟨trivial, ?_⟩
  simp only [Act.put, List.getElem_toArray, List.getElem_cons_zero, List.getElem_cons_succ, List.setIfInBounds_toArray, List.set_cons_zero, List.set_cons_succ]
  refine wpAnyH_take (i := 3) (v := .int .i64 2) rfl (by kernel_rfl) (by kernel_rfl) (by kernel_rfl) (fun _ _ _ h => h) (.inl ⟨rfl, fun W _ => by go_simp⟩) trivial ?_
  simp only [Act.put, List.getElem_toArray, List.getElem_cons_zero, List.getElem_cons_succ, List.setIfInBounds_toArray, List.set_cons_zero, List.set_cons_succ]
  refine wpAnyH_done (by kernel_rfl) ?_ _
  refine NoPanic.normal ?_
  have dU : Hid (Dg U w.heap.size Z32) := hU.dg rfl
  have bU : Hid (Below w.heap.size w U) := hU.below _ _ (Nat.le_refl _) hb0.drew
  clear hU d0 d0d hb0
  go_wp2_with fail
  exact bodyPost_ret (results_TDT rfl _ _ w.heap.size Z32 rfl dU.out) rfl ⟨rfl, bU.out⟩
set_option maxHeartbeats 4000000 in
theorem first_torn (f : List UInt8) (a : Nat) (w : World) (h : 4 ≤ f.length) (hL : numN (f.take 4) ≤ 300) (ha : a < 64) (hS : f.length < 4 + numN (f.take 4) + 32) :
    Calls Tryd.prog 78 #[.string ⟨f.toArray⟩, .int .i64 a] w fun e w' => e = .returned (.tuple #[.slice none 0 0, .agg (A8 Z32), .int .i64 3]) ∧ Below w.heap.size w w' := by
  have hb00 : Below w.heap.size w (w.alloc (.cells Z8x32 25)) := (Below.refl _ _).alloc (Nat.le_refl _) _
  have d00 : Dg (w.alloc (.cells Z8x32 25)) w.heap.size Z32 := Dg.new w _ rfl
  have hsz : (ByteArray.mk f.toArray).size = f.length := by show f.toArray.size = _; simp
  have h' : ¬ (f.length : Int) < 4 := by omega
  have s1 : ∀ W : World, (Instr.sliceAt 9 (.string ⟨f.toArray⟩) none (some (.int .i64 4)) none).run Tryd.prog W = .ok (.string ⟨(f.take 4).toArray⟩) W := fun W => str_front f 4 h W
  have s2 : ∀ W : World, (Instr.sliceAt 9 (.string ⟨f.toArray⟩) (some (.int .i64 4)) none none).run Tryd.prog W = .ok (.string ⟨(f.drop 4).toArray⟩) W := fun W => str_back f 4 h W
  have hdl : (ByteArray.mk (f.drop 4).toArray).size = f.length - 4 := by show (f.drop 4).toArray.size = _; simp
  have hL' : ¬ (300 : Int) < numN (f.take 4) := by omega
  have ha' : ¬ (64 : Int) ≤ a := by omega
  have hS' : ((f.length - 4 : Nat) : Int) < (numN (f.take 4) : Int) + 32 := by omega
  have hcv : IntKind.i64.wrap (numN (f.take 4) : Int) = numN (f.take 4) := i64_wrap _ (by omega) (by omega)
  go_enter Tryd.func78, Tryd.ntmps78
  go_wp2_with fail
  have hb0 : Below w.heap.size w (w.alloc (.cells Z8x32 25)).drew := hb00.drew
  have d0 : Dg (w.alloc (.cells Z8x32 25)).drew w.heap.size Z32 := ⟨d00.len, d00.here⟩
  refine wp_region_noPanic ?_
  refine wp_region_held (S := fun _ => True) follows ?_
  refine wpAnyH_take (i := 0) (v := .string ⟨f.toArray⟩) rfl (by kernel_rfl) (by kernel_rfl) (by kernel_rfl) (fun _ _ _ h => h) (.inl ⟨rfl, fun W _ => by go_simp⟩) trivial ?_
  simp only [Act.put, List.getElem_toArray, List.getElem_cons_zero, List.getElem_cons_succ, List.setIfInBounds_toArray, List.set_cons_zero, List.set_cons_succ]
  refine wpAnyH_take (i := 3) (v := .string ⟨f.toArray⟩) rfl (by kernel_rfl) (by kernel_rfl) (by kernel_rfl) (fun _ _ _ h => h) (.inl ⟨rfl, fun W _ => by go_simp⟩) trivial ?_
  simp only [Act.put, List.getElem_toArray, List.getElem_cons_zero, List.getElem_cons_succ, List.setIfInBounds_toArray, List.set_cons_zero, List.set_cons_succ]
  refine wpAnyH_take (i := 1) (v := .string ⟨(f.take 4).toArray⟩) rfl (by kernel_rfl) (by kernel_rfl) (by kernel_rfl) (fun _ _ _ h => h) (.inl ⟨rfl, fun W _ => by have e := s1 W; go_simp⟩) trivial ?_
  simp only [Act.put, List.getElem_toArray, List.getElem_cons_zero, List.getElem_cons_succ, List.setIfInBounds_toArray, List.set_cons_zero, List.set_cons_succ]
  refine wpAnyH_take (i := 4) (v := .string ⟨(f.drop 4).toArray⟩) rfl (by kernel_rfl) (by kernel_rfl) (by kernel_rfl) (fun _ _ _ h => h) (.inl ⟨rfl, fun W _ => by have e := s2 W; go_simp⟩) trivial ?_
  simp only [Act.put, List.getElem_toArray, List.getElem_cons_zero, List.getElem_cons_succ, List.setIfInBounds_toArray, List.set_cons_zero, List.set_cons_succ]
  refine relist #[true, true, false, true, true, false, false] (by kernel_rfl) ?_
  refine any_one (i := 2) (by kernel_rfl) ?_
  refine wpOp_call (f := 104) (args := #[.string ⟨(f.take 4).toArray⟩]) rfl rfl (by go_simp) ?_
  refine (number_any (f.take 4) (by rw [List.length_take]; omega) _).mono ?_
  rintro e W ⟨rfl, hW⟩
  subst hW
  refine ⟨_, rfl, trivial, ?_⟩
  simp only [Act.put, List.getElem_toArray, List.getElem_cons_zero, List.getElem_cons_succ, List.setIfInBounds_toArray, List.set_cons_zero, List.set_cons_succ]
  refine wpAnyH_take (i := 5) (v := .int .u64 (numN (f.take 4))) rfl (by kernel_rfl) (by kernel_rfl) (by kernel_rfl) (fun _ _ _ h => h) (.inl ⟨rfl, fun W _ => by go_simp⟩) trivial ?_
  simp only [Act.put, List.getElem_toArray, List.getElem_cons_zero, List.getElem_cons_succ, List.setIfInBounds_toArray, List.set_cons_zero, List.set_cons_succ]
  refine wpAnyH_take (i := 6) (v := .string ⟨(f.drop 4).toArray⟩) rfl (by kernel_rfl) (by kernel_rfl) (by kernel_rfl) (fun _ _ _ h => h) (.inl ⟨rfl, fun W _ => by go_simp⟩) trivial ?_
  simp only [Act.put, List.getElem_toArray, List.getElem_cons_zero, List.getElem_cons_succ, List.setIfInBounds_toArray, List.set_cons_zero, List.set_cons_succ]
  refine wpAnyH_done (by kernel_rfl) ?_ _
  refine NoPanic.normal ?_
  clear s1 s2 d00 hb00 hS
  generalize numN (f.take 4) = NN at *
  have d0d : Dg (w.alloc (.cells Z8x32 25)).drew.drew w.heap.size Z32 := ⟨d0.len, d0.here⟩
  go_wp2_with fail
  refine wp_region_noPanic ?_
  refine wp_region_held (S := fun _ => True) follows ?_
  refine wpAnyH_take (i := 1) (v := .slice none 0 0) rfl (by kernel_rfl) (by kernel_rfl) (by kernel_rfl) (fun _ _ _ h => h) (.inl ⟨rfl, fun W _ => by go_simp⟩) trivial ?_
  simp only [Act.put, List.getElem_toArray, List.getElem_cons_zero, List.getElem_cons_succ, List.setIfInBounds_toArray, List.set_cons_zero, List.set_cons_succ]
  refine relist #[false, true, false, false] (by kernel_rfl) ?_
  refine any_one (i := 0) (by kernel_rfl) ?_
  refine wpOp_load_D rfl rfl (.tmp 5) rfl w.heap.size rfl Z32 d0d ?_
  refine ⟨trivial, ?_⟩
  simp only [Act.put, List.getElem_toArray, List.getElem_cons_zero, List.getElem_cons_succ, List.setIfInBounds_toArray, List.set_cons_zero, List.set_cons_succ]
  refine relist #[true, true, false, false] (by kernel_rfl) ?_
  refine any_one (i := 2) (by kernel_rfl) ?_
  refine wpOp_store_D rfl rfl (.tmp 5) (.tmp 33) rfl w.heap.size Z32 rfl rfl Z32 d0d rfl ?_
  intro U hU
  refine ⟨trivial, ?_⟩
  simp only [Act.put, List.getElem_toArray, List.getElem_cons_zero, List.getElem_cons_succ, List.setIfInBounds_toArray, List.set_cons_zero, List.set_cons_succ]
  refine wpAnyH_take (i := 3) (v := .int .i64 3) rfl (by kernel_rfl) (by kernel_rfl) (by kernel_rfl) (fun _ _ _ h => h) (.inl ⟨rfl, fun W _ => by go_simp⟩) trivial ?_
  simp only [Act.put, List.getElem_toArray, List.getElem_cons_zero, List.getElem_cons_succ, List.setIfInBounds_toArray, List.set_cons_zero, List.set_cons_succ]
  refine wpAnyH_done (by kernel_rfl) ?_ _
  refine NoPanic.normal ?_
  have dU : Hid (Dg U w.heap.size Z32) := hU.dg rfl
  have bU : Hid (Below w.heap.size w U) := hU.below _ _ (Nat.le_refl _) hb0.drew
  clear hU d0 d0d hb0
  go_wp2_with fail
  exact bodyPost_ret (results_TDT rfl _ _ w.heap.size Z32 rfl dU.out) rfl ⟨rfl, bU.out⟩
end Go.Proofs.YtcmjlhcpoajbkaaDoor
