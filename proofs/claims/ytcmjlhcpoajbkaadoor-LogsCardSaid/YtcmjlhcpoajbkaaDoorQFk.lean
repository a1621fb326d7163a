import Derived.Test.YtcmjlhcpoajbkaaDoorQFi
namespace Go.Proofs.YtcmjlhcpoajbkaaDoor
set_option maxRecDepth 10000
set_option linter.unusedSimpArgs false
open Go.RowKit
theorem wpOp_copy {P : Program} {ops : Array Oper} {Q : Exit → Act → World → Prop} {i : Nat} {o : Oper} {K : Act → World → Prop} {a : Act} {w w' : World} {v : Value} (hi : ops[i]? = some o) (hg : o.guard = none) (s x : Operand) (t t' : TypeId)
    (ho : o.op = .call { callee := .builtin .copy, args := #[s, x], argTypes := #[t, t'] }) (vs vx : Value) (hs : a.eval s = vs) (hx : a.eval x = vx)
    (hr : (Builtin.copy_ #[t, t'] o.type #[vs, vx]).run P w = .ok v w') (h : K (a.put o.dst v) w') : wpOp P ops Q i K a w := by
  refine wpOp_val (v := v) (w' := w') hi hg ?_ h
  unfold execOp
  simp only [ho, resolve, invoke, builtin, Sem.run_bind, Sem.run_pure, Result.andThen_ok, List.map_toArray, List.map_cons, List.map_nil, hs, hx, hr]
/-- []byte of a string: in new memory. -/
theorem bytes_new (w : World) (f : List UInt8) (hf : f.length ≤ 1000) : ∃ c, (convert 9 22 (.string ⟨f.toArray⟩)).run Tryd.prog w = .ok (.slice (some ⟨w.heap.size, 0, none⟩) f.length c) (Lib.bytesWorld w 5 ⟨f.toArray⟩) ∧ In8 (Lib.bytesWorld w 5 ⟨f.toArray⟩) (some ⟨w.heap.size, 0, none⟩) f.length c (toI f) ∧ Below w.heap.size w (Lib.bytesWorld w 5 ⟨f.toArray⟩) := by
  have hsz : (ByteArray.mk f.toArray).size = f.length := by show f.toArray.size = _; simp
  have h := Lib.run_convert_string_bytes (P := Tryd.prog) w 9 22 5 ⟨f.toArray⟩ Tryd.underlying9 Tryd.underlying22 Tryd.underlying5
  rw [hsz] at h
  have h1 := grownCap_ge w f.length 0 5
  have h2 := grownCap_le_maxLen w f.length 0 5 (by unfold maxLen; omega)
  refine ⟨_, h, ⟨toI_len f, toI_bytes f, h1, by unfold maxLen at h2; omega, by omega, fun _ => ⟨w.heap.size, 0, rfl, by rw [Lib.bytesWorld_size]; omega, fun j hj => ?_⟩⟩, ⟨rfl, rfl, rfl, by rw [Lib.bytesWorld_size]; omega, fun k hk => Lib.bytesWorld_at_old w 5 _ k hk⟩⟩
  rw [toI_len] at hj
  rw [Nat.zero_add, Lib.bytesWorld_cell w 5 _ j (by rw [hsz]; exact hj), toI_get f j hj]
  simp [List.getD, hj]
set_option maxHeartbeats 8000000 in
theorem first_ok (f : List UInt8) (NN : Nat) (r : List UInt8) (hNN : numN (f.take 4) = NN) (hr : f.drop 4 = r) (a : Nat) (w : World) (h : 4 ≤ f.length) (hL : NN ≤ 300) (ha : a < 64) (hS : 4 + NN + 32 ≤ f.length) :
    Calls Tryd.prog 78 #[.string ⟨f.toArray⟩, .int .i64 a] w fun e w' => ∃ g c, e = .returned (.tuple #[.slice (some ⟨g, 0, none⟩) NN c, .agg (A8 (toI ((r.drop NN).take 32))), .int .i64 0]) ∧
      In8 w' (some ⟨g, 0, none⟩) NN c (toI (r.take NN)) ∧ w.heap.size ≤ g ∧ g < w'.heap.size ∧ Below w.heap.size w w' := by
  have hb00 : Below w.heap.size w (w.alloc (.cells Z8x32 25)) := (Below.refl _ _).alloc (Nat.le_refl _) _
  have d00 : Dg (w.alloc (.cells Z8x32 25)) w.heap.size Z32 := Dg.new w _ rfl
  have hsz : (ByteArray.mk f.toArray).size = f.length := by show f.toArray.size = _; simp
  have h' : ¬ (f.length : Int) < 4 := by omega
  have s1 : ∀ W : World, (Instr.sliceAt 9 (.string ⟨f.toArray⟩) none (some (.int .i64 4)) none).run Tryd.prog W = .ok (.string ⟨(f.take 4).toArray⟩) W := fun W => str_front f 4 h W
  have s2 : ∀ W : World, (Instr.sliceAt 9 (.string ⟨f.toArray⟩) (some (.int .i64 4)) none none).run Tryd.prog W = .ok (.string ⟨r.toArray⟩) W := fun W => by have e := str_back f 4 h W; rw [hr] at e; exact e
  have hfd : r.length = f.length - 4 := by rw [← hr]; simp
  have hdl : (ByteArray.mk r.toArray).size = f.length - 4 := by show r.toArray.size = _; simp [hfd]
  have hL' : ¬ (300 : Int) < NN := by omega
  have ha' : ¬ (64 : Int) ≤ a := by omega
  have hS' : ¬ ((f.length - 4 : Nat) : Int) < (NN : Int) + 32 := by omega
  have hcv : IntKind.i64.wrap (NN : Int) = NN := i64_wrap _ (by omega) (by omega)
  go_enter Tryd.func78, Tryd.ntmps78
  go_wp2_with fail
  have hb0 : Below w.heap.size w (w.alloc (.cells Z8x32 25)).drew := hb00.drew
  have d0 : Dg (w.alloc (.cells Z8x32 25)).drew w.heap.size Z32 := ⟨d00.len, d00.here⟩
  refine wp_region_noPanic ?_
  refine wp_region_held (S := fun _ => True) follows ?_
  refine wpAnyH_take (i := 0) (v := .string ⟨f.toArray⟩) rfl (by kernel_rfl) (by kernel_rfl) (by kernel_rfl) (fun _ _ _ h => h) (.inl ⟨rfl, fun W _ => by go_simp⟩) trivial ?_
  simp only [Act.put, List.getElem_toArray, List.getElem_cons_zero, List.getElem_cons_succ, List.setIfInBounds_toArray, List.set_cons_zero, List.set_cons_succ]
  refine wpAnyH_take (i := 3) (v := .string ⟨f.toArray⟩) rfl (by kernel_rfl) (by kernel_rfl) (by kernel_rfl) (fun _ _ _ h => h) (.inl ⟨rfl, fun W _ => by go_simp⟩) trivial ?_
  simp only [Act.put, List.getElem_toArray, List.getElem_cons_zero, List.getElem_cons_succ, List.setIfInBounds_toArray, List.set_cons_zero, List.set_cons_succ]
  refine wpAnyH_take (i := 1) (v := .string ⟨(f.take 4).toArray⟩) rfl (by kernel_rfl) (by kernel_rfl) (by kernel_rfl) (fun _ _ _ h => h) (.inl ⟨rfl, fun W _ => by have e := s1 W; go_simp⟩) trivial ?_
  simp only [Act.put, List.getElem_toArray, List.getElem_cons_zero, List.getElem_cons_succ, List.setIfInBounds_toArray, List.set_cons_zero, List.set_cons_succ]
  refine wpAnyH_take (i := 4) (v := .string ⟨r.toArray⟩) rfl (by kernel_rfl) (by kernel_rfl) (by kernel_rfl) (fun _ _ _ h => h) (.inl ⟨rfl, fun W _ => by have e := s2 W; go_simp⟩) trivial ?_
  simp only [Act.put, List.getElem_toArray, List.getElem_cons_zero, List.getElem_cons_succ, List.setIfInBounds_toArray, List.set_cons_zero, List.set_cons_succ]
  refine relist #[true, true, false, true, true, false, false] (by kernel_rfl) ?_
  refine any_one (i := 2) (by kernel_rfl) ?_
  refine wpOp_call (f := 104) (args := #[.string ⟨(f.take 4).toArray⟩]) rfl rfl (by go_simp) ?_
  refine (number_any (f.take 4) (by rw [List.length_take]; omega) _).mono ?_
  rintro e W ⟨rfl, hW⟩
  rw [hNN]
  subst hW
  refine ⟨_, rfl, trivial, ?_⟩
  simp only [Act.put, List.getElem_toArray, List.getElem_cons_zero, List.getElem_cons_succ, List.setIfInBounds_toArray, List.set_cons_zero, List.set_cons_succ]
  refine wpAnyH_take (i := 5) (v := .int .u64 NN) rfl (by kernel_rfl) (by kernel_rfl) (by kernel_rfl) (fun _ _ _ h => h) (.inl ⟨rfl, fun W _ => by go_simp⟩) trivial ?_
  simp only [Act.put, List.getElem_toArray, List.getElem_cons_zero, List.getElem_cons_succ, List.setIfInBounds_toArray, List.set_cons_zero, List.set_cons_succ]
  refine wpAnyH_take (i := 6) (v := .string ⟨r.toArray⟩) rfl (by kernel_rfl) (by kernel_rfl) (by kernel_rfl) (fun _ _ _ h => h) (.inl ⟨rfl, fun W _ => by go_simp⟩) trivial ?_
  simp only [Act.put, List.getElem_toArray, List.getElem_cons_zero, List.getElem_cons_succ, List.setIfInBounds_toArray, List.set_cons_zero, List.set_cons_succ]
  refine wpAnyH_done (by kernel_rfl) ?_ _
  refine NoPanic.normal ?_
  clear s1 s2 d00 hb00
  have s3 : ∀ W : World, (Instr.sliceAt 9 (.string ⟨r.toArray⟩) (some (.int .i64 (NN : Int))) none none).run Tryd.prog W = .ok (.string ⟨(r.drop NN).toArray⟩) W := fun W => str_back r NN (by omega) W
  have s4 : ∀ W : World, (Instr.sliceAt 9 (.string ⟨r.toArray⟩) none (some (.int .i64 (NN : Int))) none).run Tryd.prog W = .ok (.string ⟨(r.take NN).toArray⟩) W := fun W => str_front r NN (by omega) W
  have d0d : Dg (w.alloc (.cells Z8x32 25)).drew.drew w.heap.size Z32 := ⟨d0.len, d0.here⟩
  obtain ⟨W1, hr1, hW1⟩ := copy32 (w.alloc (.cells Z8x32 25)).drew.drew w.heap.size (r.drop NN) (by rw [List.length_drop]; omega) Z32 d0d
  go_wp2_with fail
  refine wp_region_noPanic ?_
  refine wp_region_held (S := fun _ => True) follows ?_
  refine wpAnyH_take (i := 0) (v := .slice (some ⟨w.heap.size, 0, none⟩) 32 32) rfl (by kernel_rfl) (by kernel_rfl) (by kernel_rfl) (fun _ _ _ h => h) (.inl ⟨rfl, fun W _ => by go_simp⟩) trivial ?_
  simp only [Act.put, List.getElem_toArray, List.getElem_cons_zero, List.getElem_cons_succ, List.setIfInBounds_toArray, List.set_cons_zero, List.set_cons_succ]
  refine wpAnyH_take (i := 1) (v := .string ⟨r.toArray⟩) rfl (by kernel_rfl) (by kernel_rfl) (by kernel_rfl) (fun _ _ _ h => h) (.inl ⟨rfl, fun W _ => by go_simp⟩) trivial ?_
  simp only [Act.put, List.getElem_toArray, List.getElem_cons_zero, List.getElem_cons_succ, List.setIfInBounds_toArray, List.set_cons_zero, List.set_cons_succ]
  refine wpAnyH_take (i := 2) (v := .int .i64 NN) rfl (by kernel_rfl) (by kernel_rfl) (by kernel_rfl) (fun _ _ _ h => h) (.inl ⟨rfl, fun W _ => by go_simp⟩) trivial ?_
  simp only [Act.put, List.getElem_toArray, List.getElem_cons_zero, List.getElem_cons_succ, List.setIfInBounds_toArray, List.set_cons_zero, List.set_cons_succ]
  refine wpAnyH_take (i := 3) (v := .string ⟨(r.drop NN).toArray⟩) rfl (by kernel_rfl) (by kernel_rfl) (by kernel_rfl) (fun _ _ _ h => h) (.inl ⟨rfl, fun W _ => by have e := s3 W; go_simp⟩) trivial ?_
  simp only [Act.put, List.getElem_toArray, List.getElem_cons_zero, List.getElem_cons_succ, List.setIfInBounds_toArray, List.set_cons_zero, List.set_cons_succ]
  refine relist #[true, true, true, true, false] (by kernel_rfl) ?_
  refine any_one (i := 4) (by kernel_rfl) ?_
  refine wpOp_copy rfl rfl (.tmp 34) (.tmp 37) 22 9 rfl _ _ rfl rfl hr1 ?_
  refine ⟨trivial, ?_⟩
  simp only [Act.put, List.getElem_toArray, List.getElem_cons_zero, List.getElem_cons_succ, List.setIfInBounds_toArray, List.set_cons_zero, List.set_cons_succ]
  refine wpAnyH_done (by kernel_rfl) ?_ _
  refine NoPanic.normal ?_
  have hsl : (toI ((r.drop NN).take 32)).length = 32 := by rw [toI_len, List.length_take, List.length_drop]; omega
  have D1 : Dg W1 w.heap.size (toI ((r.drop NN).take 32)) := hW1.dg hsl
  have B1 : Below w.heap.size w W1 := hW1.below _ _ (Nat.le_refl _) hb0.drew
  have hq1 := D1.lt
  clear hr1 hW1 d0d d0 s3
  obtain ⟨SL, hSL⟩ : ∃ SL, toI ((r.drop NN).take 32) = SL := ⟨_, rfl⟩
  have HSL : Hid (toI ((r.drop NN).take 32) = SL) := hSL
  rw [hSL] at hsl D1
  clear hSL
  have htl : (r.take NN).length = NN := by rw [List.length_take]; omega
  have S1 : Dg W1.drew w.heap.size SL := ⟨D1.len, D1.here⟩
  obtain ⟨c, hc, hI, hB⟩ := bytes_new W1.drew (r.take NN) (by omega)
  rw [htl] at hc hI
  have hB1 : Below w.heap.size w (Lib.bytesWorld W1.drew 5 ⟨(r.take NN).toArray⟩) := B1.drew.trans (hB.mono B1.size)
  have S2 : Dg (Lib.bytesWorld W1.drew 5 ⟨(r.take NN).toArray⟩) w.heap.size SL := S1.next hB
  go_wp2_with fail
  refine wp_region_noPanic ?_
  refine wp_region_held (S := fun W => Dg W w.heap.size SL) follows ?_
  refine wpAnyH_take (i := 0) (v := .string ⟨r.toArray⟩) rfl (by kernel_rfl) (by kernel_rfl) (by kernel_rfl) (fun _ _ _ h => h) (.inl ⟨rfl, fun W _ => by go_simp⟩) S1 ?_
  simp only [Act.put, List.getElem_toArray, List.getElem_cons_zero, List.getElem_cons_succ, List.setIfInBounds_toArray, List.set_cons_zero, List.set_cons_succ]
  refine wpAnyH_take (i := 1) (v := .int .i64 NN) rfl (by kernel_rfl) (by kernel_rfl) (by kernel_rfl) (fun _ _ _ h => h) (.inl ⟨rfl, fun W _ => by go_simp⟩) S1 ?_
  simp only [Act.put, List.getElem_toArray, List.getElem_cons_zero, List.getElem_cons_succ, List.setIfInBounds_toArray, List.set_cons_zero, List.set_cons_succ]
  refine wpAnyH_take (i := 2) (v := .string ⟨(r.take NN).toArray⟩) rfl (by kernel_rfl) (by kernel_rfl) (by kernel_rfl) (fun _ _ _ h => h) (.inl ⟨rfl, fun W _ => by have e := s4 W; go_simp⟩) S1 ?_
  simp only [Act.put, List.getElem_toArray, List.getElem_cons_zero, List.getElem_cons_succ, List.setIfInBounds_toArray, List.set_cons_zero, List.set_cons_succ]
  refine wpAnyH_take (i := 4) (v := .agg (A8 SL)) rfl (by kernel_rfl) (by kernel_rfl) (by kernel_rfl) (fun _ _ _ h => h) (yields_D rfl (.tmp 5) rfl w.heap.size rfl SL hsl (fun W hW => hW)) S1 ?_
  simp only [Act.put, List.getElem_toArray, List.getElem_cons_zero, List.getElem_cons_succ, List.setIfInBounds_toArray, List.set_cons_zero, List.set_cons_succ]
  refine relist #[true, true, true, false, true, false, false, false] (by kernel_rfl) ?_
  refine any_one (i := 3) (by kernel_rfl) ?_
  refine wpOp_val (v := .slice (some ⟨W1.drew.heap.size, 0, none⟩) NN c) (w' := Lib.bytesWorld W1.drew 5 ⟨(r.take NN).toArray⟩) rfl rfl (by have e := hc; go_simp) ?_
  refine ⟨S2, ?_⟩
  simp only [Act.put, List.getElem_toArray, List.getElem_cons_zero, List.getElem_cons_succ, List.setIfInBounds_toArray, List.set_cons_zero, List.set_cons_succ]
  refine wpAnyH_take (i := 5) (v := .slice (some ⟨W1.drew.heap.size, 0, none⟩) NN c) rfl (by kernel_rfl) (by kernel_rfl) (by kernel_rfl) (fun _ _ _ h => h) (.inl ⟨rfl, fun W _ => by go_simp⟩) S2 ?_
  simp only [Act.put, List.getElem_toArray, List.getElem_cons_zero, List.getElem_cons_succ, List.setIfInBounds_toArray, List.set_cons_zero, List.set_cons_succ]
  refine relist #[true, true, true, true, true, true, false, false] (by kernel_rfl) ?_
  refine any_one (i := 6) (by kernel_rfl) ?_
  refine wpOp_store_D rfl rfl (.tmp 5) (.tmp 43) rfl w.heap.size SL rfl rfl SL S2 hsl ?_
  intro U hU
  have SU : Dg U w.heap.size SL := hU.dg hsl
  refine ⟨SU, ?_⟩
  simp only [Act.put, List.getElem_toArray, List.getElem_cons_zero, List.getElem_cons_succ, List.setIfInBounds_toArray, List.set_cons_zero, List.set_cons_succ]
  refine wpAnyH_take (i := 7) (v := .int .i64 0) rfl (by kernel_rfl) (by kernel_rfl) (by kernel_rfl) (fun _ _ _ h => h) (.inl ⟨rfl, fun W _ => by go_simp⟩) SU ?_
  simp only [Act.put, List.getElem_toArray, List.getElem_cons_zero, List.getElem_cons_succ, List.setIfInBounds_toArray, List.set_cons_zero, List.set_cons_succ]
  refine wpAnyH_done (by kernel_rfl) ?_ _
  refine NoPanic.normal ?_
  have bU : Hid (Below w.heap.size w U) := hU.below _ _ (Nat.le_refl _) hB1
  have hg1 : W1.drew.heap.size = W1.heap.size := rfl
  have IU : Hid (In8 U (some ⟨W1.heap.size, 0, none⟩) NN c (toI (r.take NN))) := by
    rw [hg1] at hI
    exact hI.same (Nat.le_of_eq hU.size.symm) (fun ad ha _ => by cases ha; exact hU.other _ (by show W1.heap.size ≠ w.heap.size; omega))
  have HSU : Hid (Dg U w.heap.size SL) := SU
  have hgw : w.heap.size ≤ W1.heap.size := B1.size
  have hgu : W1.heap.size < U.heap.size := by rw [hU.size, Lib.bytesWorld_size, hg1]; omega
  clear hU SU S1 S2 hB hB1 hI hc B1 D1
  go_wp2_with fail
  exact bodyPost_ret (results_TDT rfl _ _ w.heap.size SL rfl HSU.out) rfl ⟨W1.heap.size, c, by rw [HSL.out]; rfl, IU.out, hgw, hgu, bU.out⟩
end Go.Proofs.YtcmjlhcpoajbkaaDoor
