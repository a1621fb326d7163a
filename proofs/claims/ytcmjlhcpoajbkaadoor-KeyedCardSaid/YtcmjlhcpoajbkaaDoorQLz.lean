import Derived.Test.YtcmjlhcpoajbkaaDoorQFi
import Derived.Test.YtcmjlhcpoajbkaaDoorQBw
import Derived.Test.YtcmjlhcpoajbkaaDoorQEs
import Derived.RangeFuncNested
import Derived.RangeFuncBound
import Derived.RangeFuncCalls
import Derived.RangeFuncLeaves
import Derived.Shelf.Abstract
import Derived.Shelf.RegionOpen
import Derived.WalkKit
import Derived.OwnWalkIn
import Derived.TacticsInMore
import Derived.LoopNIn
import Derived.LoopIn
import Derived.TacticsIn
import Derived.OrdersIn
import Derived.Test.YtcmjlhcpoajbkaaDoorQReg
import Derived.Test.YtcmjlhcpoajbkaaDoorQCat
namespace Go.Proofs.YtcmjlhcpoajbkaaDoor
set_option maxRecDepth 10000
set_option linter.unusedSimpArgs false
open Go.RowKit
theorem wpOp_copy {P : Program} {ops : Array Oper} {Q : Exit → Act → World → Prop} {i : Nat} {o : Oper} {K : Act → World → Prop} {a : Act} {w w' : World} {v : Value} (hi : ops[i]? = some o) (hg : o.guard = none) (s x : Operand) (t t' : TypeId)
    (ho : o.op = .call { callee := .builtin .copy, args := #[s, x], argTypes := #[t, t'] }) (vs vx : Value) (hs : a.eval s = vs) (hx : a.eval x = vx)
    (hr : (Builtin.copy_ #[t, t'] o.type #[vs, vx]).run P w = .ok v w') (h : K (a.put o.dst v) w') : wpOp P ops Q i K a w := by
  refine wpOp_val (v := v) (w' := w') hi hg ?_ h
  unfold execOp
  simp only [ho, resolve, invoke, builtin, Sem.run_bind, Sem.run_pure, Result.andThen_ok, List.map_toArray, List.map_cons, List.map_nil, hs, hx, hr]
/-- []byte of a string: in new memory. -/
theorem bytes_new (w : World) (f : List UInt8) (hf : f.length ≤ 1000) : ∃ c, (convert 9 22 (.string ⟨f.toArray⟩)).run Tryd.prog w = .ok (.slice (some ⟨w.heap.size, 0, none⟩) f.length c) (Lib.bytesWorld w 5 ⟨f.toArray⟩) ∧ In8 (Lib.bytesWorld w 5 ⟨f.toArray⟩) (some ⟨w.heap.size, 0, none⟩) f.length c (toI f) ∧ Below w.heap.size w (Lib.bytesWorld w 5 ⟨f.toArray⟩) := by
  have hsz : (ByteArray.mk f.toArray).size = f.length := by show f.toArray.size = _; simp
  have h := Lib.run_convert_string_bytes (P := Tryd.prog) w 9 22 5 ⟨f.toArray⟩ Tryd.underlying9 Tryd.underlying22 Tryd.underlying5
  rw [hsz] at h
  have h1 := grownCap_ge w f.length 0 5
  have h2 := grownCap_le_maxLen w f.length 0 5 (by unfold maxLen; omega)
  refine ⟨_, h, ⟨toI_len f, toI_bytes f, h1, by unfold maxLen at h2; omega, by omega, fun _ => ⟨w.heap.size, 0, rfl, by rw [Lib.bytesWorld_size]; omega, fun j hj => ?_⟩⟩, ⟨rfl, rfl, rfl, by rw [Lib.bytesWorld_size]; omega, fun k hk => Lib.bytesWorld_at_old w 5 _ k hk⟩⟩
  rw [toI_len] at hj
  rw [Nat.zero_add, Lib.bytesWorld_cell w 5 _ j (by rw [hsz]; exact hj), toI_get f j hj]
  simp [List.getD, hj]
set_option maxHeartbeats 8000000 in
theorem first_ok (f : List UInt8) (NN : Nat) (r : List UInt8) (hNN : numN (f.take 4) = NN) (hr : f.drop 4 = r) (a : Nat) (w : World) (h : 4 ≤ f.length) (hL : NN ≤ 300) (ha : a < 64) (hS : 4 + NN + 32 ≤ f.length) :
    Calls Tryd.prog 78 #[.string ⟨f.toArray⟩, .int .i64 a] w fun e w' => ∃ g c, e = .returned (.tuple #[.slice (some ⟨g, 0, none⟩) NN c, .agg (A8 (toI ((r.drop NN).take 32))), .int .i64 0]) ∧
      In8 w' (some ⟨g, 0, none⟩) NN c (toI (r.take NN)) ∧ w.heap.size ≤ g ∧ g < w'.heap.size ∧ Below w.heap.size w w' := by
  have hb00 : Below w.heap.size w (w.alloc (.cells Z8x32 25)) := (Below.refl _ _).alloc (Nat.le_refl _) _
  have d00 : Dg (w.alloc (.cells Z8x32 25)) w.heap.size Z32 := Dg.new w _ rfl
  have hsz : (ByteArray.mk f.toArray).size = f.length := by show f.toArray.size = _; simp
  have h' : ¬ (f.length : Int) < 4 := by omega
  have s1 : ∀ W : World, (Instr.sliceAt 9 (.string ⟨f.toArray⟩) none (some (.int .i64 4)) none).run Tryd.prog W = .ok (.string ⟨(f.take 4).toArray⟩) W := fun W => str_front f 4 h W
  have s2 : ∀ W : World, (Instr.sliceAt 9 (.string ⟨f.toArray⟩) (some (.int .i64 4)) none none).run Tryd.prog W = .ok (.string ⟨r.toArray⟩) W := fun W => by have e := str_back f 4 h W; rw [hr] at e; exact e
  have hfd : r.length = f.length - 4 := by rw [← hr]; simp
  have hdl : (ByteArray.mk r.toArray).size = f.length - 4 := by show r.toArray.size = _; simp [hfd]
  have hL' : ¬ (300 : Int) < NN := by omega
  have ha' : ¬ (64 : Int) ≤ a := by omega
  have hS' : ¬ ((f.length - 4 : Nat) : Int) < (NN : Int) + 32 := by omega
  have hcv : IntKind.i64.wrap (NN : Int) = NN := i64_wrap _ (by omega) (by omega)
  go_enter Tryd.func78, Tryd.ntmps78
  go_wp2_with fail
  have hb0 : Below w.heap.size w (w.alloc (.cells Z8x32 25)).drew := hb00.drew
  have d0 : Dg (w.alloc (.cells Z8x32 25)).drew w.heap.size Z32 := ⟨d00.len, d00.here⟩
  refine wp_region_noPanic ?_
  refine wp_region_held (S := fun _ => True) follows ?_
  refine wpAnyH_take (i := 0) (v := .string ⟨f.toArray⟩) rfl (by kernel_rfl) (by kernel_rfl) (by kernel_rfl) (fun _ _ _ h => h) (.inl ⟨rfl, fun W _ => by go_simp⟩) trivial ?_
  simp only [Act.put, List.getElem_toArray, List.getElem_cons_zero, List.getElem_cons_succ, List.setIfInBounds_toArray, List.set_cons_zero, List.set_cons_succ]
  refine wpAnyH_take (i := 3) (v := .string ⟨f.toArray⟩) rfl (by kernel_rfl) (by kernel_rfl) (by kernel_rfl) (fun _ _ _ h => h) (.inl ⟨rfl, fun W _ => by go_simp⟩) trivial ?_
  simp only [Act.put, List.getElem_toArray, List.getElem_cons_zero, List.getElem_cons_succ, List.setIfInBounds_toArray, List.set_cons_zero, List.set_cons_succ]
  refine wpAnyH_take (i := 1) (v := .string ⟨(f.take 4).toArray⟩) rfl (by kernel_rfl) (by kernel_rfl) (by kernel_rfl) (fun _ _ _ h => h) (.inl ⟨rfl, fun W _ => by have e := s1 W; go_simp⟩) trivial ?_
  simp only [Act.put, List.getElem_toArray, List.getElem_cons_zero, List.getElem_cons_succ, List.setIfInBounds_toArray, List.set_cons_zero, List.set_cons_succ]
  refine wpAnyH_take (i := 4) (v := .string ⟨r.toArray⟩) rfl (by kernel_rfl) (by kernel_rfl) (by kernel_rfl) (fun _ _ _ h => h) (.inl ⟨rfl, fun W _ => by have e := s2 W; go_simp⟩) trivial ?_
  simp only [Act.put, List.getElem_toArray, List.getElem_cons_zero, List.getElem_cons_succ, List.setIfInBounds_toArray, List.set_cons_zero, List.set_cons_succ]
  refine relist #[true, true, false, true, true, false, false] (by kernel_rfl) ?_
  refine any_one (i := 2) (by kernel_rfl) ?_
  refine wpOp_call (f := 104) (args := #[.string ⟨(f.take 4).toArray⟩]) rfl rfl (by go_simp) ?_
  refine (number_any (f.take 4) (by rw [List.length_take]; omega) _).mono ?_
  rintro e W ⟨rfl, hW⟩
  rw [hNN]
  subst hW
  refine ⟨_, rfl, trivial, ?_⟩
  simp only [Act.put, List.getElem_toArray, List.getElem_cons_zero, List.getElem_cons_succ, List.setIfInBounds_toArray, List.set_cons_zero, List.set_cons_succ]
  refine wpAnyH_take (i := 5) (v := .int .u64 NN) rfl (by kernel_rfl) (by kernel_rfl) (by kernel_rfl) (fun _ _ _ h => h) (.inl ⟨rfl, fun W _ => by go_simp⟩) trivial ?_
  simp only [Act.put, List.getElem_toArray, List.getElem_cons_zero, List.getElem_cons_succ, List.setIfInBounds_toArray, List.set_cons_zero, List.set_cons_succ]
  refine wpAnyH_take (i := 6) (v := .string ⟨r.toArray⟩) rfl (by kernel_rfl) (by kernel_rfl) (by kernel_rfl) (fun _ _ _ h => h) (.inl ⟨rfl, fun W _ => by go_simp⟩) trivial ?_
  simp only [Act.put, List.getElem_toArray, List.getElem_cons_zero, List.getElem_cons_succ, List.setIfInBounds_toArray, List.set_cons_zero, List.set_cons_succ]
  refine wpAnyH_done (by kernel_rfl) ?_ _
  refine NoPanic.normal ?_
  clear s1 s2 d00 hb00
  have s3 : ∀ W : World, (Instr.sliceAt 9 (.string ⟨r.toArray⟩) (some (.int .i64 (NN : Int))) none none).run Tryd.prog W = .ok (.string ⟨(r.drop NN).toArray⟩) W := fun W => str_back r NN (by omega) W
  have s4 : ∀ W : World, (Instr.sliceAt 9 (.string ⟨r.toArray⟩) none (some (.int .i64 (NN : Int))) none).run Tryd.prog W = .ok (.string ⟨(r.take NN).toArray⟩) W := fun W => str_front r NN (by omega) W
  have d0d : Dg (w.alloc (.cells Z8x32 25)).drew.drew w.heap.size Z32 := ⟨d0.len, d0.here⟩
  obtain ⟨W1, hr1, hW1⟩ := copy32 (w.alloc (.cells Z8x32 25)).drew.drew w.heap.size (r.drop NN) (by rw [List.length_drop]; omega) Z32 d0d
  go_wp2_with fail
  refine wp_region_noPanic ?_
  refine wp_region_held (S := fun _ => True) follows ?_
  refine wpAnyH_take (i := 0) (v := .slice (some ⟨w.heap.size, 0, none⟩) 32 32) rfl (by kernel_rfl) (by kernel_rfl) (by kernel_rfl) (fun _ _ _ h => h) (.inl ⟨rfl, fun W _ => by go_simp⟩) trivial ?_
  simp only [Act.put, List.getElem_toArray, List.getElem_cons_zero, List.getElem_cons_succ, List.setIfInBounds_toArray, List.set_cons_zero, List.set_cons_succ]
  refine wpAnyH_take (i := 1) (v := .string ⟨r.toArray⟩) rfl (by kernel_rfl) (by kernel_rfl) (by kernel_rfl) (fun _ _ _ h => h) (.inl ⟨rfl, fun W _ => by go_simp⟩) trivial ?_
  simp only [Act.put, List.getElem_toArray, List.getElem_cons_zero, List.getElem_cons_succ, List.setIfInBounds_toArray, List.set_cons_zero, List.set_cons_succ]
  refine wpAnyH_take (i := 2) (v := .int .i64 NN) rfl (by kernel_rfl) (by kernel_rfl) (by kernel_rfl) (fun _ _ _ h => h) (.inl ⟨rfl, fun W _ => by go_simp⟩) trivial ?_
  simp only [Act.put, List.getElem_toArray, List.getElem_cons_zero, List.getElem_cons_succ, List.setIfInBounds_toArray, List.set_cons_zero, List.set_cons_succ]
  refine wpAnyH_take (i := 3) (v := .string ⟨(r.drop NN).toArray⟩) rfl (by kernel_rfl) (by kernel_rfl) (by kernel_rfl) (fun _ _ _ h => h) (.inl ⟨rfl, fun W _ => by have e := s3 W; go_simp⟩) trivial ?_
  simp only [Act.put, List.getElem_toArray, List.getElem_cons_zero, List.getElem_cons_succ, List.setIfInBounds_toArray, List.set_cons_zero, List.set_cons_succ]
  refine relist #[true, true, true, true, false] (by kernel_rfl) ?_
  refine any_one (i := 4) (by kernel_rfl) ?_
  refine wpOp_copy rfl rfl (.tmp 34) (.tmp 37) 22 9 rfl _ _ rfl rfl hr1 ?_
  refine ⟨trivial, ?_⟩
  simp only [Act.put, List.getElem_toArray, List.getElem_cons_zero, List.getElem_cons_succ, List.setIfInBounds_toArray, List.set_cons_zero, List.set_cons_succ]
  refine wpAnyH_done (by kernel_rfl) ?_ _
  refine NoPanic.normal ?_
  have hsl : (toI ((r.drop NN).take 32)).length = 32 := by rw [toI_len, List.length_take, List.length_drop]; omega
  have D1 : Dg W1 w.heap.size (toI ((r.drop NN).take 32)) := hW1.dg hsl
  have B1 : Below w.heap.size w W1 := hW1.below _ _ (Nat.le_refl _) hb0.drew
  have hq1 := D1.lt
  clear hr1 hW1 d0d d0 s3
  obtain ⟨SL, hSL⟩ : ∃ SL, toI ((r.drop NN).take 32) = SL := ⟨_, rfl⟩
  have HSL : Hid (toI ((r.drop NN).take 32) = SL) := hSL
  rw [hSL] at hsl D1
  clear hSL
  have htl : (r.take NN).length = NN := by rw [List.length_take]; omega
  have S1 : Dg W1.drew w.heap.size SL := ⟨D1.len, D1.here⟩
  obtain ⟨c, hc, hI, hB⟩ := bytes_new W1.drew (r.take NN) (by omega)
  rw [htl] at hc hI
  have hB1 : Below w.heap.size w (Lib.bytesWorld W1.drew 5 ⟨(r.take NN).toArray⟩) := B1.drew.trans (hB.mono B1.size)
  have S2 : Dg (Lib.bytesWorld W1.drew 5 ⟨(r.take NN).toArray⟩) w.heap.size SL := S1.next hB
  go_wp2_with fail
  refine wp_region_noPanic ?_
  refine wp_region_held (S := fun W => Dg W w.heap.size SL) follows ?_
  refine wpAnyH_take (i := 0) (v := .string ⟨r.toArray⟩) rfl (by kernel_rfl) (by kernel_rfl) (by kernel_rfl) (fun _ _ _ h => h) (.inl ⟨rfl, fun W _ => by go_simp⟩) S1 ?_
  simp only [Act.put, List.getElem_toArray, List.getElem_cons_zero, List.getElem_cons_succ, List.setIfInBounds_toArray, List.set_cons_zero, List.set_cons_succ]
  refine wpAnyH_take (i := 1) (v := .int .i64 NN) rfl (by kernel_rfl) (by kernel_rfl) (by kernel_rfl) (fun _ _ _ h => h) (.inl ⟨rfl, fun W _ => by go_simp⟩) S1 ?_
  simp only [Act.put, List.getElem_toArray, List.getElem_cons_zero, List.getElem_cons_succ, List.setIfInBounds_toArray, List.set_cons_zero, List.set_cons_succ]
  refine wpAnyH_take (i := 2) (v := .string ⟨(r.take NN).toArray⟩) rfl (by kernel_rfl) (by kernel_rfl) (by kernel_rfl) (fun _ _ _ h => h) (.inl ⟨rfl, fun W _ => by have e := s4 W; go_simp⟩) S1 ?_
  simp only [Act.put, List.getElem_toArray, List.getElem_cons_zero, List.getElem_cons_succ, List.setIfInBounds_toArray, List.set_cons_zero, List.set_cons_succ]
  refine wpAnyH_take (i := 4) (v := .agg (A8 SL)) rfl (by kernel_rfl) (by kernel_rfl) (by kernel_rfl) (fun _ _ _ h => h) (yields_D rfl (.tmp 5) rfl w.heap.size rfl SL hsl (fun W hW => hW)) S1 ?_
  simp only [Act.put, List.getElem_toArray, List.getElem_cons_zero, List.getElem_cons_succ, List.setIfInBounds_toArray, List.set_cons_zero, List.set_cons_succ]
  refine relist #[true, true, true, false, true, false, false, false] (by kernel_rfl) ?_
  refine any_one (i := 3) (by kernel_rfl) ?_
  refine wpOp_val (v := .slice (some ⟨W1.drew.heap.size, 0, none⟩) NN c) (w' := Lib.bytesWorld W1.drew 5 ⟨(r.take NN).toArray⟩) rfl rfl (by have e := hc; go_simp) ?_
  refine ⟨S2, ?_⟩
  simp only [Act.put, List.getElem_toArray, List.getElem_cons_zero, List.getElem_cons_succ, List.setIfInBounds_toArray, List.set_cons_zero, List.set_cons_succ]
  refine wpAnyH_take (i := 5) (v := .slice (some ⟨W1.drew.heap.size, 0, none⟩) NN c) rfl (by kernel_rfl) (by kernel_rfl) (by kernel_rfl) (fun _ _ _ h => h) (.inl ⟨rfl, fun W _ => by go_simp⟩) S2 ?_
  simp only [Act.put, List.getElem_toArray, List.getElem_cons_zero, List.getElem_cons_succ, List.setIfInBounds_toArray, List.set_cons_zero, List.set_cons_succ]
  refine relist #[true, true, true, true, true, true, false, false] (by kernel_rfl) ?_
  refine any_one (i := 6) (by kernel_rfl) ?_
  refine wpOp_store_D rfl rfl (.tmp 5) (.tmp 43) rfl w.heap.size SL rfl rfl SL S2 hsl ?_
  intro U hU
  have SU : Dg U w.heap.size SL := hU.dg hsl
  refine ⟨SU, ?_⟩
  simp only [Act.put, List.getElem_toArray, List.getElem_cons_zero, List.getElem_cons_succ, List.setIfInBounds_toArray, List.set_cons_zero, List.set_cons_succ]
  refine wpAnyH_take (i := 7) (v := .int .i64 0) rfl (by kernel_rfl) (by kernel_rfl) (by kernel_rfl) (fun _ _ _ h => h) (.inl ⟨rfl, fun W _ => by go_simp⟩) SU ?_
  simp only [Act.put, List.getElem_toArray, List.getElem_cons_zero, List.getElem_cons_succ, List.setIfInBounds_toArray, List.set_cons_zero, List.set_cons_succ]
  refine wpAnyH_done (by kernel_rfl) ?_ _
  refine NoPanic.normal ?_
  have bU : Hid (Below w.heap.size w U) := hU.below _ _ (Nat.le_refl _) hB1
  have hg1 : W1.drew.heap.size = W1.heap.size := rfl
  have IU : Hid (In8 U (some ⟨W1.heap.size, 0, none⟩) NN c (toI (r.take NN))) := by
    rw [hg1] at hI
    exact hI.same (Nat.le_of_eq hU.size.symm) (fun ad ha _ => by cases ha; exact hU.other _ (by show W1.heap.size ≠ w.heap.size; omega))
  have HSU : Hid (Dg U w.heap.size SL) := SU
  have hgw : w.heap.size ≤ W1.heap.size := B1.size
  have hgu : W1.heap.size < U.heap.size := by rw [hU.size, Lib.bytesWorld_size, hg1]; omega
  clear hU SU S1 S2 hB hB1 hI hc B1 D1
  go_wp2_with fail
  exact bodyPost_ret (results_TDT rfl _ _ w.heap.size SL rfl HSU.out) rfl ⟨W1.heap.size, c, by rw [HSL.out]; rfl, IU.out, hgw, hgu, bU.out⟩
end Go.Proofs.YtcmjlhcpoajbkaaDoor
namespace Go.Proofs.YtcmjlhcpoajbkaaDoor
set_option maxRecDepth 10000
set_option linter.unusedSimpArgs false
open Go.RowKit
/-- The length that the first four bytes tell, the entry, and the 32 bytes behind it. -/
def lenN (f : List UInt8) : Nat := numN (f.take 4)
def entN (f : List UInt8) : List Int := toI ((f.drop 4).take (lenN f))
def tagN (f : List UInt8) : List Int := toI (((f.drop 4).drop (lenN f)).take 32)
/-- The error at the first entry of what is left. -/
def errN (f : List UInt8) (a : Nat) : Int := if f.length < 4 then 3 else if 300 < lenN f ∨ 64 ≤ a then 2 else if f.length < 4 + lenN f + 32 then 3 else 0
theorem first_any (f : List UInt8) (a : Nat) (w : World) :
    Calls Tryd.prog 78 #[.string ⟨f.toArray⟩, .int .i64 a] w fun e w' => ∃ p n c SL, e = .returned (.tuple #[.slice p n c, .agg (A8 SL), .int .i64 (errN f a)]) ∧ SL.length = 32 ∧ Bytes SL ∧ Below w.heap.size w w' ∧
      (errN f a = 0 → SL = tagN f ∧ n = lenN f ∧ n ≤ 300 ∧ ∃ g, p = some ⟨g, 0, none⟩ ∧ w.heap.size ≤ g ∧ g < w'.heap.size ∧ In8 w' p n c (entN f)) := by
  by_cases h1 : f.length < 4
  · have e : errN f a = 3 := by unfold errN; rw [if_pos h1]
    rw [e]
    exact (first_short f a w h1).mono fun ex w' ⟨h, b⟩ => ⟨_, _, _, Z32, h, rfl, Z32_bytes, b, fun h => absurd h (by decide)⟩
  · by_cases h2 : 300 < lenN f
    · have e : errN f a = 2 := by unfold errN; rw [if_neg h1, if_pos (.inl h2)]
      rw [e]
      exact (first_long f a w (by omega) h2).mono fun ex w' ⟨h, b⟩ => ⟨_, _, _, Z32, h, rfl, Z32_bytes, b, fun h => absurd h (by decide)⟩
    · by_cases h3 : 64 ≤ a
      · have e : errN f a = 2 := by unfold errN; rw [if_neg h1, if_pos (.inr h3)]
        rw [e]
        exact (first_many f a w (by omega) (by unfold lenN at h2; omega) h3).mono fun ex w' ⟨h, b⟩ => ⟨_, _, _, Z32, h, rfl, Z32_bytes, b, fun h => absurd h (by decide)⟩
      · by_cases h4 : f.length < 4 + lenN f + 32
        · have e : errN f a = 3 := by unfold errN; rw [if_neg h1, if_neg (by omega), if_pos h4]
          rw [e]
          exact (first_torn f a w (by omega) (by unfold lenN at h2; omega) (by omega) (by unfold lenN at h4; omega)).mono fun ex w' ⟨h, b⟩ => ⟨_, _, _, Z32, h, rfl, Z32_bytes, b, fun h => absurd h (by decide)⟩
        · have e : errN f a = 0 := by unfold errN; rw [if_neg h1, if_neg (by omega), if_neg h4]
          rw [e]
          refine (first_ok f (lenN f) (f.drop 4) rfl rfl a w (by omega) (by omega) (by omega) (by omega)).mono ?_
          rintro ex w' ⟨g, c, h, hi, hg, hgu, b⟩
          have hsl : (tagN f).length = 32 := by unfold tagN; rw [toI_len, List.length_take, List.length_drop, List.length_drop]; omega
          exact ⟨_, _, c, tagN f, h, hsl, toI_bytes _, b, fun _ => ⟨rfl, rfl, by omega, g, rfl, hg, hgu, hi⟩⟩
/-- What Load tells: the entries, the error, the place. -/
def loadF (key : List Int) (f : List UInt8) : Nat → Nat → List (List Int) → List Int → List (List Int) × Int × Nat
  | 0, p, es, _ => (es, 0, p)
  | k + 1, p, es, s =>
    if f.length ≤ p then (es, 0, p)
    else if errN (f.drop p) es.length ≠ 0 then (es, errN (f.drop p) es.length, p)
    else if tagN (f.drop p) ≠ sealP key s (entN (f.drop p)) then (es, 4, p)
    else loadF key f k (p + (4 + lenN (f.drop p) + 32)) (es ++ [entN (f.drop p)]) (sealP key s (entN (f.drop p)))
def loadP (key : List Int) (f : List UInt8) : List (List Int) × Int × Nat := loadF key f (f.length + 1) 0 [] Z32
theorem errN_zero (f : List UInt8) (a : Nat) (h : errN f a = 0) : 4 + lenN f + 32 ≤ f.length ∧ lenN f ≤ 300 ∧ a < 64 := by
  unfold errN at h
  split at h
  · cases h
  · split at h
    · cases h
    · split at h
      · cases h
      · omega
theorem log_dg {w : World} {B g k : Nat} {ev : Value} {key : List Int} {es : List (List Int)} {D : List Int} (h : LogAt w B g ev key es) (hd : Dg w k D) : k ≠ g ∧ ev.ownBlock ≠ some k := by
  constructor
  · rintro rfl
    obtain ⟨kp, kn, kc, h1, _⟩ := h.blk
    rw [hd.here] at h1
    simp only [Option.some.injEq, Obj.cells.injEq] at h1
    exact absurd h1.2.1 (by decide)
  · intro he
    obtain ⟨vs, ⟨_, ⟨rfl, _⟩ | ⟨r, cap, cur, rfl, _, hh, _⟩⟩, _⟩ := h.own
    · cases he
    · simp only [Value.ownBlock, Option.some.injEq] at he
      subst he
      rw [hd.here] at hh
      simp only [Option.some.injEq, Obj.cells.injEq] at hh
      exact absurd hh.2.1 (by decide)
end Go.Proofs.YtcmjlhcpoajbkaaDoor
namespace Go.Proofs.YtcmjlhcpoajbkaaDoor
set_option maxRecDepth 10000
set_option linter.unusedSimpArgs false
open Go.RowKit
set_option maxHeartbeats 2000000 in
theorem logPath_any (w : World) (g : Nat) (key : List Int) (es : List (List Int)) (i n : Int) (hT : Tabs KS HS w) (hL : LogR w g key es) :
    Calls Tryd.prog 47 #[.pointer (some ⟨g, 0, none⟩), .int .i64 i, .int .i64 n] w fun e w' => ∃ v, e = .returned (.tuple #[v, .int .i64 (pathOut i n es).2]) ∧ Own w' w.heap.size v (pathOut i n es).1 ∧ Below w.heap.size w w' := by
  obtain ⟨_, ⟨ep, ec, hc, hE, hnil⟩, hfew⟩ := hL
  have hf := hE.fits
  have HE : Hid (E22 w ep es.length ec es) := hE
  clear hE
  by_cases h1 : (es.length : Int) < n
  · have HX : Hid (pathOut i n es = ([], 1)) := by
      show pathOut i n es = _
      unfold pathOut; rw [if_pos (.inl h1)]
    go_enter Tryd.func47, Tryd.ntmps47
    go_wp2_with fail
    go_ret2
    exact ⟨_, by rw [HX.out]; rfl, by rw [HX.out]; exact ⟨rfl, .inl ⟨rfl, rfl⟩⟩, Below.refl _ _⟩
  · by_cases h2 : 0 ≤ i ∧ i < n
    · have hin : (decide (0 ≤ i) && decide (i < n)) = true := by simp [h2.1, h2.2]
      obtain ⟨a, rfl⟩ : ∃ a : Nat, i = a := ⟨i.toNat, by omega⟩
      obtain ⟨b, rfl⟩ : ∃ b : Nat, n = b := ⟨n.toNat, by omega⟩
      have HX : Hid (pathOut a b es = (pathP a (es.take b), 0)) := by
        show pathOut a b es = _
        unfold pathOut; rw [if_neg (by omega), Int.toNat_natCast, Int.toNat_natCast]
      have hsl := fun W => eslice_nil ep es.length ec b (by omega) hf hnil W
      go_enter Tryd.func47, Tryd.ntmps47
      go_wp2_with fail
      refine (isIn_any _ _ _).mono ?_
      rintro ex w0 ⟨rfl, rfl⟩
      rw [hin]
      go_wp2_with fail
      refine (path_any b a ep ec (es.take b) w0 hT (HE.out.front b (by omega)) (by omega) (by omega)).mono ?_
      rintro e w1 ⟨v, rfl, hO, b1⟩
      have HO : Hid (Own w1 w0.heap.size v (pathP a (es.take b))) := hO
      clear hO hsl hc
      go_wp2_with fail
      go_ret2
      exact ⟨_, by rw [HX.out]; rfl, by rw [HX.out]; exact HO.out, b1⟩
    · have hin : (decide (0 ≤ i) && decide (i < n)) = false := by
        cases hd : (decide (0 ≤ i) && decide (i < n)) with
        | false => rfl
        | true => simp at hd; exact absurd hd h2
      have HX : Hid (pathOut i n es = ([], 1)) := by
        show pathOut i n es = _
        unfold pathOut; rw [if_pos (.inr h2)]
      go_enter Tryd.func47, Tryd.ntmps47
      go_wp2_with fail
      refine (isIn_any _ _ _).mono ?_
      rintro ex w0 ⟨rfl, rfl⟩
      rw [hin]
      go_wp2_with fail
      go_ret2
      exact ⟨_, by rw [HX.out]; rfl, by rw [HX.out]; exact ⟨rfl, .inl ⟨rfl, rfl⟩⟩, Below.refl _ _⟩
/-- The i-th entry of a log that was made. -/
def entryP (es : List (List Int)) (i : Nat) : List Int := if i < es.length ∧ i < 40 then (es.getD i []).take 300 else END
theorem entryP_made (es : List (List Int)) (i : Nat) (h : i < (madeP es).length) : (madeP es).getD i [] = entryP es i := by
  rw [madeP_len] at h
  unfold entryP madeP
  have hc := cutP_len es
  rw [List.getD_eq_getElem?_getD]
  by_cases h1 : i < es.length ∧ i < 40
  · rw [if_pos h1, List.getElem?_append_left (by omega)]
    unfold cutP
    rw [List.getElem?_map, List.getElem?_take, if_pos h1.2, List.getElem?_eq_getElem h1.1, List.getD_eq_getElem?_getD, List.getElem?_eq_getElem h1.1]
    rfl
  · rw [if_neg h1, List.getElem?_append_right (by omega), hc, show i - min 40 es.length = 0 by omega]
    rfl
set_option maxHeartbeats 2000000 in
theorem entry_any (w : World) (p : Option Addr) (n c : Nat) (es : List (List Int)) (he : EN w p n c es) (i : Nat) (hi : i ≤ 1000) :
    Calls Tryd.prog 45 #[.slice p n c, .int .i64 i] w fun e w' => ∃ q m d, e = .returned (.slice q m d) ∧ In8 w' q m d (entryP es i) ∧ m ≤ 300 ∧ Below w.heap.size w w' := by
  have hn := he.len
  have hf := he.fits
  have hr := he.room
  have hcv := Lib.run_convert_bytes_const (P := Tryd.prog) w 22 5 #[.int .u8 101, .int .u8 110, .int .u8 100] 3 3 Tryd.underlying22 Tryd.underlying5
  have h3 := heapN w (.cells #[.int .u8 101, .int .u8 110, .int .u8 100] 5 (3, 4)) _ rfl
  have hI3 : Hid (In8 (w.alloc (.cells #[.int .u8 101, .int .u8 110, .int .u8 100] 5 (3, 4))) (some ⟨w.heap.size, 0, none⟩) 3 3 END) := in8_lit _ _ _ _ END END_bytes (by simp [END]) h3
  have b3 : Hid (Below w.heap.size w (w.alloc (.cells #[.int .u8 101, .int .u8 110, .int .u8 100] 5 (3, 4)))) := (Below.refl _ _).alloc (Nat.le_refl _) _
  by_cases h1 : i < n
  · by_cases h2 : i < 40
    · have HX : Hid (entryP es i = (es.getD i []).take 300) := by show _ = _; unfold entryP; rw [if_pos ⟨by omega, h2⟩]
      obtain ⟨b, o, rfl, hbl, hc⟩ := he.lies (by omega)
      obtain ⟨q, qn, qc, hcell, hq⟩ := hc i h1
      have HQ : Hid (In8 w q qn qc (es.getD i [])) := hq
      have hix : ∀ W : World, (Instr.indexAt 47 (.slice (some ⟨b, o, none⟩) n c) (.int .i64 i)).run Tryd.prog W = .ok (.pointer (some ⟨b, o + i, none⟩)) W := fun W => eindex_at b o n c i h1 W
      clear hc hq hcv h3 hI3 b3
      go_enter Tryd.func45, Tryd.ntmps45
      go_wp2_with fail
      refine (short_any w q qn qc 300 _ HQ.out (by omega)).mono ?_
      rintro e w2 ⟨r, rfl, hr3, hq1, rfl⟩
      have HQ1 : Hid _ := hq1
      clear hq1
      go_wp2_with fail
      go_ret
      exact ⟨q, r, qc, rfl, by rw [HX.out]; exact HQ1.out, hr3, Below.refl _ _⟩
    · have HX : Hid (entryP es i = END) := by show _ = _; unfold entryP; rw [if_neg (by omega)]
      go_enter Tryd.func45, Tryd.ntmps45
      go_wp2_with fail
      go_ret
      exact ⟨_, 3, 3, rfl, by rw [HX.out]; exact hI3.out, by omega, b3.out⟩
  · have HX : Hid (entryP es i = END) := by show _ = _; unfold entryP; rw [if_neg (by omega)]
    go_enter Tryd.func45, Tryd.ntmps45
    go_wp2_with fail
    go_ret
    exact ⟨_, 3, 3, rfl, by rw [HX.out]; exact hI3.out, by omega, b3.out⟩
end Go.Proofs.YtcmjlhcpoajbkaaDoor
namespace Go.Proofs.YtcmjlhcpoajbkaaDoor
set_option maxRecDepth 10000
set_option linter.unusedSimpArgs false
open Go.RowKit
theorem wpList_neq {ops : Array Oper} {rest : List Oper} {o : Oper} {a : Act} {w : World} {Q : Exit → Act → World → Prop} (hw : Region.wanted o (yielded ops a.tmps) = true) (x y : Operand) (ho : o.op = .binOp .neq 25 x y 25) (D E : List Int) (hl : D.length = 32) (hb : Bytes D) (hl' : E.length = 32) (hb' : Bytes E)
    (hx : a.eval x = .agg (A8 D)) (hy : a.eval y = .agg (A8 E)) (h : wpList Tryd.prog ops Q rest (a.put o.dst (.bool (!decide (D = E)))) w) : wpList Tryd.prog ops Q (o :: rest) a w := by
  have e := neq_D D E hl hb hl' hb' w
  have g := run_eqGuard_agg (P := Tryd.prog) w .neq 25 x y (A8 D) (A8 E) (by kernel_rfl)
  refine wpList_w hw fun _ hK => ?_
  unfold Oper.wp execOp
  simp only [ho, hx, hy, Sem.run_bind, g, e, Result.andThen_ok, Sem.run_pure]
  exact hK _ _ h
end Go.Proofs.YtcmjlhcpoajbkaaDoor
namespace Go.Proofs.YtcmjlhcpoajbkaaDoor
set_option maxRecDepth 10000
set_option linter.unusedSimpArgs false
open Go.RowKit
/-- A log, with what is its own, of which nothing lies in the block j. -/
structure LogZ (w : World) (B g : Nat) (ev : Value) (key : List Int) (es : List (List Int)) (j : Nat) : Prop where
  blk : ∃ kp kn kc, w.heap[g]? = some (.cells #[.slice kp kn kc, ev] 116) ∧ In8 w kp kn kc key ∧ ∀ ad, kp = some ad → B ≤ ad.block ∧ ad.block < w.heap.size ∧ ad.block ≠ g ∧ ev.ownBlock ≠ some ad.block ∧ ad.block ≠ j
  base : B ≤ g
  apart : ev.ownBlock ≠ some g
  own : ∃ vs, w.ownsRow B 22 1 ev es.length vs ∧ ∀ i, i < es.length → ∃ p n c, vs[i]? = some (.slice p n c) ∧ In8 w p n c (es.getD i []) ∧ n ≤ 300 ∧ ∀ ad, p = some ad → B ≤ ad.block ∧ ad.block < w.heap.size ∧ ad.block ≠ g ∧ ev.ownBlock ≠ some ad.block ∧ ad.block ≠ j
  few : es.length ≤ 64
  farg : g ≠ j
  farr : ev.ownBlock ≠ some j
theorem LogZ.log {w : World} {B g j : Nat} {ev : Value} {key : List Int} {es : List (List Int)} (h : LogZ w B g ev key es j) : LogAt w B g ev key es := by
  obtain ⟨kp, kn, kc, h1, h2, h3⟩ := h.blk
  obtain ⟨vs, h4, h5⟩ := h.own
  exact ⟨⟨kp, kn, kc, h1, h2, fun ad ha => ⟨(h3 ad ha).1, (h3 ad ha).2.1, (h3 ad ha).2.2.1, (h3 ad ha).2.2.2.1⟩⟩, h.base, h.apart, ⟨vs, h4, fun i hi => by
    obtain ⟨p, n, c, e1, e2, e3, e4⟩ := h5 i hi
    exact ⟨p, n, c, e1, e2, e3, fun ad ha => ⟨(e4 ad ha).1, (e4 ad ha).2.1, (e4 ad ha).2.2.1, (e4 ad ha).2.2.2.1⟩⟩⟩, h.few⟩
theorem LogAt.far {w : World} {B g : Nat} {ev : Value} {key : List Int} {es : List (List Int)} (h : LogAt w B g ev key es) (j : Nat) (hj : w.heap.size ≤ j) : LogZ w B g ev key es j := by
  have hg := h.lt
  have hr := h.rowlt
  obtain ⟨kp, kn, kc, h1, h2, h3⟩ := h.blk
  obtain ⟨vs, h4, h5⟩ := h.own
  exact ⟨⟨kp, kn, kc, h1, h2, fun ad ha => ⟨(h3 ad ha).1, (h3 ad ha).2.1, (h3 ad ha).2.2.1, (h3 ad ha).2.2.2, by have := (h3 ad ha).2.1; omega⟩⟩, h.base, h.apart, ⟨vs, h4, fun i hi => by
    obtain ⟨p, n, c, e1, e2, e3, e4⟩ := h5 i hi
    exact ⟨p, n, c, e1, e2, e3, fun ad ha => ⟨(e4 ad ha).1, (e4 ad ha).2.1, (e4 ad ha).2.2.1, (e4 ad ha).2.2.2, by have := (e4 ad ha).2.1; omega⟩⟩⟩, h.few, by omega, fun e => by have := (hr j e).2; omega⟩
theorem LogZ.kp {X : Nat → Prop} {w w' : World} {B g j : Nat} {ev : Value} {key : List Int} {es : List (List Int)} (h : LogZ w B g ev key es j) (hk : Kp X w w') (hX : ∀ k, X k → k < B ∨ k = j) : LogZ w' B g ev key es j := by
  have hsame : ∀ k, B ≤ k → k ≠ j → k < w.heap.size → w'.heap[k]? = w.heap[k]? := fun k h1 h0 h2 => hk.block k h2 (fun hx => by have := hX k hx; omega)
  have hlt := h.log.lt
  obtain ⟨kp, kn, kc, h1, h2, h3⟩ := h.blk
  obtain ⟨vs, h4, h5⟩ := h.own
  refine ⟨⟨kp, kn, kc, (hsame g h.base h.farg hlt).trans h1, h2.same hk.size (fun ad ha hl => hsame _ (h3 ad ha).1 (h3 ad ha).2.2.2.2 hl), fun ad ha => ?_⟩, h.base, h.apart, ⟨vs, ?_, fun i hi => ?_⟩, h.few, h.farg, h.farr⟩
  · obtain ⟨a, b, c, d⟩ := h3 ad ha
    exact ⟨a, Nat.lt_of_lt_of_le b hk.size, c, d⟩
  · obtain ⟨e1, e2 | ⟨r, cap, cur, hv, hr, hh, rest⟩⟩ := h4
    · exact ⟨e1, .inl e2⟩
    · exact ⟨e1, .inr ⟨r, cap, cur, hv, hr, (hsame r hr (fun e => h.farr (by rw [hv, ← e]; rfl)) (row_lt hh)).trans hh, rest⟩⟩
  · obtain ⟨p, n, c, e1, e2, e3, e4⟩ := h5 i hi
    refine ⟨p, n, c, e1, e2.same hk.size (fun ad ha hl => hsame _ (e4 ad ha).1 (e4 ad ha).2.2.2.2 hl), e3, fun ad ha => ?_⟩
    obtain ⟨a, b, c', d⟩ := e4 ad ha
    exact ⟨a, Nat.lt_of_lt_of_le b hk.size, c', d⟩
theorem LogZ.below {w w' : World} {B g j : Nat} {ev : Value} {key : List Int} {es : List (List Int)} (h : LogZ w B g ev key es j) (hb : Below w.heap.size w w') : LogZ w' B g ev key es j :=
  h.kp (kp_of hb rfl) (fun _ hx => False.elim hx)
/-- What append does to a log's entries, and the store behind it: beside the block j. -/
theorem app_worldZ (w : World) (B g : Nat) (ev : Value) (key : List Int) (es : List (List Int)) (j : Nat) (hL : LogZ w B g ev key es j) (hj : j < w.heap.size) (g1 : Nat) (p : Option Addr) (n c : Nat) (xs : List Int) (h2 : w.heap[g1]? = some (.cells #[.slice p n c] 22)) (hi : In8 w p n c xs) (hn : n ≤ 300) (hlen : es.length < 64)
    (hfr : ∀ ad, p = some ad → B ≤ ad.block ∧ ad.block < w.heap.size ∧ ad.block ≠ g ∧ ev.ownBlock ≠ some ad.block ∧ ad.block ≠ j) :
    ∃ ga cap w3, (Builtin.append_ #[47, 47] 47 #[ev, .slice (some ⟨g1, 0, none⟩) 1 1]).run Tryd.prog w = .ok (.slice (some ⟨ga, 0, none⟩) (es.length + 1) cap) w3 ∧
      w3.cell? ⟨g, 1, none⟩ = some ev ∧ w3.frozen? ⟨g, 1, none⟩ = false ∧
      LogZ (w3.setCell ⟨g, 1, none⟩ (.slice (some ⟨ga, 0, none⟩) (es.length + 1) cap)) B g (.slice (some ⟨ga, 0, none⟩) (es.length + 1) cap) key (es ++ [xs]) j ∧
      Kp (fun k => k = g ∨ ev.ownBlock = some k) w (w3.setCell ⟨g, 1, none⟩ (.slice (some ⟨ga, 0, none⟩) (es.length + 1) cap)) := by
  obtain ⟨i22, hi22, hz, hsz, hby⟩ := info22'
  have hgl := hL.log.lt
  have hcell := hL.log.cell
  obtain ⟨kp, kn, kc, hk1, hk2, hk3⟩ := hL.blk
  obtain ⟨vs, ho, hv⟩ := hL.own
  have hB : B ≤ w.heap.size := Nat.le_trans hL.base (Nat.le_of_lt hgl)
  obtain ⟨ga, cap, w3, hr, ho3, hgr, hwh, hga⟩ := run_append_lies (P := Tryd.prog) w 47 47 B 22 i22 (.slice none 0 0) 1 24 Tryd.underlying47 hi22 hz hsz hby rfl (by omega) ev es.length vs ho
    ⟨g1, 0, none⟩ 1 1 [.slice p n c] rfl (fun j u hu => by
      have e : j = 0 := by
        have := (List.getElem?_eq_some_iff.1 hu).1
        simp at this; omega
      subst e
      rw [addr_add, cell_of_row _ _ _ _ _ _ h2]
      simpa using hu) (fun u hu => by simp only [List.mem_singleton] at hu; subst hu; rfl) (by omega) (by unfold maxLen; omega) (by omega) hB _ rfl
  have hne : ga ≠ g := by
    rcases hwh with h | h
    · exact fun e => hL.apart (by rw [h, e])
    · omega
  have hnj : ga ≠ j := by
    rcases hwh with h | h
    · exact fun e => hL.farr (by rw [h, e])
    · omega
  have e3 : w3.heap[g]? = w.heap[g]? := hgr.block g hgl (fun e => hL.apart e.symm)
  have hsame : ∀ k, k < w.heap.size → k ≠ g → ev.ownBlock ≠ some k → (w3.setCell ⟨g, 1, none⟩ (.slice (some ⟨ga, 0, none⟩) (es.length + 1) cap)).heap[k]? = w.heap[k]? := fun k h1 h2 h3 => by
    rw [Below.heap_setCell _ _ _ _ h2]
    exact hgr.block k h1 (fun e => h3 e.symm)
  have hsize : w.heap.size ≤ (w3.setCell ⟨g, 1, none⟩ (.slice (some ⟨ga, 0, none⟩) (es.length + 1) cap)).heap.size := by simpa [World.setCell] using hgr.size
  have hnew : ∀ ad : Addr, ad.block < w.heap.size → ev.ownBlock ≠ some ad.block → (Value.slice (some ⟨ga, 0, none⟩) (es.length + 1) cap).ownBlock ≠ some ad.block := fun ad h1 h2 => by
    simp only [Value.ownBlock, ne_eq, Option.some.injEq]
    rcases hwh with h | h
    · exact fun e => h2 (by rw [h, e])
    · omega
  refine ⟨ga, cap, w3, hr, ?_, ?_, ⟨⟨kp, kn, kc, two_setCell (e3.trans hk1), ?_, fun ad ha => ?_⟩, hL.base, ?_, ⟨vs ++ [.slice p n c], ?_, fun i hi' => ?_⟩, ?_, hL.farg, ?_⟩, ?_⟩
  · rw [World.cell?_of_block (w := w) e3]; exact hcell
  · rw [World.frozen?_of_block (w := w) e3]; exact frozen_of_row w g 1 _ _ hk1
  · exact hk2.same hsize (fun ad ha hl => hsame _ hl (hk3 ad ha).2.2.1 (hk3 ad ha).2.2.2.1)
  · obtain ⟨a, b, c', d, f⟩ := hk3 ad ha
    exact ⟨a, Nat.lt_of_lt_of_le b hsize, c', hnew ad b d, f⟩
  · simpa [Value.ownBlock] using hne
  · rw [List.length_append]
    exact ownsRow_setCell_other ho3 (by simpa [Value.ownBlock] using hne) _
  · have hvl : vs.length = es.length := by have := ho.1; simpa using this
    rw [List.length_append, List.length_singleton] at hi'
    rcases Nat.lt_or_ge i es.length with h | h
    · obtain ⟨q, m, d, e1, e2, e4, e5⟩ := hv i h
      refine ⟨q, m, d, by rw [List.getElem?_append_left (by omega)]; exact e1, ?_, e4, fun ad ha => ?_⟩
      · have e : (es ++ [xs]).getD i [] = es.getD i [] := by simp [List.getD, List.getElem?_append_left h]
        rw [e]
        exact e2.same hsize (fun ad ha hl => hsame _ hl (e5 ad ha).2.2.1 (e5 ad ha).2.2.2.1)
      · obtain ⟨a, b, c', d', f⟩ := e5 ad ha
        exact ⟨a, Nat.lt_of_lt_of_le b hsize, c', hnew ad b d', f⟩
    · have e0 : i = es.length := by omega
      subst e0
      refine ⟨p, n, c, by rw [← hvl]; simp, ?_, hn, fun ad ha => ?_⟩
      · have e : (es ++ [xs]).getD es.length [] = xs := by simp [List.getD]
        rw [e]
        exact hi.same hsize (fun ad ha hl => hsame _ hl (hfr ad ha).2.2.1 (hfr ad ha).2.2.2.1)
      · obtain ⟨a, b, c', d', f⟩ := hfr ad ha
        exact ⟨a, Nat.lt_of_lt_of_le b hsize, c', hnew ad b d', f⟩
  · simp; omega
  · simpa [Value.ownBlock] using hnj
  · exact ⟨hgr.os, hgr.tape, hgr.output, hsize, fun k hk hx => hsame k hk (fun e => hx (.inl e)) (fun e => hx (.inr e))⟩
end Go.Proofs.YtcmjlhcpoajbkaaDoor
