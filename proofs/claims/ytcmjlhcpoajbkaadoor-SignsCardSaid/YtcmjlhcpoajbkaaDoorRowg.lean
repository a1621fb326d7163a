import Derived.Test.YtcmjlhcpoajbkaaDoorRowd
import Derived.Test.YtcmjlhcpoajbkaaDoorLs
namespace Go.Proofs.YtcmjlhcpoajbkaaDoor
set_option maxRecDepth 100000
open Go.ChangeShapes Go.WideShapes Go.ChangeAt Go.RowKit
theorem und42' : ∃ f0 f1 f2 : Field, Tryd.prog.underlying 42 = some (.struct #[f0, f1, f2]) ∧ f0.offset = 0 ∧ f1.offset = 1 ∧ f2.offset = 33 ∧ f0.type = 3 ∧ f1.type = 25 ∧ f2.type = 25 := ⟨_, _, _, Tryd.underlying42, rfl, rfl, rfl, rfl, rfl, rfl⟩
theorem cells42 : Tryd.prog.cellsOf 42 = 65 := by kernel_rfl
theorem cells3 : Tryd.prog.cellsOf 3 = 1 := by kernel_rfl
/-- A head that was read. -/
theorem head_of {H : Type} {enc : TypeId × Value → H} {W : World} {base b0 : Nat} {sp : Nat → Bool} {held : Bool} {v : Value} {d : DataW H} {p : List MemPlace}
    (hv : Value.okWide Tryd.prog W .any b0 42 v) (h : DataW.Trod enc Tryd.prog W base sp held 42 v d p) :
    ∃ n R T, v = .agg (headCells n R T) ∧ (Lit.int .i64 n).wf = true ∧ R.length = 32 ∧ Bytes R ∧ T.length = 32 ∧ Bytes T := by
  obtain ⟨f0, f1, f2, hu, o0, o1, o2, t0, t1, t2⟩ := und42'
  obtain ⟨cs, rfl, hcs⟩ := okWide_struct hu hv
  obtain ⟨fuel, hf⟩ := h
  have hc : (Value.agg cs).cells.toList = cs.toList := rfl
  obtain ⟨xs, m, _, _, hl, hxl, hget⟩ := DataW.trod_struct hu hf
  rw [hc] at hl hget
  rw [cells42] at hl
  have hx3 : xs.length = 3 := hxl
  have g0 := hget 0 f0 rfl
  have g1 := hget 1 f1 rfl
  have g2 := hget 2 f2 rfl
  rw [t0, o0, cells3, List.drop_zero, List.getElem?_eq_getElem (by omega)] at g0
  rw [t1, o1, cells25, List.getElem?_eq_getElem (by omega)] at g1
  rw [t2, o2, cells25, List.getElem?_eq_getElem (by omega)] at g2
  obtain ⟨n, hn, _, hw⟩ := DataW.trod_int Tryd.underlying3 g0
  obtain ⟨R, hRl, hRb, hR⟩ := digest_of g1
  obtain ⟨T, hTl, hTb, hT⟩ := digest_of g2
  refine ⟨n, R, T, ?_, hw, hRl, hRb, hTl, hTb⟩
  have e : cs.toList = cs.toList.take 1 ++ ((cs.toList.drop 1).take 32 ++ (cs.toList.drop 33).take 32) := by
    conv => lhs; rw [← List.take_append_drop 1 cs.toList, ← List.take_append_drop 32 (cs.toList.drop 1)]
    rw [List.drop_drop, List.take_of_length_le (l := cs.toList.drop 33) (by rw [List.length_drop]; omega)]
  congr 1
  apply Array.toList_inj.1
  rw [e, hn, hR, hT]
  simp [headCells]
theorem signs_lifted (os : Os) (started : os.Started) (H : Type) (enc : TypeId × Value → H) :
    ReturnsInHanded {} Tryd.checked os 5 .any (fun w args => (Rows.signsSpec.pre enc Tryd.prog Tryd.f5 [] false w args ∧ laidMetH Tryd.prog laid2 w) ∧ sizedMet enc Tryd.prog Tryd.f5 (OpenSpec.ofChange Rows.signsSpec) false w args)
      (Rows.signsSpec.post enc Tryd.prog Tryd.f5 false true false false) := by
  refine returnsInHanded_of_change_and (C := Tryd.checked) (X := fun w _ => laidMetH Tryd.prog laid2 w) (fun _ _ _ hh h => h.of_heap hh) own started (by kernel_rfl) Tryd.func5
    (ChangeSpec.witness_shaped (enc := enc) (C := Tryd.checked) (os := os) (X := fun w _ => laidMetH Tryd.prog laid2 w) false (World.doorLaid Tryd.prog 400 os) #[.slice none 0 0, .agg (headCells 0 Z32 Z32)] 8 rfl (World.shaped_of_RefB (by kernel_rfl) (by kernel_rfl)) (by kernel_rfl) (by kernel_rfl) (by kernel_rfl) (door_met os _)) ?_
  intro W base args ds gs before hval0 hW _ hsz0 hL _
  have hval : ∀ (j : Nat) t v, Tryd.f5.params[j]? = some t → args[j]? = some v → Value.okWide Tryd.prog W .any base t v := hval0
  have hsz : (DataW.weightsEach Tryd.prog (Tryd.f5.params.toList ++ Rows.signsSpec.plain.varTypes Tryd.prog) (ds ++ gs)).all (· ≤ reachBytes) = true := hsz0
  have hW' := hW
  obtain ⟨p, q, hA0, hV, rfl, hfz, hnd⟩ := hW
  have hA : DataW.TrodAll enc Tryd.prog W 0 (fun _ => true) true Tryd.f5.params.toList args.toList ds p := hA0
  rw [Tryd.params5] at hA hval hsz
  obtain ⟨v0, v1, d0, d1, p0, p1, rfl, rfl, rfl, h0, h1⟩ := trodAll_two hA
  obtain ⟨rfl, rfl⟩ := trodVars_none hV
  have lt0 : ∀ x ∈ p0, x.block < W.heap.size := by obtain ⟨m, hm⟩ := h0; exact DataW.trod_lt m _ _ _ hm
  have lt1 : ∀ x ∈ p1, x.block < W.heap.size := by obtain ⟨m, hm⟩ := h1; exact DataW.trod_lt m _ _ _ hm
  obtain ⟨xs, hx⟩ := arg_of (j := 0) (hval 0 22 v0 rfl rfl) h0 hsz rfl rfl
  obtain ⟨n, R, T, rfl, wn, hRl, hRb, hTl, hTb⟩ := head_of (hval 1 42 v1 rfl rfl) h1
  have bn := bounds_i64 wn
  clear hA0 hval0 hsz0
  refine (signs_any v0 n R T xs W (tabs_of_laid hL) hx (by omega) hRl hRb hTl hTb).mono fun e W' ⟨he, bel⟩ => ?_
  subst he
  exact ⟨_, rfl, _, _, _, [], _, [], hW', trodAll_mk1 (shut_bool Tryd.underlying4 _), trodAll_mk2 (Below.trod laidOut (by kernel_rfl) (of_decide_eq_true (by kernel_rfl)) h0 bel lt0) (Below.trod laidOut (by kernel_rfl) (of_decide_eq_true (by kernel_rfl)) h1 bel lt1), rfl, bel.frame _, fun h => by cases h⟩
theorem signs_holds : Rows.SignsSaid :=
  OpenClaim.holds_of_wide 5 Tryd.f5 rfl rfl rfl rfl rfl rfl rfl ⟨rfl, rfl, rfl, rfl, rfl⟩ rfl rfl rfl rfl rfl (by kernel_rfl) Tryd.func5 (by kernel_rfl)
    (of_decide_eq_true (by kernel_rfl)) (by unfold Func.isWrapper; rw [if_neg (of_decide_eq_false (by kernel_rfl))]; exact ⟨rfl, rfl⟩)
    (fun os started H enc _ => signs_lifted os started H enc)
theorem signs_card : Rows.SignsCardSaid :=
  Claim7.holds_tied_plain_at .later [] [.wider, .data] true Rows.signsCard.stood.harness false
    signs_holds (fun _ h => by cases h) (by kernel_rfl) (fun _ h => by cases h) signs_row_tie rfl ⟨rfl, rfl⟩ (by kernel_rfl) rfl
    (fun f fn hf hfn => by
      obtain rfl : f = 5 := Option.some.inj ((show Tryd.prog.funcNamed Rows.signsRow.func = some 5 by kernel_rfl).symm.trans hf) |>.symm
      obtain rfl : fn = Tryd.f5 := (Option.some.inj (Tryd.func5.symm.trans hfn)).symm
      exact ⟨by kernel_rfl, fun j t ht => by
        rw [Tryd.params5] at ht
        have h3 : t = 22 ∨ t = 42 := by
          rcases j with _ | _ | j
          · exact .inl (by simpa using ht.symm)
          · exact .inr (by simpa using ht.symm)
          · simp at ht
        rcases h3 with rfl | rfl
        · exact (show Tryd.prog.wantsStandIn 22 = false by kernel_rfl)
        · exact (show Tryd.prog.wantsStandIn 42 = false by kernel_rfl)⟩)
    (by kernel_rfl)
#print axioms signs_card
end Go.Proofs.YtcmjlhcpoajbkaaDoor
