import Derived.Test.YtcmjlhcpoajbkaaDoorQRowe
import Derived.Test.YtcmjlhcpoajbkaaDoorQSz
namespace Go.Proofs.YtcmjlhcpoajbkaaDoor
set_option maxRecDepth 100000
open Go.ChangeShapes Go.WideShapes Go.ChangeAt Go.RowKit
theorem bytes22 : Tryd.prog.bytesOf 22 = 24 := by kernel_rfl
theorem bytes66 : Tryd.prog.bytesOf 66 = 56 := by kernel_rfl
theorem cells66 : Tryd.prog.cellsOf 66 = 5 := by kernel_rfl
theorem cells3' : Tryd.prog.cellsOf 3 = 1 := by kernel_rfl
theorem und66' : ∃ f0 f1 f2 f3 f4 : Field, Tryd.prog.underlying 66 = some (.struct #[f0, f1, f2, f3, f4]) ∧ (f0.offset = 0 ∧ f1.offset = 1 ∧ f2.offset = 2 ∧ f3.offset = 3 ∧ f4.offset = 4) ∧ f0.type = 3 ∧ f1.type = 3 ∧ f2.type = 3 ∧ f3.type = 3 ∧ f4.type = 22 := ⟨_, _, _, _, _, Tryd.underlying66, ⟨rfl, rfl, rfl, rfl, rfl⟩, rfl, rfl, rfl, rfl, rfl⟩
/-- Bytes that were read in a cell. -/
theorem arg8_of {H : Type} {enc : TypeId × Value → H} {W : World} {fuel : Nat} {v : Value} {d : DataW H} {pl : List MemPlace}
    (hf : DataW.trod enc Tryd.prog W 0 (fun _ => true) true fuel 22 [v] = some (d, pl)) (hsz : ∀ n ∈ d.weights Tryd.prog 22, n ≤ reachBytes) : ∃ p n c xs, v = .slice p n c ∧ Arg W (.slice p n c) xs := by
  rcases open_ints Tryd.underlying22 Tryd.underlying5 (by kernel_rfl) hf with ⟨hcs, _⟩ | ⟨x, l, c, zs, hcs, _, hl, hm, hz, hx, hcell, hwz⟩
  · simp at hcs
    exact ⟨none, 0, 0, [], hcs, .inl ⟨rfl, rfl⟩⟩
  · simp at hcs
    have hz' : zs.length = c := by simpa using hz
    simp only [Prod.mk.injEq] at hx
    have hs : (l + (c - l)) * Tryd.prog.bytesOf 5 ≤ reachBytes := by
      refine hsz _ ?_
      rw [hx.1]
      simp only [DataW.weights, Tryd.underlying22, lits, List.length_map, List.length_take, List.length_drop, hz', Nat.min_eq_left hl]
      exact List.mem_cons_self
    rw [bytes5] at hs
    simp only [reachBytes] at hs
    refine ⟨some x, l, c, zs.take l, hcs, .inr ⟨x, l, c, rfl, by rw [List.length_take]; omega, by omega, Bytes.of fun y hy => ?_, fun i hi => ?_⟩⟩
    · have := bounds_u8 (hwz y (List.mem_of_mem_take hy))
      omega
    · rw [hcell i (by omega), List.getD_eq_getElem?_getD, List.getD_eq_getElem?_getD, List.getElem?_take, if_pos hi]
/-- Keys that were read, as the walk takes them. -/
theorem keys_of {H : Type} {enc : TypeId × Value → H} {W : World} {v : Value} {d : DataW H} {p : List MemPlace} {ts : List TypeId} {ds : List (DataW H)} {base j : Nat}
    (hv : Value.okWide Tryd.prog W .any base 47 v) (h : DataW.Trod enc Tryd.prog W 0 (fun _ => true) true 47 v d p) (hsz : (DataW.weightsEach Tryd.prog ts ds).all (· ≤ reachBytes) = true)
    (ht : ts[j]? = some 47) (hd : ds[j]? = some d) : ∃ q n c ks, v = .slice q n c ∧ KeysAt W q n c ks ∧ n ≤ 5864062014806 := by
  obtain ⟨a0, len0, cap0, rfl⟩ := okWide_slice Tryd.underlying47 hv
  obtain ⟨fuel, hf⟩ := h
  rcases Deep.open_slice Tryd.underlying47 hf with ⟨hcs, _⟩ | ⟨a, l, c, m, n, Df, Pl, hcs, _, hl, hm, hmm, hx, hcell⟩
  · simp [Value.cells] at hcs
    obtain ⟨rfl, rfl, rfl⟩ := hcs
    exact ⟨none, 0, 0, [], rfl, ⟨by omega, by omega, fun h => by omega⟩, by omega⟩
  · simp [Value.cells] at hcs
    obtain ⟨rfl, rfl, rfl⟩ := hcs
    simp only [Prod.mk.injEq] at hx
    simp only [if_true] at hmm
    subst hmm
    have hs := sized_slice hsz ht (by rw [hd, hx.1]) Tryd.underlying47
    rw [bytes22] at hs
    simp only [List.length_map, List.length_range, reachBytes] at hs
    have key : ∀ i, i < len0 → ∃ z : (Option Addr × Nat × Nat) × List Int, W.cell? (a.add i) = some (.slice z.1.1 z.1.2.1 z.1.2.2) ∧ Arg W (.slice z.1.1 z.1.2.1 z.1.2.2) z.2 := fun i hi => by
      obtain ⟨cs', hc, ht'⟩ := hcell i (by omega)
      rw [cells22, Nat.mul_one] at hc
      have hc2 := World.cells?_some hc
      have e := hc2.2.2 0 (by omega)
      rw [Deep.add_add, Nat.add_zero] at e
      have hl1 : cs'.length = 1 := hc2.2.1
      match cs', hl1 with
      | [u], _ =>
        obtain ⟨q, n', c', xs, rfl, hI⟩ := arg8_of ht' (fun k hk => by
          have hmem : k ∈ DataW.weightsEach Tryd.prog ts ds := DataW.weights_mem_each ht hd k (by
            rw [hx.1]
            simp only [DataW.weights, Tryd.underlying47]
            refine List.mem_cons_of_mem _ (List.mem_append.2 (.inl (weights_all (d := Df i) (List.mem_map.2 ⟨i, List.mem_range.2 hi, rfl⟩) k hk))))
          simpa using List.all_eq_true.1 hsz k hmem)
        exact ⟨((q, n', c'), xs), by rw [e]; rfl, hI⟩
    obtain ⟨f, hf⟩ := Deep.choose_lt (α := (Option Addr × Nat × Nat) × List Int) (p := fun i z => W.cell? (a.add i) = some (.slice z.1.1 z.1.2.1 z.1.2.2) ∧ Arg W (.slice z.1.1 z.1.2.1 z.1.2.2) z.2) key
    refine ⟨some a, len0, _, (List.range len0).map fun i => (f i).2, rfl, ⟨hl, by unfold maxLen at hm; omega, fun h0 => ?_⟩, by omega⟩
    have e0 := spot_of (hf 0 h0).1
    refine ⟨a.block, a.off, by rw [← e0], ?_, fun i hi => ?_⟩
    · have := block_lt_of_cell (hf 0 h0).1
      rwa [addr_block] at this
    · have e1 := (hf i hi).1
      rw [e0, addr_add] at e1
      refine ⟨_, _, _, e1, ?_⟩
      have e2 : ((List.range len0).map fun i => (f i).2).getD i [] = (f i).2 := by simp [List.getD_eq_getElem?_getD, hi]
      rw [e2]; exact (hf i hi).2
/-- A step that was read. -/
theorem sop_of {H : Type} {enc : TypeId × Value → H} {W : World} {fuel : Nat} {cs : List Value} {d : DataW H} {pl : List MemPlace}
    (hf : DataW.trod enc Tryd.prog W 0 (fun _ => true) true fuel 66 cs = some (d, pl)) (hsz : ∀ n ∈ d.weights Tryd.prog 66, n ≤ reachBytes) :
    ∃ (s : SOp) (bp : Option Addr) (bn bc : Nat), cs = [.int .i64 s.k, .int .i64 s.a, .int .i64 s.i, .int .i64 s.n, .slice bp bn bc] ∧ (-9223372036854775808 ≤ s.a ∧ s.a ≤ 9223372036854775807) ∧ Arg W (.slice bp bn bc) s.b := by
  obtain ⟨f0, f1, f2, f3, f4, hu, ⟨o0, o1, o2, o3, o4⟩, t0, t1, t2, t3, t4⟩ := und66'
  obtain ⟨xs, m, _, hx, hl, hxl, hget⟩ := DataW.trod_struct hu hf
  rw [cells66] at hl
  have hx5 : xs.length = 5 := hxl
  have g0 := hget 0 f0 rfl
  have g1 := hget 1 f1 rfl
  have g2 := hget 2 f2 rfl
  have g3 := hget 3 f3 rfl
  have g4 := hget 4 f4 rfl
  match cs, hl, xs, hx5 with
  | [c0, c1, c2, c3, c4], _, [y0, y1, y2, y3, y4], _ =>
    rw [t0, o0, cells3'] at g0
    rw [t1, o1, cells3'] at g1
    rw [t2, o2, cells3'] at g2
    rw [t3, o3, cells3'] at g3
    rw [t4, o4, cells22] at g4
    simp only [Prod.mk.injEq, List.map_cons, List.map_nil] at hx
    obtain ⟨n0, hn0, _, hw0⟩ := DataW.trod_int Tryd.underlying3 g0
    obtain ⟨n1, hn1, _, hw1⟩ := DataW.trod_int Tryd.underlying3 g1
    obtain ⟨n2, hn2, _, hw2⟩ := DataW.trod_int Tryd.underlying3 g2
    obtain ⟨n3, hn3, _, hw3⟩ := DataW.trod_int Tryd.underlying3 g3
    have g4' : DataW.trod enc Tryd.prog W 0 (fun _ => true) true m 22 [c4] = some (y4.1, y4.2) := g4
    obtain ⟨p, n, c, zs, rfl, hA⟩ := arg8_of g4' (fun k hk => hsz k (by
      rw [hx.1]
      simp only [DataW.weights, hu]
      refine DataW.weights_mem_each (t := 22) (d := y4.1) (j := 4) ?_ rfl k hk
      simp [t4]))
    have hb := bounds_i64 hw1
    simp at hn0 hn1 hn2 hn3
    subst hn0
    subst hn1
    subst hn2
    subst hn3
    exact ⟨⟨n0, n1, n2, n3, zs⟩, p, n, c, rfl, ⟨by have := hb.1; simpa using this, by have := hb.2; simp only []; omega⟩, hA⟩
/-- A script that was read, as the walk takes it. -/
theorem script_of {H : Type} {enc : TypeId × Value → H} {W : World} {v : Value} {d : DataW H} {p : List MemPlace} {ts : List TypeId} {ds : List (DataW H)} {base j : Nat}
    (hv : Value.okWide Tryd.prog W .any base 48 v) (h : DataW.Trod enc Tryd.prog W 0 (fun _ => true) true 48 v d p) (hsz : (DataW.weightsEach Tryd.prog ts ds).all (· ≤ reachBytes) = true)
    (ht : ts[j]? = some 48) (hd : ds[j]? = some d) : ∃ q n c S, v = .slice q n c ∧ ScriptAt W q n c S ∧ n ≤ 2513169434916 := by
  have inh : Inhabited SOp := ⟨⟨0, 0, 0, 0, []⟩⟩
  obtain ⟨a0, len0, cap0, rfl⟩ := okWide_slice Tryd.underlying48 hv
  obtain ⟨fuel, hf⟩ := h
  rcases Deep.open_slice Tryd.underlying48 hf with ⟨hcs, _⟩ | ⟨a, l, c, m, n, Df, Pl, hcs, _, hl, hm, hmm, hx, hcell⟩
  · simp [Value.cells] at hcs
    obtain ⟨rfl, rfl, rfl⟩ := hcs
    exact ⟨none, 0, 0, fun _ => ⟨0, 0, 0, 0, []⟩, rfl, ⟨by omega, by omega, fun h => by omega⟩, by omega⟩
  · simp [Value.cells] at hcs
    obtain ⟨rfl, rfl, rfl⟩ := hcs
    simp only [Prod.mk.injEq] at hx
    simp only [if_true] at hmm
    subst hmm
    have hs := sized_slice hsz ht (by rw [hd, hx.1]) Tryd.underlying48
    rw [bytes66] at hs
    simp only [List.length_map, List.length_range, reachBytes] at hs
    have key : ∀ i, i < len0 → ∃ z : (Option Addr × Nat × Nat) × SOp, (W.cell? (a.add (i * 5)) = some (.int .i64 z.2.k) ∧ W.cell? (a.add (i * 5 + 1)) = some (.int .i64 z.2.a) ∧ W.cell? (a.add (i * 5 + 2)) = some (.int .i64 z.2.i) ∧ W.cell? (a.add (i * 5 + 3)) = some (.int .i64 z.2.n) ∧ W.cell? (a.add (i * 5 + 4)) = some (.slice z.1.1 z.1.2.1 z.1.2.2)) ∧ (-9223372036854775808 ≤ z.2.a ∧ z.2.a ≤ 9223372036854775807) ∧ Arg W (.slice z.1.1 z.1.2.1 z.1.2.2) z.2.b := fun i hi => by
      obtain ⟨cs', hc, ht'⟩ := hcell i (by omega)
      rw [cells66] at hc
      have hc2 := (World.cells?_some hc).2.2
      obtain ⟨s, bp, bn, bc, rfl, hb, hA⟩ := sop_of ht' (fun k hk => by
        have hmem : k ∈ DataW.weightsEach Tryd.prog ts ds := DataW.weights_mem_each ht hd k (by
          rw [hx.1]
          simp only [DataW.weights, Tryd.underlying48]
          refine List.mem_cons_of_mem _ (List.mem_append.2 (.inl (weights_all (d := Df i) (List.mem_map.2 ⟨i, List.mem_range.2 hi, rfl⟩) k hk))))
        simpa using List.all_eq_true.1 hsz k hmem)
      have e0 := hc2 0 (by omega)
      have e1 := hc2 1 (by omega)
      have e2 := hc2 2 (by omega)
      have e3 := hc2 3 (by omega)
      have e4 := hc2 4 (by omega)
      rw [Deep.add_add] at e0 e1 e2 e3 e4
      exact ⟨((bp, bn, bc), s), ⟨e0, e1, e2, e3, e4⟩, hb, hA⟩
    obtain ⟨f, hf⟩ := Deep.choose_lt (α := (Option Addr × Nat × Nat) × SOp) (p := fun i z => (W.cell? (a.add (i * 5)) = some (.int .i64 z.2.k) ∧ W.cell? (a.add (i * 5 + 1)) = some (.int .i64 z.2.a) ∧ W.cell? (a.add (i * 5 + 2)) = some (.int .i64 z.2.i) ∧ W.cell? (a.add (i * 5 + 3)) = some (.int .i64 z.2.n) ∧ W.cell? (a.add (i * 5 + 4)) = some (.slice z.1.1 z.1.2.1 z.1.2.2)) ∧ (-9223372036854775808 ≤ z.2.a ∧ z.2.a ≤ 9223372036854775807) ∧ Arg W (.slice z.1.1 z.1.2.1 z.1.2.2) z.2.b) key
    refine ⟨some a, len0, _, fun i => (f i).2, rfl, ⟨hl, by unfold maxLen at hm; omega, fun h0 => ?_⟩, by omega⟩
    have z0 := (hf 0 h0).1.1
    rw [Nat.zero_mul] at z0
    have e0 := spot_of z0
    refine ⟨a.block, a.off, by rw [← e0], ?_, fun i hi => ?_⟩
    · have := block_lt_of_cell z0
      rwa [addr_block] at this
    · obtain ⟨⟨e1, e2, e3, e4, e5⟩, hb, hA⟩ := hf i hi
      rw [e0, addr_add] at e1 e2 e3 e4 e5
      exact ⟨hb, _, _, _, e1, e2, e3, e4, e5, hA⟩
theorem logs_lifted (os : Os) (started : os.Started) (H : Type) (enc : TypeId × Value → H) :
    ReturnsInHanded {} Tryd.checked os 7 .any (fun w args => (Rows.logsSpec.pre enc Tryd.prog Tryd.f7 [] false w args ∧ laidMetH Tryd.prog laid2 w) ∧ sizedMet enc Tryd.prog Tryd.f7 (OpenSpec.ofChange Rows.logsSpec) false w args)
      (Rows.logsSpec.post enc Tryd.prog Tryd.f7 false true false false) := by
  refine returnsInHanded_of_change_and (C := Tryd.checked) (X := fun w _ => laidMetH Tryd.prog laid2 w) (fun _ _ _ hh h => h.of_heap hh) own started (by kernel_rfl) Tryd.func7
    (ChangeSpec.witness_shaped (enc := enc) (C := Tryd.checked) (os := os) (X := fun w _ => laidMetH Tryd.prog laid2 w) false (World.doorLaid Tryd.prog 400 os) #[.slice none 0 0, .slice none 0 0] 8 rfl (World.shaped_of_RefB (by kernel_rfl) (by kernel_rfl)) (by kernel_rfl) (by kernel_rfl) (by kernel_rfl) (door_met os _)) ?_
  intro W base args ds gs before hval0 hW _ hsz0 hL _
  have hval : ∀ (j : Nat) t v, Tryd.f7.params[j]? = some t → args[j]? = some v → Value.okWide Tryd.prog W .any base t v := hval0
  have hsz : (DataW.weightsEach Tryd.prog (Tryd.f7.params.toList ++ Rows.logsSpec.plain.varTypes Tryd.prog) (ds ++ gs)).all (· ≤ reachBytes) = true := hsz0
  have hW' := hW
  obtain ⟨p, q, hA0, hV, rfl, hfz, hnd⟩ := hW
  have hA : DataW.TrodAll enc Tryd.prog W 0 (fun _ => true) true Tryd.f7.params.toList args.toList ds p := hA0
  rw [Tryd.params7] at hA hval hsz
  obtain ⟨v0, v1, d0, d1, p0, p1, rfl, rfl, rfl, h0, h1⟩ := trodAll_two hA
  obtain ⟨rfl, rfl⟩ := trodVars_none hV
  have lt0 : ∀ x ∈ p0, x.block < W.heap.size := by obtain ⟨m, hm⟩ := h0; exact DataW.trod_lt m _ _ _ hm
  have lt1 : ∀ x ∈ p1, x.block < W.heap.size := by obtain ⟨m, hm⟩ := h1; exact DataW.trod_lt m _ _ _ hm
  obtain ⟨q0, n0, c0, ks0, rfl, hk0, hn0⟩ := keys_of (j := 0) (hval 0 47 v0 rfl rfl) h0 hsz rfl rfl
  obtain ⟨q1, n1, c1, S1, rfl, hk1, hn1⟩ := script_of (j := 1) (hval 1 48 v1 rfl rfl) h1 hsz rfl rfl
  clear hA0 hval0 hsz0
  refine (logs_any W (tabs_of_laid hL) q0 n0 c0 ks0 hk0 hn0 q1 n1 c1 S1 hk1 hn1).mono fun e W' ⟨he, bel⟩ => ?_
  subst he
  exact ⟨_, rfl, _, _, _, [], _, [], hW', trodAll_mk1 (shut_bool Tryd.underlying4 _), trodAll_mk2 (Below.trod laidOut (by kernel_rfl) (of_decide_eq_true (by kernel_rfl)) h0 bel lt0) (Below.trod laidOut (by kernel_rfl) (of_decide_eq_true (by kernel_rfl)) h1 bel lt1), rfl, bel.frame _, fun h => by cases h⟩
theorem logs_holds : Rows.LogsSaid :=
  OpenClaim.holds_of_wide 7 Tryd.f7 rfl rfl rfl rfl rfl rfl rfl ⟨rfl, rfl, rfl, rfl, rfl⟩ rfl rfl rfl rfl rfl (by kernel_rfl) Tryd.func7 (by kernel_rfl)
    (of_decide_eq_true (by kernel_rfl)) (by unfold Func.isWrapper; rw [if_neg (of_decide_eq_false (by kernel_rfl))]; exact ⟨rfl, rfl⟩)
    (fun os started H enc _ => logs_lifted os started H enc)
theorem logs_card : Rows.LogsCardSaid :=
  Claim7.holds_tied_plain_at .later [] [.wider, .data] true Rows.logsCard.stood.harness false
    logs_holds (fun _ h => by cases h) (by kernel_rfl) (fun _ h => by cases h) logs_row_tie rfl ⟨rfl, rfl⟩ (by kernel_rfl) rfl
    (fun f fn hf hfn => by
      obtain rfl : f = 7 := Option.some.inj ((show Tryd.prog.funcNamed Rows.logsRow.func = some 7 by kernel_rfl).symm.trans hf) |>.symm
      obtain rfl : fn = Tryd.f7 := (Option.some.inj (Tryd.func7.symm.trans hfn)).symm
      exact ⟨by kernel_rfl, fun j t ht => by
        rw [Tryd.params7] at ht
        have h3 : t = 47 ∨ t = 48 := by
          rcases j with _ | _ | j
          · exact (.inl (by simpa using ht.symm))
          · exact (.inr (by simpa using ht.symm))
          · simp at ht
        rcases h3 with rfl | rfl
        · exact (show Tryd.prog.wantsStandIn 47 = false by kernel_rfl)
        · exact (show Tryd.prog.wantsStandIn 48 = false by kernel_rfl)⟩)
    (by kernel_rfl)
#print axioms logs_card
end Go.Proofs.YtcmjlhcpoajbkaaDoor
