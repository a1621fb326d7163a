import Derived.Test.YtcmjlhcpoajbkaaDoorQOe
namespace Go.Proofs.YtcmjlhcpoajbkaaDoor
set_option maxRecDepth 10000
set_option linter.unusedSimpArgs false
open Go.RowKit
theorem results_none {fn : Func} (h : fn.results = #[]) (tmps : Array Value) (P : Program) (w : World) : (results fn tmps).run P w = .ok (.tuple #[]) w := by
  simp [results, h]
theorem exec_bsl1 (M : List Int) (hM : M.length = 32) (y : World) (o : Oper) (a : Act) (x0 : Operand) (ho : o.op = .buildSlice 31 1 #[(0, x0)]) (h0 : a.eval x0 = .agg (A8 M)) : (execOp a.eval o).run Tryd.prog y = .ok (.value (.slice (some ⟨y.heap.size, 0, none⟩) 1 1)) (y.alloc (.cells (A8 (repM 1 M)) 25)) := by
  have hr := bsl1 M hM y
  unfold execOp
  simp only [ho, Sem.run_bind, Sem.run_pure, Result.andThen_ok, List.map_toArray, List.map_cons, List.map_nil, h0, hr]
theorem exec_bsl2 (M : List Int) (hM : M.length = 32) (y : World) (o : Oper) (a : Act) (x0 x1 : Operand) (ho : o.op = .buildSlice 31 2 #[(0, x0), (1, x1)]) (h0 : a.eval x0 = .agg (A8 M)) (h1 : a.eval x1 = .agg (A8 M)) : (execOp a.eval o).run Tryd.prog y = .ok (.value (.slice (some ⟨y.heap.size, 0, none⟩) 2 2)) (y.alloc (.cells (A8 (repM 2 M)) 25)) := by
  have hr := bsl2 M hM y
  unfold execOp
  simp only [ho, Sem.run_bind, Sem.run_pure, Result.andThen_ok, List.map_toArray, List.map_cons, List.map_nil, h0, h1, hr]
theorem exec_bsl6 (M : List Int) (hM : M.length = 32) (y : World) (o : Oper) (a : Act) (x0 x1 x2 x3 x4 x5 : Operand) (ho : o.op = .buildSlice 31 6 #[(0, x0), (1, x1), (2, x2), (3, x3), (4, x4), (5, x5)]) (h0 : a.eval x0 = .agg (A8 M)) (h1 : a.eval x1 = .agg (A8 M)) (h2 : a.eval x2 = .agg (A8 M)) (h3 : a.eval x3 = .agg (A8 M)) (h4 : a.eval x4 = .agg (A8 M)) (h5 : a.eval x5 = .agg (A8 M)) : (execOp a.eval o).run Tryd.prog y = .ok (.value (.slice (some ⟨y.heap.size, 0, none⟩) 6 6)) (y.alloc (.cells (A8 (repM 6 M)) 25)) := by
  have hr := bsl6 M hM y
  unfold execOp
  simp only [ho, Sem.run_bind, Sem.run_pure, Result.andThen_ok, List.map_toArray, List.map_cons, List.map_nil, h0, h1, h2, h3, h4, h5, hr]
set_option maxHeartbeats 20000000 in
theorem keep_any (w : World) (F : Nat → Prop) (B gb n : Nat) (blv lv : Value) (ds : List (List Int)) (h : BookAt w F gb blv n) (hF : ∀ k, F k → k < B) (hB : B ≤ w.heap.size) (hl : Own w B lv ds) (hm : ds.length ≤ 1000) (hn : n ≤ 4398046511104) :
    Calls Tryd.prog 73 #[.pointer (some ⟨gb, 0, none⟩), lv] w fun e w' => e = .returned (.tuple #[]) ∧ ∃ blv', BookAt w' (fun k => F k ∨ B ≤ k) gb blv' (n + 1) ∧ Kp (fun k => F k ∨ B ≤ k) w w' := by
  obtain ⟨ss, hss, _⟩ := h.own
  obtain ⟨bp, bc, rfl, hbf, hbr⟩ := owns_shape hss
  obtain ⟨lp, lc, rfl, hlf, hlr⟩ := owns_shape hl
  have hcb : w.cell? ⟨gb, 0, none⟩ = some (.slice bp n bc) := by rw [cell_of_row _ _ _ _ _ _ h.blk]; rfl
  have HL0 : Hid (LvI w B (markP n) (.slice lp ds.length lc) ds.length 0) := lvI_of hl
  have HLT : Hid (∀ r, (Value.slice lp ds.length lc).ownBlock = some r → B ≤ r ∧ r < w.heap.size) := fun r hr => World.ownsRow.lt hl r hr
  have HBk : Hid (BookAt w F gb (.slice bp n bc) n) := h
  have HF : Hid (∀ k, F k → k < B) := hF
  have hMl := markP_len n
  have hMb := markP_bytes n
  clear h hF hl hss
  generalize ds.length = m at *
  go_enter Tryd.func73, Tryd.ntmps73
  go_wp2_with fail
  refine (mark_any n w (by omega)).mono ?_
  rintro e w1 ⟨rfl, b1⟩
  obtain ⟨M, hM⟩ : ∃ M, markP n = M := ⟨_, rfl⟩
  have HMM : Hid (markP n = M) := hM
  rw [hM] at HL0 hMl hMb ⊢
  clear hM
  have n1 : Hid (Dg (w1.alloc (.cells Z8x32 25)) w1.heap.size Z32) := Dg.new w1 _ rfl
  have hs1 := b1.size
  go_wp2_with (first
    | (with_reducible refine atStore 25 ?_
       refine store_D rfl _ _ rfl w1.heap.size M rfl rfl Z32 n1.out hMl ?_
       intro U hU
       refine hideGoal ?_))
  have bU : Below w.heap.size w U := hU.below _ _ hs1 (b1.alloc hs1 _)
  have hgmw : w.heap.size ≤ w1.heap.size := hs1
  have dU : Hid (Dg U w1.heap.size M) := hU.dg hMl
  have HLU : Hid (LvI U B M (.slice lp m lc) m 0) := HL0.out.frame (kp_of bU rfl) (fun _ _ x => x)
  have HBU : Hid (BookAt U F gb (.slice bp n bc) n) := HBk.out.below bU
  have hUs := bU.size
  have hlU := dU.out.lt
  clear hU n1 b1 HL0 HBk hcb
  generalize w1.heap.size = gm at *
  refine openGoal ?_
  go_wp2_with fail
  go_loopw [5] (fun iv wr => ∃ i : Nat, i ≤ m ∧ iv = .int .i64 i ∧ LvI wr B M (.slice lp m lc) m i ∧ BookAt wr F gb (.slice bp n bc) n ∧ Dg wr gm M ∧ Kp (fun k => (Value.slice lp m lc).ownBlock = some k) U wr) (fun iv _ => m - (intOf iv).toNat)
  case atStart => exact ⟨0, by omega, rfl, HLU.out, HBU.out, dU.out, ⟨rfl, rfl, rfl, Nat.le_refl _, fun _ _ _ => rfl⟩⟩
  case round =>
    obtain ⟨i, hi, rfl, hLi, hBi, hDi, hKi⟩ := hrel
    have HBi : Hid (BookAt wr F gb (.slice bp n bc) n) := hBi
    have HDi : Hid (Dg wr gm M) := hDi
    have HKi : Hid (Kp (fun k => (Value.slice lp m lc).ownBlock = some k) U wr) := hKi
    have hgmne : (Value.slice lp m lc).ownBlock ≠ some gm := fun e => by have := (HLT.out gm e).2; omega
    clear hBi hDi hKi HLU HBU dU
    by_cases him : i < m
    · have him' : (i : Int) < m := by omega
      obtain ⟨q, cap, cur, hv, hq1, hq2, hq3, hq4, hq5, hq6⟩ := hLi.resolve_left (fun h => by omega)
      injection hv with e1 _ e3
      subst e1
      subst e3
      have x3 : ∀ W : World, (Instr.indexAt 31 (.slice (some ⟨q, 0, none⟩) m lc) (.int .i64 i)).run Tryd.prog W = .ok (.pointer (some ⟨q, i * 32, none⟩)) W := fun W => by
        have h := index_at ⟨q, 0, none⟩ m lc i him W
        rw [addr_add, Nat.zero_add] at h
        exact h
      have hA : (A8 M).toList.length = 32 := by rw [Array.length_toList, A8_size, hMl]
      obtain ⟨ks, cur', hs1', hs2', hs3'⟩ := setCells_row q 25 (A8 M).toList (i * 32) wr cur hq2 (by rw [hA, hq5]; have : (i + 1) * 32 ≤ lc * 32 := Nat.mul_le_mul_right _ (by omega); omega)
      have hth : wr.there q (i * 32) (A8 M).size := fun j hj => by
        rw [A8_size, hMl] at hj
        refine ⟨?_, frozen_of_row wr q (i * 32 + j) _ _ hq2⟩
        rw [cell_of_row _ _ _ _ _ _ hq2, Array.getElem?_eq_getElem (by rw [hq5]; have : (i + 1) * 32 ≤ lc * 32 := Nat.mul_le_mul_right _ (by omega); omega)]
        rfl
      have HLn : Hid (LvI (wr.setCells q (i * 32) (A8 M).toList) B M (.slice (some ⟨q, 0, none⟩) m lc) m (i + 1)) := .inr ⟨q, lc, cur', rfl, hq1, hs1', hq3, hq4, by rw [hs2', hq5], fun j hj => by
        rw [hs3' j]
        by_cases hc : i * 32 ≤ j ∧ j < i * 32 + (A8 M).toList.length
        · rw [if_pos hc]
          rw [hA] at hc
          rw [Array.getElem?_toList, A8_get _ _ (by omega), show j - i * 32 = j % 32 by omega]
        · rw [if_neg hc]
          rw [hA] at hc
          exact hq6 j (by omega)⟩
      have HBn : Hid (BookAt (wr.setCells q (i * 32) (A8 M).toList) F gb (.slice bp n bc) n) := HBi.out.frame ks (fun k hk e => by have := HF.out k hk; omega)
      have HDn : Hid (Dg (wr.setCells q (i * 32) (A8 M).toList) gm M) := ⟨hMl, (ks.block gm HDi.out.lt (fun e => hgmne (by rw [e]; rfl))).trans HDi.out.here⟩
      have HKn : Hid (Kp (fun k => (Value.slice (some ⟨q, 0, none⟩) m lc).ownBlock = some k) U (wr.setCells q (i * 32) (A8 M).toList)) := ⟨ks.os.trans HKi.out.os, ks.tape.trans HKi.out.tape, ks.output.trans HKi.out.output, Nat.le_trans HKi.out.size ks.size, fun k hk hx => (ks.block k (Nat.lt_of_lt_of_le hk HKi.out.size) (fun e => hx (by rw [e]; rfl))).trans (HKi.out.block k hk hx)⟩
      have h1c : (A8 M).all (·.oneCell') = true := by rw [Array.all_eq_true_iff_forall_mem]; intro v hv; simp only [A8, List.mem_toArray, List.mem_map] at hv; obtain ⟨y, _, rfl⟩ := hv; rfl
      have hinf : (Tryd.prog.info? 25).map (·.size) = some (A8 M).size := by rw [info25, A8_size, hMl]
      clear hLi hs1' hs2' hs3' ks hq2 hq6 HBi HKi
      go_wp2_with (first
        | (with_reducible refine atLoad 25 ?_
           refine load_D rfl (.tmp 4) rfl gm rfl M HDi.out ?_)
        | (with_reducible refine atStore 25 ?_
           refine wpList_store_mid rfl 25 (.tmp 21) (.tmp 20) rfl q (i * 32) (A8 M) rfl rfl hth hinf h1c ?_
           refine hideGoal ?_))
      generalize wr.setCells q (i * 32) (A8 M).toList = X at *
      clear hth
      refine openGoal ?_
      go_wp2_with fail
      go_roundw
      case rel => exact ⟨i + 1, by omega, by go_num, HLn.out, HBn.out, HDn.out, HKn.out⟩
      case measure => simp [intOf]; omega
    · have him' : ¬ (i : Int) < m := by omega
      have eim : i = m := by omega
      subst eim
      have HK0 : Hid (Kst U F B gb n (.slice bp n bc) M (.slice lp i lc) i gm wr) := ⟨hLi.full hMl, HDi.out, HBi.out, HKi.out, fun r hr => ⟨(HLT.out r hr).1, by have := (HLT.out r hr).2; omega⟩, hgmne, by omega, HF.out⟩
      clear hLi HBi HDi HKi
      go_upto_region 5 with fail
      have HKd : Kst U F B gb n (.slice bp n bc) M (.slice lp i lc) i gm wr.drew := HK0.out.below (Below.refl _ _).drew
      have hSb : ∀ {y : World}, Kst U F B gb n (.slice bp n bc) M (.slice lp i lc) i gm y → Dg y gm M ∧ y.cell? ⟨gb, 0, none⟩ = some (.slice bp n bc) := fun {y} hy => ⟨hy.dg, by rw [cell_of_row _ _ _ _ _ _ hy.bk.blk]; rfl⟩
      have S0 := hSb HKd
      refine wp_region_noPanic ?_
      refine wp_region_E 29 (S := fun W => Dg W gm M ∧ W.cell? ⟨gb, 0, none⟩ = some (.slice bp n bc)) follows ?_
      refine wpAnyE_take (i := 0) (v := .pointer (some ⟨gb, 0, none⟩)) rfl (by kernel_rfl) (by kernel_rfl) (by kernel_rfl) (by kernel_rfl) (fun _ _ _ h => h) (.inl ⟨rfl, fun W _ => by go_simp⟩) S0 ?_
      simp only [Act.put, List.getElem_toArray, List.getElem_cons_zero, List.getElem_cons_succ, List.setIfInBounds_toArray, List.set_cons_zero, List.set_cons_succ]
      refine wpAnyE_take (i := 1) (v := .pointer (some ⟨gb, 0, none⟩)) rfl (by kernel_rfl) (by kernel_rfl) (by kernel_rfl) (by kernel_rfl) (fun _ _ _ h => h) (.inl ⟨rfl, fun W _ => by go_simp⟩) S0 ?_
      simp only [Act.put, List.getElem_toArray, List.getElem_cons_zero, List.getElem_cons_succ, List.setIfInBounds_toArray, List.set_cons_zero, List.set_cons_succ]
      refine wpAnyE_take (i := 2) (v := .pointer (some ⟨gb, 0, none⟩)) rfl (by kernel_rfl) (by kernel_rfl) (by kernel_rfl) (by kernel_rfl) (fun _ _ _ h => h) (.inl ⟨rfl, fun W _ => by go_simp⟩) S0 ?_
      simp only [Act.put, List.getElem_toArray, List.getElem_cons_zero, List.getElem_cons_succ, List.setIfInBounds_toArray, List.set_cons_zero, List.set_cons_succ]
      refine wpAnyE_take (i := 3) (v := .pointer (some ⟨gb, 0, none⟩)) rfl (by kernel_rfl) (by kernel_rfl) (by kernel_rfl) (by kernel_rfl) (fun _ _ _ h => h) (.inl ⟨rfl, fun W _ => by go_simp⟩) S0 ?_
      simp only [Act.put, List.getElem_toArray, List.getElem_cons_zero, List.getElem_cons_succ, List.setIfInBounds_toArray, List.set_cons_zero, List.set_cons_succ]
      refine wpAnyE_take (i := 4) (v := .slice bp n bc) rfl (by kernel_rfl) (by kernel_rfl) (by kernel_rfl) (by kernel_rfl) (fun _ _ _ h => h) (.inl ⟨rfl, fun W hW => by have e := hW.2; go_simp⟩) S0 ?_
      simp only [Act.put, List.getElem_toArray, List.getElem_cons_zero, List.getElem_cons_succ, List.setIfInBounds_toArray, List.set_cons_zero, List.set_cons_succ]
      refine wpAnyE_take (i := 5) (v := .slice lp i lc) rfl (by kernel_rfl) (by kernel_rfl) (by kernel_rfl) (by kernel_rfl) (fun _ _ _ h => h) (.inl ⟨rfl, fun W _ => by go_simp⟩) S0 ?_
      simp only [Act.put, List.getElem_toArray, List.getElem_cons_zero, List.getElem_cons_succ, List.setIfInBounds_toArray, List.set_cons_zero, List.set_cons_succ]
      refine wpAnyE_take (i := 6) (v := .slice lp i lc) rfl (by kernel_rfl) (by kernel_rfl) (by kernel_rfl) (by kernel_rfl) (fun _ _ _ h => h) (.inl ⟨rfl, fun W _ => by go_simp⟩) S0 ?_
      simp only [Act.put, List.getElem_toArray, List.getElem_cons_zero, List.getElem_cons_succ, List.setIfInBounds_toArray, List.set_cons_zero, List.set_cons_succ]
      refine wpAnyE_take (i := 7) (v := .agg (A8 M)) rfl (by kernel_rfl) (by kernel_rfl) (by kernel_rfl) (by kernel_rfl) (fun _ _ _ h => h) (yields_D rfl (.tmp 4) rfl gm rfl M hMl (fun W hW => hW.1)) S0 ?_
      simp only [Act.put, List.getElem_toArray, List.getElem_cons_zero, List.getElem_cons_succ, List.setIfInBounds_toArray, List.set_cons_zero, List.set_cons_succ]
      refine wpAnyE_take (i := 10) (v := .slice lp i lc) rfl (by kernel_rfl) (by kernel_rfl) (by kernel_rfl) (by kernel_rfl) (fun _ _ _ h => h) (.inl ⟨rfl, fun W _ => by go_simp⟩) S0 ?_
      simp only [Act.put, List.getElem_toArray, List.getElem_cons_zero, List.getElem_cons_succ, List.setIfInBounds_toArray, List.set_cons_zero, List.set_cons_succ]
      refine wpAnyE_take (i := 11) (v := .agg (A8 M)) rfl (by kernel_rfl) (by kernel_rfl) (by kernel_rfl) (by kernel_rfl) (fun _ _ _ h => h) (yields_D rfl (.tmp 4) rfl gm rfl M hMl (fun W hW => hW.1)) S0 ?_
      simp only [Act.put, List.getElem_toArray, List.getElem_cons_zero, List.getElem_cons_succ, List.setIfInBounds_toArray, List.set_cons_zero, List.set_cons_succ]
      refine wpAnyE_take (i := 12) (v := .agg (A8 M)) rfl (by kernel_rfl) (by kernel_rfl) (by kernel_rfl) (by kernel_rfl) (fun _ _ _ h => h) (yields_D rfl (.tmp 4) rfl gm rfl M hMl (fun W hW => hW.1)) S0 ?_
      simp only [Act.put, List.getElem_toArray, List.getElem_cons_zero, List.getElem_cons_succ, List.setIfInBounds_toArray, List.set_cons_zero, List.set_cons_succ]
      refine wpAnyE_take (i := 15) (v := .slice lp i lc) rfl (by kernel_rfl) (by kernel_rfl) (by kernel_rfl) (by kernel_rfl) (fun _ _ _ h => h) (.inl ⟨rfl, fun W _ => by go_simp⟩) S0 ?_
      simp only [Act.put, List.getElem_toArray, List.getElem_cons_zero, List.getElem_cons_succ, List.setIfInBounds_toArray, List.set_cons_zero, List.set_cons_succ]
      refine wpAnyE_take (i := 16) (v := .agg (A8 M)) rfl (by kernel_rfl) (by kernel_rfl) (by kernel_rfl) (by kernel_rfl) (fun _ _ _ h => h) (yields_D rfl (.tmp 4) rfl gm rfl M hMl (fun W hW => hW.1)) S0 ?_
      simp only [Act.put, List.getElem_toArray, List.getElem_cons_zero, List.getElem_cons_succ, List.setIfInBounds_toArray, List.set_cons_zero, List.set_cons_succ]
      refine wpAnyE_take (i := 17) (v := .agg (A8 M)) rfl (by kernel_rfl) (by kernel_rfl) (by kernel_rfl) (by kernel_rfl) (fun _ _ _ h => h) (yields_D rfl (.tmp 4) rfl gm rfl M hMl (fun W hW => hW.1)) S0 ?_
      simp only [Act.put, List.getElem_toArray, List.getElem_cons_zero, List.getElem_cons_succ, List.setIfInBounds_toArray, List.set_cons_zero, List.set_cons_succ]
      refine wpAnyE_take (i := 18) (v := .agg (A8 M)) rfl (by kernel_rfl) (by kernel_rfl) (by kernel_rfl) (by kernel_rfl) (fun _ _ _ h => h) (yields_D rfl (.tmp 4) rfl gm rfl M hMl (fun W hW => hW.1)) S0 ?_
      simp only [Act.put, List.getElem_toArray, List.getElem_cons_zero, List.getElem_cons_succ, List.setIfInBounds_toArray, List.set_cons_zero, List.set_cons_succ]
      refine wpAnyE_take (i := 19) (v := .agg (A8 M)) rfl (by kernel_rfl) (by kernel_rfl) (by kernel_rfl) (by kernel_rfl) (fun _ _ _ h => h) (yields_D rfl (.tmp 4) rfl gm rfl M hMl (fun W hW => hW.1)) S0 ?_
      simp only [Act.put, List.getElem_toArray, List.getElem_cons_zero, List.getElem_cons_succ, List.setIfInBounds_toArray, List.set_cons_zero, List.set_cons_succ]
      refine wpAnyE_take (i := 20) (v := .agg (A8 M)) rfl (by kernel_rfl) (by kernel_rfl) (by kernel_rfl) (by kernel_rfl) (fun _ _ _ h => h) (yields_D rfl (.tmp 4) rfl gm rfl M hMl (fun W hW => hW.1)) S0 ?_
      simp only [Act.put, List.getElem_toArray, List.getElem_cons_zero, List.getElem_cons_succ, List.setIfInBounds_toArray, List.set_cons_zero, List.set_cons_succ]
      refine wpAnyE_take (i := 21) (v := .agg (A8 M)) rfl (by kernel_rfl) (by kernel_rfl) (by kernel_rfl) (by kernel_rfl) (fun _ _ _ h => h) (yields_D rfl (.tmp 4) rfl gm rfl M hMl (fun W hW => hW.1)) S0 ?_
      simp only [Act.put, List.getElem_toArray, List.getElem_cons_zero, List.getElem_cons_succ, List.setIfInBounds_toArray, List.set_cons_zero, List.set_cons_succ]
      obtain ⟨y0, ey0⟩ : ∃ W, wr.drew = W := ⟨_, rfl⟩
      refine reworldE (w' := wr.drew) rfl ?_
      rw [ey0] at HKd ⊢
      clear ey0 S0 HK0
      refine relistE #[true, true, true, true, true, true, true, true, false, false, true, true, true, false, false, true, true, true, true, true, true, true, false, false, false, false, false, false, false, false] (by kernel_rfl) ?_
      refine eny_three (i := 8) (j := 13) (l := 22) (by kernel_rfl) ?_ ?_ ?_
      · refine wpOp_val (v := .slice (some ⟨y0.heap.size, 0, none⟩) 1 1) (w' := y0.alloc (.cells (A8 (repM 1 M)) 25)) rfl rfl (exec_bsl1 M hMl y0 _ _ (.tmp 29) rfl rfl) ?_
        obtain ⟨Ky1, gy1⟩ := HKd.build hMl 1
        have by1 : Below y0.heap.size y0 (y0.alloc (.cells (A8 (repM 1 M)) 25)) := (Below.refl _ _).alloc (Nat.le_refl _) _
        refine ⟨.inr (hSb Ky1), ?_⟩
        simp only [Act.put, List.getElem_toArray, List.getElem_cons_zero, List.getElem_cons_succ, List.setIfInBounds_toArray, List.set_cons_zero, List.set_cons_succ]
        obtain ⟨y1, ey1⟩ : ∃ W, y0.alloc (.cells (A8 (repM 1 M)) 25) = W := ⟨_, rfl⟩
        obtain ⟨g8, egy1⟩ : ∃ gk, y0.heap.size = gk := ⟨_, rfl⟩
        rw [ey1] at Ky1 gy1
        rw [egy1] at gy1
        have G8y1 := gy1
        rw [ey1, egy1]
        clear ey1 egy1 by1 gy1
        refine relistE #[true, true, true, true, true, true, true, true, true, false, true, true, true, false, false, true, true, true, true, true, true, true, false, false, false, false, false, false, false, false] (by kernel_rfl) ?_
        refine eny_three (i := 9) (j := 13) (l := 22) (by kernel_rfl) ?_ ?_ ?_
        · obtain ⟨p9, c9, y2, hry2, Ky2, V9y2, q9, hgy2, hvy2⟩ := Ky1.app hMl hm g8 1 (by omega) (by omega) G8y1
          refine wpOp_app rfl rfl (.tmp 28) (.tmp 30) 31 31 rfl (.slice lp i lc) (.slice (some ⟨g8, 0, none⟩) 1 1) rfl rfl hry2 ?_
          refine ⟨.inr (hSb Ky2), ?_⟩
          simp only [Act.put, List.getElem_toArray, List.getElem_cons_zero, List.getElem_cons_succ, List.setIfInBounds_toArray, List.set_cons_zero, List.set_cons_succ]
          clear hry2 hgy2 hvy2
          refine relistE #[true, true, true, true, true, true, true, true, true, true, true, true, true, false, false, true, true, true, true, true, true, true, false, false, false, false, false, false, false, false] (by kernel_rfl) ?_
          refine eny_two (i := 13) (j := 22) (by kernel_rfl) ?_ ?_
          · refine wpOp_val (v := .slice (some ⟨y2.heap.size, 0, none⟩) 2 2) (w' := y2.alloc (.cells (A8 (repM 2 M)) 25)) rfl rfl (exec_bsl2 M hMl y2 _ _ (.tmp 33) (.tmp 34) rfl rfl rfl) ?_
            obtain ⟨Ky3, gy3⟩ := Ky2.build hMl 2
            have by3 : Below y2.heap.size y2 (y2.alloc (.cells (A8 (repM 2 M)) 25)) := (Below.refl _ _).alloc (Nat.le_refl _) _
            refine ⟨.inr (hSb Ky3), ?_⟩
            simp only [Act.put, List.getElem_toArray, List.getElem_cons_zero, List.getElem_cons_succ, List.setIfInBounds_toArray, List.set_cons_zero, List.set_cons_succ]
            have V9y3 := V9y2.kp (kp_of by3 rfl) (fun _ _ x => x)
            obtain ⟨y3, ey3⟩ : ∃ W, y2.alloc (.cells (A8 (repM 2 M)) 25) = W := ⟨_, rfl⟩
            obtain ⟨g13, egy3⟩ : ∃ gk, y2.heap.size = gk := ⟨_, rfl⟩
            rw [ey3] at Ky3 gy3 V9y3
            rw [egy3] at gy3
            have G13y3 := gy3
            rw [ey3, egy3]
            clear ey3 egy3 by3 gy3
            refine relistE #[true, true, true, true, true, true, true, true, true, true, true, true, true, true, false, true, true, true, true, true, true, true, false, false, false, false, false, false, false, false] (by kernel_rfl) ?_
            refine eny_two (i := 14) (j := 22) (by kernel_rfl) ?_ ?_
            · obtain ⟨p14, c14, y4, hry4, Ky4, V14y4, q14, hgy4, hvy4⟩ := Ky3.app hMl hm g13 2 (by omega) (by omega) G13y3
              refine wpOp_app rfl rfl (.tmp 32) (.tmp 35) 31 31 rfl (.slice lp i lc) (.slice (some ⟨g13, 0, none⟩) 2 2) rfl rfl hry4 ?_
              have V9y4 := hvy4 _ _ (by omega) V9y3
              refine ⟨.inr (hSb Ky4), ?_⟩
              simp only [Act.put, List.getElem_toArray, List.getElem_cons_zero, List.getElem_cons_succ, List.setIfInBounds_toArray, List.set_cons_zero, List.set_cons_succ]
              clear hry4 hgy4 hvy4
              refine relistE #[true, true, true, true, true, true, true, true, true, true, true, true, true, true, true, true, true, true, true, true, true, true, false, false, false, false, false, false, false, false] (by kernel_rfl) ?_
              refine eny_one (i := 22) (by kernel_rfl) ?_
              refine wpOp_val (v := .slice (some ⟨y4.heap.size, 0, none⟩) 6 6) (w' := y4.alloc (.cells (A8 (repM 6 M)) 25)) rfl rfl (exec_bsl6 M hMl y4 _ _ (.tmp 38) (.tmp 39) (.tmp 40) (.tmp 41) (.tmp 42) (.tmp 43) rfl rfl rfl rfl rfl rfl rfl) ?_
              obtain ⟨Ky5, gy5⟩ := Ky4.build hMl 6
              have by5 : Below y4.heap.size y4 (y4.alloc (.cells (A8 (repM 6 M)) 25)) := (Below.refl _ _).alloc (Nat.le_refl _) _
              refine ⟨.inr (hSb Ky5), ?_⟩
              simp only [Act.put, List.getElem_toArray, List.getElem_cons_zero, List.getElem_cons_succ, List.setIfInBounds_toArray, List.set_cons_zero, List.set_cons_succ]
              have V9y5 := V9y4.kp (kp_of by5 rfl) (fun _ _ x => x)
              have V14y5 := V14y4.kp (kp_of by5 rfl) (fun _ _ x => x)
              obtain ⟨y5, ey5⟩ : ∃ W, y4.alloc (.cells (A8 (repM 6 M)) 25) = W := ⟨_, rfl⟩
              obtain ⟨g22, egy5⟩ : ∃ gk, y4.heap.size = gk := ⟨_, rfl⟩
              rw [ey5] at Ky5 gy5 V9y5 V14y5
              rw [egy5] at gy5
              have G22y5 := gy5
              rw [ey5, egy5]
              clear ey5 egy5 by5 gy5
              refine relistE #[true, true, true, true, true, true, true, true, true, true, true, true, true, true, true, true, true, true, true, true, true, true, true, false, false, false, false, false, false, false] (by kernel_rfl) ?_
              refine eny_one (i := 23) (by kernel_rfl) ?_
              obtain ⟨p23, c23, y6, hry6, Ky6, V23y6, q23, hgy6, hvy6⟩ := Ky5.app hMl hm g22 6 (by omega) (by omega) G22y5
              refine wpOp_app rfl rfl (.tmp 37) (.tmp 44) 31 31 rfl (.slice lp i lc) (.slice (some ⟨g22, 0, none⟩) 6 6) rfl rfl hry6 ?_
              have V9y6 := hvy6 _ _ (by omega) V9y5
              have V14y6 := hvy6 _ _ (by omega) V14y5
              refine ⟨.inr (hSb Ky6), ?_⟩
              simp only [Act.put, List.getElem_toArray, List.getElem_cons_zero, List.getElem_cons_succ, List.setIfInBounds_toArray, List.set_cons_zero, List.set_cons_succ]
              clear hry6 hgy6 hvy6
              refine relistE #[true, true, true, true, true, true, true, true, true, true, true, true, true, true, true, true, true, true, true, true, true, true, true, true, false, false, false, false, false, false] (by kernel_rfl) ?_
              have KM := Ky6
              rw [← HMM.out] at KM V9y6 V14y6 V23y6
              obtain ⟨ga, cap, z3, hr3, hd3, hc3, hf3, hB3, hk3⟩ := keep_end KM hn lp lc rfl p9 p14 p23 c9 c14 c23 V9y6 V14y6 V23y6 q9 q14 q23
              rw [HMM.out] at hd3
              have ka : Below y6.heap.size y6 (y6.alloc (.cells #[.slice lp i lc, .slice p9 (i + 1) c9, .slice p14 (i + 2) c14, .slice p23 (i + 6) c23] 31)) := (Below.refl _ _).alloc (Nat.le_refl _) _
              have kb : Below (y6.alloc (.cells #[.slice lp i lc, .slice p9 (i + 1) c9, .slice p14 (i + 2) c14, .slice p23 (i + 6) c23] 31)).heap.size (y6.alloc (.cells #[.slice lp i lc, .slice p9 (i + 1) c9, .slice p14 (i + 2) c14, .slice p23 (i + 6) c23] 31)) ((y6.alloc (.cells #[.slice lp i lc, .slice p9 (i + 1) c9, .slice p14 (i + 2) c14, .slice p23 (i + 6) c23] 31)).alloc (.cells #[.slice (some ⟨y6.heap.size, 0, none⟩) 4 4] 124)) := (Below.refl _ _).alloc (Nat.le_refl _) _
              have Ka := Ky6.below ka
              have Kb := Ka.below kb
              refine eny_one (i := 24) (by kernel_rfl) ?_
              refine wpOp_val (v := .slice (some ⟨y6.heap.size, 0, none⟩) 4 4) (w' := (y6.alloc (.cells #[.slice lp i lc, .slice p9 (i + 1) c9, .slice p14 (i + 2) c14, .slice p23 (i + 6) c23] 31))) rfl rfl (by go_simp) ?_
              refine ⟨.inr (hSb Ka), ?_⟩
              simp only [Act.put, List.getElem_toArray, List.getElem_cons_zero, List.getElem_cons_succ, List.setIfInBounds_toArray, List.set_cons_zero, List.set_cons_succ]
              refine relistE #[true, true, true, true, true, true, true, true, true, true, true, true, true, true, true, true, true, true, true, true, true, true, true, true, true, false, false, false, false, false] (by kernel_rfl) ?_
              refine eny_one (i := 25) (by kernel_rfl) ?_
              refine wpOp_val (v := .slice (some ⟨(y6.alloc (.cells #[.slice lp i lc, .slice p9 (i + 1) c9, .slice p14 (i + 2) c14, .slice p23 (i + 6) c23] 31)).heap.size, 0, none⟩) 1 1) (w' := ((y6.alloc (.cells #[.slice lp i lc, .slice p9 (i + 1) c9, .slice p14 (i + 2) c14, .slice p23 (i + 6) c23] 31)).alloc (.cells #[.slice (some ⟨y6.heap.size, 0, none⟩) 4 4] 124))) rfl rfl (by go_simp) ?_
              refine ⟨.inr (hSb Kb), ?_⟩
              simp only [Act.put, List.getElem_toArray, List.getElem_cons_zero, List.getElem_cons_succ, List.setIfInBounds_toArray, List.set_cons_zero, List.set_cons_succ]
              refine relistE #[true, true, true, true, true, true, true, true, true, true, true, true, true, true, true, true, true, true, true, true, true, true, true, true, true, true, false, false, false, false] (by kernel_rfl) ?_
              refine eny_one (i := 26) (by kernel_rfl) ?_
              refine wpOp_app rfl rfl (.tmp 26) (.tmp 47) 51 51 rfl (.slice bp n bc) (.slice (some ⟨(y6.alloc (.cells #[.slice lp i lc, .slice p9 (i + 1) c9, .slice p14 (i + 2) c14, .slice p23 (i + 6) c23] 31)).heap.size, 0, none⟩) 1 1) rfl rfl hr3 ?_
              refine ⟨.inr ⟨hd3, hc3⟩, ?_⟩
              simp only [Act.put, List.getElem_toArray, List.getElem_cons_zero, List.getElem_cons_succ, List.setIfInBounds_toArray, List.set_cons_zero, List.set_cons_succ]
              refine relistE #[true, true, true, true, true, true, true, true, true, true, true, true, true, true, true, true, true, true, true, true, true, true, true, true, true, true, true, false, false, false] (by kernel_rfl) ?_
              refine eny_one (i := 27) (by kernel_rfl) ?_
              refine wpOp_val (v := .pointer (some ⟨gb, 0, none⟩)) (w' := z3) rfl rfl (by go_simp) ?_
              refine ⟨.inr ⟨hd3, hc3⟩, ?_⟩
              simp only [Act.put, List.getElem_toArray, List.getElem_cons_zero, List.getElem_cons_succ, List.setIfInBounds_toArray, List.set_cons_zero, List.set_cons_succ]
              refine relistE #[true, true, true, true, true, true, true, true, true, true, true, true, true, true, true, true, true, true, true, true, true, true, true, true, true, true, true, true, false, false] (by kernel_rfl) ?_
              refine eny_one (i := 28) (by kernel_rfl) ?_
              refine wpOp_val (v := .pointer (some ⟨gb, 0, none⟩)) (w' := z3) rfl rfl (by go_simp) ?_
              refine ⟨.inr ⟨hd3, hc3⟩, ?_⟩
              simp only [Act.put, List.getElem_toArray, List.getElem_cons_zero, List.getElem_cons_succ, List.setIfInBounds_toArray, List.set_cons_zero, List.set_cons_succ]
              refine relistE #[true, true, true, true, true, true, true, true, true, true, true, true, true, true, true, true, true, true, true, true, true, true, true, true, true, true, true, true, true, false] (by kernel_rfl) ?_
              refine eny_one (i := 29) (by kernel_rfl) ?_
              refine wpOp_skip (w' := z3.setCell ⟨gb, 0, none⟩ (.slice (some ⟨ga, 0, none⟩) (n + 1) cap)) rfl rfl (by go_simp) ?_
              refine ⟨.inl rfl, ?_⟩
              simp only [Act.put, List.getElem_toArray, List.getElem_cons_zero, List.getElem_cons_succ, List.setIfInBounds_toArray, List.set_cons_zero, List.set_cons_succ]
              refine wpAnyE_done (by kernel_rfl) ?_ _
              refine NoPanic.normal ?_
              have HB3 : Hid _ := hB3
              have HK3 : Hid _ := (kp_of bU rfl).trans hk3
              clear hr3 hc3 hf3 hB3 hk3 ka kb Ka Kb KM hd3
              generalize z3.setCell ⟨gb, 0, none⟩ (.slice (some ⟨ga, 0, none⟩) (n + 1) cap) = zz at *
              go_wp2_with fail
              first | exact ⟨rfl, _, results_none rfl _ _ _, rfl, ⟨_, HB3.out⟩, HK3.out⟩ | exact ⟨rfl, _, results_none rfl _ _ _, rfl, _, HB3.out, HK3.out⟩
            · refine wpOp_val (v := .slice (some ⟨y3.heap.size, 0, none⟩) 6 6) (w' := y3.alloc (.cells (A8 (repM 6 M)) 25)) rfl rfl (exec_bsl6 M hMl y3 _ _ (.tmp 38) (.tmp 39) (.tmp 40) (.tmp 41) (.tmp 42) (.tmp 43) rfl rfl rfl rfl rfl rfl rfl) ?_
              obtain ⟨Ky7, gy7⟩ := Ky3.build hMl 6
              have by7 : Below y3.heap.size y3 (y3.alloc (.cells (A8 (repM 6 M)) 25)) := (Below.refl _ _).alloc (Nat.le_refl _) _
              refine ⟨.inr (hSb Ky7), ?_⟩
              simp only [Act.put, List.getElem_toArray, List.getElem_cons_zero, List.getElem_cons_succ, List.setIfInBounds_toArray, List.set_cons_zero, List.set_cons_succ]
              have G13y7 := G13y3.kp (kp_of by7 rfl) (fun x => x)
              have V9y7 := V9y3.kp (kp_of by7 rfl) (fun _ _ x => x)
              obtain ⟨y7, ey7⟩ : ∃ W, y3.alloc (.cells (A8 (repM 6 M)) 25) = W := ⟨_, rfl⟩
              obtain ⟨g22, egy7⟩ : ∃ gk, y3.heap.size = gk := ⟨_, rfl⟩
              rw [ey7] at Ky7 gy7 G13y7 V9y7
              rw [egy7] at gy7
              have G22y7 := gy7
              rw [ey7, egy7]
              clear ey7 egy7 by7 gy7
              refine relistE #[true, true, true, true, true, true, true, true, true, true, true, true, true, true, false, true, true, true, true, true, true, true, true, false, false, false, false, false, false, false] (by kernel_rfl) ?_
              refine eny_one (i := 14) (by kernel_rfl) ?_
              obtain ⟨p14, c14, y8, hry8, Ky8, V14y8, q14, hgy8, hvy8⟩ := Ky7.app hMl hm g13 2 (by omega) (by omega) G13y7
              refine wpOp_app rfl rfl (.tmp 32) (.tmp 35) 31 31 rfl (.slice lp i lc) (.slice (some ⟨g13, 0, none⟩) 2 2) rfl rfl hry8 ?_
              have G22y8 := hgy8 _ _ G22y7
              have V9y8 := hvy8 _ _ (by omega) V9y7
              refine ⟨.inr (hSb Ky8), ?_⟩
              simp only [Act.put, List.getElem_toArray, List.getElem_cons_zero, List.getElem_cons_succ, List.setIfInBounds_toArray, List.set_cons_zero, List.set_cons_succ]
              clear hry8 hgy8 hvy8
              refine relistE #[true, true, true, true, true, true, true, true, true, true, true, true, true, true, true, true, true, true, true, true, true, true, true, false, false, false, false, false, false, false] (by kernel_rfl) ?_
              refine eny_one (i := 23) (by kernel_rfl) ?_
              obtain ⟨p23, c23, y9, hry9, Ky9, V23y9, q23, hgy9, hvy9⟩ := Ky8.app hMl hm g22 6 (by omega) (by omega) G22y8
              refine wpOp_app rfl rfl (.tmp 37) (.tmp 44) 31 31 rfl (.slice lp i lc) (.slice (some ⟨g22, 0, none⟩) 6 6) rfl rfl hry9 ?_
              have V9y9 := hvy9 _ _ (by omega) V9y8
              have V14y9 := hvy9 _ _ (by omega) V14y8
              refine ⟨.inr (hSb Ky9), ?_⟩
              simp only [Act.put, List.getElem_toArray, List.getElem_cons_zero, List.getElem_cons_succ, List.setIfInBounds_toArray, List.set_cons_zero, List.set_cons_succ]
              clear hry9 hgy9 hvy9
              refine relistE #[true, true, true, true, true, true, true, true, true, true, true, true, true, true, true, true, true, true, true, true, true, true, true, true, false, false, false, false, false, false] (by kernel_rfl) ?_
              have KM := Ky9
              rw [← HMM.out] at KM V9y9 V14y9 V23y9
              obtain ⟨ga, cap, z3, hr3, hd3, hc3, hf3, hB3, hk3⟩ := keep_end KM hn lp lc rfl p9 p14 p23 c9 c14 c23 V9y9 V14y9 V23y9 q9 q14 q23
              rw [HMM.out] at hd3
              have ka : Below y9.heap.size y9 (y9.alloc (.cells #[.slice lp i lc, .slice p9 (i + 1) c9, .slice p14 (i + 2) c14, .slice p23 (i + 6) c23] 31)) := (Below.refl _ _).alloc (Nat.le_refl _) _
              have kb : Below (y9.alloc (.cells #[.slice lp i lc, .slice p9 (i + 1) c9, .slice p14 (i + 2) c14, .slice p23 (i + 6) c23] 31)).heap.size (y9.alloc (.cells #[.slice lp i lc, .slice p9 (i + 1) c9, .slice p14 (i + 2) c14, .slice p23 (i + 6) c23] 31)) ((y9.alloc (.cells #[.slice lp i lc, .slice p9 (i + 1) c9, .slice p14 (i + 2) c14, .slice p23 (i + 6) c23] 31)).alloc (.cells #[.slice (some ⟨y9.heap.size, 0, none⟩) 4 4] 124)) := (Below.refl _ _).alloc (Nat.le_refl _) _
              have Ka := Ky9.below ka
              have Kb := Ka.below kb
              refine eny_one (i := 24) (by kernel_rfl) ?_
              refine wpOp_val (v := .slice (some ⟨y9.heap.size, 0, none⟩) 4 4) (w' := (y9.alloc (.cells #[.slice lp i lc, .slice p9 (i + 1) c9, .slice p14 (i + 2) c14, .slice p23 (i + 6) c23] 31))) rfl rfl (by go_simp) ?_
              refine ⟨.inr (hSb Ka), ?_⟩
              simp only [Act.put, List.getElem_toArray, List.getElem_cons_zero, List.getElem_cons_succ, List.setIfInBounds_toArray, List.set_cons_zero, List.set_cons_succ]
              refine relistE #[true, true, true, true, true, true, true, true, true, true, true, true, true, true, true, true, true, true, true, true, true, true, true, true, true, false, false, false, false, false] (by kernel_rfl) ?_
              refine eny_one (i := 25) (by kernel_rfl) ?_
              refine wpOp_val (v := .slice (some ⟨(y9.alloc (.cells #[.slice lp i lc, .slice p9 (i + 1) c9, .slice p14 (i + 2) c14, .slice p23 (i + 6) c23] 31)).heap.size, 0, none⟩) 1 1) (w' := ((y9.alloc (.cells #[.slice lp i lc, .slice p9 (i + 1) c9, .slice p14 (i + 2) c14, .slice p23 (i + 6) c23] 31)).alloc (.cells #[.slice (some ⟨y9.heap.size, 0, none⟩) 4 4] 124))) rfl rfl (by go_simp) ?_
              refine ⟨.inr (hSb Kb), ?_⟩
              simp only [Act.put, List.getElem_toArray, List.getElem_cons_zero, List.getElem_cons_succ, List.setIfInBounds_toArray, List.set_cons_zero, List.set_cons_succ]
              refine relistE #[true, true, true, true, true, true, true, true, true, true, true, true, true, true, true, true, true, true, true, true, true, true, true, true, true, true, false, false, false, false] (by kernel_rfl) ?_
              refine eny_one (i := 26) (by kernel_rfl) ?_
              refine wpOp_app rfl rfl (.tmp 26) (.tmp 47) 51 51 rfl (.slice bp n bc) (.slice (some ⟨(y9.alloc (.cells #[.slice lp i lc, .slice p9 (i + 1) c9, .slice p14 (i + 2) c14, .slice p23 (i + 6) c23] 31)).heap.size, 0, none⟩) 1 1) rfl rfl hr3 ?_
              refine ⟨.inr ⟨hd3, hc3⟩, ?_⟩
              simp only [Act.put, List.getElem_toArray, List.getElem_cons_zero, List.getElem_cons_succ, List.setIfInBounds_toArray, List.set_cons_zero, List.set_cons_succ]
              refine relistE #[true, true, true, true, true, true, true, true, true, true, true, true, true, true, true, true, true, true, true, true, true, true, true, true, true, true, true, false, false, false] (by kernel_rfl) ?_
              refine eny_one (i := 27) (by kernel_rfl) ?_
              refine wpOp_val (v := .pointer (some ⟨gb, 0, none⟩)) (w' := z3) rfl rfl (by go_simp) ?_
              refine ⟨.inr ⟨hd3, hc3⟩, ?_⟩
              simp only [Act.put, List.getElem_toArray, List.getElem_cons_zero, List.getElem_cons_succ, List.setIfInBounds_toArray, List.set_cons_zero, List.set_cons_succ]
              refine relistE #[true, true, true, true, true, true, true, true, true, true, true, true, true, true, true, true, true, true, true, true, true, true, true, true, true, true, true, true, false, false] (by kernel_rfl) ?_
              refine eny_one (i := 28) (by kernel_rfl) ?_
              refine wpOp_val (v := .pointer (some ⟨gb, 0, none⟩)) (w' := z3) rfl rfl (by go_simp) ?_
              refine ⟨.inr ⟨hd3, hc3⟩, ?_⟩
              simp only [Act.put, List.getElem_toArray, List.getElem_cons_zero, List.getElem_cons_succ, List.setIfInBounds_toArray, List.set_cons_zero, List.set_cons_succ]
              refine relistE #[true, true, true, true, true, true, true, true, true, true, true, true, true, true, true, true, true, true, true, true, true, true, true, true, true, true, true, true, true, false] (by kernel_rfl) ?_
              refine eny_one (i := 29) (by kernel_rfl) ?_
              refine wpOp_skip (w' := z3.setCell ⟨gb, 0, none⟩ (.slice (some ⟨ga, 0, none⟩) (n + 1) cap)) rfl rfl (by go_simp) ?_
              refine ⟨.inl rfl, ?_⟩
              simp only [Act.put, List.getElem_toArray, List.getElem_cons_zero, List.getElem_cons_succ, List.setIfInBounds_toArray, List.set_cons_zero, List.set_cons_succ]
              refine wpAnyE_done (by kernel_rfl) ?_ _
              refine NoPanic.normal ?_
              have HB3 : Hid _ := hB3
              have HK3 : Hid _ := (kp_of bU rfl).trans hk3
              clear hr3 hc3 hf3 hB3 hk3 ka kb Ka Kb KM hd3
              generalize z3.setCell ⟨gb, 0, none⟩ (.slice (some ⟨ga, 0, none⟩) (n + 1) cap) = zz at *
              go_wp2_with fail
              first | exact ⟨rfl, _, results_none rfl _ _ _, rfl, ⟨_, HB3.out⟩, HK3.out⟩ | exact ⟨rfl, _, results_none rfl _ _ _, rfl, _, HB3.out, HK3.out⟩
          · refine wpOp_val (v := .slice (some ⟨y2.heap.size, 0, none⟩) 6 6) (w' := y2.alloc (.cells (A8 (repM 6 M)) 25)) rfl rfl (exec_bsl6 M hMl y2 _ _ (.tmp 38) (.tmp 39) (.tmp 40) (.tmp 41) (.tmp 42) (.tmp 43) rfl rfl rfl rfl rfl rfl rfl) ?_
            obtain ⟨Ky10, gy10⟩ := Ky2.build hMl 6
            have by10 : Below y2.heap.size y2 (y2.alloc (.cells (A8 (repM 6 M)) 25)) := (Below.refl _ _).alloc (Nat.le_refl _) _
            refine ⟨.inr (hSb Ky10), ?_⟩
            simp only [Act.put, List.getElem_toArray, List.getElem_cons_zero, List.getElem_cons_succ, List.setIfInBounds_toArray, List.set_cons_zero, List.set_cons_succ]
            have V9y10 := V9y2.kp (kp_of by10 rfl) (fun _ _ x => x)
            obtain ⟨y10, ey10⟩ : ∃ W, y2.alloc (.cells (A8 (repM 6 M)) 25) = W := ⟨_, rfl⟩
            obtain ⟨g22, egy10⟩ : ∃ gk, y2.heap.size = gk := ⟨_, rfl⟩
            rw [ey10] at Ky10 gy10 V9y10
            rw [egy10] at gy10
            have G22y10 := gy10
            rw [ey10, egy10]
            clear ey10 egy10 by10 gy10
            refine relistE #[true, true, true, true, true, true, true, true, true, true, true, true, true, false, false, true, true, true, true, true, true, true, true, false, false, false, false, false, false, false] (by kernel_rfl) ?_
            refine eny_one (i := 13) (by kernel_rfl) ?_
            refine wpOp_val (v := .slice (some ⟨y10.heap.size, 0, none⟩) 2 2) (w' := y10.alloc (.cells (A8 (repM 2 M)) 25)) rfl rfl (exec_bsl2 M hMl y10 _ _ (.tmp 33) (.tmp 34) rfl rfl rfl) ?_
            obtain ⟨Ky11, gy11⟩ := Ky10.build hMl 2
            have by11 : Below y10.heap.size y10 (y10.alloc (.cells (A8 (repM 2 M)) 25)) := (Below.refl _ _).alloc (Nat.le_refl _) _
            refine ⟨.inr (hSb Ky11), ?_⟩
            simp only [Act.put, List.getElem_toArray, List.getElem_cons_zero, List.getElem_cons_succ, List.setIfInBounds_toArray, List.set_cons_zero, List.set_cons_succ]
            have G22y11 := G22y10.kp (kp_of by11 rfl) (fun x => x)
            have V9y11 := V9y10.kp (kp_of by11 rfl) (fun _ _ x => x)
            obtain ⟨y11, ey11⟩ : ∃ W, y10.alloc (.cells (A8 (repM 2 M)) 25) = W := ⟨_, rfl⟩
            obtain ⟨g13, egy11⟩ : ∃ gk, y10.heap.size = gk := ⟨_, rfl⟩
            rw [ey11] at Ky11 gy11 G22y11 V9y11
            rw [egy11] at gy11
            have G13y11 := gy11
            rw [ey11, egy11]
            clear ey11 egy11 by11 gy11
            refine relistE #[true, true, true, true, true, true, true, true, true, true, true, true, true, true, false, true, true, true, true, true, true, true, true, false, false, false, false, false, false, false] (by kernel_rfl) ?_
            refine eny_one (i := 14) (by kernel_rfl) ?_
            obtain ⟨p14, c14, y12, hry12, Ky12, V14y12, q14, hgy12, hvy12⟩ := Ky11.app hMl hm g13 2 (by omega) (by omega) G13y11
            refine wpOp_app rfl rfl (.tmp 32) (.tmp 35) 31 31 rfl (.slice lp i lc) (.slice (some ⟨g13, 0, none⟩) 2 2) rfl rfl hry12 ?_
            have G22y12 := hgy12 _ _ G22y11
            have V9y12 := hvy12 _ _ (by omega) V9y11
            refine ⟨.inr (hSb Ky12), ?_⟩
            simp only [Act.put, List.getElem_toArray, List.getElem_cons_zero, List.getElem_cons_succ, List.setIfInBounds_toArray, List.set_cons_zero, List.set_cons_succ]
            clear hry12 hgy12 hvy12
            refine relistE #[true, true, true, true, true, true, true, true, true, true, true, true, true, true, true, true, true, true, true, true, true, true, true, false, false, false, false, false, false, false] (by kernel_rfl) ?_
            refine eny_one (i := 23) (by kernel_rfl) ?_
            obtain ⟨p23, c23, y13, hry13, Ky13, V23y13, q23, hgy13, hvy13⟩ := Ky12.app hMl hm g22 6 (by omega) (by omega) G22y12
            refine wpOp_app rfl rfl (.tmp 37) (.tmp 44) 31 31 rfl (.slice lp i lc) (.slice (some ⟨g22, 0, none⟩) 6 6) rfl rfl hry13 ?_
            have V9y13 := hvy13 _ _ (by omega) V9y12
            have V14y13 := hvy13 _ _ (by omega) V14y12
            refine ⟨.inr (hSb Ky13), ?_⟩
            simp only [Act.put, List.getElem_toArray, List.getElem_cons_zero, List.getElem_cons_succ, List.setIfInBounds_toArray, List.set_cons_zero, List.set_cons_succ]
            clear hry13 hgy13 hvy13
            refine relistE #[true, true, true, true, true, true, true, true, true, true, true, true, true, true, true, true, true, true, true, true, true, true, true, true, false, false, false, false, false, false] (by kernel_rfl) ?_
            have KM := Ky13
            rw [← HMM.out] at KM V9y13 V14y13 V23y13
            obtain ⟨ga, cap, z3, hr3, hd3, hc3, hf3, hB3, hk3⟩ := keep_end KM hn lp lc rfl p9 p14 p23 c9 c14 c23 V9y13 V14y13 V23y13 q9 q14 q23
            rw [HMM.out] at hd3
            have ka : Below y13.heap.size y13 (y13.alloc (.cells #[.slice lp i lc, .slice p9 (i + 1) c9, .slice p14 (i + 2) c14, .slice p23 (i + 6) c23] 31)) := (Below.refl _ _).alloc (Nat.le_refl _) _
            have kb : Below (y13.alloc (.cells #[.slice lp i lc, .slice p9 (i + 1) c9, .slice p14 (i + 2) c14, .slice p23 (i + 6) c23] 31)).heap.size (y13.alloc (.cells #[.slice lp i lc, .slice p9 (i + 1) c9, .slice p14 (i + 2) c14, .slice p23 (i + 6) c23] 31)) ((y13.alloc (.cells #[.slice lp i lc, .slice p9 (i + 1) c9, .slice p14 (i + 2) c14, .slice p23 (i + 6) c23] 31)).alloc (.cells #[.slice (some ⟨y13.heap.size, 0, none⟩) 4 4] 124)) := (Below.refl _ _).alloc (Nat.le_refl _) _
            have Ka := Ky13.below ka
            have Kb := Ka.below kb
            refine eny_one (i := 24) (by kernel_rfl) ?_
            refine wpOp_val (v := .slice (some ⟨y13.heap.size, 0, none⟩) 4 4) (w' := (y13.alloc (.cells #[.slice lp i lc, .slice p9 (i + 1) c9, .slice p14 (i + 2) c14, .slice p23 (i + 6) c23] 31))) rfl rfl (by go_simp) ?_
            refine ⟨.inr (hSb Ka), ?_⟩
            simp only [Act.put, List.getElem_toArray, List.getElem_cons_zero, List.getElem_cons_succ, List.setIfInBounds_toArray, List.set_cons_zero, List.set_cons_succ]
            refine relistE #[true, true, true, true, true, true, true, true, true, true, true, true, true, true, true, true, true, true, true, true, true, true, true, true, true, false, false, false, false, false] (by kernel_rfl) ?_
            refine eny_one (i := 25) (by kernel_rfl) ?_
            refine wpOp_val (v := .slice (some ⟨(y13.alloc (.cells #[.slice lp i lc, .slice p9 (i + 1) c9, .slice p14 (i + 2) c14, .slice p23 (i + 6) c23] 31)).heap.size, 0, none⟩) 1 1) (w' := ((y13.alloc (.cells #[.slice lp i lc, .slice p9 (i + 1) c9, .slice p14 (i + 2) c14, .slice p23 (i + 6) c23] 31)).alloc (.cells #[.slice (some ⟨y13.heap.size, 0, none⟩) 4 4] 124))) rfl rfl (by go_simp) ?_
            refine ⟨.inr (hSb Kb), ?_⟩
            simp only [Act.put, List.getElem_toArray, List.getElem_cons_zero, List.getElem_cons_succ, List.setIfInBounds_toArray, List.set_cons_zero, List.set_cons_succ]
            refine relistE #[true, true, true, true, true, true, true, true, true, true, true, true, true, true, true, true, true, true, true, true, true, true, true, true, true, true, false, false, false, false] (by kernel_rfl) ?_
            refine eny_one (i := 26) (by kernel_rfl) ?_
            refine wpOp_app rfl rfl (.tmp 26) (.tmp 47) 51 51 rfl (.slice bp n bc) (.slice (some ⟨(y13.alloc (.cells #[.slice lp i lc, .slice p9 (i + 1) c9, .slice p14 (i + 2) c14, .slice p23 (i + 6) c23] 31)).heap.size, 0, none⟩) 1 1) rfl rfl hr3 ?_
            refine ⟨.inr ⟨hd3, hc3⟩, ?_⟩
            simp only [Act.put, List.getElem_toArray, List.getElem_cons_zero, List.getElem_cons_succ, List.setIfInBounds_toArray, List.set_cons_zero, List.set_cons_succ]
            refine relistE #[true, true, true, true, true, true, true, true, true, true, true, true, true, true, true, true, true, true, true, true, true, true, true, true, true, true, true, false, false, false] (by kernel_rfl) ?_
            refine eny_one (i := 27) (by kernel_rfl) ?_
            refine wpOp_val (v := .pointer (some ⟨gb, 0, none⟩)) (w' := z3) rfl rfl (by go_simp) ?_
            refine ⟨.inr ⟨hd3, hc3⟩, ?_⟩
            simp only [Act.put, List.getElem_toArray, List.getElem_cons_zero, List.getElem_cons_succ, List.setIfInBounds_toArray, List.set_cons_zero, List.set_cons_succ]
            refine relistE #[true, true, true, true, true, true, true, true, true, true, true, true, true, true, true, true, true, true, true, true, true, true, true, true, true, true, true, true, false, false] (by kernel_rfl) ?_
            refine eny_one (i := 28) (by kernel_rfl) ?_
            refine wpOp_val (v := .pointer (some ⟨gb, 0, none⟩)) (w' := z3) rfl rfl (by go_simp) ?_
            refine ⟨.inr ⟨hd3, hc3⟩, ?_⟩
            simp only [Act.put, List.getElem_toArray, List.getElem_cons_zero, List.getElem_cons_succ, List.setIfInBounds_toArray, List.set_cons_zero, List.set_cons_succ]
            refine relistE #[true, true, true, true, true, true, true, true, true, true, true, true, true, true, true, true, true, true, true, true, true, true, true, true, true, true, true, true, true, false] (by kernel_rfl) ?_
            refine eny_one (i := 29) (by kernel_rfl) ?_
            refine wpOp_skip (w' := z3.setCell ⟨gb, 0, none⟩ (.slice (some ⟨ga, 0, none⟩) (n + 1) cap)) rfl rfl (by go_simp) ?_
            refine ⟨.inl rfl, ?_⟩
            simp only [Act.put, List.getElem_toArray, List.getElem_cons_zero, List.getElem_cons_succ, List.setIfInBounds_toArray, List.set_cons_zero, List.set_cons_succ]
            refine wpAnyE_done (by kernel_rfl) ?_ _
            refine NoPanic.normal ?_
            have HB3 : Hid _ := hB3
            have HK3 : Hid _ := (kp_of bU rfl).trans hk3
            clear hr3 hc3 hf3 hB3 hk3 ka kb Ka Kb KM hd3
            generalize z3.setCell ⟨gb, 0, none⟩ (.slice (some ⟨ga, 0, none⟩) (n + 1) cap) = zz at *
            go_wp2_with fail
            first | exact ⟨rfl, _, results_none rfl _ _ _, rfl, ⟨_, HB3.out⟩, HK3.out⟩ | exact ⟨rfl, _, results_none rfl _ _ _, rfl, _, HB3.out, HK3.out⟩
        · refine wpOp_val (v := .slice (some ⟨y1.heap.size, 0, none⟩) 2 2) (w' := y1.alloc (.cells (A8 (repM 2 M)) 25)) rfl rfl (exec_bsl2 M hMl y1 _ _ (.tmp 33) (.tmp 34) rfl rfl rfl) ?_
          obtain ⟨Ky14, gy14⟩ := Ky1.build hMl 2
          have by14 : Below y1.heap.size y1 (y1.alloc (.cells (A8 (repM 2 M)) 25)) := (Below.refl _ _).alloc (Nat.le_refl _) _
          refine ⟨.inr (hSb Ky14), ?_⟩
          simp only [Act.put, List.getElem_toArray, List.getElem_cons_zero, List.getElem_cons_succ, List.setIfInBounds_toArray, List.set_cons_zero, List.set_cons_succ]
          have G8y14 := G8y1.kp (kp_of by14 rfl) (fun x => x)
          obtain ⟨y14, ey14⟩ : ∃ W, y1.alloc (.cells (A8 (repM 2 M)) 25) = W := ⟨_, rfl⟩
          obtain ⟨g13, egy14⟩ : ∃ gk, y1.heap.size = gk := ⟨_, rfl⟩
          rw [ey14] at Ky14 gy14 G8y14
          rw [egy14] at gy14
          have G13y14 := gy14
          rw [ey14, egy14]
          clear ey14 egy14 by14 gy14
          refine relistE #[true, true, true, true, true, true, true, true, true, false, true, true, true, true, false, true, true, true, true, true, true, true, false, false, false, false, false, false, false, false] (by kernel_rfl) ?_
          refine eny_two (i := 9) (j := 22) (by kernel_rfl) ?_ ?_
          · obtain ⟨p9, c9, y15, hry15, Ky15, V9y15, q9, hgy15, hvy15⟩ := Ky14.app hMl hm g8 1 (by omega) (by omega) G8y14
            refine wpOp_app rfl rfl (.tmp 28) (.tmp 30) 31 31 rfl (.slice lp i lc) (.slice (some ⟨g8, 0, none⟩) 1 1) rfl rfl hry15 ?_
            have G13y15 := hgy15 _ _ G13y14
            refine ⟨.inr (hSb Ky15), ?_⟩
            simp only [Act.put, List.getElem_toArray, List.getElem_cons_zero, List.getElem_cons_succ, List.setIfInBounds_toArray, List.set_cons_zero, List.set_cons_succ]
            clear hry15 hgy15 hvy15
            refine relistE #[true, true, true, true, true, true, true, true, true, true, true, true, true, true, false, true, true, true, true, true, true, true, false, false, false, false, false, false, false, false] (by kernel_rfl) ?_
            refine eny_two (i := 14) (j := 22) (by kernel_rfl) ?_ ?_
            · obtain ⟨p14, c14, y16, hry16, Ky16, V14y16, q14, hgy16, hvy16⟩ := Ky15.app hMl hm g13 2 (by omega) (by omega) G13y15
              refine wpOp_app rfl rfl (.tmp 32) (.tmp 35) 31 31 rfl (.slice lp i lc) (.slice (some ⟨g13, 0, none⟩) 2 2) rfl rfl hry16 ?_
              have V9y16 := hvy16 _ _ (by omega) V9y15
              refine ⟨.inr (hSb Ky16), ?_⟩
              simp only [Act.put, List.getElem_toArray, List.getElem_cons_zero, List.getElem_cons_succ, List.setIfInBounds_toArray, List.set_cons_zero, List.set_cons_succ]
              clear hry16 hgy16 hvy16
              refine relistE #[true, true, true, true, true, true, true, true, true, true, true, true, true, true, true, true, true, true, true, true, true, true, false, false, false, false, false, false, false, false] (by kernel_rfl) ?_
              refine eny_one (i := 22) (by kernel_rfl) ?_
              refine wpOp_val (v := .slice (some ⟨y16.heap.size, 0, none⟩) 6 6) (w' := y16.alloc (.cells (A8 (repM 6 M)) 25)) rfl rfl (exec_bsl6 M hMl y16 _ _ (.tmp 38) (.tmp 39) (.tmp 40) (.tmp 41) (.tmp 42) (.tmp 43) rfl rfl rfl rfl rfl rfl rfl) ?_
              obtain ⟨Ky17, gy17⟩ := Ky16.build hMl 6
              have by17 : Below y16.heap.size y16 (y16.alloc (.cells (A8 (repM 6 M)) 25)) := (Below.refl _ _).alloc (Nat.le_refl _) _
              refine ⟨.inr (hSb Ky17), ?_⟩
              simp only [Act.put, List.getElem_toArray, List.getElem_cons_zero, List.getElem_cons_succ, List.setIfInBounds_toArray, List.set_cons_zero, List.set_cons_succ]
              have V9y17 := V9y16.kp (kp_of by17 rfl) (fun _ _ x => x)
              have V14y17 := V14y16.kp (kp_of by17 rfl) (fun _ _ x => x)
              obtain ⟨y17, ey17⟩ : ∃ W, y16.alloc (.cells (A8 (repM 6 M)) 25) = W := ⟨_, rfl⟩
              obtain ⟨g22, egy17⟩ : ∃ gk, y16.heap.size = gk := ⟨_, rfl⟩
              rw [ey17] at Ky17 gy17 V9y17 V14y17
              rw [egy17] at gy17
              have G22y17 := gy17
              rw [ey17, egy17]
              clear ey17 egy17 by17 gy17
              refine relistE #[true, true, true, true, true, true, true, true, true, true, true, true, true, true, true, true, true, true, true, true, true, true, true, false, false, false, false, false, false, false] (by kernel_rfl) ?_
              refine eny_one (i := 23) (by kernel_rfl) ?_
              obtain ⟨p23, c23, y18, hry18, Ky18, V23y18, q23, hgy18, hvy18⟩ := Ky17.app hMl hm g22 6 (by omega) (by omega) G22y17
              refine wpOp_app rfl rfl (.tmp 37) (.tmp 44) 31 31 rfl (.slice lp i lc) (.slice (some ⟨g22, 0, none⟩) 6 6) rfl rfl hry18 ?_
              have V9y18 := hvy18 _ _ (by omega) V9y17
              have V14y18 := hvy18 _ _ (by omega) V14y17
              refine ⟨.inr (hSb Ky18), ?_⟩
              simp only [Act.put, List.getElem_toArray, List.getElem_cons_zero, List.getElem_cons_succ, List.setIfInBounds_toArray, List.set_cons_zero, List.set_cons_succ]
              clear hry18 hgy18 hvy18
              refine relistE #[true, true, true, true, true, true, true, true, true, true, true, true, true, true, true, true, true, true, true, true, true, true, true, true, false, false, false, false, false, false] (by kernel_rfl) ?_
              have KM := Ky18
              rw [← HMM.out] at KM V9y18 V14y18 V23y18
              obtain ⟨ga, cap, z3, hr3, hd3, hc3, hf3, hB3, hk3⟩ := keep_end KM hn lp lc rfl p9 p14 p23 c9 c14 c23 V9y18 V14y18 V23y18 q9 q14 q23
              rw [HMM.out] at hd3
              have ka : Below y18.heap.size y18 (y18.alloc (.cells #[.slice lp i lc, .slice p9 (i + 1) c9, .slice p14 (i + 2) c14, .slice p23 (i + 6) c23] 31)) := (Below.refl _ _).alloc (Nat.le_refl _) _
              have kb : Below (y18.alloc (.cells #[.slice lp i lc, .slice p9 (i + 1) c9, .slice p14 (i + 2) c14, .slice p23 (i + 6) c23] 31)).heap.size (y18.alloc (.cells #[.slice lp i lc, .slice p9 (i + 1) c9, .slice p14 (i + 2) c14, .slice p23 (i + 6) c23] 31)) ((y18.alloc (.cells #[.slice lp i lc, .slice p9 (i + 1) c9, .slice p14 (i + 2) c14, .slice p23 (i + 6) c23] 31)).alloc (.cells #[.slice (some ⟨y18.heap.size, 0, none⟩) 4 4] 124)) := (Below.refl _ _).alloc (Nat.le_refl _) _
              have Ka := Ky18.below ka
              have Kb := Ka.below kb
              refine eny_one (i := 24) (by kernel_rfl) ?_
              refine wpOp_val (v := .slice (some ⟨y18.heap.size, 0, none⟩) 4 4) (w' := (y18.alloc (.cells #[.slice lp i lc, .slice p9 (i + 1) c9, .slice p14 (i + 2) c14, .slice p23 (i + 6) c23] 31))) rfl rfl (by go_simp) ?_
              refine ⟨.inr (hSb Ka), ?_⟩
              simp only [Act.put, List.getElem_toArray, List.getElem_cons_zero, List.getElem_cons_succ, List.setIfInBounds_toArray, List.set_cons_zero, List.set_cons_succ]
              refine relistE #[true, true, true, true, true, true, true, true, true, true, true, true, true, true, true, true, true, true, true, true, true, true, true, true, true, false, false, false, false, false] (by kernel_rfl) ?_
              refine eny_one (i := 25) (by kernel_rfl) ?_
              refine wpOp_val (v := .slice (some ⟨(y18.alloc (.cells #[.slice lp i lc, .slice p9 (i + 1) c9, .slice p14 (i + 2) c14, .slice p23 (i + 6) c23] 31)).heap.size, 0, none⟩) 1 1) (w' := ((y18.alloc (.cells #[.slice lp i lc, .slice p9 (i + 1) c9, .slice p14 (i + 2) c14, .slice p23 (i + 6) c23] 31)).alloc (.cells #[.slice (some ⟨y18.heap.size, 0, none⟩) 4 4] 124))) rfl rfl (by go_simp) ?_
              refine ⟨.inr (hSb Kb), ?_⟩
              simp only [Act.put, List.getElem_toArray, List.getElem_cons_zero, List.getElem_cons_succ, List.setIfInBounds_toArray, List.set_cons_zero, List.set_cons_succ]
              refine relistE #[true, true, true, true, true, true, true, true, true, true, true, true, true, true, true, true, true, true, true, true, true, true, true, true, true, true, false, false, false, false] (by kernel_rfl) ?_
              refine eny_one (i := 26) (by kernel_rfl) ?_
              refine wpOp_app rfl rfl (.tmp 26) (.tmp 47) 51 51 rfl (.slice bp n bc) (.slice (some ⟨(y18.alloc (.cells #[.slice lp i lc, .slice p9 (i + 1) c9, .slice p14 (i + 2) c14, .slice p23 (i + 6) c23] 31)).heap.size, 0, none⟩) 1 1) rfl rfl hr3 ?_
              refine ⟨.inr ⟨hd3, hc3⟩, ?_⟩
              simp only [Act.put, List.getElem_toArray, List.getElem_cons_zero, List.getElem_cons_succ, List.setIfInBounds_toArray, List.set_cons_zero, List.set_cons_succ]
              refine relistE #[true, true, true, true, true, true, true, true, true, true, true, true, true, true, true, true, true, true, true, true, true, true, true, true, true, true, true, false, false, false] (by kernel_rfl) ?_
              refine eny_one (i := 27) (by kernel_rfl) ?_
              refine wpOp_val (v := .pointer (some ⟨gb, 0, none⟩)) (w' := z3) rfl rfl (by go_simp) ?_
              refine ⟨.inr ⟨hd3, hc3⟩, ?_⟩
              simp only [Act.put, List.getElem_toArray, List.getElem_cons_zero, List.getElem_cons_succ, List.setIfInBounds_toArray, List.set_cons_zero, List.set_cons_succ]
              refine relistE #[true, true, true, true, true, true, true, true, true, true, true, true, true, true, true, true, true, true, true, true, true, true, true, true, true, true, true, true, false, false] (by kernel_rfl) ?_
              refine eny_one (i := 28) (by kernel_rfl) ?_
              refine wpOp_val (v := .pointer (some ⟨gb, 0, none⟩)) (w' := z3) rfl rfl (by go_simp) ?_
              refine ⟨.inr ⟨hd3, hc3⟩, ?_⟩
              simp only [Act.put, List.getElem_toArray, List.getElem_cons_zero, List.getElem_cons_succ, List.setIfInBounds_toArray, List.set_cons_zero, List.set_cons_succ]
              refine relistE #[true, true, true, true, true, true, true, true, true, true, true, true, true, true, true, true, true, true, true, true, true, true, true, true, true, true, true, true, true, false] (by kernel_rfl) ?_
              refine eny_one (i := 29) (by kernel_rfl) ?_
              refine wpOp_skip (w' := z3.setCell ⟨gb, 0, none⟩ (.slice (some ⟨ga, 0, none⟩) (n + 1) cap)) rfl rfl (by go_simp) ?_
              refine ⟨.inl rfl, ?_⟩
              simp only [Act.put, List.getElem_toArray, List.getElem_cons_zero, List.getElem_cons_succ, List.setIfInBounds_toArray, List.set_cons_zero, List.set_cons_succ]
              refine wpAnyE_done (by kernel_rfl) ?_ _
              refine NoPanic.normal ?_
              have HB3 : Hid _ := hB3
              have HK3 : Hid _ := (kp_of bU rfl).trans hk3
              clear hr3 hc3 hf3 hB3 hk3 ka kb Ka Kb KM hd3
              generalize z3.setCell ⟨gb, 0, none⟩ (.slice (some ⟨ga, 0, none⟩) (n + 1) cap) = zz at *
              go_wp2_with fail
              first | exact ⟨rfl, _, results_none rfl _ _ _, rfl, ⟨_, HB3.out⟩, HK3.out⟩ | exact ⟨rfl, _, results_none rfl _ _ _, rfl, _, HB3.out, HK3.out⟩
            · refine wpOp_val (v := .slice (some ⟨y15.heap.size, 0, none⟩) 6 6) (w' := y15.alloc (.cells (A8 (repM 6 M)) 25)) rfl rfl (exec_bsl6 M hMl y15 _ _ (.tmp 38) (.tmp 39) (.tmp 40) (.tmp 41) (.tmp 42) (.tmp 43) rfl rfl rfl rfl rfl rfl rfl) ?_
              obtain ⟨Ky19, gy19⟩ := Ky15.build hMl 6
              have by19 : Below y15.heap.size y15 (y15.alloc (.cells (A8 (repM 6 M)) 25)) := (Below.refl _ _).alloc (Nat.le_refl _) _
              refine ⟨.inr (hSb Ky19), ?_⟩
              simp only [Act.put, List.getElem_toArray, List.getElem_cons_zero, List.getElem_cons_succ, List.setIfInBounds_toArray, List.set_cons_zero, List.set_cons_succ]
              have G13y19 := G13y15.kp (kp_of by19 rfl) (fun x => x)
              have V9y19 := V9y15.kp (kp_of by19 rfl) (fun _ _ x => x)
              obtain ⟨y19, ey19⟩ : ∃ W, y15.alloc (.cells (A8 (repM 6 M)) 25) = W := ⟨_, rfl⟩
              obtain ⟨g22, egy19⟩ : ∃ gk, y15.heap.size = gk := ⟨_, rfl⟩
              rw [ey19] at Ky19 gy19 G13y19 V9y19
              rw [egy19] at gy19
              have G22y19 := gy19
              rw [ey19, egy19]
              clear ey19 egy19 by19 gy19
              refine relistE #[true, true, true, true, true, true, true, true, true, true, true, true, true, true, false, true, true, true, true, true, true, true, true, false, false, false, false, false, false, false] (by kernel_rfl) ?_
              refine eny_one (i := 14) (by kernel_rfl) ?_
              obtain ⟨p14, c14, y20, hry20, Ky20, V14y20, q14, hgy20, hvy20⟩ := Ky19.app hMl hm g13 2 (by omega) (by omega) G13y19
              refine wpOp_app rfl rfl (.tmp 32) (.tmp 35) 31 31 rfl (.slice lp i lc) (.slice (some ⟨g13, 0, none⟩) 2 2) rfl rfl hry20 ?_
              have G22y20 := hgy20 _ _ G22y19
              have V9y20 := hvy20 _ _ (by omega) V9y19
              refine ⟨.inr (hSb Ky20), ?_⟩
              simp only [Act.put, List.getElem_toArray, List.getElem_cons_zero, List.getElem_cons_succ, List.setIfInBounds_toArray, List.set_cons_zero, List.set_cons_succ]
              clear hry20 hgy20 hvy20
              refine relistE #[true, true, true, true, true, true, true, true, true, true, true, true, true, true, true, true, true, true, true, true, true, true, true, false, false, false, false, false, false, false] (by kernel_rfl) ?_
              refine eny_one (i := 23) (by kernel_rfl) ?_
              obtain ⟨p23, c23, y21, hry21, Ky21, V23y21, q23, hgy21, hvy21⟩ := Ky20.app hMl hm g22 6 (by omega) (by omega) G22y20
              refine wpOp_app rfl rfl (.tmp 37) (.tmp 44) 31 31 rfl (.slice lp i lc) (.slice (some ⟨g22, 0, none⟩) 6 6) rfl rfl hry21 ?_
              have V9y21 := hvy21 _ _ (by omega) V9y20
              have V14y21 := hvy21 _ _ (by omega) V14y20
              refine ⟨.inr (hSb Ky21), ?_⟩
              simp only [Act.put, List.getElem_toArray, List.getElem_cons_zero, List.getElem_cons_succ, List.setIfInBounds_toArray, List.set_cons_zero, List.set_cons_succ]
              clear hry21 hgy21 hvy21
              refine relistE #[true, true, true, true, true, true, true, true, true, true, true, true, true, true, true, true, true, true, true, true, true, true, true, true, false, false, false, false, false, false] (by kernel_rfl) ?_
              have KM := Ky21
              rw [← HMM.out] at KM V9y21 V14y21 V23y21
              obtain ⟨ga, cap, z3, hr3, hd3, hc3, hf3, hB3, hk3⟩ := keep_end KM hn lp lc rfl p9 p14 p23 c9 c14 c23 V9y21 V14y21 V23y21 q9 q14 q23
              rw [HMM.out] at hd3
              have ka : Below y21.heap.size y21 (y21.alloc (.cells #[.slice lp i lc, .slice p9 (i + 1) c9, .slice p14 (i + 2) c14, .slice p23 (i + 6) c23] 31)) := (Below.refl _ _).alloc (Nat.le_refl _) _
              have kb : Below (y21.alloc (.cells #[.slice lp i lc, .slice p9 (i + 1) c9, .slice p14 (i + 2) c14, .slice p23 (i + 6) c23] 31)).heap.size (y21.alloc (.cells #[.slice lp i lc, .slice p9 (i + 1) c9, .slice p14 (i + 2) c14, .slice p23 (i + 6) c23] 31)) ((y21.alloc (.cells #[.slice lp i lc, .slice p9 (i + 1) c9, .slice p14 (i + 2) c14, .slice p23 (i + 6) c23] 31)).alloc (.cells #[.slice (some ⟨y21.heap.size, 0, none⟩) 4 4] 124)) := (Below.refl _ _).alloc (Nat.le_refl _) _
              have Ka := Ky21.below ka
              have Kb := Ka.below kb
              refine eny_one (i := 24) (by kernel_rfl) ?_
              refine wpOp_val (v := .slice (some ⟨y21.heap.size, 0, none⟩) 4 4) (w' := (y21.alloc (.cells #[.slice lp i lc, .slice p9 (i + 1) c9, .slice p14 (i + 2) c14, .slice p23 (i + 6) c23] 31))) rfl rfl (by go_simp) ?_
              refine ⟨.inr (hSb Ka), ?_⟩
              simp only [Act.put, List.getElem_toArray, List.getElem_cons_zero, List.getElem_cons_succ, List.setIfInBounds_toArray, List.set_cons_zero, List.set_cons_succ]
              refine relistE #[true, true, true, true, true, true, true, true, true, true, true, true, true, true, true, true, true, true, true, true, true, true, true, true, true, false, false, false, false, false] (by kernel_rfl) ?_
              refine eny_one (i := 25) (by kernel_rfl) ?_
              refine wpOp_val (v := .slice (some ⟨(y21.alloc (.cells #[.slice lp i lc, .slice p9 (i + 1) c9, .slice p14 (i + 2) c14, .slice p23 (i + 6) c23] 31)).heap.size, 0, none⟩) 1 1) (w' := ((y21.alloc (.cells #[.slice lp i lc, .slice p9 (i + 1) c9, .slice p14 (i + 2) c14, .slice p23 (i + 6) c23] 31)).alloc (.cells #[.slice (some ⟨y21.heap.size, 0, none⟩) 4 4] 124))) rfl rfl (by go_simp) ?_
              refine ⟨.inr (hSb Kb), ?_⟩
              simp only [Act.put, List.getElem_toArray, List.getElem_cons_zero, List.getElem_cons_succ, List.setIfInBounds_toArray, List.set_cons_zero, List.set_cons_succ]
              refine relistE #[true, true, true, true, true, true, true, true, true, true, true, true, true, true, true, true, true, true, true, true, true, true, true, true, true, true, false, false, false, false] (by kernel_rfl) ?_
              refine eny_one (i := 26) (by kernel_rfl) ?_
              refine wpOp_app rfl rfl (.tmp 26) (.tmp 47) 51 51 rfl (.slice bp n bc) (.slice (some ⟨(y21.alloc (.cells #[.slice lp i lc, .slice p9 (i + 1) c9, .slice p14 (i + 2) c14, .slice p23 (i + 6) c23] 31)).heap.size, 0, none⟩) 1 1) rfl rfl hr3 ?_
              refine ⟨.inr ⟨hd3, hc3⟩, ?_⟩
              simp only [Act.put, List.getElem_toArray, List.getElem_cons_zero, List.getElem_cons_succ, List.setIfInBounds_toArray, List.set_cons_zero, List.set_cons_succ]
              refine relistE #[true, true, true, true, true, true, true, true, true, true, true, true, true, true, true, true, true, true, true, true, true, true, true, true, true, true, true, false, false, false] (by kernel_rfl) ?_
              refine eny_one (i := 27) (by kernel_rfl) ?_
              refine wpOp_val (v := .pointer (some ⟨gb, 0, none⟩)) (w' := z3) rfl rfl (by go_simp) ?_
              refine ⟨.inr ⟨hd3, hc3⟩, ?_⟩
              simp only [Act.put, List.getElem_toArray, List.getElem_cons_zero, List.getElem_cons_succ, List.setIfInBounds_toArray, List.set_cons_zero, List.set_cons_succ]
              refine relistE #[true, true, true, true, true, true, true, true, true, true, true, true, true, true, true, true, true, true, true, true, true, true, true, true, true, true, true, true, false, false] (by kernel_rfl) ?_
              refine eny_one (i := 28) (by kernel_rfl) ?_
              refine wpOp_val (v := .pointer (some ⟨gb, 0, none⟩)) (w' := z3) rfl rfl (by go_simp) ?_
              refine ⟨.inr ⟨hd3, hc3⟩, ?_⟩
              simp only [Act.put, List.getElem_toArray, List.getElem_cons_zero, List.getElem_cons_succ, List.setIfInBounds_toArray, List.set_cons_zero, List.set_cons_succ]
              refine relistE #[true, true, true, true, true, true, true, true, true, true, true, true, true, true, true, true, true, true, true, true, true, true, true, true, true, true, true, true, true, false] (by kernel_rfl) ?_
              refine eny_one (i := 29) (by kernel_rfl) ?_
              refine wpOp_skip (w' := z3.setCell ⟨gb, 0, none⟩ (.slice (some ⟨ga, 0, none⟩) (n + 1) cap)) rfl rfl (by go_simp) ?_
              refine ⟨.inl rfl, ?_⟩
              simp only [Act.put, List.getElem_toArray, List.getElem_cons_zero, List.getElem_cons_succ, List.setIfInBounds_toArray, List.set_cons_zero, List.set_cons_succ]
              refine wpAnyE_done (by kernel_rfl) ?_ _
              refine NoPanic.normal ?_
              have HB3 : Hid _ := hB3
              have HK3 : Hid _ := (kp_of bU rfl).trans hk3
              clear hr3 hc3 hf3 hB3 hk3 ka kb Ka Kb KM hd3
              generalize z3.setCell ⟨gb, 0, none⟩ (.slice (some ⟨ga, 0, none⟩) (n + 1) cap) = zz at *
              go_wp2_with fail
              first | exact ⟨rfl, _, results_none rfl _ _ _, rfl, ⟨_, HB3.out⟩, HK3.out⟩ | exact ⟨rfl, _, results_none rfl _ _ _, rfl, _, HB3.out, HK3.out⟩
          · refine wpOp_val (v := .slice (some ⟨y14.heap.size, 0, none⟩) 6 6) (w' := y14.alloc (.cells (A8 (repM 6 M)) 25)) rfl rfl (exec_bsl6 M hMl y14 _ _ (.tmp 38) (.tmp 39) (.tmp 40) (.tmp 41) (.tmp 42) (.tmp 43) rfl rfl rfl rfl rfl rfl rfl) ?_
            obtain ⟨Ky22, gy22⟩ := Ky14.build hMl 6
            have by22 : Below y14.heap.size y14 (y14.alloc (.cells (A8 (repM 6 M)) 25)) := (Below.refl _ _).alloc (Nat.le_refl _) _
            refine ⟨.inr (hSb Ky22), ?_⟩
            simp only [Act.put, List.getElem_toArray, List.getElem_cons_zero, List.getElem_cons_succ, List.setIfInBounds_toArray, List.set_cons_zero, List.set_cons_succ]
            have G8y22 := G8y14.kp (kp_of by22 rfl) (fun x => x)
            have G13y22 := G13y14.kp (kp_of by22 rfl) (fun x => x)
            obtain ⟨y22, ey22⟩ : ∃ W, y14.alloc (.cells (A8 (repM 6 M)) 25) = W := ⟨_, rfl⟩
            obtain ⟨g22, egy22⟩ : ∃ gk, y14.heap.size = gk := ⟨_, rfl⟩
            rw [ey22] at Ky22 gy22 G8y22 G13y22
            rw [egy22] at gy22
            have G22y22 := gy22
            rw [ey22, egy22]
            clear ey22 egy22 by22 gy22
            refine relistE #[true, true, true, true, true, true, true, true, true, false, true, true, true, true, false, true, true, true, true, true, true, true, true, false, false, false, false, false, false, false] (by kernel_rfl) ?_
            refine eny_one (i := 9) (by kernel_rfl) ?_
            obtain ⟨p9, c9, y23, hry23, Ky23, V9y23, q9, hgy23, hvy23⟩ := Ky22.app hMl hm g8 1 (by omega) (by omega) G8y22
            refine wpOp_app rfl rfl (.tmp 28) (.tmp 30) 31 31 rfl (.slice lp i lc) (.slice (some ⟨g8, 0, none⟩) 1 1) rfl rfl hry23 ?_
            have G13y23 := hgy23 _ _ G13y22
            have G22y23 := hgy23 _ _ G22y22
            refine ⟨.inr (hSb Ky23), ?_⟩
            simp only [Act.put, List.getElem_toArray, List.getElem_cons_zero, List.getElem_cons_succ, List.setIfInBounds_toArray, List.set_cons_zero, List.set_cons_succ]
            clear hry23 hgy23 hvy23
            refine relistE #[true, true, true, true, true, true, true, true, true, true, true, true, true, true, false, true, true, true, true, true, true, true, true, false, false, false, false, false, false, false] (by kernel_rfl) ?_
            refine eny_one (i := 14) (by kernel_rfl) ?_
            obtain ⟨p14, c14, y24, hry24, Ky24, V14y24, q14, hgy24, hvy24⟩ := Ky23.app hMl hm g13 2 (by omega) (by omega) G13y23
            refine wpOp_app rfl rfl (.tmp 32) (.tmp 35) 31 31 rfl (.slice lp i lc) (.slice (some ⟨g13, 0, none⟩) 2 2) rfl rfl hry24 ?_
            have G22y24 := hgy24 _ _ G22y23
            have V9y24 := hvy24 _ _ (by omega) V9y23
            refine ⟨.inr (hSb Ky24), ?_⟩
            simp only [Act.put, List.getElem_toArray, List.getElem_cons_zero, List.getElem_cons_succ, List.setIfInBounds_toArray, List.set_cons_zero, List.set_cons_succ]
            clear hry24 hgy24 hvy24
            refine relistE #[true, true, true, true, true, true, true, true, true, true, true, true, true, true, true, true, true, true, true, true, true, true, true, false, false, false, false, false, false, false] (by kernel_rfl) ?_
            refine eny_one (i := 23) (by kernel_rfl) ?_
            obtain ⟨p23, c23, y25, hry25, Ky25, V23y25, q23, hgy25, hvy25⟩ := Ky24.app hMl hm g22 6 (by omega) (by omega) G22y24
            refine wpOp_app rfl rfl (.tmp 37) (.tmp 44) 31 31 rfl (.slice lp i lc) (.slice (some ⟨g22, 0, none⟩) 6 6) rfl rfl hry25 ?_
            have V9y25 := hvy25 _ _ (by omega) V9y24
            have V14y25 := hvy25 _ _ (by omega) V14y24
            refine ⟨.inr (hSb Ky25), ?_⟩
            simp only [Act.put, List.getElem_toArray, List.getElem_cons_zero, List.getElem_cons_succ, List.setIfInBounds_toArray, List.set_cons_zero, List.set_cons_succ]
            clear hry25 hgy25 hvy25
            refine relistE #[true, true, true, true, true, true, true, true, true, true, true, true, true, true, true, true, true, true, true, true, true, true, true, true, false, false, false, false, false, false] (by kernel_rfl) ?_
            have KM := Ky25
            rw [← HMM.out] at KM V9y25 V14y25 V23y25
            obtain ⟨ga, cap, z3, hr3, hd3, hc3, hf3, hB3, hk3⟩ := keep_end KM hn lp lc rfl p9 p14 p23 c9 c14 c23 V9y25 V14y25 V23y25 q9 q14 q23
            rw [HMM.out] at hd3
            have ka : Below y25.heap.size y25 (y25.alloc (.cells #[.slice lp i lc, .slice p9 (i + 1) c9, .slice p14 (i + 2) c14, .slice p23 (i + 6) c23] 31)) := (Below.refl _ _).alloc (Nat.le_refl _) _
            have kb : Below (y25.alloc (.cells #[.slice lp i lc, .slice p9 (i + 1) c9, .slice p14 (i + 2) c14, .slice p23 (i + 6) c23] 31)).heap.size (y25.alloc (.cells #[.slice lp i lc, .slice p9 (i + 1) c9, .slice p14 (i + 2) c14, .slice p23 (i + 6) c23] 31)) ((y25.alloc (.cells #[.slice lp i lc, .slice p9 (i + 1) c9, .slice p14 (i + 2) c14, .slice p23 (i + 6) c23] 31)).alloc (.cells #[.slice (some ⟨y25.heap.size, 0, none⟩) 4 4] 124)) := (Below.refl _ _).alloc (Nat.le_refl _) _
            have Ka := Ky25.below ka
            have Kb := Ka.below kb
            refine eny_one (i := 24) (by kernel_rfl) ?_
            refine wpOp_val (v := .slice (some ⟨y25.heap.size, 0, none⟩) 4 4) (w' := (y25.alloc (.cells #[.slice lp i lc, .slice p9 (i + 1) c9, .slice p14 (i + 2) c14, .slice p23 (i + 6) c23] 31))) rfl rfl (by go_simp) ?_
            refine ⟨.inr (hSb Ka), ?_⟩
            simp only [Act.put, List.getElem_toArray, List.getElem_cons_zero, List.getElem_cons_succ, List.setIfInBounds_toArray, List.set_cons_zero, List.set_cons_succ]
            refine relistE #[true, true, true, true, true, true, true, true, true, true, true, true, true, true, true, true, true, true, true, true, true, true, true, true, true, false, false, false, false, false] (by kernel_rfl) ?_
            refine eny_one (i := 25) (by kernel_rfl) ?_
            refine wpOp_val (v := .slice (some ⟨(y25.alloc (.cells #[.slice lp i lc, .slice p9 (i + 1) c9, .slice p14 (i + 2) c14, .slice p23 (i + 6) c23] 31)).heap.size, 0, none⟩) 1 1) (w' := ((y25.alloc (.cells #[.slice lp i lc, .slice p9 (i + 1) c9, .slice p14 (i + 2) c14, .slice p23 (i + 6) c23] 31)).alloc (.cells #[.slice (some ⟨y25.heap.size, 0, none⟩) 4 4] 124))) rfl rfl (by go_simp) ?_
            refine ⟨.inr (hSb Kb), ?_⟩
            simp only [Act.put, List.getElem_toArray, List.getElem_cons_zero, List.getElem_cons_succ, List.setIfInBounds_toArray, List.set_cons_zero, List.set_cons_succ]
            refine relistE #[true, true, true, true, true, true, true, true, true, true, true, true, true, true, true, true, true, true, true, true, true, true, true, true, true, true, false, false, false, false] (by kernel_rfl) ?_
            refine eny_one (i := 26) (by kernel_rfl) ?_
            refine wpOp_app rfl rfl (.tmp 26) (.tmp 47) 51 51 rfl (.slice bp n bc) (.slice (some ⟨(y25.alloc (.cells #[.slice lp i lc, .slice p9 (i + 1) c9, .slice p14 (i + 2) c14, .slice p23 (i + 6) c23] 31)).heap.size, 0, none⟩) 1 1) rfl rfl hr3 ?_
            refine ⟨.inr ⟨hd3, hc3⟩, ?_⟩
            simp only [Act.put, List.getElem_toArray, List.getElem_cons_zero, List.getElem_cons_succ, List.setIfInBounds_toArray, List.set_cons_zero, List.set_cons_succ]
            refine relistE #[true, true, true, true, true, true, true, true, true, true, true, true, true, true, true, true, true, true, true, true, true, true, true, true, true, true, true, false, false, false] (by kernel_rfl) ?_
            refine eny_one (i := 27) (by kernel_rfl) ?_
            refine wpOp_val (v := .pointer (some ⟨gb, 0, none⟩)) (w' := z3) rfl rfl (by go_simp) ?_
            refine ⟨.inr ⟨hd3, hc3⟩, ?_⟩
            simp only [Act.put, List.getElem_toArray, List.getElem_cons_zero, List.getElem_cons_succ, List.setIfInBounds_toArray, List.set_cons_zero, List.set_cons_succ]
            refine relistE #[true, true, true, true, true, true, true, true, true, true, true, true, true, true, true, true, true, true, true, true, true, true, true, true, true, true, true, true, false, false] (by kernel_rfl) ?_
            refine eny_one (i := 28) (by kernel_rfl) ?_
            refine wpOp_val (v := .pointer (some ⟨gb, 0, none⟩)) (w' := z3) rfl rfl (by go_simp) ?_
            refine ⟨.inr ⟨hd3, hc3⟩, ?_⟩
            simp only [Act.put, List.getElem_toArray, List.getElem_cons_zero, List.getElem_cons_succ, List.setIfInBounds_toArray, List.set_cons_zero, List.set_cons_succ]
            refine relistE #[true, true, true, true, true, true, true, true, true, true, true, true, true, true, true, true, true, true, true, true, true, true, true, true, true, true, true, true, true, false] (by kernel_rfl) ?_
            refine eny_one (i := 29) (by kernel_rfl) ?_
            refine wpOp_skip (w' := z3.setCell ⟨gb, 0, none⟩ (.slice (some ⟨ga, 0, none⟩) (n + 1) cap)) rfl rfl (by go_simp) ?_
            refine ⟨.inl rfl, ?_⟩
            simp only [Act.put, List.getElem_toArray, List.getElem_cons_zero, List.getElem_cons_succ, List.setIfInBounds_toArray, List.set_cons_zero, List.set_cons_succ]
            refine wpAnyE_done (by kernel_rfl) ?_ _
            refine NoPanic.normal ?_
            have HB3 : Hid _ := hB3
            have HK3 : Hid _ := (kp_of bU rfl).trans hk3
            clear hr3 hc3 hf3 hB3 hk3 ka kb Ka Kb KM hd3
            generalize z3.setCell ⟨gb, 0, none⟩ (.slice (some ⟨ga, 0, none⟩) (n + 1) cap) = zz at *
            go_wp2_with fail
            first | exact ⟨rfl, _, results_none rfl _ _ _, rfl, ⟨_, HB3.out⟩, HK3.out⟩ | exact ⟨rfl, _, results_none rfl _ _ _, rfl, _, HB3.out, HK3.out⟩
        · refine wpOp_val (v := .slice (some ⟨y1.heap.size, 0, none⟩) 6 6) (w' := y1.alloc (.cells (A8 (repM 6 M)) 25)) rfl rfl (exec_bsl6 M hMl y1 _ _ (.tmp 38) (.tmp 39) (.tmp 40) (.tmp 41) (.tmp 42) (.tmp 43) rfl rfl rfl rfl rfl rfl rfl) ?_
          obtain ⟨Ky26, gy26⟩ := Ky1.build hMl 6
          have by26 : Below y1.heap.size y1 (y1.alloc (.cells (A8 (repM 6 M)) 25)) := (Below.refl _ _).alloc (Nat.le_refl _) _
          refine ⟨.inr (hSb Ky26), ?_⟩
          simp only [Act.put, List.getElem_toArray, List.getElem_cons_zero, List.getElem_cons_succ, List.setIfInBounds_toArray, List.set_cons_zero, List.set_cons_succ]
          have G8y26 := G8y1.kp (kp_of by26 rfl) (fun x => x)
          obtain ⟨y26, ey26⟩ : ∃ W, y1.alloc (.cells (A8 (repM 6 M)) 25) = W := ⟨_, rfl⟩
          obtain ⟨g22, egy26⟩ : ∃ gk, y1.heap.size = gk := ⟨_, rfl⟩
          rw [ey26] at Ky26 gy26 G8y26
          rw [egy26] at gy26
          have G22y26 := gy26
          rw [ey26, egy26]
          clear ey26 egy26 by26 gy26
          refine relistE #[true, true, true, true, true, true, true, true, true, false, true, true, true, false, false, true, true, true, true, true, true, true, true, false, false, false, false, false, false, false] (by kernel_rfl) ?_
          refine eny_two (i := 9) (j := 13) (by kernel_rfl) ?_ ?_
          · obtain ⟨p9, c9, y27, hry27, Ky27, V9y27, q9, hgy27, hvy27⟩ := Ky26.app hMl hm g8 1 (by omega) (by omega) G8y26
            refine wpOp_app rfl rfl (.tmp 28) (.tmp 30) 31 31 rfl (.slice lp i lc) (.slice (some ⟨g8, 0, none⟩) 1 1) rfl rfl hry27 ?_
            have G22y27 := hgy27 _ _ G22y26
            refine ⟨.inr (hSb Ky27), ?_⟩
            simp only [Act.put, List.getElem_toArray, List.getElem_cons_zero, List.getElem_cons_succ, List.setIfInBounds_toArray, List.set_cons_zero, List.set_cons_succ]
            clear hry27 hgy27 hvy27
            refine relistE #[true, true, true, true, true, true, true, true, true, true, true, true, true, false, false, true, true, true, true, true, true, true, true, false, false, false, false, false, false, false] (by kernel_rfl) ?_
            refine eny_one (i := 13) (by kernel_rfl) ?_
            refine wpOp_val (v := .slice (some ⟨y27.heap.size, 0, none⟩) 2 2) (w' := y27.alloc (.cells (A8 (repM 2 M)) 25)) rfl rfl (exec_bsl2 M hMl y27 _ _ (.tmp 33) (.tmp 34) rfl rfl rfl) ?_
            obtain ⟨Ky28, gy28⟩ := Ky27.build hMl 2
            have by28 : Below y27.heap.size y27 (y27.alloc (.cells (A8 (repM 2 M)) 25)) := (Below.refl _ _).alloc (Nat.le_refl _) _
            refine ⟨.inr (hSb Ky28), ?_⟩
            simp only [Act.put, List.getElem_toArray, List.getElem_cons_zero, List.getElem_cons_succ, List.setIfInBounds_toArray, List.set_cons_zero, List.set_cons_succ]
            have G22y28 := G22y27.kp (kp_of by28 rfl) (fun x => x)
            have V9y28 := V9y27.kp (kp_of by28 rfl) (fun _ _ x => x)
            obtain ⟨y28, ey28⟩ : ∃ W, y27.alloc (.cells (A8 (repM 2 M)) 25) = W := ⟨_, rfl⟩
            obtain ⟨g13, egy28⟩ : ∃ gk, y27.heap.size = gk := ⟨_, rfl⟩
            rw [ey28] at Ky28 gy28 G22y28 V9y28
            rw [egy28] at gy28
            have G13y28 := gy28
            rw [ey28, egy28]
            clear ey28 egy28 by28 gy28
            refine relistE #[true, true, true, true, true, true, true, true, true, true, true, true, true, true, false, true, true, true, true, true, true, true, true, false, false, false, false, false, false, false] (by kernel_rfl) ?_
            refine eny_one (i := 14) (by kernel_rfl) ?_
            obtain ⟨p14, c14, y29, hry29, Ky29, V14y29, q14, hgy29, hvy29⟩ := Ky28.app hMl hm g13 2 (by omega) (by omega) G13y28
            refine wpOp_app rfl rfl (.tmp 32) (.tmp 35) 31 31 rfl (.slice lp i lc) (.slice (some ⟨g13, 0, none⟩) 2 2) rfl rfl hry29 ?_
            have G22y29 := hgy29 _ _ G22y28
            have V9y29 := hvy29 _ _ (by omega) V9y28
            refine ⟨.inr (hSb Ky29), ?_⟩
            simp only [Act.put, List.getElem_toArray, List.getElem_cons_zero, List.getElem_cons_succ, List.setIfInBounds_toArray, List.set_cons_zero, List.set_cons_succ]
            clear hry29 hgy29 hvy29
            refine relistE #[true, true, true, true, true, true, true, true, true, true, true, true, true, true, true, true, true, true, true, true, true, true, true, false, false, false, false, false, false, false] (by kernel_rfl) ?_
            refine eny_one (i := 23) (by kernel_rfl) ?_
            obtain ⟨p23, c23, y30, hry30, Ky30, V23y30, q23, hgy30, hvy30⟩ := Ky29.app hMl hm g22 6 (by omega) (by omega) G22y29
            refine wpOp_app rfl rfl (.tmp 37) (.tmp 44) 31 31 rfl (.slice lp i lc) (.slice (some ⟨g22, 0, none⟩) 6 6) rfl rfl hry30 ?_
            have V9y30 := hvy30 _ _ (by omega) V9y29
            have V14y30 := hvy30 _ _ (by omega) V14y29
            refine ⟨.inr (hSb Ky30), ?_⟩
            simp only [Act.put, List.getElem_toArray, List.getElem_cons_zero, List.getElem_cons_succ, List.setIfInBounds_toArray, List.set_cons_zero, List.set_cons_succ]
            clear hry30 hgy30 hvy30
            refine relistE #[true, true, true, true, true, true, true, true, true, true, true, true, true, true, true, true, true, true, true, true, true, true, true, true, false, false, false, false, false, false] (by kernel_rfl) ?_
            have KM := Ky30
            rw [← HMM.out] at KM V9y30 V14y30 V23y30
            obtain ⟨ga, cap, z3, hr3, hd3, hc3, hf3, hB3, hk3⟩ := keep_end KM hn lp lc rfl p9 p14 p23 c9 c14 c23 V9y30 V14y30 V23y30 q9 q14 q23
            rw [HMM.out] at hd3
            have ka : Below y30.heap.size y30 (y30.alloc (.cells #[.slice lp i lc, .slice p9 (i + 1) c9, .slice p14 (i + 2) c14, .slice p23 (i + 6) c23] 31)) := (Below.refl _ _).alloc (Nat.le_refl _) _
            have kb : Below (y30.alloc (.cells #[.slice lp i lc, .slice p9 (i + 1) c9, .slice p14 (i + 2) c14, .slice p23 (i + 6) c23] 31)).heap.size (y30.alloc (.cells #[.slice lp i lc, .slice p9 (i + 1) c9, .slice p14 (i + 2) c14, .slice p23 (i + 6) c23] 31)) ((y30.alloc (.cells #[.slice lp i lc, .slice p9 (i + 1) c9, .slice p14 (i + 2) c14, .slice p23 (i + 6) c23] 31)).alloc (.cells #[.slice (some ⟨y30.heap.size, 0, none⟩) 4 4] 124)) := (Below.refl _ _).alloc (Nat.le_refl _) _
            have Ka := Ky30.below ka
            have Kb := Ka.below kb
            refine eny_one (i := 24) (by kernel_rfl) ?_
            refine wpOp_val (v := .slice (some ⟨y30.heap.size, 0, none⟩) 4 4) (w' := (y30.alloc (.cells #[.slice lp i lc, .slice p9 (i + 1) c9, .slice p14 (i + 2) c14, .slice p23 (i + 6) c23] 31))) rfl rfl (by go_simp) ?_
            refine ⟨.inr (hSb Ka), ?_⟩
            simp only [Act.put, List.getElem_toArray, List.getElem_cons_zero, List.getElem_cons_succ, List.setIfInBounds_toArray, List.set_cons_zero, List.set_cons_succ]
            refine relistE #[true, true, true, true, true, true, true, true, true, true, true, true, true, true, true, true, true, true, true, true, true, true, true, true, true, false, false, false, false, false] (by kernel_rfl) ?_
            refine eny_one (i := 25) (by kernel_rfl) ?_
            refine wpOp_val (v := .slice (some ⟨(y30.alloc (.cells #[.slice lp i lc, .slice p9 (i + 1) c9, .slice p14 (i + 2) c14, .slice p23 (i + 6) c23] 31)).heap.size, 0, none⟩) 1 1) (w' := ((y30.alloc (.cells #[.slice lp i lc, .slice p9 (i + 1) c9, .slice p14 (i + 2) c14, .slice p23 (i + 6) c23] 31)).alloc (.cells #[.slice (some ⟨y30.heap.size, 0, none⟩) 4 4] 124))) rfl rfl (by go_simp) ?_
            refine ⟨.inr (hSb Kb), ?_⟩
            simp only [Act.put, List.getElem_toArray, List.getElem_cons_zero, List.getElem_cons_succ, List.setIfInBounds_toArray, List.set_cons_zero, List.set_cons_succ]
            refine relistE #[true, true, true, true, true, true, true, true, true, true, true, true, true, true, true, true, true, true, true, true, true, true, true, true, true, true, false, false, false, false] (by kernel_rfl) ?_
            refine eny_one (i := 26) (by kernel_rfl) ?_
            refine wpOp_app rfl rfl (.tmp 26) (.tmp 47) 51 51 rfl (.slice bp n bc) (.slice (some ⟨(y30.alloc (.cells #[.slice lp i lc, .slice p9 (i + 1) c9, .slice p14 (i + 2) c14, .slice p23 (i + 6) c23] 31)).heap.size, 0, none⟩) 1 1) rfl rfl hr3 ?_
            refine ⟨.inr ⟨hd3, hc3⟩, ?_⟩
            simp only [Act.put, List.getElem_toArray, List.getElem_cons_zero, List.getElem_cons_succ, List.setIfInBounds_toArray, List.set_cons_zero, List.set_cons_succ]
            refine relistE #[true, true, true, true, true, true, true, true, true, true, true, true, true, true, true, true, true, true, true, true, true, true, true, true, true, true, true, false, false, false] (by kernel_rfl) ?_
            refine eny_one (i := 27) (by kernel_rfl) ?_
            refine wpOp_val (v := .pointer (some ⟨gb, 0, none⟩)) (w' := z3) rfl rfl (by go_simp) ?_
            refine ⟨.inr ⟨hd3, hc3⟩, ?_⟩
            simp only [Act.put, List.getElem_toArray, List.getElem_cons_zero, List.getElem_cons_succ, List.setIfInBounds_toArray, List.set_cons_zero, List.set_cons_succ]
            refine relistE #[true, true, true, true, true, true, true, true, true, true, true, true, true, true, true, true, true, true, true, true, true, true, true, true, true, true, true, true, false, false] (by kernel_rfl) ?_
            refine eny_one (i := 28) (by kernel_rfl) ?_
            refine wpOp_val (v := .pointer (some ⟨gb, 0, none⟩)) (w' := z3) rfl rfl (by go_simp) ?_
            refine ⟨.inr ⟨hd3, hc3⟩, ?_⟩
            simp only [Act.put, List.getElem_toArray, List.getElem_cons_zero, List.getElem_cons_succ, List.setIfInBounds_toArray, List.set_cons_zero, List.set_cons_succ]
            refine relistE #[true, true, true, true, true, true, true, true, true, true, true, true, true, true, true, true, true, true, true, true, true, true, true, true, true, true, true, true, true, false] (by kernel_rfl) ?_
            refine eny_one (i := 29) (by kernel_rfl) ?_
            refine wpOp_skip (w' := z3.setCell ⟨gb, 0, none⟩ (.slice (some ⟨ga, 0, none⟩) (n + 1) cap)) rfl rfl (by go_simp) ?_
            refine ⟨.inl rfl, ?_⟩
            simp only [Act.put, List.getElem_toArray, List.getElem_cons_zero, List.getElem_cons_succ, List.setIfInBounds_toArray, List.set_cons_zero, List.set_cons_succ]
            refine wpAnyE_done (by kernel_rfl) ?_ _
            refine NoPanic.normal ?_
            have HB3 : Hid _ := hB3
            have HK3 : Hid _ := (kp_of bU rfl).trans hk3
            clear hr3 hc3 hf3 hB3 hk3 ka kb Ka Kb KM hd3
            generalize z3.setCell ⟨gb, 0, none⟩ (.slice (some ⟨ga, 0, none⟩) (n + 1) cap) = zz at *
            go_wp2_with fail
            first | exact ⟨rfl, _, results_none rfl _ _ _, rfl, ⟨_, HB3.out⟩, HK3.out⟩ | exact ⟨rfl, _, results_none rfl _ _ _, rfl, _, HB3.out, HK3.out⟩
          · refine wpOp_val (v := .slice (some ⟨y26.heap.size, 0, none⟩) 2 2) (w' := y26.alloc (.cells (A8 (repM 2 M)) 25)) rfl rfl (exec_bsl2 M hMl y26 _ _ (.tmp 33) (.tmp 34) rfl rfl rfl) ?_
            obtain ⟨Ky31, gy31⟩ := Ky26.build hMl 2
            have by31 : Below y26.heap.size y26 (y26.alloc (.cells (A8 (repM 2 M)) 25)) := (Below.refl _ _).alloc (Nat.le_refl _) _
            refine ⟨.inr (hSb Ky31), ?_⟩
            simp only [Act.put, List.getElem_toArray, List.getElem_cons_zero, List.getElem_cons_succ, List.setIfInBounds_toArray, List.set_cons_zero, List.set_cons_succ]
            have G8y31 := G8y26.kp (kp_of by31 rfl) (fun x => x)
            have G22y31 := G22y26.kp (kp_of by31 rfl) (fun x => x)
            obtain ⟨y31, ey31⟩ : ∃ W, y26.alloc (.cells (A8 (repM 2 M)) 25) = W := ⟨_, rfl⟩
            obtain ⟨g13, egy31⟩ : ∃ gk, y26.heap.size = gk := ⟨_, rfl⟩
            rw [ey31] at Ky31 gy31 G8y31 G22y31
            rw [egy31] at gy31
            have G13y31 := gy31
            rw [ey31, egy31]
            clear ey31 egy31 by31 gy31
            refine relistE #[true, true, true, true, true, true, true, true, true, false, true, true, true, true, false, true, true, true, true, true, true, true, true, false, false, false, false, false, false, false] (by kernel_rfl) ?_
            refine eny_one (i := 9) (by kernel_rfl) ?_
            obtain ⟨p9, c9, y32, hry32, Ky32, V9y32, q9, hgy32, hvy32⟩ := Ky31.app hMl hm g8 1 (by omega) (by omega) G8y31
            refine wpOp_app rfl rfl (.tmp 28) (.tmp 30) 31 31 rfl (.slice lp i lc) (.slice (some ⟨g8, 0, none⟩) 1 1) rfl rfl hry32 ?_
            have G22y32 := hgy32 _ _ G22y31
            have G13y32 := hgy32 _ _ G13y31
            refine ⟨.inr (hSb Ky32), ?_⟩
            simp only [Act.put, List.getElem_toArray, List.getElem_cons_zero, List.getElem_cons_succ, List.setIfInBounds_toArray, List.set_cons_zero, List.set_cons_succ]
            clear hry32 hgy32 hvy32
            refine relistE #[true, true, true, true, true, true, true, true, true, true, true, true, true, true, false, true, true, true, true, true, true, true, true, false, false, false, false, false, false, false] (by kernel_rfl) ?_
            refine eny_one (i := 14) (by kernel_rfl) ?_
            obtain ⟨p14, c14, y33, hry33, Ky33, V14y33, q14, hgy33, hvy33⟩ := Ky32.app hMl hm g13 2 (by omega) (by omega) G13y32
            refine wpOp_app rfl rfl (.tmp 32) (.tmp 35) 31 31 rfl (.slice lp i lc) (.slice (some ⟨g13, 0, none⟩) 2 2) rfl rfl hry33 ?_
            have G22y33 := hgy33 _ _ G22y32
            have V9y33 := hvy33 _ _ (by omega) V9y32
            refine ⟨.inr (hSb Ky33), ?_⟩
            simp only [Act.put, List.getElem_toArray, List.getElem_cons_zero, List.getElem_cons_succ, List.setIfInBounds_toArray, List.set_cons_zero, List.set_cons_succ]
            clear hry33 hgy33 hvy33
            refine relistE #[true, true, true, true, true, true, true, true, true, true, true, true, true, true, true, true, true, true, true, true, true, true, true, false, false, false, false, false, false, false] (by kernel_rfl) ?_
            refine eny_one (i := 23) (by kernel_rfl) ?_
            obtain ⟨p23, c23, y34, hry34, Ky34, V23y34, q23, hgy34, hvy34⟩ := Ky33.app hMl hm g22 6 (by omega) (by omega) G22y33
            refine wpOp_app rfl rfl (.tmp 37) (.tmp 44) 31 31 rfl (.slice lp i lc) (.slice (some ⟨g22, 0, none⟩) 6 6) rfl rfl hry34 ?_
            have V9y34 := hvy34 _ _ (by omega) V9y33
            have V14y34 := hvy34 _ _ (by omega) V14y33
            refine ⟨.inr (hSb Ky34), ?_⟩
            simp only [Act.put, List.getElem_toArray, List.getElem_cons_zero, List.getElem_cons_succ, List.setIfInBounds_toArray, List.set_cons_zero, List.set_cons_succ]
            clear hry34 hgy34 hvy34
            refine relistE #[true, true, true, true, true, true, true, true, true, true, true, true, true, true, true, true, true, true, true, true, true, true, true, true, false, false, false, false, false, false] (by kernel_rfl) ?_
            have KM := Ky34
            rw [← HMM.out] at KM V9y34 V14y34 V23y34
            obtain ⟨ga, cap, z3, hr3, hd3, hc3, hf3, hB3, hk3⟩ := keep_end KM hn lp lc rfl p9 p14 p23 c9 c14 c23 V9y34 V14y34 V23y34 q9 q14 q23
            rw [HMM.out] at hd3
            have ka : Below y34.heap.size y34 (y34.alloc (.cells #[.slice lp i lc, .slice p9 (i + 1) c9, .slice p14 (i + 2) c14, .slice p23 (i + 6) c23] 31)) := (Below.refl _ _).alloc (Nat.le_refl _) _
            have kb : Below (y34.alloc (.cells #[.slice lp i lc, .slice p9 (i + 1) c9, .slice p14 (i + 2) c14, .slice p23 (i + 6) c23] 31)).heap.size (y34.alloc (.cells #[.slice lp i lc, .slice p9 (i + 1) c9, .slice p14 (i + 2) c14, .slice p23 (i + 6) c23] 31)) ((y34.alloc (.cells #[.slice lp i lc, .slice p9 (i + 1) c9, .slice p14 (i + 2) c14, .slice p23 (i + 6) c23] 31)).alloc (.cells #[.slice (some ⟨y34.heap.size, 0, none⟩) 4 4] 124)) := (Below.refl _ _).alloc (Nat.le_refl _) _
            have Ka := Ky34.below ka
            have Kb := Ka.below kb
            refine eny_one (i := 24) (by kernel_rfl) ?_
            refine wpOp_val (v := .slice (some ⟨y34.heap.size, 0, none⟩) 4 4) (w' := (y34.alloc (.cells #[.slice lp i lc, .slice p9 (i + 1) c9, .slice p14 (i + 2) c14, .slice p23 (i + 6) c23] 31))) rfl rfl (by go_simp) ?_
            refine ⟨.inr (hSb Ka), ?_⟩
            simp only [Act.put, List.getElem_toArray, List.getElem_cons_zero, List.getElem_cons_succ, List.setIfInBounds_toArray, List.set_cons_zero, List.set_cons_succ]
            refine relistE #[true, true, true, true, true, true, true, true, true, true, true, true, true, true, true, true, true, true, true, true, true, true, true, true, true, false, false, false, false, false] (by kernel_rfl) ?_
            refine eny_one (i := 25) (by kernel_rfl) ?_
            refine wpOp_val (v := .slice (some ⟨(y34.alloc (.cells #[.slice lp i lc, .slice p9 (i + 1) c9, .slice p14 (i + 2) c14, .slice p23 (i + 6) c23] 31)).heap.size, 0, none⟩) 1 1) (w' := ((y34.alloc (.cells #[.slice lp i lc, .slice p9 (i + 1) c9, .slice p14 (i + 2) c14, .slice p23 (i + 6) c23] 31)).alloc (.cells #[.slice (some ⟨y34.heap.size, 0, none⟩) 4 4] 124))) rfl rfl (by go_simp) ?_
            refine ⟨.inr (hSb Kb), ?_⟩
            simp only [Act.put, List.getElem_toArray, List.getElem_cons_zero, List.getElem_cons_succ, List.setIfInBounds_toArray, List.set_cons_zero, List.set_cons_succ]
            refine relistE #[true, true, true, true, true, true, true, true, true, true, true, true, true, true, true, true, true, true, true, true, true, true, true, true, true, true, false, false, false, false] (by kernel_rfl) ?_
            refine eny_one (i := 26) (by kernel_rfl) ?_
            refine wpOp_app rfl rfl (.tmp 26) (.tmp 47) 51 51 rfl (.slice bp n bc) (.slice (some ⟨(y34.alloc (.cells #[.slice lp i lc, .slice p9 (i + 1) c9, .slice p14 (i + 2) c14, .slice p23 (i + 6) c23] 31)).heap.size, 0, none⟩) 1 1) rfl rfl hr3 ?_
            refine ⟨.inr ⟨hd3, hc3⟩, ?_⟩
            simp only [Act.put, List.getElem_toArray, List.getElem_cons_zero, List.getElem_cons_succ, List.setIfInBounds_toArray, List.set_cons_zero, List.set_cons_succ]
            refine relistE #[true, true, true, true, true, true, true, true, true, true, true, true, true, true, true, true, true, true, true, true, true, true, true, true, true, true, true, false, false, false] (by kernel_rfl) ?_
            refine eny_one (i := 27) (by kernel_rfl) ?_
            refine wpOp_val (v := .pointer (some ⟨gb, 0, none⟩)) (w' := z3) rfl rfl (by go_simp) ?_
            refine ⟨.inr ⟨hd3, hc3⟩, ?_⟩
            simp only [Act.put, List.getElem_toArray, List.getElem_cons_zero, List.getElem_cons_succ, List.setIfInBounds_toArray, List.set_cons_zero, List.set_cons_succ]
            refine relistE #[true, true, true, true, true, true, true, true, true, true, true, true, true, true, true, true, true, true, true, true, true, true, true, true, true, true, true, true, false, false] (by kernel_rfl) ?_
            refine eny_one (i := 28) (by kernel_rfl) ?_
            refine wpOp_val (v := .pointer (some ⟨gb, 0, none⟩)) (w' := z3) rfl rfl (by go_simp) ?_
            refine ⟨.inr ⟨hd3, hc3⟩, ?_⟩
            simp only [Act.put, List.getElem_toArray, List.getElem_cons_zero, List.getElem_cons_succ, List.setIfInBounds_toArray, List.set_cons_zero, List.set_cons_succ]
            refine relistE #[true, true, true, true, true, true, true, true, true, true, true, true, true, true, true, true, true, true, true, true, true, true, true, true, true, true, true, true, true, false] (by kernel_rfl) ?_
            refine eny_one (i := 29) (by kernel_rfl) ?_
            refine wpOp_skip (w' := z3.setCell ⟨gb, 0, none⟩ (.slice (some ⟨ga, 0, none⟩) (n + 1) cap)) rfl rfl (by go_simp) ?_
            refine ⟨.inl rfl, ?_⟩
            simp only [Act.put, List.getElem_toArray, List.getElem_cons_zero, List.getElem_cons_succ, List.setIfInBounds_toArray, List.set_cons_zero, List.set_cons_succ]
            refine wpAnyE_done (by kernel_rfl) ?_ _
            refine NoPanic.normal ?_
            have HB3 : Hid _ := hB3
            have HK3 : Hid _ := (kp_of bU rfl).trans hk3
            clear hr3 hc3 hf3 hB3 hk3 ka kb Ka Kb KM hd3
            generalize z3.setCell ⟨gb, 0, none⟩ (.slice (some ⟨ga, 0, none⟩) (n + 1) cap) = zz at *
            go_wp2_with fail
            first | exact ⟨rfl, _, results_none rfl _ _ _, rfl, ⟨_, HB3.out⟩, HK3.out⟩ | exact ⟨rfl, _, results_none rfl _ _ _, rfl, _, HB3.out, HK3.out⟩
      · refine wpOp_val (v := .slice (some ⟨y0.heap.size, 0, none⟩) 2 2) (w' := y0.alloc (.cells (A8 (repM 2 M)) 25)) rfl rfl (exec_bsl2 M hMl y0 _ _ (.tmp 33) (.tmp 34) rfl rfl rfl) ?_
        obtain ⟨Ky35, gy35⟩ := HKd.build hMl 2
        have by35 : Below y0.heap.size y0 (y0.alloc (.cells (A8 (repM 2 M)) 25)) := (Below.refl _ _).alloc (Nat.le_refl _) _
        refine ⟨.inr (hSb Ky35), ?_⟩
        simp only [Act.put, List.getElem_toArray, List.getElem_cons_zero, List.getElem_cons_succ, List.setIfInBounds_toArray, List.set_cons_zero, List.set_cons_succ]
        obtain ⟨y35, ey35⟩ : ∃ W, y0.alloc (.cells (A8 (repM 2 M)) 25) = W := ⟨_, rfl⟩
        obtain ⟨g13, egy35⟩ : ∃ gk, y0.heap.size = gk := ⟨_, rfl⟩
        rw [ey35] at Ky35 gy35
        rw [egy35] at gy35
        have G13y35 := gy35
        rw [ey35, egy35]
        clear ey35 egy35 by35 gy35
        refine relistE #[true, true, true, true, true, true, true, true, false, false, true, true, true, true, false, true, true, true, true, true, true, true, false, false, false, false, false, false, false, false] (by kernel_rfl) ?_
        refine eny_two (i := 8) (j := 22) (by kernel_rfl) ?_ ?_
        · refine wpOp_val (v := .slice (some ⟨y35.heap.size, 0, none⟩) 1 1) (w' := y35.alloc (.cells (A8 (repM 1 M)) 25)) rfl rfl (exec_bsl1 M hMl y35 _ _ (.tmp 29) rfl rfl) ?_
          obtain ⟨Ky36, gy36⟩ := Ky35.build hMl 1
          have by36 : Below y35.heap.size y35 (y35.alloc (.cells (A8 (repM 1 M)) 25)) := (Below.refl _ _).alloc (Nat.le_refl _) _
          refine ⟨.inr (hSb Ky36), ?_⟩
          simp only [Act.put, List.getElem_toArray, List.getElem_cons_zero, List.getElem_cons_succ, List.setIfInBounds_toArray, List.set_cons_zero, List.set_cons_succ]
          have G13y36 := G13y35.kp (kp_of by36 rfl) (fun x => x)
          obtain ⟨y36, ey36⟩ : ∃ W, y35.alloc (.cells (A8 (repM 1 M)) 25) = W := ⟨_, rfl⟩
          obtain ⟨g8, egy36⟩ : ∃ gk, y35.heap.size = gk := ⟨_, rfl⟩
          rw [ey36] at Ky36 gy36 G13y36
          rw [egy36] at gy36
          have G8y36 := gy36
          rw [ey36, egy36]
          clear ey36 egy36 by36 gy36
          refine relistE #[true, true, true, true, true, true, true, true, true, false, true, true, true, true, false, true, true, true, true, true, true, true, false, false, false, false, false, false, false, false] (by kernel_rfl) ?_
          refine eny_two (i := 9) (j := 22) (by kernel_rfl) ?_ ?_
          · obtain ⟨p9, c9, y37, hry37, Ky37, V9y37, q9, hgy37, hvy37⟩ := Ky36.app hMl hm g8 1 (by omega) (by omega) G8y36
            refine wpOp_app rfl rfl (.tmp 28) (.tmp 30) 31 31 rfl (.slice lp i lc) (.slice (some ⟨g8, 0, none⟩) 1 1) rfl rfl hry37 ?_
            have G13y37 := hgy37 _ _ G13y36
            refine ⟨.inr (hSb Ky37), ?_⟩
            simp only [Act.put, List.getElem_toArray, List.getElem_cons_zero, List.getElem_cons_succ, List.setIfInBounds_toArray, List.set_cons_zero, List.set_cons_succ]
            clear hry37 hgy37 hvy37
            refine relistE #[true, true, true, true, true, true, true, true, true, true, true, true, true, true, false, true, true, true, true, true, true, true, false, false, false, false, false, false, false, false] (by kernel_rfl) ?_
            refine eny_two (i := 14) (j := 22) (by kernel_rfl) ?_ ?_
            · obtain ⟨p14, c14, y38, hry38, Ky38, V14y38, q14, hgy38, hvy38⟩ := Ky37.app hMl hm g13 2 (by omega) (by omega) G13y37
              refine wpOp_app rfl rfl (.tmp 32) (.tmp 35) 31 31 rfl (.slice lp i lc) (.slice (some ⟨g13, 0, none⟩) 2 2) rfl rfl hry38 ?_
              have V9y38 := hvy38 _ _ (by omega) V9y37
              refine ⟨.inr (hSb Ky38), ?_⟩
              simp only [Act.put, List.getElem_toArray, List.getElem_cons_zero, List.getElem_cons_succ, List.setIfInBounds_toArray, List.set_cons_zero, List.set_cons_succ]
              clear hry38 hgy38 hvy38
              refine relistE #[true, true, true, true, true, true, true, true, true, true, true, true, true, true, true, true, true, true, true, true, true, true, false, false, false, false, false, false, false, false] (by kernel_rfl) ?_
              refine eny_one (i := 22) (by kernel_rfl) ?_
              refine wpOp_val (v := .slice (some ⟨y38.heap.size, 0, none⟩) 6 6) (w' := y38.alloc (.cells (A8 (repM 6 M)) 25)) rfl rfl (exec_bsl6 M hMl y38 _ _ (.tmp 38) (.tmp 39) (.tmp 40) (.tmp 41) (.tmp 42) (.tmp 43) rfl rfl rfl rfl rfl rfl rfl) ?_
              obtain ⟨Ky39, gy39⟩ := Ky38.build hMl 6
              have by39 : Below y38.heap.size y38 (y38.alloc (.cells (A8 (repM 6 M)) 25)) := (Below.refl _ _).alloc (Nat.le_refl _) _
              refine ⟨.inr (hSb Ky39), ?_⟩
              simp only [Act.put, List.getElem_toArray, List.getElem_cons_zero, List.getElem_cons_succ, List.setIfInBounds_toArray, List.set_cons_zero, List.set_cons_succ]
              have V9y39 := V9y38.kp (kp_of by39 rfl) (fun _ _ x => x)
              have V14y39 := V14y38.kp (kp_of by39 rfl) (fun _ _ x => x)
              obtain ⟨y39, ey39⟩ : ∃ W, y38.alloc (.cells (A8 (repM 6 M)) 25) = W := ⟨_, rfl⟩
              obtain ⟨g22, egy39⟩ : ∃ gk, y38.heap.size = gk := ⟨_, rfl⟩
              rw [ey39] at Ky39 gy39 V9y39 V14y39
              rw [egy39] at gy39
              have G22y39 := gy39
              rw [ey39, egy39]
              clear ey39 egy39 by39 gy39
              refine relistE #[true, true, true, true, true, true, true, true, true, true, true, true, true, true, true, true, true, true, true, true, true, true, true, false, false, false, false, false, false, false] (by kernel_rfl) ?_
              refine eny_one (i := 23) (by kernel_rfl) ?_
              obtain ⟨p23, c23, y40, hry40, Ky40, V23y40, q23, hgy40, hvy40⟩ := Ky39.app hMl hm g22 6 (by omega) (by omega) G22y39
              refine wpOp_app rfl rfl (.tmp 37) (.tmp 44) 31 31 rfl (.slice lp i lc) (.slice (some ⟨g22, 0, none⟩) 6 6) rfl rfl hry40 ?_
              have V9y40 := hvy40 _ _ (by omega) V9y39
              have V14y40 := hvy40 _ _ (by omega) V14y39
              refine ⟨.inr (hSb Ky40), ?_⟩
              simp only [Act.put, List.getElem_toArray, List.getElem_cons_zero, List.getElem_cons_succ, List.setIfInBounds_toArray, List.set_cons_zero, List.set_cons_succ]
              clear hry40 hgy40 hvy40
              refine relistE #[true, true, true, true, true, true, true, true, true, true, true, true, true, true, true, true, true, true, true, true, true, true, true, true, false, false, false, false, false, false] (by kernel_rfl) ?_
              have KM := Ky40
              rw [← HMM.out] at KM V9y40 V14y40 V23y40
              obtain ⟨ga, cap, z3, hr3, hd3, hc3, hf3, hB3, hk3⟩ := keep_end KM hn lp lc rfl p9 p14 p23 c9 c14 c23 V9y40 V14y40 V23y40 q9 q14 q23
              rw [HMM.out] at hd3
              have ka : Below y40.heap.size y40 (y40.alloc (.cells #[.slice lp i lc, .slice p9 (i + 1) c9, .slice p14 (i + 2) c14, .slice p23 (i + 6) c23] 31)) := (Below.refl _ _).alloc (Nat.le_refl _) _
              have kb : Below (y40.alloc (.cells #[.slice lp i lc, .slice p9 (i + 1) c9, .slice p14 (i + 2) c14, .slice p23 (i + 6) c23] 31)).heap.size (y40.alloc (.cells #[.slice lp i lc, .slice p9 (i + 1) c9, .slice p14 (i + 2) c14, .slice p23 (i + 6) c23] 31)) ((y40.alloc (.cells #[.slice lp i lc, .slice p9 (i + 1) c9, .slice p14 (i + 2) c14, .slice p23 (i + 6) c23] 31)).alloc (.cells #[.slice (some ⟨y40.heap.size, 0, none⟩) 4 4] 124)) := (Below.refl _ _).alloc (Nat.le_refl _) _
              have Ka := Ky40.below ka
              have Kb := Ka.below kb
              refine eny_one (i := 24) (by kernel_rfl) ?_
              refine wpOp_val (v := .slice (some ⟨y40.heap.size, 0, none⟩) 4 4) (w' := (y40.alloc (.cells #[.slice lp i lc, .slice p9 (i + 1) c9, .slice p14 (i + 2) c14, .slice p23 (i + 6) c23] 31))) rfl rfl (by go_simp) ?_
              refine ⟨.inr (hSb Ka), ?_⟩
              simp only [Act.put, List.getElem_toArray, List.getElem_cons_zero, List.getElem_cons_succ, List.setIfInBounds_toArray, List.set_cons_zero, List.set_cons_succ]
              refine relistE #[true, true, true, true, true, true, true, true, true, true, true, true, true, true, true, true, true, true, true, true, true, true, true, true, true, false, false, false, false, false] (by kernel_rfl) ?_
              refine eny_one (i := 25) (by kernel_rfl) ?_
              refine wpOp_val (v := .slice (some ⟨(y40.alloc (.cells #[.slice lp i lc, .slice p9 (i + 1) c9, .slice p14 (i + 2) c14, .slice p23 (i + 6) c23] 31)).heap.size, 0, none⟩) 1 1) (w' := ((y40.alloc (.cells #[.slice lp i lc, .slice p9 (i + 1) c9, .slice p14 (i + 2) c14, .slice p23 (i + 6) c23] 31)).alloc (.cells #[.slice (some ⟨y40.heap.size, 0, none⟩) 4 4] 124))) rfl rfl (by go_simp) ?_
              refine ⟨.inr (hSb Kb), ?_⟩
              simp only [Act.put, List.getElem_toArray, List.getElem_cons_zero, List.getElem_cons_succ, List.setIfInBounds_toArray, List.set_cons_zero, List.set_cons_succ]
              refine relistE #[true, true, true, true, true, true, true, true, true, true, true, true, true, true, true, true, true, true, true, true, true, true, true, true, true, true, false, false, false, false] (by kernel_rfl) ?_
              refine eny_one (i := 26) (by kernel_rfl) ?_
              refine wpOp_app rfl rfl (.tmp 26) (.tmp 47) 51 51 rfl (.slice bp n bc) (.slice (some ⟨(y40.alloc (.cells #[.slice lp i lc, .slice p9 (i + 1) c9, .slice p14 (i + 2) c14, .slice p23 (i + 6) c23] 31)).heap.size, 0, none⟩) 1 1) rfl rfl hr3 ?_
              refine ⟨.inr ⟨hd3, hc3⟩, ?_⟩
              simp only [Act.put, List.getElem_toArray, List.getElem_cons_zero, List.getElem_cons_succ, List.setIfInBounds_toArray, List.set_cons_zero, List.set_cons_succ]
              refine relistE #[true, true, true, true, true, true, true, true, true, true, true, true, true, true, true, true, true, true, true, true, true, true, true, true, true, true, true, false, false, false] (by kernel_rfl) ?_
              refine eny_one (i := 27) (by kernel_rfl) ?_
              refine wpOp_val (v := .pointer (some ⟨gb, 0, none⟩)) (w' := z3) rfl rfl (by go_simp) ?_
              refine ⟨.inr ⟨hd3, hc3⟩, ?_⟩
              simp only [Act.put, List.getElem_toArray, List.getElem_cons_zero, List.getElem_cons_succ, List.setIfInBounds_toArray, List.set_cons_zero, List.set_cons_succ]
              refine relistE #[true, true, true, true, true, true, true, true, true, true, true, true, true, true, true, true, true, true, true, true, true, true, true, true, true, true, true, true, false, false] (by kernel_rfl) ?_
              refine eny_one (i := 28) (by kernel_rfl) ?_
              refine wpOp_val (v := .pointer (some ⟨gb, 0, none⟩)) (w' := z3) rfl rfl (by go_simp) ?_
              refine ⟨.inr ⟨hd3, hc3⟩, ?_⟩
              simp only [Act.put, List.getElem_toArray, List.getElem_cons_zero, List.getElem_cons_succ, List.setIfInBounds_toArray, List.set_cons_zero, List.set_cons_succ]
              refine relistE #[true, true, true, true, true, true, true, true, true, true, true, true, true, true, true, true, true, true, true, true, true, true, true, true, true, true, true, true, true, false] (by kernel_rfl) ?_
              refine eny_one (i := 29) (by kernel_rfl) ?_
              refine wpOp_skip (w' := z3.setCell ⟨gb, 0, none⟩ (.slice (some ⟨ga, 0, none⟩) (n + 1) cap)) rfl rfl (by go_simp) ?_
              refine ⟨.inl rfl, ?_⟩
              simp only [Act.put, List.getElem_toArray, List.getElem_cons_zero, List.getElem_cons_succ, List.setIfInBounds_toArray, List.set_cons_zero, List.set_cons_succ]
              refine wpAnyE_done (by kernel_rfl) ?_ _
              refine NoPanic.normal ?_
              have HB3 : Hid _ := hB3
              have HK3 : Hid _ := (kp_of bU rfl).trans hk3
              clear hr3 hc3 hf3 hB3 hk3 ka kb Ka Kb KM hd3
              generalize z3.setCell ⟨gb, 0, none⟩ (.slice (some ⟨ga, 0, none⟩) (n + 1) cap) = zz at *
              go_wp2_with fail
              first | exact ⟨rfl, _, results_none rfl _ _ _, rfl, ⟨_, HB3.out⟩, HK3.out⟩ | exact ⟨rfl, _, results_none rfl _ _ _, rfl, _, HB3.out, HK3.out⟩
            · refine wpOp_val (v := .slice (some ⟨y37.heap.size, 0, none⟩) 6 6) (w' := y37.alloc (.cells (A8 (repM 6 M)) 25)) rfl rfl (exec_bsl6 M hMl y37 _ _ (.tmp 38) (.tmp 39) (.tmp 40) (.tmp 41) (.tmp 42) (.tmp 43) rfl rfl rfl rfl rfl rfl rfl) ?_
              obtain ⟨Ky41, gy41⟩ := Ky37.build hMl 6
              have by41 : Below y37.heap.size y37 (y37.alloc (.cells (A8 (repM 6 M)) 25)) := (Below.refl _ _).alloc (Nat.le_refl _) _
              refine ⟨.inr (hSb Ky41), ?_⟩
              simp only [Act.put, List.getElem_toArray, List.getElem_cons_zero, List.getElem_cons_succ, List.setIfInBounds_toArray, List.set_cons_zero, List.set_cons_succ]
              have G13y41 := G13y37.kp (kp_of by41 rfl) (fun x => x)
              have V9y41 := V9y37.kp (kp_of by41 rfl) (fun _ _ x => x)
              obtain ⟨y41, ey41⟩ : ∃ W, y37.alloc (.cells (A8 (repM 6 M)) 25) = W := ⟨_, rfl⟩
              obtain ⟨g22, egy41⟩ : ∃ gk, y37.heap.size = gk := ⟨_, rfl⟩
              rw [ey41] at Ky41 gy41 G13y41 V9y41
              rw [egy41] at gy41
              have G22y41 := gy41
              rw [ey41, egy41]
              clear ey41 egy41 by41 gy41
              refine relistE #[true, true, true, true, true, true, true, true, true, true, true, true, true, true, false, true, true, true, true, true, true, true, true, false, false, false, false, false, false, false] (by kernel_rfl) ?_
              refine eny_one (i := 14) (by kernel_rfl) ?_
              obtain ⟨p14, c14, y42, hry42, Ky42, V14y42, q14, hgy42, hvy42⟩ := Ky41.app hMl hm g13 2 (by omega) (by omega) G13y41
              refine wpOp_app rfl rfl (.tmp 32) (.tmp 35) 31 31 rfl (.slice lp i lc) (.slice (some ⟨g13, 0, none⟩) 2 2) rfl rfl hry42 ?_
              have G22y42 := hgy42 _ _ G22y41
              have V9y42 := hvy42 _ _ (by omega) V9y41
              refine ⟨.inr (hSb Ky42), ?_⟩
              simp only [Act.put, List.getElem_toArray, List.getElem_cons_zero, List.getElem_cons_succ, List.setIfInBounds_toArray, List.set_cons_zero, List.set_cons_succ]
              clear hry42 hgy42 hvy42
              refine relistE #[true, true, true, true, true, true, true, true, true, true, true, true, true, true, true, true, true, true, true, true, true, true, true, false, false, false, false, false, false, false] (by kernel_rfl) ?_
              refine eny_one (i := 23) (by kernel_rfl) ?_
              obtain ⟨p23, c23, y43, hry43, Ky43, V23y43, q23, hgy43, hvy43⟩ := Ky42.app hMl hm g22 6 (by omega) (by omega) G22y42
              refine wpOp_app rfl rfl (.tmp 37) (.tmp 44) 31 31 rfl (.slice lp i lc) (.slice (some ⟨g22, 0, none⟩) 6 6) rfl rfl hry43 ?_
              have V9y43 := hvy43 _ _ (by omega) V9y42
              have V14y43 := hvy43 _ _ (by omega) V14y42
              refine ⟨.inr (hSb Ky43), ?_⟩
              simp only [Act.put, List.getElem_toArray, List.getElem_cons_zero, List.getElem_cons_succ, List.setIfInBounds_toArray, List.set_cons_zero, List.set_cons_succ]
              clear hry43 hgy43 hvy43
              refine relistE #[true, true, true, true, true, true, true, true, true, true, true, true, true, true, true, true, true, true, true, true, true, true, true, true, false, false, false, false, false, false] (by kernel_rfl) ?_
              have KM := Ky43
              rw [← HMM.out] at KM V9y43 V14y43 V23y43
              obtain ⟨ga, cap, z3, hr3, hd3, hc3, hf3, hB3, hk3⟩ := keep_end KM hn lp lc rfl p9 p14 p23 c9 c14 c23 V9y43 V14y43 V23y43 q9 q14 q23
              rw [HMM.out] at hd3
              have ka : Below y43.heap.size y43 (y43.alloc (.cells #[.slice lp i lc, .slice p9 (i + 1) c9, .slice p14 (i + 2) c14, .slice p23 (i + 6) c23] 31)) := (Below.refl _ _).alloc (Nat.le_refl _) _
              have kb : Below (y43.alloc (.cells #[.slice lp i lc, .slice p9 (i + 1) c9, .slice p14 (i + 2) c14, .slice p23 (i + 6) c23] 31)).heap.size (y43.alloc (.cells #[.slice lp i lc, .slice p9 (i + 1) c9, .slice p14 (i + 2) c14, .slice p23 (i + 6) c23] 31)) ((y43.alloc (.cells #[.slice lp i lc, .slice p9 (i + 1) c9, .slice p14 (i + 2) c14, .slice p23 (i + 6) c23] 31)).alloc (.cells #[.slice (some ⟨y43.heap.size, 0, none⟩) 4 4] 124)) := (Below.refl _ _).alloc (Nat.le_refl _) _
              have Ka := Ky43.below ka
              have Kb := Ka.below kb
              refine eny_one (i := 24) (by kernel_rfl) ?_
              refine wpOp_val (v := .slice (some ⟨y43.heap.size, 0, none⟩) 4 4) (w' := (y43.alloc (.cells #[.slice lp i lc, .slice p9 (i + 1) c9, .slice p14 (i + 2) c14, .slice p23 (i + 6) c23] 31))) rfl rfl (by go_simp) ?_
              refine ⟨.inr (hSb Ka), ?_⟩
              simp only [Act.put, List.getElem_toArray, List.getElem_cons_zero, List.getElem_cons_succ, List.setIfInBounds_toArray, List.set_cons_zero, List.set_cons_succ]
              refine relistE #[true, true, true, true, true, true, true, true, true, true, true, true, true, true, true, true, true, true, true, true, true, true, true, true, true, false, false, false, false, false] (by kernel_rfl) ?_
              refine eny_one (i := 25) (by kernel_rfl) ?_
              refine wpOp_val (v := .slice (some ⟨(y43.alloc (.cells #[.slice lp i lc, .slice p9 (i + 1) c9, .slice p14 (i + 2) c14, .slice p23 (i + 6) c23] 31)).heap.size, 0, none⟩) 1 1) (w' := ((y43.alloc (.cells #[.slice lp i lc, .slice p9 (i + 1) c9, .slice p14 (i + 2) c14, .slice p23 (i + 6) c23] 31)).alloc (.cells #[.slice (some ⟨y43.heap.size, 0, none⟩) 4 4] 124))) rfl rfl (by go_simp) ?_
              refine ⟨.inr (hSb Kb), ?_⟩
              simp only [Act.put, List.getElem_toArray, List.getElem_cons_zero, List.getElem_cons_succ, List.setIfInBounds_toArray, List.set_cons_zero, List.set_cons_succ]
              refine relistE #[true, true, true, true, true, true, true, true, true, true, true, true, true, true, true, true, true, true, true, true, true, true, true, true, true, true, false, false, false, false] (by kernel_rfl) ?_
              refine eny_one (i := 26) (by kernel_rfl) ?_
              refine wpOp_app rfl rfl (.tmp 26) (.tmp 47) 51 51 rfl (.slice bp n bc) (.slice (some ⟨(y43.alloc (.cells #[.slice lp i lc, .slice p9 (i + 1) c9, .slice p14 (i + 2) c14, .slice p23 (i + 6) c23] 31)).heap.size, 0, none⟩) 1 1) rfl rfl hr3 ?_
              refine ⟨.inr ⟨hd3, hc3⟩, ?_⟩
              simp only [Act.put, List.getElem_toArray, List.getElem_cons_zero, List.getElem_cons_succ, List.setIfInBounds_toArray, List.set_cons_zero, List.set_cons_succ]
              refine relistE #[true, true, true, true, true, true, true, true, true, true, true, true, true, true, true, true, true, true, true, true, true, true, true, true, true, true, true, false, false, false] (by kernel_rfl) ?_
              refine eny_one (i := 27) (by kernel_rfl) ?_
              refine wpOp_val (v := .pointer (some ⟨gb, 0, none⟩)) (w' := z3) rfl rfl (by go_simp) ?_
              refine ⟨.inr ⟨hd3, hc3⟩, ?_⟩
              simp only [Act.put, List.getElem_toArray, List.getElem_cons_zero, List.getElem_cons_succ, List.setIfInBounds_toArray, List.set_cons_zero, List.set_cons_succ]
              refine relistE #[true, true, true, true, true, true, true, true, true, true, true, true, true, true, true, true, true, true, true, true, true, true, true, true, true, true, true, true, false, false] (by kernel_rfl) ?_
              refine eny_one (i := 28) (by kernel_rfl) ?_
              refine wpOp_val (v := .pointer (some ⟨gb, 0, none⟩)) (w' := z3) rfl rfl (by go_simp) ?_
              refine ⟨.inr ⟨hd3, hc3⟩, ?_⟩
              simp only [Act.put, List.getElem_toArray, List.getElem_cons_zero, List.getElem_cons_succ, List.setIfInBounds_toArray, List.set_cons_zero, List.set_cons_succ]
              refine relistE #[true, true, true, true, true, true, true, true, true, true, true, true, true, true, true, true, true, true, true, true, true, true, true, true, true, true, true, true, true, false] (by kernel_rfl) ?_
              refine eny_one (i := 29) (by kernel_rfl) ?_
              refine wpOp_skip (w' := z3.setCell ⟨gb, 0, none⟩ (.slice (some ⟨ga, 0, none⟩) (n + 1) cap)) rfl rfl (by go_simp) ?_
              refine ⟨.inl rfl, ?_⟩
              simp only [Act.put, List.getElem_toArray, List.getElem_cons_zero, List.getElem_cons_succ, List.setIfInBounds_toArray, List.set_cons_zero, List.set_cons_succ]
              refine wpAnyE_done (by kernel_rfl) ?_ _
              refine NoPanic.normal ?_
              have HB3 : Hid _ := hB3
              have HK3 : Hid _ := (kp_of bU rfl).trans hk3
              clear hr3 hc3 hf3 hB3 hk3 ka kb Ka Kb KM hd3
              generalize z3.setCell ⟨gb, 0, none⟩ (.slice (some ⟨ga, 0, none⟩) (n + 1) cap) = zz at *
              go_wp2_with fail
              first | exact ⟨rfl, _, results_none rfl _ _ _, rfl, ⟨_, HB3.out⟩, HK3.out⟩ | exact ⟨rfl, _, results_none rfl _ _ _, rfl, _, HB3.out, HK3.out⟩
          · refine wpOp_val (v := .slice (some ⟨y36.heap.size, 0, none⟩) 6 6) (w' := y36.alloc (.cells (A8 (repM 6 M)) 25)) rfl rfl (exec_bsl6 M hMl y36 _ _ (.tmp 38) (.tmp 39) (.tmp 40) (.tmp 41) (.tmp 42) (.tmp 43) rfl rfl rfl rfl rfl rfl rfl) ?_
            obtain ⟨Ky44, gy44⟩ := Ky36.build hMl 6
            have by44 : Below y36.heap.size y36 (y36.alloc (.cells (A8 (repM 6 M)) 25)) := (Below.refl _ _).alloc (Nat.le_refl _) _
            refine ⟨.inr (hSb Ky44), ?_⟩
            simp only [Act.put, List.getElem_toArray, List.getElem_cons_zero, List.getElem_cons_succ, List.setIfInBounds_toArray, List.set_cons_zero, List.set_cons_succ]
            have G13y44 := G13y36.kp (kp_of by44 rfl) (fun x => x)
            have G8y44 := G8y36.kp (kp_of by44 rfl) (fun x => x)
            obtain ⟨y44, ey44⟩ : ∃ W, y36.alloc (.cells (A8 (repM 6 M)) 25) = W := ⟨_, rfl⟩
            obtain ⟨g22, egy44⟩ : ∃ gk, y36.heap.size = gk := ⟨_, rfl⟩
            rw [ey44] at Ky44 gy44 G13y44 G8y44
            rw [egy44] at gy44
            have G22y44 := gy44
            rw [ey44, egy44]
            clear ey44 egy44 by44 gy44
            refine relistE #[true, true, true, true, true, true, true, true, true, false, true, true, true, true, false, true, true, true, true, true, true, true, true, false, false, false, false, false, false, false] (by kernel_rfl) ?_
            refine eny_one (i := 9) (by kernel_rfl) ?_
            obtain ⟨p9, c9, y45, hry45, Ky45, V9y45, q9, hgy45, hvy45⟩ := Ky44.app hMl hm g8 1 (by omega) (by omega) G8y44
            refine wpOp_app rfl rfl (.tmp 28) (.tmp 30) 31 31 rfl (.slice lp i lc) (.slice (some ⟨g8, 0, none⟩) 1 1) rfl rfl hry45 ?_
            have G13y45 := hgy45 _ _ G13y44
            have G22y45 := hgy45 _ _ G22y44
            refine ⟨.inr (hSb Ky45), ?_⟩
            simp only [Act.put, List.getElem_toArray, List.getElem_cons_zero, List.getElem_cons_succ, List.setIfInBounds_toArray, List.set_cons_zero, List.set_cons_succ]
            clear hry45 hgy45 hvy45
            refine relistE #[true, true, true, true, true, true, true, true, true, true, true, true, true, true, false, true, true, true, true, true, true, true, true, false, false, false, false, false, false, false] (by kernel_rfl) ?_
            refine eny_one (i := 14) (by kernel_rfl) ?_
            obtain ⟨p14, c14, y46, hry46, Ky46, V14y46, q14, hgy46, hvy46⟩ := Ky45.app hMl hm g13 2 (by omega) (by omega) G13y45
            refine wpOp_app rfl rfl (.tmp 32) (.tmp 35) 31 31 rfl (.slice lp i lc) (.slice (some ⟨g13, 0, none⟩) 2 2) rfl rfl hry46 ?_
            have G22y46 := hgy46 _ _ G22y45
            have V9y46 := hvy46 _ _ (by omega) V9y45
            refine ⟨.inr (hSb Ky46), ?_⟩
            simp only [Act.put, List.getElem_toArray, List.getElem_cons_zero, List.getElem_cons_succ, List.setIfInBounds_toArray, List.set_cons_zero, List.set_cons_succ]
            clear hry46 hgy46 hvy46
            refine relistE #[true, true, true, true, true, true, true, true, true, true, true, true, true, true, true, true, true, true, true, true, true, true, true, false, false, false, false, false, false, false] (by kernel_rfl) ?_
            refine eny_one (i := 23) (by kernel_rfl) ?_
            obtain ⟨p23, c23, y47, hry47, Ky47, V23y47, q23, hgy47, hvy47⟩ := Ky46.app hMl hm g22 6 (by omega) (by omega) G22y46
            refine wpOp_app rfl rfl (.tmp 37) (.tmp 44) 31 31 rfl (.slice lp i lc) (.slice (some ⟨g22, 0, none⟩) 6 6) rfl rfl hry47 ?_
            have V9y47 := hvy47 _ _ (by omega) V9y46
            have V14y47 := hvy47 _ _ (by omega) V14y46
            refine ⟨.inr (hSb Ky47), ?_⟩
            simp only [Act.put, List.getElem_toArray, List.getElem_cons_zero, List.getElem_cons_succ, List.setIfInBounds_toArray, List.set_cons_zero, List.set_cons_succ]
            clear hry47 hgy47 hvy47
            refine relistE #[true, true, true, true, true, true, true, true, true, true, true, true, true, true, true, true, true, true, true, true, true, true, true, true, false, false, false, false, false, false] (by kernel_rfl) ?_
            have KM := Ky47
            rw [← HMM.out] at KM V9y47 V14y47 V23y47
            obtain ⟨ga, cap, z3, hr3, hd3, hc3, hf3, hB3, hk3⟩ := keep_end KM hn lp lc rfl p9 p14 p23 c9 c14 c23 V9y47 V14y47 V23y47 q9 q14 q23
            rw [HMM.out] at hd3
            have ka : Below y47.heap.size y47 (y47.alloc (.cells #[.slice lp i lc, .slice p9 (i + 1) c9, .slice p14 (i + 2) c14, .slice p23 (i + 6) c23] 31)) := (Below.refl _ _).alloc (Nat.le_refl _) _
            have kb : Below (y47.alloc (.cells #[.slice lp i lc, .slice p9 (i + 1) c9, .slice p14 (i + 2) c14, .slice p23 (i + 6) c23] 31)).heap.size (y47.alloc (.cells #[.slice lp i lc, .slice p9 (i + 1) c9, .slice p14 (i + 2) c14, .slice p23 (i + 6) c23] 31)) ((y47.alloc (.cells #[.slice lp i lc, .slice p9 (i + 1) c9, .slice p14 (i + 2) c14, .slice p23 (i + 6) c23] 31)).alloc (.cells #[.slice (some ⟨y47.heap.size, 0, none⟩) 4 4] 124)) := (Below.refl _ _).alloc (Nat.le_refl _) _
            have Ka := Ky47.below ka
            have Kb := Ka.below kb
            refine eny_one (i := 24) (by kernel_rfl) ?_
            refine wpOp_val (v := .slice (some ⟨y47.heap.size, 0, none⟩) 4 4) (w' := (y47.alloc (.cells #[.slice lp i lc, .slice p9 (i + 1) c9, .slice p14 (i + 2) c14, .slice p23 (i + 6) c23] 31))) rfl rfl (by go_simp) ?_
            refine ⟨.inr (hSb Ka), ?_⟩
            simp only [Act.put, List.getElem_toArray, List.getElem_cons_zero, List.getElem_cons_succ, List.setIfInBounds_toArray, List.set_cons_zero, List.set_cons_succ]
            refine relistE #[true, true, true, true, true, true, true, true, true, true, true, true, true, true, true, true, true, true, true, true, true, true, true, true, true, false, false, false, false, false] (by kernel_rfl) ?_
            refine eny_one (i := 25) (by kernel_rfl) ?_
            refine wpOp_val (v := .slice (some ⟨(y47.alloc (.cells #[.slice lp i lc, .slice p9 (i + 1) c9, .slice p14 (i + 2) c14, .slice p23 (i + 6) c23] 31)).heap.size, 0, none⟩) 1 1) (w' := ((y47.alloc (.cells #[.slice lp i lc, .slice p9 (i + 1) c9, .slice p14 (i + 2) c14, .slice p23 (i + 6) c23] 31)).alloc (.cells #[.slice (some ⟨y47.heap.size, 0, none⟩) 4 4] 124))) rfl rfl (by go_simp) ?_
            refine ⟨.inr (hSb Kb), ?_⟩
            simp only [Act.put, List.getElem_toArray, List.getElem_cons_zero, List.getElem_cons_succ, List.setIfInBounds_toArray, List.set_cons_zero, List.set_cons_succ]
            refine relistE #[true, true, true, true, true, true, true, true, true, true, true, true, true, true, true, true, true, true, true, true, true, true, true, true, true, true, false, false, false, false] (by kernel_rfl) ?_
            refine eny_one (i := 26) (by kernel_rfl) ?_
            refine wpOp_app rfl rfl (.tmp 26) (.tmp 47) 51 51 rfl (.slice bp n bc) (.slice (some ⟨(y47.alloc (.cells #[.slice lp i lc, .slice p9 (i + 1) c9, .slice p14 (i + 2) c14, .slice p23 (i + 6) c23] 31)).heap.size, 0, none⟩) 1 1) rfl rfl hr3 ?_
            refine ⟨.inr ⟨hd3, hc3⟩, ?_⟩
            simp only [Act.put, List.getElem_toArray, List.getElem_cons_zero, List.getElem_cons_succ, List.setIfInBounds_toArray, List.set_cons_zero, List.set_cons_succ]
            refine relistE #[true, true, true, true, true, true, true, true, true, true, true, true, true, true, true, true, true, true, true, true, true, true, true, true, true, true, true, false, false, false] (by kernel_rfl) ?_
            refine eny_one (i := 27) (by kernel_rfl) ?_
            refine wpOp_val (v := .pointer (some ⟨gb, 0, none⟩)) (w' := z3) rfl rfl (by go_simp) ?_
            refine ⟨.inr ⟨hd3, hc3⟩, ?_⟩
            simp only [Act.put, List.getElem_toArray, List.getElem_cons_zero, List.getElem_cons_succ, List.setIfInBounds_toArray, List.set_cons_zero, List.set_cons_succ]
            refine relistE #[true, true, true, true, true, true, true, true, true, true, true, true, true, true, true, true, true, true, true, true, true, true, true, true, true, true, true, true, false, false] (by kernel_rfl) ?_
            refine eny_one (i := 28) (by kernel_rfl) ?_
            refine wpOp_val (v := .pointer (some ⟨gb, 0, none⟩)) (w' := z3) rfl rfl (by go_simp) ?_
            refine ⟨.inr ⟨hd3, hc3⟩, ?_⟩
            simp only [Act.put, List.getElem_toArray, List.getElem_cons_zero, List.getElem_cons_succ, List.setIfInBounds_toArray, List.set_cons_zero, List.set_cons_succ]
            refine relistE #[true, true, true, true, true, true, true, true, true, true, true, true, true, true, true, true, true, true, true, true, true, true, true, true, true, true, true, true, true, false] (by kernel_rfl) ?_
            refine eny_one (i := 29) (by kernel_rfl) ?_
            refine wpOp_skip (w' := z3.setCell ⟨gb, 0, none⟩ (.slice (some ⟨ga, 0, none⟩) (n + 1) cap)) rfl rfl (by go_simp) ?_
            refine ⟨.inl rfl, ?_⟩
            simp only [Act.put, List.getElem_toArray, List.getElem_cons_zero, List.getElem_cons_succ, List.setIfInBounds_toArray, List.set_cons_zero, List.set_cons_succ]
            refine wpAnyE_done (by kernel_rfl) ?_ _
            refine NoPanic.normal ?_
            have HB3 : Hid _ := hB3
            have HK3 : Hid _ := (kp_of bU rfl).trans hk3
            clear hr3 hc3 hf3 hB3 hk3 ka kb Ka Kb KM hd3
            generalize z3.setCell ⟨gb, 0, none⟩ (.slice (some ⟨ga, 0, none⟩) (n + 1) cap) = zz at *
            go_wp2_with fail
            first | exact ⟨rfl, _, results_none rfl _ _ _, rfl, ⟨_, HB3.out⟩, HK3.out⟩ | exact ⟨rfl, _, results_none rfl _ _ _, rfl, _, HB3.out, HK3.out⟩
        · refine wpOp_val (v := .slice (some ⟨y35.heap.size, 0, none⟩) 6 6) (w' := y35.alloc (.cells (A8 (repM 6 M)) 25)) rfl rfl (exec_bsl6 M hMl y35 _ _ (.tmp 38) (.tmp 39) (.tmp 40) (.tmp 41) (.tmp 42) (.tmp 43) rfl rfl rfl rfl rfl rfl rfl) ?_
          obtain ⟨Ky48, gy48⟩ := Ky35.build hMl 6
          have by48 : Below y35.heap.size y35 (y35.alloc (.cells (A8 (repM 6 M)) 25)) := (Below.refl _ _).alloc (Nat.le_refl _) _
          refine ⟨.inr (hSb Ky48), ?_⟩
          simp only [Act.put, List.getElem_toArray, List.getElem_cons_zero, List.getElem_cons_succ, List.setIfInBounds_toArray, List.set_cons_zero, List.set_cons_succ]
          have G13y48 := G13y35.kp (kp_of by48 rfl) (fun x => x)
          obtain ⟨y48, ey48⟩ : ∃ W, y35.alloc (.cells (A8 (repM 6 M)) 25) = W := ⟨_, rfl⟩
          obtain ⟨g22, egy48⟩ : ∃ gk, y35.heap.size = gk := ⟨_, rfl⟩
          rw [ey48] at Ky48 gy48 G13y48
          rw [egy48] at gy48
          have G22y48 := gy48
          rw [ey48, egy48]
          clear ey48 egy48 by48 gy48
          refine relistE #[true, true, true, true, true, true, true, true, false, false, true, true, true, true, false, true, true, true, true, true, true, true, true, false, false, false, false, false, false, false] (by kernel_rfl) ?_
          refine eny_one (i := 8) (by kernel_rfl) ?_
          refine wpOp_val (v := .slice (some ⟨y48.heap.size, 0, none⟩) 1 1) (w' := y48.alloc (.cells (A8 (repM 1 M)) 25)) rfl rfl (exec_bsl1 M hMl y48 _ _ (.tmp 29) rfl rfl) ?_
          obtain ⟨Ky49, gy49⟩ := Ky48.build hMl 1
          have by49 : Below y48.heap.size y48 (y48.alloc (.cells (A8 (repM 1 M)) 25)) := (Below.refl _ _).alloc (Nat.le_refl _) _
          refine ⟨.inr (hSb Ky49), ?_⟩
          simp only [Act.put, List.getElem_toArray, List.getElem_cons_zero, List.getElem_cons_succ, List.setIfInBounds_toArray, List.set_cons_zero, List.set_cons_succ]
          have G13y49 := G13y48.kp (kp_of by49 rfl) (fun x => x)
          have G22y49 := G22y48.kp (kp_of by49 rfl) (fun x => x)
          obtain ⟨y49, ey49⟩ : ∃ W, y48.alloc (.cells (A8 (repM 1 M)) 25) = W := ⟨_, rfl⟩
          obtain ⟨g8, egy49⟩ : ∃ gk, y48.heap.size = gk := ⟨_, rfl⟩
          rw [ey49] at Ky49 gy49 G13y49 G22y49
          rw [egy49] at gy49
          have G8y49 := gy49
          rw [ey49, egy49]
          clear ey49 egy49 by49 gy49
          refine relistE #[true, true, true, true, true, true, true, true, true, false, true, true, true, true, false, true, true, true, true, true, true, true, true, false, false, false, false, false, false, false] (by kernel_rfl) ?_
          refine eny_one (i := 9) (by kernel_rfl) ?_
          obtain ⟨p9, c9, y50, hry50, Ky50, V9y50, q9, hgy50, hvy50⟩ := Ky49.app hMl hm g8 1 (by omega) (by omega) G8y49
          refine wpOp_app rfl rfl (.tmp 28) (.tmp 30) 31 31 rfl (.slice lp i lc) (.slice (some ⟨g8, 0, none⟩) 1 1) rfl rfl hry50 ?_
          have G13y50 := hgy50 _ _ G13y49
          have G22y50 := hgy50 _ _ G22y49
          refine ⟨.inr (hSb Ky50), ?_⟩
          simp only [Act.put, List.getElem_toArray, List.getElem_cons_zero, List.getElem_cons_succ, List.setIfInBounds_toArray, List.set_cons_zero, List.set_cons_succ]
          clear hry50 hgy50 hvy50
          refine relistE #[true, true, true, true, true, true, true, true, true, true, true, true, true, true, false, true, true, true, true, true, true, true, true, false, false, false, false, false, false, false] (by kernel_rfl) ?_
          refine eny_one (i := 14) (by kernel_rfl) ?_
          obtain ⟨p14, c14, y51, hry51, Ky51, V14y51, q14, hgy51, hvy51⟩ := Ky50.app hMl hm g13 2 (by omega) (by omega) G13y50
          refine wpOp_app rfl rfl (.tmp 32) (.tmp 35) 31 31 rfl (.slice lp i lc) (.slice (some ⟨g13, 0, none⟩) 2 2) rfl rfl hry51 ?_
          have G22y51 := hgy51 _ _ G22y50
          have V9y51 := hvy51 _ _ (by omega) V9y50
          refine ⟨.inr (hSb Ky51), ?_⟩
          simp only [Act.put, List.getElem_toArray, List.getElem_cons_zero, List.getElem_cons_succ, List.setIfInBounds_toArray, List.set_cons_zero, List.set_cons_succ]
          clear hry51 hgy51 hvy51
          refine relistE #[true, true, true, true, true, true, true, true, true, true, true, true, true, true, true, true, true, true, true, true, true, true, true, false, false, false, false, false, false, false] (by kernel_rfl) ?_
          refine eny_one (i := 23) (by kernel_rfl) ?_
          obtain ⟨p23, c23, y52, hry52, Ky52, V23y52, q23, hgy52, hvy52⟩ := Ky51.app hMl hm g22 6 (by omega) (by omega) G22y51
          refine wpOp_app rfl rfl (.tmp 37) (.tmp 44) 31 31 rfl (.slice lp i lc) (.slice (some ⟨g22, 0, none⟩) 6 6) rfl rfl hry52 ?_
          have V9y52 := hvy52 _ _ (by omega) V9y51
          have V14y52 := hvy52 _ _ (by omega) V14y51
          refine ⟨.inr (hSb Ky52), ?_⟩
          simp only [Act.put, List.getElem_toArray, List.getElem_cons_zero, List.getElem_cons_succ, List.setIfInBounds_toArray, List.set_cons_zero, List.set_cons_succ]
          clear hry52 hgy52 hvy52
          refine relistE #[true, true, true, true, true, true, true, true, true, true, true, true, true, true, true, true, true, true, true, true, true, true, true, true, false, false, false, false, false, false] (by kernel_rfl) ?_
          have KM := Ky52
          rw [← HMM.out] at KM V9y52 V14y52 V23y52
          obtain ⟨ga, cap, z3, hr3, hd3, hc3, hf3, hB3, hk3⟩ := keep_end KM hn lp lc rfl p9 p14 p23 c9 c14 c23 V9y52 V14y52 V23y52 q9 q14 q23
          rw [HMM.out] at hd3
          have ka : Below y52.heap.size y52 (y52.alloc (.cells #[.slice lp i lc, .slice p9 (i + 1) c9, .slice p14 (i + 2) c14, .slice p23 (i + 6) c23] 31)) := (Below.refl _ _).alloc (Nat.le_refl _) _
          have kb : Below (y52.alloc (.cells #[.slice lp i lc, .slice p9 (i + 1) c9, .slice p14 (i + 2) c14, .slice p23 (i + 6) c23] 31)).heap.size (y52.alloc (.cells #[.slice lp i lc, .slice p9 (i + 1) c9, .slice p14 (i + 2) c14, .slice p23 (i + 6) c23] 31)) ((y52.alloc (.cells #[.slice lp i lc, .slice p9 (i + 1) c9, .slice p14 (i + 2) c14, .slice p23 (i + 6) c23] 31)).alloc (.cells #[.slice (some ⟨y52.heap.size, 0, none⟩) 4 4] 124)) := (Below.refl _ _).alloc (Nat.le_refl _) _
          have Ka := Ky52.below ka
          have Kb := Ka.below kb
          refine eny_one (i := 24) (by kernel_rfl) ?_
          refine wpOp_val (v := .slice (some ⟨y52.heap.size, 0, none⟩) 4 4) (w' := (y52.alloc (.cells #[.slice lp i lc, .slice p9 (i + 1) c9, .slice p14 (i + 2) c14, .slice p23 (i + 6) c23] 31))) rfl rfl (by go_simp) ?_
          refine ⟨.inr (hSb Ka), ?_⟩
          simp only [Act.put, List.getElem_toArray, List.getElem_cons_zero, List.getElem_cons_succ, List.setIfInBounds_toArray, List.set_cons_zero, List.set_cons_succ]
          refine relistE #[true, true, true, true, true, true, true, true, true, true, true, true, true, true, true, true, true, true, true, true, true, true, true, true, true, false, false, false, false, false] (by kernel_rfl) ?_
          refine eny_one (i := 25) (by kernel_rfl) ?_
          refine wpOp_val (v := .slice (some ⟨(y52.alloc (.cells #[.slice lp i lc, .slice p9 (i + 1) c9, .slice p14 (i + 2) c14, .slice p23 (i + 6) c23] 31)).heap.size, 0, none⟩) 1 1) (w' := ((y52.alloc (.cells #[.slice lp i lc, .slice p9 (i + 1) c9, .slice p14 (i + 2) c14, .slice p23 (i + 6) c23] 31)).alloc (.cells #[.slice (some ⟨y52.heap.size, 0, none⟩) 4 4] 124))) rfl rfl (by go_simp) ?_
          refine ⟨.inr (hSb Kb), ?_⟩
          simp only [Act.put, List.getElem_toArray, List.getElem_cons_zero, List.getElem_cons_succ, List.setIfInBounds_toArray, List.set_cons_zero, List.set_cons_succ]
          refine relistE #[true, true, true, true, true, true, true, true, true, true, true, true, true, true, true, true, true, true, true, true, true, true, true, true, true, true, false, false, false, false] (by kernel_rfl) ?_
          refine eny_one (i := 26) (by kernel_rfl) ?_
          refine wpOp_app rfl rfl (.tmp 26) (.tmp 47) 51 51 rfl (.slice bp n bc) (.slice (some ⟨(y52.alloc (.cells #[.slice lp i lc, .slice p9 (i + 1) c9, .slice p14 (i + 2) c14, .slice p23 (i + 6) c23] 31)).heap.size, 0, none⟩) 1 1) rfl rfl hr3 ?_
          refine ⟨.inr ⟨hd3, hc3⟩, ?_⟩
          simp only [Act.put, List.getElem_toArray, List.getElem_cons_zero, List.getElem_cons_succ, List.setIfInBounds_toArray, List.set_cons_zero, List.set_cons_succ]
          refine relistE #[true, true, true, true, true, true, true, true, true, true, true, true, true, true, true, true, true, true, true, true, true, true, true, true, true, true, true, false, false, false] (by kernel_rfl) ?_
          refine eny_one (i := 27) (by kernel_rfl) ?_
          refine wpOp_val (v := .pointer (some ⟨gb, 0, none⟩)) (w' := z3) rfl rfl (by go_simp) ?_
          refine ⟨.inr ⟨hd3, hc3⟩, ?_⟩
          simp only [Act.put, List.getElem_toArray, List.getElem_cons_zero, List.getElem_cons_succ, List.setIfInBounds_toArray, List.set_cons_zero, List.set_cons_succ]
          refine relistE #[true, true, true, true, true, true, true, true, true, true, true, true, true, true, true, true, true, true, true, true, true, true, true, true, true, true, true, true, false, false] (by kernel_rfl) ?_
          refine eny_one (i := 28) (by kernel_rfl) ?_
          refine wpOp_val (v := .pointer (some ⟨gb, 0, none⟩)) (w' := z3) rfl rfl (by go_simp) ?_
          refine ⟨.inr ⟨hd3, hc3⟩, ?_⟩
          simp only [Act.put, List.getElem_toArray, List.getElem_cons_zero, List.getElem_cons_succ, List.setIfInBounds_toArray, List.set_cons_zero, List.set_cons_succ]
          refine relistE #[true, true, true, true, true, true, true, true, true, true, true, true, true, true, true, true, true, true, true, true, true, true, true, true, true, true, true, true, true, false] (by kernel_rfl) ?_
          refine eny_one (i := 29) (by kernel_rfl) ?_
          refine wpOp_skip (w' := z3.setCell ⟨gb, 0, none⟩ (.slice (some ⟨ga, 0, none⟩) (n + 1) cap)) rfl rfl (by go_simp) ?_
          refine ⟨.inl rfl, ?_⟩
          simp only [Act.put, List.getElem_toArray, List.getElem_cons_zero, List.getElem_cons_succ, List.setIfInBounds_toArray, List.set_cons_zero, List.set_cons_succ]
          refine wpAnyE_done (by kernel_rfl) ?_ _
          refine NoPanic.normal ?_
          have HB3 : Hid _ := hB3
          have HK3 : Hid _ := (kp_of bU rfl).trans hk3
          clear hr3 hc3 hf3 hB3 hk3 ka kb Ka Kb KM hd3
          generalize z3.setCell ⟨gb, 0, none⟩ (.slice (some ⟨ga, 0, none⟩) (n + 1) cap) = zz at *
          go_wp2_with fail
          first | exact ⟨rfl, _, results_none rfl _ _ _, rfl, ⟨_, HB3.out⟩, HK3.out⟩ | exact ⟨rfl, _, results_none rfl _ _ _, rfl, _, HB3.out, HK3.out⟩
      · refine wpOp_val (v := .slice (some ⟨y0.heap.size, 0, none⟩) 6 6) (w' := y0.alloc (.cells (A8 (repM 6 M)) 25)) rfl rfl (exec_bsl6 M hMl y0 _ _ (.tmp 38) (.tmp 39) (.tmp 40) (.tmp 41) (.tmp 42) (.tmp 43) rfl rfl rfl rfl rfl rfl rfl) ?_
        obtain ⟨Ky53, gy53⟩ := HKd.build hMl 6
        have by53 : Below y0.heap.size y0 (y0.alloc (.cells (A8 (repM 6 M)) 25)) := (Below.refl _ _).alloc (Nat.le_refl _) _
        refine ⟨.inr (hSb Ky53), ?_⟩
        simp only [Act.put, List.getElem_toArray, List.getElem_cons_zero, List.getElem_cons_succ, List.setIfInBounds_toArray, List.set_cons_zero, List.set_cons_succ]
        obtain ⟨y53, ey53⟩ : ∃ W, y0.alloc (.cells (A8 (repM 6 M)) 25) = W := ⟨_, rfl⟩
        obtain ⟨g22, egy53⟩ : ∃ gk, y0.heap.size = gk := ⟨_, rfl⟩
        rw [ey53] at Ky53 gy53
        rw [egy53] at gy53
        have G22y53 := gy53
        rw [ey53, egy53]
        clear ey53 egy53 by53 gy53
        refine relistE #[true, true, true, true, true, true, true, true, false, false, true, true, true, false, false, true, true, true, true, true, true, true, true, false, false, false, false, false, false, false] (by kernel_rfl) ?_
        refine eny_two (i := 8) (j := 13) (by kernel_rfl) ?_ ?_
        · refine wpOp_val (v := .slice (some ⟨y53.heap.size, 0, none⟩) 1 1) (w' := y53.alloc (.cells (A8 (repM 1 M)) 25)) rfl rfl (exec_bsl1 M hMl y53 _ _ (.tmp 29) rfl rfl) ?_
          obtain ⟨Ky54, gy54⟩ := Ky53.build hMl 1
          have by54 : Below y53.heap.size y53 (y53.alloc (.cells (A8 (repM 1 M)) 25)) := (Below.refl _ _).alloc (Nat.le_refl _) _
          refine ⟨.inr (hSb Ky54), ?_⟩
          simp only [Act.put, List.getElem_toArray, List.getElem_cons_zero, List.getElem_cons_succ, List.setIfInBounds_toArray, List.set_cons_zero, List.set_cons_succ]
          have G22y54 := G22y53.kp (kp_of by54 rfl) (fun x => x)
          obtain ⟨y54, ey54⟩ : ∃ W, y53.alloc (.cells (A8 (repM 1 M)) 25) = W := ⟨_, rfl⟩
          obtain ⟨g8, egy54⟩ : ∃ gk, y53.heap.size = gk := ⟨_, rfl⟩
          rw [ey54] at Ky54 gy54 G22y54
          rw [egy54] at gy54
          have G8y54 := gy54
          rw [ey54, egy54]
          clear ey54 egy54 by54 gy54
          refine relistE #[true, true, true, true, true, true, true, true, true, false, true, true, true, false, false, true, true, true, true, true, true, true, true, false, false, false, false, false, false, false] (by kernel_rfl) ?_
          refine eny_two (i := 9) (j := 13) (by kernel_rfl) ?_ ?_
          · obtain ⟨p9, c9, y55, hry55, Ky55, V9y55, q9, hgy55, hvy55⟩ := Ky54.app hMl hm g8 1 (by omega) (by omega) G8y54
            refine wpOp_app rfl rfl (.tmp 28) (.tmp 30) 31 31 rfl (.slice lp i lc) (.slice (some ⟨g8, 0, none⟩) 1 1) rfl rfl hry55 ?_
            have G22y55 := hgy55 _ _ G22y54
            refine ⟨.inr (hSb Ky55), ?_⟩
            simp only [Act.put, List.getElem_toArray, List.getElem_cons_zero, List.getElem_cons_succ, List.setIfInBounds_toArray, List.set_cons_zero, List.set_cons_succ]
            clear hry55 hgy55 hvy55
            refine relistE #[true, true, true, true, true, true, true, true, true, true, true, true, true, false, false, true, true, true, true, true, true, true, true, false, false, false, false, false, false, false] (by kernel_rfl) ?_
            refine eny_one (i := 13) (by kernel_rfl) ?_
            refine wpOp_val (v := .slice (some ⟨y55.heap.size, 0, none⟩) 2 2) (w' := y55.alloc (.cells (A8 (repM 2 M)) 25)) rfl rfl (exec_bsl2 M hMl y55 _ _ (.tmp 33) (.tmp 34) rfl rfl rfl) ?_
            obtain ⟨Ky56, gy56⟩ := Ky55.build hMl 2
            have by56 : Below y55.heap.size y55 (y55.alloc (.cells (A8 (repM 2 M)) 25)) := (Below.refl _ _).alloc (Nat.le_refl _) _
            refine ⟨.inr (hSb Ky56), ?_⟩
            simp only [Act.put, List.getElem_toArray, List.getElem_cons_zero, List.getElem_cons_succ, List.setIfInBounds_toArray, List.set_cons_zero, List.set_cons_succ]
            have G22y56 := G22y55.kp (kp_of by56 rfl) (fun x => x)
            have V9y56 := V9y55.kp (kp_of by56 rfl) (fun _ _ x => x)
            obtain ⟨y56, ey56⟩ : ∃ W, y55.alloc (.cells (A8 (repM 2 M)) 25) = W := ⟨_, rfl⟩
            obtain ⟨g13, egy56⟩ : ∃ gk, y55.heap.size = gk := ⟨_, rfl⟩
            rw [ey56] at Ky56 gy56 G22y56 V9y56
            rw [egy56] at gy56
            have G13y56 := gy56
            rw [ey56, egy56]
            clear ey56 egy56 by56 gy56
            refine relistE #[true, true, true, true, true, true, true, true, true, true, true, true, true, true, false, true, true, true, true, true, true, true, true, false, false, false, false, false, false, false] (by kernel_rfl) ?_
            refine eny_one (i := 14) (by kernel_rfl) ?_
            obtain ⟨p14, c14, y57, hry57, Ky57, V14y57, q14, hgy57, hvy57⟩ := Ky56.app hMl hm g13 2 (by omega) (by omega) G13y56
            refine wpOp_app rfl rfl (.tmp 32) (.tmp 35) 31 31 rfl (.slice lp i lc) (.slice (some ⟨g13, 0, none⟩) 2 2) rfl rfl hry57 ?_
            have G22y57 := hgy57 _ _ G22y56
            have V9y57 := hvy57 _ _ (by omega) V9y56
            refine ⟨.inr (hSb Ky57), ?_⟩
            simp only [Act.put, List.getElem_toArray, List.getElem_cons_zero, List.getElem_cons_succ, List.setIfInBounds_toArray, List.set_cons_zero, List.set_cons_succ]
            clear hry57 hgy57 hvy57
            refine relistE #[true, true, true, true, true, true, true, true, true, true, true, true, true, true, true, true, true, true, true, true, true, true, true, false, false, false, false, false, false, false] (by kernel_rfl) ?_
            refine eny_one (i := 23) (by kernel_rfl) ?_
            obtain ⟨p23, c23, y58, hry58, Ky58, V23y58, q23, hgy58, hvy58⟩ := Ky57.app hMl hm g22 6 (by omega) (by omega) G22y57
            refine wpOp_app rfl rfl (.tmp 37) (.tmp 44) 31 31 rfl (.slice lp i lc) (.slice (some ⟨g22, 0, none⟩) 6 6) rfl rfl hry58 ?_
            have V9y58 := hvy58 _ _ (by omega) V9y57
            have V14y58 := hvy58 _ _ (by omega) V14y57
            refine ⟨.inr (hSb Ky58), ?_⟩
            simp only [Act.put, List.getElem_toArray, List.getElem_cons_zero, List.getElem_cons_succ, List.setIfInBounds_toArray, List.set_cons_zero, List.set_cons_succ]
            clear hry58 hgy58 hvy58
            refine relistE #[true, true, true, true, true, true, true, true, true, true, true, true, true, true, true, true, true, true, true, true, true, true, true, true, false, false, false, false, false, false] (by kernel_rfl) ?_
            have KM := Ky58
            rw [← HMM.out] at KM V9y58 V14y58 V23y58
            obtain ⟨ga, cap, z3, hr3, hd3, hc3, hf3, hB3, hk3⟩ := keep_end KM hn lp lc rfl p9 p14 p23 c9 c14 c23 V9y58 V14y58 V23y58 q9 q14 q23
            rw [HMM.out] at hd3
            have ka : Below y58.heap.size y58 (y58.alloc (.cells #[.slice lp i lc, .slice p9 (i + 1) c9, .slice p14 (i + 2) c14, .slice p23 (i + 6) c23] 31)) := (Below.refl _ _).alloc (Nat.le_refl _) _
            have kb : Below (y58.alloc (.cells #[.slice lp i lc, .slice p9 (i + 1) c9, .slice p14 (i + 2) c14, .slice p23 (i + 6) c23] 31)).heap.size (y58.alloc (.cells #[.slice lp i lc, .slice p9 (i + 1) c9, .slice p14 (i + 2) c14, .slice p23 (i + 6) c23] 31)) ((y58.alloc (.cells #[.slice lp i lc, .slice p9 (i + 1) c9, .slice p14 (i + 2) c14, .slice p23 (i + 6) c23] 31)).alloc (.cells #[.slice (some ⟨y58.heap.size, 0, none⟩) 4 4] 124)) := (Below.refl _ _).alloc (Nat.le_refl _) _
            have Ka := Ky58.below ka
            have Kb := Ka.below kb
            refine eny_one (i := 24) (by kernel_rfl) ?_
            refine wpOp_val (v := .slice (some ⟨y58.heap.size, 0, none⟩) 4 4) (w' := (y58.alloc (.cells #[.slice lp i lc, .slice p9 (i + 1) c9, .slice p14 (i + 2) c14, .slice p23 (i + 6) c23] 31))) rfl rfl (by go_simp) ?_
            refine ⟨.inr (hSb Ka), ?_⟩
            simp only [Act.put, List.getElem_toArray, List.getElem_cons_zero, List.getElem_cons_succ, List.setIfInBounds_toArray, List.set_cons_zero, List.set_cons_succ]
            refine relistE #[true, true, true, true, true, true, true, true, true, true, true, true, true, true, true, true, true, true, true, true, true, true, true, true, true, false, false, false, false, false] (by kernel_rfl) ?_
            refine eny_one (i := 25) (by kernel_rfl) ?_
            refine wpOp_val (v := .slice (some ⟨(y58.alloc (.cells #[.slice lp i lc, .slice p9 (i + 1) c9, .slice p14 (i + 2) c14, .slice p23 (i + 6) c23] 31)).heap.size, 0, none⟩) 1 1) (w' := ((y58.alloc (.cells #[.slice lp i lc, .slice p9 (i + 1) c9, .slice p14 (i + 2) c14, .slice p23 (i + 6) c23] 31)).alloc (.cells #[.slice (some ⟨y58.heap.size, 0, none⟩) 4 4] 124))) rfl rfl (by go_simp) ?_
            refine ⟨.inr (hSb Kb), ?_⟩
            simp only [Act.put, List.getElem_toArray, List.getElem_cons_zero, List.getElem_cons_succ, List.setIfInBounds_toArray, List.set_cons_zero, List.set_cons_succ]
            refine relistE #[true, true, true, true, true, true, true, true, true, true, true, true, true, true, true, true, true, true, true, true, true, true, true, true, true, true, false, false, false, false] (by kernel_rfl) ?_
            refine eny_one (i := 26) (by kernel_rfl) ?_
            refine wpOp_app rfl rfl (.tmp 26) (.tmp 47) 51 51 rfl (.slice bp n bc) (.slice (some ⟨(y58.alloc (.cells #[.slice lp i lc, .slice p9 (i + 1) c9, .slice p14 (i + 2) c14, .slice p23 (i + 6) c23] 31)).heap.size, 0, none⟩) 1 1) rfl rfl hr3 ?_
            refine ⟨.inr ⟨hd3, hc3⟩, ?_⟩
            simp only [Act.put, List.getElem_toArray, List.getElem_cons_zero, List.getElem_cons_succ, List.setIfInBounds_toArray, List.set_cons_zero, List.set_cons_succ]
            refine relistE #[true, true, true, true, true, true, true, true, true, true, true, true, true, true, true, true, true, true, true, true, true, true, true, true, true, true, true, false, false, false] (by kernel_rfl) ?_
            refine eny_one (i := 27) (by kernel_rfl) ?_
            refine wpOp_val (v := .pointer (some ⟨gb, 0, none⟩)) (w' := z3) rfl rfl (by go_simp) ?_
            refine ⟨.inr ⟨hd3, hc3⟩, ?_⟩
            simp only [Act.put, List.getElem_toArray, List.getElem_cons_zero, List.getElem_cons_succ, List.setIfInBounds_toArray, List.set_cons_zero, List.set_cons_succ]
            refine relistE #[true, true, true, true, true, true, true, true, true, true, true, true, true, true, true, true, true, true, true, true, true, true, true, true, true, true, true, true, false, false] (by kernel_rfl) ?_
            refine eny_one (i := 28) (by kernel_rfl) ?_
            refine wpOp_val (v := .pointer (some ⟨gb, 0, none⟩)) (w' := z3) rfl rfl (by go_simp) ?_
            refine ⟨.inr ⟨hd3, hc3⟩, ?_⟩
            simp only [Act.put, List.getElem_toArray, List.getElem_cons_zero, List.getElem_cons_succ, List.setIfInBounds_toArray, List.set_cons_zero, List.set_cons_succ]
            refine relistE #[true, true, true, true, true, true, true, true, true, true, true, true, true, true, true, true, true, true, true, true, true, true, true, true, true, true, true, true, true, false] (by kernel_rfl) ?_
            refine eny_one (i := 29) (by kernel_rfl) ?_
            refine wpOp_skip (w' := z3.setCell ⟨gb, 0, none⟩ (.slice (some ⟨ga, 0, none⟩) (n + 1) cap)) rfl rfl (by go_simp) ?_
            refine ⟨.inl rfl, ?_⟩
            simp only [Act.put, List.getElem_toArray, List.getElem_cons_zero, List.getElem_cons_succ, List.setIfInBounds_toArray, List.set_cons_zero, List.set_cons_succ]
            refine wpAnyE_done (by kernel_rfl) ?_ _
            refine NoPanic.normal ?_
            have HB3 : Hid _ := hB3
            have HK3 : Hid _ := (kp_of bU rfl).trans hk3
            clear hr3 hc3 hf3 hB3 hk3 ka kb Ka Kb KM hd3
            generalize z3.setCell ⟨gb, 0, none⟩ (.slice (some ⟨ga, 0, none⟩) (n + 1) cap) = zz at *
            go_wp2_with fail
            first | exact ⟨rfl, _, results_none rfl _ _ _, rfl, ⟨_, HB3.out⟩, HK3.out⟩ | exact ⟨rfl, _, results_none rfl _ _ _, rfl, _, HB3.out, HK3.out⟩
          · refine wpOp_val (v := .slice (some ⟨y54.heap.size, 0, none⟩) 2 2) (w' := y54.alloc (.cells (A8 (repM 2 M)) 25)) rfl rfl (exec_bsl2 M hMl y54 _ _ (.tmp 33) (.tmp 34) rfl rfl rfl) ?_
            obtain ⟨Ky59, gy59⟩ := Ky54.build hMl 2
            have by59 : Below y54.heap.size y54 (y54.alloc (.cells (A8 (repM 2 M)) 25)) := (Below.refl _ _).alloc (Nat.le_refl _) _
            refine ⟨.inr (hSb Ky59), ?_⟩
            simp only [Act.put, List.getElem_toArray, List.getElem_cons_zero, List.getElem_cons_succ, List.setIfInBounds_toArray, List.set_cons_zero, List.set_cons_succ]
            have G22y59 := G22y54.kp (kp_of by59 rfl) (fun x => x)
            have G8y59 := G8y54.kp (kp_of by59 rfl) (fun x => x)
            obtain ⟨y59, ey59⟩ : ∃ W, y54.alloc (.cells (A8 (repM 2 M)) 25) = W := ⟨_, rfl⟩
            obtain ⟨g13, egy59⟩ : ∃ gk, y54.heap.size = gk := ⟨_, rfl⟩
            rw [ey59] at Ky59 gy59 G22y59 G8y59
            rw [egy59] at gy59
            have G13y59 := gy59
            rw [ey59, egy59]
            clear ey59 egy59 by59 gy59
            refine relistE #[true, true, true, true, true, true, true, true, true, false, true, true, true, true, false, true, true, true, true, true, true, true, true, false, false, false, false, false, false, false] (by kernel_rfl) ?_
            refine eny_one (i := 9) (by kernel_rfl) ?_
            obtain ⟨p9, c9, y60, hry60, Ky60, V9y60, q9, hgy60, hvy60⟩ := Ky59.app hMl hm g8 1 (by omega) (by omega) G8y59
            refine wpOp_app rfl rfl (.tmp 28) (.tmp 30) 31 31 rfl (.slice lp i lc) (.slice (some ⟨g8, 0, none⟩) 1 1) rfl rfl hry60 ?_
            have G22y60 := hgy60 _ _ G22y59
            have G13y60 := hgy60 _ _ G13y59
            refine ⟨.inr (hSb Ky60), ?_⟩
            simp only [Act.put, List.getElem_toArray, List.getElem_cons_zero, List.getElem_cons_succ, List.setIfInBounds_toArray, List.set_cons_zero, List.set_cons_succ]
            clear hry60 hgy60 hvy60
            refine relistE #[true, true, true, true, true, true, true, true, true, true, true, true, true, true, false, true, true, true, true, true, true, true, true, false, false, false, false, false, false, false] (by kernel_rfl) ?_
            refine eny_one (i := 14) (by kernel_rfl) ?_
            obtain ⟨p14, c14, y61, hry61, Ky61, V14y61, q14, hgy61, hvy61⟩ := Ky60.app hMl hm g13 2 (by omega) (by omega) G13y60
            refine wpOp_app rfl rfl (.tmp 32) (.tmp 35) 31 31 rfl (.slice lp i lc) (.slice (some ⟨g13, 0, none⟩) 2 2) rfl rfl hry61 ?_
            have G22y61 := hgy61 _ _ G22y60
            have V9y61 := hvy61 _ _ (by omega) V9y60
            refine ⟨.inr (hSb Ky61), ?_⟩
            simp only [Act.put, List.getElem_toArray, List.getElem_cons_zero, List.getElem_cons_succ, List.setIfInBounds_toArray, List.set_cons_zero, List.set_cons_succ]
            clear hry61 hgy61 hvy61
            refine relistE #[true, true, true, true, true, true, true, true, true, true, true, true, true, true, true, true, true, true, true, true, true, true, true, false, false, false, false, false, false, false] (by kernel_rfl) ?_
            refine eny_one (i := 23) (by kernel_rfl) ?_
            obtain ⟨p23, c23, y62, hry62, Ky62, V23y62, q23, hgy62, hvy62⟩ := Ky61.app hMl hm g22 6 (by omega) (by omega) G22y61
            refine wpOp_app rfl rfl (.tmp 37) (.tmp 44) 31 31 rfl (.slice lp i lc) (.slice (some ⟨g22, 0, none⟩) 6 6) rfl rfl hry62 ?_
            have V9y62 := hvy62 _ _ (by omega) V9y61
            have V14y62 := hvy62 _ _ (by omega) V14y61
            refine ⟨.inr (hSb Ky62), ?_⟩
            simp only [Act.put, List.getElem_toArray, List.getElem_cons_zero, List.getElem_cons_succ, List.setIfInBounds_toArray, List.set_cons_zero, List.set_cons_succ]
            clear hry62 hgy62 hvy62
            refine relistE #[true, true, true, true, true, true, true, true, true, true, true, true, true, true, true, true, true, true, true, true, true, true, true, true, false, false, false, false, false, false] (by kernel_rfl) ?_
            have KM := Ky62
            rw [← HMM.out] at KM V9y62 V14y62 V23y62
            obtain ⟨ga, cap, z3, hr3, hd3, hc3, hf3, hB3, hk3⟩ := keep_end KM hn lp lc rfl p9 p14 p23 c9 c14 c23 V9y62 V14y62 V23y62 q9 q14 q23
            rw [HMM.out] at hd3
            have ka : Below y62.heap.size y62 (y62.alloc (.cells #[.slice lp i lc, .slice p9 (i + 1) c9, .slice p14 (i + 2) c14, .slice p23 (i + 6) c23] 31)) := (Below.refl _ _).alloc (Nat.le_refl _) _
            have kb : Below (y62.alloc (.cells #[.slice lp i lc, .slice p9 (i + 1) c9, .slice p14 (i + 2) c14, .slice p23 (i + 6) c23] 31)).heap.size (y62.alloc (.cells #[.slice lp i lc, .slice p9 (i + 1) c9, .slice p14 (i + 2) c14, .slice p23 (i + 6) c23] 31)) ((y62.alloc (.cells #[.slice lp i lc, .slice p9 (i + 1) c9, .slice p14 (i + 2) c14, .slice p23 (i + 6) c23] 31)).alloc (.cells #[.slice (some ⟨y62.heap.size, 0, none⟩) 4 4] 124)) := (Below.refl _ _).alloc (Nat.le_refl _) _
            have Ka := Ky62.below ka
            have Kb := Ka.below kb
            refine eny_one (i := 24) (by kernel_rfl) ?_
            refine wpOp_val (v := .slice (some ⟨y62.heap.size, 0, none⟩) 4 4) (w' := (y62.alloc (.cells #[.slice lp i lc, .slice p9 (i + 1) c9, .slice p14 (i + 2) c14, .slice p23 (i + 6) c23] 31))) rfl rfl (by go_simp) ?_
            refine ⟨.inr (hSb Ka), ?_⟩
            simp only [Act.put, List.getElem_toArray, List.getElem_cons_zero, List.getElem_cons_succ, List.setIfInBounds_toArray, List.set_cons_zero, List.set_cons_succ]
            refine relistE #[true, true, true, true, true, true, true, true, true, true, true, true, true, true, true, true, true, true, true, true, true, true, true, true, true, false, false, false, false, false] (by kernel_rfl) ?_
            refine eny_one (i := 25) (by kernel_rfl) ?_
            refine wpOp_val (v := .slice (some ⟨(y62.alloc (.cells #[.slice lp i lc, .slice p9 (i + 1) c9, .slice p14 (i + 2) c14, .slice p23 (i + 6) c23] 31)).heap.size, 0, none⟩) 1 1) (w' := ((y62.alloc (.cells #[.slice lp i lc, .slice p9 (i + 1) c9, .slice p14 (i + 2) c14, .slice p23 (i + 6) c23] 31)).alloc (.cells #[.slice (some ⟨y62.heap.size, 0, none⟩) 4 4] 124))) rfl rfl (by go_simp) ?_
            refine ⟨.inr (hSb Kb), ?_⟩
            simp only [Act.put, List.getElem_toArray, List.getElem_cons_zero, List.getElem_cons_succ, List.setIfInBounds_toArray, List.set_cons_zero, List.set_cons_succ]
            refine relistE #[true, true, true, true, true, true, true, true, true, true, true, true, true, true, true, true, true, true, true, true, true, true, true, true, true, true, false, false, false, false] (by kernel_rfl) ?_
            refine eny_one (i := 26) (by kernel_rfl) ?_
            refine wpOp_app rfl rfl (.tmp 26) (.tmp 47) 51 51 rfl (.slice bp n bc) (.slice (some ⟨(y62.alloc (.cells #[.slice lp i lc, .slice p9 (i + 1) c9, .slice p14 (i + 2) c14, .slice p23 (i + 6) c23] 31)).heap.size, 0, none⟩) 1 1) rfl rfl hr3 ?_
            refine ⟨.inr ⟨hd3, hc3⟩, ?_⟩
            simp only [Act.put, List.getElem_toArray, List.getElem_cons_zero, List.getElem_cons_succ, List.setIfInBounds_toArray, List.set_cons_zero, List.set_cons_succ]
            refine relistE #[true, true, true, true, true, true, true, true, true, true, true, true, true, true, true, true, true, true, true, true, true, true, true, true, true, true, true, false, false, false] (by kernel_rfl) ?_
            refine eny_one (i := 27) (by kernel_rfl) ?_
            refine wpOp_val (v := .pointer (some ⟨gb, 0, none⟩)) (w' := z3) rfl rfl (by go_simp) ?_
            refine ⟨.inr ⟨hd3, hc3⟩, ?_⟩
            simp only [Act.put, List.getElem_toArray, List.getElem_cons_zero, List.getElem_cons_succ, List.setIfInBounds_toArray, List.set_cons_zero, List.set_cons_succ]
            refine relistE #[true, true, true, true, true, true, true, true, true, true, true, true, true, true, true, true, true, true, true, true, true, true, true, true, true, true, true, true, false, false] (by kernel_rfl) ?_
            refine eny_one (i := 28) (by kernel_rfl) ?_
            refine wpOp_val (v := .pointer (some ⟨gb, 0, none⟩)) (w' := z3) rfl rfl (by go_simp) ?_
            refine ⟨.inr ⟨hd3, hc3⟩, ?_⟩
            simp only [Act.put, List.getElem_toArray, List.getElem_cons_zero, List.getElem_cons_succ, List.setIfInBounds_toArray, List.set_cons_zero, List.set_cons_succ]
            refine relistE #[true, true, true, true, true, true, true, true, true, true, true, true, true, true, true, true, true, true, true, true, true, true, true, true, true, true, true, true, true, false] (by kernel_rfl) ?_
            refine eny_one (i := 29) (by kernel_rfl) ?_
            refine wpOp_skip (w' := z3.setCell ⟨gb, 0, none⟩ (.slice (some ⟨ga, 0, none⟩) (n + 1) cap)) rfl rfl (by go_simp) ?_
            refine ⟨.inl rfl, ?_⟩
            simp only [Act.put, List.getElem_toArray, List.getElem_cons_zero, List.getElem_cons_succ, List.setIfInBounds_toArray, List.set_cons_zero, List.set_cons_succ]
            refine wpAnyE_done (by kernel_rfl) ?_ _
            refine NoPanic.normal ?_
            have HB3 : Hid _ := hB3
            have HK3 : Hid _ := (kp_of bU rfl).trans hk3
            clear hr3 hc3 hf3 hB3 hk3 ka kb Ka Kb KM hd3
            generalize z3.setCell ⟨gb, 0, none⟩ (.slice (some ⟨ga, 0, none⟩) (n + 1) cap) = zz at *
            go_wp2_with fail
            first | exact ⟨rfl, _, results_none rfl _ _ _, rfl, ⟨_, HB3.out⟩, HK3.out⟩ | exact ⟨rfl, _, results_none rfl _ _ _, rfl, _, HB3.out, HK3.out⟩
        · refine wpOp_val (v := .slice (some ⟨y53.heap.size, 0, none⟩) 2 2) (w' := y53.alloc (.cells (A8 (repM 2 M)) 25)) rfl rfl (exec_bsl2 M hMl y53 _ _ (.tmp 33) (.tmp 34) rfl rfl rfl) ?_
          obtain ⟨Ky63, gy63⟩ := Ky53.build hMl 2
          have by63 : Below y53.heap.size y53 (y53.alloc (.cells (A8 (repM 2 M)) 25)) := (Below.refl _ _).alloc (Nat.le_refl _) _
          refine ⟨.inr (hSb Ky63), ?_⟩
          simp only [Act.put, List.getElem_toArray, List.getElem_cons_zero, List.getElem_cons_succ, List.setIfInBounds_toArray, List.set_cons_zero, List.set_cons_succ]
          have G22y63 := G22y53.kp (kp_of by63 rfl) (fun x => x)
          obtain ⟨y63, ey63⟩ : ∃ W, y53.alloc (.cells (A8 (repM 2 M)) 25) = W := ⟨_, rfl⟩
          obtain ⟨g13, egy63⟩ : ∃ gk, y53.heap.size = gk := ⟨_, rfl⟩
          rw [ey63] at Ky63 gy63 G22y63
          rw [egy63] at gy63
          have G13y63 := gy63
          rw [ey63, egy63]
          clear ey63 egy63 by63 gy63
          refine relistE #[true, true, true, true, true, true, true, true, false, false, true, true, true, true, false, true, true, true, true, true, true, true, true, false, false, false, false, false, false, false] (by kernel_rfl) ?_
          refine eny_one (i := 8) (by kernel_rfl) ?_
          refine wpOp_val (v := .slice (some ⟨y63.heap.size, 0, none⟩) 1 1) (w' := y63.alloc (.cells (A8 (repM 1 M)) 25)) rfl rfl (exec_bsl1 M hMl y63 _ _ (.tmp 29) rfl rfl) ?_
          obtain ⟨Ky64, gy64⟩ := Ky63.build hMl 1
          have by64 : Below y63.heap.size y63 (y63.alloc (.cells (A8 (repM 1 M)) 25)) := (Below.refl _ _).alloc (Nat.le_refl _) _
          refine ⟨.inr (hSb Ky64), ?_⟩
          simp only [Act.put, List.getElem_toArray, List.getElem_cons_zero, List.getElem_cons_succ, List.setIfInBounds_toArray, List.set_cons_zero, List.set_cons_succ]
          have G22y64 := G22y63.kp (kp_of by64 rfl) (fun x => x)
          have G13y64 := G13y63.kp (kp_of by64 rfl) (fun x => x)
          obtain ⟨y64, ey64⟩ : ∃ W, y63.alloc (.cells (A8 (repM 1 M)) 25) = W := ⟨_, rfl⟩
          obtain ⟨g8, egy64⟩ : ∃ gk, y63.heap.size = gk := ⟨_, rfl⟩
          rw [ey64] at Ky64 gy64 G22y64 G13y64
          rw [egy64] at gy64
          have G8y64 := gy64
          rw [ey64, egy64]
          clear ey64 egy64 by64 gy64
          refine relistE #[true, true, true, true, true, true, true, true, true, false, true, true, true, true, false, true, true, true, true, true, true, true, true, false, false, false, false, false, false, false] (by kernel_rfl) ?_
          refine eny_one (i := 9) (by kernel_rfl) ?_
          obtain ⟨p9, c9, y65, hry65, Ky65, V9y65, q9, hgy65, hvy65⟩ := Ky64.app hMl hm g8 1 (by omega) (by omega) G8y64
          refine wpOp_app rfl rfl (.tmp 28) (.tmp 30) 31 31 rfl (.slice lp i lc) (.slice (some ⟨g8, 0, none⟩) 1 1) rfl rfl hry65 ?_
          have G22y65 := hgy65 _ _ G22y64
          have G13y65 := hgy65 _ _ G13y64
          refine ⟨.inr (hSb Ky65), ?_⟩
          simp only [Act.put, List.getElem_toArray, List.getElem_cons_zero, List.getElem_cons_succ, List.setIfInBounds_toArray, List.set_cons_zero, List.set_cons_succ]
          clear hry65 hgy65 hvy65
          refine relistE #[true, true, true, true, true, true, true, true, true, true, true, true, true, true, false, true, true, true, true, true, true, true, true, false, false, false, false, false, false, false] (by kernel_rfl) ?_
          refine eny_one (i := 14) (by kernel_rfl) ?_
          obtain ⟨p14, c14, y66, hry66, Ky66, V14y66, q14, hgy66, hvy66⟩ := Ky65.app hMl hm g13 2 (by omega) (by omega) G13y65
          refine wpOp_app rfl rfl (.tmp 32) (.tmp 35) 31 31 rfl (.slice lp i lc) (.slice (some ⟨g13, 0, none⟩) 2 2) rfl rfl hry66 ?_
          have G22y66 := hgy66 _ _ G22y65
          have V9y66 := hvy66 _ _ (by omega) V9y65
          refine ⟨.inr (hSb Ky66), ?_⟩
          simp only [Act.put, List.getElem_toArray, List.getElem_cons_zero, List.getElem_cons_succ, List.setIfInBounds_toArray, List.set_cons_zero, List.set_cons_succ]
          clear hry66 hgy66 hvy66
          refine relistE #[true, true, true, true, true, true, true, true, true, true, true, true, true, true, true, true, true, true, true, true, true, true, true, false, false, false, false, false, false, false] (by kernel_rfl) ?_
          refine eny_one (i := 23) (by kernel_rfl) ?_
          obtain ⟨p23, c23, y67, hry67, Ky67, V23y67, q23, hgy67, hvy67⟩ := Ky66.app hMl hm g22 6 (by omega) (by omega) G22y66
          refine wpOp_app rfl rfl (.tmp 37) (.tmp 44) 31 31 rfl (.slice lp i lc) (.slice (some ⟨g22, 0, none⟩) 6 6) rfl rfl hry67 ?_
          have V9y67 := hvy67 _ _ (by omega) V9y66
          have V14y67 := hvy67 _ _ (by omega) V14y66
          refine ⟨.inr (hSb Ky67), ?_⟩
          simp only [Act.put, List.getElem_toArray, List.getElem_cons_zero, List.getElem_cons_succ, List.setIfInBounds_toArray, List.set_cons_zero, List.set_cons_succ]
          clear hry67 hgy67 hvy67
          refine relistE #[true, true, true, true, true, true, true, true, true, true, true, true, true, true, true, true, true, true, true, true, true, true, true, true, false, false, false, false, false, false] (by kernel_rfl) ?_
          have KM := Ky67
          rw [← HMM.out] at KM V9y67 V14y67 V23y67
          obtain ⟨ga, cap, z3, hr3, hd3, hc3, hf3, hB3, hk3⟩ := keep_end KM hn lp lc rfl p9 p14 p23 c9 c14 c23 V9y67 V14y67 V23y67 q9 q14 q23
          rw [HMM.out] at hd3
          have ka : Below y67.heap.size y67 (y67.alloc (.cells #[.slice lp i lc, .slice p9 (i + 1) c9, .slice p14 (i + 2) c14, .slice p23 (i + 6) c23] 31)) := (Below.refl _ _).alloc (Nat.le_refl _) _
          have kb : Below (y67.alloc (.cells #[.slice lp i lc, .slice p9 (i + 1) c9, .slice p14 (i + 2) c14, .slice p23 (i + 6) c23] 31)).heap.size (y67.alloc (.cells #[.slice lp i lc, .slice p9 (i + 1) c9, .slice p14 (i + 2) c14, .slice p23 (i + 6) c23] 31)) ((y67.alloc (.cells #[.slice lp i lc, .slice p9 (i + 1) c9, .slice p14 (i + 2) c14, .slice p23 (i + 6) c23] 31)).alloc (.cells #[.slice (some ⟨y67.heap.size, 0, none⟩) 4 4] 124)) := (Below.refl _ _).alloc (Nat.le_refl _) _
          have Ka := Ky67.below ka
          have Kb := Ka.below kb
          refine eny_one (i := 24) (by kernel_rfl) ?_
          refine wpOp_val (v := .slice (some ⟨y67.heap.size, 0, none⟩) 4 4) (w' := (y67.alloc (.cells #[.slice lp i lc, .slice p9 (i + 1) c9, .slice p14 (i + 2) c14, .slice p23 (i + 6) c23] 31))) rfl rfl (by go_simp) ?_
          refine ⟨.inr (hSb Ka), ?_⟩
          simp only [Act.put, List.getElem_toArray, List.getElem_cons_zero, List.getElem_cons_succ, List.setIfInBounds_toArray, List.set_cons_zero, List.set_cons_succ]
          refine relistE #[true, true, true, true, true, true, true, true, true, true, true, true, true, true, true, true, true, true, true, true, true, true, true, true, true, false, false, false, false, false] (by kernel_rfl) ?_
          refine eny_one (i := 25) (by kernel_rfl) ?_
          refine wpOp_val (v := .slice (some ⟨(y67.alloc (.cells #[.slice lp i lc, .slice p9 (i + 1) c9, .slice p14 (i + 2) c14, .slice p23 (i + 6) c23] 31)).heap.size, 0, none⟩) 1 1) (w' := ((y67.alloc (.cells #[.slice lp i lc, .slice p9 (i + 1) c9, .slice p14 (i + 2) c14, .slice p23 (i + 6) c23] 31)).alloc (.cells #[.slice (some ⟨y67.heap.size, 0, none⟩) 4 4] 124))) rfl rfl (by go_simp) ?_
          refine ⟨.inr (hSb Kb), ?_⟩
          simp only [Act.put, List.getElem_toArray, List.getElem_cons_zero, List.getElem_cons_succ, List.setIfInBounds_toArray, List.set_cons_zero, List.set_cons_succ]
          refine relistE #[true, true, true, true, true, true, true, true, true, true, true, true, true, true, true, true, true, true, true, true, true, true, true, true, true, true, false, false, false, false] (by kernel_rfl) ?_
          refine eny_one (i := 26) (by kernel_rfl) ?_
          refine wpOp_app rfl rfl (.tmp 26) (.tmp 47) 51 51 rfl (.slice bp n bc) (.slice (some ⟨(y67.alloc (.cells #[.slice lp i lc, .slice p9 (i + 1) c9, .slice p14 (i + 2) c14, .slice p23 (i + 6) c23] 31)).heap.size, 0, none⟩) 1 1) rfl rfl hr3 ?_
          refine ⟨.inr ⟨hd3, hc3⟩, ?_⟩
          simp only [Act.put, List.getElem_toArray, List.getElem_cons_zero, List.getElem_cons_succ, List.setIfInBounds_toArray, List.set_cons_zero, List.set_cons_succ]
          refine relistE #[true, true, true, true, true, true, true, true, true, true, true, true, true, true, true, true, true, true, true, true, true, true, true, true, true, true, true, false, false, false] (by kernel_rfl) ?_
          refine eny_one (i := 27) (by kernel_rfl) ?_
          refine wpOp_val (v := .pointer (some ⟨gb, 0, none⟩)) (w' := z3) rfl rfl (by go_simp) ?_
          refine ⟨.inr ⟨hd3, hc3⟩, ?_⟩
          simp only [Act.put, List.getElem_toArray, List.getElem_cons_zero, List.getElem_cons_succ, List.setIfInBounds_toArray, List.set_cons_zero, List.set_cons_succ]
          refine relistE #[true, true, true, true, true, true, true, true, true, true, true, true, true, true, true, true, true, true, true, true, true, true, true, true, true, true, true, true, false, false] (by kernel_rfl) ?_
          refine eny_one (i := 28) (by kernel_rfl) ?_
          refine wpOp_val (v := .pointer (some ⟨gb, 0, none⟩)) (w' := z3) rfl rfl (by go_simp) ?_
          refine ⟨.inr ⟨hd3, hc3⟩, ?_⟩
          simp only [Act.put, List.getElem_toArray, List.getElem_cons_zero, List.getElem_cons_succ, List.setIfInBounds_toArray, List.set_cons_zero, List.set_cons_succ]
          refine relistE #[true, true, true, true, true, true, true, true, true, true, true, true, true, true, true, true, true, true, true, true, true, true, true, true, true, true, true, true, true, false] (by kernel_rfl) ?_
          refine eny_one (i := 29) (by kernel_rfl) ?_
          refine wpOp_skip (w' := z3.setCell ⟨gb, 0, none⟩ (.slice (some ⟨ga, 0, none⟩) (n + 1) cap)) rfl rfl (by go_simp) ?_
          refine ⟨.inl rfl, ?_⟩
          simp only [Act.put, List.getElem_toArray, List.getElem_cons_zero, List.getElem_cons_succ, List.setIfInBounds_toArray, List.set_cons_zero, List.set_cons_succ]
          refine wpAnyE_done (by kernel_rfl) ?_ _
          refine NoPanic.normal ?_
          have HB3 : Hid _ := hB3
          have HK3 : Hid _ := (kp_of bU rfl).trans hk3
          clear hr3 hc3 hf3 hB3 hk3 ka kb Ka Kb KM hd3
          generalize z3.setCell ⟨gb, 0, none⟩ (.slice (some ⟨ga, 0, none⟩) (n + 1) cap) = zz at *
          go_wp2_with fail
          first | exact ⟨rfl, _, results_none rfl _ _ _, rfl, ⟨_, HB3.out⟩, HK3.out⟩ | exact ⟨rfl, _, results_none rfl _ _ _, rfl, _, HB3.out, HK3.out⟩
end Go.Proofs.YtcmjlhcpoajbkaaDoor
